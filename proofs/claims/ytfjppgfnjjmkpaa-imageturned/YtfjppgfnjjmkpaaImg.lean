/-
  Package image: symsStand.
-/
import Derived.Test.YtfjppgfnjjmkpaaImf
namespace Go.Proofs.Ytfjppgfnjjmkpaa
open Go.RowKit

def symV (p : Pt) (k : Nat) (s : ByteArray × Int) : Bool := newN ((p.ss.take k).map (·.1)) s.1 && (s.2 % 4 == 0) && decide (p.data.lo ≤ s.2) && decide (s.2 < p.data.hi)
def symsP (p : Pt) : Bool := idxAll p.ss (symV p)
def symsV (ps : List Pt) : Bool := ps.all symsP
theorem sy_one (s : ByteArray × Int) : (#[Value.string s.1, .int .u32 s.2] : Array Value).all (·.oneCell') = true := by simp [Value.oneCell']
set_option maxRecDepth 100000 in
set_option maxHeartbeats 2000000 in
theorem iSyms {w : World} {b off cap : Nat} {sa : Option Addr} {ps : List Pt} (hp : PartsAt w b off sa ps) (ho : ∀ p ∈ ps, PtOk p) (hfew : ps.length ≤ 1000) :
    Calls Try.prog 22 #[.slice sa ps.length cap] w fun e w' => e = .returned (.bool (symsV ps)) ∧ Below w.heap.size w w' := by
  have HP : Hid _ := hp
  have HO : Hid _ := ho
  have CK : Hid _ := @iKnow
  obtain ⟨fp, hfp⟩ := undPt
  obtain ⟨fs, hfs⟩ := undSy
  have HFP : Hid _ := hfp
  have HFS : Hid _ := hfs
  obtain ⟨RV, hRV⟩ : ∃ RV, RV = symsV ps := ⟨_, rfl⟩
  have HRV : Hid (RV = symsV ps) := hRV
  rw [← hRV]
  clear hp ho hfp hfs hRV
  generalize hln : ps.length = n at *
  have HLN : Hid (ps.length = n) := hln
  clear hln
  have hmk := known_made
  go_enter Try.func22, Try.ntmps22
  go_wp2_with fail
  go_loopw [10] (fun x wr => ∃ (k : Nat) (V : World), V = wr ∧ k ≤ n ∧ x = .int .i64 k ∧ Hid ((∀ (j : Nat) y, j < k → ps[j]? = some y → symsP y = true) ∧ Below w.heap.size w V)) (fun x _ => n - (intOf x).toNat)
  case atStart => exact ⟨0, _, rfl, Nat.zero_le _, rfl, fun j y hj => by omega, Below.refl _ _⟩
  case round =>
    obtain ⟨k, V, rfl, hk, rfl, hr⟩ := hrel
    by_cases hlt : k < n
    · obtain ⟨p, hx⟩ : ∃ p, ps[k]? = some p := ⟨_, List.getElem?_eq_getElem (by rw [HLN.out]; exact hlt)⟩
      have HX : Hid _ := hx
      have I1 : Hid _ := HP.out.below hr.out.2
      obtain ⟨ea, hb⟩ := I1.out.at' (I1.out.lt hx)
      subst ea
      have k0 : (0 : Int) ≤ (k : Int) := by omega
      have k1 : (k : Int) < (n : Int) := by omega
      have PO : Hid _ := HO.out p (List.mem_of_getElem? hx)
      have PA : Hid _ := I1.out.in' p (List.mem_of_getElem? hx)
      clear hb hx
      go_wp2_with (first | (refine wpList_mids (by rfl) 40 (.tmp 12) rfl b (off + k * 11) rfl p.cells _ (I1.out.row k p HX.out) HFP.out rfl (by rw [Pt.size]; exact infoPt) ?_) | (refine wpList_fill rfl 40 (.tmp 4) (.tmp 13) rfl rfl p.cells rfl 40 _ (by rw [Pt.size]; exact infoPt) (by rw [Pt.size]; rfl) (Pt.one p) ?_))
      intro V2 R2 b2
      have RR : Hid _ := R2
      have B2 : Hid _ := below_step hr.out.2 b2
      have PA2 : Hid _ := PA.out.below b2
      have V23 : Below V2.heap.size V2 (V2.alloc (.map #[] 0)) := (Below.refl _ _).alloc (Nat.le_refl _) _
      have V23h : Hid _ := V23
      have N0 : Hid _ := names_made V2
      have c10 : (V2.alloc (.map #[] 0)).cell? ⟨V.heap.size, 10, none⟩ = some (.slice p.sa p.sl p.sc) := (cells_of (kept_on R2 V23)).1 10 _ rfl
      have hnot : symsP p = false → RV = false := fun h => by rw [HRV.out]; exact all_not HX.out h
      have HNOT : Hid _ := hnot
      have hsl : p.sl ≤ 1000 := by rw [PA2.out.sl]; exact PO.out.sl
      clear b2 I1 R2 PA V23 hnot
      go_wp2_with fail
      go_loopw [18] (fun x wr => ∃ (q : Nat) (W : World), W = wr ∧ q ≤ p.sl ∧ x = .int .i64 q ∧ Hid ((∀ (j : Nat) s, j < q → p.ss[j]? = some s → symV p j s = true) ∧ Below V2.heap.size V2 W ∧ NamesIs W V2.heap.size q ((p.ss.take q).map (·.1)))) (fun x _ => p.sl - (intOf x).toNat)
      case atStart => exact ⟨0, _, rfl, Nat.zero_le _, rfl, fun j y hj => by omega, V23h.out, N0.out⟩
      case round =>
        clear c10 V23h N0
        obtain ⟨q, W, rfl, hq, rfl, hrq⟩ := hrel
        by_cases hql : q < p.sl
        · obtain ⟨s, hy⟩ : ∃ s, p.ss[q]? = some s := ⟨_, List.getElem?_eq_getElem (by rw [← PA2.out.sl]; exact hql)⟩
          have HY : Hid _ := hy
          obtain ⟨sb, soff, hsy⟩ := (PA2.out.below hrq.out.2.1).syms
          have hsa : p.sa = some ⟨sb, soff, none⟩ := (hsy.sa (by rw [← PA2.out.sl]; omega)).1
          have RG : Hid _ := hsy.row q s hy
          have q0 : (0 : Int) ≤ (q : Int) := by omega
          have q1 : (q : Int) < (p.sl : Int) := by omega
          have SO : Hid _ := PO.out.ss s (List.mem_of_getElem? hy)
          have gW : Hid (V2.heap.size < W.heap.size) := names_lt hrq.out.2.2
          clear hsy hy
          rw [hsa]
          go_wp2_with (first | (refine wpList_mids (by rfl) 49 (.tmp 20) rfl sb (soff + q * 2) rfl #[.string s.1, .int .u32 s.2] _ RG.out HFS.out rfl infoSy ?_) | (refine wpList_fill rfl 49 (.tmp 7) (.tmp 21) rfl rfl #[.string s.1, .int .u32 s.2] rfl 49 _ infoSy rfl (sy_one s) ?_))
          intro W2 S2 d2
          have D2 : Hid _ := below_step hrq.out.2.1 d2
          have N2 : Hid _ := names_kept hrq.out.2.2 d2
          have SR : Hid _ := S2
          have c0 : W2.cell? ⟨W.heap.size, 0, none⟩ = some (.string s.1) := (cells_of S2).1 0 _ rfl
          clear d2 S2
          go_wp2_with fail
          refine (CK.out N2.out s.1 SO.out.1 (by omega)).mono ?_
          rintro e W3 ⟨rfl, g3, n3⟩
          have D3 : Hid (Below V2.heap.size V2 W3) := below_grown D2.out g3 D2.out.size (Nat.le_refl _)
          have c1 : W3.cell? ⟨W.heap.size, 1, none⟩ = some (.int .u32 s.2) := (cells_of (kept_grown SR.out g3 (by have := gW.out; omega))).1 1 _ rfl
          have RR3 := kept_on RR.out D3.out
          have c5 : W3.cell? ⟨V.heap.size, 5, none⟩ = some (.int .u32 p.data.lo) := (cells_of RR3).1 5 _ rfl
          have c6 : W3.cell? ⟨V.heap.size, 6, none⟩ = some (.int .u32 p.data.hi) := (cells_of RR3).1 6 _ rfl
          have N3 : Hid _ := n3
          have hnot : symV p q s = false → symsP p = false := fun h => idx_not HY.out h
          have HN2 : Hid _ := hnot
          have s0 : 0 ≤ s.2 := SO.out.2.1
          have t4 : s.2.tmod 4 = s.2 % 4 := Int.tmod_eq_emod_of_nonneg s0
          clear g3 n3 hnot D2 N2 SR c0 RR3
          cases h1 : newN ((p.ss.take q).map (·.1)) s.1
          · have hv : RV = false := HNOT.out (HN2.out (by unfold symV; rw [h1]; rfl))
            clear HRV HNOT
            subst hv
            go_wp2_with fail
            go_ret
            exact ⟨rfl, below_step B2.out D3.out⟩
          · have N4 : Hid _ := N3.out h1
            have H1 : Hid _ := h1
            clear h1 N3
            by_cases h2 : s.2 % 4 = 0
            · by_cases h3 : p.data.lo ≤ s.2
              · by_cases h4 : s.2 < p.data.hi
                · have hyes : symV p q s = true := by
                    unfold symV
                    rw [H1.out, h2, decide_eq_true h3, decide_eq_true h4]
                    rfl
                  have HYES : Hid _ := hyes
                  have e3 : ¬ s.2 < p.data.lo := by omega
                  have e4 : ¬ p.data.hi ≤ s.2 := by omega
                  clear hyes
                  go_wp2_with fail
                  exact ⟨⟨q + 1, _, rfl, by omega, by go_num, fun j s' hj hs' => by
                    by_cases hj2 : j < q
                    · exact hrq.out.1 j s' hj2 hs'
                    · have : j = q := by omega
                      subst this
                      rw [HY.out] at hs'
                      cases hs'
                      exact HYES.out, D3.out, by rw [take_next HY.out]; exact N4.out⟩, by simp [intOf]; omega⟩
                · have hv : RV = false := HNOT.out (HN2.out (by unfold symV; rw [decide_eq_false h4, Bool.and_false]))
                  have e3 : ¬ s.2 < p.data.lo := by omega
                  have e4 : p.data.hi ≤ s.2 := by omega
                  clear HRV HNOT
                  subst hv
                  go_wp2_with fail
                  go_ret
                  exact ⟨rfl, below_step B2.out D3.out⟩
              · have hv : RV = false := HNOT.out (HN2.out (by unfold symV; rw [decide_eq_false h3, Bool.and_false, Bool.false_and]))
                have e3 : s.2 < p.data.lo := by omega
                clear HRV HNOT
                subst hv
                go_wp2_with fail
                go_ret
                exact ⟨rfl, below_step B2.out D3.out⟩
            · have hb2 : (s.2 % 4 == 0) = false := by simp [h2]
              have hv : RV = false := HNOT.out (HN2.out (by unfold symV; rw [hb2, Bool.and_false, Bool.false_and, Bool.false_and]))
              have hb3 : (s.2 % 4 != 0) = true := by simp [h2]
              clear HRV HNOT
              subst hv
              go_wp2_with fail
              go_ret
              exact ⟨rfl, below_step B2.out D3.out⟩
        · have q1 : ¬ (q : Int) < (p.sl : Int) := by omega
          have hall : symsP p = true := idx_yes (fun j s hj => hrq.out.1 j s (by have := (List.getElem?_eq_some_iff.1 hj).1; rw [← PA2.out.sl] at this; omega) hj)
          have HALL : Hid _ := hall
          clear hall
          go_wp2_with fail
          exact ⟨⟨k + 1, _, rfl, hlt, by go_num, fun j y hj hy => by
            by_cases hj2 : j < k
            · exact hr.out.1 j y hj2 hy
            · have : j = k := by omega
              subst this
              rw [HX.out] at hy
              cases hy
              exact HALL.out, below_step B2.out hrq.out.2.1⟩, by simp [intOf]; omega⟩
    · have k1 : ¬ (k : Int) < (n : Int) := by omega
      have hv : RV = true := by
        rw [HRV.out]
        exact all_yes (fun j y hy => hr.out.1 j y (by have := (List.getElem?_eq_some_iff.1 hy).1; rw [HLN.out] at this; omega) hy)
      clear HRV
      subst hv
      go_wp2_with fail
      go_ret
      exact ⟨rfl, hr.out.2⟩
end Go.Proofs.Ytfjppgfnjjmkpaa
