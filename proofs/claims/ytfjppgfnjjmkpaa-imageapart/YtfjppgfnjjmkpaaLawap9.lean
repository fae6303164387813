/-
  ImageApart.
-/
import Derived.Test.YtfjppgfnjjmkpaaImpu
import Derived.Test.YtfjppgfnjjmkpaaImz
import Derived.Deep.OwnRows
namespace Go.Proofs.Ytfjppgfnjjmkpaa
open Go.RowKit Go.Sort

def intsG (n : Nat) (f : Nat → Int) : Array Value := ((List.range n).map fun i => Value.int .i64 (f i)).toArray
theorem intsG_size (n : Nat) (f : Nat → Int) : (intsG n f).size = n := by simp [intsG]
theorem intsG_at (n : Nat) (f : Nat → Int) (i : Nat) (h : i < n) : (intsG n f)[i]? = some (.int .i64 (f i)) := by simp [intsG, h]
theorem intsG_put (n : Nat) (f : Nat → Int) (i : Nat) (x : Int) : (intsG n f).setIfInBounds i (.int .i64 x) = intsG n (fun b => if b = i then x else f b) := by
  apply Array.ext_getElem?
  intro j
  rw [Array.getElem?_setIfInBounds, intsG_size]
  by_cases hj : j < n
  · by_cases e : i = j
    · subst e
      rw [if_pos rfl, if_pos hj, intsG_at n _ i hj, if_pos rfl]
    · rw [if_neg e, intsG_at n _ j hj, intsG_at n _ j hj, if_neg (fun h => e h.symm)]
  · rw [Array.getElem?_eq_none (by rw [intsG_size]; omega : (intsG n (fun b => if b = i then x else f b)).size ≤ j)]
    split
    · rw [if_neg (by omega)]
    · rw [Array.getElem?_eq_none (by rw [intsG_size]; omega)]
theorem intsG_made (n : Nat) : madeCells #[.int .i64 0] n = intsG n (fun _ => 0) := by
  apply Array.ext_getElem?
  intro j
  by_cases hj : j < n
  · rw [intsG_at n _ j hj, ← Array.getElem?_toList, toList_madeCells_one]
    simp [hj]
  · rw [Array.getElem?_eq_none (by rw [size_madeCells]; omega), Array.getElem?_eq_none (by rw [intsG_size]; omega)]
theorem makeG (n : Nat) (h : n ≤ 1000000) (w : World) : (Instr.makeSlice 51 (.int .i64 (n : Int)) (.int .i64 (n : Int))).run Try.prog w = .ok (.slice (some ⟨w.heap.size, 0, none⟩) n n) (w.alloc (.cells (intsG n (fun _ => 0)) 3)) := by
  rw [← intsG_made]
  exact run_make_row' (P := Try.prog) 51 3 (.int .i64 0) 8 Try.underlying51 (by kernel_rfl) rfl .i64 .i64 n (by omega) (by omega) w
/-- The world: the image's box, who owns each byte. -/
structure Ap (w V : World) (i : Im) (ob N : Nat) (f : Nat → Int) : Prop where
  low : Below w.heap.size w V
  box : V.heap[w.heap.size]? = some (.cells i.cells 28)
  own : V.heap[ob]? = some (.cells (intsG N f) 3)
  lt : w.heap.size < ob
theorem Ap.below {w V V' : World} {i : Im} {ob N : Nat} {f : Nat → Int} (h : Ap w V i ob N f) (hb : Below V.heap.size V V') : Ap w V' i ob N f := ⟨below_step h.low hb, kept_on h.box hb, kept_on h.own hb, h.lt⟩
theorem Ap.put {w V : World} {i : Im} {ob N c : Nat} {f : Nat → Int} (h : Ap w V i ob N f) (x : Int) : Ap w (V.setCell ⟨ob, c, none⟩ (.int .i64 x)) i ob N (fun b => if b = c then x else f b) := by
  refine ⟨h.low.setCell (by have := h.lt; show w.heap.size ≤ ob; omega) _, ?_, ?_, h.lt⟩
  · rw [Below.heap_setCell _ _ _ _ (show w.heap.size ≠ ob by have := h.lt; omega)]
    exact h.box
  · rw [heap_setCell_at _ h.own, intsG_put]
theorem rrow_regrow (l : List Rg) : rrow l = regrow l := rfl
theorem own_regs' {p : Pt} : regrow [p.code, p.data] ++ rrow p.ks = regrow (ownR p) := by
  rw [rrow_regrow, ← regrow_app]
  rfl
theorem ownR_u {p : Pt} (h : PtOk p) {r : Rg} (hr : r ∈ ownR p) : RgU r := by
  unfold ownR at hr
  rcases List.mem_append.1 hr with h1 | h1
  · rcases List.mem_cons.1 h1 with rfl | h2
    · exact h.code
    · have : r = p.data := by simpa using h2
      rw [this]
      exact h.data
  · exact h.ks r h1
def noP : Pt := ⟨⟨#[]⟩, ⟨0, 0, false, false⟩, ⟨0, 0, false, false⟩, none, 0, 0, none, 0, 0, [], []⟩
set_option maxRecDepth 100000 in
set_option maxHeartbeats 20000000 in
theorem imageApart (i : Im) (w : World) (h : ImIn w i) : Calls Try.prog 6 #[.agg i.cells] w fun e w' => e = .returned (.bool true) ∧ Below w.heap.size w w' := by
  have HI : Hid _ := h
  obtain ⟨b, off, hps⟩ := h.ps
  have HP : Hid _ := hps
  obtain ⟨fi, hfi⟩ := undIm
  have HFI : Hid _ := hfi
  have A1 : Below w.heap.size w (w.alloc (.cells i.cells 28)) := (Below.refl _ _).alloc (Nat.le_refl _) _
  have L1 : Hid _ := A1
  have B1 : Hid _ := alloc_at w (.cells i.cells 28)
  have hin : ImIn (w.alloc (.cells i.cells 28)) i := ⟨⟨b, off, hps.below A1⟩, h.wl, h.kern, h.keys, h.few, fun p hp => ⟨(h.all p hp).at'.below A1, (h.all p hp).nm, (h.all p hp).code, (h.all p hp).data, (h.all p hp).ks, (h.all p hp).ss, (h.all p hp).kl, (h.all p hp).sl⟩⟩
  have CH : Hid _ := iHeavy hin
  clear hin hps h hfi A1
  go_enter Try.func6, Try.ntmps6
  go_wp2_with (first | (refine wpList_mids (by rfl) 28 (.tmp 1) rfl w.heap.size 0 rfl i.cells _ (im_rng B1.out) HFI.out rfl (by rw [Im.size]; exact infoIm) ?_))
  refine Calls.mono CH.out ?_
  rintro e W ⟨rfl, b2⟩
  have L2 : Hid _ := below_step L1.out b2
  have B2 : Hid _ := kept_on B1.out b2
  clear b2 L1 B1 CH
  cases hh : heavyV i
  rotate_left
  · go_wp2_with fail
    refine (iawake _).mono ?_
    rintro e W2 ⟨rfl, b3⟩
    go_wp2
    go_ret
    exact ⟨rfl, below_step L2.out b3⟩
  obtain ⟨hok, h100, hall⟩ := light_ok HI.out hh
  have HO : Hid _ := hok
  have HA : Hid _ := hall
  have CP : Hid _ := iCheck (HP.out.below L2.out) hok h100
  have hw2 : i.wl ≤ 2000 := by
    unfold heavyV at hh
    simp only [Bool.or_eq_false_iff, decide_eq_false_iff_not] at hh
    omega
  have HW2 : Hid (i.wl ≤ 2000) := hw2
  have H12 : Hid (i.ps.length ≤ 100) := h100
  have HK : Hid (∀ p ∈ i.ps, p.kl ≤ 12) := fun p hp => by
    unfold heavyV at hh
    simp only [Bool.or_eq_false_iff, List.any_eq_false] at hh
    have := hh.2 p hp
    unfold heavyP at this
    simp only [Bool.or_eq_true, decide_eq_true_eq, not_or] at this
    omega
  clear hok h100 hall hh hw2
  obtain ⟨cv, hcv⟩ : ∃ cv, cv = checkV i := ⟨_, rfl⟩
  rw [← hcv] at CP
  have HCV : Hid (checkV i = cv) := hcv.symm
  clear hcv
  go_wp2_with (first | (refine wpList_mids (by rfl) 28 (.tmp 1) rfl w.heap.size 0 rfl i.cells _ (im_rng B2.out) HFI.out rfl (by rw [Im.size]; exact infoIm) ?_))
  refine Calls.mono CP.out ?_
  rintro e W3 ⟨rfl, b3⟩
  have L3 : Hid _ := below_step L2.out b3
  have B3 : Hid _ := kept_on B2.out b3
  clear b3 CP L2 B2
  by_cases hc0 : cv = 0
  rotate_left
  · have hb0 : (cv != 0) = true := by simp [hc0]
    go_wp2_with fail
    refine (iawake _).mono ?_
    rintro e W4 ⟨rfl, b4⟩
    go_wp2
    go_ret
    exact ⟨rfl, below_step L3.out b4⟩
  subst hc0
  have MY : Hid _ := may_of HCV.out
  have c0 : W3.cell? ⟨w.heap.size, 0, none⟩ = some (.slice i.wa i.wl i.wc) := (cells_of B3.out).1 0 _ rfl
  obtain ⟨N, hN⟩ : ∃ N : Nat, 4 * (i.wl : Int) = (N : Int) := ⟨4 * i.wl, by omega⟩
  have HN : Hid (4 * (i.wl : Int) = (N : Int)) := hN
  have hN8 : (N : Int) ≤ 8000 := by have := HW2.out; omega
  have hwl : (i.wl : Int) ≤ 2000 := by have := HW2.out; omega
  have n8 : ¬ 8000 < (N : Int) := by omega
  have hmk := makeG N (by omega)
  have A5 : Below W3.heap.size W3 (W3.alloc (.cells (intsG N (fun _ => 0)) 3)) := (Below.refl _ _).alloc (Nat.le_refl _) _
  have ws : w.heap.size < W3.heap.size := (Array.getElem?_eq_some_iff.1 B3.out).1
  have AP0 : Hid (Ap w (W3.alloc (.cells (intsG N (fun _ => 0)) 3)) i W3.heap.size N (fun _ => 0)) := ⟨below_step L3.out A5, kept_on B3.out A5, alloc_at _ _, ws⟩
  obtain ⟨n, hn⟩ : ∃ n, n = i.ps.length := ⟨_, rfl⟩
  have HLN : Hid (i.ps.length = n) := hn.symm
  have n100 : n ≤ 100 := by have := H12.out; omega
  clear A5 ws hn L3 B3
  go_wp2_with fail
  clear c0 hN hmk n8 hwl
  generalize W3.heap.size = ob at *
  go_loopw [5] (fun x wr => ∃ (k : Nat) (f : Nat → Int) (V : World), V = wr ∧ k ≤ n ∧ x = .int .i64 k ∧ Hid (Ap w V i ob N f ∧ Taken i k noP 0 0 0 f)) (fun x _ => n - (intOf x).toNat)
  case atStart => exact ⟨0, _, _, rfl, Nat.zero_le _, rfl, AP0.out, ⟨fun b hb => absurd rfl hb⟩⟩
  case round =>
    obtain ⟨k, f, V, rfl, hk, rfl, hr⟩ := hrel
    have c9 : V.cell? ⟨w.heap.size, 9, none⟩ = some (.slice i.pa n i.pc) := by rw [← HLN.out]; exact (cells_of hr.out.1.box).1 9 _ rfl
    by_cases hlt : k < n
    · obtain ⟨p, hx⟩ : ∃ p, i.ps[k]? = some p := ⟨_, List.getElem?_eq_getElem (by rw [HLN.out]; exact hlt)⟩
      have HX : Hid _ := hx
      have I1 : Hid _ := HP.out.below hr.out.1.low
      obtain ⟨ea, _⟩ := I1.out.at' (I1.out.lt hx)
      rw [ea] at c9
      have k0 : (0 : Int) ≤ (k : Int) := by omega
      have k1 : (k : Int) < (n : Int) := by omega
      have PA : Hid _ := I1.out.in' p (List.mem_of_getElem? hx)
      have PO : Hid _ := (HA.out p (List.mem_of_getElem? hx)).2
      have hkl : p.kl ≤ 12 := HK.out p (List.mem_of_getElem? hx)
      obtain ⟨fp, hfp⟩ := undPt
      have HFP : Hid _ := hfp
      obtain ⟨fr, hfr⟩ := undRg
      have HFR : Hid _ := hfr
      clear hx ea hfp hfr
      go_wp2_with (first | (refine wpList_mids (by rfl) 40 (.tmp 37) rfl b (off + k * 11) rfl p.cells _ (I1.out.row k p HX.out) HFP.out rfl (by rw [Pt.size]; exact infoPt) ?_) | (refine wpList_fill rfl 40 (.tmp 6) (.tmp 38) rfl rfl p.cells rfl 40 _ (by rw [Pt.size]; exact infoPt) (by rw [Pt.size]; rfl) (Pt.one p) ?_))
      intro V2 R2 b2
      have RR : Hid _ := R2
      have AP2 : Hid _ := hr.out.1.below b2
      have TK : Hid _ := hr.out.2
      have PA2 : Hid _ := PA.out.below b2
      have e9 : V2.cell? ⟨V.heap.size, 9, none⟩ = some (.slice p.ka p.kl p.kc) := (cells_of R2).1 9 _ rfl
      obtain ⟨V3, hV3⟩ : ∃ V3, V3 = V2.alloc (.cells #[.int .u32 p.code.lo, .int .u32 p.code.hi, .bool p.code.x, .bool p.code.w, .int .u32 p.data.lo, .int .u32 p.data.hi, .bool p.data.x, .bool p.data.w] 25) := ⟨_, rfl⟩
      have b3 : Below V2.heap.size V2 V3 := by rw [hV3]; exact (Below.refl _ _).alloc (Nat.le_refl _) _
      have n3 : V3.heap[V2.heap.size]? = some (.cells #[.int .u32 p.code.lo, .int .u32 p.code.hi, .bool p.code.x, .bool p.code.w, .int .u32 p.data.lo, .int .u32 p.data.hi, .bool p.data.x, .bool p.data.w] 25) := by rw [hV3]; exact alloc_at _ _
      have e93 : V3.cell? ⟨V.heap.size, 9, none⟩ = some (.slice p.ka p.kl p.kc) := (cells_of (kept_on R2 b3)).1 9 _ rfl
      have o3 : V3.ownsRow V2.heap.size 25 4 (.slice (some ⟨V2.heap.size, 0, none⟩) 2 2) 2 (regrow [p.code, p.data]) := ⟨rfl, .inr ⟨V2.heap.size, 2, _, rfl, Nat.le_refl _, n3, Nat.le_refl _, by unfold maxLen; omega, rfl, rfl⟩⟩
      obtain ⟨kb, koff, hkr⟩ := (PA2.out.below b3).keys
      obtain ⟨v', W4, hrun, ho, hg⟩ := run_append_regs 37 V2.heap.size (.slice (some ⟨V2.heap.size, 0, none⟩) 2 2) 2 _ o3 (by have := b3.size; omega) hkr p.kl p.kc PA2.out.kl (by omega)
      rw [own_regs'] at ho
      obtain ⟨L, hL⟩ : ∃ L, L = 2 + p.kl := ⟨_, rfl⟩
      rw [← hL] at ho
      have hLl : L = (ownR p).length := by rw [hL, PA2.out.kl]; unfold ownR; simp; omega
      have HLL : Hid _ := hLl
      have b4 : Below V2.heap.size V2 W4 := below_grown b3 hg b3.size (Nat.le_refl _)
      obtain ⟨_, ⟨_, hz⟩ | ⟨g2, cap2, cur, rfl, hg2, hcur, _, _, _, htk⟩⟩ := id ho
      · omega
      have AP4 : Hid _ := AP2.out.below b4
      have HCU : Hid (W4.heap[g2]? = some (.cells cur 25)) := hcur
      have HRO : Hid (∀ (j : Nat) (r : Rg), (ownR p)[j]? = some r → ∀ (q : Nat) (u : Value), (kcell r)[q]? = some u → cur[j * 4 + q]? = some u) := fun j r hj q u hu => by
        have hts := regrow_kc (ownR p) j r q u hj hu
        rw [← htk, List.getElem?_take] at hts
        split at hts
        · rw [← Array.getElem?_toList]
          exact hts
        · cases hts
      have oV2 : ob < V2.heap.size := (Array.getElem?_eq_some_iff.1 AP2.out.own).1
      have HGO : Hid (g2 ≠ ob) := by show g2 ≠ ob; omega
      have HR : Hid _ := hrun
      have HV3 : Hid _ := hV3
      have L14 : L ≤ 14 := by omega
      clear b2 R2 PA I1 b3 n3 o3 hkr hrun ho hg hLl b4 hcur htk oV2 hV3 hg2
      go_wp2_with (first | (refine wpList_mids (by rfl) 25 (.tmp 39) rfl V.heap.size 1 rfl #[.int .u32 p.code.lo, .int .u32 p.code.hi, .bool p.code.x, .bool p.code.w] _ (pt_code RR.out) HFR.out rfl infoRg ?_) | (refine wpList_mids (by rfl) 25 (.tmp 41) rfl V.heap.size 5 rfl #[.int .u32 p.data.lo, .int .u32 p.data.hi, .bool p.data.x, .bool p.data.w] _ (pt_data RR.out) HFR.out rfl infoRg ?_) | (refine wp_world HV3.out ?_) | (refine wp_app rfl rfl rfl rfl HR.out ?_))
      rw [← hL]
      clear hL e9 e93 RR AP2 PA2
      go_loopw [8] (fun x wr => ∃ (j : Nat) (f2 : Nat → Int) (U : World), U = wr ∧ j ≤ L ∧ x = .int .i64 j ∧ Hid (Ap w U i ob N f2 ∧ Taken i k p j 0 0 f2 ∧ U.heap[g2]? = some (.cells cur 25))) (fun x _ => L - (intOf x).toNat)
      case atStart => exact ⟨0, _, _, rfl, Nat.zero_le _, rfl, AP4.out, TK.out.other p 0, HCU.out⟩
      case round =>
        obtain ⟨j, f2, U, rfl, hj, rfl, hu⟩ := hrel
        by_cases hjl : j < L
        · obtain ⟨r, hr2⟩ : ∃ r, (ownR p)[j]? = some r := ⟨_, List.getElem?_eq_getElem (by rw [← HLL.out]; exact hjl)⟩
          have HRJ : Hid _ := hr2
          have CL : Hid _ := cls_of MY.out HX.out hr2
          have hU := ownR_u PO.out (List.mem_of_getElem? hr2)
          have hch := cls_hi MY.out CL.out
          obtain ⟨lo, hlo⟩ : ∃ lo : Nat, r.lo = (lo : Int) := ⟨r.lo.toNat, by have := hU.1.1; omega⟩
          obtain ⟨hi, hhi⟩ : ∃ hi : Nat, r.hi = (hi : Int) := ⟨r.hi.toNat, by have := hU.2.1; omega⟩
          have HLO : Hid _ := hlo
          have HHI : Hid _ := hhi
          have hiN : (hi : Int) ≤ (N : Int) := by rw [← hhi, ← HN.out]; exact hch.2
          have hlh : lo ≤ hi := by have := hch.1; omega
          have HLH : Hid _ := hlh
          have r1 : U.cell? ⟨g2, j * 4 + 1, none⟩ = some (.int .u32 (hi : Int)) := by rw [← hhi]; exact (cells_of hu.out.2.2).1 _ _ (HRO.out j r hr2 1 _ rfl)
          have r0 : U.cell? ⟨g2, j * 4, none⟩ = some (.int .u32 (lo : Int)) := by rw [← hlo]; exact (cells_of hu.out.2.2).1 _ _ (HRO.out j r hr2 0 _ rfl)
          have d1 : ¬ (N : Int) < (hi : Int) := by omega
          have d2 : (lo : Int) ≤ 8000 := by omega
          have d3 : (hi : Int) ≤ 8000 := by omega
          have j0 : (0 : Int) ≤ (j : Int) := by omega
          have j1 : (j : Int) < (L : Int) := by omega
          clear hr2 hU hch hlo hhi hlh
          go_wp2_with fail
          clear r0 r1 d1
          go_loopw [9] (fun x wr => ∃ (c : Nat) (f3 : Nat → Int) (X : World), X = wr ∧ c ≤ hi ∧ x = .int .i64 c ∧ Hid (lo ≤ c ∧ Ap w X i ob N f3 ∧ Taken i k p j r.lo c f3 ∧ X.heap[g2]? = some (.cells cur 25))) (fun x _ => hi - (intOf x).toNat)
          case atStart => exact ⟨lo, f2, _, rfl, HLH.out, rfl, Nat.le_refl _, hu.out.1, by have := hu.out.2.1.lo (lo : Int); rw [HLO.out]; exact this, hu.out.2.2⟩
          case round =>
            obtain ⟨c, f3, X, rfl, hc, rfl, hx3⟩ := hrel
            have s1 : X.cell? ⟨g2, j * 4 + 1, none⟩ = some (.int .u32 (hi : Int)) := by rw [← HHI.out]; exact (cells_of hx3.out.2.2.2).1 _ _ (HRO.out j r HRJ.out 1 _ rfl)
            by_cases hch : c < hi
            · have f0 : f3 c = 0 := hx3.out.2.2.1.free MY.out HX.out HRJ.out (by rw [HLO.out]; have := hx3.out.1; omega) (by rw [HHI.out]; omega)
              have co : X.cell? ⟨ob, c, none⟩ = some (.int .i64 0) := by
                rw [(cells_of hx3.out.2.1.own).1 c _ (intsG_at N f3 c (by omega)), f0]
              have fo : X.frozen? ⟨ob, c, none⟩ = false := (cells_of hx3.out.2.1.own).2.1 c
              have HE : Hid (lo ≤ c + 1 ∧ Ap w (X.setCell ⟨ob, c, none⟩ (.int .i64 ((k : Int) + 1))) i ob N (fun b => if b = c then (k : Int) + 1 else f3 b) ∧ Taken i k p j r.lo ((c + 1 : Nat) : Int) (fun b => if b = c then (k : Int) + 1 else f3 b) ∧ (X.setCell ⟨ob, c, none⟩ (.int .i64 ((k : Int) + 1))).heap[g2]? = some (.cells cur 25)) := by
                refine ⟨by have := hx3.out.1; omega, hx3.out.2.1.put _, ?_, ?_⟩
                · have := hx3.out.2.2.1.put (x := (k : Int) + 1) (by rw [HLO.out]; have := hx3.out.1; omega)
                  rw [show ((c + 1 : Nat) : Int) = (c : Int) + 1 by omega]
                  exact this
                · rw [Below.heap_setCell _ _ _ _ (show g2 ≠ ob from HGO.out)]
                  exact hx3.out.2.2.2
              have c0' : (0 : Int) ≤ (c : Int) := by omega
              have c1' : (c : Int) < (hi : Int) := by omega
              have c2' : (c : Int) < (N : Int) := by omega
              clear f0
              go_wp2_with fail
              exact ⟨⟨c + 1, _, _, rfl, by omega, by go_num, HE⟩, by simp [intOf]; omega⟩
            have hce : c = hi := by omega
            subst hce
            have c1' : ¬ (c : Int) < (c : Int) := by omega
            have HE : Hid (Ap w X i ob N f3 ∧ Taken i k p (j + 1) 0 0 f3 ∧ X.heap[g2]? = some (.cells cur 25)) := ⟨hx3.out.2.1, hx3.out.2.2.1.next HRJ.out (.inl (by rw [HHI.out]; omega)) 0, hx3.out.2.2.2⟩
            go_wp2_with fail
            exact ⟨⟨j + 1, _, _, rfl, by omega, by go_num, HE⟩, by simp [intOf]; omega⟩
        have j1 : ¬ (j : Int) < (L : Int) := by omega
        have HE : Hid (Ap w U i ob N f2 ∧ Taken i (k + 1) noP 0 0 0 f2) := ⟨hu.out.1, hu.out.2.1.part HX.out noP 0⟩
        go_wp2_with fail
        exact ⟨⟨k + 1, _, _, rfl, hlt, by go_num, HE⟩, by simp [intOf]; omega⟩
    have k1 : ¬ (k : Int) < (n : Int) := by omega
    have hUk := HO.out.kern
    obtain ⟨lo, hlo⟩ : ∃ lo : Nat, i.kern.lo = (lo : Int) := ⟨i.kern.lo.toNat, by have := hUk.1.1; omega⟩
    obtain ⟨hi, hhi⟩ : ∃ hi : Nat, i.kern.hi = (hi : Int) := ⟨i.kern.hi.toNat, by have := hUk.2.1; omega⟩
    have c1 : V.cell? ⟨w.heap.size, 1, none⟩ = some (.int .u32 (lo : Int)) := by rw [← hlo]; exact (cells_of hr.out.1.box).1 1 _ rfl
    have c2 : V.cell? ⟨w.heap.size, 2, none⟩ = some (.int .u32 (hi : Int)) := by rw [← hhi]; exact (cells_of hr.out.1.box).1 2 _ rfl
    have l1 : (lo : Int) < 4294967296 := by rw [← hlo]; exact hUk.1.2
    have l2 : (hi : Int) < 4294967296 := by rw [← hhi]; exact hUk.2.2
    have HLO : Hid _ := hlo
    have HHI : Hid _ := hhi
    clear hUk hlo hhi
    go_wp2_with fail
    go_loopw [10] (fun x wr => ∃ (c : Nat), wr = V ∧ x = .int .i64 c ∧ c < 4294967296 ∧ Hid (lo ≤ c)) (fun x _ => 4294967296 - (intOf x).toNat)
    case atStart => exact ⟨lo, rfl, rfl, by omega, Nat.le_refl _⟩
    case round =>
      obtain ⟨c, rfl, rfl, hc4, hlc⟩ := hrel
      by_cases hch : c < hi
      · by_cases hcN : c < N
        · have f0 : f c = 0 := hr.out.2.kern MY.out ⟨by rw [HLO.out]; have := hlc.out; omega, by rw [HHI.out]; omega⟩
          have co : wr.cell? ⟨ob, c, none⟩ = some (.int .i64 0) := by
            rw [(cells_of hr.out.1.own).1 c _ (intsG_at N f c hcN), f0]
          have c0' : (0 : Int) ≤ (c : Int) := by omega
          have c1' : (c : Int) < (hi : Int) := by omega
          have c2' : (c : Int) < (N : Int) := by omega
          have HE : Hid (lo ≤ c + 1) := by have := hlc.out; show lo ≤ c + 1; omega
          clear f0
          go_wp2_with fail
          exact ⟨⟨c + 1, trivial, by go_num, by omega, HE⟩, by simp [intOf]; omega⟩
        · have c1' : (c : Int) < (hi : Int) := by omega
          have c2' : ¬ (c : Int) < (N : Int) := by omega
          go_wp2_with fail
          refine (iawake _).mono ?_
          rintro e W6 ⟨rfl, b6⟩
          go_wp2
          go_ret
          exact ⟨rfl, below_step hr.out.1.low b6⟩
      · have c1' : ¬ (c : Int) < (hi : Int) := by omega
        go_wp2_with fail
        refine (iawake _).mono ?_
        rintro e W6 ⟨rfl, b6⟩
        go_wp2
        go_ret
        exact ⟨rfl, below_step hr.out.1.low b6⟩
end Go.Proofs.Ytfjppgfnjjmkpaa
