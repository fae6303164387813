/-
  Package image: partsStand.
-/
import Derived.Test.YtfjppgfnjjmkpaaIme
namespace Go.Proofs.Ytfjppgfnjjmkpaa
open Go.RowKit

def idxAll {α : Type} (l : List α) (f : Nat → α → Bool) : Bool := (List.range l.length).all fun k => match l[k]? with | some x => f k x | none => true
theorem idx_not {α : Type} {l : List α} {f : Nat → α → Bool} {k : Nat} {x : α} (hx : l[k]? = some x) (h : f k x = false) : idxAll l f = false := by
  unfold idxAll
  rw [List.all_eq_false]
  exact ⟨k, List.mem_range.2 (List.getElem?_eq_some_iff.1 hx).1, by rw [hx]; simp [h]⟩
theorem idx_yes {α : Type} {l : List α} {f : Nat → α → Bool} (h : ∀ (k : Nat) x, l[k]? = some x → f k x = true) : idxAll l f = true := by
  unfold idxAll
  rw [List.all_eq_true]
  intro k _
  cases hx : l[k]? with
  | none => rfl
  | some x => exact h k x hx
theorem idx_at {α : Type} {l : List α} {f : Nat → α → Bool} (h : idxAll l f = true) {k : Nat} {x : α} (hx : l[k]? = some x) : f k x = true := by
  unfold idxAll at h
  have := List.all_eq_true.1 h k (List.mem_range.2 (List.getElem?_eq_some_iff.1 hx).1)
  rw [hx] at this
  exact this
theorem take_next {α β : Type} {l : List α} {f : α → β} {k : Nat} {x : α} (hx : l[k]? = some x) : (l.take (k + 1)).map f = (l.take k).map f ++ [f x] := by
  obtain ⟨h, e⟩ := List.getElem?_eq_some_iff.1 hx
  rw [List.take_succ_eq_append_getElem h, List.map_append, e]
  rfl
def partsV (ps : List Pt) : Bool := decide (1 ≤ ps.length) && decide (ps.length ≤ 8) && idxAll ps fun k p => newN ((ps.take k).map Pt.name) p.name && !(isEmptyV p.code)
theorem known_made (w : World) : (Instr.makeMap 66 none).run Try.prog w = .ok (.map (some w.heap.size)) (w.alloc (.map #[] 0)) := by kernel_rfl
theorem kept_grown {w w' : World} {g b : Nat} {ob : Obj} (h : w.heap[b]? = some ob) (hg : w.grownBy w' (some g)) (hb : b ≠ g) : w'.heap[b]? = some ob := by
  rw [hg.block b (Array.getElem?_eq_some_iff.1 h).1 (fun e => by cases e; exact hb rfl)]
  exact h
set_option maxRecDepth 100000 in
set_option maxHeartbeats 2000000 in
theorem iParts {w : World} {b off cap : Nat} {sa : Option Addr} {ps : List Pt} (hp : PartsAt w b off sa ps) (ho : ∀ p ∈ ps, PtOk p) (hfew : ps.length ≤ 1000) :
    Calls Try.prog 20 #[.slice sa ps.length cap] w fun e w' => e = .returned (.bool (partsV ps)) ∧ Below w.heap.size w w' := by
  have HP : Hid _ := hp
  have HO : Hid _ := ho
  have CE : Hid _ := iEmpty
  have CK : Hid _ := @iKnow
  obtain ⟨fp, hfp⟩ := undPt
  obtain ⟨fr, hfr⟩ := undRg
  have HFP : Hid _ := hfp
  have HFR : Hid _ := hfr
  obtain ⟨RV, hRV⟩ : ∃ RV, RV = partsV ps := ⟨_, rfl⟩
  have HRV : Hid (RV = partsV ps) := hRV
  rw [← hRV]
  clear hp ho hfp hfr hRV
  generalize hln : ps.length = n at *
  have HLN : Hid (ps.length = n) := hln
  clear hln
  have hmk := known_made
  by_cases h1 : 1 ≤ n ∧ n ≤ 8
  · have HR2 : Hid (RV = idxAll ps fun k p => newN ((ps.take k).map Pt.name) p.name && !(isEmptyV p.code)) := by
      show RV = _
      rw [HRV.out]
      unfold partsV
      rw [HLN.out, decide_eq_true h1.1, decide_eq_true h1.2]
      rfl
    have d1 : ¬ (n : Int) < 1 := by omega
    have d2 : ¬ 8 < (n : Int) := by omega
    have B0 : Hid (Below w.heap.size w (w.alloc (.map #[] 0))) := (Below.refl _ _).alloc (Nat.le_refl _) _
    have N0 : Hid _ := names_made w
    have hn8 : n ≤ 8 := h1.2
    clear HRV h1
    go_enter Try.func20, Try.ntmps20
    go_wp2_with fail
    go_loopw [17] (fun x wr => ∃ (k : Nat) (V : World), V = wr ∧ k ≤ n ∧ x = .int .i64 k ∧ Hid ((∀ (j : Nat) y, j < k → ps[j]? = some y → (newN ((ps.take j).map Pt.name) y.name && !(isEmptyV y.code)) = true) ∧ Below w.heap.size w V ∧ NamesIs V w.heap.size k ((ps.take k).map Pt.name))) (fun x _ => n - (intOf x).toNat)
    case atStart => exact ⟨0, _, rfl, Nat.zero_le _, rfl, fun j y hj => by omega, B0.out, N0.out⟩
    case round =>
      clear B0 N0 hmk
      obtain ⟨k, V, rfl, hk, rfl, hr⟩ := hrel
      by_cases hlt : k < n
      · obtain ⟨p, hx⟩ : ∃ p, ps[k]? = some p := ⟨_, List.getElem?_eq_getElem (by rw [HLN.out]; exact hlt)⟩
        have HX : Hid _ := hx
        have I1 : Hid _ := HP.out.below hr.out.2.1
        obtain ⟨ea, hb⟩ := I1.out.at' (I1.out.lt hx)
        subst ea
        have k0 : (0 : Int) ≤ (k : Int) := by omega
        have k1 : (k : Int) < (n : Int) := by omega
        have PO : Hid _ := HO.out p (List.mem_of_getElem? hx)
        have gV : Hid (w.heap.size < V.heap.size) := names_lt hr.out.2.2
        clear hb hx
        go_wp2_with (first | (refine wpList_mids (by rfl) 40 (.tmp 19) rfl b (off + k * 11) rfl p.cells _ (I1.out.row k p HX.out) HFP.out rfl (by rw [Pt.size]; exact infoPt) ?_) | (refine wpList_fill rfl 40 (.tmp 5) (.tmp 20) rfl rfl p.cells rfl 40 _ (by rw [Pt.size]; exact infoPt) (by rw [Pt.size]; rfl) (Pt.one p) ?_))
        intro V2 R2 b2
        have RR : Hid _ := R2
        have B2 : Hid _ := below_step hr.out.2.1 b2
        have N2 : Hid _ := names_kept hr.out.2.2 b2
        have c0 : V2.cell? ⟨V.heap.size, 0, none⟩ = some (.string p.name) := (cells_of R2).1 0 _ rfl
        clear b2 I1 R2
        go_wp2_with fail
        refine (CK.out N2.out p.name PO.out.nm (by omega)).mono ?_
        rintro e w3 ⟨rfl, g3, n3⟩
        have B3 : Hid (Below w.heap.size w w3) := below_grown B2.out g3 B2.out.size (Nat.le_refl _)
        have R3 : Hid _ := kept_grown RR.out g3 (by have := gV.out; omega)
        have N3 : Hid _ := n3
        have hnot : (newN ((ps.take k).map Pt.name) p.name && !(isEmptyV p.code)) = false → RV = false := fun h => by rw [HR2.out]; exact idx_not HX.out h
        have HNOT : Hid _ := hnot
        clear g3 n3 hnot B2 N2 RR c0
        cases h1 : newN ((ps.take k).map Pt.name) p.name
        · have hv : RV = false := HNOT.out (by rw [h1]; rfl)
          clear HR2 HNOT
          subst hv
          go_wp2_with fail
          go_ret
          exact ⟨rfl, B3.out⟩
        · have N4 : Hid _ := N3.out h1
          have H1 : Hid _ := h1
          clear h1 N3
          go_wp2_with (first | (refine wpList_mids (by rfl) 25 (.tmp 27) rfl V.heap.size 1 rfl #[.int .u32 p.code.lo, .int .u32 p.code.hi, .bool p.code.x, .bool p.code.w] _ (pt_code R3.out) HFR.out rfl infoRg ?_))
          refine (CE.out p.code _).mono ?_
          rintro e w4 ⟨rfl, b4⟩
          have B4 : Hid _ := below_step B3.out b4
          have N5 : Hid _ := names_kept N4.out b4
          clear b4 B3 N4 R3
          cases h2 : isEmptyV p.code
          · have H2 : Hid _ := h2
            clear h2
            go_wp2_with fail
            exact ⟨⟨k + 1, _, rfl, hlt, by go_num, fun j y hj hy => by
              by_cases hj2 : j < k
              · exact hr.out.1 j y hj2 hy
              · have : j = k := by omega
                subst this
                rw [HX.out] at hy
                cases hy
                rw [H1.out, H2.out]
                rfl, B4.out, by rw [take_next HX.out]; exact N5.out⟩, by simp [intOf]; omega⟩
          · have hv : RV = false := HNOT.out (by rw [h2, Bool.not_true, Bool.and_false])
            clear HR2 HNOT h2
            subst hv
            go_wp2_with fail
            go_ret
            exact ⟨rfl, B4.out⟩
      · have k1 : ¬ (k : Int) < (n : Int) := by omega
        have hv : RV = true := by
          rw [HR2.out]
          exact idx_yes (fun j y hy => hr.out.1 j y (by have := (List.getElem?_eq_some_iff.1 hy).1; rw [HLN.out] at this; omega) hy)
        clear HR2
        subst hv
        go_wp2_with fail
        go_ret
        exact ⟨rfl, hr.out.2.1⟩
  · have hv : RV = false := by
      rw [HRV.out]
      unfold partsV
      rw [HLN.out]
      by_cases h2 : 1 ≤ n
      · rw [decide_eq_false (show ¬ n ≤ 8 from fun h => h1 ⟨h2, h⟩), Bool.and_false, Bool.false_and]
      · rw [decide_eq_false h2, Bool.false_and, Bool.false_and]
    have hd : (n : Int) < 1 ∨ (¬ (n : Int) < 1 ∧ 8 < (n : Int)) := by omega
    clear HRV h1
    subst hv
    rcases hd with hd | ⟨hd, hd2⟩
    · go_enter Try.func20, Try.ntmps20
      go_wp2_with fail
      go_ret
      exact ⟨rfl, Below.refl _ _⟩
    · go_enter Try.func20, Try.ntmps20
      go_wp2_with fail
      go_ret
      exact ⟨rfl, Below.refl _ _⟩
end Go.Proofs.Ytfjppgfnjjmkpaa
