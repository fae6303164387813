/-
  Package guard: the regions of a row: the contract of the function.
-/
import Derived.Test.YtioppnlojlecaaaGdnc
import Derived.Test.YtioppnlojlecaaaGdk
namespace Go.Proofs.Ytioppnlojlecaaa
open Go.RowKit Go.Maps

/-- The first k regions of a row, noughts behind. -/
def ofK (ws : Nat → Int) (k : Nat) : List Rg := (List.range 8).map fun i => if i < k then pairV (ws (2 * i)) (ws (2 * i + 1)) else noRg
theorem ofK_len (ws : Nat → Int) (k : Nat) : (ofK ws k).length = 8 := by simp [ofK]
theorem ofK_at (ws : Nat → Int) (k i : Nat) (h : i < 8) : rgAt (ofK ws k) i = if i < k then pairV (ws (2 * i)) (ws (2 * i + 1)) else noRg := by
  unfold rgAt ofK
  rw [List.getD_eq_getElem?_getD]
  simp [h]
theorem ofK_all (ws : Nat → Int) : ofK ws 8 = ofV ws := by
  unfold ofK ofV
  apply List.map_congr_left
  intro i hi
  rw [if_pos (by simpa using hi)]
theorem rgAt_ext {l m : List Rg} (hl : l.length = m.length) (h : ∀ i, i < l.length → rgAt l i = rgAt m i) : l = m := by
  apply List.ext_getElem hl
  intro i h1 h2
  have := h i h1
  unfold rgAt at this
  rw [List.getD_eq_getElem?_getD, List.getD_eq_getElem?_getD, List.getElem?_eq_getElem h1, List.getElem?_eq_getElem h2] at this
  exact this
theorem ofK_next (ws : Nat → Int) (k : Nat) (hk : k < 8) : (ofK ws k).set k (pairV (ws (2 * k)) (ws (2 * k + 1))) = ofK ws (k + 1) := by
  apply rgAt_ext (by simp [ofK_len])
  intro i hi
  rw [List.length_set, ofK_len] at hi
  rw [ofK_at _ _ _ hi]
  have e : rgAt ((ofK ws k).set k (pairV (ws (2 * k)) (ws (2 * k + 1)))) i = if k = i then pairV (ws (2 * k)) (ws (2 * k + 1)) else rgAt (ofK ws k) i := by
    unfold rgAt
    rw [List.getD_eq_getElem?_getD, List.getD_eq_getElem?_getD, List.getElem?_set]
    by_cases h : k = i
    · rw [if_pos h, if_pos h, if_pos (by rw [ofK_len]; omega)]; rfl
    · rw [if_neg h, if_neg h]
  rw [e]
  by_cases h : k = i
  · subst h; rw [if_pos rfl, if_pos (by omega)]
  · rw [if_neg h, ofK_at _ _ _ hi]
    by_cases h2 : i < k
    · rw [if_pos h2, if_pos (by omega)]
    · rw [if_neg h2, if_neg (by omega)]
/-- One region is put in its four cells. -/
theorem rrow_set (l : List Rg) : ∀ (k : Nat) (r : Rg), k < l.length →
    ((((rrow l).set (k * 4) (.int .u32 r.lo)).set (k * 4 + 1) (.int .u32 r.hi)).set (k * 4 + 2) (.bool r.x)).set (k * 4 + 3) (.bool r.w) = rrow (l.set k r) := by
  induction l with
  | nil => intro k r h; cases h
  | cons q l ih =>
    intro k r h
    cases k with
    | zero => simp [rrow, rcells]
    | succ k =>
      have := ih k r (by simpa using h)
      have e : rrow (q :: l) = .int .u32 q.lo :: .int .u32 q.hi :: .bool q.x :: .bool q.w :: rrow l := by simp [rrow, rcells]
      have e2 : rrow ((q :: l).set (k + 1) r) = .int .u32 q.lo :: .int .u32 q.hi :: .bool q.x :: .bool q.w :: rrow (l.set k r) := by simp [rrow, rcells]
      rw [e, e2, ← this, show (k + 1) * 4 = k * 4 + 1 + 1 + 1 + 1 by omega]
      simp [List.set_cons_succ]
theorem zero32 : (#[.int .u32 0, .int .u32 0, .bool false, .bool false, .int .u32 0, .int .u32 0, .bool false, .bool false, .int .u32 0, .int .u32 0, .bool false, .bool false, .int .u32 0, .int .u32 0, .bool false, .bool false, .int .u32 0, .int .u32 0, .bool false, .bool false, .int .u32 0, .int .u32 0, .bool false, .bool false, .int .u32 0, .int .u32 0, .bool false, .bool false, .int .u32 0, .int .u32 0, .bool false, .bool false] : Array Value) = (rrow (ofK (fun _ => 0) 0)).toArray := rfl
theorem ofK_zero (ws : Nat → Int) : ofK ws 0 = ofK (fun _ => 0) 0 := by
  unfold ofK
  apply List.map_congr_left
  intro i _
  rw [if_neg (by omega), if_neg (by omega)]

structure OfKSt (w : World) (ws : Nat → Int) (g s : Nat) (D : DataW Unit) (k : Nat) (wr : World) : Prop where
  row : wr.heap[w.heap.size]? = some (.cells (row16 ws) 26)
  own : wr.ownsMap Try.prog 46 readR g 8 D
  out : wr.heap[s]? = some (.cells (rrow (ofK ws k)).toArray 40)
  below : Below w.heap.size w wr

set_option maxRecDepth 100000 in
set_option maxHeartbeats 2000000 in
theorem gOf (ws : Nat → Int) (hu : ∀ i, U32 (ws i)) (w : World) : Calls Try.prog 11 #[.agg (row16 ws)] w fun e w' => ∃ g off cap, e = .returned (.slice (some ⟨g, off, none⟩) 8 cap) ∧ w.heap.size ≤ g ∧ g < w'.heap.size ∧ 8 ≤ cap ∧ Regs w' (some ⟨g, off, none⟩) g off (ofV ws) ∧ Below w.heap.size w w' := by
  have HU : Hid _ := hu
  clear hu
  have C1 : Hid _ := gkeep ws HU.out
  have hbox : ∀ w, (Instr.box 26 (.agg (row16 ws))).run Try.prog w = .ok (.pointer (some ⟨w.heap.size, 0, none⟩)) (w.alloc (.cells (row16 ws) 26)) := fun w => by kernel_rfl
  have hmk : ∀ w, (Instr.makeSlice 23 (.int .i64 8) (.int .i64 8)).run Try.prog w = .ok (.slice (some ⟨w.heap.size, 0, none⟩) 8 8) (w.alloc (.cells (rrow (ofK (fun _ => 0) 0)).toArray 40)) := fun w => by kernel_rfl
  go_enter Try.func11, Try.ntmps11
  go_wp2_with (first | (refine wpList_load_row rfl 26 (.tmp 1) rfl _ rfl _ _ _ _ (alloc_at w _) und16 rfl (by rw [row16_size]; exact info16) ?_))
  refine (C1.out _).mono ?_
  rintro e w1 ⟨g, D, rfl, hg, b1, hown, hmap⟩
  rw [← ofK_zero ws] at hmk
  have R0 : Hid (OfKSt w ws g w1.heap.size D 0 (w1.alloc (.cells (rrow (ofK ws 0)).toArray 40))) :=
    ⟨kept_on (kept_block b1) ((Below.refl _ _).alloc (Nat.le_refl _) _), hown.alloc _, alloc_at _ _, below_step (below_first b1) ((Below.refl _ _).alloc (Nat.le_refl _) _)⟩
  have hgs : g < w1.heap.size := hown.lt
  have hwg : w.heap.size < g := by rw [World.size_alloc] at hg; omega
  have HM : Hid _ := hmap
  clear b1 hown hmap hbox C1 hg
  go_wp2_with fail
  generalize w1.alloc (.cells (rrow (ofK ws 0)).toArray 40) = V at *
  generalize w1.heap.size = s at *
  clear hmk
  go_loopw [11] (fun i wr => ∃ (k : Nat), k ≤ 8 ∧ i = .int .i64 k ∧ Hid (OfKSt w ws g s D k wr)) (fun i _ => 8 - (intOf i).toNat)
  case atStart => exact ⟨0, Nat.zero_le _, rfl, R0.out⟩
  case round =>
    clear R0
    obtain ⟨k, hk, rfl, hr⟩ := hrel
    by_cases hlt : k < 8
    · have C2 : Hid _ := gpairAt ws k hlt
      go_wp2_with (first | (refine wpList_load_row rfl 26 (.tmp 1) rfl _ rfl _ _ _ _ hr.out.row und16 rfl (by rw [row16_size]; exact info16) ?_))
      refine (C2.out _).mono ?_
      rintro e w2 ⟨rfl, b2⟩
      have hr2 : Hid (OfKSt w ws g s D k w2) := ⟨kept_on hr.out.row b2, owns_kept hr.out.own b2, kept_on hr.out.out b2, below_step hr.out.below b2⟩
      clear hr b2
      have hl := glook HM.out hr2.out.own HU.out hlt
      have HX : Hid _ := ofK_next ws k hlt
      generalize pairV (ws (2 * k)) (ws (2 * k + 1)) = r at *
      have HY : Hid _ := rrow_set (ofK ws k) k r (by rw [ofK_len]; exact hlt)
      generalize ws (2 * k) = a at *
      generalize ws (2 * k + 1) = b at *
      obtain ⟨cc, cf, cs⟩ := cells_of hr2.out.out
      have q : ∀ f v, (rcells (rgAt (ofK ws k) k))[f]? = some v → w2.cell? ⟨s, k * 4 + f, none⟩ = some v := fun f v hv => by
        have hf : f < 4 := by
          have := (List.getElem?_eq_some_iff.1 hv).1
          simpa [rcells_len] using this
        exact cc _ _ (by rw [List.getElem?_toArray, rrow_at _ k f (by rw [ofK_len]; exact hlt) hf]; exact hv)
      have q0 := q 0 _ rfl
      have q1 := q 1 _ rfl
      have q2 := q 2 _ rfl
      have q3 := q 3 _ rfl
      rw [Nat.add_zero] at q0
      have f0 := cf (k * 4)
      have f1 := cf (k * 4 + 1)
      have f2 := cf (k * 4 + 2)
      have f3 := cf (k * 4 + 3)
      obtain ⟨lo, hi, x, y⟩ := r
      unfold rval at hl
      unfold pval at hl ⊢
      simp only at hl
      clear cc cf q
      generalize rgAt (ofK ws k) k = r0 at *
      go_wp2_with fail
      have n1 : w.heap.size ≠ s := by omega
      have n2 : g ≠ s := by omega
      have n3 : w.heap.size ≤ s := by omega
      have hB : Below w.heap.size w ((((w2.setCell ⟨s, k * 4, none⟩ (.int .u32 lo)).setCell ⟨s, k * 4 + 1, none⟩ (.int .u32 hi)).setCell ⟨s, k * 4 + 2, none⟩ (.bool x)).setCell ⟨s, k * 4 + 3, none⟩ (.bool y)) :=
        (((hr2.out.below.setCell n3 _).setCell n3 _).setCell n3 _).setCell n3 _
      have hK : ∀ b, b ≠ s → ((((w2.setCell ⟨s, k * 4, none⟩ (.int .u32 lo)).setCell ⟨s, k * 4 + 1, none⟩ (.int .u32 hi)).setCell ⟨s, k * 4 + 2, none⟩ (.bool x)).setCell ⟨s, k * 4 + 3, none⟩ (.bool y)).heap[b]? = w2.heap[b]? := fun b hb => by
        rw [Below.heap_setCell _ _ _ _ hb, Below.heap_setCell _ _ _ _ hb, Below.heap_setCell _ _ _ _ hb, Below.heap_setCell _ _ _ _ hb]
      have hO := heap_setCell_at (i := k * 4 + 3) (.bool y) (heap_setCell_at (i := k * 4 + 2) (.bool x) (heap_setCell_at (i := k * 4 + 1) (.int .u32 hi) (heap_setCell_at (i := k * 4) (.int .u32 lo) hr2.out.out)))
      simp only [List.setIfInBounds_toArray] at hO
      rw [HY.out, HX.out] at hO
      refine ⟨⟨k + 1, by omega, by go_num, (hK _ n1).trans hr2.out.row, ?_, hO, hB⟩, by simp [intOf]; omega⟩
      obtain ⟨es, clock, h1, h2⟩ := hr2.out.own
      exact ⟨es, clock, (hK _ n2).trans h1, h2⟩
    · have hk8 : k = 8 := by omega
      subst hk8
      have ho := hr.out.out
      rw [ofK_all] at ho
      go_wp2
      go_ret
      exact ⟨s, 0, 8, rfl, by omega, (Array.getElem?_eq_some_iff.1 ho).1, Nat.le_refl _, regs_block ho, hr.out.below⟩
end Go.Proofs.Ytioppnlojlecaaa
