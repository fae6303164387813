/-
  Words in their places: contract of the function that the statements bear.
-/
import Derived.Test.YtioppnlojlecaaaGdv
import Derived.Laws.Rows
import Derived.Laws.Tables
import Derived.Deep.WholeRow
import Derived.Laws.CopyOwn
namespace Go.Proofs.Ytioppnlojlecaaa
open Go.RowKit

theorem row16_size (f : Nat → Int) : (row16 f).size = 16 := by simp [row16]
theorem row16_at (f : Nat → Int) (i : Nat) (h : i < 16) : (row16 f)[i]? = some (.int .u32 (f i)) := by simp [row16, h]
def put1 (f : Nat → Int) (i : Nat) (x : Int) (j : Nat) : Int := if j = i then x else f j
theorem row16_put (f : Nat → Int) (i : Nat) (x : Int) : (row16 f).setIfInBounds i (.int .u32 x) = row16 (put1 f i x) := by
  apply Array.ext_getElem?
  intro j
  rw [Array.getElem?_setIfInBounds]
  by_cases hj : j < 16
  · by_cases hij : i = j
    · subst hij
      rw [if_pos rfl, row16_size, if_pos hj, row16_at _ i hj]
      simp [put1]
    · rw [if_neg hij, row16_at _ j hj, row16_at _ j hj]
      simp [put1, Ne.symm hij]
  · have h1 : (row16 f)[j]? = none := by rw [Array.getElem?_eq_none_iff, row16_size]; omega
    have h2 : (row16 (put1 f i x))[j]? = none := by rw [Array.getElem?_eq_none_iff, row16_size]; omega
    rw [h1, h2]
    by_cases hij : i = j
    · subst hij
      rw [if_pos rfl, row16_size, if_neg hj]
    · rw [if_neg hij]
theorem row16_ext {f g : Nat → Int} (h : ∀ i, i < 16 → f i = g i) : row16 f = row16 g := by
  unfold row16
  congr 1
  apply List.map_congr_left
  intro i hi
  rw [h i (by simpa using hi)]
theorem zero16 : (#[.int .u32 0, .int .u32 0, .int .u32 0, .int .u32 0, .int .u32 0, .int .u32 0, .int .u32 0, .int .u32 0, .int .u32 0, .int .u32 0, .int .u32 0, .int .u32 0, .int .u32 0, .int .u32 0, .int .u32 0, .int .u32 0] : Array Value) = row16 fun _ => 0 := rfl
theorem info16 : (Try.prog.info? 26).map (·.size) = some 16 := by kernel_rfl
theorem und16 : Try.prog.underlying 26 = some (.array 16 24) := by kernel_rfl

/-- The words of a slice, noughts behind. -/
def wordsV (l : List Int) (n j : Nat) : Int := if j < n then l.getD j 0 else 0

structure RowAt (w : World) (l : List Int) (k : Nat) (wr : World) : Prop where
  one : wr.heap[w.heap.size]? = some (.cells (row16 fun _ => 0) 26)
  two : wr.heap[w.heap.size + 1]? = some (.cells (row16 (wordsV l k)) 26)
  below : Below w.heap.size w wr

set_option maxRecDepth 100000 in
set_option maxHeartbeats 2000000 in
theorem lrow (sa : Option Addr) (b off n cap : Nat) (l : List Int) (w : World) (hm : n ≤ maxLen) (hsa : 0 < n → sa = some ⟨b, off, none⟩ ∧ b < w.heap.size) (hc : ∀ i, i < n → w.cell? ⟨b, off + i, none⟩ = some (.int .u32 (l.getD i 0))) :
    Calls Try.prog 12 #[.slice sa n cap] w fun e w' => e = .returned (.agg (row16 (wordsV l n))) ∧ Below w.heap.size w w' := by
  unfold maxLen at hm
  have HC : Hid _ := hc
  clear hc
  go_enter Try.func12, Try.ntmps12
  go_wp2_with fail
  rw [zero16]
  have R0 : Hid (RowAt w l 0 ((w.alloc (.cells (row16 fun _ => 0) 26)).alloc (.cells (row16 fun _ => 0) 26))) := by
    have hA := alloc_at (w.alloc (.cells (row16 fun _ => 0) 26)) (.cells (row16 fun _ => 0) 26)
    rw [World.size_alloc] at hA
    exact ⟨kept_block ((Below.refl _ _).alloc (Nat.le_refl _) _), by rw [hA, row16_ext (f := fun _ => 0) (g := wordsV l 0)]; intro i _; rfl, box2⟩
  generalize (w.alloc (.cells (row16 fun _ => 0) 26)).alloc (.cells (row16 fun _ => 0) 26) = V at *
  go_loopw [4] (fun i wr => ∃ k : Nat, k ≤ n ∧ k ≤ 16 ∧ i = .int .i64 k ∧ Hid (RowAt w l k wr)) (fun i _ => 16 - (intOf i).toNat)
  case atStart => exact ⟨0, Nat.zero_le _, Nat.zero_le _, rfl, R0.out⟩
  case round =>
    clear R0
    obtain ⟨k, hk, hk2, rfl, hr⟩ := hrel
    by_cases hlt : k < n ∧ k < 16
    · obtain ⟨h1, h2⟩ := hlt
      obtain ⟨rfl, hb⟩ := hsa (by omega)
      have c0 : wr.cell? ⟨b, off + k, none⟩ = some (.int .u32 (l.getD k 0)) := (hr.out.below.cell (p := ⟨b, off + k, none⟩) hb).trans (HC.out k h1)
      obtain ⟨cc, cf, cs⟩ := cells_of hr.out.two
      have c1 := cc k _ (row16_at _ k h2)
      have f1 := cf k
      have HX : Hid (RowAt w l (k + 1) (wr.setCell ⟨w.heap.size + 1, k, none⟩ (.int .u32 (l.getD k 0)))) := by
        refine ⟨?_, ?_, hr.out.below.setCell (Nat.le_succ _) _⟩
        · rw [Below.heap_setCell _ _ _ _ (by show w.heap.size ≠ w.heap.size + 1; omega)]; exact hr.out.one
        · rw [heap_setCell_at _ hr.out.two, row16_put, row16_ext]
          intro i _
          unfold put1 wordsV
          by_cases hik : i = k
          · subst hik; rw [if_pos rfl, if_pos (by omega)]
          · rw [if_neg hik]
            by_cases h3 : i < k
            · rw [if_pos h3, if_pos (by omega)]
            · rw [if_neg h3, if_neg (by omega)]
      clear hr cc cf hsa HC
      generalize wordsV l k k = y at *
      generalize l.getD k 0 = x at *
      go_wp2_with fail
      exact ⟨⟨k + 1, h1, h2, by go_num, HX.out⟩, by simp [intOf]; omega⟩
    · have HR : Hid _ := hr.out
      have hx : Hid ((wr.setRow w.heap.size (row16 (wordsV l k))).heap[w.heap.size]? = some (.cells (row16 (wordsV l n)) 26)) := by
        show _ = _
        rw [setRow_heap _ _ _ _ _ _ hr.out.one, row16_ext (f := wordsV l k) (g := wordsV l n)]
        intro i hi
        unfold wordsV
        by_cases h3 : i < k
        · rw [if_pos h3, if_pos (by omega)]
        · rw [if_neg h3, if_neg (by omega)]
      have HB : Hid _ := below_setRow hr.out.below (Nat.le_refl _) (row16 (wordsV l k))
      clear hr HC hsa
      by_cases h1 : k < n
      · have h2 : ¬ k < 16 := by omega
        go_wp2_with (first | (refine wpList_load_row rfl 26 (.tmp 3) rfl _ rfl _ _ _ _ HR.out.two und16 rfl (by rw [row16_size]; exact info16) ?_) | (refine wpList_store_row rfl 26 (.tmp 2) (.tmp 21) rfl _ _ rfl rfl _ _ HR.out.one (by rw [row16_size]; exact info16) (by rw [row16_size, row16_size]) (by simp [row16, Value.oneCell']) ?_))
        exact bodyPost_ret (results_cell_row rfl _ _ _ _ _ _ _ rfl hx.out und16 rfl (by rw [row16_size]; exact info16)) rfl ⟨rfl, HB.out⟩
      · go_wp2_with (first | (refine wpList_load_row rfl 26 (.tmp 3) rfl _ rfl _ _ _ _ HR.out.two und16 rfl (by rw [row16_size]; exact info16) ?_) | (refine wpList_store_row rfl 26 (.tmp 2) (.tmp 21) rfl _ _ rfl rfl _ _ HR.out.one (by rw [row16_size]; exact info16) (by rw [row16_size, row16_size]) (by simp [row16, Value.oneCell']) ?_))
        exact bodyPost_ret (results_cell_row rfl _ _ _ _ _ _ _ rfl hx.out und16 rfl (by rw [row16_size]; exact info16)) rfl ⟨rfl, HB.out⟩
end Go.Proofs.Ytioppnlojlecaaa
