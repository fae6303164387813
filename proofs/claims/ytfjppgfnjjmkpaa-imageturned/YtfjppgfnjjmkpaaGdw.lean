/-
  Words in their places: contract of the function that the statements bear.
-/
import Derived.Test.YtfjppgfnjjmkpaaGdv
import Derived.Laws.Rows
import Derived.Laws.Tables
import Derived.Deep.WholeRow
import Derived.Laws.CopyOwn
namespace Go.Proofs.Ytfjppgfnjjmkpaa
open Go.RowKit

theorem row16_size (f : Nat → Int) : (row16 f).size = 16 := by simp [row16]
theorem row16_at (f : Nat → Int) (i : Nat) (h : i < 16) : (row16 f)[i]? = some (.int .u32 (f i)) := by simp [row16, h]
def put1 (f : Nat → Int) (i : Nat) (x : Int) (j : Nat) : Int := if j = i then x else f j
theorem row16_put (f : Nat → Int) (i : Nat) (x : Int) : (row16 f).setIfInBounds i (.int .u32 x) = row16 (put1 f i x) := by
  apply Array.ext_getElem?
  intro j
  rw [Array.getElem?_setIfInBounds]
  by_cases hj : j < 16
  · by_cases hij : i = j
    · subst hij
      rw [if_pos rfl, row16_size, if_pos hj, row16_at _ i hj]
      simp [put1]
    · rw [if_neg hij, row16_at _ j hj, row16_at _ j hj]
      simp [put1, Ne.symm hij]
  · have h1 : (row16 f)[j]? = none := by rw [Array.getElem?_eq_none_iff, row16_size]; omega
    have h2 : (row16 (put1 f i x))[j]? = none := by rw [Array.getElem?_eq_none_iff, row16_size]; omega
    rw [h1, h2]
    by_cases hij : i = j
    · subst hij
      rw [if_pos rfl, row16_size, if_neg hj]
    · rw [if_neg hij]
theorem row16_ext {f g : Nat → Int} (h : ∀ i, i < 16 → f i = g i) : row16 f = row16 g := by
  unfold row16
  congr 1
  apply List.map_congr_left
  intro i hi
  rw [h i (by simpa using hi)]
theorem zero16 : (#[.int .u32 0, .int .u32 0, .int .u32 0, .int .u32 0, .int .u32 0, .int .u32 0, .int .u32 0, .int .u32 0, .int .u32 0, .int .u32 0, .int .u32 0, .int .u32 0, .int .u32 0, .int .u32 0, .int .u32 0, .int .u32 0] : Array Value) = row16 fun _ => 0 := rfl
/-- The words of a slice, noughts behind. -/
def wordsV (l : List Int) (n j : Nat) : Int := if j < n then l.getD j 0 else 0

end Go.Proofs.Ytfjppgfnjjmkpaa
