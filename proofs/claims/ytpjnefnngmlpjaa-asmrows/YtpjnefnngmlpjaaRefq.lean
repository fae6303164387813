/-
  What any word is, by the document: the contract of the function that tells it.
-/
import Derived.Test.YtpjnefnngmlpjaaRefo
import Derived.LoopTactic
namespace Go.Proofs.Ytpjnefnngmlpjaa
open Go.RowKit

theorem forms_len : forms.length = 53 := by rfl
/-- The k-th name, with its form. -/
def formAt (k : Nat) : List UInt8 × MForm := forms.getD k ([], noForm)
theorem formAt_get (k : Nat) (h : k < 53) : forms[k]? = some (formAt k) := by
  unfold formAt
  rw [List.getD_eq_getElem?_getD]
  have : forms[k]? = some (forms[k]'(by rw [forms_len]; exact h)) := List.getElem?_eq_getElem _
  rw [this]; rfl
theorem formAt_mem (k : Nat) (h : k < 53) : formAt k ∈ forms := List.mem_of_getElem? (formAt_get k h)
theorem opAt_form (k : Nat) (h : k < 53) : (opAt k).toList = (formAt k).1 := by
  have h' : k = 0 ∨ k = 1 ∨ k = 2 ∨ k = 3 ∨ k = 4 ∨ k = 5 ∨ k = 6 ∨ k = 7 ∨ k = 8 ∨ k = 9 ∨ k = 10 ∨ k = 11 ∨ k = 12 ∨ k = 13 ∨ k = 14 ∨ k = 15 ∨ k = 16 ∨ k = 17 ∨ k = 18 ∨ k = 19 ∨ k = 20 ∨ k = 21 ∨ k = 22 ∨ k = 23 ∨ k = 24 ∨ k = 25 ∨ k = 26 ∨ k = 27 ∨ k = 28 ∨ k = 29 ∨ k = 30 ∨ k = 31 ∨ k = 32 ∨ k = 33 ∨ k = 34 ∨ k = 35 ∨ k = 36 ∨ k = 37 ∨ k = 38 ∨ k = 39 ∨ k = 40 ∨ k = 41 ∨ k = 42 ∨ k = 43 ∨ k = 44 ∨ k = 45 ∨ k = 46 ∨ k = 47 ∨ k = 48 ∨ k = 49 ∨ k = 50 ∨ k = 51 ∨ k = 52 := by omega
  rcases h' with rfl | rfl | rfl | rfl | rfl | rfl | rfl | rfl | rfl | rfl | rfl | rfl | rfl | rfl | rfl | rfl | rfl | rfl | rfl | rfl | rfl | rfl | rfl | rfl | rfl | rfl | rfl | rfl | rfl | rfl | rfl | rfl | rfl | rfl | rfl | rfl | rfl | rfl | rfl | rfl | rfl | rfl | rfl | rfl | rfl | rfl | rfl | rfl | rfl | rfl | rfl | rfl | rfl <;> simp [go_sem, opAt, formAt, forms]
theorem formV_opAt (k : Nat) (h : k < 53) : formV (opAt k).toList = (formAt k).2 := by
  rw [opAt_form k h]; exact formV_of_mem (formAt_mem k h)
theorem kind_ne (k : Nat) (h : k < 53) : (formV (opAt k).toList).k ≠ 0 := by
  rw [formV_opAt k h]
  have hg := forms_good _ (formAt_mem k h)
  unfold goodF at hg
  omega
/-- None of the first k is what x is of. -/
def noneOf (x : Int) (k : Nat) : Prop := ∀ j, j < k → hasB (formAt j).2 x = false
theorem find_at {x : Int} {k : Nat} (h : k < 53) (hn : noneOf x k) (hb : hasB (formAt k).2 x = true) : getV x = some (insOf (formAt k) x) := by
  unfold getV
  have : forms.find? (fun q => hasB q.2 x) = some (formAt k) := by
    rw [List.find?_eq_some_iff_getElem]
    refine ⟨hb, k, by rw [forms_len]; exact h, ?_, ?_⟩
    · have := formAt_get k h
      rw [List.getElem?_eq_getElem (by rw [forms_len]; exact h)] at this
      exact Option.some.inj this
    · intro j hj
      have h2 := formAt_get j (by omega)
      rw [List.getElem?_eq_getElem (by rw [forms_len]; omega)] at h2
      rw [Option.some.inj h2, hn j hj]
      rfl
  rw [this]; rfl
theorem find_not {x : Int} (hn : noneOf x 53) : getV x = none := by
  unfold getV
  have : forms.find? (fun q => hasB q.2 x) = none := by
    rw [List.find?_eq_none]
    intro q hq
    obtain ⟨j, hj, rfl⟩ := List.mem_iff_getElem.mp hq
    have h2 := formAt_get j (by rw [← forms_len]; exact hj)
    rw [List.getElem?_eq_getElem hj] at h2
    rw [Option.some.inj h2, hn j (by rw [← forms_len]; exact hj)]
    simp
  rw [this]; rfl
end Go.Proofs.Ytpjnefnngmlpjaa
