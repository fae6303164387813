/-
  Any word, told as the document has it: the contract of the code's function.
-/
import Derived.Test.YtbdfaepljgajbaaCodeg
import Derived.Test.YtbdfaepljgajbaaRefg
namespace Go.Proofs.Ytbdfaepljgajbaa
open Go.RowKit

/-- The key of a word. -/
theorem key_fields (x : Int) (hx : U32 x) : bitsV x 0 7 = x % 128 ∧ bitsV x 12 3 = x / 4096 % 8 ∧ bitsV x 25 7 = x / 33554432 := by
  have h1 : bitsV x 0 7 = x / 2 ^ 0 % 2 ^ 7 := bx x hx 0 7 (by omega) (by omega) (by omega)
  have h2 : bitsV x 12 3 = x / 2 ^ 12 % 2 ^ 3 := bx x hx 12 3 (by omega) (by omega) (by omega)
  have h3 : bitsV x 25 7 = x / 2 ^ 25 % 2 ^ 7 := bx x hx 25 7 (by omega) (by omega) (by omega)
  obtain ⟨x0, x1⟩ := hx
  simp at h1 h2 h3
  exact ⟨h1, h2, by omega⟩
theorem key_u32 {x a b c : Int} (hx : U32 x) (h : keyW x (x % 128) (x / 4096 % 8) (x / 33554432) = (a, b, c)) : U32 a ∧ U32 b ∧ U32 c := by
  obtain ⟨x0, x1⟩ := hx
  unfold keyW at h
  unfold U32
  split at h
  · simp only [Prod.mk.injEq] at h; omega
  · split at h
    · split at h <;> (simp only [Prod.mk.injEq] at h; omega)
    · split at h
      · simp only [Prod.mk.injEq] at h; omega
      · split at h
        · simp only [Prod.mk.injEq] at h; omega
        · split at h
          · split at h <;> (simp only [Prod.mk.injEq] at h; omega)
          · simp only [Prod.mk.injEq] at h; omega
/-- A form's key is the word's just if the word is one of that form. -/
def keyHas (p : MForm) : Prop := ∀ x a b c : Int, U32 x → keyW x (x % 128) (x / 4096 % 8) (x / 33554432) = (a, b, c) → ((p.o = a ∧ p.g = b ∧ p.f = c) ↔ hasF p x)
theorem keyW_cases (x op g f a b c : Int) (h : keyW x op g f = (a, b, c)) :
    (op = 51 ∧ a = op ∧ b = g ∧ c = f) ∨ (op = 19 ∧ (g = 1 ∨ g = 5) ∧ a = op ∧ b = g ∧ c = f) ∨ (op = 19 ∧ g ≠ 1 ∧ g ≠ 5 ∧ a = op ∧ b = g ∧ c = 0) ∨ ((op = 55 ∨ op = 23 ∨ op = 111) ∧ a = op ∧ b = 0 ∧ c = 0) ∨
    (op = 15 ∧ a = x ∧ b = 0 ∧ c = 0) ∨ (op = 115 ∧ g = 0 ∧ a = x ∧ b = 0 ∧ c = 0) ∨ (op = 115 ∧ g ≠ 0 ∧ a = op ∧ b = g ∧ c = 0) ∨
    (op ≠ 51 ∧ op ≠ 19 ∧ op ≠ 55 ∧ op ≠ 23 ∧ op ≠ 111 ∧ op ≠ 15 ∧ op ≠ 115 ∧ a = op ∧ b = g ∧ c = 0) := by
  unfold keyW at h
  by_cases h51 : op = 51
  · rw [if_pos h51] at h; simp only [Prod.mk.injEq] at h; exact Or.inl ⟨h51, h.1.symm, h.2.1.symm, h.2.2.symm⟩
  rw [if_neg h51] at h
  refine Or.inr ?_
  by_cases h19 : op = 19
  · rw [if_pos h19] at h
    by_cases hg : g = 1 ∨ g = 5
    · rw [if_pos hg] at h; simp only [Prod.mk.injEq] at h; exact Or.inl ⟨h19, hg, h.1.symm, h.2.1.symm, h.2.2.symm⟩
    · rw [if_neg hg] at h; simp only [Prod.mk.injEq] at h; exact Or.inr (Or.inl ⟨h19, fun e => hg (Or.inl e), fun e => hg (Or.inr e), h.1.symm, h.2.1.symm, h.2.2.symm⟩)
  rw [if_neg h19] at h
  refine Or.inr (Or.inr ?_)
  by_cases hu : op = 55 ∨ op = 23 ∨ op = 111
  · rw [if_pos hu] at h; simp only [Prod.mk.injEq] at h; exact Or.inl ⟨hu, h.1.symm, h.2.1.symm, h.2.2.symm⟩
  rw [if_neg hu] at h
  refine Or.inr ?_
  by_cases h15 : op = 15
  · rw [if_pos h15] at h; simp only [Prod.mk.injEq] at h; exact Or.inl ⟨h15, h.1.symm, h.2.1.symm, h.2.2.symm⟩
  rw [if_neg h15] at h
  refine Or.inr ?_
  by_cases hs : op = 115
  · rw [if_pos hs] at h
    by_cases hg : g = 0
    · rw [if_pos hg] at h; simp only [Prod.mk.injEq] at h; exact Or.inl ⟨hs, hg, h.1.symm, h.2.1.symm, h.2.2.symm⟩
    · rw [if_neg hg] at h; simp only [Prod.mk.injEq] at h; exact Or.inr (Or.inl ⟨hs, hg, h.1.symm, h.2.1.symm, h.2.2.symm⟩)
  rw [if_neg hs] at h
  simp only [Prod.mk.injEq] at h
  exact Or.inr (Or.inr ⟨h51, h19, fun e => hu (Or.inl e), fun e => hu (Or.inr (Or.inl e)), fun e => hu (Or.inr (Or.inr e)), h15, hs, h.1.symm, h.2.1.symm, h.2.2.symm⟩)
set_option maxHeartbeats 4000000 in
theorem key_has : ∀ q ∈ forms, keyHas q.2 := by
  intro q hq
  unfold forms at hq
  simp only [List.mem_cons, List.not_mem_nil, or_false] at hq
  rcases hq with rfl | rfl | rfl | rfl | rfl | rfl | rfl | rfl | rfl | rfl | rfl | rfl | rfl | rfl | rfl | rfl | rfl | rfl | rfl | rfl | rfl | rfl | rfl | rfl | rfl | rfl | rfl | rfl | rfl | rfl | rfl | rfl | rfl | rfl | rfl | rfl | rfl | rfl | rfl | rfl | rfl | rfl | rfl | rfl | rfl | rfl | rfl | rfl | rfl | rfl | rfl | rfl | rfl
  all_goals
    intro x a b c hx h
    obtain ⟨x0, x1⟩ := hx
    have hc := keyW_cases _ _ _ _ _ _ _ h
    clear h
    simp [hasF]
    generalize hop : x % 128 = op at *
    generalize hg : x / 4096 % 8 = g at *
    generalize hf : x / 33554432 = f at *
    rcases hc with h | h | h | h | h | h | h | h <;> omega
end Go.Proofs.Ytbdfaepljgajbaa
