/-
  What there is of Status: eight values; what a trap and a way back make of each.
-/
import Derived.Test.YtmmaoncgfmfbjaaCsk
namespace Go.Proofs.Ytmmaoncgfmfbjaa
open Go.RowKit

theorem and136 (X : Nat) : X &&& 136 = 0 ∨ X &&& 136 = 8 ∨ X &&& 136 = 128 ∨ X &&& 136 = 136 := by
  have h1 : X &&& 136 ≤ 136 := Nat.and_le_right
  have h2 : (X &&& 136) % 2 ^ 8 = (X % 2 ^ 8) &&& (136 % 2 ^ 8) := Nat.and_mod_two_pow
  rw [Nat.mod_eq_of_lt (by omega)] at h2
  have h3 : ∀ y : Fin 256, y.val &&& 136 = 0 ∨ y.val &&& 136 = 8 ∨ y.val &&& 136 = 128 ∨ y.val &&& 136 = 136 := by decide +kernel
  have h4 := h3 ⟨X % 256, Nat.mod_lt _ (by decide)⟩
  rw [h2]
  exact h4
theorem and6144 (X : Nat) : X &&& 6144 = 6144 ↔ X / 2048 % 4 = 3 := by
  constructor
  · intro h
    have h1 : (X &&& 6144).testBit 11 = true := by rw [h]; decide
    have h2 : (X &&& 6144).testBit 12 = true := by rw [h]; decide
    rw [Nat.testBit_and] at h1 h2
    have h3 : X.testBit 11 = true := by simpa using (Bool.and_eq_true_iff.1 h1).1
    have h4 : X.testBit 12 = true := by simpa using (Bool.and_eq_true_iff.1 h2).1
    rw [Nat.testBit_eq_decide_div_mod_eq] at h3 h4
    simp at h3 h4
    omega
  · intro h
    refine Nat.eq_of_testBit_eq fun i => ?_
    rw [Nat.testBit_and]
    by_cases h1 : i = 11
    · subst h1
      have : X.testBit 11 = true := by rw [Nat.testBit_eq_decide_div_mod_eq]; simp; omega
      rw [this]; decide
    · by_cases h2 : i = 12
      · subst h2
        have : X.testBit 12 = true := by rw [Nat.testBit_eq_decide_div_mod_eq]; simp; omega
        rw [this]; decide
      · have : (6144 : Nat).testBit i = false := by
          by_cases h3 : i < 13
          · have : i = 0 ∨ i = 1 ∨ i = 2 ∨ i = 3 ∨ i = 4 ∨ i = 5 ∨ i = 6 ∨ i = 7 ∨ i = 8 ∨ i = 9 ∨ i = 10 := by omega
            rcases this with rfl | rfl | rfl | rfl | rfl | rfl | rfl | rfl | rfl | rfl | rfl <;> decide
          · exact Nat.testBit_lt_two_pow (Nat.lt_of_lt_of_le (by decide : 6144 < 2 ^ 13) (Nat.pow_le_pow_right (by decide) (by omega)))
        rw [this, Bool.and_false]
def stats : List Int := [0, 8, 128, 136, 6144, 6152, 6272, 6280]
theorem statV_in {x : Int} (hx : U32 x) : statV x ∈ stats := by
  obtain ⟨X, rfl⟩ := Int.eq_ofNat_of_zero_le hx.1
  have h1 : X < 4294967296 := by have := hx.2; omega
  have e1 := u32_and_nat X 136 h1 (by decide)
  unfold statV
  rw [show ((136 : Nat) : Int) = 136 from rfl] at e1
  rw [e1]
  rcases and136 X with h | h | h | h <;> rw [h] <;> split <;> decide +kernel
theorem both_bits {x : Int} (hx : U32 x) : bitsV x 11 2 = 3 ↔ bits .and .u32 x 6144 = 6144 := by
  have h := bitsV_int hx 11 2 (by decide) (by decide) (by decide)
  obtain ⟨X, rfl⟩ := Int.eq_ofNat_of_zero_le hx.1
  have h1 : X < 4294967296 := by have := hx.2; omega
  have e1 := u32_and_nat X 6144 h1 (by decide)
  rw [show ((6144 : Nat) : Int) = 6144 from rfl] at e1
  rw [e1]
  have h' : bitsV (X : Int) 11 2 = (X : Int) / 2 ^ 11 % 2 ^ 2 := h
  rw [h']
  have := and6144 X
  constructor
  · intro h; have := this.2 (by omega); omega
  · intro h; have := this.1 (by omega); omega
/-- All that is asked of Status, trap and way back. -/
theorem stats_all (u : Bool) : ∀ s ∈ stats, (bits .and .u32 (retS (trapS s u)) 8 == bits .and .u32 s 8) = true ∧ (bits .and .u32 (trapS s u) 8 == 0) = true ∧ ((bits .and .u32 (trapS s u) 128 != 0) == (bits .and .u32 s 8 != 0)) = true ∧ ((bits .and .u32 (trapS s u) 6144 == 0) == u) = true ∧ (bitsV (trapS s u) 11 1 == 0) = u ∧ (bits .and .u32 (retS (trapS s u)) 128 != 0) = true ∧ (bits .and .u32 (retS (trapS s u)) 6144 == 0) = true := by
  cases u <;> decide +kernel
end Go.Proofs.Ytmmaoncgfmfbjaa
