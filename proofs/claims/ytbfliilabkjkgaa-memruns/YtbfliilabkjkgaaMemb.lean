/-
  Bytes of words: no Go in sight.
-/
import Derived.Test.YtbfliilabkjkgaaMemr
namespace Go.Proofs.Ytbfliilabkjkgaa
open Go.RowKit

/-- The i-th byte of a word, the lowest first. -/
def byteV (x : Int) (i : Nat) : Int := x / 2 ^ (8 * i) % 256
/-- The j-th byte of a list of words. -/
def byteAt (l : List Int) (j : Nat) : Int := byteV (wordAt l (j / 4)) (j % 4)

theorem byteV_bd (x : Int) (i : Nat) : 0 ≤ byteV x i ∧ byteV x i < 256 := by unfold byteV; omega
theorem byteV_nat (X i : Nat) : byteV (X : Int) i = ((X / 2 ^ (8 * i) % 2 ^ 8 : Nat) : Int) := by unfold byteV; simp

theorem byte_eq {a b i j : Nat} (h : ∀ t, t < 8 → a.testBit (8 * i + t) = b.testBit (8 * j + t)) : a / 2 ^ (8 * i) % 2 ^ 8 = b / 2 ^ (8 * j) % 2 ^ 8 := by
  refine Nat.eq_of_testBit_eq fun t => ?_
  rw [Nat.testBit_mod_two_pow, Nat.testBit_mod_two_pow, Nat.testBit_div_two_pow, Nat.testBit_div_two_pow]
  by_cases ht : t < 8
  · simp only [ht, decide_true, Bool.true_and]
    rw [Nat.add_comm t, Nat.add_comm t]
    exact h t ht
  · simp [ht]

theorem mask_nat (q k : Nat) (h : q + k ≤ 4) (k1 : 1 ≤ k) : maskV (q : Int) (k : Int) = (((2 ^ (8 * k) - 1) * 2 ^ (8 * q) : Nat) : Int) := by
  have : (q = 0 ∧ k = 1) ∨ (q = 0 ∧ k = 2) ∨ (q = 0 ∧ k = 3) ∨ (q = 0 ∧ k = 4) ∨ (q = 1 ∧ k = 1) ∨ (q = 1 ∧ k = 2) ∨ (q = 1 ∧ k = 3) ∨ (q = 2 ∧ k = 1) ∨ (q = 2 ∧ k = 2) ∨ (q = 3 ∧ k = 1) := by omega
  rcases this with ⟨rfl, rfl⟩ | ⟨rfl, rfl⟩ | ⟨rfl, rfl⟩ | ⟨rfl, rfl⟩ | ⟨rfl, rfl⟩ | ⟨rfl, rfl⟩ | ⟨rfl, rfl⟩ | ⟨rfl, rfl⟩ | ⟨rfl, rfl⟩ | ⟨rfl, rfl⟩ <;> decide +kernel
theorem mask_mod (p k : Int) : maskV p k = maskV (p % 4) k := by unfold maskV; rw [show p % 4 % 4 = p % 4 by omega]
theorem storeV_mod (o p k x : Int) : storeV o p k x = storeV o (p % 4) k x := by unfold storeV; rw [mask_mod, show p % 4 % 4 = p % 4 by omega]

theorem all_bit (n : Nat) (h : n < 32) : (4294967295 : Nat).testBit n = true := by
  have : ∀ m : Fin 32, (4294967295 : Nat).testBit m.val = true := by decide
  exact this ⟨n, h⟩
theorem mask_bit (q k n : Nat) : ((2 ^ (8 * k) - 1) * 2 ^ (8 * q)).testBit n = (decide (8 * q ≤ n) && decide (n < 8 * (q + k))) := by
  rw [Nat.testBit_mul_two_pow, Nat.testBit_two_pow_sub_one]
  by_cases h : 8 * q ≤ n
  · simp only [h, decide_true, Bool.true_and]
    congr 1
    apply propext
    omega
  · simp [h]
theorem mask_lt (q k : Nat) (h : q + k ≤ 4) : (2 ^ (8 * k) - 1) * 2 ^ (8 * q) < 4294967296 := by
  have h1 : 2 ^ (8 * k) * 2 ^ (8 * q) ≤ 2 ^ 32 := by rw [← Nat.pow_add]; exact Nat.pow_le_pow_right (by omega) (by omega)
  have h2 : (2 ^ (8 * k) - 1) * 2 ^ (8 * q) < 2 ^ (8 * k) * 2 ^ (8 * q) := Nat.mul_lt_mul_of_pos_right (by have := Nat.two_pow_pos (8 * k); omega) (Nat.two_pow_pos _)
  omega
theorem not_mask_bit (m n : Nat) (hm : m < 4294967296) (h : n < 32) : (4294967295 - m).testBit n = !m.testBit n := by
  have := Nat.testBit_two_pow_sub_succ (x := m) (n := 32) (by simpa using hm) n
  rw [show (2 : Nat) ^ 32 - (m + 1) = 4294967295 - m by omega] at this
  rw [this]; simp [h]

/-- What is stored, byte by byte. -/
theorem byte_store (o p x : Int) (k i : Nat) (ho : U32 o) (hx : U32 x) (k1 : 1 ≤ k) (hk : (p % 4).toNat + k ≤ 4) (hi : i < 4) :
    byteV (storeV o p k x) i = if (p % 4).toNat ≤ i ∧ i < (p % 4).toNat + k then byteV x (i - (p % 4).toNat) else byteV o i := by
  rw [storeV_mod]
  obtain ⟨q, hq⟩ := Int.eq_ofNat_of_zero_le (show 0 ≤ p % 4 by omega)
  rw [hq] at hk ⊢
  clear hq
  simp only [Int.toNat_natCast] at hk ⊢
  obtain ⟨X, rfl⟩ := Int.eq_ofNat_of_zero_le ho.1
  obtain ⟨Y, rfl⟩ := Int.eq_ofNat_of_zero_le hx.1
  have h1 : X < 4294967296 := by have := ho.2; omega
  have h2 : Y < 4294967296 := by have := hx.2; omega
  have hm := mask_lt q k hk
  have e1 : (Y : Int) * 2 ^ ((q : Int) % 4 * 8).toNat % 4294967296 = ((Y * 2 ^ (8 * q) % 2 ^ 32 : Nat) : Int) := by
    rw [show ((q : Int) % 4 * 8).toNat = 8 * q by omega]
    simp
  unfold storeV
  rw [mask_nat q k hk k1, e1]
  have h3 : Y * 2 ^ (8 * q) % 2 ^ 32 < 4294967296 := Nat.mod_lt _ (by decide)
  rw [u32_andNot_nat X _ h1 hm, u32_and_nat _ _ h3 hm]
  have h4 : X &&& (4294967295 - (2 ^ (8 * k) - 1) * 2 ^ (8 * q)) < 4294967296 := Nat.lt_of_le_of_lt Nat.and_le_left h1
  have h5 : Y * 2 ^ (8 * q) % 2 ^ 32 &&& (2 ^ (8 * k) - 1) * 2 ^ (8 * q) < 4294967296 := Nat.lt_of_le_of_lt Nat.and_le_left h3
  rw [u32_or_nat _ _ h4 h5, byteV_nat, byteV_nat, byteV_nat]
  split
  · rename_i hh
    congr 1
    refine byte_eq fun t ht => ?_
    rw [Nat.testBit_or, Nat.testBit_and, Nat.testBit_and, not_mask_bit _ _ hm (by omega), mask_bit, Nat.testBit_mod_two_pow, Nat.testBit_mul_two_pow]
    have a1 : 8 * q ≤ 8 * i + t := by omega
    have a2 : 8 * i + t < 8 * (q + k) := by omega
    have a3 : 8 * i + t < 32 := by omega
    have a4 : 8 * i + t - 8 * q = 8 * (i - q) + t := by omega
    simp [a1, a2, a3, a4]
  · rename_i hh
    congr 1
    refine byte_eq fun t ht => ?_
    rw [Nat.testBit_or, Nat.testBit_and, Nat.testBit_and, not_mask_bit _ _ hm (by omega), mask_bit]
    have a : (decide (8 * q ≤ 8 * i + t) && decide (8 * i + t < 8 * (q + k))) = false := by
      by_cases c : 8 * q ≤ 8 * i + t
      · have : ¬ (8 * i + t < 8 * (q + k)) := by omega
        simp [this]
      · simp [c]
    rw [a]
    simp

/-- The lowest k + 1 bytes of a word, from those ahead. -/
theorem byte_next (x : Int) (q k : Nat) (hx : U32 x) (h : q + k < 4) : bits .or .u32 (x / 2 ^ (8 * q) % 2 ^ (8 * k)) (byteV x (q + k) * 2 ^ (8 * k) % 4294967296) = x / 2 ^ (8 * q) % 2 ^ (8 * (k + 1)) := by
  obtain ⟨X, rfl⟩ := Int.eq_ofNat_of_zero_le hx.1
  rw [byteV_nat]
  have h1 : X / 2 ^ (8 * (q + k)) % 2 ^ 8 * 2 ^ (8 * k) < 2 ^ 8 * 2 ^ (8 * k) := Nat.mul_lt_mul_of_pos_right (Nat.mod_lt _ (by decide)) (Nat.two_pow_pos _)
  have h2 : 2 ^ 8 * 2 ^ (8 * k) ≤ 2 ^ 32 := by rw [← Nat.pow_add]; exact Nat.pow_le_pow_right (by omega) (by omega)
  have h3 : X / 2 ^ (8 * q) % 2 ^ (8 * k) < 2 ^ (8 * k) := Nat.mod_lt _ (Nat.two_pow_pos _)
  have h4 : 2 ^ (8 * k) ≤ 2 ^ 32 := Nat.pow_le_pow_right (by omega) (by omega)
  have e1 : ((X / 2 ^ (8 * (q + k)) % 2 ^ 8 : Nat) : Int) * 2 ^ (8 * k) % 4294967296 = ((X / 2 ^ (8 * (q + k)) % 2 ^ 8 * 2 ^ (8 * k) : Nat) : Int) := by
    have : ((X / 2 ^ (8 * (q + k)) % 2 ^ 8 * 2 ^ (8 * k) : Nat) : Int) = ((X / 2 ^ (8 * (q + k)) % 2 ^ 8 : Nat) : Int) * 2 ^ (8 * k) := by rw [Int.natCast_mul]; simp
    rw [← this]
    omega
  have e2 : (X : Int) / 2 ^ (8 * q) % 2 ^ (8 * k) = ((X / 2 ^ (8 * q) % 2 ^ (8 * k) : Nat) : Int) := by simp
  have e3 : (X : Int) / 2 ^ (8 * q) % 2 ^ (8 * (k + 1)) = ((X / 2 ^ (8 * q) % 2 ^ (8 * (k + 1)) : Nat) : Int) := by simp
  rw [e1, e2, e3, u32_or_nat _ _ (by omega) (by omega)]
  congr 1
  rw [Nat.or_comm, Nat.mul_comm _ (2 ^ (8 * k)), ← Nat.two_pow_add_eq_or_of_lt h3]
  rw [show 8 * (k + 1) = 8 * k + 8 by omega, Nat.pow_add, Nat.mod_mul, Nat.div_div_eq_div_mul, ← Nat.pow_add, show 8 * q + 8 * k = 8 * (q + k) by omega]
  omega
theorem bits_low (x : Int) (q k : Nat) (hx : U32 x) (h : q + k ≤ 4) (k1 : 1 ≤ k) : bitsV x (q * 8) (8 * k) = x / 2 ^ (8 * q) % 2 ^ (8 * k) := by
  have := bitsV_int hx (8 * q) (8 * k) (by omega) (by omega) (by omega)
  rw [← this]
  congr 1
  omega
end Go.Proofs.Ytbfliilabkjkgaa
