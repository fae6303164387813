/-
  Fields of a word as quotients and rests; numbers with a sign; words side by side: no Go in sight.
-/
import Derived.Test.YtfjppgfnjjmkpaaPlain
namespace Go.Proofs.Ytfjppgfnjjmkpaa
open Go.RowKit

theorem div_mul_pow (x p q : Nat) : x * 2 ^ p % 2 ^ (p + q) = x % 2 ^ q * 2 ^ p := by
  rw [Nat.pow_add, Nat.mul_comm (2 ^ p), Nat.mul_mod_mul_right]
theorem mod_pow_div (x l n : Nat) : x % 2 ^ (l + n) / 2 ^ l = x / 2 ^ l % 2 ^ n := by
  rw [Nat.pow_add, Nat.mod_mul_right_div_self]
/-- n bits from the bit lo on, as a rest of a quotient. -/
theorem bitsV_nat (x l n : Nat) (hl : l < 32) (hn : 1 ≤ n) (h : l + n ≤ 32) : bitsV x l n = ((x / 2 ^ l % 2 ^ n : Nat) : Int) := by
  unfold bitsV
  rw [if_neg (by omega)]
  have e1 : (32 - (l : Int) - (n : Int)).toNat = 32 - l - n := by omega
  have e2 : (32 - (n : Int)).toNat = (32 - l - n) + l := by omega
  rw [e1, e2]
  have e3 : (4294967296 : Int) = ((2 ^ ((32 - l - n) + (l + n)) : Nat) : Int) := by
    have : (32 - l - n) + (l + n) = 32 := by omega
    rw [this]; rfl
  have e4 : (x : Int) * 2 ^ (32 - l - n) % 4294967296 / 2 ^ ((32 - l - n) + l) = ((x * 2 ^ (32 - l - n) % 2 ^ ((32 - l - n) + (l + n)) / 2 ^ ((32 - l - n) + l) : Nat) : Int) := by
    rw [e3]; simp
  rw [e4, div_mul_pow, Nat.pow_add 2 (32 - l - n) l, ← Nat.div_div_eq_div_mul, Nat.mul_div_cancel _ (Nat.two_pow_pos _), mod_pow_div]

theorem bitsV_int {x : Int} (hx : U32 x) (l n : Nat) (hl : l < 32) (hn : 1 ≤ n) (h : l + n ≤ 32) : bitsV x l n = x / 2 ^ l % 2 ^ n := by
  obtain ⟨X, rfl⟩ := Int.eq_ofNat_of_zero_le hx.1
  rw [bitsV_nat X l n hl hn h]
  simp

/-- Two words side by side: none of their bits meet. -/
theorem or_add {x y : Int} (k : Nat) (hk : k ≤ 32) (hx : U32 x) (hy : 0 ≤ y) (hy' : y < 2 ^ k) (hd : x % 2 ^ k = 0) : bits .or .u32 x y = x + y := by
  obtain ⟨X, rfl⟩ := Int.eq_ofNat_of_zero_le hx.1
  obtain ⟨Y, rfl⟩ := Int.eq_ofNat_of_zero_le hy
  have h1 : X < 4294967296 := by have := hx.2; omega
  have hY : Y < 2 ^ k := by exact_mod_cast hy'
  have h2 : Y < 4294967296 := Nat.lt_of_lt_of_le hY (Nat.le_trans (Nat.pow_le_pow_right (by omega) hk) (by decide))
  have hX : X % 2 ^ k = 0 := by exact_mod_cast hd
  have e : X = 2 ^ k * (X / 2 ^ k) := by
    have := Nat.div_add_mod X (2 ^ k)
    omega
  rw [u32_or_nat X Y h1 h2]
  rw [e, ← Nat.two_pow_add_eq_or_of_lt hY]
  rfl
end Go.Proofs.Ytfjppgfnjjmkpaa
