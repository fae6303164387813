/-
  What Sext and Bits come to, as quotients and rests; what Names makes.
-/
import Derived.Test.YtmkkilmhghiidaaWords
namespace Go.Proofs.Ytmkkilmhghiidaa
open Go.RowKit

theorem div_mul_pow (x p q : Nat) : x * 2 ^ p % 2 ^ (p + q) = x % 2 ^ q * 2 ^ p := by
  rw [Nat.pow_add, Nat.mul_comm (2 ^ p), Nat.mul_mod_mul_right]
theorem mod_pow_div (x l n : Nat) : x % 2 ^ (l + n) / 2 ^ l = x / 2 ^ l % 2 ^ n := by
  rw [Nat.pow_add, Nat.mod_mul_right_div_self]
/-- n bits from the bit lo on, as a rest of a quotient. -/
theorem bitsV_nat (x l n : Nat) (hl : l < 32) (hn : 1 ≤ n) (h : l + n ≤ 32) : bitsV x l n = ((x / 2 ^ l % 2 ^ n : Nat) : Int) := by
  unfold bitsV
  rw [if_neg (by omega)]
  have e1 : (32 - (l : Int) - (n : Int)).toNat = 32 - l - n := by omega
  have e2 : (32 - (n : Int)).toNat = (32 - l - n) + l := by omega
  rw [e1, e2]
  have e3 : (4294967296 : Int) = ((2 ^ ((32 - l - n) + (l + n)) : Nat) : Int) := by
    have : (32 - l - n) + (l + n) = 32 := by omega
    rw [this]; rfl
  have e4 : (x : Int) * 2 ^ (32 - l - n) % 4294967296 / 2 ^ ((32 - l - n) + l) = ((x * 2 ^ (32 - l - n) % 2 ^ ((32 - l - n) + (l + n)) / 2 ^ ((32 - l - n) + l) : Nat) : Int) := by
    rw [e3]; simp
  rw [e4, div_mul_pow, Nat.pow_add 2 (32 - l - n) l, ← Nat.div_div_eq_div_mul, Nat.mul_div_cancel _ (Nat.two_pow_pos _), mod_pow_div]

theorem upto32 {K : Nat} (h : 1 ≤ K) (h' : K ≤ 32) : K = 1 ∨ K = 2 ∨ K = 3 ∨ K = 4 ∨ K = 5 ∨ K = 6 ∨ K = 7 ∨ K = 8 ∨ K = 9 ∨ K = 10 ∨ K = 11 ∨ K = 12 ∨ K = 13 ∨ K = 14 ∨ K = 15 ∨ K = 16 ∨ K = 17 ∨ K = 18 ∨ K = 19 ∨ K = 20 ∨ K = 21 ∨ K = 22 ∨ K = 23 ∨ K = 24 ∨ K = 25 ∨ K = 26 ∨ K = 27 ∨ K = 28 ∨ K = 29 ∨ K = 30 ∨ K = 31 ∨ K = 32 := by omega
theorem sext_low {x : Int} (K : Nat) (hx : U32 x) (h : 1 ≤ K) (h' : K ≤ 32) : sextV x K % 2 ^ K = x % 2 ^ K := by
  obtain ⟨h0, h1⟩ := hx
  unfold sextV wrap32
  rw [if_neg (by omega)]
  rcases upto32 h h' with rfl | rfl | rfl | rfl | rfl | rfl | rfl | rfl | rfl | rfl | rfl | rfl | rfl | rfl | rfl | rfl | rfl | rfl | rfl | rfl | rfl | rfl | rfl | rfl | rfl | rfl | rfl | rfl | rfl | rfl | rfl | rfl <;> simp only [Int.reducePow, Int.reduceSub, Int.reduceToNat, Int.cast_ofNat_Int] <;> omega
theorem sext_top {x : Int} (K : Nat) (hx : U32 x) (h : 1 ≤ K) (h' : K ≤ 32) : sextV x K / 2 ^ K = sextV x K / 2147483648 * (2 ^ (32 - K) - 1) := by
  obtain ⟨h0, h1⟩ := hx
  unfold sextV wrap32
  rw [if_neg (by omega)]
  rcases upto32 h h' with rfl | rfl | rfl | rfl | rfl | rfl | rfl | rfl | rfl | rfl | rfl | rfl | rfl | rfl | rfl | rfl | rfl | rfl | rfl | rfl | rfl | rfl | rfl | rfl | rfl | rfl | rfl | rfl | rfl | rfl | rfl | rfl <;> simp only [Int.reducePow, Int.reduceSub, Int.reduceToNat, Int.cast_ofNat_Int, Nat.reduceSub] <;> omega

theorem bits1 {x : Int} (k : Int) (hx : U32 x) (h0 : 0 ≤ k) (h1 : k < 31) : (bits .or .u32 (bitsV x (1 + k) (32 - (1 + k)) * 2 ^ (1 + k).toNat % 4294967296) (bitsV x 0 (1 + k)) == x) = true := by
  refine beq_of ?_
  obtain ⟨n, rfl⟩ := Int.eq_ofNat_of_zero_le hx.1
  obtain ⟨j, rfl⟩ := Int.eq_ofNat_of_zero_le h0
  have hn : n < 2 ^ 32 := by have := hx.2; omega
  have e1 : bitsV n (1 + (j : Int)) (32 - (1 + j)) = ((n / 2 ^ (1 + j) : Nat) : Int) := by
    have h := bitsV_nat n (1 + j) (32 - (1 + j)) (by omega) (by omega) (by omega)
    have c : ((32 - (1 + j) : Nat) : Int) = 32 - (1 + (j : Int)) := by omega
    rw [c, Int.natCast_add] at h
    rw [show ((1 : Nat) : Int) = 1 from rfl] at h
    rw [h, Nat.mod_eq_of_lt]
    rw [Nat.div_lt_iff_lt_mul (Nat.two_pow_pos _), ← Nat.pow_add]
    have : 32 - (1 + j) + (1 + j) = 32 := by omega
    rw [this]; exact hn
  have e2 : bitsV n 0 (1 + (j : Int)) = ((n % 2 ^ (1 + j) : Nat) : Int) := by
    have h := bitsV_nat n 0 (1 + j) (by omega) (by omega) (by omega)
    rw [Int.natCast_add] at h
    rw [show ((1 : Nat) : Int) = 1 from rfl, show ((0 : Nat) : Int) = 0 from rfl] at h
    rw [h]; simp
  have e3 : (1 + (j : Int)).toNat = 1 + j := by omega
  have e5 : n / 2 ^ (1 + j) * 2 ^ (1 + j) < 4294967296 := Nat.lt_of_le_of_lt (Nat.div_mul_le_self _ _) hn
  have e4 : ((n / 2 ^ (1 + j) : Nat) : Int) * 2 ^ (1 + j) % 4294967296 = ((2 ^ (1 + j) * (n / 2 ^ (1 + j)) : Nat) : Int) := by
    have c : ((n / 2 ^ (1 + j) : Nat) : Int) * 2 ^ (1 + j) = ((n / 2 ^ (1 + j) * 2 ^ (1 + j) : Nat) : Int) := by simp
    rw [c, Nat.mul_comm (2 ^ (1 + j))]
    omega
  rw [e1, e2, e3, e4]
  have e6 : n % 2 ^ (1 + j) < 4294967296 := Nat.lt_of_le_of_lt (Nat.mod_le _ _) hn
  rw [Nat.mul_comm] at e5
  rw [u32_or_nat _ _ e5 e6, ← Nat.two_pow_add_eq_or_of_lt (Nat.mod_lt _ (Nat.two_pow_pos _)), Nat.div_add_mod]
theorem bitsV_low {x : Int} (m : Int) (hx : U32 x) (h0 : 0 ≤ m) (h1 : m < 32) : bitsV x 0 (1 + m) = x % 2 ^ (1 + m).toNat := by
  obtain ⟨n, rfl⟩ := Int.eq_ofNat_of_zero_le hx.1
  obtain ⟨j, rfl⟩ := Int.eq_ofNat_of_zero_le h0
  have e3 : (1 + (j : Int)).toNat = 1 + j := by omega
  have h := bitsV_nat n 0 (1 + j) (by omega) (by omega) (by omega)
  rw [Int.natCast_add] at h
  rw [show ((1 : Nat) : Int) = 1 from rfl, show ((0 : Nat) : Int) = 0 from rfl] at h
  rw [h, e3]; simp
theorem bits2 {x : Int} (m : Int) (hx : U32 x) (h0 : 0 ≤ m) (h1 : m < 32) : (bitsV (sextV x (1 + m)) 0 (1 + m) == bitsV x 0 (1 + m)) = true := by
  refine beq_of ?_
  rw [bitsV_low m (sextV_u32 _ _) h0 h1, bitsV_low m hx h0 h1]
  have h := sext_low (1 + m).toNat hx (by omega) (by omega)
  have c : (((1 + m).toNat : Nat) : Int) = 1 + m := by omega
  rw [c] at h
  exact h
theorem bitsV_high {x : Int} (m : Int) (hx : U32 x) (h0 : 0 ≤ m) (h1 : m < 31) : bitsV x (1 + m) (32 - (1 + m)) = x / 2 ^ (1 + m).toNat := by
  obtain ⟨n, rfl⟩ := Int.eq_ofNat_of_zero_le hx.1
  obtain ⟨j, rfl⟩ := Int.eq_ofNat_of_zero_le h0
  have hn : n < 2 ^ 32 := by have := hx.2; omega
  have h := bitsV_nat n (1 + j) (32 - (1 + j)) (by omega) (by omega) (by omega)
  have c : ((32 - (1 + j) : Nat) : Int) = 32 - (1 + (j : Int)) := by omega
  rw [c, Int.natCast_add] at h
  rw [show ((1 : Nat) : Int) = 1 from rfl] at h
  have e3 : (1 + (j : Int)).toNat = 1 + j := by omega
  rw [h, e3, Nat.mod_eq_of_lt]
  · simp
  · rw [Nat.div_lt_iff_lt_mul (Nat.two_pow_pos _), ← Nat.pow_add]
    have : 32 - (1 + j) + (1 + j) = 32 := by omega
    rw [this]; exact hn

def namesObj : Obj := .cells #[Value.string { data := #[97, 100, 100] }, Value.string { data := #[115, 117, 98] }, Value.string { data := #[115, 108, 108] }, Value.string { data := #[115, 108, 116] }, Value.string { data := #[115, 108, 116, 117] }, Value.string { data := #[120, 111, 114] }, Value.string { data := #[115, 114, 108] }, Value.string { data := #[115, 114, 97] }, Value.string { data := #[111, 114] }, Value.string { data := #[97, 110, 100] }, Value.string { data := #[109, 117, 108] }, Value.string { data := #[109, 117, 108, 104] }, Value.string { data := #[109, 117, 108, 104, 115, 117] }, Value.string { data := #[109, 117, 108, 104, 117] }, Value.string { data := #[100, 105, 118] }, Value.string { data := #[100, 105, 118, 117] }, Value.string { data := #[114, 101, 109] }, Value.string { data := #[114, 101, 109, 117] }] 9
theorem names (w : World) :
    Calls Try.prog 19 #[] w fun e w' => e = .returned (.slice (some ⟨w.heap.size, 0, none⟩) 18 18) ∧ w' = w.alloc namesObj := by
  go_enter Try.func19, Try.ntmps19
  go_wp2
  go_ret
  exact ⟨rfl, rfl⟩

end Go.Proofs.Ytmkkilmhghiidaa
