/-
  For every two words, the statement WordMoves of the Go text answers true: moves up and down, with a sign and without; no condition beside the row's own.
-/
import Derived.Test.YtmkkilmhghiidaaWords
namespace Go.Proofs.Ytmkkilmhghiidaa
open Go.RowKit

theorem and_kept (a K : Nat) (hK : K < 32) : a &&& (2 ^ (31 - K) * 2 - 1) = a % 2 ^ (32 - K) := by
  have e : 2 ^ (31 - K) * 2 = 2 ^ (32 - K) := by rw [← Nat.pow_succ]; congr 1; omega
  rw [e, Nat.and_two_pow_sub_one_eq_mod]
theorem and_upper (a K : Nat) (ha : a < 2 ^ 32) (hK : K < 32) : a &&& (2 ^ 32 - 2 ^ K) = 2 ^ K * (a / 2 ^ K) := by
  have e : 2 ^ 32 - 2 ^ K = 2 ^ K * (2 ^ (32 - K) - 1) := by
    rw [Nat.mul_sub, ← Nat.pow_add, Nat.mul_one]; congr 2; omega
  rw [e]
  apply Nat.eq_of_testBit_eq
  intro j
  rw [Nat.testBit_and, Nat.testBit_two_pow_mul, Nat.testBit_two_pow_mul, Nat.testBit_two_pow_sub_one, Nat.testBit_div_two_pow]
  by_cases h : K ≤ j
  · have e1 : j - K + K = j := by omega
    rw [e1]
    by_cases h2 : j < 32
    · have e2 : j - K < 32 - K := by omega
      simp [h, e2]
    · have e3 : a.testBit j = false := Nat.testBit_lt_two_pow (Nat.lt_of_lt_of_le ha (Nat.pow_le_pow_right (by omega) (by omega)))
      simp [e3]
  · simp [h]

theorem thirtytwo {K : Nat} (h : K < 32) : K = 0 ∨ K = 1 ∨ K = 2 ∨ K = 3 ∨ K = 4 ∨ K = 5 ∨ K = 6 ∨ K = 7 ∨ K = 8 ∨ K = 9 ∨ K = 10 ∨ K = 11 ∨ K = 12 ∨ K = 13 ∨ K = 14 ∨ K = 15 ∨ K = 16 ∨ K = 17 ∨ K = 18 ∨ K = 19 ∨ K = 20 ∨ K = 21 ∨ K = 22 ∨ K = 23 ∨ K = 24 ∨ K = 25 ∨ K = 26 ∨ K = 27 ∨ K = 28 ∨ K = 29 ∨ K = 30 ∨ K = 31 := by omega

theorem up_down (a : Int) (K : Nat) (hK : K < 32) : a * 2 ^ K % 4294967296 / 2 ^ K = a % 2 ^ (32 - K) := by
  rcases thirtytwo hK with rfl | rfl | rfl | rfl | rfl | rfl | rfl | rfl | rfl | rfl | rfl | rfl | rfl | rfl | rfl | rfl | rfl | rfl | rfl | rfl | rfl | rfl | rfl | rfl | rfl | rfl | rfl | rfl | rfl | rfl | rfl | rfl <;> simp only [Nat.reduceSub, Int.reducePow] <;> omega
theorem sra_sign {a A : Int} (K : Nat) (hK : K < 32) (ha : U32 a) (hA : A = a ∧ a < 2147483648 ∨ A = a - 4294967296 ∧ 2147483648 ≤ a) : 2147483648 ≤ A / 2 ^ K % 4294967296 ↔ 2147483648 ≤ a := by
  obtain ⟨h0, h1⟩ := ha
  rcases thirtytwo hK with rfl | rfl | rfl | rfl | rfl | rfl | rfl | rfl | rfl | rfl | rfl | rfl | rfl | rfl | rfl | rfl | rfl | rfl | rfl | rfl | rfl | rfl | rfl | rfl | rfl | rfl | rfl | rfl | rfl | rfl | rfl | rfl <;> simp only [Int.reducePow] <;> omega
theorem sra_back {a A : Int} (K : Nat) (hK : K < 32) (ha : U32 a) (hA : A = a ∧ a < 2147483648 ∨ A = a - 4294967296 ∧ 2147483648 ≤ a) : A / 2 ^ K % 4294967296 * 2 ^ K % 4294967296 = 2 ^ K * (a / 2 ^ K) := by
  obtain ⟨h0, h1⟩ := ha
  rcases thirtytwo hK with rfl | rfl | rfl | rfl | rfl | rfl | rfl | rfl | rfl | rfl | rfl | rfl | rfl | rfl | rfl | rfl | rfl | rfl | rfl | rfl | rfl | rfl | rfl | rfl | rfl | rfl | rfl | rfl | rfl | rfl | rfl | rfl <;> simp only [Int.reducePow] <;> omega
theorem wrap32_two {a : Int} (ha : U32 a) : wrap32 a = a ∧ a < 2147483648 ∨ wrap32 a = a - 4294967296 ∧ 2147483648 ≤ a := by
  obtain ⟨h0, h1⟩ := ha; unfold wrap32; omega
theorem toNat_pow (K : Nat) : ((2 : Int) ^ K).toNat = 2 ^ K := by
  have : ((2 : Int) ^ K) = ((2 ^ K : Nat) : Int) := by simp
  rw [this, Int.toNat_natCast]
theorem pow_le32 (K : Nat) (hK : K < 32) : (1 : Int) ≤ 2 ^ K ∧ (2 : Int) ^ K ≤ 2147483648 ∧ (1 : Int) ≤ 2 ^ (31 - K) ∧ (2 : Int) ^ (31 - K) ≤ 2147483648 := by
  rcases thirtytwo hK with rfl | rfl | rfl | rfl | rfl | rfl | rfl | rfl | rfl | rfl | rfl | rfl | rfl | rfl | rfl | rfl | rfl | rfl | rfl | rfl | rfl | rfl | rfl | rfl | rfl | rfl | rfl | rfl | rfl | rfl | rfl | rfl <;> simp

theorem move1 {a : Int} (b : Int) (ha : U32 a) : (opF [115, 114, 108] (opF [115, 108, 108] a b) b == bits BinOp.and IntKind.u32 a ((2 ^ (31 - b % 32).toNat % 4294967296 * 2 - 1) % 4294967296)) = true := by
  refine beq_of ?_
  rw [opF_srl, opF_sll]
  unfold wSrl wSll
  obtain ⟨h0, h1⟩ := ha
  obtain ⟨K, hK⟩ := Int.eq_ofNat_of_zero_le (show 0 ≤ b % 32 by omega)
  have hlt : K < 32 := by omega
  have e31 : (31 - b % 32).toNat = 31 - K := by omega
  have eK : (b % 32).toNat = K := by omega
  rw [e31, eK, up_down a K hlt]
  obtain ⟨p1, p2, p3, p4⟩ := pow_le32 K hlt
  have e : ((2 : Int) ^ (31 - K) % 4294967296 * 2 - 1) % 4294967296 = 2 ^ (31 - K) * 2 - 1 := by
    generalize (2 : Int) ^ (31 - K) = P at *
    omega
  rw [e, u32_and a _ h0 h1 (by omega) (by omega)]
  have e2 : ((2 : Int) ^ (31 - K) * 2 - 1).toNat = 2 ^ (31 - K) * 2 - 1 := by
    have := toNat_pow (31 - K)
    generalize (2 : Int) ^ (31 - K) = P at *
    omega
  rw [e2, and_kept _ _ hlt]
  obtain ⟨n, rfl⟩ := Int.eq_ofNat_of_zero_le h0
  simp
theorem move2 (a b : Int) : (opF [115, 108, 108] a b == opF [115, 108, 108] a (b % 32)) = true := by
  refine beq_of ?_
  rw [opF_sll, opF_sll]
  unfold wSll
  rw [Int.emod_emod_of_dvd b (Int.dvd_refl 32)]
theorem move3 (a b : Int) : (opF [115, 114, 108] a b == a / 2 ^ (b % 32).toNat) = true := beq_of rfl
theorem move4 {a : Int} (b : Int) (ha : U32 a) : decide (2147483648 ≤ opF [115, 114, 97] a b) = decide (2147483648 ≤ a) := by
  rw [opF_sra]
  unfold wSra
  have h := sra_sign (b % 32).toNat (by omega) ha (wrap32_two ha)
  exact decide_eq_decide.mpr h
theorem move5 {a : Int} (b : Int) (ha : U32 a) : (opF [115, 108, 108] (opF [115, 114, 97] a b) b == bits BinOp.andNot IntKind.u32 a ((2 ^ (b % 32).toNat - 1) % 4294967296)) = true := by
  refine beq_of ?_
  rw [opF_sll, opF_sra]
  unfold wSll wSra
  have hlt : (b % 32).toNat < 32 := by omega
  generalize (b % 32).toNat = K at *
  rw [sra_back K hlt ha (wrap32_two ha)]
  obtain ⟨h0, h1⟩ := ha
  obtain ⟨p1, p2, p3, p4⟩ := pow_le32 K hlt
  have e : ((2 : Int) ^ K - 1) % 4294967296 = 2 ^ K - 1 := by
    generalize (2 : Int) ^ K = P at *
    omega
  rw [e, u32_andNot a _ h0 h1 (by omega) (by omega)]
  have e2 : 4294967295 - ((2 : Int) ^ K - 1).toNat = 2 ^ 32 - 2 ^ K := by
    have := toNat_pow K
    generalize (2 : Int) ^ K = P at *
    omega
  rw [e2, and_upper _ _ (by omega) hlt]
  obtain ⟨n, rfl⟩ := Int.eq_ofNat_of_zero_le h0
  simp

set_option maxHeartbeats 1000000 in
theorem wordMoves (a b : Int) (ha : U32 a) (hb : U32 b) (w : World) :
    Calls Try.prog 6 #[.int .u32 a, .int .u32 b] w fun e w' => e = .returned (.bool true) ∧ w' = w := by
  have Ha : Hid (U32 a) := ha
  have Hb : Hid (U32 b) := hb
  have k0 : 0 ≤ b % 32 := by omega
  have k1 : b % 32 < 32 := by omega
  have Hu := opF_u32 [115, 108, 108] ha hb
  have Hs := opF_u32 [115, 114, 97] ha hb
  have f1 := move1 b ha
  have f2 := move2 a b
  have f3 := move3 a b
  have f4 := move4 b ha
  have f5 := move5 b ha
  generalize hk : b % 32 = k at *
  generalize hu : opF [115, 108, 108] a b = u at *
  generalize hs : opF [115, 114, 97] a b = s at *
  generalize hd : opF [115, 114, 108] u b = d at *
  generalize hB : opF [115, 108, 108] s b = B at *
  generalize hv : opF [115, 108, 108] a k = v at *
  generalize hl : opF [115, 114, 108] a b = l at *
  have HU : Hid (U32 u) := Hu
  have HS : Hid (U32 s) := Hs
  have HK : Hid (U32 k) := ⟨by omega, by omega⟩
  obtain ⟨u0, u1⟩ := Hu
  obtain ⟨s0, s1⟩ := Hs
  obtain ⟨ha0, ha1⟩ := ha
  obtain ⟨hb0, hb1⟩ := hb
  go_enter Try.func6, Try.ntmps6
  go_wp2_with fail
  refine (op_ _ _ _ Ha Hb _).mono ?_
  rintro e w' ⟨rfl, rfl⟩
  go_wp2_with fail
  refine (op_ _ _ _ HU Hb _).mono ?_
  rintro e w' ⟨rfl, rfl⟩
  go_wp2_with fail
  refine (op_ _ _ _ Ha Hb _).mono ?_
  rintro e w' ⟨rfl, rfl⟩
  go_wp2_with fail
  refine (op_ _ _ _ HS Hb _).mono ?_
  rintro e w' ⟨rfl, rfl⟩
  go_wp2_with fail
  refine (op_ _ _ _ Ha HK _).mono ?_
  rintro e w' ⟨rfl, rfl⟩
  go_wp2_with fail
  refine (op_ _ _ _ Ha Hb _).mono ?_
  rintro e w' ⟨rfl, rfl⟩
  go_wp2_with fail
  refine (awake _).mono ?_
  rintro e w' ⟨rfl, rfl⟩
  go_wp2_with fail
  go_ret
  exact ⟨rfl, rfl⟩
end Go.Proofs.Ytmkkilmhghiidaa
