/-
  For every two words, the statement WordProducts of the Go text answers true: the halves of a product, with a sign and without; no condition beside the row's own.
-/
import Derived.Test.YtmkkilmhghiidaaWords
namespace Go.Proofs.Ytmkkilmhghiidaa
open Go.RowKit

theorem wrap32_low {a : Int} (ha : U32 a) (h : a < 2147483648) : wrap32 a = a := by
  obtain ⟨h0, h1⟩ := ha; unfold wrap32; omega
theorem wrap32_high {a : Int} (ha : U32 a) (h : 2147483648 ≤ a) : wrap32 a = a - 4294967296 := by
  obtain ⟨h0, h1⟩ := ha; unfold wrap32; omega
theorem prod_bd {a b : Int} (ha : U32 a) (hb : U32 b) : 0 ≤ a * b ∧ a * b < 18446744073709551616 := by
  obtain ⟨h0, h1⟩ := ha
  obtain ⟨h2, h3⟩ := hb
  have h := mul_bd (a := a) (b := b) (A := 4294967295) (B := 4294967295) (by omega) (by omega) (by omega) (by omega)
  exact ⟨Int.mul_nonneg h0 h2, by omega⟩

/-- What the statement asks of 'mulhsu', by a's sign. -/
theorem hsu_low {a b : Int} (ha : U32 a) (hb : U32 b) (h : a < 2147483648) : wMulhsu a b = wMulhu a b := by
  have hp := prod_bd ha hb
  unfold wMulhsu wMulhu
  rw [wrap32_low ha h]; omega
theorem hsu_high {a b : Int} (ha : U32 a) (h : 2147483648 ≤ a) : wMulhsu a b = (wMulhu a b - b) % 4294967296 := by
  unfold wMulhsu wMulhu
  rw [wrap32_high ha h, Int.sub_mul]; omega
theorem h_low {a b : Int} (hb : U32 b) (h : b < 2147483648) : wMulh a b = wMulhsu a b := by
  unfold wMulhsu wMulh
  rw [wrap32_low hb h]
theorem h_high {a b : Int} (hb : U32 b) (h : 2147483648 ≤ b) : wMulh a b = (wMulhsu a b - a) % 4294967296 := by
  unfold wMulhsu wMulh
  rw [wrap32_high hb h, Int.mul_sub]
  have e : ∃ k, wrap32 a = a + 4294967296 * k := ⟨-((a + 2147483648) / 4294967296), by unfold wrap32; omega⟩
  obtain ⟨k, hk⟩ := e
  have e2 : wrap32 a * 4294967296 = a * 4294967296 + 18446744073709551616 * k := by rw [hk]; omega
  rw [e2]
  omega
theorem joined {a b : Int} (ha : U32 a) (hb : U32 b) : bits .or .u64 (wMulhu a b * 4294967296) (a * b % 4294967296) = a * b := by
  have hp := prod_bd ha hb
  unfold wMulhu
  generalize a * b = p at hp
  obtain ⟨n, rfl⟩ := Int.eq_ofNat_of_zero_le hp.1
  have e1 : (n : Int) / 4294967296 * 4294967296 = ((2 ^ 32 * (n / 2 ^ 32) : Nat) : Int) := by omega
  have e2 : (n : Int) % 4294967296 = ((n % 2 ^ 32 : Nat) : Int) := by omega
  rw [e1, e2, u64_or_nat _ _ (by omega) (by omega), ← Nat.two_pow_add_eq_or_of_lt (Nat.mod_lt _ (by omega))]
  omega

set_option maxHeartbeats 1000000 in
theorem prod_ll (a b : Int) (ha : U32 a) (hb : U32 b) (hA : a < 2147483648) (hB : b < 2147483648) (w : World) :
    Calls Try.prog 5 #[.int .u32 a, .int .u32 b] w fun e w' => e = .returned (.bool true) ∧ w' = w := by
  have Ha : Hid (U32 a) := ha
  have Hb : Hid (U32 b) := hb
  have hl := opF_mul a b
  have hh := opF_mulhu a b
  have hs := opF_mulh a b
  have ht := opF_mulhsu a b
  have hj := joined ha hb
  have Hp := prod_bd ha hb
  have Hh : U32 (wMulhu a b) := by rw [← opF_mulhu]; exact opF_u32 _ ha hb
  have Hl : U32 (a * b % 4294967296) := by rw [← opF_mul]; exact opF_u32 _ ha hb
  have f1 := hsu_low ha hb hA
  have f2 := h_low (a := a) hb hB
  generalize hP : a * b = p at hl hj Hp Hl
  generalize p % 4294967296 = l at hl hj Hl
  generalize wMulhu a b = h at *
  generalize wMulhsu a b = t at *
  generalize wMulh a b = s at *
  obtain ⟨p0, p1⟩ := Hp
  obtain ⟨l0, l1⟩ := Hl
  obtain ⟨h0, h1⟩ := Hh
  obtain ⟨ha0, ha1⟩ := ha
  obtain ⟨hb0, hb1⟩ := hb
  go_enter Try.func5, Try.ntmps5
  go_wp2_with fail
  refine (op_ _ _ _ Ha Hb _).mono ?_
  rintro e w' ⟨rfl, rfl⟩
  go_wp2_with fail
  refine (op_ _ _ _ Ha Hb _).mono ?_
  rintro e w' ⟨rfl, rfl⟩
  go_wp2_with fail
  refine (op_ _ _ _ Ha Hb _).mono ?_
  rintro e w' ⟨rfl, rfl⟩
  go_wp2_with fail
  refine (op_ _ _ _ Ha Hb _).mono ?_
  rintro e w' ⟨rfl, rfl⟩
  go_wp2_with fail
  refine (awake _).mono ?_
  rintro e w' ⟨rfl, rfl⟩
  go_wp2_with fail
  go_ret
  exact ⟨rfl, rfl⟩

set_option maxHeartbeats 1000000 in
theorem prod_lh (a b : Int) (ha : U32 a) (hb : U32 b) (hA : a < 2147483648) (hB : 2147483648 ≤ b) (w : World) :
    Calls Try.prog 5 #[.int .u32 a, .int .u32 b] w fun e w' => e = .returned (.bool true) ∧ w' = w := by
  have Ha : Hid (U32 a) := ha
  have Hb : Hid (U32 b) := hb
  have hl := opF_mul a b
  have hh := opF_mulhu a b
  have hs := opF_mulh a b
  have ht := opF_mulhsu a b
  have hj := joined ha hb
  have Hp := prod_bd ha hb
  have Hh : U32 (wMulhu a b) := by rw [← opF_mulhu]; exact opF_u32 _ ha hb
  have Hl : U32 (a * b % 4294967296) := by rw [← opF_mul]; exact opF_u32 _ ha hb
  have f1 := hsu_low ha hb hA
  have f2 := h_high (a := a) hb hB
  generalize hP : a * b = p at hl hj Hp Hl
  generalize p % 4294967296 = l at hl hj Hl
  generalize wMulhu a b = h at *
  generalize wMulhsu a b = t at *
  generalize wMulh a b = s at *
  obtain ⟨p0, p1⟩ := Hp
  obtain ⟨l0, l1⟩ := Hl
  obtain ⟨h0, h1⟩ := Hh
  obtain ⟨ha0, ha1⟩ := ha
  obtain ⟨hb0, hb1⟩ := hb
  go_enter Try.func5, Try.ntmps5
  go_wp2_with fail
  refine (op_ _ _ _ Ha Hb _).mono ?_
  rintro e w' ⟨rfl, rfl⟩
  go_wp2_with fail
  refine (op_ _ _ _ Ha Hb _).mono ?_
  rintro e w' ⟨rfl, rfl⟩
  go_wp2_with fail
  refine (op_ _ _ _ Ha Hb _).mono ?_
  rintro e w' ⟨rfl, rfl⟩
  go_wp2_with fail
  refine (op_ _ _ _ Ha Hb _).mono ?_
  rintro e w' ⟨rfl, rfl⟩
  go_wp2_with fail
  refine (awake _).mono ?_
  rintro e w' ⟨rfl, rfl⟩
  go_wp2_with fail
  go_ret
  exact ⟨rfl, rfl⟩

set_option maxHeartbeats 1000000 in
theorem prod_hl (a b : Int) (ha : U32 a) (hb : U32 b) (hA : 2147483648 ≤ a) (hB : b < 2147483648) (w : World) :
    Calls Try.prog 5 #[.int .u32 a, .int .u32 b] w fun e w' => e = .returned (.bool true) ∧ w' = w := by
  have Ha : Hid (U32 a) := ha
  have Hb : Hid (U32 b) := hb
  have hl := opF_mul a b
  have hh := opF_mulhu a b
  have hs := opF_mulh a b
  have ht := opF_mulhsu a b
  have hj := joined ha hb
  have Hp := prod_bd ha hb
  have Hh : U32 (wMulhu a b) := by rw [← opF_mulhu]; exact opF_u32 _ ha hb
  have Hl : U32 (a * b % 4294967296) := by rw [← opF_mul]; exact opF_u32 _ ha hb
  have f1 := hsu_high (b := b) ha hA
  have f2 := h_low (a := a) hb hB
  generalize hP : a * b = p at hl hj Hp Hl
  generalize p % 4294967296 = l at hl hj Hl
  generalize wMulhu a b = h at *
  generalize wMulhsu a b = t at *
  generalize wMulh a b = s at *
  obtain ⟨p0, p1⟩ := Hp
  obtain ⟨l0, l1⟩ := Hl
  obtain ⟨h0, h1⟩ := Hh
  obtain ⟨ha0, ha1⟩ := ha
  obtain ⟨hb0, hb1⟩ := hb
  go_enter Try.func5, Try.ntmps5
  go_wp2_with fail
  refine (op_ _ _ _ Ha Hb _).mono ?_
  rintro e w' ⟨rfl, rfl⟩
  go_wp2_with fail
  refine (op_ _ _ _ Ha Hb _).mono ?_
  rintro e w' ⟨rfl, rfl⟩
  go_wp2_with fail
  refine (op_ _ _ _ Ha Hb _).mono ?_
  rintro e w' ⟨rfl, rfl⟩
  go_wp2_with fail
  refine (op_ _ _ _ Ha Hb _).mono ?_
  rintro e w' ⟨rfl, rfl⟩
  go_wp2_with fail
  refine (awake _).mono ?_
  rintro e w' ⟨rfl, rfl⟩
  go_wp2_with fail
  go_ret
  exact ⟨rfl, rfl⟩

set_option maxHeartbeats 1000000 in
theorem prod_hh (a b : Int) (ha : U32 a) (hb : U32 b) (hA : 2147483648 ≤ a) (hB : 2147483648 ≤ b) (w : World) :
    Calls Try.prog 5 #[.int .u32 a, .int .u32 b] w fun e w' => e = .returned (.bool true) ∧ w' = w := by
  have Ha : Hid (U32 a) := ha
  have Hb : Hid (U32 b) := hb
  have hl := opF_mul a b
  have hh := opF_mulhu a b
  have hs := opF_mulh a b
  have ht := opF_mulhsu a b
  have hj := joined ha hb
  have Hp := prod_bd ha hb
  have Hh : U32 (wMulhu a b) := by rw [← opF_mulhu]; exact opF_u32 _ ha hb
  have Hl : U32 (a * b % 4294967296) := by rw [← opF_mul]; exact opF_u32 _ ha hb
  have f1 := hsu_high (b := b) ha hA
  have f2 := h_high (a := a) hb hB
  generalize hP : a * b = p at hl hj Hp Hl
  generalize p % 4294967296 = l at hl hj Hl
  generalize wMulhu a b = h at *
  generalize wMulhsu a b = t at *
  generalize wMulh a b = s at *
  obtain ⟨p0, p1⟩ := Hp
  obtain ⟨l0, l1⟩ := Hl
  obtain ⟨h0, h1⟩ := Hh
  obtain ⟨ha0, ha1⟩ := ha
  obtain ⟨hb0, hb1⟩ := hb
  go_enter Try.func5, Try.ntmps5
  go_wp2_with fail
  refine (op_ _ _ _ Ha Hb _).mono ?_
  rintro e w' ⟨rfl, rfl⟩
  go_wp2_with fail
  refine (op_ _ _ _ Ha Hb _).mono ?_
  rintro e w' ⟨rfl, rfl⟩
  go_wp2_with fail
  refine (op_ _ _ _ Ha Hb _).mono ?_
  rintro e w' ⟨rfl, rfl⟩
  go_wp2_with fail
  refine (op_ _ _ _ Ha Hb _).mono ?_
  rintro e w' ⟨rfl, rfl⟩
  go_wp2_with fail
  refine (awake _).mono ?_
  rintro e w' ⟨rfl, rfl⟩
  go_wp2_with fail
  go_ret
  exact ⟨rfl, rfl⟩

theorem wordProducts (a b : Int) (ha : U32 a) (hb : U32 b) (w : World) :
    Calls Try.prog 5 #[.int .u32 a, .int .u32 b] w fun e w' => e = .returned (.bool true) ∧ w' = w := by
  by_cases hA : a < 2147483648
  · by_cases hB : b < 2147483648
    · exact prod_ll a b ha hb hA hB w
    · exact prod_lh a b ha hb hA (by omega) w
  · by_cases hB : b < 2147483648
    · exact prod_hl a b ha hb (by omega) hB w
    · exact prod_hh a b ha hb (by omega) (by omega) w
end Go.Proofs.Ytmkkilmhghiidaa
