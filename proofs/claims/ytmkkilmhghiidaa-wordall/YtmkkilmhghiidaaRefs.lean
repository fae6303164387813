/-
  What the document's own functions of words (as the statements bear them) make of any words: a contract each.
-/
import Derived.Test.YtmkkilmhghiidaaBitsm
import Derived.RowKit3
import Derived.Below
import Derived.Sort.Grow
namespace Go.Proofs.Ytmkkilmhghiidaa
open Go.RowKit

theorem rsigned (x : Int) (hx : U32 x) (w : World) :
    Calls Try.prog 28 #[.int .u32 x] w fun e w' => e = .returned (.int .i64 (wrap32 x)) ∧ w' = w := by
  obtain ⟨h0, h1⟩ := hx
  by_cases h : 2147483648 ≤ x
  · have e : wrap32 x = x - 4294967296 := by unfold wrap32; omega
    rw [e]
    clear e
    go_enter Try.func28, Try.ntmps28
    go_wp2
    go_ret
    exact ⟨rfl, rfl⟩
  · have e : wrap32 x = x := by unfold wrap32; omega
    rw [e]
    clear e
    go_enter Try.func28, Try.ntmps28
    go_wp2
    go_ret
    exact ⟨rfl, rfl⟩

theorem low_form (n : Int) : IntKind.u64.wrap n % 4294967296 = n % 4294967296 := by rw [IntKind.wrap_u64]; omega
theorem upper_form (n : Int) : IntKind.u64.wrap n / 4294967296 % 4294967296 = n / 4294967296 % 4294967296 := by rw [IntKind.wrap_u64]; omega

theorem rlow (n : Int) (w : World) :
    Calls Try.prog 29 #[.int .i64 n] w fun e w' => e = .returned (.agg #[.int .u32 (n % 4294967296), .int .i64 0]) ∧ w' = w.alloc (.cells #[.int .u32 (n % 4294967296), .int .i64 0] 29) := by
  have hf := low_form n
  go_enter Try.func29, Try.ntmps29
  go_wp2
  exact bodyPost_ret (v := .agg #[.int .u32 (n % 4294967296), .int .i64 0]) (by simp [results, Try.results29, go_sem]) rfl ⟨rfl, rfl⟩
theorem rupper (n : Int) (w : World) :
    Calls Try.prog 30 #[.int .i64 n] w fun e w' => e = .returned (.agg #[.int .u32 (n / 4294967296 % 4294967296), .int .i64 0]) ∧ w' = w.alloc (.cells #[.int .u32 (n / 4294967296 % 4294967296), .int .i64 0] 29) := by
  have hf := upper_form n
  go_enter Try.func30, Try.ntmps30
  go_wp2
  exact bodyPost_ret (v := .agg #[.int .u32 (n / 4294967296 % 4294967296), .int .i64 0]) (by simp [results, Try.results30, go_sem]) rfl ⟨rfl, rfl⟩
def oneV (b : Bool) : Int := if b then 1 else 0
theorem rone (b : Bool) (w : World) :
    Calls Try.prog 27 #[.bool b] w fun e w' => e = .returned (.agg #[.int .u32 (oneV b), .int .i64 0]) ∧ w' = w.alloc (.cells #[.int .u32 (oneV b), .int .i64 0] 29) := by
  cases b
  · show Calls Try.prog 27 #[.bool false] w fun e w' => e = .returned (.agg #[.int .u32 0, .int .i64 0]) ∧ w' = w.alloc (.cells #[.int .u32 0, .int .i64 0] 29)
    go_enter Try.func27, Try.ntmps27
    go_wp2
    exact bodyPost_ret (v := .agg #[.int .u32 0, .int .i64 0]) (by simp [results, Try.results27, go_sem]) rfl ⟨rfl, rfl⟩
  · show Calls Try.prog 27 #[.bool true] w fun e w' => e = .returned (.agg #[.int .u32 1, .int .i64 0]) ∧ w' = w.alloc (.cells #[.int .u32 1, .int .i64 0] 29)
    go_enter Try.func27, Try.ntmps27
    go_wp2
    exact bodyPost_ret (v := .agg #[.int .u32 1, .int .i64 0]) (by simp [results, Try.results27, go_sem]) rfl ⟨rfl, rfl⟩

theorem got_of {x y e f : Int} (h : x = y) (h' : e = f) : Ending.returned (.agg #[.int .u32 x, .int .i64 e]) = .returned (.agg #[.int .u32 y, .int .i64 f]) := by rw [h, h']

theorem one_slt (a b : Int) : oneV (decide (wrap32 a < wrap32 b)) = wSlt a b := by unfold oneV wSlt; simp
theorem one_sltu (a b : Int) : oneV (decide (a < b)) = wSltu a b := by unfold oneV wSltu; simp
theorem mulh_form2 (a b : Int) : wrap64 (wrap32 a * wrap32 b) / 4294967296 % 4294967296 = wMulh a b := by
  have h1 := wrap32_bd a
  have h2 := wrap32_bd b
  have h := mul_bd (a := wrap32 a) (b := wrap32 b) (A := 2147483648) (B := 2147483648) (by omega) (by omega) (by omega) (by omega)
  unfold wMulh
  rw [wrap64_id (by omega) (by omega)]
theorem mulhsu_form2 {a b : Int} (hb : U32 b) : wrap64 (wrap32 a * b) / 4294967296 % 4294967296 = wMulhsu a b := by
  have h1 := wrap32_bd a
  obtain ⟨h2, h3⟩ := hb
  have h := mul_bd (a := wrap32 a) (b := b) (A := 2147483648) (B := 4294967295) (by omega) (by omega) (by omega) (by omega)
  unfold wMulhsu
  rw [wrap64_id (by omega) (by omega)]
theorem div_form2 {a b : Int} (hb : b ≠ 0) : wrap64 ((wrap32 a).tdiv (wrap32 b)) % 4294967296 = wDiv a b := by
  have h1 := wrap32_bd a
  have h := tdiv_bd (wrap32 a) (wrap32 b)
  unfold wDiv
  rw [if_neg hb, wrap64_id (by omega) (by omega)]
theorem rem_form2 {a b : Int} (hb : b ≠ 0) : (wrap32 a).tmod (wrap32 b) % 4294967296 = wRem a b := by
  unfold wRem
  rw [if_neg hb]

set_option maxHeartbeats 4000000 in
theorem rOp (s : ByteArray) (a b : Int) (ha : U32 a) (hb : U32 b) (w : World) :
    Calls Try.prog 11 #[.string s, .int .u32 a, .int .u32 b] w fun e w' => e = .returned (.agg #[.int .u32 (opN s.toList a b), .int .i64 (opE s.toList)]) ∧ Below w.heap.size w w' := by
  have Ha : Hid (U32 a) := ha
  have Hb : Hid (U32 b) := hb
  obtain ⟨ha0, ha1⟩ := ha
  obtain ⟨hb1, hb2⟩ := hb
  by_cases hz : b = 0
  · have hb0 : (b == 0) = true := by simpa using hz
    clear hz
    go_enter Try.func11, Try.ntmps11
    go_wp2_with (first | (go_at_call 28; refine (rsigned _ ?_ _).mono ?_; (first | exact Ha | exact Hb); rintro e w' ⟨rfl, rfl⟩) | (go_at_call 29; refine (rlow _ _).mono ?_; rintro e w' ⟨rfl, rfl⟩) | (go_at_call 30; refine (rupper _ _).mono ?_; rintro e w' ⟨rfl, rfl⟩) | (go_at_call 27; refine (rone _ _).mono ?_; rintro e w' ⟨rfl, rfl⟩))
    all_goals (apply bodyPost_ret (hd := rfl); focus (simp [results, Try.results11, go_sem]; rfl))
    all_goals refine ⟨got_of ?_ ?_, ?_⟩
    all_goals (first | exact (Below.refl _ _).alloc (Nat.le_refl _) _ | exact ((Below.refl _ _).alloc (Nat.le_refl _) _).alloc (by simp) _ | skip)
    all_goals simp only [opN, opE, opV, *, Bool.false_eq_true, reduceIte, Option.getD_some, Option.getD_none, Option.isSome_some, Option.isSome_none]
    all_goals (first | done | rfl | exact one_slt a b | exact one_sltu a b | exact mulh_form2 a b | exact mulhsu_form2 Hb | exact mulhu_form Ha Hb | (unfold wDiv; rw [if_pos (by simpa using hb0)]) | (unfold wDivu; rw [if_pos (by simpa using hb0)]) | (unfold wRem; rw [if_pos (by simpa using hb0)]) | (unfold wRemu; rw [if_pos (by simpa using hb0)]))
  · have hb0 : (b == 0) = false := by simpa using hz
    have hz'' : Hid (wrap32 b ≠ 0) := fun e => hz ((wrap32_eq_zero Hb).mp e)
    have hz' : Hid (b ≠ 0) := hz
    clear hz
    go_enter Try.func11, Try.ntmps11
    go_wp2_with (first | (go_at_call 28; refine (rsigned _ ?_ _).mono ?_; (first | exact Ha | exact Hb); rintro e w' ⟨rfl, rfl⟩) | (go_at_call 29; refine (rlow _ _).mono ?_; rintro e w' ⟨rfl, rfl⟩) | (go_at_call 30; refine (rupper _ _).mono ?_; rintro e w' ⟨rfl, rfl⟩) | (go_at_call 27; refine (rone _ _).mono ?_; rintro e w' ⟨rfl, rfl⟩))
    all_goals (try exact absurd ‹wrap32 b = 0› hz'')
    all_goals (apply bodyPost_ret (hd := rfl); focus (simp [results, Try.results11, go_sem]; rfl))
    all_goals refine ⟨got_of ?_ ?_, ?_⟩
    all_goals (first | exact (Below.refl _ _).alloc (Nat.le_refl _) _ | exact ((Below.refl _ _).alloc (Nat.le_refl _) _).alloc (by simp) _ | skip)
    all_goals simp only [opN, opE, opV, *, Bool.false_eq_true, reduceIte, Option.getD_some, Option.getD_none, Option.isSome_some, Option.isSome_none]
    all_goals (first | done | rfl | exact one_slt a b | exact one_sltu a b | exact mulh_form2 a b | exact mulhsu_form2 Hb | exact mulhu_form Ha Hb | exact div_form2 hz' | exact divu_form Ha Hb hz' | exact rem_form2 hz' | (unfold wRemu; rw [if_neg hz']))

theorem fld0 (v e : Value) (w : World) : (Instr.field 29 (.agg #[v, e]) 0).run Try.prog w = .ok v w := by kernel_rfl

theorem rSext (x n : Int) (hx : U32 x) (w : World) :
    Calls Try.prog 14 #[.int .u32 x, .int .i64 n] w fun e w' => e = .returned (.int .u32 (sextV x n)) ∧ Below w.heap.size w w' := by
  by_cases c : n < 1 ∨ 32 < n
  · have e : sextV x n = 0 := by unfold sextV; rw [if_pos c]
    rw [e]
    clear e
    by_cases c1 : n < 1
    · clear c
      obtain ⟨h0, h1⟩ := hx
      go_enter Try.func14, Try.ntmps14
      go_wp2
      go_ret
      exact ⟨rfl, Below.refl _ _⟩
    · have c2 : 32 < n := by omega
      clear c
      obtain ⟨h0, h1⟩ := hx
      go_enter Try.func14, Try.ntmps14
      go_wp2
      go_ret
      exact ⟨rfl, Below.refl _ _⟩
  · have c1 : 1 ≤ n := by omega
    have c2 : n ≤ 32 := by omega
    have e : sextV x n = wrap32 (x * 2 ^ (32 - n).toNat % 4294967296) / 2 ^ (32 - n).toNat % 4294967296 := by unfold sextV; rw [if_neg c]
    rw [e]
    have Hs : Hid (U32 (x * 2 ^ (32 - n).toNat % 4294967296)) := ⟨Int.emod_nonneg _ (by omega), Int.emod_lt_of_pos _ (by omega)⟩
    clear c e
    obtain ⟨h0, h1⟩ := hx
    have hfld := fld0
    go_enter Try.func14, Try.ntmps14
    go_wp2_with (first | (go_at_call 28; refine (rsigned _ Hs _).mono ?_; rintro e w' ⟨rfl, rfl⟩) | (go_at_call 29; refine (rlow _ _).mono ?_; rintro e w' ⟨rfl, rfl⟩))
    go_ret
    exact ⟨rfl, (Below.refl _ _).alloc (Nat.le_refl _) _⟩

theorem rSextG (x n : Int) (hx : U32 x) (w : World) :
    Calls Try.prog 14 #[.int .u32 x, .int .i64 n] w fun e w' => e = .returned (.int .u32 (sextV x n)) ∧ ∃ os, w' = Go.Sort.grow w os := by
  by_cases c : n < 1 ∨ 32 < n
  · have e : sextV x n = 0 := by unfold sextV; rw [if_pos c]
    rw [e]
    clear e
    by_cases c1 : n < 1
    · clear c
      obtain ⟨h0, h1⟩ := hx
      go_enter Try.func14, Try.ntmps14
      go_wp2
      go_ret
      exact ⟨rfl, #[], (Go.Sort.grow_empty _).symm⟩
    · have c2 : 32 < n := by omega
      clear c
      obtain ⟨h0, h1⟩ := hx
      go_enter Try.func14, Try.ntmps14
      go_wp2
      go_ret
      exact ⟨rfl, #[], (Go.Sort.grow_empty _).symm⟩
  · have c1 : 1 ≤ n := by omega
    have c2 : n ≤ 32 := by omega
    have e : sextV x n = wrap32 (x * 2 ^ (32 - n).toNat % 4294967296) / 2 ^ (32 - n).toNat % 4294967296 := by unfold sextV; rw [if_neg c]
    rw [e]
    have Hs : Hid (U32 (x * 2 ^ (32 - n).toNat % 4294967296)) := ⟨Int.emod_nonneg _ (by omega), Int.emod_lt_of_pos _ (by omega)⟩
    clear c e
    obtain ⟨h0, h1⟩ := hx
    have hfld := fld0
    go_enter Try.func14, Try.ntmps14
    go_wp2_with (first | (go_at_call 28; refine (rsigned _ Hs _).mono ?_; rintro e w' ⟨rfl, rfl⟩) | (go_at_call 29; refine (rlow _ _).mono ?_; rintro e w' ⟨rfl, rfl⟩))
    go_ret
    exact ⟨rfl, _, Go.Sort.alloc_eq_grow _ _⟩

theorem rBits_form {x lo n : Int} (hx : U32 x) (c1 : 0 ≤ lo) (c2 : lo < 32) (c3 : 1 ≤ n) (c4 : n ≤ 32 - lo) : x / 2 ^ lo.toNat * 2 ^ (32 - n).toNat % 4294967296 / 2 ^ (32 - n).toNat = bitsV x lo n := by
  obtain ⟨X, rfl⟩ := Int.eq_ofNat_of_zero_le hx.1
  obtain ⟨l, rfl⟩ := Int.eq_ofNat_of_zero_le c1
  obtain ⟨N, rfl⟩ := Int.eq_ofNat_of_zero_le (show 0 ≤ n by omega)
  rw [bitsV_nat X l N (by omega) (by omega) (by omega)]
  have e1 : (32 - (N : Int)).toNat = 32 - N := by omega
  have e2 : ((l : Int)).toNat = l := by omega
  have e3 : (4294967296 : Int) = ((2 ^ ((32 - N) + N) : Nat) : Int) := by
    have : (32 - N) + N = 32 := by omega
    rw [this]; rfl
  have e4 : (X : Int) / 2 ^ l * 2 ^ (32 - N) % 4294967296 / 2 ^ (32 - N) = ((X / 2 ^ l * 2 ^ (32 - N) % 2 ^ ((32 - N) + N) / 2 ^ (32 - N) : Nat) : Int) := by
    rw [e3]; simp
  rw [e1, e2, e4, div_mul_pow, Nat.mul_div_cancel _ (Nat.two_pow_pos _)]
theorem rBits (x lo n : Int) (hx : U32 x) (w : World) :
    Calls Try.prog 16 #[.int .u32 x, .int .i64 lo, .int .i64 n] w fun e w' => e = .returned (.int .u32 (bitsV x lo n)) ∧ w' = w := by
  by_cases c : lo < 0 ∨ 31 < lo ∨ n < 1 ∨ 32 - lo < n
  · have e : bitsV x lo n = 0 := by unfold bitsV; rw [if_pos c]
    rw [e]
    have C : Hid (lo < 0 ∨ 31 < lo ∨ n < 1 ∨ 32 - lo < n) := c
    clear c e
    obtain ⟨h0, h1⟩ := hx
    by_cases c1 : lo < 0
    · go_enter Try.func16, Try.ntmps16
      go_wp2
      go_ret
      exact ⟨rfl, rfl⟩
    · by_cases c2 : 31 < lo
      · go_enter Try.func16, Try.ntmps16
        go_wp2
        go_ret
        exact ⟨rfl, rfl⟩
      · by_cases c3 : n < 1
        · go_enter Try.func16, Try.ntmps16
          go_wp2
          go_ret
          exact ⟨rfl, rfl⟩
        · have c4 : 32 - lo < n := by unfold Hid at C; omega
          go_enter Try.func16, Try.ntmps16
          go_wp2
          go_ret
          exact ⟨rfl, rfl⟩
  · have c1 : 0 ≤ lo := by omega
    have c2 : lo < 32 := by omega
    have c3 : 1 ≤ n := by omega
    have c4 : n ≤ 32 - lo := by omega
    have hf : Hid _ := rBits_form hx c1 c2 c3 c4
    obtain ⟨h0, h1⟩ := hx
    clear c
    go_enter Try.func16, Try.ntmps16
    go_wp2
    go_ret
    exact ⟨ret_u32 hf, rfl⟩
end Go.Proofs.Ytmkkilmhghiidaa
