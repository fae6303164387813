/-
  What the document's own Bits and Sext (as the statements bear them) make of any words: a contract each.
-/
import Derived.Test.YtpjnefnngmlpjaaChecked
import Derived.Test.YtpjnefnngmlpjaaFields
import Derived.Test.YtpjnefnngmlpjaaHelp
import Derived.WalkKit
import Derived.WalkSpells
import Derived.WalkLawsBesides
import Derived.Outline
import Derived.RowKit3
import Derived.Below
import Derived.Sort.Grow
namespace Go.Proofs.Ytpjnefnngmlpjaa
open Go.RowKit

theorem ret_u32 {x y : Int} (h : x = y) : Ending.returned (.int .u32 x) = .returned (.int .u32 y) := by rw [h]

theorem rsigned (x : Int) (hx : U32 x) (w : World) :
    Calls Try.prog 31 #[.int .u32 x] w fun e w' => e = .returned (.int .i64 (wrap32 x)) ∧ w' = w := by
  obtain ⟨h0, h1⟩ := hx
  by_cases h : 2147483648 ≤ x
  · have e : wrap32 x = x - 4294967296 := by unfold wrap32; omega
    rw [e]
    clear e
    go_enter Try.func31, Try.ntmps31
    go_wp2
    go_ret
    exact ⟨rfl, rfl⟩
  · have e : wrap32 x = x := by unfold wrap32; omega
    rw [e]
    clear e
    go_enter Try.func31, Try.ntmps31
    go_wp2
    go_ret
    exact ⟨rfl, rfl⟩

theorem low_form (n : Int) : IntKind.u64.wrap n % 4294967296 = n % 4294967296 := by rw [IntKind.wrap_u64]; omega

theorem rlow (n : Int) (w : World) :
    Calls Try.prog 32 #[.int .i64 n] w fun e w' => e = .returned (.agg #[.int .u32 (n % 4294967296), .int .i64 0]) ∧ w' = w.alloc (.cells #[.int .u32 (n % 4294967296), .int .i64 0] 55) := by
  have hf := low_form n
  go_enter Try.func32, Try.ntmps32
  go_wp2
  exact bodyPost_ret (v := .agg #[.int .u32 (n % 4294967296), .int .i64 0]) (by simp [results, Try.results32, go_sem]) rfl ⟨rfl, rfl⟩
theorem fld0 (v e : Value) (w : World) : (Instr.field 55 (.agg #[v, e]) 0).run Try.prog w = .ok v w := by kernel_rfl

theorem rSext (x n : Int) (hx : U32 x) (w : World) :
    Calls Try.prog 71 #[.int .u32 x, .int .i64 n] w fun e w' => e = .returned (.int .u32 (sextV x n)) ∧ Below w.heap.size w w' := by
  by_cases c : n < 1 ∨ 32 < n
  · have e : sextV x n = 0 := by unfold sextV; rw [if_pos c]
    rw [e]
    clear e
    by_cases c1 : n < 1
    · clear c
      obtain ⟨h0, h1⟩ := hx
      go_enter Try.func71, Try.ntmps71
      go_wp2
      go_ret
      exact ⟨rfl, Below.refl _ _⟩
    · have c2 : 32 < n := by omega
      clear c
      obtain ⟨h0, h1⟩ := hx
      go_enter Try.func71, Try.ntmps71
      go_wp2
      go_ret
      exact ⟨rfl, Below.refl _ _⟩
  · have c1 : 1 ≤ n := by omega
    have c2 : n ≤ 32 := by omega
    have e : sextV x n = wrap32 (x * 2 ^ (32 - n).toNat % 4294967296) / 2 ^ (32 - n).toNat % 4294967296 := by unfold sextV; rw [if_neg c]
    rw [e]
    have Hs : Hid (U32 (x * 2 ^ (32 - n).toNat % 4294967296)) := ⟨Int.emod_nonneg _ (by omega), Int.emod_lt_of_pos _ (by omega)⟩
    clear c e
    obtain ⟨h0, h1⟩ := hx
    have hfld := fld0
    go_enter Try.func71, Try.ntmps71
    go_wp2_with (first | (go_at_call 31; refine (rsigned _ Hs _).mono ?_; rintro e w' ⟨rfl, rfl⟩) | (go_at_call 32; refine (rlow _ _).mono ?_; rintro e w' ⟨rfl, rfl⟩))
    go_ret
    exact ⟨rfl, (Below.refl _ _).alloc (Nat.le_refl _) _⟩

theorem rSextG (x n : Int) (hx : U32 x) (w : World) :
    Calls Try.prog 71 #[.int .u32 x, .int .i64 n] w fun e w' => e = .returned (.int .u32 (sextV x n)) ∧ ∃ os, w' = Go.Sort.grow w os := by
  by_cases c : n < 1 ∨ 32 < n
  · have e : sextV x n = 0 := by unfold sextV; rw [if_pos c]
    rw [e]
    clear e
    by_cases c1 : n < 1
    · clear c
      obtain ⟨h0, h1⟩ := hx
      go_enter Try.func71, Try.ntmps71
      go_wp2
      go_ret
      exact ⟨rfl, #[], (Go.Sort.grow_empty _).symm⟩
    · have c2 : 32 < n := by omega
      clear c
      obtain ⟨h0, h1⟩ := hx
      go_enter Try.func71, Try.ntmps71
      go_wp2
      go_ret
      exact ⟨rfl, #[], (Go.Sort.grow_empty _).symm⟩
  · have c1 : 1 ≤ n := by omega
    have c2 : n ≤ 32 := by omega
    have e : sextV x n = wrap32 (x * 2 ^ (32 - n).toNat % 4294967296) / 2 ^ (32 - n).toNat % 4294967296 := by unfold sextV; rw [if_neg c]
    rw [e]
    have Hs : Hid (U32 (x * 2 ^ (32 - n).toNat % 4294967296)) := ⟨Int.emod_nonneg _ (by omega), Int.emod_lt_of_pos _ (by omega)⟩
    clear c e
    obtain ⟨h0, h1⟩ := hx
    have hfld := fld0
    go_enter Try.func71, Try.ntmps71
    go_wp2_with (first | (go_at_call 31; refine (rsigned _ Hs _).mono ?_; rintro e w' ⟨rfl, rfl⟩) | (go_at_call 32; refine (rlow _ _).mono ?_; rintro e w' ⟨rfl, rfl⟩))
    go_ret
    exact ⟨rfl, _, Go.Sort.alloc_eq_grow _ _⟩

theorem rBits_form {x lo n : Int} (hx : U32 x) (c1 : 0 ≤ lo) (c2 : lo < 32) (c3 : 1 ≤ n) (c4 : n ≤ 32 - lo) : x / 2 ^ lo.toNat * 2 ^ (32 - n).toNat % 4294967296 / 2 ^ (32 - n).toNat = bitsV x lo n := by
  obtain ⟨X, rfl⟩ := Int.eq_ofNat_of_zero_le hx.1
  obtain ⟨l, rfl⟩ := Int.eq_ofNat_of_zero_le c1
  obtain ⟨N, rfl⟩ := Int.eq_ofNat_of_zero_le (show 0 ≤ n by omega)
  rw [bitsV_nat X l N (by omega) (by omega) (by omega)]
  have e1 : (32 - (N : Int)).toNat = 32 - N := by omega
  have e2 : ((l : Int)).toNat = l := by omega
  have e3 : (4294967296 : Int) = ((2 ^ ((32 - N) + N) : Nat) : Int) := by
    have : (32 - N) + N = 32 := by omega
    rw [this]; rfl
  have e4 : (X : Int) / 2 ^ l * 2 ^ (32 - N) % 4294967296 / 2 ^ (32 - N) = ((X / 2 ^ l * 2 ^ (32 - N) % 2 ^ ((32 - N) + N) / 2 ^ (32 - N) : Nat) : Int) := by
    rw [e3]; simp
  rw [e1, e2, e4, div_mul_pow, Nat.mul_div_cancel _ (Nat.two_pow_pos _)]
theorem rBits (x lo n : Int) (hx : U32 x) (w : World) :
    Calls Try.prog 56 #[.int .u32 x, .int .i64 lo, .int .i64 n] w fun e w' => e = .returned (.int .u32 (bitsV x lo n)) ∧ w' = w := by
  by_cases c : lo < 0 ∨ 31 < lo ∨ n < 1 ∨ 32 - lo < n
  · have e : bitsV x lo n = 0 := by unfold bitsV; rw [if_pos c]
    rw [e]
    have C : Hid (lo < 0 ∨ 31 < lo ∨ n < 1 ∨ 32 - lo < n) := c
    clear c e
    obtain ⟨h0, h1⟩ := hx
    by_cases c1 : lo < 0
    · go_enter Try.func56, Try.ntmps56
      go_wp2
      go_ret
      exact ⟨rfl, rfl⟩
    · by_cases c2 : 31 < lo
      · go_enter Try.func56, Try.ntmps56
        go_wp2
        go_ret
        exact ⟨rfl, rfl⟩
      · by_cases c3 : n < 1
        · go_enter Try.func56, Try.ntmps56
          go_wp2
          go_ret
          exact ⟨rfl, rfl⟩
        · have c4 : 32 - lo < n := by unfold Hid at C; omega
          go_enter Try.func56, Try.ntmps56
          go_wp2
          go_ret
          exact ⟨rfl, rfl⟩
  · have c1 : 0 ≤ lo := by omega
    have c2 : lo < 32 := by omega
    have c3 : 1 ≤ n := by omega
    have c4 : n ≤ 32 - lo := by omega
    have hf : Hid _ := rBits_form hx c1 c2 c3 c4
    obtain ⟨h0, h1⟩ := hx
    clear c
    go_enter Try.func56, Try.ntmps56
    go_wp2
    go_ret
    exact ⟨ret_u32 hf, rfl⟩
end Go.Proofs.Ytpjnefnngmlpjaa
