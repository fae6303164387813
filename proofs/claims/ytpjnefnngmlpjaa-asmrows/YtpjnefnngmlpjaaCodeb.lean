/-
  What the functions of package word that package code calls, and the small ones of package code, make of any numbers: a contract each.
-/
import Derived.Test.YtpjnefnngmlpjaaRefb
namespace Go.Proofs.Ytpjnefnngmlpjaa
open Go.RowKit

set_option maxHeartbeats 400000 in
theorem wsext (x n : Int) (hx : U32 x) (w : World) :
    Calls Try.prog 95 #[.int .u32 x, .int .i64 n] w fun e w' => e = .returned (.int .u32 (sextV x n)) ∧ w' = w := by
  obtain ⟨h0, h1⟩ := hx
  by_cases c1 : n < 1
  · go_enter Try.func95, Try.ntmps95
    go_wp2
    go_ret
    exact ⟨ret_u32 (by unfold sextV; rw [if_pos (Or.inl c1)]), rfl⟩
  · by_cases c2 : 32 < n
    · go_enter Try.func95, Try.ntmps95
      go_wp2
      go_ret
      exact ⟨ret_u32 (by unfold sextV; rw [if_pos (Or.inr c2)]), rfl⟩
    · go_enter Try.func95, Try.ntmps95
      go_wp2
      go_ret
      exact ⟨ret_u32 (by unfold sextV; rw [if_neg (by omega)]), rfl⟩

set_option maxHeartbeats 400000 in
theorem wbits_in (x lo n : Int) (hx : U32 x) (c1 : 0 ≤ lo) (c2 : lo < 32) (c3 : 1 ≤ n) (c4 : n ≤ 32 - lo) (w : World) :
    Calls Try.prog 98 #[.int .u32 x, .int .i64 lo, .int .i64 n] w fun e w' => e = .returned (.int .u32 (bitsV x lo n)) ∧ w' = w := by
  obtain ⟨h0, h1⟩ := hx
  go_enter Try.func98, Try.ntmps98
  go_wp2
  go_ret
  exact ⟨ret_u32 (by unfold bitsV; rw [if_neg (by omega)]), rfl⟩

theorem cerr (x : Int) (w : World) :
    Calls Try.prog 14 #[.int .i64 x] w fun e w' => e = .returned (.int .i64 x) ∧ w' = w := by
  go_enter Try.func14, Try.ntmps14
  go_wp2
  go_ret
  exact ⟨rfl, rfl⟩

theorem ccut (x lo n : Int) (hx : U32 x) (c1 : 0 ≤ lo) (c2 : lo < 32) (c3 : 1 ≤ n) (c4 : n ≤ 32 - lo) (w : World) :
    Calls Try.prog 103 #[.int .u32 x, .int .i64 lo, .int .i64 n] w fun e w' => e = .returned (.agg #[.int .u32 (bitsV x lo n), .int .i64 n]) ∧ w' = w.alloc (.cells #[.int .u32 (bitsV x lo n), .int .i64 n] 171) := by
  have S : Hid _ := wbits_in x lo n hx c1 c2 c3 c4
  clear hx
  generalize bitsV x lo n = v at *
  go_enter Try.func103, Try.ntmps103
  go_wp2_with fail
  refine (S.out _).mono ?_
  rintro e w' ⟨rfl, rfl⟩
  go_wp2
  exact bodyPost_ret (v := .agg #[.int .u32 v, .int .i64 n]) (by simp [results, Try.results103, go_sem]) rfl ⟨rfl, rfl⟩

theorem cwithin (r l : Int) (w : World) :
    Calls Try.prog 101 #[.int .i64 r, .int .i64 l] w fun e w' => e = .returned (.bool (decide (0 ≤ r) && decide (r ≤ l))) ∧ w' = w := by
  by_cases c1 : 0 ≤ r
  · by_cases c2 : r ≤ l
    · have : (decide (0 ≤ r) && decide (r ≤ l)) = true := by simp [c1, c2]
      rw [this]
      go_enter Try.func101, Try.ntmps101
      go_wp2
      go_ret
      exact ⟨rfl, rfl⟩
    · have : (decide (0 ≤ r) && decide (r ≤ l)) = false := by simp [c2]
      rw [this]
      go_enter Try.func101, Try.ntmps101
      go_wp2
      go_ret
      exact ⟨rfl, rfl⟩
  · have : (decide (0 ≤ r) && decide (r ≤ l)) = false := by simp [c1]
    rw [this]
    go_enter Try.func101, Try.ntmps101
    go_wp2
    go_ret
    exact ⟨rfl, rfl⟩
end Go.Proofs.Ytpjnefnngmlpjaa
