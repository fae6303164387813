/-
  Package csr's small functions: masks, bits that are put, what a register holds of a word: a contract each.
-/
import Derived.Test.YtmmaoncgfmfbjaaCsx
import Derived.BigQuiet
namespace Go.Proofs.Ytmmaoncgfmfbjaa
open Go.RowKit

set_option maxHeartbeats 400000 in
theorem nbits (x lo n : Int) (hx : U32 x) (c1 : 0 ≤ lo) (c2 : lo < 32) (c3 : 1 ≤ n) (c4 : n ≤ 32 - lo) (w : World) :
    Calls Try.prog 25 #[.int .u32 x, .int .i64 lo, .int .i64 n] w fun e w' => e = .returned (.int .u32 (bitsV x lo n)) ∧ w' = w := by
  obtain ⟨h0, h1⟩ := hx
  go_enter Try.func25, Try.ntmps25
  go_wp2
  go_ret
  exact ⟨ret_u32 (by unfold bitsV; rw [if_neg (by omega)]), rfl⟩

def MaskAt (lo n m : Int) : Prop := ∀ w : World, Calls Try.prog 26 #[.int .i64 lo, .int .i64 n] w fun e w' => e = .returned (.int .u32 m) ∧ w' = w
theorem mask_3_1 : MaskAt 3 1 8 := by
  intro w
  go_enter Try.func26, Try.ntmps26
  go_wp2
  go_ret
  exact ⟨rfl, rfl⟩
theorem mask_7_1 : MaskAt 7 1 128 := by
  intro w
  go_enter Try.func26, Try.ntmps26
  go_wp2
  go_ret
  exact ⟨rfl, rfl⟩
theorem mask_11_2 : MaskAt 11 2 6144 := by
  intro w
  go_enter Try.func26, Try.ntmps26
  go_wp2
  go_ret
  exact ⟨rfl, rfl⟩
theorem mask_0_2 : MaskAt 0 2 3 := by
  intro w
  go_enter Try.func26, Try.ntmps26
  go_wp2
  go_ret
  exact ⟨rfl, rfl⟩

def PutAt (lo n m p : Int) : Prop := ∀ (x v : Int) (w : World), Calls Try.prog 24 #[.int .u32 x, .int .i64 lo, .int .i64 n, .int .u32 v] w fun e w' => e = .returned (.int .u32 (bits .or .u32 (bits .andNot .u32 x m) (v * p % 4294967296))) ∧ ∃ m, w' = w.drewN m
theorem put_3_1 : PutAt 3 1 8 8 := by
  intro x v w
  have C : Hid _ := mask_3_1
  go_enter Try.func24, Try.ntmps24
  go_wp2_with fail
  go_quiet (first | (go_at_call 26; exact Calls.quiet_of_same (C.out _)))
  go_wp2
  go_ret
  exact ⟨rfl, _, rfl⟩
theorem put_7_1 : PutAt 7 1 128 128 := by
  intro x v w
  have C : Hid _ := mask_7_1
  go_enter Try.func24, Try.ntmps24
  go_wp2_with fail
  go_quiet (first | (go_at_call 26; exact Calls.quiet_of_same (C.out _)))
  go_wp2
  go_ret
  exact ⟨rfl, _, rfl⟩
theorem put_11_2 : PutAt 11 2 6144 2048 := by
  intro x v w
  have C : Hid _ := mask_11_2
  go_enter Try.func24, Try.ntmps24
  go_wp2_with fail
  go_quiet (first | (go_at_call 26; exact Calls.quiet_of_same (C.out _)))
  go_wp2
  go_ret
  exact ⟨rfl, _, rfl⟩
end Go.Proofs.Ytmmaoncgfmfbjaa
