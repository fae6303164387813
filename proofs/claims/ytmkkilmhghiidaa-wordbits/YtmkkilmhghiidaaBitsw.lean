/-
  For every word and every two numbers of bits, the statement WordBits of the Go text answers true: bits side by side, and what is extended; no condition beside the row's own.
-/
import Derived.Test.YtmkkilmhghiidaaBitsm
import Derived.Deep.RegionWith
import Derived.BigRegion
import Derived.Deep.QuietTactic
import Derived.BigQuiet
import Derived.RowKit3
import Derived.StillTailTactics
namespace Go.Proofs.Ytmkkilmhghiidaa
open Go.RowKit

theorem wpStill_skip {P : Program} {ops : Array Oper} {w : World} {Q : Act → Prop} {a : Act} {o : Oper} {rest : List Oper} (hw : Region.wanted o (yielded ops a.tmps) = false) : wpStill P ops w Q (o :: rest) a = wpStill P ops w Q rest (a.put o.dst undef) := by
  show (if Region.wanted o (yielded ops a.tmps) then _ else _) = _
  rw [if_neg (by rw [hw]; exact Bool.false_ne_true)]
theorem pow31 (j : Nat) (h1 : 1 ≤ j) (h : j < 32) : (2 : Int) ≤ 2 ^ j ∧ (2 : Int) ^ j ≤ 2147483648 := by
  rcases upto32 h1 (by omega) with rfl | rfl | rfl | rfl | rfl | rfl | rfl | rfl | rfl | rfl | rfl | rfl | rfl | rfl | rfl | rfl | rfl | rfl | rfl | rfl | rfl | rfl | rfl | rfl | rfl | rfl | rfl | rfl | rfl | rfl | rfl | rfl <;> simp_all
/-- What the statement asks of the upper bits of an extended number, as the walk has it. -/
theorem upper_bits {x : Int} (m : Int) (hx : U32 x) (h0 : 0 ≤ m) (h1 : m < 31) :
    IntKind.u32.wrap (2 ^ (32 - (1 + m)).toNat) = 2 ^ (32 - (1 + m)).toNat ∧ IntKind.u32.wrap (2 ^ (32 - (1 + m)).toNat - 1) = 2 ^ (32 - (1 + m)).toNat - 1 ∧
    IntKind.u32.wrap (sextV x (1 + m) / 2147483648 * (2 ^ (32 - (1 + m)).toNat - 1)) = bitsV (sextV x (1 + m)) (1 + m) (32 - (1 + m)) := by
  have p := pow31 (32 - (1 + m)).toNat (by omega) (by omega)
  have ht := sext_top (1 + m).toNat hx (by omega) (by omega)
  have c : (((1 + m).toNat : Nat) : Int) = 1 + m := by omega
  rw [c] at ht
  have hb := bitsV_u32 (sextV x (1 + m)) (1 + m) (32 - (1 + m))
  rw [bitsV_high m (sextV_u32 _ _) h0 h1, ht] at hb
  rw [bitsV_high m (sextV_u32 _ _) h0 h1, ht]
  have e : 32 - (1 + m).toNat = (32 - (1 + m)).toNat := by omega
  rw [e] at hb ⊢
  rw [IntKind.wrap_u32', IntKind.wrap_u32', IntKind.wrap_u32']
  obtain ⟨q0, q1⟩ := hb
  refine ⟨by omega, by omega, Int.emod_eq_of_lt q0 q1⟩

set_option maxHeartbeats 2000000 in
theorem bits_other (x c n : Int) (hx : U32 x) (hc : 0 ≤ c ∧ c ≤ 255) (hn : 0 ≤ n ∧ n ≤ 255) (hne : n % 32 ≠ 31) (w : World) :
    Calls Try.prog 8 #[.int .u32 x, .int .u8 c, .int .u8 n] w fun e w' => e = .returned (.bool true) ∧ Grown w w' := by
  have Hx : Hid (U32 x) := hx
  obtain ⟨hx0, hx1⟩ := hx
  obtain ⟨hc0, hc1⟩ := hc
  obtain ⟨hn0, hn1⟩ := hn
  have hk0 : 0 ≤ c % 31 := by omega
  have hk1 : c % 31 < 31 := by omega
  have hm0 : 0 ≤ n % 32 := by omega
  have hm1 : n % 32 < 32 := by omega
  generalize hk : c % 31 = k at *
  generalize hm : n % 32 = m at *
  have f1 := bits1 k Hx hk0 hk1
  rw [← IntKind.wrap_u32'] at f1
  have f2 := bits2 m Hx hm0 hm1
  have He : Hid (U32 (sextV x (1 + m))) := sextV_u32 _ _
  have e0 := (sextV_u32 x (1 + m)).1
  have e1 := (sextV_u32 x (1 + m)).2
  have hne' : (1 + m == 32) = false := by simp; omega
  have hw : IntKind.i64.wrap (32 - (1 + m)) = 32 - (1 + m) := by simp [IntKind.wrap, IntKind.bits, IntKind.signed]; omega
  have j0 : 0 ≤ 32 - (1 + m) := by omega
  have j1 : 32 - (1 + m) < 32 := by omega
  obtain ⟨w1, w2, w3⟩ := upper_bits m Hx hm0 (by omega)
  generalize hj : 32 - (1 + m) = j at hw j0 j1 w1 w2 w3
  generalize hb3 : bitsV (sextV x (1 + m)) (1 + m) j = b3 at *
  generalize hlo : bitsV x 0 (1 + k) = lo at *
  generalize hhi : bitsV x (1 + k) (32 - (1 + k)) = hi at *
  generalize hev : sextV x (1 + m) = e at *
  generalize hb1 : bitsV e 0 (1 + m) = b1 at *
  generalize hb2 : bitsV x 0 (1 + m) = b2 at *
  have z1 : sextV x 0 = 0 := by unfold sextV; rw [if_pos (by omega)]
  have z2 : sextV x 33 = 0 := by unfold sextV; rw [if_pos (by omega)]
  have z3 : bitsV x 32 1 = 0 := by unfold bitsV; rw [if_pos (by omega)]
  have z4 : bitsV x 5 28 = 0 := by unfold bitsV; rw [if_pos (by omega)]
  have z5 : bitsV x 3 0 = 0 := by unfold bitsV; rw [if_pos (by omega)]
  go_enter Try.func8, Try.ntmps8
  go_wp2_with fail
  refine (bits_ _ _ _ Hx _).mono ?_
  rintro e w' ⟨rfl, rfl⟩
  go_wp2_with fail
  refine (bits_ _ _ _ Hx _).mono ?_
  rintro e w' ⟨rfl, rfl⟩
  go_wp2_with fail
  refine (sext _ _ Hx _).mono ?_
  rintro e w' ⟨rfl, rfl⟩
  go_wp2_with fail
  refine wp_region_still_tail 60 (by kernel_rfl) (by kernel_rfl) ?_
  simp only [List.append_eq, List.cons_append, List.nil_append, List.take_succ_cons, List.take_zero, List.drop_succ_cons, List.drop_zero]
  still_step
  still_step
  still_step
  still_step
  still_step
  still_step
  still_step
  still_step
  still_step
  still_step
  still_call (bits_ _ _ _ He _)
  still_step
  still_step
  still_call (bits_ _ _ _ Hx _)
  still_step
  still_step
  still_step
  still_step
  still_step
  still_step
  still_step
  still_step
  still_step
  still_step
  still_call (bits_ _ _ _ He _)
  still_step
  still_step
  still_step
  still_step
  still_step
  still_step
  still_step
  still_step
  still_step
  still_step
  still_step
  still_call (sext _ _ Hx _)
  still_step
  still_step
  still_step
  still_step
  still_call (sext _ _ Hx _)
  still_step
  still_step
  still_step
  still_step
  still_call (bits_ _ _ _ Hx _)
  still_step
  still_step
  still_step
  still_step
  still_call (bits_ _ _ _ Hx _)
  still_step
  still_step
  still_step
  still_step
  still_call (bits_ _ _ _ Hx _)
  still_step
  still_step
  still_step
  refine wpStill_nil ?_
  go_wp2_with (first | (go_at_call 19; refine (names _).mono ?_; rintro e w' ⟨rfl, rfl⟩) | (go_at_call 17; refine (awake _).mono ?_; rintro e w' ⟨rfl, rfl⟩))
  go_ret
  exact ⟨rfl, by repeat (first | exact Grown.refl _ | apply Grown.drew | apply Grown.alloc)⟩

set_option maxHeartbeats 2000000 in
theorem bits_full (x c n : Int) (hx : U32 x) (hc : 0 ≤ c ∧ c ≤ 255) (hn : 0 ≤ n ∧ n ≤ 255) (hne : n % 32 = 31) (w : World) :
    Calls Try.prog 8 #[.int .u32 x, .int .u8 c, .int .u8 n] w fun e w' => e = .returned (.bool true) ∧ Grown w w' := by
  have Hx : Hid (U32 x) := hx
  obtain ⟨hx0, hx1⟩ := hx
  obtain ⟨hc0, hc1⟩ := hc
  obtain ⟨hn0, hn1⟩ := hn
  have hk0 : 0 ≤ c % 31 := by omega
  have hk1 : c % 31 < 31 := by omega
  generalize hk : c % 31 = k at *
  have f1 := bits1 k Hx hk0 hk1
  rw [← IntKind.wrap_u32'] at f1
  have f2 : (bitsV (sextV x 32) 0 32 == bitsV x 0 32) = true := bits2 31 Hx (by omega) (by omega)
  have He : Hid (U32 (sextV x 32)) := sextV_u32 _ _
  have e0 := (sextV_u32 x 32).1
  have e1 := (sextV_u32 x 32).2
  generalize hlo : bitsV x 0 (1 + k) = lo at *
  generalize hhi : bitsV x (1 + k) (32 - (1 + k)) = hi at *
  generalize hev : sextV x 32 = e at *
  generalize hb1 : bitsV e 0 32 = b1 at *
  generalize hb2 : bitsV x 0 32 = b2 at *
  have z1 : sextV x 0 = 0 := by unfold sextV; rw [if_pos (by omega)]
  have z2 : sextV x 33 = 0 := by unfold sextV; rw [if_pos (by omega)]
  have z3 : bitsV x 32 1 = 0 := by unfold bitsV; rw [if_pos (by omega)]
  have z4 : bitsV x 5 28 = 0 := by unfold bitsV; rw [if_pos (by omega)]
  have z5 : bitsV x 3 0 = 0 := by unfold bitsV; rw [if_pos (by omega)]
  go_enter Try.func8, Try.ntmps8
  go_wp2_with fail
  refine (bits_ _ _ _ Hx _).mono ?_
  rintro e w' ⟨rfl, rfl⟩
  go_wp2_with fail
  refine (bits_ _ _ _ Hx _).mono ?_
  rintro e w' ⟨rfl, rfl⟩
  go_wp2_with fail
  refine (sext _ _ Hx _).mono ?_
  rintro e w' ⟨rfl, rfl⟩
  go_wp2_with fail
  refine wp_region_still_tail 60 (by kernel_rfl) (by kernel_rfl) ?_
  simp only [List.append_eq, List.cons_append, List.nil_append, List.take_succ_cons, List.take_zero, List.drop_succ_cons, List.drop_zero]
  still_step
  still_step
  still_step
  still_step
  still_step
  still_step
  still_step
  still_step
  still_step
  still_step
  still_call (bits_ _ _ _ He _)
  still_step
  still_step
  still_call (bits_ _ _ _ Hx _)
  still_step
  still_step
  still_step
  still_step
  still_step
  still_step
  rewrite [wpStill_skip ?hs0]
  case hs0 => kernel_rfl
  rewrite [wpStill_skip ?hs1]
  case hs1 => kernel_rfl
  rewrite [wpStill_skip ?hs2]
  case hs2 => kernel_rfl
  rewrite [wpStill_skip ?hs3]
  case hs3 => kernel_rfl
  rewrite [wpStill_skip ?hs4]
  case hs4 => kernel_rfl
  rewrite [wpStill_skip ?hs5]
  case hs5 => kernel_rfl
  rewrite [wpStill_skip ?hs6]
  case hs6 => kernel_rfl
  rewrite [wpStill_skip ?hs7]
  case hs7 => kernel_rfl
  rewrite [wpStill_skip ?hs8]
  case hs8 => kernel_rfl
  rewrite [wpStill_skip ?hs9]
  case hs9 => kernel_rfl
  rewrite [wpStill_skip ?hs10]
  case hs10 => kernel_rfl
  rewrite [wpStill_skip ?hs11]
  case hs11 => kernel_rfl
  simp only [Act.put, List.setIfInBounds_toArray, List.set_cons_succ, List.set_cons_zero]
  still_step
  still_step
  still_step
  still_step
  still_call (sext _ _ Hx _)
  still_step
  still_step
  still_step
  still_step
  still_call (sext _ _ Hx _)
  still_step
  still_step
  still_step
  still_step
  still_call (bits_ _ _ _ Hx _)
  still_step
  still_step
  still_step
  still_step
  still_call (bits_ _ _ _ Hx _)
  still_step
  still_step
  still_step
  still_step
  still_call (bits_ _ _ _ Hx _)
  still_step
  still_step
  still_step
  refine wpStill_nil ?_
  go_wp2_with (first | (go_at_call 19; refine (names _).mono ?_; rintro e w' ⟨rfl, rfl⟩) | (go_at_call 17; refine (awake _).mono ?_; rintro e w' ⟨rfl, rfl⟩))
  go_ret
  exact ⟨rfl, by repeat (first | exact Grown.refl _ | apply Grown.drew | apply Grown.alloc)⟩

theorem wordBits (x c n : Int) (hx : U32 x) (hc : 0 ≤ c ∧ c ≤ 255) (hn : 0 ≤ n ∧ n ≤ 255) (w : World) :
    Calls Try.prog 8 #[.int .u32 x, .int .u8 c, .int .u8 n] w fun e w' => e = .returned (.bool true) ∧ Grown w w' := by
  by_cases h : n % 32 = 31
  · exact bits_full x c n hx hc hn h w
  · exact bits_other x c n hx hc hn h w
end Go.Proofs.Ytmkkilmhghiidaa
