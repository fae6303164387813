/-
  What the functions of package word, and the small ones of the statements beside it, make of any words: a contract each.
-/
import Derived.Test.YtmkkilmhghiidaaRows
import Derived.Test.YtmkkilmhghiidaaPlain
import Derived.WalkKit
import Derived.WalkSpells
import Derived.WalkLawsBesides
import Derived.Outline
namespace Go.Proofs.Ytmkkilmhghiidaa
open Go.RowKit

theorem ret_op {x y e f : Int} (h : x = y) (h' : e = f) : Ending.returned (.tuple #[.int .u32 x, .int .i64 e]) = .returned (.tuple #[.int .u32 y, .int .i64 f]) := by rw [h, h']

set_option maxHeartbeats 1000000 in
theorem wordOp (s : ByteArray) (a b : Int) (ha : U32 a) (hb : U32 b) (w : World) :
    Calls Try.prog 10 #[.string s, .int .u32 a, .int .u32 b] w fun e w' => e = .returned (.tuple #[.int .u32 (opN s.toList a b), .int .i64 (opE s.toList)]) ∧ w' = w := by
  have Ha : Hid (U32 a) := ha
  have Hb : Hid (U32 b) := hb
  obtain ⟨ha0, ha1⟩ := ha
  obtain ⟨hb1, hb2⟩ := hb
  by_cases hz : b = 0
  · have hb0 : (b == 0) = true := by simpa using hz
    clear hz
    go_enter Try.func10, Try.ntmps10
    go_wp2
    all_goals go_ret2
    all_goals refine ⟨ret_op ?_ ?_, rfl⟩
    all_goals simp only [opN, opE, opV, *, Bool.false_eq_true, reduceIte, Option.getD_some, Option.getD_none, Option.isSome_some, Option.isSome_none]
    all_goals (first | done | rfl | (unfold wSlt; rw [if_pos (by omega)]) | (unfold wSlt; rw [if_neg (by omega)]) | (unfold wSltu; rw [if_pos (by omega)]) | (unfold wSltu; rw [if_neg (by omega)]) | exact mulh_form a b | exact mulhsu_form Hb | exact mulhu_form Ha Hb | (unfold wDiv; rw [if_pos (by simpa using hb0)]) | (unfold wDivu; rw [if_pos (by simpa using hb0)]) | (unfold wRem; rw [if_pos (by simpa using hb0)]) | (unfold wRemu; rw [if_pos (by simpa using hb0)]))
  · have hb0 : (b == 0) = false := by simpa using hz
    have hz'' : Hid (wrap64 (wrap32 b) ≠ 0) := den_ne Hb hz
    have hz' : Hid (b ≠ 0) := hz
    clear hz
    go_enter Try.func10, Try.ntmps10
    go_wp2
    all_goals (first | go_ret2 | exact absurd ‹wrap64 (wrap32 b) = 0› hz'')
    all_goals refine ⟨ret_op ?_ ?_, rfl⟩
    all_goals simp only [opN, opE, opV, *, Bool.false_eq_true, reduceIte, Option.getD_some, Option.getD_none, Option.isSome_some, Option.isSome_none]
    all_goals (first | done | rfl | (unfold wSlt; rw [if_pos (by omega)]) | (unfold wSlt; rw [if_neg (by omega)]) | (unfold wSltu; rw [if_pos (by omega)]) | (unfold wSltu; rw [if_neg (by omega)]) | exact mulh_form a b | exact mulhsu_form Hb | exact mulhu_form Ha Hb | exact div_form hz' | exact divu_form Ha Hb hz' | exact rem_form hz' | (unfold wRemu; rw [if_neg hz']))

theorem ret_u32 {x y : Int} (h : x = y) : Ending.returned (.int .u32 x) = .returned (.int .u32 y) := by rw [h]

set_option maxHeartbeats 400000 in
theorem sext (x n : Int) (hx : U32 x) (w : World) :
    Calls Try.prog 13 #[.int .u32 x, .int .i64 n] w fun e w' => e = .returned (.int .u32 (sextV x n)) ∧ w' = w := by
  obtain ⟨h0, h1⟩ := hx
  by_cases c1 : n < 1
  · go_enter Try.func13, Try.ntmps13
    go_wp2
    go_ret
    exact ⟨ret_u32 (by unfold sextV; rw [if_pos (Or.inl c1)]), rfl⟩
  · by_cases c2 : 32 < n
    · go_enter Try.func13, Try.ntmps13
      go_wp2
      go_ret
      exact ⟨ret_u32 (by unfold sextV; rw [if_pos (Or.inr c2)]), rfl⟩
    · go_enter Try.func13, Try.ntmps13
      go_wp2
      go_ret
      exact ⟨ret_u32 (by unfold sextV; rw [if_neg (by omega)]), rfl⟩

set_option maxHeartbeats 400000 in
theorem bits_in (x lo n : Int) (hx : U32 x) (c1 : 0 ≤ lo) (c2 : lo < 32) (c3 : 1 ≤ n) (c4 : n ≤ 32 - lo) (w : World) :
    Calls Try.prog 15 #[.int .u32 x, .int .i64 lo, .int .i64 n] w fun e w' => e = .returned (.int .u32 (bitsV x lo n)) ∧ w' = w := by
  obtain ⟨h0, h1⟩ := hx
  go_enter Try.func15, Try.ntmps15
  go_wp2
  go_ret
  exact ⟨ret_u32 (by unfold bitsV; rw [if_neg (by omega)]), rfl⟩

set_option maxHeartbeats 400000 in
theorem bits_out (x lo n : Int) (hx : U32 x) (c : lo < 0 ∨ 31 < lo ∨ n < 1 ∨ 32 - lo < n) (w : World) :
    Calls Try.prog 15 #[.int .u32 x, .int .i64 lo, .int .i64 n] w fun e w' => e = .returned (.int .u32 (bitsV x lo n)) ∧ w' = w := by
  obtain ⟨h0, h1⟩ := hx
  have C : Hid (lo < 0 ∨ 31 < lo ∨ n < 1 ∨ 32 - lo < n) := c
  have e : bitsV x lo n = 0 := by unfold bitsV; rw [if_pos c]
  clear c
  rw [e]
  clear e
  by_cases c1 : lo < 0
  · go_enter Try.func15, Try.ntmps15
    go_wp2
    go_ret
    exact ⟨rfl, rfl⟩
  · by_cases c2 : 32 ≤ lo
    · go_enter Try.func15, Try.ntmps15
      go_wp2
      go_ret
      exact ⟨rfl, rfl⟩
    · by_cases c3 : n < 1
      · go_enter Try.func15, Try.ntmps15
        go_wp2
        go_ret
        exact ⟨rfl, rfl⟩
      · have c4 : 32 - lo < n := by unfold Hid at C; omega
        go_enter Try.func15, Try.ntmps15
        go_wp2
        go_ret
        exact ⟨rfl, rfl⟩

theorem bits_ (x lo n : Int) (hx : U32 x) (w : World) :
    Calls Try.prog 15 #[.int .u32 x, .int .i64 lo, .int .i64 n] w fun e w' => e = .returned (.int .u32 (bitsV x lo n)) ∧ w' = w := by
  by_cases c : lo < 0 ∨ 31 < lo ∨ n < 1 ∨ 32 - lo < n
  · exact bits_out x lo n hx c w
  · exact bits_in x lo n hx (by omega) (by omega) (by omega) (by omega) w

theorem ret_bool {x y : Bool} (h : x = y) : Ending.returned (.bool x) = .returned (.bool y) := by rw [h]

theorem err (x : Int) (w : World) :
    Calls Try.prog 12 #[.int .i64 x] w fun e w' => e = .returned (.int .i64 x) ∧ w' = w := by
  go_enter Try.func12, Try.ntmps12
  go_wp2
  go_ret
  exact ⟨rfl, rfl⟩

set_option maxHeartbeats 400000 in
theorem op_ (s : ByteArray) (a b : Int) (ha : U32 a) (hb : U32 b) (w : World) :
    Calls Try.prog 18 #[.string s, .int .u32 a, .int .u32 b] w fun e w' => e = .returned (.int .u32 (opF s.toList a b)) ∧ w' = w := by
  have hc := wordOp s a b ha hb
  cases h : opV s.toList a b with
  | none =>
    have e1 : opN s.toList a b = 0 := by unfold opN; rw [h]; rfl
    have e2 : opF s.toList a b = 77 := by unfold opF; rw [h]; rfl
    rw [e1, opE_none h] at hc
    rw [e2]
    have Hc : Hid (∀ w, Calls Try.prog 10 #[.string s, .int .u32 a, .int .u32 b] w fun e w' => e = .returned (.tuple #[.int .u32 0, .int .i64 1]) ∧ w' = w) := hc
    clear hc e1 e2 h ha hb
    go_enter Try.func18, Try.ntmps18
    go_wp2_with (first | (go_at_call 10; refine (Hc _).mono ?_; rintro e w' ⟨rfl, rfl⟩) | (go_at_call 12; refine (err _ _).mono ?_; rintro e w' ⟨rfl, rfl⟩))
    go_ret
    exact ⟨rfl, rfl⟩
  | some x =>
    have e1 : opN s.toList a b = x := by unfold opN; rw [h]; rfl
    have e2 : opF s.toList a b = x := by unfold opF; rw [h]; rfl
    rw [e1, opE_some h] at hc
    rw [e2]
    have Hc : Hid (∀ w, Calls Try.prog 10 #[.string s, .int .u32 a, .int .u32 b] w fun e w' => e = .returned (.tuple #[.int .u32 x, .int .i64 0]) ∧ w' = w) := hc
    clear hc e1 e2 h ha hb
    go_enter Try.func18, Try.ntmps18
    go_wp2_with (first | (go_at_call 10; refine (Hc _).mono ?_; rintro e w' ⟨rfl, rfl⟩) | (go_at_call 12; refine (err _ _).mono ?_; rintro e w' ⟨rfl, rfl⟩))
    go_ret
    exact ⟨rfl, rfl⟩

set_option maxHeartbeats 400000 in
theorem awake (w : World) :
    Calls Try.prog 17 #[] w fun e w' => e = .returned (.bool true) ∧ w' = w := by
  have hw : wrap32 2147483648 = -2147483648 := by unfold wrap32; omega
  go_enter Try.func17, Try.ntmps17
  go_wp2
  go_ret
  exact ⟨rfl, rfl⟩
end Go.Proofs.Ytmkkilmhghiidaa
