/-
  footmanref10: digit, letter, hex.
-/
import Derived.Test.YtjgpojjbjgdfkaaDoorLxr
namespace Go.Proofs.YtjgpojjbjgdfkaaDoor
open Go.RowKit

theorem xDigit (c : Int) (w : World) : Calls Tryd.prog 24 #[.int .u8 c] w fun e w' => e = .returned (.bool (bDigit c)) ∧ w' = w := by
  unfold bDigit
  by_cases h1 : 48 ≤ c <;> by_cases h2 : c ≤ 57 <;>
  (first | rw [decide_eq_true h1] | rw [decide_eq_false h1]) <;> (first | rw [decide_eq_true h2] | rw [decide_eq_false h2]) <;>
  (go_enter Tryd.func24, Tryd.ntmps24
   go_wp2
   go_ret
   exact ⟨rfl, rfl⟩)
theorem xLetter (c : Int) (w : World) : Calls Tryd.prog 26 #[.int .u8 c] w fun e w' => e = .returned (.bool (bLetter c)) ∧ w' = w := by
  unfold bLetter
  by_cases h1 : 65 ≤ c <;> by_cases h2 : c ≤ 90 <;> by_cases h3 : 97 ≤ c <;> by_cases h4 : c ≤ 122 <;> cases h5 : (c == 95) <;>
  (first | omega | skip) <;>
  (first | rw [decide_eq_true h1] | rw [decide_eq_false h1]) <;> (first | rw [decide_eq_true h2] | rw [decide_eq_false h2]) <;> (first | rw [decide_eq_true h3] | rw [decide_eq_false h3]) <;> (first | rw [decide_eq_true h4] | rw [decide_eq_false h4]) <;>
  (go_enter Tryd.func26, Tryd.ntmps26
   go_wp2
   go_ret
   exact ⟨rfl, rfl⟩)
/-- A hex digit's number; below 0: none. -/
def hexI (c : Int) : Int := if bDigit c then c - 48 else if 97 ≤ c ∧ c ≤ 102 then c - 87 else -1
theorem xHex (c : Int) (h0 : 0 ≤ c) (h255 : c ≤ 255) (w : World) : Calls Tryd.prog 34 #[.int .u8 c] w fun e w' => e = .returned (.int .i64 (hexI c)) ∧ w' = w := by
  have C : Hid _ := xDigit c
  obtain ⟨R, hR⟩ : ∃ R, R = hexI c := ⟨_, rfl⟩
  rw [← hR]
  cases hd : bDigit c with
  | true =>
    rw [hd] at C
    have e1 : R = c - 48 := by rw [hR]; unfold hexI; rw [if_pos hd]
    clear hR
    subst e1
    unfold bDigit at hd
    simp only [Bool.and_eq_true, decide_eq_true_eq] at hd
    obtain ⟨d1, d2⟩ := hd
    go_enter Tryd.func34, Tryd.ntmps34
    go_wp2_with fail
    refine Calls.mono (C.out _) ?_
    rintro e w1 ⟨rfl, rfl⟩
    go_wp2
    go_ret
    exact ⟨rfl, rfl⟩
  | false =>
    rw [hd] at C
    by_cases h1 : 97 ≤ c
    · by_cases h2 : c ≤ 102
      · have e1 : R = c - 97 + 10 := by
          rw [hR]
          unfold hexI
          rw [hd, if_neg Bool.false_ne_true, if_pos ⟨h1, h2⟩]
          omega
        clear hR
        subst e1
        go_enter Tryd.func34, Tryd.ntmps34
        go_wp2_with fail
        refine Calls.mono (C.out _) ?_
        rintro e w1 ⟨rfl, rfl⟩
        go_wp2
        go_ret
        exact ⟨rfl, rfl⟩
      · have e1 : R = -1 := by
          rw [hR]
          unfold hexI
          rw [hd, if_neg Bool.false_ne_true, if_neg (by omega)]
        clear hR
        subst e1
        go_enter Tryd.func34, Tryd.ntmps34
        go_wp2_with fail
        refine Calls.mono (C.out _) ?_
        rintro e w1 ⟨rfl, rfl⟩
        go_wp2
        go_ret
        exact ⟨rfl, rfl⟩
    · have e1 : R = -1 := by
        rw [hR]
        unfold hexI
        rw [hd, if_neg Bool.false_ne_true, if_neg (by omega)]
      clear hR
      subst e1
      go_enter Tryd.func34, Tryd.ntmps34
      go_wp2_with fail
      refine Calls.mono (C.out _) ?_
      rintro e w1 ⟨rfl, rfl⟩
      go_wp2
      go_ret
      exact ⟨rfl, rfl⟩
theorem hexI_hex {c : Int} : (decide (0 ≤ hexI c)) = bHex c := by
  unfold hexI bHex
  cases hd : bDigit c with
  | true =>
    unfold bDigit at hd
    simp only [Bool.and_eq_true, decide_eq_true_eq] at hd
    simp
    omega
  | false =>
    by_cases h : 97 ≤ c ∧ c ≤ 102
    · simp [h]
      omega
    · simp [h]
      omega
end Go.Proofs.YtjgpojjbjgdfkaaDoor
