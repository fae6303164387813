/-
  Package lex: bytes, and how far they are so.
-/
import Derived.Test.YtjgpojjbjgdfkaaDoorChecked
import Derived.Test.YtjgpojjbjgdfkaaDoorHelp
import Derived.WalkKit
import Derived.WalkSpells
import Derived.WalkLawsBesides
import Derived.Outline
import Derived.RowKit3
import Derived.Below
namespace Go.Proofs.YtjgpojjbjgdfkaaDoor
open Go.RowKit

def bBlank (c : Int) : Bool := (c == 9) || (c == 10) || (c == 13) || (c == 32)
def bInLine (c : Int) : Bool := c != 10
def bDigit (c : Int) : Bool := decide (48 ≤ c) && decide (c ≤ 57)
def bHex (c : Int) : Bool := bDigit c || (decide (97 ≤ c) && decide (c ≤ 102))
def bLetter (c : Int) : Bool := (decide (65 ≤ c) && decide (c ≤ 90)) || (decide (97 ≤ c) && decide (c ≤ 122)) || (c == 95)
def bInName (c : Int) : Bool := bLetter c || bDigit c
theorem lBlank (c : Int) (w : World) : Calls Tryd.prog 35 #[.int .u8 c] w fun e w' => e = .returned (.bool (bBlank c)) ∧ w' = w := by
  unfold bBlank
  cases h1 : (c == 9) <;> cases h2 : (c == 10) <;> cases h3 : (c == 13) <;> cases h4 : (c == 32) <;>
  (go_enter Tryd.func35, Tryd.ntmps35
   go_wp2
   go_ret
   exact ⟨rfl, rfl⟩)
theorem lInLine (c : Int) (w : World) : Calls Tryd.prog 37 #[.int .u8 c] w fun e w' => e = .returned (.bool (bInLine c)) ∧ w' = w := by
  unfold bInLine
  go_enter Tryd.func37, Tryd.ntmps37
  go_wp2
  go_ret
  exact ⟨rfl, rfl⟩
theorem lDigit (c : Int) (w : World) : Calls Tryd.prog 29 #[.int .u8 c] w fun e w' => e = .returned (.bool (bDigit c)) ∧ w' = w := by
  unfold bDigit
  by_cases h1 : 48 ≤ c <;> by_cases h2 : c ≤ 57 <;>
  (first | rw [decide_eq_true h1] | rw [decide_eq_false h1]) <;> (first | rw [decide_eq_true h2] | rw [decide_eq_false h2]) <;>
  (go_enter Tryd.func29, Tryd.ntmps29
   go_wp2
   go_ret
   exact ⟨rfl, rfl⟩)
theorem lLetter (c : Int) (w : World) : Calls Tryd.prog 31 #[.int .u8 c] w fun e w' => e = .returned (.bool (bLetter c)) ∧ w' = w := by
  unfold bLetter
  by_cases h1 : 65 ≤ c <;> by_cases h2 : c ≤ 90 <;> by_cases h3 : 97 ≤ c <;> by_cases h4 : c ≤ 122 <;> cases h5 : (c == 95) <;>
  (first | omega | skip) <;>
  (first | rw [decide_eq_true h1] | rw [decide_eq_false h1]) <;> (first | rw [decide_eq_true h2] | rw [decide_eq_false h2]) <;> (first | rw [decide_eq_true h3] | rw [decide_eq_false h3]) <;> (first | rw [decide_eq_true h4] | rw [decide_eq_false h4]) <;>
  (go_enter Tryd.func31, Tryd.ntmps31
   go_wp2
   go_ret
   exact ⟨rfl, rfl⟩)
end Go.Proofs.YtjgpojjbjgdfkaaDoor
