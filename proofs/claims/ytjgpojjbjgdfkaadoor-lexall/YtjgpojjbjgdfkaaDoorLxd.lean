/-
  Package lex: IsWord; bad.
-/
import Derived.Test.YtjgpojjbjgdfkaaDoorLxc
namespace Go.Proofs.YtjgpojjbjgdfkaaDoor
open Go.RowKit

def wordL : List (List UInt8) := [[116, 97, 115, 107], [105, 110, 112, 117, 116], [112, 117, 98, 108, 105, 99], [115, 101, 99, 114, 101, 116], [107, 101, 121], [105, 102], [101, 108, 115, 101], [102, 111, 114], [105, 110], [115, 101, 110, 100], [114, 101, 99, 118], [111, 117, 116], [104, 97, 108, 116], [115, 101, 108]]
def isWordV (s : ByteArray) : Bool := wordL.any fun x => s.toList == x
theorem lWord0 (w : World) : Calls Tryd.prog 10 #[.string ⟨#[116, 97, 115, 107]⟩] w fun e w' => e = .returned (.bool true) ∧ w' = w := by
  go_enter Tryd.func10, Tryd.ntmps10
  go_wp2
  go_ret
  exact ⟨rfl, rfl⟩
theorem lWord1 (w : World) : Calls Tryd.prog 10 #[.string ⟨#[105, 110, 112, 117, 116]⟩] w fun e w' => e = .returned (.bool true) ∧ w' = w := by
  go_enter Tryd.func10, Tryd.ntmps10
  go_wp2
  go_ret
  exact ⟨rfl, rfl⟩
theorem lWord2 (w : World) : Calls Tryd.prog 10 #[.string ⟨#[112, 117, 98, 108, 105, 99]⟩] w fun e w' => e = .returned (.bool true) ∧ w' = w := by
  go_enter Tryd.func10, Tryd.ntmps10
  go_wp2
  go_ret
  exact ⟨rfl, rfl⟩
theorem lWord3 (w : World) : Calls Tryd.prog 10 #[.string ⟨#[115, 101, 99, 114, 101, 116]⟩] w fun e w' => e = .returned (.bool true) ∧ w' = w := by
  go_enter Tryd.func10, Tryd.ntmps10
  go_wp2
  go_ret
  exact ⟨rfl, rfl⟩
theorem lWord4 (w : World) : Calls Tryd.prog 10 #[.string ⟨#[107, 101, 121]⟩] w fun e w' => e = .returned (.bool true) ∧ w' = w := by
  go_enter Tryd.func10, Tryd.ntmps10
  go_wp2
  go_ret
  exact ⟨rfl, rfl⟩
theorem lWord5 (w : World) : Calls Tryd.prog 10 #[.string ⟨#[105, 102]⟩] w fun e w' => e = .returned (.bool true) ∧ w' = w := by
  go_enter Tryd.func10, Tryd.ntmps10
  go_wp2
  go_ret
  exact ⟨rfl, rfl⟩
theorem lWord6 (w : World) : Calls Tryd.prog 10 #[.string ⟨#[101, 108, 115, 101]⟩] w fun e w' => e = .returned (.bool true) ∧ w' = w := by
  go_enter Tryd.func10, Tryd.ntmps10
  go_wp2
  go_ret
  exact ⟨rfl, rfl⟩
theorem lWord7 (w : World) : Calls Tryd.prog 10 #[.string ⟨#[102, 111, 114]⟩] w fun e w' => e = .returned (.bool true) ∧ w' = w := by
  go_enter Tryd.func10, Tryd.ntmps10
  go_wp2
  go_ret
  exact ⟨rfl, rfl⟩
theorem lWord8 (w : World) : Calls Tryd.prog 10 #[.string ⟨#[105, 110]⟩] w fun e w' => e = .returned (.bool true) ∧ w' = w := by
  go_enter Tryd.func10, Tryd.ntmps10
  go_wp2
  go_ret
  exact ⟨rfl, rfl⟩
theorem lWord9 (w : World) : Calls Tryd.prog 10 #[.string ⟨#[115, 101, 110, 100]⟩] w fun e w' => e = .returned (.bool true) ∧ w' = w := by
  go_enter Tryd.func10, Tryd.ntmps10
  go_wp2
  go_ret
  exact ⟨rfl, rfl⟩
theorem lWord10 (w : World) : Calls Tryd.prog 10 #[.string ⟨#[114, 101, 99, 118]⟩] w fun e w' => e = .returned (.bool true) ∧ w' = w := by
  go_enter Tryd.func10, Tryd.ntmps10
  go_wp2
  go_ret
  exact ⟨rfl, rfl⟩
theorem lWord11 (w : World) : Calls Tryd.prog 10 #[.string ⟨#[111, 117, 116]⟩] w fun e w' => e = .returned (.bool true) ∧ w' = w := by
  go_enter Tryd.func10, Tryd.ntmps10
  go_wp2
  go_ret
  exact ⟨rfl, rfl⟩
theorem lWord12 (w : World) : Calls Tryd.prog 10 #[.string ⟨#[104, 97, 108, 116]⟩] w fun e w' => e = .returned (.bool true) ∧ w' = w := by
  go_enter Tryd.func10, Tryd.ntmps10
  go_wp2
  go_ret
  exact ⟨rfl, rfl⟩
theorem lWord13 (w : World) : Calls Tryd.prog 10 #[.string ⟨#[115, 101, 108]⟩] w fun e w' => e = .returned (.bool true) ∧ w' = w := by
  go_enter Tryd.func10, Tryd.ntmps10
  go_wp2
  go_ret
  exact ⟨rfl, rfl⟩
theorem lNoWord (s : ByteArray) (w : World) (h0 : (s.toList == [116, 97, 115, 107]) = false) (h1 : (s.toList == [105, 110, 112, 117, 116]) = false) (h2 : (s.toList == [112, 117, 98, 108, 105, 99]) = false) (h3 : (s.toList == [115, 101, 99, 114, 101, 116]) = false) (h4 : (s.toList == [107, 101, 121]) = false) (h5 : (s.toList == [105, 102]) = false) (h6 : (s.toList == [101, 108, 115, 101]) = false) (h7 : (s.toList == [102, 111, 114]) = false) (h8 : (s.toList == [105, 110]) = false) (h9 : (s.toList == [115, 101, 110, 100]) = false) (h10 : (s.toList == [114, 101, 99, 118]) = false) (h11 : (s.toList == [111, 117, 116]) = false) (h12 : (s.toList == [104, 97, 108, 116]) = false) (h13 : (s.toList == [115, 101, 108]) = false) : Calls Tryd.prog 10 #[.string s] w fun e w' => e = .returned (.bool false) ∧ w' = w := by
  go_enter Tryd.func10, Tryd.ntmps10
  go_wp2
  go_ret
  exact ⟨rfl, rfl⟩
theorem lIsWord (s : ByteArray) (w : World) : Calls Tryd.prog 10 #[.string s] w fun e w' => e = .returned (.bool (isWordV s)) ∧ w' = w := by
  by_cases e0 : s = ⟨#[116, 97, 115, 107]⟩
  · subst e0
    have hv : isWordV ⟨#[116, 97, 115, 107]⟩ = true := by kernel_rfl
    rw [hv]
    exact lWord0 w
  by_cases e1 : s = ⟨#[105, 110, 112, 117, 116]⟩
  · subst e1
    have hv : isWordV ⟨#[105, 110, 112, 117, 116]⟩ = true := by kernel_rfl
    rw [hv]
    exact lWord1 w
  by_cases e2 : s = ⟨#[112, 117, 98, 108, 105, 99]⟩
  · subst e2
    have hv : isWordV ⟨#[112, 117, 98, 108, 105, 99]⟩ = true := by kernel_rfl
    rw [hv]
    exact lWord2 w
  by_cases e3 : s = ⟨#[115, 101, 99, 114, 101, 116]⟩
  · subst e3
    have hv : isWordV ⟨#[115, 101, 99, 114, 101, 116]⟩ = true := by kernel_rfl
    rw [hv]
    exact lWord3 w
  by_cases e4 : s = ⟨#[107, 101, 121]⟩
  · subst e4
    have hv : isWordV ⟨#[107, 101, 121]⟩ = true := by kernel_rfl
    rw [hv]
    exact lWord4 w
  by_cases e5 : s = ⟨#[105, 102]⟩
  · subst e5
    have hv : isWordV ⟨#[105, 102]⟩ = true := by kernel_rfl
    rw [hv]
    exact lWord5 w
  by_cases e6 : s = ⟨#[101, 108, 115, 101]⟩
  · subst e6
    have hv : isWordV ⟨#[101, 108, 115, 101]⟩ = true := by kernel_rfl
    rw [hv]
    exact lWord6 w
  by_cases e7 : s = ⟨#[102, 111, 114]⟩
  · subst e7
    have hv : isWordV ⟨#[102, 111, 114]⟩ = true := by kernel_rfl
    rw [hv]
    exact lWord7 w
  by_cases e8 : s = ⟨#[105, 110]⟩
  · subst e8
    have hv : isWordV ⟨#[105, 110]⟩ = true := by kernel_rfl
    rw [hv]
    exact lWord8 w
  by_cases e9 : s = ⟨#[115, 101, 110, 100]⟩
  · subst e9
    have hv : isWordV ⟨#[115, 101, 110, 100]⟩ = true := by kernel_rfl
    rw [hv]
    exact lWord9 w
  by_cases e10 : s = ⟨#[114, 101, 99, 118]⟩
  · subst e10
    have hv : isWordV ⟨#[114, 101, 99, 118]⟩ = true := by kernel_rfl
    rw [hv]
    exact lWord10 w
  by_cases e11 : s = ⟨#[111, 117, 116]⟩
  · subst e11
    have hv : isWordV ⟨#[111, 117, 116]⟩ = true := by kernel_rfl
    rw [hv]
    exact lWord11 w
  by_cases e12 : s = ⟨#[104, 97, 108, 116]⟩
  · subst e12
    have hv : isWordV ⟨#[104, 97, 108, 116]⟩ = true := by kernel_rfl
    rw [hv]
    exact lWord12 w
  by_cases e13 : s = ⟨#[115, 101, 108]⟩
  · subst e13
    have hv : isWordV ⟨#[115, 101, 108]⟩ = true := by kernel_rfl
    rw [hv]
    exact lWord13 w
  have hno : ∀ (l : List UInt8), s ≠ ⟨l.toArray⟩ → (s.toList == l) = false := fun l hl => by
    cases h : (s.toList == l) with
    | false => rfl
    | true =>
      refine absurd (bytes_ext ?_) hl
      rw [show s.toList = l by simpa using h]
      simp
  have h0 := hno [116, 97, 115, 107] e0
  have h1 := hno [105, 110, 112, 117, 116] e1
  have h2 := hno [112, 117, 98, 108, 105, 99] e2
  have h3 := hno [115, 101, 99, 114, 101, 116] e3
  have h4 := hno [107, 101, 121] e4
  have h5 := hno [105, 102] e5
  have h6 := hno [101, 108, 115, 101] e6
  have h7 := hno [102, 111, 114] e7
  have h8 := hno [105, 110] e8
  have h9 := hno [115, 101, 110, 100] e9
  have h10 := hno [114, 101, 99, 118] e10
  have h11 := hno [111, 117, 116] e11
  have h12 := hno [104, 97, 108, 116] e12
  have h13 := hno [115, 101, 108] e13
  have hv : isWordV s = false := by
    unfold isWordV wordL
    simp only [List.any_cons, List.any_nil, h0, h1, h2, h3, h4, h5, h6, h7, h8, h9, h10, h11, h12, h13, Bool.or_false]
  rw [hv]
  exact lNoWord s w h0 h1 h2 h3 h4 h5 h6 h7 h8 h9 h10 h11 h12 h13
def tokC (kind : Int) (t : ByteArray) (n : Int) (p : Int) : Array Value := #[.int .i64 kind, .string t, .int .u32 n, .int .i64 p]
theorem lBad (p : Int) (w : World) : Calls Tryd.prog 42 #[.int .i64 p] w fun e w' => e = .returned (.agg (tokC 5 ⟨#[]⟩ 0 p)) ∧ Below w.heap.size w w' := by
  go_enter Tryd.func42, Tryd.ntmps42
  go_wp2
  exact bodyPost_ret (v := .agg (tokC 5 ⟨#[]⟩ 0 p)) (by simp [results, Tryd.results42, go_sem, tokC]) rfl ⟨rfl, (Below.refl _ _).alloc (Nat.le_refl _) _⟩
end Go.Proofs.YtjgpojjbjgdfkaaDoor
