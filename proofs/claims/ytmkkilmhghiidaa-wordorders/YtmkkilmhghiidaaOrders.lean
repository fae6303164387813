/-
  For every two words, the statement WordOrders of the Go text answers true: what 'slt' and 'sltu' say of the two, either way round, fits the words and their signs; no condition beside the row's own.
-/
import Derived.Test.YtmkkilmhghiidaaWords
import Derived.ProofKit
import Derived.OpenShut
import Derived.ShutString
namespace Go.Proofs.Ytmkkilmhghiidaa
open Go.ChangeShapes Go.WideShapes Go.ChangeAt Go.RowKit

theorem slt1 {a b : Int} (h : wrap32 a < wrap32 b) : opF [115, 108, 116] a b = 1 := by show wSlt a b = 1; unfold wSlt; rw [if_pos h]
theorem slt0 {a b : Int} (h : ¬ wrap32 a < wrap32 b) : opF [115, 108, 116] a b = 0 := by show wSlt a b = 0; unfold wSlt; rw [if_neg h]
theorem sltu1 {a b : Int} (h : a < b) : opF [115, 108, 116, 117] a b = 1 := by show wSltu a b = 1; unfold wSltu; rw [if_pos h]
theorem sltu0 {a b : Int} (h : ¬ a < b) : opF [115, 108, 116, 117] a b = 0 := by show wSltu a b = 0; unfold wSltu; rw [if_neg h]

set_option maxHeartbeats 400000 in
theorem same (a : Int) (ha : U32 a) (w : World) :
    Calls Try.prog 7 #[.int .u32 a, .int .u32 a] w fun e w' => e = .returned (.bool true) ∧ w' = w := by
  have Ha : Hid (U32 a) := ha
  have Hb : Hid (U32 a) := ha
  obtain ⟨ha0, ha1⟩ := ha
  have f1 := slt0 (Int.lt_irrefl (wrap32 a))
  have f2 := sltu0 (Int.lt_irrefl a)
  go_enter Try.func7, Try.ntmps7
  go_wp2_with (first | (go_at_call 18; refine (op_ _ _ _ ?_ ?_ _).mono ?_; (first | exact Ha | exact Hb | exact ⟨by omega, by omega⟩ | (repeat (first | exact Ha | exact Hb | exact ⟨by omega, by omega⟩ | refine opF_u32 _ ?_ ?_))); (first | exact Ha | exact Hb | exact ⟨by omega, by omega⟩ | (repeat (first | exact Ha | exact Hb | exact ⟨by omega, by omega⟩ | refine opF_u32 _ ?_ ?_))); rintro e w' ⟨rfl, rfl⟩) | (go_at_call 17; refine (awake _).mono ?_; rintro e w' ⟨rfl, rfl⟩))
  go_ret
  exact ⟨rfl, rfl⟩

set_option maxHeartbeats 400000 in
theorem below_ll (a b : Int) (ha : U32 a) (hb : U32 b) (h : a < b) (hB : b < 2147483648) (w : World) :
    Calls Try.prog 7 #[.int .u32 a, .int .u32 b] w fun e w' => e = .returned (.bool true) ∧ w' = w := by
  have Ha : Hid (U32 a) := ha
  have Hb : Hid (U32 b) := hb
  obtain ⟨ha0, ha1⟩ := ha
  obtain ⟨hb0, hb1⟩ := hb
  have hA : a < 2147483648 := by omega
  have f0 := slt1 (a := a) (b := b) (by first | omega | (unfold wrap32; omega))
  have f1 := sltu1 (a := a) (b := b) (by first | omega | (unfold wrap32; omega))
  have f2 := slt0 (a := b) (b := a) (by first | omega | (unfold wrap32; omega))
  have f3 := sltu0 (a := b) (b := a) (by first | omega | (unfold wrap32; omega))
  have ne : (a == b) = false := by simp; omega
  have d1 : decide (2147483648 ≤ a) = false := by simp; omega
  have d2 : decide (2147483648 ≤ b) = false := by simp; omega
  have d3 : decide (a < b) = true := by simp; omega
  go_enter Try.func7, Try.ntmps7
  go_wp2_with (first | (go_at_call 18; refine (op_ _ _ _ ?_ ?_ _).mono ?_; (first | exact Ha | exact Hb | exact ⟨by omega, by omega⟩ | (repeat (first | exact Ha | exact Hb | exact ⟨by omega, by omega⟩ | refine opF_u32 _ ?_ ?_))); (first | exact Ha | exact Hb | exact ⟨by omega, by omega⟩ | (repeat (first | exact Ha | exact Hb | exact ⟨by omega, by omega⟩ | refine opF_u32 _ ?_ ?_))); rintro e w' ⟨rfl, rfl⟩) | (go_at_call 17; refine (awake _).mono ?_; rintro e w' ⟨rfl, rfl⟩))
  go_ret
  exact ⟨rfl, rfl⟩

set_option maxHeartbeats 400000 in
theorem below_hh (a b : Int) (ha : U32 a) (hb : U32 b) (h : a < b) (hA : 2147483648 ≤ a) (w : World) :
    Calls Try.prog 7 #[.int .u32 a, .int .u32 b] w fun e w' => e = .returned (.bool true) ∧ w' = w := by
  have Ha : Hid (U32 a) := ha
  have Hb : Hid (U32 b) := hb
  obtain ⟨ha0, ha1⟩ := ha
  obtain ⟨hb0, hb1⟩ := hb
  have hB : 2147483648 ≤ b := by omega
  have f0 := slt1 (a := a) (b := b) (by first | omega | (unfold wrap32; omega))
  have f1 := sltu1 (a := a) (b := b) (by first | omega | (unfold wrap32; omega))
  have f2 := slt0 (a := b) (b := a) (by first | omega | (unfold wrap32; omega))
  have f3 := sltu0 (a := b) (b := a) (by first | omega | (unfold wrap32; omega))
  have ne : (a == b) = false := by simp; omega
  have d1 : decide (2147483648 ≤ a) = true := by simp; omega
  have d2 : decide (2147483648 ≤ b) = true := by simp; omega
  have d3 : decide (a < b) = true := by simp; omega
  go_enter Try.func7, Try.ntmps7
  go_wp2_with (first | (go_at_call 18; refine (op_ _ _ _ ?_ ?_ _).mono ?_; (first | exact Ha | exact Hb | exact ⟨by omega, by omega⟩ | (repeat (first | exact Ha | exact Hb | exact ⟨by omega, by omega⟩ | refine opF_u32 _ ?_ ?_))); (first | exact Ha | exact Hb | exact ⟨by omega, by omega⟩ | (repeat (first | exact Ha | exact Hb | exact ⟨by omega, by omega⟩ | refine opF_u32 _ ?_ ?_))); rintro e w' ⟨rfl, rfl⟩) | (go_at_call 17; refine (awake _).mono ?_; rintro e w' ⟨rfl, rfl⟩))
  go_ret
  exact ⟨rfl, rfl⟩

set_option maxHeartbeats 400000 in
theorem below_lh (a b : Int) (ha : U32 a) (hb : U32 b) (h : a < b) (hA : a < 2147483648) (hB : 2147483648 ≤ b) (w : World) :
    Calls Try.prog 7 #[.int .u32 a, .int .u32 b] w fun e w' => e = .returned (.bool true) ∧ w' = w := by
  have Ha : Hid (U32 a) := ha
  have Hb : Hid (U32 b) := hb
  obtain ⟨ha0, ha1⟩ := ha
  obtain ⟨hb0, hb1⟩ := hb
  have f0 := slt0 (a := a) (b := b) (by first | omega | (unfold wrap32; omega))
  have f1 := sltu1 (a := a) (b := b) (by first | omega | (unfold wrap32; omega))
  have f2 := slt1 (a := b) (b := a) (by first | omega | (unfold wrap32; omega))
  have f3 := sltu0 (a := b) (b := a) (by first | omega | (unfold wrap32; omega))
  have ne : (a == b) = false := by simp; omega
  have d1 : decide (2147483648 ≤ a) = false := by simp; omega
  have d2 : decide (2147483648 ≤ b) = true := by simp; omega
  have d3 : decide (a < b) = true := by simp; omega
  go_enter Try.func7, Try.ntmps7
  go_wp2_with (first | (go_at_call 18; refine (op_ _ _ _ ?_ ?_ _).mono ?_; (first | exact Ha | exact Hb | exact ⟨by omega, by omega⟩ | (repeat (first | exact Ha | exact Hb | exact ⟨by omega, by omega⟩ | refine opF_u32 _ ?_ ?_))); (first | exact Ha | exact Hb | exact ⟨by omega, by omega⟩ | (repeat (first | exact Ha | exact Hb | exact ⟨by omega, by omega⟩ | refine opF_u32 _ ?_ ?_))); rintro e w' ⟨rfl, rfl⟩) | (go_at_call 17; refine (awake _).mono ?_; rintro e w' ⟨rfl, rfl⟩))
  go_ret
  exact ⟨rfl, rfl⟩

set_option maxHeartbeats 400000 in
theorem above_ll (a b : Int) (ha : U32 a) (hb : U32 b) (h : b < a) (hA : a < 2147483648) (w : World) :
    Calls Try.prog 7 #[.int .u32 a, .int .u32 b] w fun e w' => e = .returned (.bool true) ∧ w' = w := by
  have Ha : Hid (U32 a) := ha
  have Hb : Hid (U32 b) := hb
  obtain ⟨ha0, ha1⟩ := ha
  obtain ⟨hb0, hb1⟩ := hb
  have hB : b < 2147483648 := by omega
  have f0 := slt0 (a := a) (b := b) (by first | omega | (unfold wrap32; omega))
  have f1 := sltu0 (a := a) (b := b) (by first | omega | (unfold wrap32; omega))
  have f2 := slt1 (a := b) (b := a) (by first | omega | (unfold wrap32; omega))
  have f3 := sltu1 (a := b) (b := a) (by first | omega | (unfold wrap32; omega))
  have ne : (a == b) = false := by simp; omega
  have d1 : decide (2147483648 ≤ a) = false := by simp; omega
  have d2 : decide (2147483648 ≤ b) = false := by simp; omega
  have d3 : decide (a < b) = false := by simp; omega
  go_enter Try.func7, Try.ntmps7
  go_wp2_with (first | (go_at_call 18; refine (op_ _ _ _ ?_ ?_ _).mono ?_; (first | exact Ha | exact Hb | exact ⟨by omega, by omega⟩ | (repeat (first | exact Ha | exact Hb | exact ⟨by omega, by omega⟩ | refine opF_u32 _ ?_ ?_))); (first | exact Ha | exact Hb | exact ⟨by omega, by omega⟩ | (repeat (first | exact Ha | exact Hb | exact ⟨by omega, by omega⟩ | refine opF_u32 _ ?_ ?_))); rintro e w' ⟨rfl, rfl⟩) | (go_at_call 17; refine (awake _).mono ?_; rintro e w' ⟨rfl, rfl⟩))
  go_ret
  exact ⟨rfl, rfl⟩

set_option maxHeartbeats 400000 in
theorem above_hh (a b : Int) (ha : U32 a) (hb : U32 b) (h : b < a) (hB : 2147483648 ≤ b) (w : World) :
    Calls Try.prog 7 #[.int .u32 a, .int .u32 b] w fun e w' => e = .returned (.bool true) ∧ w' = w := by
  have Ha : Hid (U32 a) := ha
  have Hb : Hid (U32 b) := hb
  obtain ⟨ha0, ha1⟩ := ha
  obtain ⟨hb0, hb1⟩ := hb
  have hA : 2147483648 ≤ a := by omega
  have f0 := slt0 (a := a) (b := b) (by first | omega | (unfold wrap32; omega))
  have f1 := sltu0 (a := a) (b := b) (by first | omega | (unfold wrap32; omega))
  have f2 := slt1 (a := b) (b := a) (by first | omega | (unfold wrap32; omega))
  have f3 := sltu1 (a := b) (b := a) (by first | omega | (unfold wrap32; omega))
  have ne : (a == b) = false := by simp; omega
  have d1 : decide (2147483648 ≤ a) = true := by simp; omega
  have d2 : decide (2147483648 ≤ b) = true := by simp; omega
  have d3 : decide (a < b) = false := by simp; omega
  go_enter Try.func7, Try.ntmps7
  go_wp2_with (first | (go_at_call 18; refine (op_ _ _ _ ?_ ?_ _).mono ?_; (first | exact Ha | exact Hb | exact ⟨by omega, by omega⟩ | (repeat (first | exact Ha | exact Hb | exact ⟨by omega, by omega⟩ | refine opF_u32 _ ?_ ?_))); (first | exact Ha | exact Hb | exact ⟨by omega, by omega⟩ | (repeat (first | exact Ha | exact Hb | exact ⟨by omega, by omega⟩ | refine opF_u32 _ ?_ ?_))); rintro e w' ⟨rfl, rfl⟩) | (go_at_call 17; refine (awake _).mono ?_; rintro e w' ⟨rfl, rfl⟩))
  go_ret
  exact ⟨rfl, rfl⟩

set_option maxHeartbeats 400000 in
theorem above_hl (a b : Int) (ha : U32 a) (hb : U32 b) (h : b < a) (hB : b < 2147483648) (hA : 2147483648 ≤ a) (w : World) :
    Calls Try.prog 7 #[.int .u32 a, .int .u32 b] w fun e w' => e = .returned (.bool true) ∧ w' = w := by
  have Ha : Hid (U32 a) := ha
  have Hb : Hid (U32 b) := hb
  obtain ⟨ha0, ha1⟩ := ha
  obtain ⟨hb0, hb1⟩ := hb
  have f0 := slt1 (a := a) (b := b) (by first | omega | (unfold wrap32; omega))
  have f1 := sltu0 (a := a) (b := b) (by first | omega | (unfold wrap32; omega))
  have f2 := slt0 (a := b) (b := a) (by first | omega | (unfold wrap32; omega))
  have f3 := sltu1 (a := b) (b := a) (by first | omega | (unfold wrap32; omega))
  have ne : (a == b) = false := by simp; omega
  have d1 : decide (2147483648 ≤ a) = true := by simp; omega
  have d2 : decide (2147483648 ≤ b) = false := by simp; omega
  have d3 : decide (a < b) = false := by simp; omega
  go_enter Try.func7, Try.ntmps7
  go_wp2_with (first | (go_at_call 18; refine (op_ _ _ _ ?_ ?_ _).mono ?_; (first | exact Ha | exact Hb | exact ⟨by omega, by omega⟩ | (repeat (first | exact Ha | exact Hb | exact ⟨by omega, by omega⟩ | refine opF_u32 _ ?_ ?_))); (first | exact Ha | exact Hb | exact ⟨by omega, by omega⟩ | (repeat (first | exact Ha | exact Hb | exact ⟨by omega, by omega⟩ | refine opF_u32 _ ?_ ?_))); rintro e w' ⟨rfl, rfl⟩) | (go_at_call 17; refine (awake _).mono ?_; rintro e w' ⟨rfl, rfl⟩))
  go_ret
  exact ⟨rfl, rfl⟩

theorem wordOrders (a b : Int) (ha : U32 a) (hb : U32 b) (w : World) :
    Calls Try.prog 7 #[.int .u32 a, .int .u32 b] w fun e w' => e = .returned (.bool true) ∧ w' = w := by
  by_cases h : a = b
  · subst h; exact same a ha w
  · by_cases h1 : a < b
    · by_cases hB : b < 2147483648
      · exact below_ll a b ha hb h1 hB w
      · by_cases hA : a < 2147483648
        · exact below_lh a b ha hb h1 hA (by omega) w
        · exact below_hh a b ha hb h1 (by omega) w
    · by_cases hA : a < 2147483648
      · exact above_ll a b ha hb (by omega) hA w
      · by_cases hB : b < 2147483648
        · exact above_hl a b ha hb (by omega) hB (by omega) w
        · exact above_hh a b ha hb (by omega) (by omega) w
end Go.Proofs.Ytmkkilmhghiidaa
