/-
  Which instructions may be, by the document: the contract of the function that tells it.
-/
import Derived.Test.YtpjnefnngmlpjaaReff
namespace Go.Proofs.Ytpjnefnngmlpjaa
open Go.RowKit

theorem ret_bool {x y : Bool} (h : x = y) : Ending.returned (.bool x) = .returned (.bool y) := by rw [h]

theorem rreg (n : Int) (w : World) :
    Calls Try.prog 90 #[.int .i64 n] w fun e w' => e = .returned (.bool (regV n)) ∧ w' = w := by
  by_cases c : 0 ≤ n
  · have e : regV n = decide (n < 32) := by unfold regV; simp [c]
    rw [e]
    clear e
    go_enter Try.func90, Try.ntmps90
    go_wp2
    go_ret
    exact ⟨rfl, rfl⟩
  · have e : regV n = false := by unfold regV; simp [c]
    rw [e]
    clear e
    go_enter Try.func90, Try.ntmps90
    go_wp2
    go_ret
    exact ⟨rfl, rfl⟩
theorem rin (n lo hi : Int) (w : World) :
    Calls Try.prog 91 #[.int .i32 n, .int .i32 lo, .int .i32 hi] w fun e w' => e = .returned (.bool (inV n lo hi)) ∧ w' = w := by
  by_cases c : lo ≤ n
  · have e : inV n lo hi = decide (n ≤ hi) := by unfold inV; simp [c]
    rw [e]
    clear e
    go_enter Try.func91, Try.ntmps91
    go_wp2
    go_ret
    exact ⟨rfl, rfl⟩
  · have e : inV n lo hi = false := by unfold inV; simp [c]
    rw [e]
    clear e
    go_enter Try.func91, Try.ntmps91
    go_wp2
    go_ret
    exact ⟨rfl, rfl⟩
theorem kinds (s : List UInt8) : (formV s).k = 82 ∨ (formV s).k = 73 ∨ (formV s).k = 83 ∨ (formV s).k = 115 ∨ (formV s).k = 66 ∨ (formV s).k = 85 ∨ (formV s).k = 74 ∨ (formV s).k = 67 ∨ (formV s).k = 87 ∨ (formV s).k = 0 := by
  cases e : forms.lookup s with
  | none =>
    have : formV s = noForm := by unfold formV; rw [e]; rfl
    rw [this]; simp [noForm]
  | some p =>
    have hg : goodF p := forms_good _ (mem_of_lookup e)
    have : formV s = p := by unfold formV; rw [e]; rfl
    rw [this]
    unfold goodF at hg
    omega
theorem fldk (k o g f : Value) (w : World) : (Instr.field 132 (.agg #[k, o, g, f]) 0).run Try.prog w = .ok k w := by kernel_rfl


theorem tmod2 (m : Int) : (m.tmod 2 == 0) = decide (m % 2 = 0) := by
  have h : m.tmod 2 = 0 ↔ m % 2 = 0 := by
    rcases Int.le_total 0 m with c | c
    · rw [Int.tmod_eq_emod_of_nonneg c]
    · have e : (-m).tmod 2 = -(m.tmod 2) := Int.neg_tmod _ _
      rw [Int.tmod_eq_emod_of_nonneg (by omega)] at e
      omega
  rw [Bool.eq_iff_iff]
  simp [h]

set_option maxRecDepth 100000 in
set_option maxHeartbeats 2000000 in
theorem may_d (s : ByteArray) (d a b m : Int) (hd : regV d = false) (w : World) :
    Calls Try.prog 69 #[.agg #[.string s, .int .i64 d, .int .i64 a, .int .i64 b, .int .i32 m]] w fun e w' => e = .returned (.bool (mayV ⟨s.toList, d, a, b, m⟩)) ∧ Below w.heap.size w w' := by
  go_enter Try.func69, Try.ntmps69
  go_wp2_with (first | (go_at_call 90; refine (rreg _ _).mono ?_; rintro e w' ⟨rfl, rfl⟩) | (go_at_call 91; refine (rin _ _ _ _).mono ?_; rintro e w' ⟨rfl, rfl⟩))
  all_goals go_ret
  all_goals refine ⟨ret_bool ?_, ?_⟩
  all_goals (first | exact (Below.refl _ _).alloc (Nat.le_refl _) _ | exact ((Below.refl _ _).alloc (Nat.le_refl _) _).alloc (by simp) _ | skip)
  all_goals simp [mayV, mayF, *]

set_option maxRecDepth 100000 in
set_option maxHeartbeats 2000000 in
theorem may_a (s : ByteArray) (d a b m : Int) (hd : regV d = true) (ha : regV a = false) (w : World) :
    Calls Try.prog 69 #[.agg #[.string s, .int .i64 d, .int .i64 a, .int .i64 b, .int .i32 m]] w fun e w' => e = .returned (.bool (mayV ⟨s.toList, d, a, b, m⟩)) ∧ Below w.heap.size w w' := by
  go_enter Try.func69, Try.ntmps69
  go_wp2_with (first | (go_at_call 90; refine (rreg _ _).mono ?_; rintro e w' ⟨rfl, rfl⟩) | (go_at_call 91; refine (rin _ _ _ _).mono ?_; rintro e w' ⟨rfl, rfl⟩))
  all_goals go_ret
  all_goals refine ⟨ret_bool ?_, ?_⟩
  all_goals (first | exact (Below.refl _ _).alloc (Nat.le_refl _) _ | exact ((Below.refl _ _).alloc (Nat.le_refl _) _).alloc (by simp) _ | skip)
  all_goals simp [mayV, mayF, *]

set_option maxRecDepth 100000 in
set_option maxHeartbeats 2000000 in
theorem may_b (s : ByteArray) (d a b m : Int) (hd : regV d = true) (ha : regV a = true) (hb : regV b = false) (w : World) :
    Calls Try.prog 69 #[.agg #[.string s, .int .i64 d, .int .i64 a, .int .i64 b, .int .i32 m]] w fun e w' => e = .returned (.bool (mayV ⟨s.toList, d, a, b, m⟩)) ∧ Below w.heap.size w w' := by
  go_enter Try.func69, Try.ntmps69
  go_wp2_with (first | (go_at_call 90; refine (rreg _ _).mono ?_; rintro e w' ⟨rfl, rfl⟩) | (go_at_call 91; refine (rin _ _ _ _).mono ?_; rintro e w' ⟨rfl, rfl⟩))
  all_goals go_ret
  all_goals refine ⟨ret_bool ?_, ?_⟩
  all_goals (first | exact (Below.refl _ _).alloc (Nat.le_refl _) _ | exact ((Below.refl _ _).alloc (Nat.le_refl _) _).alloc (by simp) _ | skip)
  all_goals simp [mayV, mayF, *]

set_option maxRecDepth 100000 in
set_option maxHeartbeats 2000000 in
theorem may_82 (s : ByteArray) (d a b m : Int) (o g f : Int) (hp : formV s.toList = ⟨82, o, g, f⟩) (hd : regV d = true) (ha : regV a = true) (hb : regV b = true) (w : World) :
    Calls Try.prog 69 #[.agg #[.string s, .int .i64 d, .int .i64 a, .int .i64 b, .int .i32 m]] w fun e w' => e = .returned (.bool (mayV ⟨s.toList, d, a, b, m⟩)) ∧ Below w.heap.size w w' := by
  have HF : Hid (∀ w, Calls Try.prog 70 #[.string s] w fun e w' => e = .returned (.agg #[.int .u8 82, .int .u32 o, .int .u32 g, .int .u32 f]) ∧ w' = w.alloc (.cells #[.int .u8 82, .int .u32 o, .int .u32 g, .int .u32 f] 132)) := rform' s 82 o g f hp
  have hf := fldk
  go_enter Try.func69, Try.ntmps69
  go_wp2_with (first | (go_at_call 90; refine (rreg _ _).mono ?_; rintro e w' ⟨rfl, rfl⟩) | (go_at_call 91; refine (rin _ _ _ _).mono ?_; rintro e w' ⟨rfl, rfl⟩) | (go_at_call 70; refine (HF _).mono ?_; rintro e w' ⟨rfl, rfl⟩))
  all_goals go_ret
  all_goals refine ⟨ret_bool ?_, ?_⟩
  all_goals (first | exact (Below.refl _ _).alloc (Nat.le_refl _) _ | exact ((Below.refl _ _).alloc (Nat.le_refl _) _).alloc (by simp) _ | skip)
  all_goals (first | (simp [mayV, mayF, *]; done) | (simp [mayV, mayF, *]; rfl) | (simp_all [mayV, mayF]; done))

set_option maxRecDepth 100000 in
set_option maxHeartbeats 2000000 in
theorem may_73 (s : ByteArray) (d a b m : Int) (o g f : Int) (hp : formV s.toList = ⟨73, o, g, f⟩) (hd : regV d = true) (ha : regV a = true) (hb : regV b = true) (w : World) :
    Calls Try.prog 69 #[.agg #[.string s, .int .i64 d, .int .i64 a, .int .i64 b, .int .i32 m]] w fun e w' => e = .returned (.bool (mayV ⟨s.toList, d, a, b, m⟩)) ∧ Below w.heap.size w w' := by
  have HF : Hid (∀ w, Calls Try.prog 70 #[.string s] w fun e w' => e = .returned (.agg #[.int .u8 73, .int .u32 o, .int .u32 g, .int .u32 f]) ∧ w' = w.alloc (.cells #[.int .u8 73, .int .u32 o, .int .u32 g, .int .u32 f] 132)) := rform' s 73 o g f hp
  have hf := fldk
  go_enter Try.func69, Try.ntmps69
  go_wp2_with (first | (go_at_call 90; refine (rreg _ _).mono ?_; rintro e w' ⟨rfl, rfl⟩) | (go_at_call 91; refine (rin _ _ _ _).mono ?_; rintro e w' ⟨rfl, rfl⟩) | (go_at_call 70; refine (HF _).mono ?_; rintro e w' ⟨rfl, rfl⟩))
  all_goals go_ret
  all_goals refine ⟨ret_bool ?_, ?_⟩
  all_goals (first | exact (Below.refl _ _).alloc (Nat.le_refl _) _ | exact ((Below.refl _ _).alloc (Nat.le_refl _) _).alloc (by simp) _ | skip)
  all_goals (first | (simp [mayV, mayF, *]; done) | (simp [mayV, mayF, *]; rfl) | (simp_all [mayV, mayF]; done))

set_option maxRecDepth 100000 in
set_option maxHeartbeats 2000000 in
theorem may_83 (s : ByteArray) (d a b m : Int) (o g f : Int) (hp : formV s.toList = ⟨83, o, g, f⟩) (hd : regV d = true) (ha : regV a = true) (hb : regV b = true) (w : World) :
    Calls Try.prog 69 #[.agg #[.string s, .int .i64 d, .int .i64 a, .int .i64 b, .int .i32 m]] w fun e w' => e = .returned (.bool (mayV ⟨s.toList, d, a, b, m⟩)) ∧ Below w.heap.size w w' := by
  have HF : Hid (∀ w, Calls Try.prog 70 #[.string s] w fun e w' => e = .returned (.agg #[.int .u8 83, .int .u32 o, .int .u32 g, .int .u32 f]) ∧ w' = w.alloc (.cells #[.int .u8 83, .int .u32 o, .int .u32 g, .int .u32 f] 132)) := rform' s 83 o g f hp
  have hf := fldk
  go_enter Try.func69, Try.ntmps69
  go_wp2_with (first | (go_at_call 90; refine (rreg _ _).mono ?_; rintro e w' ⟨rfl, rfl⟩) | (go_at_call 91; refine (rin _ _ _ _).mono ?_; rintro e w' ⟨rfl, rfl⟩) | (go_at_call 70; refine (HF _).mono ?_; rintro e w' ⟨rfl, rfl⟩))
  all_goals go_ret
  all_goals refine ⟨ret_bool ?_, ?_⟩
  all_goals (first | exact (Below.refl _ _).alloc (Nat.le_refl _) _ | exact ((Below.refl _ _).alloc (Nat.le_refl _) _).alloc (by simp) _ | skip)
  all_goals (first | (simp [mayV, mayF, *]; done) | (simp [mayV, mayF, *]; rfl) | (simp_all [mayV, mayF]; done))

set_option maxRecDepth 100000 in
set_option maxHeartbeats 2000000 in
theorem may_115 (s : ByteArray) (d a b m : Int) (o g f : Int) (hp : formV s.toList = ⟨115, o, g, f⟩) (hd : regV d = true) (ha : regV a = true) (hb : regV b = true) (w : World) :
    Calls Try.prog 69 #[.agg #[.string s, .int .i64 d, .int .i64 a, .int .i64 b, .int .i32 m]] w fun e w' => e = .returned (.bool (mayV ⟨s.toList, d, a, b, m⟩)) ∧ Below w.heap.size w w' := by
  have HF : Hid (∀ w, Calls Try.prog 70 #[.string s] w fun e w' => e = .returned (.agg #[.int .u8 115, .int .u32 o, .int .u32 g, .int .u32 f]) ∧ w' = w.alloc (.cells #[.int .u8 115, .int .u32 o, .int .u32 g, .int .u32 f] 132)) := rform' s 115 o g f hp
  have hf := fldk
  go_enter Try.func69, Try.ntmps69
  go_wp2_with (first | (go_at_call 90; refine (rreg _ _).mono ?_; rintro e w' ⟨rfl, rfl⟩) | (go_at_call 91; refine (rin _ _ _ _).mono ?_; rintro e w' ⟨rfl, rfl⟩) | (go_at_call 70; refine (HF _).mono ?_; rintro e w' ⟨rfl, rfl⟩))
  all_goals go_ret
  all_goals refine ⟨ret_bool ?_, ?_⟩
  all_goals (first | exact (Below.refl _ _).alloc (Nat.le_refl _) _ | exact ((Below.refl _ _).alloc (Nat.le_refl _) _).alloc (by simp) _ | skip)
  all_goals (first | (simp [mayV, mayF, *]; done) | (simp [mayV, mayF, *]; rfl) | (simp_all [mayV, mayF]; done))

set_option maxRecDepth 100000 in
set_option maxHeartbeats 2000000 in
theorem may_66 (s : ByteArray) (d a b m : Int) (o g f : Int) (hp : formV s.toList = ⟨66, o, g, f⟩) (hd : regV d = true) (ha : regV a = true) (hb : regV b = true) (w : World) :
    Calls Try.prog 69 #[.agg #[.string s, .int .i64 d, .int .i64 a, .int .i64 b, .int .i32 m]] w fun e w' => e = .returned (.bool (mayV ⟨s.toList, d, a, b, m⟩)) ∧ Below w.heap.size w w' := by
  have HF : Hid (∀ w, Calls Try.prog 70 #[.string s] w fun e w' => e = .returned (.agg #[.int .u8 66, .int .u32 o, .int .u32 g, .int .u32 f]) ∧ w' = w.alloc (.cells #[.int .u8 66, .int .u32 o, .int .u32 g, .int .u32 f] 132)) := rform' s 66 o g f hp
  have hf := fldk
  go_enter Try.func69, Try.ntmps69
  go_wp2_with (first | (go_at_call 90; refine (rreg _ _).mono ?_; rintro e w' ⟨rfl, rfl⟩) | (go_at_call 91; refine (rin _ _ _ _).mono ?_; rintro e w' ⟨rfl, rfl⟩) | (go_at_call 70; refine (HF _).mono ?_; rintro e w' ⟨rfl, rfl⟩))
  all_goals go_ret
  all_goals refine ⟨ret_bool ?_, ?_⟩
  all_goals (first | exact (Below.refl _ _).alloc (Nat.le_refl _) _ | exact ((Below.refl _ _).alloc (Nat.le_refl _) _).alloc (by simp) _ | skip)
  all_goals (first | (simp [mayV, mayF, *]; done) | (rw [tmod2]; simp_all [mayV, mayF]; done))

set_option maxRecDepth 100000 in
set_option maxHeartbeats 2000000 in
theorem may_85 (s : ByteArray) (d a b m : Int) (o g f : Int) (hp : formV s.toList = ⟨85, o, g, f⟩) (hd : regV d = true) (ha : regV a = true) (hb : regV b = true) (w : World) :
    Calls Try.prog 69 #[.agg #[.string s, .int .i64 d, .int .i64 a, .int .i64 b, .int .i32 m]] w fun e w' => e = .returned (.bool (mayV ⟨s.toList, d, a, b, m⟩)) ∧ Below w.heap.size w w' := by
  have HF : Hid (∀ w, Calls Try.prog 70 #[.string s] w fun e w' => e = .returned (.agg #[.int .u8 85, .int .u32 o, .int .u32 g, .int .u32 f]) ∧ w' = w.alloc (.cells #[.int .u8 85, .int .u32 o, .int .u32 g, .int .u32 f] 132)) := rform' s 85 o g f hp
  have hf := fldk
  go_enter Try.func69, Try.ntmps69
  go_wp2_with (first | (go_at_call 90; refine (rreg _ _).mono ?_; rintro e w' ⟨rfl, rfl⟩) | (go_at_call 91; refine (rin _ _ _ _).mono ?_; rintro e w' ⟨rfl, rfl⟩) | (go_at_call 70; refine (HF _).mono ?_; rintro e w' ⟨rfl, rfl⟩))
  all_goals go_ret
  all_goals refine ⟨ret_bool ?_, ?_⟩
  all_goals (first | exact (Below.refl _ _).alloc (Nat.le_refl _) _ | exact ((Below.refl _ _).alloc (Nat.le_refl _) _).alloc (by simp) _ | skip)
  all_goals (first | (simp [mayV, mayF, *]; done) | (simp [mayV, mayF, *]; rfl) | (simp_all [mayV, mayF]; done))

set_option maxRecDepth 100000 in
set_option maxHeartbeats 2000000 in
theorem may_74 (s : ByteArray) (d a b m : Int) (o g f : Int) (hp : formV s.toList = ⟨74, o, g, f⟩) (hd : regV d = true) (ha : regV a = true) (hb : regV b = true) (w : World) :
    Calls Try.prog 69 #[.agg #[.string s, .int .i64 d, .int .i64 a, .int .i64 b, .int .i32 m]] w fun e w' => e = .returned (.bool (mayV ⟨s.toList, d, a, b, m⟩)) ∧ Below w.heap.size w w' := by
  have HF : Hid (∀ w, Calls Try.prog 70 #[.string s] w fun e w' => e = .returned (.agg #[.int .u8 74, .int .u32 o, .int .u32 g, .int .u32 f]) ∧ w' = w.alloc (.cells #[.int .u8 74, .int .u32 o, .int .u32 g, .int .u32 f] 132)) := rform' s 74 o g f hp
  have hf := fldk
  go_enter Try.func69, Try.ntmps69
  go_wp2_with (first | (go_at_call 90; refine (rreg _ _).mono ?_; rintro e w' ⟨rfl, rfl⟩) | (go_at_call 91; refine (rin _ _ _ _).mono ?_; rintro e w' ⟨rfl, rfl⟩) | (go_at_call 70; refine (HF _).mono ?_; rintro e w' ⟨rfl, rfl⟩))
  all_goals go_ret
  all_goals refine ⟨ret_bool ?_, ?_⟩
  all_goals (first | exact (Below.refl _ _).alloc (Nat.le_refl _) _ | exact ((Below.refl _ _).alloc (Nat.le_refl _) _).alloc (by simp) _ | skip)
  all_goals (first | (simp [mayV, mayF, *]; done) | (rw [tmod2]; simp_all [mayV, mayF]; done))

set_option maxRecDepth 100000 in
set_option maxHeartbeats 2000000 in
theorem may_67 (s : ByteArray) (d a b m : Int) (o g f : Int) (hp : formV s.toList = ⟨67, o, g, f⟩) (hd : regV d = true) (ha : regV a = true) (hb : regV b = true) (w : World) :
    Calls Try.prog 69 #[.agg #[.string s, .int .i64 d, .int .i64 a, .int .i64 b, .int .i32 m]] w fun e w' => e = .returned (.bool (mayV ⟨s.toList, d, a, b, m⟩)) ∧ Below w.heap.size w w' := by
  have HF : Hid (∀ w, Calls Try.prog 70 #[.string s] w fun e w' => e = .returned (.agg #[.int .u8 67, .int .u32 o, .int .u32 g, .int .u32 f]) ∧ w' = w.alloc (.cells #[.int .u8 67, .int .u32 o, .int .u32 g, .int .u32 f] 132)) := rform' s 67 o g f hp
  have hf := fldk
  go_enter Try.func69, Try.ntmps69
  go_wp2_with (first | (go_at_call 90; refine (rreg _ _).mono ?_; rintro e w' ⟨rfl, rfl⟩) | (go_at_call 91; refine (rin _ _ _ _).mono ?_; rintro e w' ⟨rfl, rfl⟩) | (go_at_call 70; refine (HF _).mono ?_; rintro e w' ⟨rfl, rfl⟩))
  all_goals go_ret
  all_goals refine ⟨ret_bool ?_, ?_⟩
  all_goals (first | exact (Below.refl _ _).alloc (Nat.le_refl _) _ | exact ((Below.refl _ _).alloc (Nat.le_refl _) _).alloc (by simp) _ | skip)
  all_goals (first | (simp [mayV, mayF, *]; done) | (simp [mayV, mayF, *]; rfl) | (simp_all [mayV, mayF]; done))

set_option maxRecDepth 100000 in
set_option maxHeartbeats 2000000 in
theorem may_87 (s : ByteArray) (d a b m : Int) (o g f : Int) (hp : formV s.toList = ⟨87, o, g, f⟩) (hd : regV d = true) (ha : regV a = true) (hb : regV b = true) (w : World) :
    Calls Try.prog 69 #[.agg #[.string s, .int .i64 d, .int .i64 a, .int .i64 b, .int .i32 m]] w fun e w' => e = .returned (.bool (mayV ⟨s.toList, d, a, b, m⟩)) ∧ Below w.heap.size w w' := by
  have HF : Hid (∀ w, Calls Try.prog 70 #[.string s] w fun e w' => e = .returned (.agg #[.int .u8 87, .int .u32 o, .int .u32 g, .int .u32 f]) ∧ w' = w.alloc (.cells #[.int .u8 87, .int .u32 o, .int .u32 g, .int .u32 f] 132)) := rform' s 87 o g f hp
  have hf := fldk
  go_enter Try.func69, Try.ntmps69
  go_wp2_with (first | (go_at_call 90; refine (rreg _ _).mono ?_; rintro e w' ⟨rfl, rfl⟩) | (go_at_call 91; refine (rin _ _ _ _).mono ?_; rintro e w' ⟨rfl, rfl⟩) | (go_at_call 70; refine (HF _).mono ?_; rintro e w' ⟨rfl, rfl⟩))
  all_goals go_ret
  all_goals refine ⟨ret_bool ?_, ?_⟩
  all_goals (first | exact (Below.refl _ _).alloc (Nat.le_refl _) _ | exact ((Below.refl _ _).alloc (Nat.le_refl _) _).alloc (by simp) _ | skip)
  all_goals (first | (simp [mayV, mayF, *]; done) | (simp [mayV, mayF, *]; rfl) | (simp_all [mayV, mayF]; done))

set_option maxRecDepth 100000 in
set_option maxHeartbeats 2000000 in
theorem may_0 (s : ByteArray) (d a b m : Int) (o g f : Int) (hp : formV s.toList = ⟨0, o, g, f⟩) (hd : regV d = true) (ha : regV a = true) (hb : regV b = true) (w : World) :
    Calls Try.prog 69 #[.agg #[.string s, .int .i64 d, .int .i64 a, .int .i64 b, .int .i32 m]] w fun e w' => e = .returned (.bool (mayV ⟨s.toList, d, a, b, m⟩)) ∧ Below w.heap.size w w' := by
  have HF : Hid (∀ w, Calls Try.prog 70 #[.string s] w fun e w' => e = .returned (.agg #[.int .u8 0, .int .u32 o, .int .u32 g, .int .u32 f]) ∧ w' = w.alloc (.cells #[.int .u8 0, .int .u32 o, .int .u32 g, .int .u32 f] 132)) := rform' s 0 o g f hp
  have hf := fldk
  go_enter Try.func69, Try.ntmps69
  go_wp2_with (first | (go_at_call 90; refine (rreg _ _).mono ?_; rintro e w' ⟨rfl, rfl⟩) | (go_at_call 91; refine (rin _ _ _ _).mono ?_; rintro e w' ⟨rfl, rfl⟩) | (go_at_call 70; refine (HF _).mono ?_; rintro e w' ⟨rfl, rfl⟩))
  all_goals go_ret
  all_goals refine ⟨ret_bool ?_, ?_⟩
  all_goals (first | exact (Below.refl _ _).alloc (Nat.le_refl _) _ | exact ((Below.refl _ _).alloc (Nat.le_refl _) _).alloc (by simp) _ | skip)
  all_goals (first | (simp [mayV, mayF, *]; done) | (simp [mayV, mayF, *]; rfl) | (simp_all [mayV, mayF]; done))

theorem rMay (s : ByteArray) (d a b m : Int) (w : World) :
    Calls Try.prog 69 #[.agg #[.string s, .int .i64 d, .int .i64 a, .int .i64 b, .int .i32 m]] w fun e w' => e = .returned (.bool (mayV ⟨s.toList, d, a, b, m⟩)) ∧ Below w.heap.size w w' := by
  cases hd : regV d with
  | false => exact may_d s d a b m hd w
  | true =>
    cases ha : regV a with
    | false => exact may_a s d a b m hd ha w
    | true =>
      cases hb : regV b with
      | false => exact may_b s d a b m hd ha hb w
      | true =>
        have hk := kinds s.toList
        cases hp : formV s.toList with
        | mk k o g f =>
          rw [hp] at hk
          simp only at hk
          rcases hk with rfl | rfl | rfl | rfl | rfl | rfl | rfl | rfl | rfl | rfl
          · exact may_82 s d a b m o g f hp hd ha hb w
          · exact may_73 s d a b m o g f hp hd ha hb w
          · exact may_83 s d a b m o g f hp hd ha hb w
          · exact may_115 s d a b m o g f hp hd ha hb w
          · exact may_66 s d a b m o g f hp hd ha hb w
          · exact may_85 s d a b m o g f hp hd ha hb w
          · exact may_74 s d a b m o g f hp hd ha hb w
          · exact may_67 s d a b m o g f hp hd ha hb w
          · exact may_87 s d a b m o g f hp hd ha hb w
          · exact may_0 s d a b m o g f hp hd ha hb w
end Go.Proofs.Ytpjnefnngmlpjaa
