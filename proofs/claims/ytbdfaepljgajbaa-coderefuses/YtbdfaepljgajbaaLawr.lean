/-
  CodeRefuses: registers beyond 31, numbers beyond what there is room for, odd ways, fields that a kind has not: no word.
-/
import Derived.Test.YtbdfaepljgajbaaLawb
import Derived.Test.YtbdfaepljgajbaaInsq
namespace Go.Proofs.Ytbdfaepljgajbaa
open Go.RowKit

theorem may_far (k d a b m : Int) (h : 2097152 ≤ m ∨ m ≤ -2097153) : mayF k d a b m = false := by
  unfold mayF inV
  cases hh : (regV d && regV a && regV b) with
  | false => rfl
  | true =>
    simp only [Bool.true_and]
    repeat' split
    all_goals first | rfl | (simp; omega)
theorem may_reg (k d a b m : Int) (h : regV d = false ∨ regV a = false ∨ regV b = false) : mayF k d a b m = false := by
  unfold mayF
  rcases h with h | h | h <;> simp [h]
theorem refuse {s : ByteArray} {d a b m : Int} (h : mayV ⟨s.toList, d, a, b, m⟩ = false) : (∀ w, Calls Try.prog 8 #[.agg #[.string s, .int .i64 d, .int .i64 a, .int .i64 b, .int .i32 m]] w fun e w' => e = .returned (.tuple #[.int .u32 0, .int .i64 1]) ∧ Below w.heap.size w w') ∧
    ∀ w, Calls Try.prog 12 #[.agg #[.string s, .int .i64 d, .int .i64 a, .int .i64 b, .int .i32 m]] w fun e w' => e = .returned (.bool false) ∧ Below w.heap.size w w' := by
  constructor
  · intro w
    have := cPut s d a b m w
    unfold putN putE at this
    rw [h] at this
    exact this
  · intro w
    have := cMay s d a b m w
    rw [h] at this
    exact this
def rfS : Nat → ByteArray
  | 0 => ⟨#[101, 99, 97, 108, 108]⟩
  | 1 => ⟨#[97, 100, 100]⟩
  | 2 => ⟨#[115, 119]⟩
  | 3 => ⟨#[108, 117, 105]⟩
  | 4 => ⟨#[115, 108, 108, 105]⟩
  | 5 => ⟨#[97, 100, 100, 105]⟩
  | 6 => ⟨#[]⟩
  | _ => ⟨#[99, 115, 114, 114, 119]⟩
def rfD : Nat → Int
  | 0 => 1
  | 1 => 0
  | 2 => 1
  | 3 => 0
  | 4 => 0
  | 5 => 0
  | 6 => 0
  | _ => 0
def rfA : Nat → Int
  | 0 => 0
  | 1 => 0
  | 2 => 0
  | 3 => 1
  | 4 => 0
  | 5 => 0
  | 6 => 0
  | _ => 0
def rfB : Nat → Int
  | 0 => 0
  | 1 => 0
  | 2 => 0
  | 3 => 0
  | 4 => 0
  | 5 => 1
  | 6 => 0
  | _ => 0
def rfM : Nat → Int
  | 0 => 0
  | 1 => 1
  | 2 => 0
  | 3 => 0
  | 4 => 32
  | 5 => 0
  | 6 => 0
  | _ => -1

def rfL : List Value := [.string ⟨#[101, 99, 97, 108, 108]⟩, .int .i64 1, .int .i64 0, .int .i64 0, .int .i32 (0), .string ⟨#[97, 100, 100]⟩, .int .i64 0, .int .i64 0, .int .i64 0, .int .i32 (1), .string ⟨#[115, 119]⟩, .int .i64 1, .int .i64 0, .int .i64 0, .int .i32 (0), .string ⟨#[108, 117, 105]⟩, .int .i64 0, .int .i64 1, .int .i64 0, .int .i32 (0), .string ⟨#[115, 108, 108, 105]⟩, .int .i64 0, .int .i64 0, .int .i64 0, .int .i32 (32), .string ⟨#[97, 100, 100, 105]⟩, .int .i64 0, .int .i64 0, .int .i64 1, .int .i32 (0), .string ⟨#[]⟩, .int .i64 0, .int .i64 0, .int .i64 0, .int .i32 (0), .string ⟨#[99, 115, 114, 114, 119]⟩, .int .i64 0, .int .i64 0, .int .i64 0, .int .i32 (-1)]
set_option maxRecDepth 100000 in
theorem rf_cells (k : Nat) (h : k < 8) : rfL[k * 5]? = some (.string (rfS k)) ∧ rfL[k * 5 + 1]? = some (.int .i64 (rfD k)) ∧ rfL[k * 5 + 2]? = some (.int .i64 (rfA k)) ∧ rfL[k * 5 + 3]? = some (.int .i64 (rfB k)) ∧ rfL[k * 5 + 4]? = some (.int .i32 (rfM k)) := by
  have h' : k = 0 ∨ k = 1 ∨ k = 2 ∨ k = 3 ∨ k = 4 ∨ k = 5 ∨ k = 6 ∨ k = 7 := by omega
  rcases h' with rfl | rfl | rfl | rfl | rfl | rfl | rfl | rfl <;> exact ⟨rfl, rfl, rfl, rfl, rfl⟩
theorem rf_not (k : Nat) (h : k < 8) : mayV ⟨(rfS k).toList, rfD k, rfA k, rfB k, rfM k⟩ = false := by
  have h' : k = 0 ∨ k = 1 ∨ k = 2 ∨ k = 3 ∨ k = 4 ∨ k = 5 ∨ k = 6 ∨ k = 7 := by omega
  rcases h' with rfl | rfl | rfl | rfl | rfl | rfl | rfl | rfl <;> decide +kernel
theorem bytes_more (s : ByteArray) : (s ++ ⟨#[120]⟩ : ByteArray).toList = s.toList ++ [120] := by
  rw [ByteArray.toList_eq, ByteArray.toList_eq]
  simp
theorem names_x : (forms.all fun q => (forms.lookup (q.1 ++ [120])).isNone) = true := by decide +kernel
theorem more_x (k : Nat) (h : k < 53) : formV (opAt k ++ ⟨#[120]⟩ : ByteArray).toList = noForm := by
  rw [bytes_more, opAt_form k h]
  have := List.all_eq_true.1 names_x _ (formAt_mem k h)
  unfold formV
  cases hl : forms.lookup ((formAt k).1 ++ [120]) with
  | none => rfl
  | some p => rw [hl] at this; cases this
theorem op_size (k : Nat) (h : k < 53) : (opAt k).size ≤ 6 := by
  have h' : k = 0 ∨ k = 1 ∨ k = 2 ∨ k = 3 ∨ k = 4 ∨ k = 5 ∨ k = 6 ∨ k = 7 ∨ k = 8 ∨ k = 9 ∨ k = 10 ∨ k = 11 ∨ k = 12 ∨ k = 13 ∨ k = 14 ∨ k = 15 ∨ k = 16 ∨ k = 17 ∨ k = 18 ∨ k = 19 ∨ k = 20 ∨ k = 21 ∨ k = 22 ∨ k = 23 ∨ k = 24 ∨ k = 25 ∨ k = 26 ∨ k = 27 ∨ k = 28 ∨ k = 29 ∨ k = 30 ∨ k = 31 ∨ k = 32 ∨ k = 33 ∨ k = 34 ∨ k = 35 ∨ k = 36 ∨ k = 37 ∨ k = 38 ∨ k = 39 ∨ k = 40 ∨ k = 41 ∨ k = 42 ∨ k = 43 ∨ k = 44 ∨ k = 45 ∨ k = 46 ∨ k = 47 ∨ k = 48 ∨ k = 49 ∨ k = 50 ∨ k = 51 ∨ k = 52 := by omega
  rcases h' with rfl | rfl | rfl | rfl | rfl | rfl | rfl | rfl | rfl | rfl | rfl | rfl | rfl | rfl | rfl | rfl | rfl | rfl | rfl | rfl | rfl | rfl | rfl | rfl | rfl | rfl | rfl | rfl | rfl | rfl | rfl | rfl | rfl | rfl | rfl | rfl | rfl | rfl | rfl | rfl | rfl | rfl | rfl | rfl | rfl | rfl | rfl | rfl | rfl | rfl | rfl | rfl | rfl <;> decide

set_option maxRecDepth 100000 in
set_option maxHeartbeats 4000000 in
theorem codeRefuses (c d h n : Int) (hc : 0 ≤ c ∧ c ≤ 255) (hd : 0 ≤ d ∧ d ≤ 255) (hh : 0 ≤ h ∧ h ≤ 255) (hn : -2147483648 ≤ n ∧ n ≤ 2147483647) (w : World) :
    Calls Try.prog 5 #[.int .u8 c, .int .u8 d, .int .u8 h, .int .i32 n] w fun e w' => e = .returned (.bool true) ∧ Below w.heap.size w w' := by
  have CI : Hid _ := rIns c d d d 0 hc hd hd hd (by omega)
  have HX : Hid _ := more_x (c % 53).toNat (by omega)
  have hsz := op_size (c % 53).toNat (by omega)
  obtain ⟨hd0, hd1⟩ := hd
  obtain ⟨hh0, hh1⟩ := hh
  obtain ⟨hn0, hn1⟩ := hn
  generalize opAt (c % 53).toNat = S at *
  generalize (insN c d d d 0).d = D at *
  generalize (insN c d d d 0).a = A at *
  generalize (insN c d d d 0).b = B at *
  generalize (insN c d d d 0).m = M at *
  have CE : Hid _ := cerr 1
  have hS1 : ¬ 9223372036854775807 < S.size + 1 := by omega
  clear hc hsz
  have hcases : h % 8 = 0 ∨ h % 8 = 1 ∨ h % 8 = 2 ∨ h % 8 = 3 ∨ h % 8 = 4 ∨ h % 8 = 5 ∨ h % 8 = 6 ∨ h % 8 = 7 := by omega
  rcases hcases with hj | hj | hj | hj | hj | hj | hj | hj
  · obtain ⟨CP', CM'⟩ := refuse (s := S) (d := 32) (a := A) (b := B) (m := M) (may_reg _ _ _ _ _ (Or.inl (show regV 32 = false by decide)))
    have CP : Hid _ := CP'
    have CM : Hid _ := CM'
    clear CP' CM'
    go_enter Try.func5, Try.ntmps5
    go_wp2_with fail
    refine (CI.out _).mono ?_
    rintro e w1 ⟨rfl, hb1⟩
    have HB : Hid _ := hb1
    clear hb1
    go_wp2_with fail
    all_goals
      have HV : Hid (Below w.heap.size w (w1.alloc (.cells #[.string S, .int .i64 32, .int .i64 A, .int .i64 B, .int .i32 M] 23))) := HB.out.alloc HB.out.size _
      refine (CP.out _).mono ?_
      rintro e w2 ⟨rfl, hb2⟩
      obtain ⟨tc, _, _⟩ := cells_of (kept_on (alloc_at w1 (.cells #[.string S, .int .i64 32, .int .i64 A, .int .i64 B, .int .i32 M] 23)) hb2)
      have t0 := tc 0 (.string S) rfl
      have t1 := tc 1 (.int .i64 32) rfl
      have t2 := tc 2 (.int .i64 A) rfl
      have t3 := tc 3 (.int .i64 B) rfl
      have t4 := tc 4 (.int .i32 M) rfl
      have HB2 : Hid (Below w.heap.size w w2) := below_step HV.out hb2
      clear tc hb2
      go_wp2_with fail
      refine (CM.out _).mono ?_
      rintro e w3 ⟨rfl, hb3⟩
      go_wp2_with fail
      refine (CE.out _).mono ?_
      rintro e w' ⟨rfl, rfl⟩
      go_wp2_with fail
      refine (cawake _).mono ?_
      rintro e w4 ⟨rfl, hb4⟩
      go_wp2
      go_ret
      exact ⟨rfl, below_step (below_step HB2.out hb3) hb4⟩
  · obtain ⟨CP', CM'⟩ := refuse (s := S) (d := D) (a := (-1)) (b := B) (m := M) (may_reg _ _ _ _ _ (Or.inr (Or.inl (show regV (-1) = false by decide))))
    have CP : Hid _ := CP'
    have CM : Hid _ := CM'
    clear CP' CM'
    go_enter Try.func5, Try.ntmps5
    go_wp2_with fail
    refine (CI.out _).mono ?_
    rintro e w1 ⟨rfl, hb1⟩
    have HB : Hid _ := hb1
    clear hb1
    go_wp2_with fail
    all_goals
      have HV : Hid (Below w.heap.size w (w1.alloc (.cells #[.string S, .int .i64 D, .int .i64 (-1), .int .i64 B, .int .i32 M] 23))) := HB.out.alloc HB.out.size _
      refine (CP.out _).mono ?_
      rintro e w2 ⟨rfl, hb2⟩
      obtain ⟨tc, _, _⟩ := cells_of (kept_on (alloc_at w1 (.cells #[.string S, .int .i64 D, .int .i64 (-1), .int .i64 B, .int .i32 M] 23)) hb2)
      have t0 := tc 0 (.string S) rfl
      have t1 := tc 1 (.int .i64 D) rfl
      have t2 := tc 2 (.int .i64 (-1)) rfl
      have t3 := tc 3 (.int .i64 B) rfl
      have t4 := tc 4 (.int .i32 M) rfl
      have HB2 : Hid (Below w.heap.size w w2) := below_step HV.out hb2
      clear tc hb2
      go_wp2_with fail
      refine (CM.out _).mono ?_
      rintro e w3 ⟨rfl, hb3⟩
      go_wp2_with fail
      refine (CE.out _).mono ?_
      rintro e w' ⟨rfl, rfl⟩
      go_wp2_with fail
      refine (cawake _).mono ?_
      rintro e w4 ⟨rfl, hb4⟩
      go_wp2
      go_ret
      exact ⟨rfl, below_step (below_step HB2.out hb3) hb4⟩
  · obtain ⟨CP', CM'⟩ := refuse (s := S) (d := D) (a := A) (b := 32) (m := M) (may_reg _ _ _ _ _ (Or.inr (Or.inr (show regV 32 = false by decide))))
    have CP : Hid _ := CP'
    have CM : Hid _ := CM'
    clear CP' CM'
    go_enter Try.func5, Try.ntmps5
    go_wp2_with fail
    refine (CI.out _).mono ?_
    rintro e w1 ⟨rfl, hb1⟩
    have HB : Hid _ := hb1
    clear hb1
    go_wp2_with fail
    all_goals
      have HV : Hid (Below w.heap.size w (w1.alloc (.cells #[.string S, .int .i64 D, .int .i64 A, .int .i64 32, .int .i32 M] 23))) := HB.out.alloc HB.out.size _
      refine (CP.out _).mono ?_
      rintro e w2 ⟨rfl, hb2⟩
      obtain ⟨tc, _, _⟩ := cells_of (kept_on (alloc_at w1 (.cells #[.string S, .int .i64 D, .int .i64 A, .int .i64 32, .int .i32 M] 23)) hb2)
      have t0 := tc 0 (.string S) rfl
      have t1 := tc 1 (.int .i64 D) rfl
      have t2 := tc 2 (.int .i64 A) rfl
      have t3 := tc 3 (.int .i64 32) rfl
      have t4 := tc 4 (.int .i32 M) rfl
      have HB2 : Hid (Below w.heap.size w w2) := below_step HV.out hb2
      clear tc hb2
      go_wp2_with fail
      refine (CM.out _).mono ?_
      rintro e w3 ⟨rfl, hb3⟩
      go_wp2_with fail
      refine (CE.out _).mono ?_
      rintro e w' ⟨rfl, rfl⟩
      go_wp2_with fail
      refine (cawake _).mono ?_
      rintro e w4 ⟨rfl, hb4⟩
      go_wp2
      go_ret
      exact ⟨rfl, below_step (below_step HB2.out hb3) hb4⟩
  · by_cases hbig : 2097152 ≤ n
    · obtain ⟨CP', CM'⟩ := refuse (s := S) (d := D) (a := A) (b := B) (m := n) (may_far _ _ _ _ _ (by first | exact Or.inl hbig | exact Or.inr hbig | exact Or.inl (Int.le_refl 2097152) | exact Or.inr (Int.le_refl (-2097153))))
      have CP : Hid _ := CP'
      have CM : Hid _ := CM'
      clear CP' CM'
      go_enter Try.func5, Try.ntmps5
      go_wp2_with fail
      refine (CI.out _).mono ?_
      rintro e w1 ⟨rfl, hb1⟩
      have HB : Hid _ := hb1
      clear hb1
      go_wp2_with fail
      all_goals
        have HV : Hid (Below w.heap.size w (w1.alloc (.cells #[.string S, .int .i64 D, .int .i64 A, .int .i64 B, .int .i32 n] 23))) := HB.out.alloc HB.out.size _
        refine (CP.out _).mono ?_
        rintro e w2 ⟨rfl, hb2⟩
        obtain ⟨tc, _, _⟩ := cells_of (kept_on (alloc_at w1 (.cells #[.string S, .int .i64 D, .int .i64 A, .int .i64 B, .int .i32 n] 23)) hb2)
        have t0 := tc 0 (.string S) rfl
        have t1 := tc 1 (.int .i64 D) rfl
        have t2 := tc 2 (.int .i64 A) rfl
        have t3 := tc 3 (.int .i64 B) rfl
        have t4 := tc 4 (.int .i32 n) rfl
        have HB2 : Hid (Below w.heap.size w w2) := below_step HV.out hb2
        clear tc hb2
        go_wp2_with fail
        refine (CM.out _).mono ?_
        rintro e w3 ⟨rfl, hb3⟩
        go_wp2_with fail
        refine (CE.out _).mono ?_
        rintro e w' ⟨rfl, rfl⟩
        go_wp2_with fail
        refine (cawake _).mono ?_
        rintro e w4 ⟨rfl, hb4⟩
        go_wp2
        go_ret
        exact ⟨rfl, below_step (below_step HB2.out hb3) hb4⟩
    · obtain ⟨CP', CM'⟩ := refuse (s := S) (d := D) (a := A) (b := B) (m := 2097152) (may_far _ _ _ _ _ (by first | exact Or.inl hbig | exact Or.inr hbig | exact Or.inl (Int.le_refl 2097152) | exact Or.inr (Int.le_refl (-2097153))))
      have CP : Hid _ := CP'
      have CM : Hid _ := CM'
      clear CP' CM'
      go_enter Try.func5, Try.ntmps5
      go_wp2_with fail
      refine (CI.out _).mono ?_
      rintro e w1 ⟨rfl, hb1⟩
      have HB : Hid _ := hb1
      clear hb1
      go_wp2_with fail
      all_goals
        have HV : Hid (Below w.heap.size w (w1.alloc (.cells #[.string S, .int .i64 D, .int .i64 A, .int .i64 B, .int .i32 2097152] 23))) := HB.out.alloc HB.out.size _
        refine (CP.out _).mono ?_
        rintro e w2 ⟨rfl, hb2⟩
        obtain ⟨tc, _, _⟩ := cells_of (kept_on (alloc_at w1 (.cells #[.string S, .int .i64 D, .int .i64 A, .int .i64 B, .int .i32 2097152] 23)) hb2)
        have t0 := tc 0 (.string S) rfl
        have t1 := tc 1 (.int .i64 D) rfl
        have t2 := tc 2 (.int .i64 A) rfl
        have t3 := tc 3 (.int .i64 B) rfl
        have t4 := tc 4 (.int .i32 2097152) rfl
        have HB2 : Hid (Below w.heap.size w w2) := below_step HV.out hb2
        clear tc hb2
        go_wp2_with fail
        refine (CM.out _).mono ?_
        rintro e w3 ⟨rfl, hb3⟩
        go_wp2_with fail
        refine (CE.out _).mono ?_
        rintro e w' ⟨rfl, rfl⟩
        go_wp2_with fail
        refine (cawake _).mono ?_
        rintro e w4 ⟨rfl, hb4⟩
        go_wp2
        go_ret
        exact ⟨rfl, below_step (below_step HB2.out hb3) hb4⟩
  · by_cases hbig : n ≤ -2097153
    · obtain ⟨CP', CM'⟩ := refuse (s := S) (d := D) (a := A) (b := B) (m := n) (may_far _ _ _ _ _ (by first | exact Or.inl hbig | exact Or.inr hbig | exact Or.inl (Int.le_refl 2097152) | exact Or.inr (Int.le_refl (-2097153))))
      have CP : Hid _ := CP'
      have CM : Hid _ := CM'
      clear CP' CM'
      go_enter Try.func5, Try.ntmps5
      go_wp2_with fail
      refine (CI.out _).mono ?_
      rintro e w1 ⟨rfl, hb1⟩
      have HB : Hid _ := hb1
      clear hb1
      go_wp2_with fail
      all_goals
        have HV : Hid (Below w.heap.size w (w1.alloc (.cells #[.string S, .int .i64 D, .int .i64 A, .int .i64 B, .int .i32 n] 23))) := HB.out.alloc HB.out.size _
        refine (CP.out _).mono ?_
        rintro e w2 ⟨rfl, hb2⟩
        obtain ⟨tc, _, _⟩ := cells_of (kept_on (alloc_at w1 (.cells #[.string S, .int .i64 D, .int .i64 A, .int .i64 B, .int .i32 n] 23)) hb2)
        have t0 := tc 0 (.string S) rfl
        have t1 := tc 1 (.int .i64 D) rfl
        have t2 := tc 2 (.int .i64 A) rfl
        have t3 := tc 3 (.int .i64 B) rfl
        have t4 := tc 4 (.int .i32 n) rfl
        have HB2 : Hid (Below w.heap.size w w2) := below_step HV.out hb2
        clear tc hb2
        go_wp2_with fail
        refine (CM.out _).mono ?_
        rintro e w3 ⟨rfl, hb3⟩
        go_wp2_with fail
        refine (CE.out _).mono ?_
        rintro e w' ⟨rfl, rfl⟩
        go_wp2_with fail
        refine (cawake _).mono ?_
        rintro e w4 ⟨rfl, hb4⟩
        go_wp2
        go_ret
        exact ⟨rfl, below_step (below_step HB2.out hb3) hb4⟩
    · obtain ⟨CP', CM'⟩ := refuse (s := S) (d := D) (a := A) (b := B) (m := (-2097153)) (may_far _ _ _ _ _ (by first | exact Or.inl hbig | exact Or.inr hbig | exact Or.inl (Int.le_refl 2097152) | exact Or.inr (Int.le_refl (-2097153))))
      have CP : Hid _ := CP'
      have CM : Hid _ := CM'
      clear CP' CM'
      go_enter Try.func5, Try.ntmps5
      go_wp2_with fail
      refine (CI.out _).mono ?_
      rintro e w1 ⟨rfl, hb1⟩
      have HB : Hid _ := hb1
      clear hb1
      go_wp2_with fail
      all_goals
        have HV : Hid (Below w.heap.size w (w1.alloc (.cells #[.string S, .int .i64 D, .int .i64 A, .int .i64 B, .int .i32 (-2097153)] 23))) := HB.out.alloc HB.out.size _
        refine (CP.out _).mono ?_
        rintro e w2 ⟨rfl, hb2⟩
        obtain ⟨tc, _, _⟩ := cells_of (kept_on (alloc_at w1 (.cells #[.string S, .int .i64 D, .int .i64 A, .int .i64 B, .int .i32 (-2097153)] 23)) hb2)
        have t0 := tc 0 (.string S) rfl
        have t1 := tc 1 (.int .i64 D) rfl
        have t2 := tc 2 (.int .i64 A) rfl
        have t3 := tc 3 (.int .i64 B) rfl
        have t4 := tc 4 (.int .i32 (-2097153)) rfl
        have HB2 : Hid (Below w.heap.size w w2) := below_step HV.out hb2
        clear tc hb2
        go_wp2_with fail
        refine (CM.out _).mono ?_
        rintro e w3 ⟨rfl, hb3⟩
        go_wp2_with fail
        refine (CE.out _).mono ?_
        rintro e w' ⟨rfl, rfl⟩
        go_wp2_with fail
        refine (cawake _).mono ?_
        rintro e w4 ⟨rfl, hb4⟩
        go_wp2
        go_ret
        exact ⟨rfl, below_step (below_step HB2.out hb3) hb4⟩
  · obtain ⟨CP', CM'⟩ := refuse (s := (S ++ ⟨#[120]⟩)) (d := D) (a := A) (b := B) (m := M) (by unfold mayV; simp only; rw [HX.out]; unfold mayF noForm; simp)
    have CP : Hid _ := CP'
    have CM : Hid _ := CM'
    clear CP' CM'
    go_enter Try.func5, Try.ntmps5
    go_wp2_with fail
    refine (CI.out _).mono ?_
    rintro e w1 ⟨rfl, hb1⟩
    have HB : Hid _ := hb1
    clear hb1
    go_wp2_with fail
    all_goals
      have HV : Hid (Below w.heap.size w (w1.alloc (.cells #[.string (S ++ ⟨#[120]⟩), .int .i64 D, .int .i64 A, .int .i64 B, .int .i32 M] 23))) := HB.out.alloc HB.out.size _
      refine (CP.out _).mono ?_
      rintro e w2 ⟨rfl, hb2⟩
      obtain ⟨tc, _, _⟩ := cells_of (kept_on (alloc_at w1 (.cells #[.string (S ++ ⟨#[120]⟩), .int .i64 D, .int .i64 A, .int .i64 B, .int .i32 M] 23)) hb2)
      have t0 := tc 0 (.string (S ++ ⟨#[120]⟩)) rfl
      have t1 := tc 1 (.int .i64 D) rfl
      have t2 := tc 2 (.int .i64 A) rfl
      have t3 := tc 3 (.int .i64 B) rfl
      have t4 := tc 4 (.int .i32 M) rfl
      have HB2 : Hid (Below w.heap.size w w2) := below_step HV.out hb2
      clear tc hb2
      go_wp2_with fail
      refine (CM.out _).mono ?_
      rintro e w3 ⟨rfl, hb3⟩
      go_wp2_with fail
      refine (CE.out _).mono ?_
      rintro e w' ⟨rfl, rfl⟩
      go_wp2_with fail
      refine (cawake _).mono ?_
      rintro e w4 ⟨rfl, hb4⟩
      go_wp2
      go_ret
      exact ⟨rfl, below_step (below_step HB2.out hb3) hb4⟩
  · have hcs : d % 2 = 0 ∨ d % 2 = 1 := by omega
    rcases hcs with hd2 | hd2
    · obtain ⟨CP', CM'⟩ := refuse (s := ⟨#[98, 101, 113]⟩) (d := 0) (a := 0) (b := 0) (m := 3) (by decide +kernel)
      have CP : Hid _ := CP'
      have CM : Hid _ := CM'
      clear CP' CM'
      go_enter Try.func5, Try.ntmps5
      go_wp2_with fail
      refine (CI.out _).mono ?_
      rintro e w1 ⟨rfl, hb1⟩
      have HB : Hid _ := hb1
      clear hb1
      go_wp2_with fail
      all_goals
        have HV : Hid (Below w.heap.size w (w1.alloc (.cells #[.string ⟨#[98, 101, 113]⟩, .int .i64 0, .int .i64 0, .int .i64 0, .int .i32 3] 23))) := HB.out.alloc HB.out.size _
        refine (CP.out _).mono ?_
        rintro e w2 ⟨rfl, hb2⟩
        obtain ⟨tc, _, _⟩ := cells_of (kept_on (alloc_at w1 (.cells #[.string ⟨#[98, 101, 113]⟩, .int .i64 0, .int .i64 0, .int .i64 0, .int .i32 3] 23)) (below_first hb2))
        have t0 := tc 0 (.string ⟨#[98, 101, 113]⟩) rfl
        have t1 := tc 1 (.int .i64 0) rfl
        have t2 := tc 2 (.int .i64 0) rfl
        have t3 := tc 3 (.int .i64 0) rfl
        have t4 := tc 4 (.int .i32 3) rfl
        have HB2 : Hid (Below w.heap.size w w2) := below_step HV.out (below_first hb2)
        clear tc hb2
        go_wp2_with fail
        refine (CM.out _).mono ?_
        rintro e w3 ⟨rfl, hb3⟩
        go_wp2_with fail
        refine (CE.out _).mono ?_
        rintro e w' ⟨rfl, rfl⟩
        go_wp2_with fail
        refine (cawake _).mono ?_
        rintro e w4 ⟨rfl, hb4⟩
        go_wp2
        go_ret
        exact ⟨rfl, below_step (below_step HB2.out hb3) hb4⟩
    · obtain ⟨CP', CM'⟩ := refuse (s := ⟨#[106, 97, 108]⟩) (d := 0) (a := 0) (b := 0) (m := 3) (by decide +kernel)
      have CP : Hid _ := CP'
      have CM : Hid _ := CM'
      clear CP' CM'
      go_enter Try.func5, Try.ntmps5
      go_wp2_with fail
      refine (CI.out _).mono ?_
      rintro e w1 ⟨rfl, hb1⟩
      have HB : Hid _ := hb1
      clear hb1
      go_wp2_with fail
      all_goals
        have HV : Hid (Below w.heap.size w (w1.alloc (.cells #[.string ⟨#[106, 97, 108]⟩, .int .i64 0, .int .i64 0, .int .i64 0, .int .i32 3] 23))) := HB.out.alloc HB.out.size _
        refine (CP.out _).mono ?_
        rintro e w2 ⟨rfl, hb2⟩
        obtain ⟨tc, _, _⟩ := cells_of (kept_on (alloc_at w1 (.cells #[.string ⟨#[106, 97, 108]⟩, .int .i64 0, .int .i64 0, .int .i64 0, .int .i32 3] 23)) (below_first hb2))
        have t0 := tc 0 (.string ⟨#[106, 97, 108]⟩) rfl
        have t1 := tc 1 (.int .i64 0) rfl
        have t2 := tc 2 (.int .i64 0) rfl
        have t3 := tc 3 (.int .i64 0) rfl
        have t4 := tc 4 (.int .i32 3) rfl
        have HB2 : Hid (Below w.heap.size w w2) := below_step HV.out (below_first hb2)
        clear tc hb2
        go_wp2_with fail
        refine (CM.out _).mono ?_
        rintro e w3 ⟨rfl, hb3⟩
        go_wp2_with fail
        refine (CE.out _).mono ?_
        rintro e w' ⟨rfl, rfl⟩
        go_wp2_with fail
        refine (cawake _).mono ?_
        rintro e w4 ⟨rfl, hb4⟩
        go_wp2
        go_ret
        exact ⟨rfl, below_step (below_step HB2.out hb3) hb4⟩
  · have k0 : 0 ≤ d % 8 := by omega
    have k1 : d % 8 < 8 := by omega
    obtain ⟨l0, l1, l2, l3, l4⟩ := rf_cells (d % 8).toNat (by omega)
    obtain ⟨CP', CM'⟩ := refuse (rf_not (d % 8).toNat (by omega))
    have CP : Hid _ := CP'
    have CM : Hid _ := CM'
    clear CP' CM'
    generalize hk : d % 8 = k at *
    have CL : ∀ (W : World), (W.alloc (.cells rfL.toArray 23)).cell? ⟨W.heap.size, k.toNat * 5, none⟩ = some (.string (rfS k.toNat)) ∧ (W.alloc (.cells rfL.toArray 23)).cell? ⟨W.heap.size, k.toNat * 5 + 1, none⟩ = some (.int .i64 (rfD k.toNat)) ∧ (W.alloc (.cells rfL.toArray 23)).cell? ⟨W.heap.size, k.toNat * 5 + 2, none⟩ = some (.int .i64 (rfA k.toNat)) ∧ (W.alloc (.cells rfL.toArray 23)).cell? ⟨W.heap.size, k.toNat * 5 + 3, none⟩ = some (.int .i64 (rfB k.toNat)) ∧ (W.alloc (.cells rfL.toArray 23)).cell? ⟨W.heap.size, k.toNat * 5 + 4, none⟩ = some (.int .i32 (rfM k.toNat)) :=
      fun W => ⟨cell_new _ _ _ _ _ l0, cell_new _ _ _ _ _ l1, cell_new _ _ _ _ _ l2, cell_new _ _ _ _ _ l3, cell_new _ _ _ _ _ l4⟩
    unfold rfL at CL
    have HCL : Hid _ := CL
    generalize rfS k.toNat = S' at *
    generalize rfD k.toNat = D' at *
    generalize rfA k.toNat = A' at *
    generalize rfB k.toNat = B' at *
    generalize rfM k.toNat = M' at *
    clear l0 l1 l2 l3 l4 CL
    go_enter Try.func5, Try.ntmps5
    go_wp2_with fail
    refine (CI.out _).mono ?_
    rintro e w1 ⟨rfl, hb1⟩
    have HB : Hid _ := hb1
    clear hb1
    have e1 : (w1.alloc (.cells #[.string S, .int .i64 D, .int .i64 A, .int .i64 B, .int .i32 M] 23)).heap.size = w1.heap.size + 1 := by simp
    obtain ⟨c0, c1, c2, c3, c4⟩ := HCL.out (w1.alloc (.cells #[.string S, .int .i64 D, .int .i64 A, .int .i64 B, .int .i32 M] 23))
    rw [e1] at c0 c1 c2 c3 c4
    clear e1
    go_wp2_with fail
    all_goals
      have HV : Hid (Below w.heap.size w (w1.alloc (.cells #[.string S', .int .i64 D', .int .i64 A', .int .i64 B', .int .i32 M'] 23))) := HB.out.alloc HB.out.size _
      refine (CP.out _).mono ?_
      rintro e w2 ⟨rfl, hb2⟩
      obtain ⟨tc, _, _⟩ := cells_of (kept_on (alloc_at w1 (.cells #[.string S', .int .i64 D', .int .i64 A', .int .i64 B', .int .i32 M'] 23)) (below_first hb2))
      have t0 := tc 0 (.string S') rfl
      have t1 := tc 1 (.int .i64 D') rfl
      have t2 := tc 2 (.int .i64 A') rfl
      have t3 := tc 3 (.int .i64 B') rfl
      have t4 := tc 4 (.int .i32 M') rfl
      have HB2 : Hid (Below w.heap.size w w2) := below_step HV.out (below_first hb2)
      clear tc hb2
      go_wp2_with fail
      refine (CM.out _).mono ?_
      rintro e w3 ⟨rfl, hb3⟩
      go_wp2_with fail
      refine (CE.out _).mono ?_
      rintro e w' ⟨rfl, rfl⟩
      go_wp2_with fail
      refine (cawake _).mono ?_
      rintro e w4 ⟨rfl, hb4⟩
      go_wp2
      go_ret
      exact ⟨rfl, below_step (below_step HB2.out hb3) hb4⟩
end Go.Proofs.Ytbdfaepljgajbaa
