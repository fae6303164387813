/-
  Whether fields may be, as the code asks it: the contracts of the functions that do it.
-/
import Derived.Test.YtpjnefnngmlpjaaCodeo
import Derived.Test.YtpjnefnngmlpjaaRefm
import Derived.Lib.QuietBelow
namespace Go.Proofs.Ytpjnefnngmlpjaa
open Go.RowKit

/-- The bounds of a layout: the greatest registers, Imm from, to, and its step. -/
def bnd (l : Int) : Int × Int × Int × Int × Int × Int :=
  if l = 0 then (31, 31, 31, 0, 0, 1)
  else if l = 1 then (31, 31, 0, -2048, 2047, 1)
  else if l = 2 then (31, 31, 0, 0, 31, 1)
  else if l = 3 then (0, 31, 31, -2048, 2047, 1)
  else if l = 4 then (0, 31, 31, -4096, 4094, 2)
  else if l = 5 then (31, 0, 0, 0, 1048575, 1)
  else if l = 6 then (31, 0, 0, -1048576, 1048574, 2)
  else if l = 7 then (31, 31, 0, 0, 4095, 1)
  else (0, 0, 0, 0, 0, 1)

set_option maxHeartbeats 2000000 in
theorem cbounds (l rd r1 r2 lo hi st : Int) (hb : bnd l = (rd, r1, r2, lo, hi, st)) (hl : 0 ≤ l ∧ l ≤ 8) (w : World) :
    Calls Try.prog 93 #[.int .i64 l] w fun e w' => e = .returned (.agg #[.int .i64 rd, .int .i64 r1, .int .i64 r2, .int .i32 lo, .int .i32 hi, .int .i32 st]) ∧ Below w.heap.size w w' := by
  have h' : l = 0 ∨ l = 1 ∨ l = 2 ∨ l = 3 ∨ l = 4 ∨ l = 5 ∨ l = 6 ∨ l = 7 ∨ l = 8 := by omega
  clear hl
  rcases h' with rfl | rfl | rfl | rfl | rfl | rfl | rfl | rfl | rfl
  · have e : bnd 0 = (31, 31, 31, 0, 0, 1) := by decide
    rw [e] at hb
    simp only [Prod.mk.injEq] at hb
    obtain ⟨rfl, rfl, rfl, rfl, rfl, rfl⟩ := hb
    clear e
    go_enter Try.func93, Try.ntmps93
    go_wp2
    exact bodyPost_ret (v := .agg #[.int .i64 (31), .int .i64 (31), .int .i64 (31), .int .i32 (0), .int .i32 (0), .int .i32 (1)]) (by simp [results, Try.results93, go_sem]) rfl ⟨rfl, (Below.refl _ _).alloc (Nat.le_refl _) _⟩
  · have e : bnd 1 = (31, 31, 0, -2048, 2047, 1) := by decide
    rw [e] at hb
    simp only [Prod.mk.injEq] at hb
    obtain ⟨rfl, rfl, rfl, rfl, rfl, rfl⟩ := hb
    clear e
    go_enter Try.func93, Try.ntmps93
    go_wp2
    exact bodyPost_ret (v := .agg #[.int .i64 (31), .int .i64 (31), .int .i64 (0), .int .i32 (-2048), .int .i32 (2047), .int .i32 (1)]) (by simp [results, Try.results93, go_sem]) rfl ⟨rfl, (Below.refl _ _).alloc (Nat.le_refl _) _⟩
  · have e : bnd 2 = (31, 31, 0, 0, 31, 1) := by decide
    rw [e] at hb
    simp only [Prod.mk.injEq] at hb
    obtain ⟨rfl, rfl, rfl, rfl, rfl, rfl⟩ := hb
    clear e
    go_enter Try.func93, Try.ntmps93
    go_wp2
    exact bodyPost_ret (v := .agg #[.int .i64 (31), .int .i64 (31), .int .i64 (0), .int .i32 (0), .int .i32 (31), .int .i32 (1)]) (by simp [results, Try.results93, go_sem]) rfl ⟨rfl, (Below.refl _ _).alloc (Nat.le_refl _) _⟩
  · have e : bnd 3 = (0, 31, 31, -2048, 2047, 1) := by decide
    rw [e] at hb
    simp only [Prod.mk.injEq] at hb
    obtain ⟨rfl, rfl, rfl, rfl, rfl, rfl⟩ := hb
    clear e
    go_enter Try.func93, Try.ntmps93
    go_wp2
    exact bodyPost_ret (v := .agg #[.int .i64 (0), .int .i64 (31), .int .i64 (31), .int .i32 (-2048), .int .i32 (2047), .int .i32 (1)]) (by simp [results, Try.results93, go_sem]) rfl ⟨rfl, (Below.refl _ _).alloc (Nat.le_refl _) _⟩
  · have e : bnd 4 = (0, 31, 31, -4096, 4094, 2) := by decide
    rw [e] at hb
    simp only [Prod.mk.injEq] at hb
    obtain ⟨rfl, rfl, rfl, rfl, rfl, rfl⟩ := hb
    clear e
    go_enter Try.func93, Try.ntmps93
    go_wp2
    exact bodyPost_ret (v := .agg #[.int .i64 (0), .int .i64 (31), .int .i64 (31), .int .i32 (-4096), .int .i32 (4094), .int .i32 (2)]) (by simp [results, Try.results93, go_sem]) rfl ⟨rfl, (Below.refl _ _).alloc (Nat.le_refl _) _⟩
  · have e : bnd 5 = (31, 0, 0, 0, 1048575, 1) := by decide
    rw [e] at hb
    simp only [Prod.mk.injEq] at hb
    obtain ⟨rfl, rfl, rfl, rfl, rfl, rfl⟩ := hb
    clear e
    go_enter Try.func93, Try.ntmps93
    go_wp2
    exact bodyPost_ret (v := .agg #[.int .i64 (31), .int .i64 (0), .int .i64 (0), .int .i32 (0), .int .i32 (1048575), .int .i32 (1)]) (by simp [results, Try.results93, go_sem]) rfl ⟨rfl, (Below.refl _ _).alloc (Nat.le_refl _) _⟩
  · have e : bnd 6 = (31, 0, 0, -1048576, 1048574, 2) := by decide
    rw [e] at hb
    simp only [Prod.mk.injEq] at hb
    obtain ⟨rfl, rfl, rfl, rfl, rfl, rfl⟩ := hb
    clear e
    go_enter Try.func93, Try.ntmps93
    go_wp2
    exact bodyPost_ret (v := .agg #[.int .i64 (31), .int .i64 (0), .int .i64 (0), .int .i32 (-1048576), .int .i32 (1048574), .int .i32 (2)]) (by simp [results, Try.results93, go_sem]) rfl ⟨rfl, (Below.refl _ _).alloc (Nat.le_refl _) _⟩
  · have e : bnd 7 = (31, 31, 0, 0, 4095, 1) := by decide
    rw [e] at hb
    simp only [Prod.mk.injEq] at hb
    obtain ⟨rfl, rfl, rfl, rfl, rfl, rfl⟩ := hb
    clear e
    go_enter Try.func93, Try.ntmps93
    go_wp2
    exact bodyPost_ret (v := .agg #[.int .i64 (31), .int .i64 (31), .int .i64 (0), .int .i32 (0), .int .i32 (4095), .int .i32 (1)]) (by simp [results, Try.results93, go_sem]) rfl ⟨rfl, (Below.refl _ _).alloc (Nat.le_refl _) _⟩
  · have e : bnd 8 = (0, 0, 0, 0, 0, 1) := by decide
    rw [e] at hb
    simp only [Prod.mk.injEq] at hb
    obtain ⟨rfl, rfl, rfl, rfl, rfl, rfl⟩ := hb
    clear e
    go_enter Try.func93, Try.ntmps93
    go_wp2
    exact bodyPost_ret (v := .agg #[.int .i64 (0), .int .i64 (0), .int .i64 (0), .int .i32 (0), .int .i32 (0), .int .i32 (1)]) (by simp [results, Try.results93, go_sem]) rfl ⟨rfl, (Below.refl _ _).alloc (Nat.le_refl _) _⟩

/-- The six tests of the code, one behind the other. -/
def holdV (d a b m rd r1 r2 lo hi st : Int) : Bool :=
  (decide (0 ≤ d) && decide (d ≤ rd)) && ((decide (0 ≤ a) && decide (a ≤ r1)) && ((decide (0 ≤ b) && decide (b ≤ r2)) && (decide (lo ≤ m) && (decide (m ≤ hi) && (m.tmod st == 0)))))

set_option maxRecDepth 100000 in
set_option maxHeartbeats 2000000 in
theorem chold (s : ByteArray) (d a b m rd r1 r2 lo hi st : Int) (hst : 1 ≤ st) (w : World) :
    Calls Try.prog 94 #[.agg #[.int .i64 rd, .int .i64 r1, .int .i64 r2, .int .i32 lo, .int .i32 hi, .int .i32 st], .agg #[.string s, .int .i64 d, .int .i64 a, .int .i64 b, .int .i32 m]] w fun e w' => e = .returned (.bool (holdV d a b m rd r1 r2 lo hi st)) ∧ Below w.heap.size w w' := by
  have C0 : Hid _ := cwithin d rd
  have C1 : Hid _ := cwithin a r1
  have C2 : Hid _ := cwithin b r2
  obtain ⟨res, hres⟩ : ∃ r, holdV d a b m rd r1 r2 lo hi st = r := ⟨_, rfl⟩
  rw [hres]
  unfold holdV at hres
  generalize (decide (0 ≤ d) && decide (d ≤ rd)) = b0 at *
  generalize (decide (0 ≤ a) && decide (a ≤ r1)) = b1 at *
  generalize (decide (0 ≤ b) && decide (b ≤ r2)) = b2 at *
  have hs0 : ¬ st = 0 := by omega
  cases b0 with
  | false =>
    simp at hres
    subst hres
    go_enter Try.func94, Try.ntmps94
    go_wp2_with fail
    refine (C0.out _).mono ?_
    rintro e w' ⟨rfl, rfl⟩
    go_wp2
    go_ret
    exact ⟨rfl, box2⟩
  | true =>
    cases b1 with
    | false =>
      simp at hres
      subst hres
      go_enter Try.func94, Try.ntmps94
      go_wp2_with fail
      refine (C0.out _).mono ?_
      rintro e w' ⟨rfl, rfl⟩
      go_wp2_with fail
      refine (C1.out _).mono ?_
      rintro e w' ⟨rfl, rfl⟩
      go_wp2
      go_ret
      exact ⟨rfl, box2⟩
    | true =>
      cases b2 with
      | false =>
        simp at hres
        subst hres
        go_enter Try.func94, Try.ntmps94
        go_wp2_with fail
        refine (C0.out _).mono ?_
        rintro e w' ⟨rfl, rfl⟩
        go_wp2_with fail
        refine (C1.out _).mono ?_
        rintro e w' ⟨rfl, rfl⟩
        go_wp2_with fail
        refine (C2.out _).mono ?_
        rintro e w' ⟨rfl, rfl⟩
        go_wp2
        go_ret
        exact ⟨rfl, box2⟩
      | true =>
        by_cases hlo : lo ≤ m
        · by_cases hhi : m ≤ hi
          · have Ht : ∃ t, Hid ((m.tmod st == 0) = t) := ⟨_, rfl⟩
            obtain ⟨t, ht⟩ := Ht
            rw [ht.out] at hres
            simp only [hlo, hhi, decide_true, Bool.true_and] at hres
            subst hres
            have ht' := ht.out
            go_enter Try.func94, Try.ntmps94
            go_wp2_with fail
            refine (C0.out _).mono ?_
            rintro e w' ⟨rfl, rfl⟩
            go_wp2_with fail
            refine (C1.out _).mono ?_
            rintro e w' ⟨rfl, rfl⟩
            go_wp2_with fail
            refine (C2.out _).mono ?_
            rintro e w' ⟨rfl, rfl⟩
            go_wp2
            go_ret
            exact ⟨rfl, box2⟩
          · simp only [hlo, hhi, decide_true, decide_false, Bool.true_and, Bool.false_and] at hres
            subst hres
            go_enter Try.func94, Try.ntmps94
            go_wp2_with fail
            refine (C0.out _).mono ?_
            rintro e w' ⟨rfl, rfl⟩
            go_wp2_with fail
            refine (C1.out _).mono ?_
            rintro e w' ⟨rfl, rfl⟩
            go_wp2_with fail
            refine (C2.out _).mono ?_
            rintro e w' ⟨rfl, rfl⟩
            go_wp2
            go_ret
            exact ⟨rfl, box2⟩
        · simp only [hlo, decide_false, Bool.true_and, Bool.false_and] at hres
          subst hres
          go_enter Try.func94, Try.ntmps94
          go_wp2_with fail
          refine (C0.out _).mono ?_
          rintro e w' ⟨rfl, rfl⟩
          go_wp2_with fail
          refine (C1.out _).mono ?_
          rintro e w' ⟨rfl, rfl⟩
          go_wp2_with fail
          refine (C2.out _).mono ?_
          rintro e w' ⟨rfl, rfl⟩
          go_wp2
          go_ret
          exact ⟨rfl, box2⟩

theorem and_iff {x y : Bool} (h : x = true ↔ y = true) : x = y := by cases x <;> cases y <;> simp_all
theorem hold_may (k d a b m : Int) (hk : k = 82 ∨ k = 73 ∨ k = 83 ∨ k = 115 ∨ k = 66 ∨ k = 85 ∨ k = 74 ∨ k = 67 ∨ k = 87) :
    ∃ rd r1 r2 lo hi st, bnd (lay9 k) = (rd, r1, r2, lo, hi, st) ∧ 1 ≤ st ∧ (0 ≤ lay9 k ∧ lay9 k ≤ 8) ∧ holdV d a b m rd r1 r2 lo hi st = mayF k d a b m := by
  rcases hk with rfl | rfl | rfl | rfl | rfl | rfl | rfl | rfl | rfl <;>
    (refine ⟨_, _, _, _, _, _, rfl, by decide, by decide, ?_⟩
     refine and_iff ?_
     simp [holdV, mayF, regV, inV, tmod2]
     omega)
end Go.Proofs.Ytpjnefnngmlpjaa
