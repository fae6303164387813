/-
  The key of a word, as the code reads it: the contract of the function that does it.
-/
import Derived.Test.YtbdfaepljgajbaaCodeo
namespace Go.Proofs.Ytbdfaepljgajbaa
open Go.RowKit

/-- The key out of a word and its three fields. -/
def keyW (x op g f : Int) : Int × Int × Int :=
  if op = 51 then (op, g, f)
  else if op = 19 then (if g = 1 ∨ g = 5 then (op, g, f) else (op, g, 0))
  else if op = 55 ∨ op = 23 ∨ op = 111 then (op, 0, 0)
  else if op = 15 then (x, 0, 0)
  else if op = 115 then (if g = 0 then (x, 0, 0) else (op, g, 0))
  else (op, g, 0)

set_option maxRecDepth 100000 in
set_option maxHeartbeats 4000000 in
theorem ckey (x a b c : Int) (hx : U32 x) (hk : keyW x (bitsV x 0 7) (bitsV x 12 3) (bitsV x 25 7) = (a, b, c)) (w : World) :
    Calls Try.prog 35 #[.int .u32 x] w fun e w' => e = .returned (.agg #[.int .u32 a, .int .u32 b, .int .u32 c]) ∧ Below w.heap.size w w' := by
  have C1 : Hid _ := wbits_in x 0 7 hx (by omega) (by omega) (by omega) (by omega)
  have C2 : Hid _ := wbits_in x 12 3 hx (by omega) (by omega) (by omega) (by omega)
  have C3 : Hid _ := wbits_in x 25 7 hx (by omega) (by omega) (by omega) (by omega)
  generalize bitsV x 0 7 = op at *
  generalize bitsV x 12 3 = g at *
  generalize bitsV x 25 7 = f at *
  clear hx
  unfold keyW at hk
  have hcases : (op = 51 ∨ (op = 19 ∧ g = 1) ∨ (op = 19 ∧ g = 5) ∨ (op = 19 ∧ g ≠ 1 ∧ g ≠ 5) ∨ op = 55 ∨ op = 23 ∨ op = 111 ∨ op = 15 ∨ (op = 115 ∧ g = 0) ∨ (op = 115 ∧ g ≠ 0)) ∨ (op ≠ 51 ∧ op ≠ 19 ∧ op ≠ 55 ∧ op ≠ 23 ∧ op ≠ 111 ∧ op ≠ 15 ∧ op ≠ 115) := by omega
  rcases hcases with (rfl | ⟨rfl, rfl⟩ | ⟨rfl, rfl⟩ | ⟨rfl, h', h''⟩ | rfl | rfl | rfl | rfl | ⟨rfl, rfl⟩ | ⟨rfl, h'⟩) | ⟨h1, h2, h3, h4, h5, h6, h7⟩
  · simp at hk
    obtain ⟨rfl, rfl, rfl⟩ := hk
    go_enter Try.func35, Try.ntmps35
    go_wp2_with fail
    refine (C1.out _).mono ?_
    rintro e w' ⟨rfl, rfl⟩
    go_wp2_with fail
    refine (C2.out _).mono ?_
    rintro e w' ⟨rfl, rfl⟩
    go_wp2_with fail
    refine (C3.out _).mono ?_
    rintro e w' ⟨rfl, rfl⟩
    go_wp2
    exact bodyPost_ret (v := .agg #[.int .u32 (51), .int .u32 (g), .int .u32 (f)]) (by simp [results, Try.results35, go_sem]) rfl ⟨rfl, (Below.refl _ _).alloc (Nat.le_refl _) _⟩
  · simp at hk
    obtain ⟨rfl, rfl, rfl⟩ := hk
    go_enter Try.func35, Try.ntmps35
    go_wp2_with fail
    refine (C1.out _).mono ?_
    rintro e w' ⟨rfl, rfl⟩
    go_wp2_with fail
    refine (C2.out _).mono ?_
    rintro e w' ⟨rfl, rfl⟩
    go_wp2_with fail
    refine (C3.out _).mono ?_
    rintro e w' ⟨rfl, rfl⟩
    go_wp2
    exact bodyPost_ret (v := .agg #[.int .u32 (19), .int .u32 (1), .int .u32 (f)]) (by simp [results, Try.results35, go_sem]) rfl ⟨rfl, (Below.refl _ _).alloc (Nat.le_refl _) _⟩
  · simp at hk
    obtain ⟨rfl, rfl, rfl⟩ := hk
    go_enter Try.func35, Try.ntmps35
    go_wp2_with fail
    refine (C1.out _).mono ?_
    rintro e w' ⟨rfl, rfl⟩
    go_wp2_with fail
    refine (C2.out _).mono ?_
    rintro e w' ⟨rfl, rfl⟩
    go_wp2_with fail
    refine (C3.out _).mono ?_
    rintro e w' ⟨rfl, rfl⟩
    go_wp2
    exact bodyPost_ret (v := .agg #[.int .u32 (19), .int .u32 (5), .int .u32 (f)]) (by simp [results, Try.results35, go_sem]) rfl ⟨rfl, (Below.refl _ _).alloc (Nat.le_refl _) _⟩
  · simp [h', h''] at hk
    obtain ⟨rfl, rfl, rfl⟩ := hk
    have b1 : (g == 1) = false := by simpa using h'
    have b5 : (g == 5) = false := by simpa using h''
    go_enter Try.func35, Try.ntmps35
    go_wp2_with fail
    refine (C1.out _).mono ?_
    rintro e w' ⟨rfl, rfl⟩
    go_wp2_with fail
    refine (C2.out _).mono ?_
    rintro e w' ⟨rfl, rfl⟩
    go_wp2_with fail
    refine (C3.out _).mono ?_
    rintro e w' ⟨rfl, rfl⟩
    go_wp2
    exact bodyPost_ret (v := .agg #[.int .u32 (19), .int .u32 (g), .int .u32 (0)]) (by simp [results, Try.results35, go_sem]) rfl ⟨rfl, (Below.refl _ _).alloc (Nat.le_refl _) _⟩
  · simp at hk
    obtain ⟨rfl, rfl, rfl⟩ := hk
    go_enter Try.func35, Try.ntmps35
    go_wp2_with fail
    refine (C1.out _).mono ?_
    rintro e w' ⟨rfl, rfl⟩
    go_wp2_with fail
    refine (C2.out _).mono ?_
    rintro e w' ⟨rfl, rfl⟩
    go_wp2_with fail
    refine (C3.out _).mono ?_
    rintro e w' ⟨rfl, rfl⟩
    go_wp2
    exact bodyPost_ret (v := .agg #[.int .u32 (55), .int .u32 (0), .int .u32 (0)]) (by simp [results, Try.results35, go_sem]) rfl ⟨rfl, (Below.refl _ _).alloc (Nat.le_refl _) _⟩
  · simp at hk
    obtain ⟨rfl, rfl, rfl⟩ := hk
    go_enter Try.func35, Try.ntmps35
    go_wp2_with fail
    refine (C1.out _).mono ?_
    rintro e w' ⟨rfl, rfl⟩
    go_wp2_with fail
    refine (C2.out _).mono ?_
    rintro e w' ⟨rfl, rfl⟩
    go_wp2_with fail
    refine (C3.out _).mono ?_
    rintro e w' ⟨rfl, rfl⟩
    go_wp2
    exact bodyPost_ret (v := .agg #[.int .u32 (23), .int .u32 (0), .int .u32 (0)]) (by simp [results, Try.results35, go_sem]) rfl ⟨rfl, (Below.refl _ _).alloc (Nat.le_refl _) _⟩
  · simp at hk
    obtain ⟨rfl, rfl, rfl⟩ := hk
    go_enter Try.func35, Try.ntmps35
    go_wp2_with fail
    refine (C1.out _).mono ?_
    rintro e w' ⟨rfl, rfl⟩
    go_wp2_with fail
    refine (C2.out _).mono ?_
    rintro e w' ⟨rfl, rfl⟩
    go_wp2_with fail
    refine (C3.out _).mono ?_
    rintro e w' ⟨rfl, rfl⟩
    go_wp2
    exact bodyPost_ret (v := .agg #[.int .u32 (111), .int .u32 (0), .int .u32 (0)]) (by simp [results, Try.results35, go_sem]) rfl ⟨rfl, (Below.refl _ _).alloc (Nat.le_refl _) _⟩
  · simp at hk
    obtain ⟨rfl, rfl, rfl⟩ := hk
    go_enter Try.func35, Try.ntmps35
    go_wp2_with fail
    refine (C1.out _).mono ?_
    rintro e w' ⟨rfl, rfl⟩
    go_wp2_with fail
    refine (C2.out _).mono ?_
    rintro e w' ⟨rfl, rfl⟩
    go_wp2_with fail
    refine (C3.out _).mono ?_
    rintro e w' ⟨rfl, rfl⟩
    go_wp2
    exact bodyPost_ret (v := .agg #[.int .u32 (x), .int .u32 (0), .int .u32 (0)]) (by simp [results, Try.results35, go_sem]) rfl ⟨rfl, (Below.refl _ _).alloc (Nat.le_refl _) _⟩
  · simp at hk
    obtain ⟨rfl, rfl, rfl⟩ := hk
    go_enter Try.func35, Try.ntmps35
    go_wp2_with fail
    refine (C1.out _).mono ?_
    rintro e w' ⟨rfl, rfl⟩
    go_wp2_with fail
    refine (C2.out _).mono ?_
    rintro e w' ⟨rfl, rfl⟩
    go_wp2_with fail
    refine (C3.out _).mono ?_
    rintro e w' ⟨rfl, rfl⟩
    go_wp2
    exact bodyPost_ret (v := .agg #[.int .u32 (x), .int .u32 (0), .int .u32 (0)]) (by simp [results, Try.results35, go_sem]) rfl ⟨rfl, (Below.refl _ _).alloc (Nat.le_refl _) _⟩
  · simp [h'] at hk
    obtain ⟨rfl, rfl, rfl⟩ := hk
    have b0 : (g == 0) = false := by simpa using h'
    go_enter Try.func35, Try.ntmps35
    go_wp2_with fail
    refine (C1.out _).mono ?_
    rintro e w' ⟨rfl, rfl⟩
    go_wp2_with fail
    refine (C2.out _).mono ?_
    rintro e w' ⟨rfl, rfl⟩
    go_wp2_with fail
    refine (C3.out _).mono ?_
    rintro e w' ⟨rfl, rfl⟩
    go_wp2
    exact bodyPost_ret (v := .agg #[.int .u32 (115), .int .u32 (g), .int .u32 (0)]) (by simp [results, Try.results35, go_sem]) rfl ⟨rfl, (Below.refl _ _).alloc (Nat.le_refl _) _⟩
  · simp [h1, h2, h3, h4, h5, h6, h7] at hk
    obtain ⟨rfl, rfl, rfl⟩ := hk
    go_enter Try.func35, Try.ntmps35
    go_wp2_with fail
    refine (C1.out _).mono ?_
    rintro e w' ⟨rfl, rfl⟩
    go_wp2_with fail
    refine (C2.out _).mono ?_
    rintro e w' ⟨rfl, rfl⟩
    go_wp2_with fail
    refine (C3.out _).mono ?_
    rintro e w' ⟨rfl, rfl⟩
    go_wp2
    exact bodyPost_ret (v := .agg #[.int .u32 (op), .int .u32 (g), .int .u32 (0)]) (by simp [results, Try.results35, go_sem]) rfl ⟨rfl, (Below.refl _ _).alloc (Nat.le_refl _) _⟩
end Go.Proofs.Ytbdfaepljgajbaa
