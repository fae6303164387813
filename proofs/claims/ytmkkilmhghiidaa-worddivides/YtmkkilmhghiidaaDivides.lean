/-
  For every two words, the statement WordDivides of the Go text answers true: quotients and rests, with a sign and without; no condition beside the row's own.
-/
import Derived.Test.YtmkkilmhghiidaaWords
namespace Go.Proofs.Ytmkkilmhghiidaa
open Go.RowKit

theorem wrap32_cong (z : Int) : ∃ k, wrap32 z = z + 4294967296 * k := ⟨-((z + 2147483648) / 4294967296), by unfold wrap32; omega⟩
theorem wrap32_add (z k : Int) : wrap32 (z + 4294967296 * k) = wrap32 z := by unfold wrap32; omega
theorem wrap32_id {z : Int} (h : -2147483648 ≤ z) (h' : z < 2147483648) : wrap32 z = z := by unfold wrap32; omega
theorem wrap32_mod (z : Int) : wrap32 (z % 4294967296) = wrap32 z := by unfold wrap32; omega

theorem tmod_abs {A B : Int} (hB : B ≠ 0) : (A.tmod B).natAbs < B.natAbs := by
  rw [Int.natAbs_tmod]; exact Nat.mod_lt _ (by omega)
theorem rem_wrap {a b : Int} (hb : U32 b) (hz : b ≠ 0) : wrap32 (wRem a b) = (wrap32 a).tmod (wrap32 b) := by
  have h := tmod_abs (A := wrap32 a) (B := wrap32 b) (fun e => hz ((wrap32_eq_zero hb).mp e))
  have h2 := wrap32_bd b
  unfold wRem
  rw [if_neg hz, wrap32_mod, wrap32_id (by omega) (by omega)]
theorem divu_back {a b : Int} (ha : U32 a) (hb : U32 b) (hz : b ≠ 0) : (wDivu a b * b + wRemu a b) % 4294967296 = a := by
  obtain ⟨h0, h1⟩ := ha
  obtain ⟨h2, h3⟩ := hb
  unfold wDivu wRemu
  rw [if_neg hz, if_neg hz, Int.mul_comm, Int.mul_ediv_add_emod]
  omega
theorem remu_lt {a b : Int} (hb : U32 b) (hz : b ≠ 0) : wRemu a b < b := by
  obtain ⟨h2, h3⟩ := hb
  unfold wRemu
  rw [if_neg hz]
  exact Int.emod_lt_of_pos _ (by omega)
theorem div_back {a b : Int} (hb : U32 b) (hz : b ≠ 0) : wrap32 (wrap32 (wrap32 (wDiv a b) * wrap32 b) + wrap32 (wRem a b)) = wrap32 a := by
  rw [rem_wrap hb hz]
  unfold wDiv
  rw [if_neg hz, wrap32_mod]
  have h := Int.mul_tdiv_add_tmod (wrap32 a) (wrap32 b)
  have hA := wrap32_bd a
  generalize wrap32 a = A at *
  generalize wrap32 b = B at *
  obtain ⟨k1, e1⟩ := wrap32_cong (A.tdiv B)
  obtain ⟨k2, e2⟩ := wrap32_cong (wrap32 (A.tdiv B) * B)
  rw [e2, e1, Int.add_mul, Int.mul_comm (A.tdiv B) B, Int.mul_assoc]
  have e3 : B * A.tdiv B + 4294967296 * (k1 * B) + 4294967296 * k2 + A.tmod B = A + 4294967296 * (k1 * B + k2) := by omega
  rw [e3, wrap32_add, wrap32_id hA.1 hA.2]
theorem sq_lt {y n : Int} (h : y.natAbs < n.natAbs) : y * y < n * n := by
  rw [← Int.natAbs_mul_self' y, ← Int.natAbs_mul_self' n]
  exact_mod_cast Nat.mul_lt_mul'' h h
theorem rem_sq {a b : Int} (hb : U32 b) (hz : b ≠ 0) : wrap64 (wrap32 (wRem a b) * wrap32 (wRem a b)) < wrap64 (wrap32 b * wrap32 b) := by
  have hy := wrap32_bd (wRem a b)
  have hn := wrap32_bd b
  have h := tmod_abs (A := wrap32 a) (B := wrap32 b) (fun e => hz ((wrap32_eq_zero hb).mp e))
  rw [← rem_wrap hb hz] at h
  have h2 := sq_lt h
  generalize wrap32 (wRem a b) = y at *
  generalize wrap32 b = n at *
  have b1 := mul_bd (a := y) (b := y) (A := 2147483648) (B := 2147483648) (by omega) (by omega) (by omega) (by omega)
  have b2 := mul_bd (a := n) (b := n) (A := 2147483648) (B := 2147483648) (by omega) (by omega) (by omega) (by omega)
  rw [wrap64_id (by omega) (by omega), wrap64_id (by omega) (by omega)]
  exact h2
theorem rem_neg {a b : Int} (hb : U32 b) (hz : b ≠ 0) (h : wrap32 (wRem a b) < 0) : wrap32 a < 0 := by
  rw [rem_wrap hb hz] at h
  by_cases c : wrap32 a < 0
  · exact c
  · exact absurd (Int.tmod_nonneg (wrap32 b) (show 0 ≤ wrap32 a by omega)) (by omega)
theorem rem_pos {a b : Int} (hb : U32 b) (hz : b ≠ 0) (h : 0 < wrap32 (wRem a b)) : 0 ≤ wrap32 a := by
  rw [rem_wrap hb hz] at h
  by_cases c : wrap32 a < 0
  · have e : (-wrap32 a).tmod (wrap32 b) = -((wrap32 a).tmod (wrap32 b)) := Int.neg_tmod _ _
    have := Int.tmod_nonneg (wrap32 b) (show 0 ≤ -wrap32 a by omega)
    omega
  · omega

set_option maxHeartbeats 1000000 in
theorem div_zero (a : Int) (ha : U32 a) (w : World) :
    Calls Try.prog 4 #[.int .u32 a, .int .u32 0] w fun e w' => e = .returned (.bool true) ∧ w' = w := by
  have Ha : Hid (U32 a) := ha
  have Hb : Hid (U32 0) := ⟨by omega, by omega⟩
  have f1 : opF [100, 105, 118, 117] a 0 = 4294967295 := rfl
  have f2 : opF [114, 101, 109, 117] a 0 = a := rfl
  have f3 : opF [100, 105, 118] a 0 = 4294967295 := rfl
  have f4 : opF [114, 101, 109] a 0 = a := rfl
  obtain ⟨ha0, ha1⟩ := ha
  go_enter Try.func4, Try.ntmps4
  go_wp2_with fail
  refine (op_ _ _ _ Ha Hb _).mono ?_
  rintro e w' ⟨rfl, rfl⟩
  go_wp2_with fail
  refine (op_ _ _ _ Ha Hb _).mono ?_
  rintro e w' ⟨rfl, rfl⟩
  go_wp2_with fail
  refine (op_ _ _ _ Ha Hb _).mono ?_
  rintro e w' ⟨rfl, rfl⟩
  go_wp2_with fail
  refine (op_ _ _ _ Ha Hb _).mono ?_
  rintro e w' ⟨rfl, rfl⟩
  go_wp2_with fail
  refine (awake _).mono ?_
  rintro e w' ⟨rfl, rfl⟩
  go_wp2_with fail
  go_ret
  exact ⟨rfl, rfl⟩

theorem edge_div : wDiv 2147483648 4294967295 = 2147483648 := by
  have e1 : wrap32 2147483648 = -2147483648 := by unfold wrap32; omega
  have e2 : wrap32 4294967295 = -1 := by unfold wrap32; omega
  unfold wDiv
  rw [if_neg (by omega), e1, e2]
  decide
theorem edge_rem : wRem 2147483648 4294967295 = 0 := by
  have e1 : wrap32 2147483648 = -2147483648 := by unfold wrap32; omega
  have e2 : wrap32 4294967295 = -1 := by unfold wrap32; omega
  unfold wRem
  rw [if_neg (by omega), e1, e2]
  decide

set_option maxHeartbeats 1000000 in
theorem div_edge (a b : Int) (h1 : a = 2147483648) (h2 : b = 4294967295) (w : World) :
    Calls Try.prog 4 #[.int .u32 a, .int .u32 b] w fun e w' => e = .returned (.bool true) ∧ w' = w := by
  have Ha : Hid (U32 a) := by subst h1; exact ⟨by omega, by omega⟩
  have Hb : Hid (U32 b) := by subst h2; exact ⟨by omega, by omega⟩
  have f1 : opF [100, 105, 118, 117] a b = 0 := by subst h1 h2; rw [opF_divu]; decide
  have f2 : opF [114, 101, 109, 117] a b = a := by subst h1 h2; rw [opF_remu]; decide
  have f3 : opF [100, 105, 118] a b = a := by subst h1 h2; rw [opF_div]; exact edge_div
  have f4 : opF [114, 101, 109] a b = 0 := by subst h1 h2; rw [opF_rem]; exact edge_rem
  have g1 : (a == 2147483648) = true := beq_of h1
  have g2 : (b == 4294967295) = true := beq_of h2
  have g3 : (b == 0) = false := by subst h2; decide
  clear h1 h2
  go_enter Try.func4, Try.ntmps4
  go_wp2_with fail
  refine (op_ _ _ _ Ha Hb _).mono ?_
  rintro e w' ⟨rfl, rfl⟩
  go_wp2_with fail
  refine (op_ _ _ _ Ha Hb _).mono ?_
  rintro e w' ⟨rfl, rfl⟩
  go_wp2_with fail
  refine (op_ _ _ _ Ha Hb _).mono ?_
  rintro e w' ⟨rfl, rfl⟩
  go_wp2_with fail
  refine (op_ _ _ _ Ha Hb _).mono ?_
  rintro e w' ⟨rfl, rfl⟩
  go_wp2_with fail
  refine (awake _).mono ?_
  rintro e w' ⟨rfl, rfl⟩
  go_wp2_with fail
  go_ret
  exact ⟨rfl, rfl⟩

set_option maxHeartbeats 1000000 in
theorem div_nz (a b : Int) (ha : U32 a) (hb : U32 b) (hz : b ≠ 0) (hc : (a == 2147483648) = false) (hy0 : wrap32 (wRem a b) = 0) (w : World) :
    Calls Try.prog 4 #[.int .u32 a, .int .u32 b] w fun e w' => e = .returned (.bool true) ∧ w' = w := by
  have Ha : Hid (U32 a) := ha
  have Hb : Hid (U32 b) := hb
  have hb0 : (b == 0) = false := by simpa using hz
  have hq := opF_divu a b
  have hr := opF_remu a b
  have hs := opF_div a b
  have ht := opF_rem a b
  have Hq := opF_u32 [100, 105, 118, 117] ha hb
  have Hr := opF_u32 [114, 101, 109, 117] ha hb
  have Hs := opF_u32 [100, 105, 118] ha hb
  have Ht := opF_u32 [114, 101, 109] ha hb
  rw [hq] at Hq
  rw [hr] at Hr
  rw [hs] at Hs
  rw [ht] at Ht
  have F1 := beq_of (divu_back ha hb hz)
  have F2 := remu_lt (a := a) hb hz
  have F3 := beq_of (div_back (a := a) hb hz)
  have F5 := rem_sq (a := a) hb hz
  have bm := wrap32_bd a
  have bn := wrap32_bd b
  have bx := wrap32_bd (wDiv a b)
  have bY := wrap32_bd (wRem a b)
  have G : (wrap32 (wRem a b) == 0) = true := beq_of hy0
  clear hy0
  generalize wDivu a b = q at *
  generalize wRemu a b = r at *
  generalize wDiv a b = s at *
  generalize wRem a b = t at *
  generalize hm : wrap32 a = m at *
  generalize hn : wrap32 b = n at *
  generalize hx : wrap32 s = x at *
  generalize hy : wrap32 t = y at *
  obtain ⟨ha0, ha1⟩ := ha
  obtain ⟨hb1, hb2⟩ := hb
  obtain ⟨q0, q1⟩ := Hq
  obtain ⟨r0, r1⟩ := Hr
  obtain ⟨s0, s1⟩ := Hs
  obtain ⟨t0, t1⟩ := Ht
  obtain ⟨m0, m1⟩ := bm
  obtain ⟨n0, n1⟩ := bn
  obtain ⟨x0, x1⟩ := bx
  obtain ⟨y0, y1⟩ := bY
  clear hz
  go_enter Try.func4, Try.ntmps4
  go_wp2_with fail
  refine (op_ _ _ _ Ha Hb _).mono ?_
  rintro e w' ⟨rfl, rfl⟩
  go_wp2_with fail
  refine (op_ _ _ _ Ha Hb _).mono ?_
  rintro e w' ⟨rfl, rfl⟩
  go_wp2_with fail
  refine (op_ _ _ _ Ha Hb _).mono ?_
  rintro e w' ⟨rfl, rfl⟩
  go_wp2_with fail
  refine (op_ _ _ _ Ha Hb _).mono ?_
  rintro e w' ⟨rfl, rfl⟩
  go_wp2_with fail
  refine (awake _).mono ?_
  rintro e w' ⟨rfl, rfl⟩
  go_wp2_with fail
  go_ret
  exact ⟨rfl, rfl⟩

set_option maxHeartbeats 1000000 in
theorem div_nm (a b : Int) (ha : U32 a) (hb : U32 b) (hz : b ≠ 0) (hc : (a == 2147483648) = false) (hy0 : wrap32 (wRem a b) < 0) (w : World) :
    Calls Try.prog 4 #[.int .u32 a, .int .u32 b] w fun e w' => e = .returned (.bool true) ∧ w' = w := by
  have Ha : Hid (U32 a) := ha
  have Hb : Hid (U32 b) := hb
  have hb0 : (b == 0) = false := by simpa using hz
  have hq := opF_divu a b
  have hr := opF_remu a b
  have hs := opF_div a b
  have ht := opF_rem a b
  have Hq := opF_u32 [100, 105, 118, 117] ha hb
  have Hr := opF_u32 [114, 101, 109, 117] ha hb
  have Hs := opF_u32 [100, 105, 118] ha hb
  have Ht := opF_u32 [114, 101, 109] ha hb
  rw [hq] at Hq
  rw [hr] at Hr
  rw [hs] at Hs
  rw [ht] at Ht
  have F1 := beq_of (divu_back ha hb hz)
  have F2 := remu_lt (a := a) hb hz
  have F3 := beq_of (div_back (a := a) hb hz)
  have F5 := rem_sq (a := a) hb hz
  have bm := wrap32_bd a
  have bn := wrap32_bd b
  have bx := wrap32_bd (wDiv a b)
  have bY := wrap32_bd (wRem a b)
  have G := rem_neg hb hz hy0
  have G' : (wrap32 (wRem a b) == 0) = false := by simp; omega
  generalize wDivu a b = q at *
  generalize wRemu a b = r at *
  generalize wDiv a b = s at *
  generalize wRem a b = t at *
  generalize hm : wrap32 a = m at *
  generalize hn : wrap32 b = n at *
  generalize hx : wrap32 s = x at *
  generalize hy : wrap32 t = y at *
  obtain ⟨ha0, ha1⟩ := ha
  obtain ⟨hb1, hb2⟩ := hb
  obtain ⟨q0, q1⟩ := Hq
  obtain ⟨r0, r1⟩ := Hr
  obtain ⟨s0, s1⟩ := Hs
  obtain ⟨t0, t1⟩ := Ht
  obtain ⟨m0, m1⟩ := bm
  obtain ⟨n0, n1⟩ := bn
  obtain ⟨x0, x1⟩ := bx
  obtain ⟨y0, y1⟩ := bY
  clear hz
  go_enter Try.func4, Try.ntmps4
  go_wp2_with fail
  refine (op_ _ _ _ Ha Hb _).mono ?_
  rintro e w' ⟨rfl, rfl⟩
  go_wp2_with fail
  refine (op_ _ _ _ Ha Hb _).mono ?_
  rintro e w' ⟨rfl, rfl⟩
  go_wp2_with fail
  refine (op_ _ _ _ Ha Hb _).mono ?_
  rintro e w' ⟨rfl, rfl⟩
  go_wp2_with fail
  refine (op_ _ _ _ Ha Hb _).mono ?_
  rintro e w' ⟨rfl, rfl⟩
  go_wp2_with fail
  refine (awake _).mono ?_
  rintro e w' ⟨rfl, rfl⟩
  go_wp2_with fail
  go_ret
  exact ⟨rfl, rfl⟩

set_option maxHeartbeats 1000000 in
theorem div_np (a b : Int) (ha : U32 a) (hb : U32 b) (hz : b ≠ 0) (hc : (a == 2147483648) = false) (hy0 : 0 < wrap32 (wRem a b)) (w : World) :
    Calls Try.prog 4 #[.int .u32 a, .int .u32 b] w fun e w' => e = .returned (.bool true) ∧ w' = w := by
  have Ha : Hid (U32 a) := ha
  have Hb : Hid (U32 b) := hb
  have hb0 : (b == 0) = false := by simpa using hz
  have hq := opF_divu a b
  have hr := opF_remu a b
  have hs := opF_div a b
  have ht := opF_rem a b
  have Hq := opF_u32 [100, 105, 118, 117] ha hb
  have Hr := opF_u32 [114, 101, 109, 117] ha hb
  have Hs := opF_u32 [100, 105, 118] ha hb
  have Ht := opF_u32 [114, 101, 109] ha hb
  rw [hq] at Hq
  rw [hr] at Hr
  rw [hs] at Hs
  rw [ht] at Ht
  have F1 := beq_of (divu_back ha hb hz)
  have F2 := remu_lt (a := a) hb hz
  have F3 := beq_of (div_back (a := a) hb hz)
  have F5 := rem_sq (a := a) hb hz
  have bm := wrap32_bd a
  have bn := wrap32_bd b
  have bx := wrap32_bd (wDiv a b)
  have bY := wrap32_bd (wRem a b)
  have G := rem_pos hb hz hy0
  have G' : (wrap32 (wRem a b) == 0) = false := by simp; omega
  generalize wDivu a b = q at *
  generalize wRemu a b = r at *
  generalize wDiv a b = s at *
  generalize wRem a b = t at *
  generalize hm : wrap32 a = m at *
  generalize hn : wrap32 b = n at *
  generalize hx : wrap32 s = x at *
  generalize hy : wrap32 t = y at *
  obtain ⟨ha0, ha1⟩ := ha
  obtain ⟨hb1, hb2⟩ := hb
  obtain ⟨q0, q1⟩ := Hq
  obtain ⟨r0, r1⟩ := Hr
  obtain ⟨s0, s1⟩ := Hs
  obtain ⟨t0, t1⟩ := Ht
  obtain ⟨m0, m1⟩ := bm
  obtain ⟨n0, n1⟩ := bn
  obtain ⟨x0, x1⟩ := bx
  obtain ⟨y0, y1⟩ := bY
  clear hz
  go_enter Try.func4, Try.ntmps4
  go_wp2_with fail
  refine (op_ _ _ _ Ha Hb _).mono ?_
  rintro e w' ⟨rfl, rfl⟩
  go_wp2_with fail
  refine (op_ _ _ _ Ha Hb _).mono ?_
  rintro e w' ⟨rfl, rfl⟩
  go_wp2_with fail
  refine (op_ _ _ _ Ha Hb _).mono ?_
  rintro e w' ⟨rfl, rfl⟩
  go_wp2_with fail
  refine (op_ _ _ _ Ha Hb _).mono ?_
  rintro e w' ⟨rfl, rfl⟩
  go_wp2_with fail
  refine (awake _).mono ?_
  rintro e w' ⟨rfl, rfl⟩
  go_wp2_with fail
  go_ret
  exact ⟨rfl, rfl⟩

set_option maxHeartbeats 1000000 in
theorem div_ez (a b : Int) (ha : U32 a) (hb : U32 b) (hz : b ≠ 0) (hc : (a == 2147483648) = true) (hd : (b == 4294967295) = false) (hy0 : wrap32 (wRem a b) = 0) (w : World) :
    Calls Try.prog 4 #[.int .u32 a, .int .u32 b] w fun e w' => e = .returned (.bool true) ∧ w' = w := by
  have Ha : Hid (U32 a) := ha
  have Hb : Hid (U32 b) := hb
  have hb0 : (b == 0) = false := by simpa using hz
  have hq := opF_divu a b
  have hr := opF_remu a b
  have hs := opF_div a b
  have ht := opF_rem a b
  have Hq := opF_u32 [100, 105, 118, 117] ha hb
  have Hr := opF_u32 [114, 101, 109, 117] ha hb
  have Hs := opF_u32 [100, 105, 118] ha hb
  have Ht := opF_u32 [114, 101, 109] ha hb
  rw [hq] at Hq
  rw [hr] at Hr
  rw [hs] at Hs
  rw [ht] at Ht
  have F1 := beq_of (divu_back ha hb hz)
  have F2 := remu_lt (a := a) hb hz
  have F3 := beq_of (div_back (a := a) hb hz)
  have F5 := rem_sq (a := a) hb hz
  have bm := wrap32_bd a
  have bn := wrap32_bd b
  have bx := wrap32_bd (wDiv a b)
  have bY := wrap32_bd (wRem a b)
  have G : (wrap32 (wRem a b) == 0) = true := beq_of hy0
  clear hy0
  generalize wDivu a b = q at *
  generalize wRemu a b = r at *
  generalize wDiv a b = s at *
  generalize wRem a b = t at *
  generalize hm : wrap32 a = m at *
  generalize hn : wrap32 b = n at *
  generalize hx : wrap32 s = x at *
  generalize hy : wrap32 t = y at *
  obtain ⟨ha0, ha1⟩ := ha
  obtain ⟨hb1, hb2⟩ := hb
  obtain ⟨q0, q1⟩ := Hq
  obtain ⟨r0, r1⟩ := Hr
  obtain ⟨s0, s1⟩ := Hs
  obtain ⟨t0, t1⟩ := Ht
  obtain ⟨m0, m1⟩ := bm
  obtain ⟨n0, n1⟩ := bn
  obtain ⟨x0, x1⟩ := bx
  obtain ⟨y0, y1⟩ := bY
  clear hz
  go_enter Try.func4, Try.ntmps4
  go_wp2_with fail
  refine (op_ _ _ _ Ha Hb _).mono ?_
  rintro e w' ⟨rfl, rfl⟩
  go_wp2_with fail
  refine (op_ _ _ _ Ha Hb _).mono ?_
  rintro e w' ⟨rfl, rfl⟩
  go_wp2_with fail
  refine (op_ _ _ _ Ha Hb _).mono ?_
  rintro e w' ⟨rfl, rfl⟩
  go_wp2_with fail
  refine (op_ _ _ _ Ha Hb _).mono ?_
  rintro e w' ⟨rfl, rfl⟩
  go_wp2_with fail
  refine (awake _).mono ?_
  rintro e w' ⟨rfl, rfl⟩
  go_wp2_with fail
  go_ret
  exact ⟨rfl, rfl⟩

set_option maxHeartbeats 1000000 in
theorem div_em (a b : Int) (ha : U32 a) (hb : U32 b) (hz : b ≠ 0) (hc : (a == 2147483648) = true) (hd : (b == 4294967295) = false) (hy0 : wrap32 (wRem a b) < 0) (w : World) :
    Calls Try.prog 4 #[.int .u32 a, .int .u32 b] w fun e w' => e = .returned (.bool true) ∧ w' = w := by
  have Ha : Hid (U32 a) := ha
  have Hb : Hid (U32 b) := hb
  have hb0 : (b == 0) = false := by simpa using hz
  have hq := opF_divu a b
  have hr := opF_remu a b
  have hs := opF_div a b
  have ht := opF_rem a b
  have Hq := opF_u32 [100, 105, 118, 117] ha hb
  have Hr := opF_u32 [114, 101, 109, 117] ha hb
  have Hs := opF_u32 [100, 105, 118] ha hb
  have Ht := opF_u32 [114, 101, 109] ha hb
  rw [hq] at Hq
  rw [hr] at Hr
  rw [hs] at Hs
  rw [ht] at Ht
  have F1 := beq_of (divu_back ha hb hz)
  have F2 := remu_lt (a := a) hb hz
  have F3 := beq_of (div_back (a := a) hb hz)
  have F5 := rem_sq (a := a) hb hz
  have bm := wrap32_bd a
  have bn := wrap32_bd b
  have bx := wrap32_bd (wDiv a b)
  have bY := wrap32_bd (wRem a b)
  have G := rem_neg hb hz hy0
  have G' : (wrap32 (wRem a b) == 0) = false := by simp; omega
  generalize wDivu a b = q at *
  generalize wRemu a b = r at *
  generalize wDiv a b = s at *
  generalize wRem a b = t at *
  generalize hm : wrap32 a = m at *
  generalize hn : wrap32 b = n at *
  generalize hx : wrap32 s = x at *
  generalize hy : wrap32 t = y at *
  obtain ⟨ha0, ha1⟩ := ha
  obtain ⟨hb1, hb2⟩ := hb
  obtain ⟨q0, q1⟩ := Hq
  obtain ⟨r0, r1⟩ := Hr
  obtain ⟨s0, s1⟩ := Hs
  obtain ⟨t0, t1⟩ := Ht
  obtain ⟨m0, m1⟩ := bm
  obtain ⟨n0, n1⟩ := bn
  obtain ⟨x0, x1⟩ := bx
  obtain ⟨y0, y1⟩ := bY
  clear hz
  go_enter Try.func4, Try.ntmps4
  go_wp2_with fail
  refine (op_ _ _ _ Ha Hb _).mono ?_
  rintro e w' ⟨rfl, rfl⟩
  go_wp2_with fail
  refine (op_ _ _ _ Ha Hb _).mono ?_
  rintro e w' ⟨rfl, rfl⟩
  go_wp2_with fail
  refine (op_ _ _ _ Ha Hb _).mono ?_
  rintro e w' ⟨rfl, rfl⟩
  go_wp2_with fail
  refine (op_ _ _ _ Ha Hb _).mono ?_
  rintro e w' ⟨rfl, rfl⟩
  go_wp2_with fail
  refine (awake _).mono ?_
  rintro e w' ⟨rfl, rfl⟩
  go_wp2_with fail
  go_ret
  exact ⟨rfl, rfl⟩

set_option maxHeartbeats 1000000 in
theorem div_ep (a b : Int) (ha : U32 a) (hb : U32 b) (hz : b ≠ 0) (hc : (a == 2147483648) = true) (hd : (b == 4294967295) = false) (hy0 : 0 < wrap32 (wRem a b)) (w : World) :
    Calls Try.prog 4 #[.int .u32 a, .int .u32 b] w fun e w' => e = .returned (.bool true) ∧ w' = w := by
  have Ha : Hid (U32 a) := ha
  have Hb : Hid (U32 b) := hb
  have hb0 : (b == 0) = false := by simpa using hz
  have hq := opF_divu a b
  have hr := opF_remu a b
  have hs := opF_div a b
  have ht := opF_rem a b
  have Hq := opF_u32 [100, 105, 118, 117] ha hb
  have Hr := opF_u32 [114, 101, 109, 117] ha hb
  have Hs := opF_u32 [100, 105, 118] ha hb
  have Ht := opF_u32 [114, 101, 109] ha hb
  rw [hq] at Hq
  rw [hr] at Hr
  rw [hs] at Hs
  rw [ht] at Ht
  have F1 := beq_of (divu_back ha hb hz)
  have F2 := remu_lt (a := a) hb hz
  have F3 := beq_of (div_back (a := a) hb hz)
  have F5 := rem_sq (a := a) hb hz
  have bm := wrap32_bd a
  have bn := wrap32_bd b
  have bx := wrap32_bd (wDiv a b)
  have bY := wrap32_bd (wRem a b)
  have G := rem_pos hb hz hy0
  have G' : (wrap32 (wRem a b) == 0) = false := by simp; omega
  generalize wDivu a b = q at *
  generalize wRemu a b = r at *
  generalize wDiv a b = s at *
  generalize wRem a b = t at *
  generalize hm : wrap32 a = m at *
  generalize hn : wrap32 b = n at *
  generalize hx : wrap32 s = x at *
  generalize hy : wrap32 t = y at *
  obtain ⟨ha0, ha1⟩ := ha
  obtain ⟨hb1, hb2⟩ := hb
  obtain ⟨q0, q1⟩ := Hq
  obtain ⟨r0, r1⟩ := Hr
  obtain ⟨s0, s1⟩ := Hs
  obtain ⟨t0, t1⟩ := Ht
  obtain ⟨m0, m1⟩ := bm
  obtain ⟨n0, n1⟩ := bn
  obtain ⟨x0, x1⟩ := bx
  obtain ⟨y0, y1⟩ := bY
  clear hz
  go_enter Try.func4, Try.ntmps4
  go_wp2_with fail
  refine (op_ _ _ _ Ha Hb _).mono ?_
  rintro e w' ⟨rfl, rfl⟩
  go_wp2_with fail
  refine (op_ _ _ _ Ha Hb _).mono ?_
  rintro e w' ⟨rfl, rfl⟩
  go_wp2_with fail
  refine (op_ _ _ _ Ha Hb _).mono ?_
  rintro e w' ⟨rfl, rfl⟩
  go_wp2_with fail
  refine (op_ _ _ _ Ha Hb _).mono ?_
  rintro e w' ⟨rfl, rfl⟩
  go_wp2_with fail
  refine (awake _).mono ?_
  rintro e w' ⟨rfl, rfl⟩
  go_wp2_with fail
  go_ret
  exact ⟨rfl, rfl⟩

theorem wordDivides (a b : Int) (ha : U32 a) (hb : U32 b) (w : World) :
    Calls Try.prog 4 #[.int .u32 a, .int .u32 b] w fun e w' => e = .returned (.bool true) ∧ w' = w := by
  by_cases hz : b = 0
  · subst hz; exact div_zero a ha w
  · by_cases hc : a = 2147483648
    · by_cases hd : b = 4294967295
      · exact div_edge a b hc hd w
      · have hc' := beq_of hc
        have hd' : (b == 4294967295) = false := by simpa using hd
        by_cases h0 : wrap32 (wRem a b) = 0
        · exact div_ez a b ha hb hz hc' hd' h0 w
        · by_cases h1 : wrap32 (wRem a b) < 0
          · exact div_em a b ha hb hz hc' hd' h1 w
          · exact div_ep a b ha hb hz hc' hd' (by omega) w
    · have hc' : (a == 2147483648) = false := by simpa using hc
      by_cases h0 : wrap32 (wRem a b) = 0
      · exact div_nz a b ha hb hz hc' h0 w
      · by_cases h1 : wrap32 (wRem a b) < 0
        · exact div_nm a b ha hb hz hc' h1 w
        · exact div_np a b ha hb hz hc' (by omega) w
end Go.Proofs.Ytmkkilmhghiidaa
