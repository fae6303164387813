/-
  ImageTurned, case by case (13).
-/
import Derived.Test.YtfjppgfnjjmkpaaImtb
namespace Go.Proofs.Ytfjppgfnjjmkpaa
open Go.RowKit Go.Sort

set_option maxRecDepth 100000 in
set_option maxHeartbeats 4000000 in
theorem turn13 (a0 a1 a2 a3 : Int) (N Q : Nat) (h8 : 1 ≤ N ∧ N ≤ 8) (hN : (wrap64 a0).tmod 8 + 1 = (N : Int)) (h2 : 0 ≤ a2 ∧ a2 ≤ 255) (hQ : a2.tmod (N : Int) = (Q : Int)) (hQN : Q < N) (h3 : 0 ≤ a3 ∧ a3 < 4294967296) (hk : a1.tmod 15 = 13) (w : World) :
    Calls Try.prog 4 #[.int .u8 a0, .int .u8 a1, .int .u8 a2, .int .u32 a3] w fun e w' => e = .returned (.bool true) ∧ Below w.heap.size w w' := by
  have CS : Hid _ := iSound N (by omega)
  have hm : Try.prog.follows .mixedOrders = true := by kernel_rfl
  have hN' : 1 + (wrap64 a0).tmod 8 = (N : Int) := by omega
  have n1 : 1 ≤ (N : Int) := by omega
  have n8 : (N : Int) ≤ 8 := by omega
  go_enter Try.func4, Try.ntmps4
  go_wp2_with fail
  refine Calls.mono (CS.out _) ?_
  rintro e V ⟨v, ps, rfl, hf⟩
  obtain ⟨g, pc, kb, sb, rfl, hi, hj, hg⟩ := hf.imb (by omega)
  have HF : Hid _ := hf
  have HI : Hid _ := hi
  have HJ : Hid _ := hj
  have HG : Hid _ := hg
  clear hf CS hi hj hg
  go_wp2_with (refine wpList_fill rfl 28 (.tmp 9) (.tmp 15) rfl rfl (sndI w.heap.size (.slice (some ⟨g, 0, none⟩) N pc)) rfl 28 _ (by exact infoIm) (by rfl) (snd_one _ _ _ _) ?_)
  intro V1 e1 b1
  have hst := tu_begin h8 HF.out HI.out HJ.out HG.out e1 b1
  clear e1 b1 HF HI HJ HG
  generalize V.heap.size = B at *
  have ST1 : Hid _ := hst
  have c9 : V1.cell? ⟨B, 9, none⟩ = some (.slice (some ⟨g, 0, none⟩) N pc) := by rw [← hst.len]; exact (cells_of hst.m.box).1 9 _ rfl
  have g9 := cell_regrown c9
  have q0 : (0 : Int) ≤ (Q : Int) := by omega
  have q1 : (Q : Int) < (N : Int) := by omega
  have hQ2 : (IntKind.i64.wrap a2).tmod (N : Int) = (Q : Int) := by rw [wrap_i64 h2]; exact hQ
  have nz : ¬ (N : Int) = 0 := by omega
  have nz2 : ¬ N = 0 := by omega
  have nz3 : ((N : Int) == 0) = false := by simp [nz2]
  clear hst c9
  go_wp2_with fail
  refine wp_region_quiet_below hm (by kernel_rfl) ?_
  repeat (quiet_step (fail))
  refine wpQuiet_nil ?_
  intro _ hw'
  obtain ⟨⟨dq, osq⟩, hw''⟩ := hw'
  subst hw''
  have ST2 : Hid _ := ST1.out.below (below_regrown V1 dq osq)
  clear g9 ST1
  generalize grow (redrawn V1 dq) osq = W at *
  have ST : Hid _ := ST2
  have HQ : Hid _ := hQN
  obtain ⟨X, hX, hXm⟩ : ∃ X : Nat, a3.tmod 3 = (X : Int) ∧ X < 3 := ⟨(a3.tmod 3).toNat, by rw [Int.tmod_eq_emod_of_nonneg h3.1]; omega, by rw [Int.tmod_eq_emod_of_nonneg h3.1]; omega⟩
  have HXM : Hid _ := hXm
  have c2 : W.cell? ⟨g, Q * 11 + 10, none⟩ = some (.slice (some ⟨sb Q, 0, none⟩) 2 2) := (ST.out.m.ps.cell (q := Q) (c := 10) (ST.out.at HQ.out) rfl).1
  have c1 := (ST.out.m.ps.atS (q := Q) (m := 1) (c := 0) (ST.out.at HQ.out) rfl rfl).1
  have f1 := (ST.out.m.ps.atS (q := Q) (m := 1) (c := 0) (ST.out.at HQ.out) rfl rfl).2
  simp only [Nat.reduceMul, Nat.reduceAdd] at c1 f1
  obtain ⟨W9, hW9⟩ : ∃ W9, W9 = W.drew.alloc (.cells tMs 9) := ⟨_, rfl⟩
  have b8 : Below W.heap.size W W.drew := (Below.refl _ _).drew
  have b9 : Below W.heap.size W W9 := by rw [hW9]; exact b8.alloc (by simp) _
  have n9 : W9.heap[W.heap.size]? = some (.cells tMs 9) := by rw [hW9]; exact alloc_at _ _
  have HW9 : Hid _ := hW9
  have ST9 : Hid _ := ST.out.below b9
  have cX : W9.cell? ⟨W.heap.size, X, none⟩ = some (.string (tM X)) := (cells_of n9).1 X _ (tMs_at hXm)
  have x1 : (X : Int) < 3 := by omega
  have d1 := (ST9.out.m.ps.atS (q := Q) (m := 1) (c := 0) (ST9.out.at HQ.out) rfl rfl).1
  have g1 := (ST9.out.m.ps.atS (q := Q) (m := 1) (c := 0) (ST9.out.at HQ.out) rfl rfl).2
  simp only [Nat.reduceMul, Nat.reduceAdd] at d1 g1
  have D2 : Hid (W9.cell? ⟨g, Q * 11 + 10, none⟩ = some (.slice (some ⟨sb Q, 0, none⟩) 2 2)) := (ST9.out.m.ps.cell (q := Q) (c := 10) (ST9.out.at HQ.out) rfl).1
  clear b8 b9 n9 hW9
  clear ST2 hN hN' h8 hQN
  go_wp2_with (fail)
  refine wp_region_phase 11 (fun q w' => q = false → w'.cell? ⟨g, Q * 11 + 10, none⟩ = some (.slice (some ⟨sb Q, 0, none⟩) 2 2)) hm (fun _ => c2) (fun hHeld => ?_)
  have hHeld := hHeld rfl
  first
    | refine ptake_read 0 (some 170) (v := ?_) rfl rfl (by kernel_rfl) (by kernel_rfl) (by kernel_rfl) rfl (by kernel_rfl) (fun _ _ _ h => h) (by kernel_rfl) (Or.inl ⟨by rfl, ?_⟩) (fun _ => hHeld) ?_
    | refine ptake_pure 0 (some 170) (v := ?_) rfl rfl (by kernel_rfl) (by kernel_rfl) (by kernel_rfl) rfl (fun _ _ _ h => h) (Or.inl ⟨by rfl, ?_⟩) (fun _ => hHeld) ?_
  rotate_left
  · intro w' hSw
    clear hSw
    go_simp
    try with_reducible rfl
  simp only [Act.put, List.setIfInBounds_toArray, List.set_cons_zero, List.set_cons_succ]
  first
    | refine ptake_read 1 (some 171) (v := ?_) rfl rfl (by kernel_rfl) (by kernel_rfl) (by kernel_rfl) rfl (by kernel_rfl) (fun _ _ _ h => h) (by kernel_rfl) (Or.inl ⟨by rfl, ?_⟩) (fun _ => hHeld) ?_
    | refine ptake_pure 1 (some 171) (v := ?_) rfl rfl (by kernel_rfl) (by kernel_rfl) (by kernel_rfl) rfl (fun _ _ _ h => h) (Or.inl ⟨by rfl, ?_⟩) (fun _ => hHeld) ?_
  rotate_left
  · intro w' hSw
    clear hSw
    go_simp
    try with_reducible rfl
  simp only [Act.put, List.setIfInBounds_toArray, List.set_cons_zero, List.set_cons_succ]
  first
    | refine ptake_read 2 (some 172) (v := ?_) rfl rfl (by kernel_rfl) (by kernel_rfl) (by kernel_rfl) rfl (by kernel_rfl) (fun _ _ _ h => h) (by kernel_rfl) (Or.inl ⟨by rfl, ?_⟩) (fun _ => hHeld) ?_
    | refine ptake_pure 2 (some 172) (v := ?_) rfl rfl (by kernel_rfl) (by kernel_rfl) (by kernel_rfl) rfl (fun _ _ _ h => h) (Or.inl ⟨by rfl, ?_⟩) (fun _ => hHeld) ?_
  rotate_left
  · intro w' hSw
    clear hSw
    go_simp
    try with_reducible rfl
  simp only [Act.put, List.setIfInBounds_toArray, List.set_cons_zero, List.set_cons_succ]
  first
    | refine ptake_read 3 (some 173) (v := ?_) rfl rfl (by kernel_rfl) (by kernel_rfl) (by kernel_rfl) rfl (by kernel_rfl) (fun _ _ _ h => h) (by kernel_rfl) (Or.inl ⟨by rfl, ?_⟩) (fun _ => hHeld) ?_
    | refine ptake_pure 3 (some 173) (v := ?_) rfl rfl (by kernel_rfl) (by kernel_rfl) (by kernel_rfl) rfl (fun _ _ _ h => h) (Or.inl ⟨by rfl, ?_⟩) (fun _ => hHeld) ?_
  rotate_left
  · intro w' hSw
    have q2 := hSw rfl
    clear hSw
    go_simp
    try with_reducible rfl
  simp only [Act.put, List.setIfInBounds_toArray, List.set_cons_zero, List.set_cons_succ]
  first
    | refine ptake_read 5 (some 175) (v := ?_) rfl rfl (by kernel_rfl) (by kernel_rfl) (by kernel_rfl) rfl (by kernel_rfl) (fun _ _ _ h => h) (by kernel_rfl) (Or.inl ⟨by rfl, ?_⟩) (fun _ => hHeld) ?_
    | refine ptake_pure 5 (some 175) (v := ?_) rfl rfl (by kernel_rfl) (by kernel_rfl) (by kernel_rfl) rfl (fun _ _ _ h => h) (Or.inl ⟨by rfl, ?_⟩) (fun _ => hHeld) ?_
  rotate_left
  · intro w' hSw
    clear hSw
    go_simp
    try with_reducible rfl
  simp only [Act.put, List.setIfInBounds_toArray, List.set_cons_zero, List.set_cons_succ]
  first
    | refine ptake_read 6 (some 176) (v := ?_) rfl rfl (by kernel_rfl) (by kernel_rfl) (by kernel_rfl) rfl (by kernel_rfl) (fun _ _ _ h => h) (by kernel_rfl) (Or.inl ⟨by rfl, ?_⟩) (fun _ => hHeld) ?_
    | refine ptake_pure 6 (some 176) (v := ?_) rfl rfl (by kernel_rfl) (by kernel_rfl) (by kernel_rfl) rfl (fun _ _ _ h => h) (Or.inl ⟨by rfl, ?_⟩) (fun _ => hHeld) ?_
  rotate_left
  · intro w' hSw
    clear hSw
    go_simp
    try with_reducible rfl
  simp only [Act.put, List.setIfInBounds_toArray, List.set_cons_zero, List.set_cons_succ]
  refine pturn 4 (some 174) (v := .slice (some ⟨W.heap.size, 0, none⟩) 3 3) (w' := W9) rfl rfl (by rfl) (by kernel_rfl) (by rw [HW9.out]; simp [execOp, go_sem, Result.andThen, tMs]) (fun _ => D2.out) ?_
  simp only [Act.put, List.setIfInBounds_toArray, List.set_cons_zero, List.set_cons_succ]
  refine pturn 7 (some 177) (v := .pointer (some ⟨W.heap.size, X, none⟩)) (w' := W9) rfl rfl (by rfl) (by kernel_rfl) (by go_simp) (fun _ => D2.out) ?_
  simp only [Act.put, List.setIfInBounds_toArray, List.set_cons_zero, List.set_cons_succ]
  refine pturn 8 (some 178) (v := .string (tM X)) (w' := W9) rfl rfl (by rfl) (by kernel_rfl) (by go_simp) (fun _ => D2.out) ?_
  simp only [Act.put, List.setIfInBounds_toArray, List.set_cons_zero, List.set_cons_succ]
  refine pturn 9 (some 179) (v := .pointer (some ⟨sb Q, 2, none⟩)) (w' := W9) rfl rfl (by rfl) (by kernel_rfl) (by go_simp) (fun _ => D2.out) ?_
  simp only [Act.put, List.setIfInBounds_toArray, List.set_cons_zero, List.set_cons_succ]
  refine pturn 10 (some 180) (v := .pointer (some ⟨sb Q, 2, none⟩)) (w' := W9) rfl rfl (by rfl) (by kernel_rfl) (by go_simp) (fun _ => D2.out) ?_
  simp only [Act.put, List.setIfInBounds_toArray, List.set_cons_zero, List.set_cons_succ]
  refine pskip 11 none (w' := W9.setCell ⟨sb Q, 2, none⟩ (.string (tM X))) rfl rfl (by rfl) (by kernel_rfl) (by go_simp) (fun h => by cases h) ?_
  refine pdone (by kernel_rfl) ?_ _
  refine NoPanic.normal ?_
  clear hHeld
  go_wp2_with fail
  have E : Hid (TuEnd w (W9.setCell ⟨sb Q, 2, none⟩ (.string (tM X))) B (tIm w.heap.size 200 tK tS g pc (ps.set Q ((sndP Q (kb Q) (sb Q)).symsTo [(⟨#[120]⟩, 220 + 60 * (Q : Int)), (tM X, 256 + 60 * (Q : Int))])))) := ST9.out.putS (c := 0) HQ.out (tM X, 256 + 60 * (Q : Int)) (.string (tM X)) (by omega) rfl ⟨tM_ok X, ((sndP_ok Q (kb Q) (sb Q) (by have := HQ.out; have := ST.out.n8; omega)).ss _ (List.mem_cons_of_mem _ (List.mem_cons_self ..))).2⟩
  generalize W9.setCell ⟨sb Q, 2, none⟩ (.string (tM X)) = V2 at *
  generalize (tIm w.heap.size 200 tK tS g pc (ps.set Q ((sndP Q (kb Q) (sb Q)).symsTo [(⟨#[120]⟩, 220 + 60 * (Q : Int)), (tM X, 256 + 60 * (Q : Int))]))) = J at *
  obtain ⟨pb, po, hpp⟩ := E.out.ps
  have HP : Hid _ := hpp
  clear hpp
  refine wp_region_quiet_below hm (by kernel_rfl) ?_
  refine wpQuiet_load (.agg J.cells) (by rfl) (im_load E.out.box (.tmp 9) rfl (by rfl)) ?_
  quiet_step (exact tcheckIn HP.out E.out.ok E.out.few _ _)
  refine wpQuiet_load (.agg J.cells) (by rfl) (im_load E.out.box (.tmp 9) rfl (by rfl)) ?_
  quiet_step (exact trcheckIn HP.out E.out.ok E.out.few _ _)
  generalize checkV J = cv at *
  repeat (quiet_step (exact awakeIn _ _ _))
  refine wpQuiet_nil ?_
  intro _ hw'
  obtain ⟨⟨dq, osq⟩, hw''⟩ := hw'
  subst hw''
  go_wp2
  go_ret
  exact ⟨by simp, E.out.low.trans ((below_regrown _ dq osq).mono E.out.low.size)⟩
end Go.Proofs.Ytfjppgfnjjmkpaa
