/-
  ImageRules, case by case (23).
-/
import Derived.Test.YtfjppgfnjjmkpaaImz
namespace Go.Proofs.Ytfjppgfnjjmkpaa
open Go.RowKit Go.Sort

set_option maxRecDepth 100000 in
set_option maxHeartbeats 4000000 in
theorem rule23 (a0 : Int) (hk : (wrap64 a0).tmod 26 = 23) (w : World) : Calls Try.prog 5 #[.int .u8 a0] w fun e w' => e = .returned (.bool true) ∧ Below w.heap.size w w' := by
  have CS : Hid _ := iSound 3 (by omega)
  have hm : Try.prog.follows .mixedOrders = true := by kernel_rfl
  go_enter Try.func5, Try.ntmps5
  go_wp2_with fail
  refine Calls.mono (CS.out _) ?_
  rintro e V ⟨v, ps, rfl, hf⟩
  obtain ⟨g, pc, kb, sb, rfl, hi, hj, hg⟩ := hf.imb (by omega)
  have HI : Hid _ := hi
  have HJ : Hid _ := hj
  have HN : Hid _ := hf.len
  have HL : Hid _ := hf.low
  have HG : Hid _ := hg
  clear hf CS hi hj hg
  go_wp2_with (refine wpList_fill rfl 28 (.tmp 3) (.tmp 9) rfl rfl (sndI w.heap.size (.slice (some ⟨g, 0, none⟩) 3 pc)) rfl 28 _ (by exact infoIm) (by rfl) (snd_one _ _ _ _) ?_)
  intro V1 e1 b1
  have hst := ru_begin HL.out HN.out HI.out HJ.out HG.out e1 b1
  clear e1 b1 HI HJ HN HL HG
  obtain ⟨W, hW⟩ : ∃ W, W = V1.alloc (.cells wantC 3) := ⟨_, rfl⟩
  rw [← hW] at hst
  have HW : Hid _ := hW
  have ST : Hid _ := hst
  have c9 : W.cell? ⟨V.heap.size, 9, none⟩ = some (.slice (some ⟨g, 0, none⟩) 3 pc) := (cells_of hst.box).1 9 _ rfl
  have c5 := (cells_of hst.box).1 5 _ rfl
  have f5 := (cells_of hst.box).2.1 5
  have c6 := (cells_of hst.box).1 6 _ rfl
  have f6 := (cells_of hst.box).2.1 6
  have c7 := (cells_of hst.box).1 7 _ rfl
  have f7 := (cells_of hst.box).2.1 7
  have c8 := (cells_of hst.box).1 8 _ rfl
  have f8 := (cells_of hst.box).2.1 8
  clear hst hW
  generalize V.heap.size = B at *
  go_wp2_with (refine wp_world HW.out ?_)
  have m0 := ST.out.m
  have m1 := m0.setB (c := 5) (⟨some ⟨w.heap.size + 1, 0, none⟩, 200, 200, ⟨0, 40, false, false⟩, ⟨220, 200, false, false⟩, some ⟨g, 0, none⟩, pc, [sndP 0 (kb 0) (sb 0), sndP 1 (kb 1) (sb 1), sndP 2 (kb 2) (sb 2)]⟩ : Im) (.int .u32 220) rfl rfl rfl
  have m2 := m1.setB (c := 6) (⟨some ⟨w.heap.size + 1, 0, none⟩, 200, 200, ⟨0, 40, false, false⟩, ⟨220, 220, false, false⟩, some ⟨g, 0, none⟩, pc, [sndP 0 (kb 0) (sb 0), sndP 1 (kb 1) (sb 1), sndP 2 (kb 2) (sb 2)]⟩ : Im) (.int .u32 220) rfl rfl rfl
  have m3 := m2.setB (c := 7) (⟨some ⟨w.heap.size + 1, 0, none⟩, 200, 200, ⟨0, 40, false, false⟩, ⟨220, 220, false, false⟩, some ⟨g, 0, none⟩, pc, [sndP 0 (kb 0) (sb 0), sndP 1 (kb 1) (sb 1), sndP 2 (kb 2) (sb 2)]⟩ : Im) (.bool false) rfl rfl rfl
  have m4 := m3.setB (c := 8) (⟨some ⟨w.heap.size + 1, 0, none⟩, 200, 200, ⟨0, 40, false, false⟩, ⟨220, 220, false, false⟩, some ⟨g, 0, none⟩, pc, [sndP 0 (kb 0) (sb 0), sndP 1 (kb 1) (sb 1), sndP 2 (kb 2) (sb 2)]⟩ : Im) (.bool false) rfl rfl rfl
  have M0 : Hid (RuM w (((((W).setCell ⟨B, 5, none⟩ (.int .u32 220)).setCell ⟨B, 6, none⟩ (.int .u32 220)).setCell ⟨B, 7, none⟩ (.bool false)).setCell ⟨B, 8, none⟩ (.bool false)) (fun d ob => d = V1.heap.size ∧ ob = .cells wantC 3) B g (im23 w g pc 0 kb sb) kb sb) := m4
  clear m0 m1 m2 m3 m4
  generalize ((((W).setCell ⟨B, 5, none⟩ (.int .u32 220)).setCell ⟨B, 6, none⟩ (.int .u32 220)).setCell ⟨B, 7, none⟩ (.bool false)).setCell ⟨B, 8, none⟩ (.bool false) = W5 at *
  go_loopw [7] (fun x wr => ∃ (k : Nat) (V3 : World), V3 = wr ∧ k ≤ 3 ∧ x = .int .i64 k ∧ Hid (RuM w V3 (fun d ob => d = V1.heap.size ∧ ob = .cells wantC 3) B g (im23 w g pc k kb sb) kb sb)) (fun x _ => 3 - (intOf x).toNat)
  case atStart => exact ⟨0, _, rfl, by omega, rfl, M0⟩
  case round =>
    clear M0
    obtain ⟨k, V3, rfl, hk, rfl, hr⟩ := hrel
    by_cases hlt : k < 3
    · have k1 : (k : Int) < 3 := by omega
      have c9 : V3.cell? ⟨B, 9, none⟩ = some (.slice (some ⟨g, 0, none⟩) 3 pc) := (cells_of hr.out.box).1 9 _ rfl
      obtain ⟨cK, fK, hn⟩ := ru_nil hr.out hlt
      have HN : Hid _ := hn
      clear hn
      go_wp2_with fail
      exact ⟨⟨k + 1, _, rfl, by omega, by go_num, HN⟩, by simp [intOf]; omega⟩
    · have hk3 : k = 3 := by omega
      subst hk3
      have E : Hid _ := hr.out.fin
      go_wp2_with fail
      have hJ1 : imB (im23 w g pc 3 kb sb) = true := by kernel_rfl
      have hJ2 : checkV (im23 w g pc 3 kb sb) = 0 := by kernel_rfl
      generalize (im23 w g pc 3 kb sb) = J at *
      generalize V1.heap.size = D at *
      have wk : V3.cell? ⟨D, 23, none⟩ = some (.int .i64 0) := (cells_of E.out.wnt).1 23 _ rfl
      have wr := cell_regrown wk
      obtain ⟨pb, po, hpp⟩ := E.out.ps
      have HP : Hid _ := hpp
      clear wk hpp
      refine wp_region_quiet_below hm (by kernel_rfl) ?_
      refine wpQuiet_load (.agg J.cells) (by rfl) (im_load E.out.box (.tmp 3) rfl (by rfl)) ?_
      repeat (quiet_step (first | exact checkIn HP.out hJ1 _ hJ2 _ _ | exact awakeIn _ _ _))
      refine wpQuiet_nil ?_
      intro _ hw'
      obtain ⟨⟨dq, osq⟩, hw''⟩ := hw'
      subst hw''
      go_wp2
      go_ret
      exact ⟨rfl, E.out.low.trans ((below_regrown _ dq osq).mono E.out.low.size)⟩
end Go.Proofs.Ytfjppgfnjjmkpaa
