/-
  ImageRules, case by case (16, 17, 1, 20, 21).
-/
import Derived.Test.YtfjppgfnjjmkpaaImy
namespace Go.Proofs.Ytfjppgfnjjmkpaa
open Go.RowKit Go.Sort

set_option maxRecDepth 100000 in
set_option maxHeartbeats 4000000 in
theorem rule16 (a0 : Int) (hk : (wrap64 a0).tmod 26 = 16) (w : World) : Calls Try.prog 5 #[.int .u8 a0] w fun e w' => e = .returned (.bool true) ∧ Below w.heap.size w w' := by
  have CS : Hid _ := iSound 3 (by omega)
  have hm : Try.prog.follows .mixedOrders = true := by kernel_rfl
  go_enter Try.func5, Try.ntmps5
  go_wp2_with fail
  refine Calls.mono (CS.out _) ?_
  rintro e V ⟨v, ps, rfl, hf⟩
  obtain ⟨g, pc, kb, sb, rfl, hi, hj, hg⟩ := hf.imb (by omega)
  have HI : Hid _ := hi
  have HJ : Hid _ := hj
  have HN : Hid _ := hf.len
  have HL : Hid _ := hf.low
  have HG : Hid _ := hg
  clear hf CS hi hj hg
  go_wp2_with (refine wpList_fill rfl 28 (.tmp 3) (.tmp 9) rfl rfl (sndI w.heap.size (.slice (some ⟨g, 0, none⟩) 3 pc)) rfl 28 _ (by exact infoIm) (by rfl) (snd_one _ _ _ _) ?_)
  intro V1 e1 b1
  have hst := ru_begin HL.out HN.out HI.out HJ.out HG.out e1 b1
  clear e1 b1 HI HJ HN HL HG
  obtain ⟨W, hW⟩ : ∃ W, W = V1.alloc (.cells wantC 3) := ⟨_, rfl⟩
  rw [← hW] at hst
  have HW : Hid _ := hW
  have ST : Hid _ := hst
  have c9 : W.cell? ⟨V.heap.size, 9, none⟩ = some (.slice (some ⟨g, 0, none⟩) 3 pc) := (cells_of hst.box).1 9 _ rfl
  have c2 : W.cell? ⟨g, 20, none⟩ = some (.slice (some ⟨kb 1, 0, none⟩) 1 1) := (hst.ps.cell (q := 1) (c := 9) rfl rfl).1
  have k0 : W.cell? ⟨kb 1, 0, none⟩ = some (.int .u32 56) := (hst.ps.atK (q := 1) (m := 0) (c := 0) rfl rfl rfl).1
  have k1 : W.cell? ⟨kb 1, 1, none⟩ = some (.int .u32 72) := (hst.ps.atK (q := 1) (m := 0) (c := 1) rfl rfl rfl).1
  have k2 : W.cell? ⟨kb 1, 2, none⟩ = some (.bool false) := (hst.ps.atK (q := 1) (m := 0) (c := 2) rfl rfl rfl).1
  have k3 : W.cell? ⟨kb 1, 3, none⟩ = some (.bool false) := (hst.ps.atK (q := 1) (m := 0) (c := 3) rfl rfl rfl).1
  have f0 : W.frozen? ⟨kb 1, 0, none⟩ = false := (hst.ps.atK (q := 1) (m := 0) (c := 0) rfl rfl rfl).2
  have f1 : W.frozen? ⟨kb 1, 1, none⟩ = false := (hst.ps.atK (q := 1) (m := 0) (c := 1) rfl rfl rfl).2
  have f2 : W.frozen? ⟨kb 1, 2, none⟩ = false := (hst.ps.atK (q := 1) (m := 0) (c := 2) rfl rfl rfl).2
  have f3 : W.frozen? ⟨kb 1, 3, none⟩ = false := (hst.ps.atK (q := 1) (m := 0) (c := 3) rfl rfl rfl).2
  clear hst hW
  generalize V.heap.size = B at *
  go_wp2_with (refine wp_world HW.out ?_)
  have m0 := ST.out.m
  have m1 := m0.setK (q := 1) (m := 0) (c := 0) ⟨40, 72, false, false⟩ (ruIm w g pc [sndP 0 (kb 0) (sb 0), ⟨sndN 1, ⟨260, 280, true, false⟩, ⟨280, 320, false, true⟩, some ⟨kb 1, 0, none⟩, 1, 1, some ⟨sb 1, 0, none⟩, 2, 2, [⟨40, 72, false, false⟩], [(⟨#[120]⟩, 280), (⟨#[121]⟩, 316)]⟩, sndP 2 (kb 2) (sb 2)]) (.int .u32 40) rfl rfl (by omega) rfl rfl rfl rfl
  have m2 := m1.setK (q := 1) (m := 0) (c := 1) ⟨40, 56, false, false⟩ (ruIm w g pc [sndP 0 (kb 0) (sb 0), ⟨sndN 1, ⟨260, 280, true, false⟩, ⟨280, 320, false, true⟩, some ⟨kb 1, 0, none⟩, 1, 1, some ⟨sb 1, 0, none⟩, 2, 2, [⟨40, 56, false, false⟩], [(⟨#[120]⟩, 280), (⟨#[121]⟩, 316)]⟩, sndP 2 (kb 2) (sb 2)]) (.int .u32 56) rfl rfl (by omega) rfl rfl rfl rfl
  have m3 := m2.setK (q := 1) (m := 0) (c := 2) ⟨40, 56, false, false⟩ (ruIm w g pc [sndP 0 (kb 0) (sb 0), ⟨sndN 1, ⟨260, 280, true, false⟩, ⟨280, 320, false, true⟩, some ⟨kb 1, 0, none⟩, 1, 1, some ⟨sb 1, 0, none⟩, 2, 2, [⟨40, 56, false, false⟩], [(⟨#[120]⟩, 280), (⟨#[121]⟩, 316)]⟩, sndP 2 (kb 2) (sb 2)]) (.bool false) rfl rfl (by omega) rfl rfl rfl rfl
  have m := m3.setK (q := 1) (m := 0) (c := 3) ⟨40, 56, false, false⟩ (ruIm w g pc [sndP 0 (kb 0) (sb 0), ⟨sndN 1, ⟨260, 280, true, false⟩, ⟨280, 320, false, true⟩, some ⟨kb 1, 0, none⟩, 1, 1, some ⟨sb 1, 0, none⟩, 2, 2, [⟨40, 56, false, false⟩], [(⟨#[120]⟩, 280), (⟨#[121]⟩, 316)]⟩, sndP 2 (kb 2) (sb 2)]) (.bool false) rfl rfl (by omega) rfl rfl rfl rfl
  have E : Hid (RuEnd w (((((W).setCell ⟨kb 1, 0, none⟩ (.int .u32 40)).setCell ⟨kb 1, 1, none⟩ (.int .u32 56)).setCell ⟨kb 1, 2, none⟩ (.bool false)).setCell ⟨kb 1, 3, none⟩ (.bool false)) B V1.heap.size (ruIm w g pc [sndP 0 (kb 0) (sb 0), ⟨sndN 1, ⟨260, 280, true, false⟩, ⟨280, 320, false, true⟩, some ⟨kb 1, 0, none⟩, 1, 1, some ⟨sb 1, 0, none⟩, 2, 2, [⟨40, 56, false, false⟩], [(⟨#[120]⟩, 280), (⟨#[121]⟩, 316)]⟩, sndP 2 (kb 2) (sb 2)])) := m.fin
  have hJ1 : imB (ruIm w g pc [sndP 0 (kb 0) (sb 0), ⟨sndN 1, ⟨260, 280, true, false⟩, ⟨280, 320, false, true⟩, some ⟨kb 1, 0, none⟩, 1, 1, some ⟨sb 1, 0, none⟩, 2, 2, [⟨40, 56, false, false⟩], [(⟨#[120]⟩, 280), (⟨#[121]⟩, 316)]⟩, sndP 2 (kb 2) (sb 2)]) = true := by kernel_rfl
  have hJ2 : checkV (ruIm w g pc [sndP 0 (kb 0) (sb 0), ⟨sndN 1, ⟨260, 280, true, false⟩, ⟨280, 320, false, true⟩, some ⟨kb 1, 0, none⟩, 1, 1, some ⟨sb 1, 0, none⟩, 2, 2, [⟨40, 56, false, false⟩], [(⟨#[120]⟩, 280), (⟨#[121]⟩, 316)]⟩, sndP 2 (kb 2) (sb 2)]) = 6 := by kernel_rfl
  generalize ((((W).setCell ⟨kb 1, 0, none⟩ (.int .u32 40)).setCell ⟨kb 1, 1, none⟩ (.int .u32 56)).setCell ⟨kb 1, 2, none⟩ (.bool false)).setCell ⟨kb 1, 3, none⟩ (.bool false) = V2 at *
  generalize (ruIm w g pc [sndP 0 (kb 0) (sb 0), ⟨sndN 1, ⟨260, 280, true, false⟩, ⟨280, 320, false, true⟩, some ⟨kb 1, 0, none⟩, 1, 1, some ⟨sb 1, 0, none⟩, 2, 2, [⟨40, 56, false, false⟩], [(⟨#[120]⟩, 280), (⟨#[121]⟩, 316)]⟩, sndP 2 (kb 2) (sb 2)]) = J at *
  generalize V1.heap.size = D at *
  have wk : V2.cell? ⟨D, 16, none⟩ = some (.int .i64 6) := (cells_of E.out.wnt).1 16 _ rfl
  have wr := cell_regrown wk
  obtain ⟨pb, po, hpp⟩ := E.out.ps
  have HP : Hid _ := hpp
  clear wk hpp
  refine wp_region_quiet_below hm (by kernel_rfl) ?_
  refine wpQuiet_load (.agg J.cells) (by rfl) (im_load E.out.box (.tmp 3) rfl (by rfl)) ?_
  repeat (quiet_step (first | exact checkIn HP.out hJ1 _ hJ2 _ _ | exact awakeIn _ _ _))
  refine wpQuiet_nil ?_
  intro _ hw'
  obtain ⟨⟨dq, osq⟩, hw''⟩ := hw'
  subst hw''
  go_wp2
  go_ret
  exact ⟨rfl, E.out.low.trans ((below_regrown _ dq osq).mono E.out.low.size)⟩
set_option maxRecDepth 100000 in
set_option maxHeartbeats 4000000 in
theorem rule17 (a0 : Int) (hk : (wrap64 a0).tmod 26 = 17) (w : World) : Calls Try.prog 5 #[.int .u8 a0] w fun e w' => e = .returned (.bool true) ∧ Below w.heap.size w w' := by
  have CS : Hid _ := iSound 3 (by omega)
  have hm : Try.prog.follows .mixedOrders = true := by kernel_rfl
  go_enter Try.func5, Try.ntmps5
  go_wp2_with fail
  refine Calls.mono (CS.out _) ?_
  rintro e V ⟨v, ps, rfl, hf⟩
  obtain ⟨g, pc, kb, sb, rfl, hi, hj, hg⟩ := hf.imb (by omega)
  have HI : Hid _ := hi
  have HJ : Hid _ := hj
  have HN : Hid _ := hf.len
  have HL : Hid _ := hf.low
  have HG : Hid _ := hg
  clear hf CS hi hj hg
  go_wp2_with (refine wpList_fill rfl 28 (.tmp 3) (.tmp 9) rfl rfl (sndI w.heap.size (.slice (some ⟨g, 0, none⟩) 3 pc)) rfl 28 _ (by exact infoIm) (by rfl) (snd_one _ _ _ _) ?_)
  intro V1 e1 b1
  have hst := ru_begin HL.out HN.out HI.out HJ.out HG.out e1 b1
  clear e1 b1 HI HJ HN HL HG
  obtain ⟨W, hW⟩ : ∃ W, W = V1.alloc (.cells wantC 3) := ⟨_, rfl⟩
  rw [← hW] at hst
  have HW : Hid _ := hW
  have ST : Hid _ := hst
  have c9 : W.cell? ⟨V.heap.size, 9, none⟩ = some (.slice (some ⟨g, 0, none⟩) 3 pc) := (cells_of hst.box).1 9 _ rfl
  have c2 : W.cell? ⟨g, 20, none⟩ = some (.slice (some ⟨kb 1, 0, none⟩) 1 1) := (hst.ps.cell (q := 1) (c := 9) rfl rfl).1
  have k0 : W.cell? ⟨kb 1, 0, none⟩ = some (.int .u32 56) := (hst.ps.atK (q := 1) (m := 0) (c := 0) rfl rfl rfl).1
  have k1 : W.cell? ⟨kb 1, 1, none⟩ = some (.int .u32 72) := (hst.ps.atK (q := 1) (m := 0) (c := 1) rfl rfl rfl).1
  have k2 : W.cell? ⟨kb 1, 2, none⟩ = some (.bool false) := (hst.ps.atK (q := 1) (m := 0) (c := 2) rfl rfl rfl).1
  have k3 : W.cell? ⟨kb 1, 3, none⟩ = some (.bool false) := (hst.ps.atK (q := 1) (m := 0) (c := 3) rfl rfl rfl).1
  have f0 : W.frozen? ⟨kb 1, 0, none⟩ = false := (hst.ps.atK (q := 1) (m := 0) (c := 0) rfl rfl rfl).2
  have f1 : W.frozen? ⟨kb 1, 1, none⟩ = false := (hst.ps.atK (q := 1) (m := 0) (c := 1) rfl rfl rfl).2
  have f2 : W.frozen? ⟨kb 1, 2, none⟩ = false := (hst.ps.atK (q := 1) (m := 0) (c := 2) rfl rfl rfl).2
  have f3 : W.frozen? ⟨kb 1, 3, none⟩ = false := (hst.ps.atK (q := 1) (m := 0) (c := 3) rfl rfl rfl).2
  clear hst hW
  generalize V.heap.size = B at *
  go_wp2_with (refine wp_world HW.out ?_)
  have m0 := ST.out.m
  have m1 := m0.setK (q := 1) (m := 0) (c := 0) ⟨196, 72, false, false⟩ (ruIm w g pc [sndP 0 (kb 0) (sb 0), ⟨sndN 1, ⟨260, 280, true, false⟩, ⟨280, 320, false, true⟩, some ⟨kb 1, 0, none⟩, 1, 1, some ⟨sb 1, 0, none⟩, 2, 2, [⟨196, 72, false, false⟩], [(⟨#[120]⟩, 280), (⟨#[121]⟩, 316)]⟩, sndP 2 (kb 2) (sb 2)]) (.int .u32 196) rfl rfl (by omega) rfl rfl rfl rfl
  have m2 := m1.setK (q := 1) (m := 0) (c := 1) ⟨196, 212, false, false⟩ (ruIm w g pc [sndP 0 (kb 0) (sb 0), ⟨sndN 1, ⟨260, 280, true, false⟩, ⟨280, 320, false, true⟩, some ⟨kb 1, 0, none⟩, 1, 1, some ⟨sb 1, 0, none⟩, 2, 2, [⟨196, 212, false, false⟩], [(⟨#[120]⟩, 280), (⟨#[121]⟩, 316)]⟩, sndP 2 (kb 2) (sb 2)]) (.int .u32 212) rfl rfl (by omega) rfl rfl rfl rfl
  have m3 := m2.setK (q := 1) (m := 0) (c := 2) ⟨196, 212, false, false⟩ (ruIm w g pc [sndP 0 (kb 0) (sb 0), ⟨sndN 1, ⟨260, 280, true, false⟩, ⟨280, 320, false, true⟩, some ⟨kb 1, 0, none⟩, 1, 1, some ⟨sb 1, 0, none⟩, 2, 2, [⟨196, 212, false, false⟩], [(⟨#[120]⟩, 280), (⟨#[121]⟩, 316)]⟩, sndP 2 (kb 2) (sb 2)]) (.bool false) rfl rfl (by omega) rfl rfl rfl rfl
  have m := m3.setK (q := 1) (m := 0) (c := 3) ⟨196, 212, false, false⟩ (ruIm w g pc [sndP 0 (kb 0) (sb 0), ⟨sndN 1, ⟨260, 280, true, false⟩, ⟨280, 320, false, true⟩, some ⟨kb 1, 0, none⟩, 1, 1, some ⟨sb 1, 0, none⟩, 2, 2, [⟨196, 212, false, false⟩], [(⟨#[120]⟩, 280), (⟨#[121]⟩, 316)]⟩, sndP 2 (kb 2) (sb 2)]) (.bool false) rfl rfl (by omega) rfl rfl rfl rfl
  have E : Hid (RuEnd w (((((W).setCell ⟨kb 1, 0, none⟩ (.int .u32 196)).setCell ⟨kb 1, 1, none⟩ (.int .u32 212)).setCell ⟨kb 1, 2, none⟩ (.bool false)).setCell ⟨kb 1, 3, none⟩ (.bool false)) B V1.heap.size (ruIm w g pc [sndP 0 (kb 0) (sb 0), ⟨sndN 1, ⟨260, 280, true, false⟩, ⟨280, 320, false, true⟩, some ⟨kb 1, 0, none⟩, 1, 1, some ⟨sb 1, 0, none⟩, 2, 2, [⟨196, 212, false, false⟩], [(⟨#[120]⟩, 280), (⟨#[121]⟩, 316)]⟩, sndP 2 (kb 2) (sb 2)])) := m.fin
  have hJ1 : imB (ruIm w g pc [sndP 0 (kb 0) (sb 0), ⟨sndN 1, ⟨260, 280, true, false⟩, ⟨280, 320, false, true⟩, some ⟨kb 1, 0, none⟩, 1, 1, some ⟨sb 1, 0, none⟩, 2, 2, [⟨196, 212, false, false⟩], [(⟨#[120]⟩, 280), (⟨#[121]⟩, 316)]⟩, sndP 2 (kb 2) (sb 2)]) = true := by kernel_rfl
  have hJ2 : checkV (ruIm w g pc [sndP 0 (kb 0) (sb 0), ⟨sndN 1, ⟨260, 280, true, false⟩, ⟨280, 320, false, true⟩, some ⟨kb 1, 0, none⟩, 1, 1, some ⟨sb 1, 0, none⟩, 2, 2, [⟨196, 212, false, false⟩], [(⟨#[120]⟩, 280), (⟨#[121]⟩, 316)]⟩, sndP 2 (kb 2) (sb 2)]) = 6 := by kernel_rfl
  generalize ((((W).setCell ⟨kb 1, 0, none⟩ (.int .u32 196)).setCell ⟨kb 1, 1, none⟩ (.int .u32 212)).setCell ⟨kb 1, 2, none⟩ (.bool false)).setCell ⟨kb 1, 3, none⟩ (.bool false) = V2 at *
  generalize (ruIm w g pc [sndP 0 (kb 0) (sb 0), ⟨sndN 1, ⟨260, 280, true, false⟩, ⟨280, 320, false, true⟩, some ⟨kb 1, 0, none⟩, 1, 1, some ⟨sb 1, 0, none⟩, 2, 2, [⟨196, 212, false, false⟩], [(⟨#[120]⟩, 280), (⟨#[121]⟩, 316)]⟩, sndP 2 (kb 2) (sb 2)]) = J at *
  generalize V1.heap.size = D at *
  have wk : V2.cell? ⟨D, 17, none⟩ = some (.int .i64 6) := (cells_of E.out.wnt).1 17 _ rfl
  have wr := cell_regrown wk
  obtain ⟨pb, po, hpp⟩ := E.out.ps
  have HP : Hid _ := hpp
  clear wk hpp
  refine wp_region_quiet_below hm (by kernel_rfl) ?_
  refine wpQuiet_load (.agg J.cells) (by rfl) (im_load E.out.box (.tmp 3) rfl (by rfl)) ?_
  repeat (quiet_step (first | exact checkIn HP.out hJ1 _ hJ2 _ _ | exact awakeIn _ _ _))
  refine wpQuiet_nil ?_
  intro _ hw'
  obtain ⟨⟨dq, osq⟩, hw''⟩ := hw'
  subst hw''
  go_wp2
  go_ret
  exact ⟨rfl, E.out.low.trans ((below_regrown _ dq osq).mono E.out.low.size)⟩
set_option maxRecDepth 100000 in
set_option maxHeartbeats 4000000 in
theorem rule1 (a0 : Int) (hk : (wrap64 a0).tmod 26 = 1) (w : World) : Calls Try.prog 5 #[.int .u8 a0] w fun e w' => e = .returned (.bool true) ∧ Below w.heap.size w w' := by
  have CS : Hid _ := iSound 3 (by omega)
  have hm : Try.prog.follows .mixedOrders = true := by kernel_rfl
  go_enter Try.func5, Try.ntmps5
  go_wp2_with fail
  refine Calls.mono (CS.out _) ?_
  rintro e V ⟨v, ps, rfl, hf⟩
  obtain ⟨g, pc, kb, sb, rfl, hi, hj, hg⟩ := hf.imb (by omega)
  have HI : Hid _ := hi
  have HJ : Hid _ := hj
  have HN : Hid _ := hf.len
  have HL : Hid _ := hf.low
  have HG : Hid _ := hg
  clear hf CS hi hj hg
  go_wp2_with (refine wpList_fill rfl 28 (.tmp 3) (.tmp 9) rfl rfl (sndI w.heap.size (.slice (some ⟨g, 0, none⟩) 3 pc)) rfl 28 _ (by exact infoIm) (by rfl) (snd_one _ _ _ _) ?_)
  intro V1 e1 b1
  have hst := ru_begin HL.out HN.out HI.out HJ.out HG.out e1 b1
  clear e1 b1 HI HJ HN HL HG
  obtain ⟨W, hW⟩ : ∃ W, W = V1.alloc (.cells wantC 3) := ⟨_, rfl⟩
  rw [← hW] at hst
  have HW : Hid _ := hW
  have ST : Hid _ := hst
  have c9 : W.cell? ⟨V.heap.size, 9, none⟩ = some (.slice (some ⟨g, 0, none⟩) 3 pc) := (cells_of hst.box).1 9 _ rfl
  have hmk := made65537
  have c1 : (W.alloc (.cells (madeCells #[.int .u32 0] 65537) 23)).cell? ⟨V.heap.size, 0, none⟩ = some (.slice (some ⟨w.heap.size + 1, 0, none⟩) 200 200) := (cells_of (kept_on hst.box ((Below.refl _ _).alloc (Nat.le_refl _) _))).1 0 _ rfl
  have f1 : (W.alloc (.cells (madeCells #[.int .u32 0] 65537) 23)).frozen? ⟨V.heap.size, 0, none⟩ = false := (cells_of (kept_on hst.box ((Below.refl _ _).alloc (Nat.le_refl _) _))).2.1 0
  clear hst hW
  generalize V.heap.size = B at *
  go_wp2_with (refine wp_world HW.out ?_)
  have m0 := ST.out.m
  have m1 := m0.below (V' := W.alloc (.cells (madeCells #[.int .u32 0] 65537) 23)) ((Below.refl _ _).alloc (Nat.le_refl _) _)
  have m := m1.setB (c := 0) (⟨some ⟨W.heap.size, 0, none⟩, 65537, 65537, ⟨0, 40, false, false⟩, ⟨40, 200, false, false⟩, some ⟨g, 0, none⟩, pc, [sndP 0 (kb 0) (sb 0), sndP 1 (kb 1) (sb 1), sndP 2 (kb 2) (sb 2)]⟩ : Im) (.slice (some ⟨W.heap.size, 0, none⟩) 65537 65537) rfl rfl rfl
  have E : Hid (RuEnd w ((W.alloc (.cells (madeCells #[.int .u32 0] 65537) 23)).setCell ⟨B, 0, none⟩ (.slice (some ⟨W.heap.size, 0, none⟩) 65537 65537)) B V1.heap.size ((⟨some ⟨W.heap.size, 0, none⟩, 65537, 65537, ⟨0, 40, false, false⟩, ⟨40, 200, false, false⟩, some ⟨g, 0, none⟩, pc, [sndP 0 (kb 0) (sb 0), sndP 1 (kb 1) (sb 1), sndP 2 (kb 2) (sb 2)]⟩ : Im))) := m.fin
  have hJ1 : imB ((⟨some ⟨W.heap.size, 0, none⟩, 65537, 65537, ⟨0, 40, false, false⟩, ⟨40, 200, false, false⟩, some ⟨g, 0, none⟩, pc, [sndP 0 (kb 0) (sb 0), sndP 1 (kb 1) (sb 1), sndP 2 (kb 2) (sb 2)]⟩ : Im)) = true := by kernel_rfl
  have hJ2 : checkV ((⟨some ⟨W.heap.size, 0, none⟩, 65537, 65537, ⟨0, 40, false, false⟩, ⟨40, 200, false, false⟩, some ⟨g, 0, none⟩, pc, [sndP 0 (kb 0) (sb 0), sndP 1 (kb 1) (sb 1), sndP 2 (kb 2) (sb 2)]⟩ : Im)) = 1 := by kernel_rfl
  generalize (W.alloc (.cells (madeCells #[.int .u32 0] 65537) 23)).setCell ⟨B, 0, none⟩ (.slice (some ⟨W.heap.size, 0, none⟩) 65537 65537) = V2 at *
  generalize ((⟨some ⟨W.heap.size, 0, none⟩, 65537, 65537, ⟨0, 40, false, false⟩, ⟨40, 200, false, false⟩, some ⟨g, 0, none⟩, pc, [sndP 0 (kb 0) (sb 0), sndP 1 (kb 1) (sb 1), sndP 2 (kb 2) (sb 2)]⟩ : Im)) = J at *
  generalize V1.heap.size = D at *
  have wk : V2.cell? ⟨D, 1, none⟩ = some (.int .i64 1) := (cells_of E.out.wnt).1 1 _ rfl
  have wr := cell_regrown wk
  obtain ⟨pb, po, hpp⟩ := E.out.ps
  have HP : Hid _ := hpp
  clear wk hpp
  refine wp_region_quiet_below hm (by kernel_rfl) ?_
  refine wpQuiet_load (.agg J.cells) (by rfl) (im_load E.out.box (.tmp 3) rfl (by rfl)) ?_
  repeat (quiet_step (first | exact checkIn HP.out hJ1 _ hJ2 _ _ | exact awakeIn _ _ _))
  refine wpQuiet_nil ?_
  intro _ hw'
  obtain ⟨⟨dq, osq⟩, hw''⟩ := hw'
  subst hw''
  go_wp2
  go_ret
  exact ⟨rfl, E.out.low.trans ((below_regrown _ dq osq).mono E.out.low.size)⟩
set_option maxRecDepth 100000 in
set_option maxHeartbeats 4000000 in
theorem rule20 (a0 : Int) (hk : (wrap64 a0).tmod 26 = 20) (w : World) : Calls Try.prog 5 #[.int .u8 a0] w fun e w' => e = .returned (.bool true) ∧ Below w.heap.size w w' := by
  have CS : Hid _ := iSound 3 (by omega)
  have hm : Try.prog.follows .mixedOrders = true := by kernel_rfl
  go_enter Try.func5, Try.ntmps5
  go_wp2_with fail
  refine Calls.mono (CS.out _) ?_
  rintro e V ⟨v, ps, rfl, hf⟩
  obtain ⟨g, pc, kb, sb, rfl, hi, hj, hg⟩ := hf.imb (by omega)
  have HI : Hid _ := hi
  have HJ : Hid _ := hj
  have HN : Hid _ := hf.len
  have HL : Hid _ := hf.low
  have HG : Hid _ := hg
  clear hf CS hi hj hg
  go_wp2_with (refine wpList_fill rfl 28 (.tmp 3) (.tmp 9) rfl rfl (sndI w.heap.size (.slice (some ⟨g, 0, none⟩) 3 pc)) rfl 28 _ (by exact infoIm) (by rfl) (snd_one _ _ _ _) ?_)
  intro V1 e1 b1
  have hst := ru_begin HL.out HN.out HI.out HJ.out HG.out e1 b1
  clear e1 b1 HI HJ HN HL HG
  obtain ⟨W, hW⟩ : ∃ W, W = V1.alloc (.cells wantC 3) := ⟨_, rfl⟩
  rw [← hW] at hst
  have HW : Hid _ := hW
  have ST : Hid _ := hst
  have c9 : W.cell? ⟨V.heap.size, 9, none⟩ = some (.slice (some ⟨g, 0, none⟩) 3 pc) := (cells_of hst.box).1 9 _ rfl
  have c2 : W.cell? ⟨g, 21, none⟩ = some (.slice (some ⟨sb 1, 0, none⟩) 2 2) := (hst.ps.cell (q := 1) (c := 10) rfl rfl).1
  have c3 : W.cell? ⟨g, 17, none⟩ = some (.int .u32 320) := (hst.ps.cell (q := 1) (c := 6) rfl rfl).1
  have c4 : W.cell? ⟨g, 16, none⟩ = some (.int .u32 280) := (hst.ps.cell (q := 1) (c := 5) rfl rfl).1
  have c1 : W.cell? ⟨sb 1, 3, none⟩ = some (.int .u32 316) := (hst.ps.atS (q := 1) (m := 1) (c := 1) rfl rfl rfl).1
  have f1 : W.frozen? ⟨sb 1, 3, none⟩ = false := (hst.ps.atS (q := 1) (m := 1) (c := 1) rfl rfl rfl).2
  clear hst hW
  generalize V.heap.size = B at *
  go_wp2_with (refine wp_world HW.out ?_)
  refine wp_region_still_tail 11 hm (by kernel_rfl) ?_
  simp only [List.take_succ_cons, List.take_zero, List.drop_succ_cons, List.drop_zero]
  still_step
  still_step
  still_step
  still_step
  still_step
  still_step
  still_step
  still_step
  still_step
  still_step
  still_step
  refine wpStill_nil ?_
  go_wp2_with fail
  have m0 := ST.out.m
  have m1 := m0.setS (q := 1) (m := 1) (c := 1) (⟨#[121]⟩, 320) (ruIm w g pc [sndP 0 (kb 0) (sb 0), ⟨sndN 1, ⟨260, 280, true, false⟩, ⟨280, 320, false, true⟩, some ⟨kb 1, 0, none⟩, 1, 1, some ⟨sb 1, 0, none⟩, 2, 2, [⟨56, 72, false, false⟩], [(⟨#[120]⟩, 280), (⟨#[121]⟩, 320)]⟩, sndP 2 (kb 2) (sb 2)]) (.int .u32 320) rfl rfl (by omega) rfl rfl rfl rfl
  have m := m1.kept (V' := (W.setCell ⟨sb 1, 3, none⟩ (.int .u32 320)).drew) ⟨m1.low.os, m1.low.tape, m1.low.output, m1.low.size, m1.low.block⟩ (fun _ _ e => e)
  have E : Hid (RuEnd w ((W.setCell ⟨sb 1, 3, none⟩ (.int .u32 320)).drew) B V1.heap.size (ruIm w g pc [sndP 0 (kb 0) (sb 0), ⟨sndN 1, ⟨260, 280, true, false⟩, ⟨280, 320, false, true⟩, some ⟨kb 1, 0, none⟩, 1, 1, some ⟨sb 1, 0, none⟩, 2, 2, [⟨56, 72, false, false⟩], [(⟨#[120]⟩, 280), (⟨#[121]⟩, 320)]⟩, sndP 2 (kb 2) (sb 2)])) := m.fin
  have hJ1 : imB (ruIm w g pc [sndP 0 (kb 0) (sb 0), ⟨sndN 1, ⟨260, 280, true, false⟩, ⟨280, 320, false, true⟩, some ⟨kb 1, 0, none⟩, 1, 1, some ⟨sb 1, 0, none⟩, 2, 2, [⟨56, 72, false, false⟩], [(⟨#[120]⟩, 280), (⟨#[121]⟩, 320)]⟩, sndP 2 (kb 2) (sb 2)]) = true := by kernel_rfl
  have hJ2 : checkV (ruIm w g pc [sndP 0 (kb 0) (sb 0), ⟨sndN 1, ⟨260, 280, true, false⟩, ⟨280, 320, false, true⟩, some ⟨kb 1, 0, none⟩, 1, 1, some ⟨sb 1, 0, none⟩, 2, 2, [⟨56, 72, false, false⟩], [(⟨#[120]⟩, 280), (⟨#[121]⟩, 320)]⟩, sndP 2 (kb 2) (sb 2)]) = 7 := by kernel_rfl
  generalize (W.setCell ⟨sb 1, 3, none⟩ (.int .u32 320)).drew = V2 at *
  generalize (ruIm w g pc [sndP 0 (kb 0) (sb 0), ⟨sndN 1, ⟨260, 280, true, false⟩, ⟨280, 320, false, true⟩, some ⟨kb 1, 0, none⟩, 1, 1, some ⟨sb 1, 0, none⟩, 2, 2, [⟨56, 72, false, false⟩], [(⟨#[120]⟩, 280), (⟨#[121]⟩, 320)]⟩, sndP 2 (kb 2) (sb 2)]) = J at *
  generalize V1.heap.size = D at *
  have wk : V2.cell? ⟨D, 20, none⟩ = some (.int .i64 7) := (cells_of E.out.wnt).1 20 _ rfl
  have wr := cell_regrown wk
  obtain ⟨pb, po, hpp⟩ := E.out.ps
  have HP : Hid _ := hpp
  clear wk hpp
  refine wp_region_quiet_below hm (by kernel_rfl) ?_
  refine wpQuiet_load (.agg J.cells) (by rfl) (im_load E.out.box (.tmp 3) rfl (by rfl)) ?_
  repeat (quiet_step (first | exact checkIn HP.out hJ1 _ hJ2 _ _ | exact awakeIn _ _ _))
  refine wpQuiet_nil ?_
  intro _ hw'
  obtain ⟨⟨dq, osq⟩, hw''⟩ := hw'
  subst hw''
  go_wp2
  go_ret
  exact ⟨rfl, E.out.low.trans ((below_regrown _ dq osq).mono E.out.low.size)⟩
set_option maxRecDepth 100000 in
set_option maxHeartbeats 4000000 in
theorem rule21 (a0 : Int) (hk : (wrap64 a0).tmod 26 = 21) (w : World) : Calls Try.prog 5 #[.int .u8 a0] w fun e w' => e = .returned (.bool true) ∧ Below w.heap.size w w' := by
  have CS : Hid _ := iSound 3 (by omega)
  have hm : Try.prog.follows .mixedOrders = true := by kernel_rfl
  go_enter Try.func5, Try.ntmps5
  go_wp2_with fail
  refine Calls.mono (CS.out _) ?_
  rintro e V ⟨v, ps, rfl, hf⟩
  obtain ⟨g, pc, kb, sb, rfl, hi, hj, hg⟩ := hf.imb (by omega)
  have HI : Hid _ := hi
  have HJ : Hid _ := hj
  have HN : Hid _ := hf.len
  have HL : Hid _ := hf.low
  have HG : Hid _ := hg
  clear hf CS hi hj hg
  go_wp2_with (refine wpList_fill rfl 28 (.tmp 3) (.tmp 9) rfl rfl (sndI w.heap.size (.slice (some ⟨g, 0, none⟩) 3 pc)) rfl 28 _ (by exact infoIm) (by rfl) (snd_one _ _ _ _) ?_)
  intro V1 e1 b1
  have hst := ru_begin HL.out HN.out HI.out HJ.out HG.out e1 b1
  clear e1 b1 HI HJ HN HL HG
  obtain ⟨W, hW⟩ : ∃ W, W = V1.alloc (.cells wantC 3) := ⟨_, rfl⟩
  rw [← hW] at hst
  have HW : Hid _ := hW
  have ST : Hid _ := hst
  have c9 : W.cell? ⟨V.heap.size, 9, none⟩ = some (.slice (some ⟨g, 0, none⟩) 3 pc) := (cells_of hst.box).1 9 _ rfl
  have c2 : W.cell? ⟨g, 21, none⟩ = some (.slice (some ⟨sb 1, 0, none⟩) 2 2) := (hst.ps.cell (q := 1) (c := 10) rfl rfl).1
  have c3 : W.cell? ⟨g, 17, none⟩ = some (.int .u32 320) := (hst.ps.cell (q := 1) (c := 6) rfl rfl).1
  have c4 : W.cell? ⟨g, 16, none⟩ = some (.int .u32 280) := (hst.ps.cell (q := 1) (c := 5) rfl rfl).1
  have c1 : W.cell? ⟨sb 1, 3, none⟩ = some (.int .u32 316) := (hst.ps.atS (q := 1) (m := 1) (c := 1) rfl rfl rfl).1
  have f1 : W.frozen? ⟨sb 1, 3, none⟩ = false := (hst.ps.atS (q := 1) (m := 1) (c := 1) rfl rfl rfl).2
  clear hst hW
  generalize V.heap.size = B at *
  go_wp2_with (refine wp_world HW.out ?_)
  refine wp_region_still_tail 12 hm (by kernel_rfl) ?_
  simp only [List.take_succ_cons, List.take_zero, List.drop_succ_cons, List.drop_zero]
  still_step
  still_step
  still_step
  still_step
  still_step
  still_step
  still_step
  still_step
  still_step
  still_step
  still_step
  still_step
  refine wpStill_nil ?_
  go_wp2_with fail
  have m0 := ST.out.m
  have m1 := m0.setS (q := 1) (m := 1) (c := 1) (⟨#[121]⟩, 282) (ruIm w g pc [sndP 0 (kb 0) (sb 0), ⟨sndN 1, ⟨260, 280, true, false⟩, ⟨280, 320, false, true⟩, some ⟨kb 1, 0, none⟩, 1, 1, some ⟨sb 1, 0, none⟩, 2, 2, [⟨56, 72, false, false⟩], [(⟨#[120]⟩, 280), (⟨#[121]⟩, 282)]⟩, sndP 2 (kb 2) (sb 2)]) (.int .u32 282) rfl rfl (by omega) rfl rfl rfl rfl
  have m := m1.kept (V' := (W.setCell ⟨sb 1, 3, none⟩ (.int .u32 282)).drew) ⟨m1.low.os, m1.low.tape, m1.low.output, m1.low.size, m1.low.block⟩ (fun _ _ e => e)
  have E : Hid (RuEnd w ((W.setCell ⟨sb 1, 3, none⟩ (.int .u32 282)).drew) B V1.heap.size (ruIm w g pc [sndP 0 (kb 0) (sb 0), ⟨sndN 1, ⟨260, 280, true, false⟩, ⟨280, 320, false, true⟩, some ⟨kb 1, 0, none⟩, 1, 1, some ⟨sb 1, 0, none⟩, 2, 2, [⟨56, 72, false, false⟩], [(⟨#[120]⟩, 280), (⟨#[121]⟩, 282)]⟩, sndP 2 (kb 2) (sb 2)])) := m.fin
  have hJ1 : imB (ruIm w g pc [sndP 0 (kb 0) (sb 0), ⟨sndN 1, ⟨260, 280, true, false⟩, ⟨280, 320, false, true⟩, some ⟨kb 1, 0, none⟩, 1, 1, some ⟨sb 1, 0, none⟩, 2, 2, [⟨56, 72, false, false⟩], [(⟨#[120]⟩, 280), (⟨#[121]⟩, 282)]⟩, sndP 2 (kb 2) (sb 2)]) = true := by kernel_rfl
  have hJ2 : checkV (ruIm w g pc [sndP 0 (kb 0) (sb 0), ⟨sndN 1, ⟨260, 280, true, false⟩, ⟨280, 320, false, true⟩, some ⟨kb 1, 0, none⟩, 1, 1, some ⟨sb 1, 0, none⟩, 2, 2, [⟨56, 72, false, false⟩], [(⟨#[120]⟩, 280), (⟨#[121]⟩, 282)]⟩, sndP 2 (kb 2) (sb 2)]) = 7 := by kernel_rfl
  generalize (W.setCell ⟨sb 1, 3, none⟩ (.int .u32 282)).drew = V2 at *
  generalize (ruIm w g pc [sndP 0 (kb 0) (sb 0), ⟨sndN 1, ⟨260, 280, true, false⟩, ⟨280, 320, false, true⟩, some ⟨kb 1, 0, none⟩, 1, 1, some ⟨sb 1, 0, none⟩, 2, 2, [⟨56, 72, false, false⟩], [(⟨#[120]⟩, 280), (⟨#[121]⟩, 282)]⟩, sndP 2 (kb 2) (sb 2)]) = J at *
  generalize V1.heap.size = D at *
  have wk : V2.cell? ⟨D, 21, none⟩ = some (.int .i64 7) := (cells_of E.out.wnt).1 21 _ rfl
  have wr := cell_regrown wk
  obtain ⟨pb, po, hpp⟩ := E.out.ps
  have HP : Hid _ := hpp
  clear wk hpp
  refine wp_region_quiet_below hm (by kernel_rfl) ?_
  refine wpQuiet_load (.agg J.cells) (by rfl) (im_load E.out.box (.tmp 3) rfl (by rfl)) ?_
  repeat (quiet_step (first | exact checkIn HP.out hJ1 _ hJ2 _ _ | exact awakeIn _ _ _))
  refine wpQuiet_nil ?_
  intro _ hw'
  obtain ⟨⟨dq, osq⟩, hw''⟩ := hw'
  subst hw''
  go_wp2
  go_ret
  exact ⟨rfl, E.out.low.trans ((below_regrown _ dq osq).mono E.out.low.size)⟩
end Go.Proofs.Ytfjppgfnjjmkpaa
