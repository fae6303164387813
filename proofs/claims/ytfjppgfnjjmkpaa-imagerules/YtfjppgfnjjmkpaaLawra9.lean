/-
  ImageRules, case by case (2, 3, 5, 9, 10).
-/
import Derived.Test.YtfjppgfnjjmkpaaImx
namespace Go.Proofs.Ytfjppgfnjjmkpaa
open Go.RowKit Go.Sort

set_option maxRecDepth 100000 in
set_option maxHeartbeats 4000000 in
theorem rule2 (a0 : Int) (hk : (wrap64 a0).tmod 26 = 2) (w : World) : Calls Try.prog 5 #[.int .u8 a0] w fun e w' => e = .returned (.bool true) ∧ Below w.heap.size w w' := by
  have CS : Hid _ := iSound 3 (by omega)
  have hm : Try.prog.follows .mixedOrders = true := by kernel_rfl
  go_enter Try.func5, Try.ntmps5
  go_wp2_with fail
  refine Calls.mono (CS.out _) ?_
  rintro e V ⟨v, ps, rfl, hf⟩
  obtain ⟨g, pc, kb, sb, rfl, hi, hj, hg⟩ := hf.imb (by omega)
  have HI : Hid _ := hi
  have HJ : Hid _ := hj
  have HN : Hid _ := hf.len
  have HL : Hid _ := hf.low
  have HG : Hid _ := hg
  clear hf CS hi hj hg
  go_wp2_with (refine wpList_fill rfl 28 (.tmp 3) (.tmp 9) rfl rfl (sndI w.heap.size (.slice (some ⟨g, 0, none⟩) 3 pc)) rfl 28 _ (by exact infoIm) (by rfl) (snd_one _ _ _ _) ?_)
  intro V1 e1 b1
  have hst := ru_begin HL.out HN.out HI.out HJ.out HG.out e1 b1
  clear e1 b1 HI HJ HN HL HG
  obtain ⟨W, hW⟩ : ∃ W, W = V1.alloc (.cells wantC 3) := ⟨_, rfl⟩
  rw [← hW] at hst
  have HW : Hid _ := hW
  have ST : Hid _ := hst
  have c9 : W.cell? ⟨V.heap.size, 9, none⟩ = some (.slice (some ⟨g, 0, none⟩) 3 pc) := (cells_of hst.box).1 9 _ rfl
  have c1 := (hst.ps.cell (q := 1) (c := 2) rfl rfl).1
  have f1 := (hst.ps.cell (q := 1) (c := 2) rfl rfl).2
  simp only [Nat.reduceMul, Nat.reduceAdd] at c1 f1
  clear hst hW
  generalize V.heap.size = B at *
  go_wp2_with (refine wp_world HW.out ?_)
  have E : Hid (RuEnd w (W.setCell ⟨g, 13, none⟩ (.int .u32 278)) B V1.heap.size (ruIm w g pc [sndP 0 (kb 0) (sb 0), ⟨sndN 1, ⟨260, 278, true, false⟩, ⟨280, 320, false, true⟩, some ⟨kb 1, 0, none⟩, 1, 1, some ⟨sb 1, 0, none⟩, 2, 2, [⟨56, 72, false, false⟩], [(⟨#[120]⟩, 280), (⟨#[121]⟩, 316)]⟩, sndP 2 (kb 2) (sb 2)])) := ST.out.endP (c := 2) (⟨sndN 1, ⟨260, 278, true, false⟩, ⟨280, 320, false, true⟩, some ⟨kb 1, 0, none⟩, 1, 1, some ⟨sb 1, 0, none⟩, 2, 2, [⟨56, 72, false, false⟩], [(⟨#[120]⟩, 280), (⟨#[121]⟩, 316)]⟩) (.int .u32 278) (by omega) rfl ⟨rfl, rfl, rfl⟩ ⟨rfl, fun _ => rfl, (ST.out.ps.key 1 _ rfl).blk⟩
  have hJ1 : imB (ruIm w g pc [sndP 0 (kb 0) (sb 0), ⟨sndN 1, ⟨260, 278, true, false⟩, ⟨280, 320, false, true⟩, some ⟨kb 1, 0, none⟩, 1, 1, some ⟨sb 1, 0, none⟩, 2, 2, [⟨56, 72, false, false⟩], [(⟨#[120]⟩, 280), (⟨#[121]⟩, 316)]⟩, sndP 2 (kb 2) (sb 2)]) = true := by kernel_rfl
  have hJ2 : checkV (ruIm w g pc [sndP 0 (kb 0) (sb 0), ⟨sndN 1, ⟨260, 278, true, false⟩, ⟨280, 320, false, true⟩, some ⟨kb 1, 0, none⟩, 1, 1, some ⟨sb 1, 0, none⟩, 2, 2, [⟨56, 72, false, false⟩], [(⟨#[120]⟩, 280), (⟨#[121]⟩, 316)]⟩, sndP 2 (kb 2) (sb 2)]) = 2 := by kernel_rfl
  generalize W.setCell ⟨g, 13, none⟩ (.int .u32 278) = V2 at *
  generalize (ruIm w g pc [sndP 0 (kb 0) (sb 0), ⟨sndN 1, ⟨260, 278, true, false⟩, ⟨280, 320, false, true⟩, some ⟨kb 1, 0, none⟩, 1, 1, some ⟨sb 1, 0, none⟩, 2, 2, [⟨56, 72, false, false⟩], [(⟨#[120]⟩, 280), (⟨#[121]⟩, 316)]⟩, sndP 2 (kb 2) (sb 2)]) = J at *
  generalize V1.heap.size = D at *
  have wk : V2.cell? ⟨D, 2, none⟩ = some (.int .i64 2) := (cells_of E.out.wnt).1 2 _ rfl
  have wr := cell_regrown wk
  obtain ⟨pb, po, hpp⟩ := E.out.ps
  have HP : Hid _ := hpp
  clear wk hpp
  refine wp_region_quiet_below hm (by kernel_rfl) ?_
  refine wpQuiet_load (.agg J.cells) (by rfl) (im_load E.out.box (.tmp 3) rfl (by rfl)) ?_
  repeat (quiet_step (first | exact checkIn HP.out hJ1 _ hJ2 _ _ | exact awakeIn _ _ _))
  refine wpQuiet_nil ?_
  intro _ hw'
  obtain ⟨⟨dq, osq⟩, hw''⟩ := hw'
  subst hw''
  go_wp2
  go_ret
  exact ⟨rfl, E.out.low.trans ((below_regrown _ dq osq).mono E.out.low.size)⟩
set_option maxRecDepth 100000 in
set_option maxHeartbeats 4000000 in
theorem rule3 (a0 : Int) (hk : (wrap64 a0).tmod 26 = 3) (w : World) : Calls Try.prog 5 #[.int .u8 a0] w fun e w' => e = .returned (.bool true) ∧ Below w.heap.size w w' := by
  have CS : Hid _ := iSound 3 (by omega)
  have hm : Try.prog.follows .mixedOrders = true := by kernel_rfl
  go_enter Try.func5, Try.ntmps5
  go_wp2_with fail
  refine Calls.mono (CS.out _) ?_
  rintro e V ⟨v, ps, rfl, hf⟩
  obtain ⟨g, pc, kb, sb, rfl, hi, hj, hg⟩ := hf.imb (by omega)
  have HI : Hid _ := hi
  have HJ : Hid _ := hj
  have HN : Hid _ := hf.len
  have HL : Hid _ := hf.low
  have HG : Hid _ := hg
  clear hf CS hi hj hg
  go_wp2_with (refine wpList_fill rfl 28 (.tmp 3) (.tmp 9) rfl rfl (sndI w.heap.size (.slice (some ⟨g, 0, none⟩) 3 pc)) rfl 28 _ (by exact infoIm) (by rfl) (snd_one _ _ _ _) ?_)
  intro V1 e1 b1
  have hst := ru_begin HL.out HN.out HI.out HJ.out HG.out e1 b1
  clear e1 b1 HI HJ HN HL HG
  obtain ⟨W, hW⟩ : ∃ W, W = V1.alloc (.cells wantC 3) := ⟨_, rfl⟩
  rw [← hW] at hst
  have HW : Hid _ := hW
  have ST : Hid _ := hst
  have c9 : W.cell? ⟨V.heap.size, 9, none⟩ = some (.slice (some ⟨g, 0, none⟩) 3 pc) := (cells_of hst.box).1 9 _ rfl
  have c1 := (hst.ps.cell (q := 1) (c := 5) rfl rfl).1
  have f1 := (hst.ps.cell (q := 1) (c := 5) rfl rfl).2
  simp only [Nat.reduceMul, Nat.reduceAdd] at c1 f1
  clear hst hW
  generalize V.heap.size = B at *
  go_wp2_with (refine wp_world HW.out ?_)
  have E : Hid (RuEnd w (W.setCell ⟨g, 16, none⟩ (.int .u32 324)) B V1.heap.size (ruIm w g pc [sndP 0 (kb 0) (sb 0), ⟨sndN 1, ⟨260, 280, true, false⟩, ⟨324, 320, false, true⟩, some ⟨kb 1, 0, none⟩, 1, 1, some ⟨sb 1, 0, none⟩, 2, 2, [⟨56, 72, false, false⟩], [(⟨#[120]⟩, 280), (⟨#[121]⟩, 316)]⟩, sndP 2 (kb 2) (sb 2)])) := ST.out.endP (c := 5) (⟨sndN 1, ⟨260, 280, true, false⟩, ⟨324, 320, false, true⟩, some ⟨kb 1, 0, none⟩, 1, 1, some ⟨sb 1, 0, none⟩, 2, 2, [⟨56, 72, false, false⟩], [(⟨#[120]⟩, 280), (⟨#[121]⟩, 316)]⟩) (.int .u32 324) (by omega) rfl ⟨rfl, rfl, rfl⟩ ⟨rfl, fun _ => rfl, (ST.out.ps.key 1 _ rfl).blk⟩
  have hJ1 : imB (ruIm w g pc [sndP 0 (kb 0) (sb 0), ⟨sndN 1, ⟨260, 280, true, false⟩, ⟨324, 320, false, true⟩, some ⟨kb 1, 0, none⟩, 1, 1, some ⟨sb 1, 0, none⟩, 2, 2, [⟨56, 72, false, false⟩], [(⟨#[120]⟩, 280), (⟨#[121]⟩, 316)]⟩, sndP 2 (kb 2) (sb 2)]) = true := by kernel_rfl
  have hJ2 : checkV (ruIm w g pc [sndP 0 (kb 0) (sb 0), ⟨sndN 1, ⟨260, 280, true, false⟩, ⟨324, 320, false, true⟩, some ⟨kb 1, 0, none⟩, 1, 1, some ⟨sb 1, 0, none⟩, 2, 2, [⟨56, 72, false, false⟩], [(⟨#[120]⟩, 280), (⟨#[121]⟩, 316)]⟩, sndP 2 (kb 2) (sb 2)]) = 2 := by kernel_rfl
  generalize W.setCell ⟨g, 16, none⟩ (.int .u32 324) = V2 at *
  generalize (ruIm w g pc [sndP 0 (kb 0) (sb 0), ⟨sndN 1, ⟨260, 280, true, false⟩, ⟨324, 320, false, true⟩, some ⟨kb 1, 0, none⟩, 1, 1, some ⟨sb 1, 0, none⟩, 2, 2, [⟨56, 72, false, false⟩], [(⟨#[120]⟩, 280), (⟨#[121]⟩, 316)]⟩, sndP 2 (kb 2) (sb 2)]) = J at *
  generalize V1.heap.size = D at *
  have wk : V2.cell? ⟨D, 3, none⟩ = some (.int .i64 2) := (cells_of E.out.wnt).1 3 _ rfl
  have wr := cell_regrown wk
  obtain ⟨pb, po, hpp⟩ := E.out.ps
  have HP : Hid _ := hpp
  clear wk hpp
  refine wp_region_quiet_below hm (by kernel_rfl) ?_
  refine wpQuiet_load (.agg J.cells) (by rfl) (im_load E.out.box (.tmp 3) rfl (by rfl)) ?_
  repeat (quiet_step (first | exact checkIn HP.out hJ1 _ hJ2 _ _ | exact awakeIn _ _ _))
  refine wpQuiet_nil ?_
  intro _ hw'
  obtain ⟨⟨dq, osq⟩, hw''⟩ := hw'
  subst hw''
  go_wp2
  go_ret
  exact ⟨rfl, E.out.low.trans ((below_regrown _ dq osq).mono E.out.low.size)⟩
set_option maxRecDepth 100000 in
set_option maxHeartbeats 4000000 in
theorem rule5 (a0 : Int) (hk : (wrap64 a0).tmod 26 = 5) (w : World) : Calls Try.prog 5 #[.int .u8 a0] w fun e w' => e = .returned (.bool true) ∧ Below w.heap.size w w' := by
  have CS : Hid _ := iSound 3 (by omega)
  have hm : Try.prog.follows .mixedOrders = true := by kernel_rfl
  go_enter Try.func5, Try.ntmps5
  go_wp2_with fail
  refine Calls.mono (CS.out _) ?_
  rintro e V ⟨v, ps, rfl, hf⟩
  obtain ⟨g, pc, kb, sb, rfl, hi, hj, hg⟩ := hf.imb (by omega)
  have HI : Hid _ := hi
  have HJ : Hid _ := hj
  have HN : Hid _ := hf.len
  have HL : Hid _ := hf.low
  have HG : Hid _ := hg
  clear hf CS hi hj hg
  go_wp2_with (refine wpList_fill rfl 28 (.tmp 3) (.tmp 9) rfl rfl (sndI w.heap.size (.slice (some ⟨g, 0, none⟩) 3 pc)) rfl 28 _ (by exact infoIm) (by rfl) (snd_one _ _ _ _) ?_)
  intro V1 e1 b1
  have hst := ru_begin HL.out HN.out HI.out HJ.out HG.out e1 b1
  clear e1 b1 HI HJ HN HL HG
  obtain ⟨W, hW⟩ : ∃ W, W = V1.alloc (.cells wantC 3) := ⟨_, rfl⟩
  rw [← hW] at hst
  have HW : Hid _ := hW
  have ST : Hid _ := hst
  have c9 : W.cell? ⟨V.heap.size, 9, none⟩ = some (.slice (some ⟨g, 0, none⟩) 3 pc) := (cells_of hst.box).1 9 _ rfl
  have c1 := (hst.ps.cell (q := 1) (c := 1) rfl rfl).1
  have f1 := (hst.ps.cell (q := 1) (c := 1) rfl rfl).2
  simp only [Nat.reduceMul, Nat.reduceAdd] at c1 f1
  clear hst hW
  generalize V.heap.size = B at *
  go_wp2_with (refine wp_world HW.out ?_)
  have E : Hid (RuEnd w (W.setCell ⟨g, 12, none⟩ (.int .u32 256)) B V1.heap.size (ruIm w g pc [sndP 0 (kb 0) (sb 0), ⟨sndN 1, ⟨256, 280, true, false⟩, ⟨280, 320, false, true⟩, some ⟨kb 1, 0, none⟩, 1, 1, some ⟨sb 1, 0, none⟩, 2, 2, [⟨56, 72, false, false⟩], [(⟨#[120]⟩, 280), (⟨#[121]⟩, 316)]⟩, sndP 2 (kb 2) (sb 2)])) := ST.out.endP (c := 1) (⟨sndN 1, ⟨256, 280, true, false⟩, ⟨280, 320, false, true⟩, some ⟨kb 1, 0, none⟩, 1, 1, some ⟨sb 1, 0, none⟩, 2, 2, [⟨56, 72, false, false⟩], [(⟨#[120]⟩, 280), (⟨#[121]⟩, 316)]⟩) (.int .u32 256) (by omega) rfl ⟨rfl, rfl, rfl⟩ ⟨rfl, fun _ => rfl, (ST.out.ps.key 1 _ rfl).blk⟩
  have hJ1 : imB (ruIm w g pc [sndP 0 (kb 0) (sb 0), ⟨sndN 1, ⟨256, 280, true, false⟩, ⟨280, 320, false, true⟩, some ⟨kb 1, 0, none⟩, 1, 1, some ⟨sb 1, 0, none⟩, 2, 2, [⟨56, 72, false, false⟩], [(⟨#[120]⟩, 280), (⟨#[121]⟩, 316)]⟩, sndP 2 (kb 2) (sb 2)]) = true := by kernel_rfl
  have hJ2 : checkV (ruIm w g pc [sndP 0 (kb 0) (sb 0), ⟨sndN 1, ⟨256, 280, true, false⟩, ⟨280, 320, false, true⟩, some ⟨kb 1, 0, none⟩, 1, 1, some ⟨sb 1, 0, none⟩, 2, 2, [⟨56, 72, false, false⟩], [(⟨#[120]⟩, 280), (⟨#[121]⟩, 316)]⟩, sndP 2 (kb 2) (sb 2)]) = 3 := by kernel_rfl
  generalize W.setCell ⟨g, 12, none⟩ (.int .u32 256) = V2 at *
  generalize (ruIm w g pc [sndP 0 (kb 0) (sb 0), ⟨sndN 1, ⟨256, 280, true, false⟩, ⟨280, 320, false, true⟩, some ⟨kb 1, 0, none⟩, 1, 1, some ⟨sb 1, 0, none⟩, 2, 2, [⟨56, 72, false, false⟩], [(⟨#[120]⟩, 280), (⟨#[121]⟩, 316)]⟩, sndP 2 (kb 2) (sb 2)]) = J at *
  generalize V1.heap.size = D at *
  have wk : V2.cell? ⟨D, 5, none⟩ = some (.int .i64 3) := (cells_of E.out.wnt).1 5 _ rfl
  have wr := cell_regrown wk
  obtain ⟨pb, po, hpp⟩ := E.out.ps
  have HP : Hid _ := hpp
  clear wk hpp
  refine wp_region_quiet_below hm (by kernel_rfl) ?_
  refine wpQuiet_load (.agg J.cells) (by rfl) (im_load E.out.box (.tmp 3) rfl (by rfl)) ?_
  repeat (quiet_step (first | exact checkIn HP.out hJ1 _ hJ2 _ _ | exact awakeIn _ _ _))
  refine wpQuiet_nil ?_
  intro _ hw'
  obtain ⟨⟨dq, osq⟩, hw''⟩ := hw'
  subst hw''
  go_wp2
  go_ret
  exact ⟨rfl, E.out.low.trans ((below_regrown _ dq osq).mono E.out.low.size)⟩
set_option maxRecDepth 100000 in
set_option maxHeartbeats 4000000 in
theorem rule9 (a0 : Int) (hk : (wrap64 a0).tmod 26 = 9) (w : World) : Calls Try.prog 5 #[.int .u8 a0] w fun e w' => e = .returned (.bool true) ∧ Below w.heap.size w w' := by
  have CS : Hid _ := iSound 3 (by omega)
  have hm : Try.prog.follows .mixedOrders = true := by kernel_rfl
  go_enter Try.func5, Try.ntmps5
  go_wp2_with fail
  refine Calls.mono (CS.out _) ?_
  rintro e V ⟨v, ps, rfl, hf⟩
  obtain ⟨g, pc, kb, sb, rfl, hi, hj, hg⟩ := hf.imb (by omega)
  have HI : Hid _ := hi
  have HJ : Hid _ := hj
  have HN : Hid _ := hf.len
  have HL : Hid _ := hf.low
  have HG : Hid _ := hg
  clear hf CS hi hj hg
  go_wp2_with (refine wpList_fill rfl 28 (.tmp 3) (.tmp 9) rfl rfl (sndI w.heap.size (.slice (some ⟨g, 0, none⟩) 3 pc)) rfl 28 _ (by exact infoIm) (by rfl) (snd_one _ _ _ _) ?_)
  intro V1 e1 b1
  have hst := ru_begin HL.out HN.out HI.out HJ.out HG.out e1 b1
  clear e1 b1 HI HJ HN HL HG
  obtain ⟨W, hW⟩ : ∃ W, W = V1.alloc (.cells wantC 3) := ⟨_, rfl⟩
  rw [← hW] at hst
  have HW : Hid _ := hW
  have ST : Hid _ := hst
  have c9 : W.cell? ⟨V.heap.size, 9, none⟩ = some (.slice (some ⟨g, 0, none⟩) 3 pc) := (cells_of hst.box).1 9 _ rfl
  have c1 := (hst.ps.cell (q := 1) (c := 4) rfl rfl).1
  have f1 := (hst.ps.cell (q := 1) (c := 4) rfl rfl).2
  simp only [Nat.reduceMul, Nat.reduceAdd] at c1 f1
  clear hst hW
  generalize V.heap.size = B at *
  go_wp2_with (refine wp_world HW.out ?_)
  have E : Hid (RuEnd w (W.setCell ⟨g, 15, none⟩ (.bool true)) B V1.heap.size (ruIm w g pc [sndP 0 (kb 0) (sb 0), ⟨sndN 1, ⟨260, 280, true, true⟩, ⟨280, 320, false, true⟩, some ⟨kb 1, 0, none⟩, 1, 1, some ⟨sb 1, 0, none⟩, 2, 2, [⟨56, 72, false, false⟩], [(⟨#[120]⟩, 280), (⟨#[121]⟩, 316)]⟩, sndP 2 (kb 2) (sb 2)])) := ST.out.endP (c := 4) (⟨sndN 1, ⟨260, 280, true, true⟩, ⟨280, 320, false, true⟩, some ⟨kb 1, 0, none⟩, 1, 1, some ⟨sb 1, 0, none⟩, 2, 2, [⟨56, 72, false, false⟩], [(⟨#[120]⟩, 280), (⟨#[121]⟩, 316)]⟩) (.bool true) (by omega) rfl ⟨rfl, rfl, rfl⟩ ⟨rfl, fun _ => rfl, (ST.out.ps.key 1 _ rfl).blk⟩
  have hJ1 : imB (ruIm w g pc [sndP 0 (kb 0) (sb 0), ⟨sndN 1, ⟨260, 280, true, true⟩, ⟨280, 320, false, true⟩, some ⟨kb 1, 0, none⟩, 1, 1, some ⟨sb 1, 0, none⟩, 2, 2, [⟨56, 72, false, false⟩], [(⟨#[120]⟩, 280), (⟨#[121]⟩, 316)]⟩, sndP 2 (kb 2) (sb 2)]) = true := by kernel_rfl
  have hJ2 : checkV (ruIm w g pc [sndP 0 (kb 0) (sb 0), ⟨sndN 1, ⟨260, 280, true, true⟩, ⟨280, 320, false, true⟩, some ⟨kb 1, 0, none⟩, 1, 1, some ⟨sb 1, 0, none⟩, 2, 2, [⟨56, 72, false, false⟩], [(⟨#[120]⟩, 280), (⟨#[121]⟩, 316)]⟩, sndP 2 (kb 2) (sb 2)]) = 4 := by kernel_rfl
  generalize W.setCell ⟨g, 15, none⟩ (.bool true) = V2 at *
  generalize (ruIm w g pc [sndP 0 (kb 0) (sb 0), ⟨sndN 1, ⟨260, 280, true, true⟩, ⟨280, 320, false, true⟩, some ⟨kb 1, 0, none⟩, 1, 1, some ⟨sb 1, 0, none⟩, 2, 2, [⟨56, 72, false, false⟩], [(⟨#[120]⟩, 280), (⟨#[121]⟩, 316)]⟩, sndP 2 (kb 2) (sb 2)]) = J at *
  generalize V1.heap.size = D at *
  have wk : V2.cell? ⟨D, 9, none⟩ = some (.int .i64 4) := (cells_of E.out.wnt).1 9 _ rfl
  have wr := cell_regrown wk
  obtain ⟨pb, po, hpp⟩ := E.out.ps
  have HP : Hid _ := hpp
  clear wk hpp
  refine wp_region_quiet_below hm (by kernel_rfl) ?_
  refine wpQuiet_load (.agg J.cells) (by rfl) (im_load E.out.box (.tmp 3) rfl (by rfl)) ?_
  repeat (quiet_step (first | exact checkIn HP.out hJ1 _ hJ2 _ _ | exact awakeIn _ _ _))
  refine wpQuiet_nil ?_
  intro _ hw'
  obtain ⟨⟨dq, osq⟩, hw''⟩ := hw'
  subst hw''
  go_wp2
  go_ret
  exact ⟨rfl, E.out.low.trans ((below_regrown _ dq osq).mono E.out.low.size)⟩
set_option maxRecDepth 100000 in
set_option maxHeartbeats 4000000 in
theorem rule10 (a0 : Int) (hk : (wrap64 a0).tmod 26 = 10) (w : World) : Calls Try.prog 5 #[.int .u8 a0] w fun e w' => e = .returned (.bool true) ∧ Below w.heap.size w w' := by
  have CS : Hid _ := iSound 3 (by omega)
  have hm : Try.prog.follows .mixedOrders = true := by kernel_rfl
  go_enter Try.func5, Try.ntmps5
  go_wp2_with fail
  refine Calls.mono (CS.out _) ?_
  rintro e V ⟨v, ps, rfl, hf⟩
  obtain ⟨g, pc, kb, sb, rfl, hi, hj, hg⟩ := hf.imb (by omega)
  have HI : Hid _ := hi
  have HJ : Hid _ := hj
  have HN : Hid _ := hf.len
  have HL : Hid _ := hf.low
  have HG : Hid _ := hg
  clear hf CS hi hj hg
  go_wp2_with (refine wpList_fill rfl 28 (.tmp 3) (.tmp 9) rfl rfl (sndI w.heap.size (.slice (some ⟨g, 0, none⟩) 3 pc)) rfl 28 _ (by exact infoIm) (by rfl) (snd_one _ _ _ _) ?_)
  intro V1 e1 b1
  have hst := ru_begin HL.out HN.out HI.out HJ.out HG.out e1 b1
  clear e1 b1 HI HJ HN HL HG
  obtain ⟨W, hW⟩ : ∃ W, W = V1.alloc (.cells wantC 3) := ⟨_, rfl⟩
  rw [← hW] at hst
  have HW : Hid _ := hW
  have ST : Hid _ := hst
  have c9 : W.cell? ⟨V.heap.size, 9, none⟩ = some (.slice (some ⟨g, 0, none⟩) 3 pc) := (cells_of hst.box).1 9 _ rfl
  have c1 := (hst.ps.cell (q := 1) (c := 8) rfl rfl).1
  have f1 := (hst.ps.cell (q := 1) (c := 8) rfl rfl).2
  simp only [Nat.reduceMul, Nat.reduceAdd] at c1 f1
  clear hst hW
  generalize V.heap.size = B at *
  go_wp2_with (refine wp_world HW.out ?_)
  have E : Hid (RuEnd w (W.setCell ⟨g, 19, none⟩ (.bool false)) B V1.heap.size (ruIm w g pc [sndP 0 (kb 0) (sb 0), ⟨sndN 1, ⟨260, 280, true, false⟩, ⟨280, 320, false, false⟩, some ⟨kb 1, 0, none⟩, 1, 1, some ⟨sb 1, 0, none⟩, 2, 2, [⟨56, 72, false, false⟩], [(⟨#[120]⟩, 280), (⟨#[121]⟩, 316)]⟩, sndP 2 (kb 2) (sb 2)])) := ST.out.endP (c := 8) (⟨sndN 1, ⟨260, 280, true, false⟩, ⟨280, 320, false, false⟩, some ⟨kb 1, 0, none⟩, 1, 1, some ⟨sb 1, 0, none⟩, 2, 2, [⟨56, 72, false, false⟩], [(⟨#[120]⟩, 280), (⟨#[121]⟩, 316)]⟩) (.bool false) (by omega) rfl ⟨rfl, rfl, rfl⟩ ⟨rfl, fun _ => rfl, (ST.out.ps.key 1 _ rfl).blk⟩
  have hJ1 : imB (ruIm w g pc [sndP 0 (kb 0) (sb 0), ⟨sndN 1, ⟨260, 280, true, false⟩, ⟨280, 320, false, false⟩, some ⟨kb 1, 0, none⟩, 1, 1, some ⟨sb 1, 0, none⟩, 2, 2, [⟨56, 72, false, false⟩], [(⟨#[120]⟩, 280), (⟨#[121]⟩, 316)]⟩, sndP 2 (kb 2) (sb 2)]) = true := by kernel_rfl
  have hJ2 : checkV (ruIm w g pc [sndP 0 (kb 0) (sb 0), ⟨sndN 1, ⟨260, 280, true, false⟩, ⟨280, 320, false, false⟩, some ⟨kb 1, 0, none⟩, 1, 1, some ⟨sb 1, 0, none⟩, 2, 2, [⟨56, 72, false, false⟩], [(⟨#[120]⟩, 280), (⟨#[121]⟩, 316)]⟩, sndP 2 (kb 2) (sb 2)]) = 4 := by kernel_rfl
  generalize W.setCell ⟨g, 19, none⟩ (.bool false) = V2 at *
  generalize (ruIm w g pc [sndP 0 (kb 0) (sb 0), ⟨sndN 1, ⟨260, 280, true, false⟩, ⟨280, 320, false, false⟩, some ⟨kb 1, 0, none⟩, 1, 1, some ⟨sb 1, 0, none⟩, 2, 2, [⟨56, 72, false, false⟩], [(⟨#[120]⟩, 280), (⟨#[121]⟩, 316)]⟩, sndP 2 (kb 2) (sb 2)]) = J at *
  generalize V1.heap.size = D at *
  have wk : V2.cell? ⟨D, 10, none⟩ = some (.int .i64 4) := (cells_of E.out.wnt).1 10 _ rfl
  have wr := cell_regrown wk
  obtain ⟨pb, po, hpp⟩ := E.out.ps
  have HP : Hid _ := hpp
  clear wk hpp
  refine wp_region_quiet_below hm (by kernel_rfl) ?_
  refine wpQuiet_load (.agg J.cells) (by rfl) (im_load E.out.box (.tmp 3) rfl (by rfl)) ?_
  repeat (quiet_step (first | exact checkIn HP.out hJ1 _ hJ2 _ _ | exact awakeIn _ _ _))
  refine wpQuiet_nil ?_
  intro _ hw'
  obtain ⟨⟨dq, osq⟩, hw''⟩ := hw'
  subst hw''
  go_wp2
  go_ret
  exact ⟨rfl, E.out.low.trans ((below_regrown _ dq osq).mono E.out.low.size)⟩
end Go.Proofs.Ytfjppgfnjjmkpaa
