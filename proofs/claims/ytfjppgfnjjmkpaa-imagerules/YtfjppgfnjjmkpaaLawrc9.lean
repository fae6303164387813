/-
  ImageRules, case by case (0, 4, 6, 7, 8, 11, 22).
-/
import Derived.Test.YtfjppgfnjjmkpaaImx
namespace Go.Proofs.Ytfjppgfnjjmkpaa
open Go.RowKit Go.Sort

set_option maxRecDepth 100000 in
set_option maxHeartbeats 4000000 in
theorem rule0 (a0 : Int) (hk : (wrap64 a0).tmod 26 = 0) (w : World) : Calls Try.prog 5 #[.int .u8 a0] w fun e w' => e = .returned (.bool true) ∧ Below w.heap.size w w' := by
  have CS : Hid _ := iSound 3 (by omega)
  have hm : Try.prog.follows .mixedOrders = true := by kernel_rfl
  go_enter Try.func5, Try.ntmps5
  go_wp2_with fail
  refine Calls.mono (CS.out _) ?_
  rintro e V ⟨v, ps, rfl, hf⟩
  obtain ⟨g, pc, kb, sb, rfl, hi, hj, hg⟩ := hf.imb (by omega)
  have HI : Hid _ := hi
  have HJ : Hid _ := hj
  have HN : Hid _ := hf.len
  have HL : Hid _ := hf.low
  have HG : Hid _ := hg
  clear hf CS hi hj hg
  go_wp2_with (refine wpList_fill rfl 28 (.tmp 3) (.tmp 9) rfl rfl (sndI w.heap.size (.slice (some ⟨g, 0, none⟩) 3 pc)) rfl 28 _ (by exact infoIm) (by rfl) (snd_one _ _ _ _) ?_)
  intro V1 e1 b1
  have hst := ru_begin HL.out HN.out HI.out HJ.out HG.out e1 b1
  clear e1 b1 HI HJ HN HL HG
  obtain ⟨W, hW⟩ : ∃ W, W = V1.alloc (.cells wantC 3) := ⟨_, rfl⟩
  rw [← hW] at hst
  have HW : Hid _ := hW
  have ST : Hid _ := hst
  have c9 : W.cell? ⟨V.heap.size, 9, none⟩ = some (.slice (some ⟨g, 0, none⟩) 3 pc) := (cells_of hst.box).1 9 _ rfl
  have c1 : W.cell? ⟨V.heap.size, 0, none⟩ = some (.slice (some ⟨w.heap.size + 1, 0, none⟩) 200 200) := (cells_of hst.box).1 0 _ rfl
  have f1 := (cells_of hst.box).2.1 0
  clear hst hW
  generalize V.heap.size = B at *
  go_wp2_with (refine wp_world HW.out ?_)
  have E : Hid (RuEnd w (W.setCell ⟨B, 0, none⟩ (.slice none 0 0)) B V1.heap.size ((⟨none, 0, 0, ⟨0, 40, false, false⟩, ⟨40, 200, false, false⟩, some ⟨g, 0, none⟩, pc, [sndP 0 (kb 0) (sb 0), sndP 1 (kb 1) (sb 1), sndP 2 (kb 2) (sb 2)]⟩ : Im))) := ST.out.endB (c := 0) ((⟨none, 0, 0, ⟨0, 40, false, false⟩, ⟨40, 200, false, false⟩, some ⟨g, 0, none⟩, pc, [sndP 0 (kb 0) (sb 0), sndP 1 (kb 1) (sb 1), sndP 2 (kb 2) (sb 2)]⟩ : Im)) (.slice none 0 0) rfl (.inr ⟨rfl, rfl⟩)
  have hJ1 : imB ((⟨none, 0, 0, ⟨0, 40, false, false⟩, ⟨40, 200, false, false⟩, some ⟨g, 0, none⟩, pc, [sndP 0 (kb 0) (sb 0), sndP 1 (kb 1) (sb 1), sndP 2 (kb 2) (sb 2)]⟩ : Im)) = true := by kernel_rfl
  have hJ2 : checkV ((⟨none, 0, 0, ⟨0, 40, false, false⟩, ⟨40, 200, false, false⟩, some ⟨g, 0, none⟩, pc, [sndP 0 (kb 0) (sb 0), sndP 1 (kb 1) (sb 1), sndP 2 (kb 2) (sb 2)]⟩ : Im)) = 1 := by kernel_rfl
  generalize W.setCell ⟨B, 0, none⟩ (.slice none 0 0) = V2 at *
  generalize ((⟨none, 0, 0, ⟨0, 40, false, false⟩, ⟨40, 200, false, false⟩, some ⟨g, 0, none⟩, pc, [sndP 0 (kb 0) (sb 0), sndP 1 (kb 1) (sb 1), sndP 2 (kb 2) (sb 2)]⟩ : Im)) = J at *
  generalize V1.heap.size = D at *
  have wk : V2.cell? ⟨D, 0, none⟩ = some (.int .i64 1) := (cells_of E.out.wnt).1 0 _ rfl
  have wr := cell_regrown wk
  obtain ⟨pb, po, hpp⟩ := E.out.ps
  have HP : Hid _ := hpp
  clear wk hpp
  refine wp_region_quiet_below hm (by kernel_rfl) ?_
  refine wpQuiet_load (.agg J.cells) (by rfl) (im_load E.out.box (.tmp 3) rfl (by rfl)) ?_
  repeat (quiet_step (first | exact checkIn HP.out hJ1 _ hJ2 _ _ | exact awakeIn _ _ _))
  refine wpQuiet_nil ?_
  intro _ hw'
  obtain ⟨⟨dq, osq⟩, hw''⟩ := hw'
  subst hw''
  go_wp2
  go_ret
  exact ⟨rfl, E.out.low.trans ((below_regrown _ dq osq).mono E.out.low.size)⟩
set_option maxRecDepth 100000 in
set_option maxHeartbeats 4000000 in
theorem rule4 (a0 : Int) (hk : (wrap64 a0).tmod 26 = 4) (w : World) : Calls Try.prog 5 #[.int .u8 a0] w fun e w' => e = .returned (.bool true) ∧ Below w.heap.size w w' := by
  have CS : Hid _ := iSound 3 (by omega)
  have hm : Try.prog.follows .mixedOrders = true := by kernel_rfl
  go_enter Try.func5, Try.ntmps5
  go_wp2_with fail
  refine Calls.mono (CS.out _) ?_
  rintro e V ⟨v, ps, rfl, hf⟩
  obtain ⟨g, pc, kb, sb, rfl, hi, hj, hg⟩ := hf.imb (by omega)
  have HI : Hid _ := hi
  have HJ : Hid _ := hj
  have HN : Hid _ := hf.len
  have HL : Hid _ := hf.low
  have HG : Hid _ := hg
  clear hf CS hi hj hg
  go_wp2_with (refine wpList_fill rfl 28 (.tmp 3) (.tmp 9) rfl rfl (sndI w.heap.size (.slice (some ⟨g, 0, none⟩) 3 pc)) rfl 28 _ (by exact infoIm) (by rfl) (snd_one _ _ _ _) ?_)
  intro V1 e1 b1
  have hst := ru_begin HL.out HN.out HI.out HJ.out HG.out e1 b1
  clear e1 b1 HI HJ HN HL HG
  obtain ⟨W, hW⟩ : ∃ W, W = V1.alloc (.cells wantC 3) := ⟨_, rfl⟩
  rw [← hW] at hst
  have HW : Hid _ := hW
  have ST : Hid _ := hst
  have c9 : W.cell? ⟨V.heap.size, 9, none⟩ = some (.slice (some ⟨g, 0, none⟩) 3 pc) := (cells_of hst.box).1 9 _ rfl
  have c1 : W.cell? ⟨V.heap.size, 0, none⟩ = some (.slice (some ⟨w.heap.size + 1, 0, none⟩) 200 200) := (cells_of hst.box).1 0 _ rfl
  have f1 := (cells_of hst.box).2.1 0
  clear hst hW
  generalize V.heap.size = B at *
  go_wp2_with (refine wp_world HW.out ?_)
  have E : Hid (RuEnd w (W.setCell ⟨B, 0, none⟩ (.slice (some ⟨w.heap.size + 1, 0, none⟩) 90 200)) B V1.heap.size ((⟨some ⟨w.heap.size + 1, 0, none⟩, 90, 200, ⟨0, 40, false, false⟩, ⟨40, 200, false, false⟩, some ⟨g, 0, none⟩, pc, [sndP 0 (kb 0) (sb 0), sndP 1 (kb 1) (sb 1), sndP 2 (kb 2) (sb 2)]⟩ : Im))) := ST.out.endB (c := 0) ((⟨some ⟨w.heap.size + 1, 0, none⟩, 90, 200, ⟨0, 40, false, false⟩, ⟨40, 200, false, false⟩, some ⟨g, 0, none⟩, pc, [sndP 0 (kb 0) (sb 0), sndP 1 (kb 1) (sb 1), sndP 2 (kb 2) (sb 2)]⟩ : Im)) (.slice (some ⟨w.heap.size + 1, 0, none⟩) 90 200) rfl (.inr ⟨rfl, rfl⟩)
  have hJ1 : imB ((⟨some ⟨w.heap.size + 1, 0, none⟩, 90, 200, ⟨0, 40, false, false⟩, ⟨40, 200, false, false⟩, some ⟨g, 0, none⟩, pc, [sndP 0 (kb 0) (sb 0), sndP 1 (kb 1) (sb 1), sndP 2 (kb 2) (sb 2)]⟩ : Im)) = true := by kernel_rfl
  have hJ2 : checkV ((⟨some ⟨w.heap.size + 1, 0, none⟩, 90, 200, ⟨0, 40, false, false⟩, ⟨40, 200, false, false⟩, some ⟨g, 0, none⟩, pc, [sndP 0 (kb 0) (sb 0), sndP 1 (kb 1) (sb 1), sndP 2 (kb 2) (sb 2)]⟩ : Im)) = 2 := by kernel_rfl
  generalize W.setCell ⟨B, 0, none⟩ (.slice (some ⟨w.heap.size + 1, 0, none⟩) 90 200) = V2 at *
  generalize ((⟨some ⟨w.heap.size + 1, 0, none⟩, 90, 200, ⟨0, 40, false, false⟩, ⟨40, 200, false, false⟩, some ⟨g, 0, none⟩, pc, [sndP 0 (kb 0) (sb 0), sndP 1 (kb 1) (sb 1), sndP 2 (kb 2) (sb 2)]⟩ : Im)) = J at *
  generalize V1.heap.size = D at *
  have wk : V2.cell? ⟨D, 4, none⟩ = some (.int .i64 2) := (cells_of E.out.wnt).1 4 _ rfl
  have wr := cell_regrown wk
  obtain ⟨pb, po, hpp⟩ := E.out.ps
  have HP : Hid _ := hpp
  clear wk hpp
  refine wp_region_quiet_below hm (by kernel_rfl) ?_
  refine wpQuiet_load (.agg J.cells) (by rfl) (im_load E.out.box (.tmp 3) rfl (by rfl)) ?_
  repeat (quiet_step (first | exact checkIn HP.out hJ1 _ hJ2 _ _ | exact awakeIn _ _ _))
  refine wpQuiet_nil ?_
  intro _ hw'
  obtain ⟨⟨dq, osq⟩, hw''⟩ := hw'
  subst hw''
  go_wp2
  go_ret
  exact ⟨rfl, E.out.low.trans ((below_regrown _ dq osq).mono E.out.low.size)⟩
set_option maxRecDepth 100000 in
set_option maxHeartbeats 4000000 in
theorem rule6 (a0 : Int) (hk : (wrap64 a0).tmod 26 = 6) (w : World) : Calls Try.prog 5 #[.int .u8 a0] w fun e w' => e = .returned (.bool true) ∧ Below w.heap.size w w' := by
  have CS : Hid _ := iSound 3 (by omega)
  have hm : Try.prog.follows .mixedOrders = true := by kernel_rfl
  go_enter Try.func5, Try.ntmps5
  go_wp2_with fail
  refine Calls.mono (CS.out _) ?_
  rintro e V ⟨v, ps, rfl, hf⟩
  obtain ⟨g, pc, kb, sb, rfl, hi, hj, hg⟩ := hf.imb (by omega)
  have HI : Hid _ := hi
  have HJ : Hid _ := hj
  have HN : Hid _ := hf.len
  have HL : Hid _ := hf.low
  have HG : Hid _ := hg
  clear hf CS hi hj hg
  go_wp2_with (refine wpList_fill rfl 28 (.tmp 3) (.tmp 9) rfl rfl (sndI w.heap.size (.slice (some ⟨g, 0, none⟩) 3 pc)) rfl 28 _ (by exact infoIm) (by rfl) (snd_one _ _ _ _) ?_)
  intro V1 e1 b1
  have hst := ru_begin HL.out HN.out HI.out HJ.out HG.out e1 b1
  clear e1 b1 HI HJ HN HL HG
  obtain ⟨W, hW⟩ : ∃ W, W = V1.alloc (.cells wantC 3) := ⟨_, rfl⟩
  rw [← hW] at hst
  have HW : Hid _ := hW
  have ST : Hid _ := hst
  have c9 : W.cell? ⟨V.heap.size, 9, none⟩ = some (.slice (some ⟨g, 0, none⟩) 3 pc) := (cells_of hst.box).1 9 _ rfl
  have c1 := (cells_of hst.box).1 6 _ rfl
  have f1 := (cells_of hst.box).2.1 6
  clear hst hW
  generalize V.heap.size = B at *
  go_wp2_with (refine wp_world HW.out ?_)
  have E : Hid (RuEnd w (W.setCell ⟨B, 6, none⟩ (.int .u32 204)) B V1.heap.size ((⟨some ⟨w.heap.size + 1, 0, none⟩, 200, 200, ⟨0, 40, false, false⟩, ⟨40, 204, false, false⟩, some ⟨g, 0, none⟩, pc, [sndP 0 (kb 0) (sb 0), sndP 1 (kb 1) (sb 1), sndP 2 (kb 2) (sb 2)]⟩ : Im))) := ST.out.endB (c := 6) ((⟨some ⟨w.heap.size + 1, 0, none⟩, 200, 200, ⟨0, 40, false, false⟩, ⟨40, 204, false, false⟩, some ⟨g, 0, none⟩, pc, [sndP 0 (kb 0) (sb 0), sndP 1 (kb 1) (sb 1), sndP 2 (kb 2) (sb 2)]⟩ : Im)) (.int .u32 204) rfl (.inr ⟨rfl, rfl⟩)
  have hJ1 : imB ((⟨some ⟨w.heap.size + 1, 0, none⟩, 200, 200, ⟨0, 40, false, false⟩, ⟨40, 204, false, false⟩, some ⟨g, 0, none⟩, pc, [sndP 0 (kb 0) (sb 0), sndP 1 (kb 1) (sb 1), sndP 2 (kb 2) (sb 2)]⟩ : Im)) = true := by kernel_rfl
  have hJ2 : checkV ((⟨some ⟨w.heap.size + 1, 0, none⟩, 200, 200, ⟨0, 40, false, false⟩, ⟨40, 204, false, false⟩, some ⟨g, 0, none⟩, pc, [sndP 0 (kb 0) (sb 0), sndP 1 (kb 1) (sb 1), sndP 2 (kb 2) (sb 2)]⟩ : Im)) = 3 := by kernel_rfl
  generalize W.setCell ⟨B, 6, none⟩ (.int .u32 204) = V2 at *
  generalize ((⟨some ⟨w.heap.size + 1, 0, none⟩, 200, 200, ⟨0, 40, false, false⟩, ⟨40, 204, false, false⟩, some ⟨g, 0, none⟩, pc, [sndP 0 (kb 0) (sb 0), sndP 1 (kb 1) (sb 1), sndP 2 (kb 2) (sb 2)]⟩ : Im)) = J at *
  generalize V1.heap.size = D at *
  have wk : V2.cell? ⟨D, 6, none⟩ = some (.int .i64 3) := (cells_of E.out.wnt).1 6 _ rfl
  have wr := cell_regrown wk
  obtain ⟨pb, po, hpp⟩ := E.out.ps
  have HP : Hid _ := hpp
  clear wk hpp
  refine wp_region_quiet_below hm (by kernel_rfl) ?_
  refine wpQuiet_load (.agg J.cells) (by rfl) (im_load E.out.box (.tmp 3) rfl (by rfl)) ?_
  repeat (quiet_step (first | exact checkIn HP.out hJ1 _ hJ2 _ _ | exact awakeIn _ _ _))
  refine wpQuiet_nil ?_
  intro _ hw'
  obtain ⟨⟨dq, osq⟩, hw''⟩ := hw'
  subst hw''
  go_wp2
  go_ret
  exact ⟨rfl, E.out.low.trans ((below_regrown _ dq osq).mono E.out.low.size)⟩
set_option maxRecDepth 100000 in
set_option maxHeartbeats 4000000 in
theorem rule7 (a0 : Int) (hk : (wrap64 a0).tmod 26 = 7) (w : World) : Calls Try.prog 5 #[.int .u8 a0] w fun e w' => e = .returned (.bool true) ∧ Below w.heap.size w w' := by
  have CS : Hid _ := iSound 3 (by omega)
  have hm : Try.prog.follows .mixedOrders = true := by kernel_rfl
  go_enter Try.func5, Try.ntmps5
  go_wp2_with fail
  refine Calls.mono (CS.out _) ?_
  rintro e V ⟨v, ps, rfl, hf⟩
  obtain ⟨g, pc, kb, sb, rfl, hi, hj, hg⟩ := hf.imb (by omega)
  have HI : Hid _ := hi
  have HJ : Hid _ := hj
  have HN : Hid _ := hf.len
  have HL : Hid _ := hf.low
  have HG : Hid _ := hg
  clear hf CS hi hj hg
  go_wp2_with (refine wpList_fill rfl 28 (.tmp 3) (.tmp 9) rfl rfl (sndI w.heap.size (.slice (some ⟨g, 0, none⟩) 3 pc)) rfl 28 _ (by exact infoIm) (by rfl) (snd_one _ _ _ _) ?_)
  intro V1 e1 b1
  have hst := ru_begin HL.out HN.out HI.out HJ.out HG.out e1 b1
  clear e1 b1 HI HJ HN HL HG
  obtain ⟨W, hW⟩ : ∃ W, W = V1.alloc (.cells wantC 3) := ⟨_, rfl⟩
  rw [← hW] at hst
  have HW : Hid _ := hW
  have ST : Hid _ := hst
  have c9 : W.cell? ⟨V.heap.size, 9, none⟩ = some (.slice (some ⟨g, 0, none⟩) 3 pc) := (cells_of hst.box).1 9 _ rfl
  have c1 := (cells_of hst.box).1 1 _ rfl
  have f1 := (cells_of hst.box).2.1 1
  clear hst hW
  generalize V.heap.size = B at *
  go_wp2_with (refine wp_world HW.out ?_)
  have E : Hid (RuEnd w (W.setCell ⟨B, 1, none⟩ (.int .u32 4)) B V1.heap.size ((⟨some ⟨w.heap.size + 1, 0, none⟩, 200, 200, ⟨4, 40, false, false⟩, ⟨40, 200, false, false⟩, some ⟨g, 0, none⟩, pc, [sndP 0 (kb 0) (sb 0), sndP 1 (kb 1) (sb 1), sndP 2 (kb 2) (sb 2)]⟩ : Im))) := ST.out.endB (c := 1) ((⟨some ⟨w.heap.size + 1, 0, none⟩, 200, 200, ⟨4, 40, false, false⟩, ⟨40, 200, false, false⟩, some ⟨g, 0, none⟩, pc, [sndP 0 (kb 0) (sb 0), sndP 1 (kb 1) (sb 1), sndP 2 (kb 2) (sb 2)]⟩ : Im)) (.int .u32 4) rfl (.inr ⟨rfl, rfl⟩)
  have hJ1 : imB ((⟨some ⟨w.heap.size + 1, 0, none⟩, 200, 200, ⟨4, 40, false, false⟩, ⟨40, 200, false, false⟩, some ⟨g, 0, none⟩, pc, [sndP 0 (kb 0) (sb 0), sndP 1 (kb 1) (sb 1), sndP 2 (kb 2) (sb 2)]⟩ : Im)) = true := by kernel_rfl
  have hJ2 : checkV ((⟨some ⟨w.heap.size + 1, 0, none⟩, 200, 200, ⟨4, 40, false, false⟩, ⟨40, 200, false, false⟩, some ⟨g, 0, none⟩, pc, [sndP 0 (kb 0) (sb 0), sndP 1 (kb 1) (sb 1), sndP 2 (kb 2) (sb 2)]⟩ : Im)) = 4 := by kernel_rfl
  generalize W.setCell ⟨B, 1, none⟩ (.int .u32 4) = V2 at *
  generalize ((⟨some ⟨w.heap.size + 1, 0, none⟩, 200, 200, ⟨4, 40, false, false⟩, ⟨40, 200, false, false⟩, some ⟨g, 0, none⟩, pc, [sndP 0 (kb 0) (sb 0), sndP 1 (kb 1) (sb 1), sndP 2 (kb 2) (sb 2)]⟩ : Im)) = J at *
  generalize V1.heap.size = D at *
  have wk : V2.cell? ⟨D, 7, none⟩ = some (.int .i64 4) := (cells_of E.out.wnt).1 7 _ rfl
  have wr := cell_regrown wk
  obtain ⟨pb, po, hpp⟩ := E.out.ps
  have HP : Hid _ := hpp
  clear wk hpp
  refine wp_region_quiet_below hm (by kernel_rfl) ?_
  refine wpQuiet_load (.agg J.cells) (by rfl) (im_load E.out.box (.tmp 3) rfl (by rfl)) ?_
  repeat (quiet_step (first | exact checkIn HP.out hJ1 _ hJ2 _ _ | exact awakeIn _ _ _))
  refine wpQuiet_nil ?_
  intro _ hw'
  obtain ⟨⟨dq, osq⟩, hw''⟩ := hw'
  subst hw''
  go_wp2
  go_ret
  exact ⟨rfl, E.out.low.trans ((below_regrown _ dq osq).mono E.out.low.size)⟩
set_option maxRecDepth 100000 in
set_option maxHeartbeats 4000000 in
theorem rule8 (a0 : Int) (hk : (wrap64 a0).tmod 26 = 8) (w : World) : Calls Try.prog 5 #[.int .u8 a0] w fun e w' => e = .returned (.bool true) ∧ Below w.heap.size w w' := by
  have CS : Hid _ := iSound 3 (by omega)
  have hm : Try.prog.follows .mixedOrders = true := by kernel_rfl
  go_enter Try.func5, Try.ntmps5
  go_wp2_with fail
  refine Calls.mono (CS.out _) ?_
  rintro e V ⟨v, ps, rfl, hf⟩
  obtain ⟨g, pc, kb, sb, rfl, hi, hj, hg⟩ := hf.imb (by omega)
  have HI : Hid _ := hi
  have HJ : Hid _ := hj
  have HN : Hid _ := hf.len
  have HL : Hid _ := hf.low
  have HG : Hid _ := hg
  clear hf CS hi hj hg
  go_wp2_with (refine wpList_fill rfl 28 (.tmp 3) (.tmp 9) rfl rfl (sndI w.heap.size (.slice (some ⟨g, 0, none⟩) 3 pc)) rfl 28 _ (by exact infoIm) (by rfl) (snd_one _ _ _ _) ?_)
  intro V1 e1 b1
  have hst := ru_begin HL.out HN.out HI.out HJ.out HG.out e1 b1
  clear e1 b1 HI HJ HN HL HG
  obtain ⟨W, hW⟩ : ∃ W, W = V1.alloc (.cells wantC 3) := ⟨_, rfl⟩
  rw [← hW] at hst
  have HW : Hid _ := hW
  have ST : Hid _ := hst
  have c9 : W.cell? ⟨V.heap.size, 9, none⟩ = some (.slice (some ⟨g, 0, none⟩) 3 pc) := (cells_of hst.box).1 9 _ rfl
  have c1 := (cells_of hst.box).1 2 _ rfl
  have f1 := (cells_of hst.box).2.1 2
  clear hst hW
  generalize V.heap.size = B at *
  go_wp2_with (refine wp_world HW.out ?_)
  have E : Hid (RuEnd w (W.setCell ⟨B, 2, none⟩ (.int .u32 0)) B V1.heap.size ((⟨some ⟨w.heap.size + 1, 0, none⟩, 200, 200, ⟨0, 0, false, false⟩, ⟨40, 200, false, false⟩, some ⟨g, 0, none⟩, pc, [sndP 0 (kb 0) (sb 0), sndP 1 (kb 1) (sb 1), sndP 2 (kb 2) (sb 2)]⟩ : Im))) := ST.out.endB (c := 2) ((⟨some ⟨w.heap.size + 1, 0, none⟩, 200, 200, ⟨0, 0, false, false⟩, ⟨40, 200, false, false⟩, some ⟨g, 0, none⟩, pc, [sndP 0 (kb 0) (sb 0), sndP 1 (kb 1) (sb 1), sndP 2 (kb 2) (sb 2)]⟩ : Im)) (.int .u32 0) rfl (.inr ⟨rfl, rfl⟩)
  have hJ1 : imB ((⟨some ⟨w.heap.size + 1, 0, none⟩, 200, 200, ⟨0, 0, false, false⟩, ⟨40, 200, false, false⟩, some ⟨g, 0, none⟩, pc, [sndP 0 (kb 0) (sb 0), sndP 1 (kb 1) (sb 1), sndP 2 (kb 2) (sb 2)]⟩ : Im)) = true := by kernel_rfl
  have hJ2 : checkV ((⟨some ⟨w.heap.size + 1, 0, none⟩, 200, 200, ⟨0, 0, false, false⟩, ⟨40, 200, false, false⟩, some ⟨g, 0, none⟩, pc, [sndP 0 (kb 0) (sb 0), sndP 1 (kb 1) (sb 1), sndP 2 (kb 2) (sb 2)]⟩ : Im)) = 4 := by kernel_rfl
  generalize W.setCell ⟨B, 2, none⟩ (.int .u32 0) = V2 at *
  generalize ((⟨some ⟨w.heap.size + 1, 0, none⟩, 200, 200, ⟨0, 0, false, false⟩, ⟨40, 200, false, false⟩, some ⟨g, 0, none⟩, pc, [sndP 0 (kb 0) (sb 0), sndP 1 (kb 1) (sb 1), sndP 2 (kb 2) (sb 2)]⟩ : Im)) = J at *
  generalize V1.heap.size = D at *
  have wk : V2.cell? ⟨D, 8, none⟩ = some (.int .i64 4) := (cells_of E.out.wnt).1 8 _ rfl
  have wr := cell_regrown wk
  obtain ⟨pb, po, hpp⟩ := E.out.ps
  have HP : Hid _ := hpp
  clear wk hpp
  refine wp_region_quiet_below hm (by kernel_rfl) ?_
  refine wpQuiet_load (.agg J.cells) (by rfl) (im_load E.out.box (.tmp 3) rfl (by rfl)) ?_
  repeat (quiet_step (first | exact checkIn HP.out hJ1 _ hJ2 _ _ | exact awakeIn _ _ _))
  refine wpQuiet_nil ?_
  intro _ hw'
  obtain ⟨⟨dq, osq⟩, hw''⟩ := hw'
  subst hw''
  go_wp2
  go_ret
  exact ⟨rfl, E.out.low.trans ((below_regrown _ dq osq).mono E.out.low.size)⟩
set_option maxRecDepth 100000 in
set_option maxHeartbeats 4000000 in
theorem rule11 (a0 : Int) (hk : (wrap64 a0).tmod 26 = 11) (w : World) : Calls Try.prog 5 #[.int .u8 a0] w fun e w' => e = .returned (.bool true) ∧ Below w.heap.size w w' := by
  have CS : Hid _ := iSound 3 (by omega)
  have hm : Try.prog.follows .mixedOrders = true := by kernel_rfl
  go_enter Try.func5, Try.ntmps5
  go_wp2_with fail
  refine Calls.mono (CS.out _) ?_
  rintro e V ⟨v, ps, rfl, hf⟩
  obtain ⟨g, pc, kb, sb, rfl, hi, hj, hg⟩ := hf.imb (by omega)
  have HI : Hid _ := hi
  have HJ : Hid _ := hj
  have HN : Hid _ := hf.len
  have HL : Hid _ := hf.low
  have HG : Hid _ := hg
  clear hf CS hi hj hg
  go_wp2_with (refine wpList_fill rfl 28 (.tmp 3) (.tmp 9) rfl rfl (sndI w.heap.size (.slice (some ⟨g, 0, none⟩) 3 pc)) rfl 28 _ (by exact infoIm) (by rfl) (snd_one _ _ _ _) ?_)
  intro V1 e1 b1
  have hst := ru_begin HL.out HN.out HI.out HJ.out HG.out e1 b1
  clear e1 b1 HI HJ HN HL HG
  obtain ⟨W, hW⟩ : ∃ W, W = V1.alloc (.cells wantC 3) := ⟨_, rfl⟩
  rw [← hW] at hst
  have HW : Hid _ := hW
  have ST : Hid _ := hst
  have c9 : W.cell? ⟨V.heap.size, 9, none⟩ = some (.slice (some ⟨g, 0, none⟩) 3 pc) := (cells_of hst.box).1 9 _ rfl
  have f1 := (cells_of hst.box).2.1 9
  clear hst hW
  generalize V.heap.size = B at *
  go_wp2_with (refine wp_world HW.out ?_)
  have E : Hid (RuEnd w (W.setCell ⟨B, 9, none⟩ (.slice none 0 0)) B V1.heap.size ((⟨some ⟨w.heap.size + 1, 0, none⟩, 200, 200, ⟨0, 40, false, false⟩, ⟨40, 200, false, false⟩, none, 0, []⟩ : Im))) := ST.out.endB (c := 9) ((⟨some ⟨w.heap.size + 1, 0, none⟩, 200, 200, ⟨0, 40, false, false⟩, ⟨40, 200, false, false⟩, none, 0, []⟩ : Im)) (.slice none 0 0) rfl (.inl rfl)
  have hJ1 : imB ((⟨some ⟨w.heap.size + 1, 0, none⟩, 200, 200, ⟨0, 40, false, false⟩, ⟨40, 200, false, false⟩, none, 0, []⟩ : Im)) = true := by kernel_rfl
  have hJ2 : checkV ((⟨some ⟨w.heap.size + 1, 0, none⟩, 200, 200, ⟨0, 40, false, false⟩, ⟨40, 200, false, false⟩, none, 0, []⟩ : Im)) = 5 := by kernel_rfl
  generalize W.setCell ⟨B, 9, none⟩ (.slice none 0 0) = V2 at *
  generalize ((⟨some ⟨w.heap.size + 1, 0, none⟩, 200, 200, ⟨0, 40, false, false⟩, ⟨40, 200, false, false⟩, none, 0, []⟩ : Im)) = J at *
  generalize V1.heap.size = D at *
  have wk : V2.cell? ⟨D, 11, none⟩ = some (.int .i64 5) := (cells_of E.out.wnt).1 11 _ rfl
  have wr := cell_regrown wk
  obtain ⟨pb, po, hpp⟩ := E.out.ps
  have HP : Hid _ := hpp
  clear wk hpp
  refine wp_region_quiet_below hm (by kernel_rfl) ?_
  refine wpQuiet_load (.agg J.cells) (by rfl) (im_load E.out.box (.tmp 3) rfl (by rfl)) ?_
  repeat (quiet_step (first | exact checkIn HP.out hJ1 _ hJ2 _ _ | exact awakeIn _ _ _))
  refine wpQuiet_nil ?_
  intro _ hw'
  obtain ⟨⟨dq, osq⟩, hw''⟩ := hw'
  subst hw''
  go_wp2
  go_ret
  exact ⟨rfl, E.out.low.trans ((below_regrown _ dq osq).mono E.out.low.size)⟩
set_option maxRecDepth 100000 in
set_option maxHeartbeats 4000000 in
theorem rule22 (a0 : Int) (hk : (wrap64 a0).tmod 26 = 22) (w : World) : Calls Try.prog 5 #[.int .u8 a0] w fun e w' => e = .returned (.bool true) ∧ Below w.heap.size w w' := by
  have CS : Hid _ := iSound 3 (by omega)
  have hm : Try.prog.follows .mixedOrders = true := by kernel_rfl
  go_enter Try.func5, Try.ntmps5
  go_wp2_with fail
  refine Calls.mono (CS.out _) ?_
  rintro e V ⟨v, ps, rfl, hf⟩
  obtain ⟨g, pc, kb, sb, rfl, hi, hj, hg⟩ := hf.imb (by omega)
  have HI : Hid _ := hi
  have HJ : Hid _ := hj
  have HN : Hid _ := hf.len
  have HL : Hid _ := hf.low
  have HG : Hid _ := hg
  clear hf CS hi hj hg
  go_wp2_with (refine wpList_fill rfl 28 (.tmp 3) (.tmp 9) rfl rfl (sndI w.heap.size (.slice (some ⟨g, 0, none⟩) 3 pc)) rfl 28 _ (by exact infoIm) (by rfl) (snd_one _ _ _ _) ?_)
  intro V1 e1 b1
  have hst := ru_begin HL.out HN.out HI.out HJ.out HG.out e1 b1
  clear e1 b1 HI HJ HN HL HG
  obtain ⟨W, hW⟩ : ∃ W, W = V1.alloc (.cells wantC 3) := ⟨_, rfl⟩
  rw [← hW] at hst
  have HW : Hid _ := hW
  have ST : Hid _ := hst
  have c9 : W.cell? ⟨V.heap.size, 9, none⟩ = some (.slice (some ⟨g, 0, none⟩) 3 pc) := (cells_of hst.box).1 9 _ rfl
  have c1 := (hst.ps.cell (q := 1) (c := 9) rfl rfl).1
  have f1 := (hst.ps.cell (q := 1) (c := 9) rfl rfl).2
  simp only [Nat.reduceMul, Nat.reduceAdd] at c1 f1
  clear hst hW
  generalize V.heap.size = B at *
  go_wp2_with (refine wp_world HW.out ?_)
  have E : Hid (RuEnd w (W.setCell ⟨g, 20, none⟩ (.slice none 0 0)) B V1.heap.size (ruIm w g pc [sndP 0 (kb 0) (sb 0), ⟨sndN 1, ⟨260, 280, true, false⟩, ⟨280, 320, false, true⟩, none, 0, 0, some ⟨sb 1, 0, none⟩, 2, 2, [], [(⟨#[120]⟩, 280), (⟨#[121]⟩, 316)]⟩, sndP 2 (kb 2) (sb 2)])) := ST.out.endP (c := 9) (⟨sndN 1, ⟨260, 280, true, false⟩, ⟨280, 320, false, true⟩, none, 0, 0, some ⟨sb 1, 0, none⟩, 2, 2, [], [(⟨#[120]⟩, 280), (⟨#[121]⟩, 316)]⟩) (.slice none 0 0) (by omega) rfl ⟨rfl, rfl, rfl⟩ ⟨rfl, fun h => absurd rfl h, (ST.out.ps.key 1 _ rfl).blk.elim fun K hK => ⟨K, hK.1, fun q r hq => by cases hq⟩⟩
  have hJ1 : imB (ruIm w g pc [sndP 0 (kb 0) (sb 0), ⟨sndN 1, ⟨260, 280, true, false⟩, ⟨280, 320, false, true⟩, none, 0, 0, some ⟨sb 1, 0, none⟩, 2, 2, [], [(⟨#[120]⟩, 280), (⟨#[121]⟩, 316)]⟩, sndP 2 (kb 2) (sb 2)]) = true := by kernel_rfl
  have hJ2 : checkV (ruIm w g pc [sndP 0 (kb 0) (sb 0), ⟨sndN 1, ⟨260, 280, true, false⟩, ⟨280, 320, false, true⟩, none, 0, 0, some ⟨sb 1, 0, none⟩, 2, 2, [], [(⟨#[120]⟩, 280), (⟨#[121]⟩, 316)]⟩, sndP 2 (kb 2) (sb 2)]) = 0 := by kernel_rfl
  generalize W.setCell ⟨g, 20, none⟩ (.slice none 0 0) = V2 at *
  generalize (ruIm w g pc [sndP 0 (kb 0) (sb 0), ⟨sndN 1, ⟨260, 280, true, false⟩, ⟨280, 320, false, true⟩, none, 0, 0, some ⟨sb 1, 0, none⟩, 2, 2, [], [(⟨#[120]⟩, 280), (⟨#[121]⟩, 316)]⟩, sndP 2 (kb 2) (sb 2)]) = J at *
  generalize V1.heap.size = D at *
  have wk : V2.cell? ⟨D, 22, none⟩ = some (.int .i64 0) := (cells_of E.out.wnt).1 22 _ rfl
  have wr := cell_regrown wk
  obtain ⟨pb, po, hpp⟩ := E.out.ps
  have HP : Hid _ := hpp
  clear wk hpp
  refine wp_region_quiet_below hm (by kernel_rfl) ?_
  refine wpQuiet_load (.agg J.cells) (by rfl) (im_load E.out.box (.tmp 3) rfl (by rfl)) ?_
  repeat (quiet_step (first | exact checkIn HP.out hJ1 _ hJ2 _ _ | exact awakeIn _ _ _))
  refine wpQuiet_nil ?_
  intro _ hw'
  obtain ⟨⟨dq, osq⟩, hw''⟩ := hw'
  subst hw''
  go_wp2
  go_ret
  exact ⟨rfl, E.out.low.trans ((below_regrown _ dq osq).mono E.out.low.size)⟩
end Go.Proofs.Ytfjppgfnjjmkpaa
