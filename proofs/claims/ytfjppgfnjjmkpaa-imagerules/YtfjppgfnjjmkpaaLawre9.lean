/-
  ImageRules, case by case (12).
-/
import Derived.Test.YtfjppgfnjjmkpaaImz
namespace Go.Proofs.Ytfjppgfnjjmkpaa
open Go.RowKit Go.Sort

set_option maxRecDepth 100000 in
set_option maxHeartbeats 4000000 in
theorem rule12 (a0 : Int) (hk : (wrap64 a0).tmod 26 = 12) (w : World) : Calls Try.prog 5 #[.int .u8 a0] w fun e w' => e = .returned (.bool true) ∧ Below w.heap.size w w' := by
  have CS : Hid _ := iSound 3 (by omega)
  have hm : Try.prog.follows .mixedOrders = true := by kernel_rfl
  go_enter Try.func5, Try.ntmps5
  go_wp2_with fail
  refine Calls.mono (CS.out _) ?_
  rintro e V ⟨v, ps, rfl, hf⟩
  obtain ⟨g, pc, kb, sb, rfl, hi, hj, hg⟩ := hf.imb (by omega)
  have HI : Hid _ := hi
  have HJ : Hid _ := hj
  have HN : Hid _ := hf.len
  have HL : Hid _ := hf.low
  have HG : Hid _ := hg
  clear hf CS hi hj hg
  go_wp2_with (refine wpList_fill rfl 28 (.tmp 3) (.tmp 9) rfl rfl (sndI w.heap.size (.slice (some ⟨g, 0, none⟩) 3 pc)) rfl 28 _ (by exact infoIm) (by rfl) (snd_one _ _ _ _) ?_)
  intro V1 e1 b1
  have hst := ru_begin HL.out HN.out HI.out HJ.out HG.out e1 b1
  clear e1 b1 HI HJ HN HL HG
  obtain ⟨W, hW⟩ : ∃ W, W = V1.alloc (.cells wantC 3) := ⟨_, rfl⟩
  rw [← hW] at hst
  have HW : Hid _ := hW
  have ST : Hid _ := hst
  have c9 : W.cell? ⟨V.heap.size, 9, none⟩ = some (.slice (some ⟨g, 0, none⟩) 3 pc) := (cells_of hst.box).1 9 _ rfl
  clear hst hW
  generalize V.heap.size = B at *
  go_wp2_with (refine wp_world HW.out ?_)
  have CS9 : Hid _ := iSound 9 (by omega)
  refine Calls.mono (CS9.out _) ?_
  rintro e V2 ⟨v9, ps9, rfl, hf9⟩
  obtain ⟨g9, pc9, kb9, sb9, rfl, hi9, hj9, hg9⟩ := hf9.imb (by omega)
  have E0 := ru_nine (pc9 := pc9) ST.out hf9.low hf9.len hi9 hj9 hg9
  have TH : Hid (V2.there B 0 (sndI W.heap.size (.slice (some ⟨g9, 0, none⟩) 9 pc9)).size) := by
    have hb := kept_on ST.out.box hf9.low
    intro j hj
    rw [Nat.zero_add]
    exact ⟨by rw [(cells_of hb).1 j _ (Array.getElem?_eq_getElem (by exact hj))]; rfl, (cells_of hb).2.1 j⟩
  have E : Hid _ := E0
  clear CS9 hf9 hi9 hj9 hg9 E0
  go_wp2_with (refine wpList_storem rfl 28 (.tmp 3) (.tmp 102) rfl B 0 (sndI W.heap.size (.slice (some ⟨g9, 0, none⟩) 9 pc9)) rfl rfl TH.out (by exact infoIm) (snd_one _ _ _ _) ?_)
  generalize V2.setCells B 0 (sndI W.heap.size (.slice (some ⟨g9, 0, none⟩) 9 pc9)).toList = W2 at *
  have hJ1 : imB ((⟨some ⟨W.heap.size + 1, 0, none⟩, 200, 200, ⟨0, 40, false, false⟩, ⟨40, 200, false, false⟩, some ⟨g9, 0, none⟩, pc9, [sndP 0 (kb9 0) (sb9 0), sndP 1 (kb9 1) (sb9 1), sndP 2 (kb9 2) (sb9 2), sndP 3 (kb9 3) (sb9 3), sndP 4 (kb9 4) (sb9 4), sndP 5 (kb9 5) (sb9 5), sndP 6 (kb9 6) (sb9 6), sndP 7 (kb9 7) (sb9 7), sndP 8 (kb9 8) (sb9 8)]⟩ : Im)) = true := by kernel_rfl
  have hJ2 : checkV ((⟨some ⟨W.heap.size + 1, 0, none⟩, 200, 200, ⟨0, 40, false, false⟩, ⟨40, 200, false, false⟩, some ⟨g9, 0, none⟩, pc9, [sndP 0 (kb9 0) (sb9 0), sndP 1 (kb9 1) (sb9 1), sndP 2 (kb9 2) (sb9 2), sndP 3 (kb9 3) (sb9 3), sndP 4 (kb9 4) (sb9 4), sndP 5 (kb9 5) (sb9 5), sndP 6 (kb9 6) (sb9 6), sndP 7 (kb9 7) (sb9 7), sndP 8 (kb9 8) (sb9 8)]⟩ : Im)) = 5 := by kernel_rfl
  generalize ((⟨some ⟨W.heap.size + 1, 0, none⟩, 200, 200, ⟨0, 40, false, false⟩, ⟨40, 200, false, false⟩, some ⟨g9, 0, none⟩, pc9, [sndP 0 (kb9 0) (sb9 0), sndP 1 (kb9 1) (sb9 1), sndP 2 (kb9 2) (sb9 2), sndP 3 (kb9 3) (sb9 3), sndP 4 (kb9 4) (sb9 4), sndP 5 (kb9 5) (sb9 5), sndP 6 (kb9 6) (sb9 6), sndP 7 (kb9 7) (sb9 7), sndP 8 (kb9 8) (sb9 8)]⟩ : Im)) = J at *
  generalize V1.heap.size = D at *
  have wk : W2.cell? ⟨D, 12, none⟩ = some (.int .i64 5) := (cells_of E.out.wnt).1 12 _ rfl
  have wr := cell_regrown wk
  obtain ⟨pb, po, hpp⟩ := E.out.ps
  have HP : Hid _ := hpp
  clear wk hpp
  refine wp_region_quiet_below hm (by kernel_rfl) ?_
  refine wpQuiet_load (.agg J.cells) (by rfl) (im_load E.out.box (.tmp 3) rfl (by rfl)) ?_
  repeat (quiet_step (first | exact checkIn HP.out hJ1 _ hJ2 _ _ | exact awakeIn _ _ _))
  refine wpQuiet_nil ?_
  intro _ hw'
  obtain ⟨⟨dq, osq⟩, hw''⟩ := hw'
  subst hw''
  go_wp2
  go_ret
  exact ⟨rfl, E.out.low.trans ((below_regrown _ dq osq).mono E.out.low.size)⟩
end Go.Proofs.Ytfjppgfnjjmkpaa
