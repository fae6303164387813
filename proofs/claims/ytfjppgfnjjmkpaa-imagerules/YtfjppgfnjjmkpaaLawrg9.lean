/-
  ImageRules, case by case (25).
-/
import Derived.Test.YtfjppgfnjjmkpaaImz
namespace Go.Proofs.Ytfjppgfnjjmkpaa
open Go.RowKit Go.Sort

set_option maxRecDepth 100000 in
set_option maxHeartbeats 4000000 in
theorem rule25 (a0 : Int) (hk : (wrap64 a0).tmod 26 = 25) (w : World) : Calls Try.prog 5 #[.int .u8 a0] w fun e w' => e = .returned (.bool true) ∧ Below w.heap.size w w' := by
  have CS : Hid _ := iSound 3 (by omega)
  have hm : Try.prog.follows .mixedOrders = true := by kernel_rfl
  go_enter Try.func5, Try.ntmps5
  go_wp2_with fail
  refine Calls.mono (CS.out _) ?_
  rintro e V ⟨v, ps, rfl, hf⟩
  obtain ⟨g, pc, kb, sb, rfl, hi, hj, hg⟩ := hf.imb (by omega)
  have HI : Hid _ := hi
  have HJ : Hid _ := hj
  have HN : Hid _ := hf.len
  have HL : Hid _ := hf.low
  have HG : Hid _ := hg
  have hp1 : ps[1]? = some (sndP 1 (kb 1) (sb 1)) := by
    obtain ⟨p, e⟩ : ∃ p, ps[1]? = some p := ⟨_, List.getElem?_eq_getElem (by rw [hf.len]; omega)⟩
    rw [e, (hj 1 p e).1]
  have KB : Hid _ := hf.keyblk hp1
  clear hp1
  clear hf CS hi hj hg
  go_wp2_with (refine wpList_fill rfl 28 (.tmp 3) (.tmp 9) rfl rfl (sndI w.heap.size (.slice (some ⟨g, 0, none⟩) 3 pc)) rfl 28 _ (by exact infoIm) (by rfl) (snd_one _ _ _ _) ?_)
  intro V1 e1 b1
  have K1 : Hid _ := kept_on (kept_on KB.out b1) ((Below.refl V1.heap.size V1).alloc (Nat.le_refl _) (.cells wantC 3))
  have hst := ru_begin HL.out HN.out HI.out HJ.out HG.out e1 b1
  clear e1 b1 KB HI HJ HN HL HG
  obtain ⟨W, hW⟩ : ∃ W, W = V1.alloc (.cells wantC 3) := ⟨_, rfl⟩
  rw [← hW] at hst K1
  have HW : Hid _ := hW
  have ST : Hid _ := hst
  have c9 : W.cell? ⟨V.heap.size, 9, none⟩ = some (.slice (some ⟨g, 0, none⟩) 3 pc) := (cells_of hst.box).1 9 _ rfl
  clear hst hW
  generalize V.heap.size = B at *
  go_wp2_with (refine wp_world HW.out ?_)
  have S0 : Hid (Six w W (fun d ob => d = V1.heap.size ∧ ob = .cells wantC 3) B g pc 0 (kb 1) 1 kb sb) := ⟨⟨kb, rfl, ST.out.m⟩, own_one (r := ⟨56, 72, false, false⟩) K1.out (ST.out.gw.2 1 (by omega)).1⟩
  have HWB : Hid (w.heap.size ≤ W.heap.size) := ST.out.low.size
  generalize kb 1 = kb1 at *
  go_loopw [8] (fun x wr => ∃ (k nb cap : Nat) (V3 : World), V3 = wr ∧ k ≤ 6 ∧ x = .int .i64 k ∧ Hid (Six w V3 (fun d ob => d = V1.heap.size ∧ ob = .cells wantC 3) B g pc k nb cap kb sb)) (fun x _ => 6 - (intOf x).toNat)
  case atStart => exact ⟨0, _, _, _, rfl, by omega, rfl, S0⟩
  case round =>
    clear S0
    obtain ⟨k, nb, cap, V3, rfl, hk, rfl, hr⟩ := hrel
    by_cases hlt : k < 6
    · have k1 : (k : Int) < 6 := by omega
      obtain ⟨cK, fK⟩ := hr.out.cell
      obtain ⟨V4, hV4⟩ : ∃ V4, V4 = V3.alloc (.cells #[.int .u32 (88 + 16 * (k : Int)), .int .u32 (104 + 16 * (k : Int)), .bool false, .bool false] 25) := ⟨_, rfl⟩
      have b4 : Below V3.heap.size V3 V4 := by rw [hV4]; exact (Below.refl _ _).alloc (Nat.le_refl _) _
      have n4 : V4.heap[V3.heap.size]? = some (.cells #[.int .u32 (88 + 16 * (k : Int)), .int .u32 (104 + 16 * (k : Int)), .bool false, .bool false] 25) := by rw [hV4]; exact alloc_at _ _
      have o4 : V4.ownsRow w.heap.size 25 4 (.slice (some ⟨nb, 0, none⟩) (k + 1) cap) (k + 1) (regrow (ks25 k)) := by rw [hV4]; exact hr.out.own.alloc _
      have hz : w.heap.size ≤ V3.heap.size := by
        obtain ⟨kx, _, hm⟩ := hr.out.m
        exact hm.low.size
      obtain ⟨v', W4, hrun, ho, hg, hb⟩ := run_app_rg (ty := 37) (r := ⟨88 + 16 * (k : Int), 104 + 16 * (k : Int), false, false⟩) o4 (by have := b4.size; omega) n4 (by omega)
      obtain ⟨nb', cap', rfl, hs, cK2, fK2⟩ := six_next hr.out b4 ho hg hb
      have HS : Hid _ := hs
      have HR : Hid _ := hrun
      have HV4 : Hid _ := hV4
      clear hrun ho hg hb hs o4 n4 b4 hV4 hz
      go_wp2_with (first | (refine wp_world HV4.out ?_) | (refine wp_app rfl rfl rfl rfl HR.out ?_))
      exact ⟨⟨k + 1, _, _, _, rfl, by omega, by go_num, HS⟩, by simp [intOf]; omega⟩
    · have hk6 : k = 6 := by omega
      subst hk6
      obtain ⟨kx, _, hm⟩ := hr.out.m
      have E : Hid _ := hm.fin
      clear hm
      go_wp2_with fail
      have hJ1 : imB (im25 w g pc 6 nb cap kb sb) = true := by kernel_rfl
      have hJ2 : checkV (im25 w g pc 6 nb cap kb sb) = 6 := by kernel_rfl
      generalize (im25 w g pc 6 nb cap kb sb) = J at *
      generalize V1.heap.size = D at *
      have wk : V3.cell? ⟨D, 25, none⟩ = some (.int .i64 6) := (cells_of E.out.wnt).1 25 _ rfl
      have wr := cell_regrown wk
      obtain ⟨pb, po, hpp⟩ := E.out.ps
      have HP : Hid _ := hpp
      clear wk hpp
      refine wp_region_quiet_below hm (by kernel_rfl) ?_
      refine wpQuiet_load (.agg J.cells) (by rfl) (im_load E.out.box (.tmp 3) rfl (by rfl)) ?_
      repeat (quiet_step (first | exact checkIn HP.out hJ1 _ hJ2 _ _ | exact awakeIn _ _ _))
      refine wpQuiet_nil ?_
      intro _ hw'
      obtain ⟨⟨dq, osq⟩, hw''⟩ := hw'
      subst hw''
      go_wp2
      go_ret
      exact ⟨rfl, E.out.low.trans ((below_regrown _ dq osq).mono E.out.low.size)⟩
end Go.Proofs.Ytfjppgfnjjmkpaa
