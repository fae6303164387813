/-
  Package image: Check.
-/
import Derived.Test.YtfjppgfnjjmkpaaIml
namespace Go.Proofs.Ytfjppgfnjjmkpaa
open Go.RowKit

def imWordsV (i : Im) : Bool := decide (1 ≤ i.wl) && decide (i.wl ≤ 65536)
def checkV (i : Im) : Int := if imWordsV i = false then 1 else if standsV i = false then 2 else if regsV i = false then 3 else if rightsV i = false then 4 else if partsV i.ps = false then 5 else if keysV i = false then 6 else if symsV i.ps = false then 7 else 0
theorem taken_made (w : World) : (Instr.makeMap 54 none).run Try.prog w = .ok (.map (some w.heap.size)) (w.alloc (.map #[] 0)) := by kernel_rfl
set_option maxHeartbeats 1000000 in
theorem iWords (i : Im) (w : World) : Calls Try.prog 16 #[.agg i.cells] w fun e w' => e = .returned (.bool (imWordsV i)) ∧ Below w.heap.size w w' := by
  obtain ⟨RV, hRV⟩ : ∃ RV, RV = imWordsV i := ⟨_, rfl⟩
  have HRV : Hid (RV = imWordsV i) := hRV
  rw [← hRV]
  have c0 : (w.alloc (.cells i.cells 28)).cell? ⟨w.heap.size, 0, none⟩ = some (.slice i.wa i.wl i.wc) := (cells_of (alloc_at w _)).1 0 _ rfl
  have B1 : Hid (Below w.heap.size w (w.alloc (.cells i.cells 28))) := (Below.refl _ _).alloc (Nat.le_refl _) _
  clear hRV
  by_cases h1 : 1 ≤ i.wl
  · by_cases h2 : i.wl ≤ 65536
    · have hv : RV = true := by rw [HRV.out]; unfold imWordsV; rw [decide_eq_true h1, decide_eq_true h2]; rfl
      have d1 : (1 : Int) ≤ (i.wl : Int) := by omega
      have d2 : (i.wl : Int) ≤ 65536 := by omega
      clear HRV
      subst hv
      go_enter Try.func16, Try.ntmps16
      go_wp2
      go_ret
      exact ⟨rfl, B1.out⟩
    · have hv : RV = false := by rw [HRV.out]; unfold imWordsV; rw [decide_eq_false h2, Bool.and_false]
      have d1 : (1 : Int) ≤ (i.wl : Int) := by omega
      have d2 : ¬ (i.wl : Int) ≤ 65536 := by omega
      clear HRV
      subst hv
      go_enter Try.func16, Try.ntmps16
      go_wp2
      go_ret
      exact ⟨rfl, B1.out⟩
  · have hv : RV = false := by rw [HRV.out]; unfold imWordsV; rw [decide_eq_false h1, Bool.false_and]
    have d1 : ¬ (1 : Int) ≤ (i.wl : Int) := by omega
    clear HRV
    subst hv
    go_enter Try.func16, Try.ntmps16
    go_wp2
    go_ret
    exact ⟨rfl, B1.out⟩
theorem stands_reg {i : Im} (ho : ImOk i) (hw : i.wl ≤ 65536) (h : standsV i = true) : ∀ r ∈ regL i, RgT r := by
  intro r hr
  unfold standsV at h
  have h1 := List.all_eq_true.1 h r hr
  unfold standB at h1
  simp only [Bool.and_eq_true, beq_iff_eq, decide_eq_true_eq] at h1
  obtain ⟨⟨⟨a1, a2⟩, a3⟩, a4⟩ := h1
  exact ⟨reg_all ho r hr, by omega, a1, a2⟩
set_option maxRecDepth 100000 in
set_option maxHeartbeats 2000000 in
theorem iCheck {w : World} {i : Im} {b off : Nat} (hp : PartsAt w b off i.pa i.ps) (ho : ImOk i) (h100 : i.ps.length ≤ 100) :
    Calls Try.prog 11 #[.agg i.cells] w fun e w' => e = .returned (.int .i64 (checkV i)) ∧ Below w.heap.size w w' := by
  have HP : Hid _ := hp
  have HO : Hid _ := ho
  obtain ⟨fi, hfi⟩ := undIm
  have HFI : Hid _ := hfi
  obtain ⟨RV, hRV⟩ : ∃ RV, RV = checkV i := ⟨_, rfl⟩
  have HRV : Hid (RV = checkV i) := hRV
  rw [← hRV]
  have hmk := taken_made
  have A1 : Below w.heap.size w (w.alloc (.cells i.cells 28)) := (Below.refl _ _).alloc (Nat.le_refl _) _
  have A2 : Below (w.alloc (.cells i.cells 28)).heap.size (w.alloc (.cells i.cells 28)) ((w.alloc (.cells i.cells 28)).alloc (.map #[] 0)) := (Below.refl _ _).alloc (Nat.le_refl _) _
  have L1 : Hid (Below w.heap.size w ((w.alloc (.cells i.cells 28)).alloc (.map #[] 0))) := below_step A1 A2
  have B1 : Hid (((w.alloc (.cells i.cells 28)).alloc (.map #[] 0)).heap[w.heap.size]? = some (.cells i.cells 28)) := kept_on (alloc_at _ _) A2
  have T1 : Hid (TkSt w ((w.alloc (.cells i.cells 28)).alloc (.map #[] 0)) (w.heap.size + 1) []) := by
    refine ⟨L1.out, fun _ _ => false, 0, Nat.zero_le _, ?_, fun a => rfl, fun a => rfl⟩
    have := spot_made (w.alloc (.cells i.cells 28))
    rw [World.size_alloc] at this
    exact this
  have CW : Hid _ := iWords i
  clear hp ho hfi hRV A1 A2
  go_enter Try.func11, Try.ntmps11
  go_wp2_with (first | (refine wpList_mids (by rfl) 28 (.tmp 1) rfl w.heap.size 0 rfl i.cells _ (im_rng B1.out) HFI.out rfl (by rw [Im.size]; exact infoIm) ?_))
  refine (CW.out _).mono ?_
  rintro e W2 ⟨rfl, b2⟩
  have L2 : Hid _ := below_step L1.out b2
  have B2 : Hid _ := kept_on B1.out b2
  have T2 : Hid _ := T1.out.below b2
  clear b2 L1 B1 T1 CW
  cases h1 : imWordsV i
  · have hv : RV = 1 := by rw [HRV.out]; unfold checkV; rw [h1]; rfl
    clear HRV
    subst hv
    go_wp2_with fail
    go_ret
    exact ⟨rfl, L2.out⟩
  have hwl : i.wl ≤ 65536 := by
    unfold imWordsV at h1
    simp only [Bool.and_eq_true, decide_eq_true_eq] at h1
    exact h1.2
  have H1 : Hid _ := h1
  have HWL : Hid (i.wl ≤ 65536) := hwl
  clear h1 hwl
  go_wp2_with (first | (refine wpList_mids (by rfl) 28 (.tmp 1) rfl w.heap.size 0 rfl i.cells _ (im_rng B2.out) HFI.out rfl (by rw [Im.size]; exact infoIm) ?_))
  refine (iStands (HP.out.below L2.out) HO.out HWL.out).mono ?_
  rintro e W3 ⟨rfl, b3⟩
  have L3 : Hid _ := below_step L2.out b3
  have B3 : Hid _ := kept_on B2.out b3
  have T3 : Hid _ := T2.out.below b3
  clear b3 L2 B2 T2
  cases h2 : standsV i
  · have hv : RV = 2 := by rw [HRV.out]; unfold checkV; rw [H1.out, h2]; rfl
    clear HRV
    subst hv
    go_wp2_with fail
    go_ret
    exact ⟨rfl, L3.out⟩
  have H2 : Hid _ := h2
  clear h2
  have hgw : w.heap.size + 1 < W3.heap.size := by
    obtain ⟨_, M, n, _, h3, _⟩ := T3.out
    exact spot_lt h3
  have CT : Hid _ := iTakes HP.out HO.out (stands_reg HO.out HWL.out H2.out) h100 (by omega) T3.out hgw
  clear hgw
  go_wp2_with (first | (refine wpList_mids (by rfl) 28 (.tmp 1) rfl w.heap.size 0 rfl i.cells _ (im_rng B3.out) HFI.out rfl (by rw [Im.size]; exact infoIm) ?_))
  refine Calls.mono CT.out ?_
  rintro e W4 ⟨c, rfl, hr⟩
  have L4 : Hid _ := hr.low
  have R4 : Hid _ := hr
  have B4 : Hid (W4.heap[w.heap.size]? = some (.cells i.cells 28)) := hr.kc.same _ _ _ _ B3.out
  clear hr L3 B3 T3 CT
  have h3 : c = regsV i := R4.out.is
  cases c
  · have hv : RV = 3 := by rw [HRV.out]; unfold checkV; rw [H1.out, H2.out, ← h3]; rfl
    clear HRV h3 R4
    subst hv
    go_wp2_with fail
    go_ret
    exact ⟨rfl, L4.out⟩
  have H3 : Hid (regsV i = true) := h3.symm
  have T4 : Hid _ := R4.out.st rfl
  clear h3 R4
  go_wp2_with (first | (refine wpList_mids (by rfl) 28 (.tmp 1) rfl w.heap.size 0 rfl i.cells _ (im_rng B4.out) HFI.out rfl (by rw [Im.size]; exact infoIm) ?_))
  refine (iRights (HP.out.below L4.out) HO.out).mono ?_
  rintro e W5 ⟨rfl, b5⟩
  have L5 : Hid _ := below_step L4.out b5
  have B5 : Hid _ := kept_on B4.out b5
  have T5 : Hid _ := T4.out.below b5
  clear b5 L4 B4 T4
  cases h4 : rightsV i
  · have hv : RV = 4 := by rw [HRV.out]; unfold checkV; rw [H1.out, H2.out, H3.out, h4]; rfl
    clear HRV
    subst hv
    go_wp2_with fail
    go_ret
    exact ⟨rfl, L5.out⟩
  have H4 : Hid _ := h4
  have c9 : W5.cell? ⟨w.heap.size, 9, none⟩ = some (.slice i.pa i.ps.length i.pc) := (cells_of B5.out).1 9 _ rfl
  clear h4
  go_wp2_with fail
  refine (iParts (HP.out.below L5.out) HO.out.ps HO.out.few).mono ?_
  rintro e W6 ⟨rfl, b6⟩
  have L6 : Hid _ := below_step L5.out b6
  have B6 : Hid _ := kept_on B5.out b6
  have T6 : Hid _ := T5.out.below b6
  clear b6 L5 B5 T5 c9
  cases h5 : partsV i.ps
  · have hv : RV = 5 := by rw [HRV.out]; unfold checkV; rw [H1.out, H2.out, H3.out, H4.out, h5]; rfl
    clear HRV
    subst hv
    go_wp2_with fail
    go_ret
    exact ⟨rfl, L6.out⟩
  have H5 : Hid _ := h5
  have h8 : i.ps.length ≤ 8 := by
    unfold partsV at h5
    simp only [Bool.and_eq_true, decide_eq_true_eq] at h5
    exact h5.1.2
  have hkh : i.keys.hi ≤ 300000 := (stands_reg HO.out HWL.out H2.out i.keys (List.mem_cons_of_mem _ (List.mem_cons_self ..))).2.1
  obtain ⟨_, M, n, hn, hsp, _, hM2⟩ := T6.out
  have CK : Hid _ := iKeys HP.out HO.out L6.out (by omega) hsp hM2 (by rw [reg_len] at hn; omega) h8 hkh
  clear h5 h8 hkh hn hsp hM2
  go_wp2_with (first | (refine wpList_mids (by rfl) 28 (.tmp 1) rfl w.heap.size 0 rfl i.cells _ (im_rng B6.out) HFI.out rfl (by rw [Im.size]; exact infoIm) ?_))
  refine Calls.mono CK.out ?_
  rintro e W7 ⟨rfl, b7, k7⟩
  have L7 : Hid _ := b7
  have c9 : W7.cell? ⟨w.heap.size, 9, none⟩ = some (.slice i.pa i.ps.length i.pc) := (cells_of (k7.same _ _ _ _ B6.out)).1 9 _ rfl
  clear b7 k7 L6 T6 B6 CK
  cases h6 : keysV i
  · have hv : RV = 6 := by rw [HRV.out]; unfold checkV; rw [H1.out, H2.out, H3.out, H4.out, H5.out, h6]; rfl
    clear HRV
    subst hv
    go_wp2_with fail
    go_ret
    exact ⟨rfl, L7.out⟩
  have H6 : Hid _ := h6
  clear h6
  go_wp2_with fail
  refine (iSyms (HP.out.below L7.out) HO.out.ps HO.out.few).mono ?_
  rintro e W8 ⟨rfl, b8⟩
  have L8 : Hid _ := below_step L7.out b8
  clear b8 L7 c9
  cases h7 : symsV i.ps
  · have hv : RV = 7 := by rw [HRV.out]; unfold checkV; rw [H1.out, H2.out, H3.out, H4.out, H5.out, H6.out, h7]; rfl
    clear HRV
    subst hv
    go_wp2_with fail
    go_ret
    exact ⟨rfl, L8.out⟩
  · have hv : RV = 0 := by rw [HRV.out]; unfold checkV; rw [H1.out, H2.out, H3.out, H4.out, H5.out, H6.out, h7]; rfl
    clear HRV
    subst hv
    go_wp2_with fail
    go_ret
    exact ⟨rfl, L8.out⟩
end Go.Proofs.Ytfjppgfnjjmkpaa
