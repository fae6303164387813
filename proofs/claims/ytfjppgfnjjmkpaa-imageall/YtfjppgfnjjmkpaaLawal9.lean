/-
  ImageAll.
-/
import Derived.Test.YtfjppgfnjjmkpaaImtb
import Derived.Test.YtfjppgfnjjmkpaaImhv
namespace Go.Proofs.Ytfjppgfnjjmkpaa
open Go.RowKit Go.Sort

theorem part_both (ps : List Pt) (s : ByteArray) : ∃ (K : Nat) (B : Bool), partR ps s = .tuple #[.int .i64 K, .bool B] ∧ placedR (ps.map Pt.name) (fun k => k) s = .agg #[.int .i64 K, .bool B] := by
  unfold partR placedR
  cases placeV (ps.map Pt.name) s 0 with
  | none => exact ⟨0, false, rfl, rfl⟩
  | some k => exact ⟨k, true, rfl, rfl⟩
theorem sym_both {l : List (ByteArray × Int)} (h : ∀ s ∈ l, U32 s.2) (s : ByteArray) : ∃ (A : Int) (B : Bool), symR l s = .tuple #[.int .u32 A, .bool B] ∧ placedR (l.map (·.1)) (fun k => (l.getD k (⟨#[]⟩, 0)).2) s = .agg #[.int .i64 A, .bool B] ∧ U32 A := by
  unfold symR placedR
  cases placeV (l.map (·.1)) s 0 with
  | none => exact ⟨0, false, rfl, rfl, by unfold U32; omega⟩
  | some k =>
    refine ⟨_, true, rfl, rfl, ?_⟩
    rw [List.getD_eq_getElem?_getD]
    cases hk : l[k]? with
    | none => show U32 0; unfold U32; omega
    | some y => exact h y (List.mem_of_getElem? hk)
set_option maxRecDepth 100000 in
set_option maxHeartbeats 8000000 in
theorem imageAll (i : Im) (nm : ByteArray) (at' : Int) (w : World) (h : ImIn w i) :
    Calls Try.prog 3 #[.agg i.cells, .string nm, .int .i64 at'] w fun e w' => e = .returned (.bool true) ∧ Below w.heap.size w w' := by
  have hm : Try.prog.follows .mixedOrders = true := by kernel_rfl
  have HI : Hid _ := h
  obtain ⟨b, off, hps⟩ := h.ps
  have HP : Hid _ := hps
  obtain ⟨fi, hfi⟩ := undIm
  have HFI : Hid _ := hfi
  have A1 : Below w.heap.size w (w.alloc (.cells i.cells 28)) := (Below.refl _ _).alloc (Nat.le_refl _) _
  have L1 : Hid _ := A1
  have B1 : Hid _ := alloc_at w (.cells i.cells 28)
  have hin : ImIn (w.alloc (.cells i.cells 28)) i := ⟨⟨b, off, hps.below A1⟩, h.wl, h.kern, h.keys, h.few, fun p hp => ⟨(h.all p hp).at'.below A1, (h.all p hp).nm, (h.all p hp).code, (h.all p hp).data, (h.all p hp).ks, (h.all p hp).ss, (h.all p hp).kl, (h.all p hp).sl⟩⟩
  have CH : Hid _ := iHeavy hin
  clear hin hps h hfi A1
  go_enter Try.func3, Try.ntmps3
  go_wp2_with (first | (refine wpList_mids (by rfl) 28 (.tmp 3) rfl w.heap.size 0 rfl i.cells _ (im_rng B1.out) HFI.out rfl (by rw [Im.size]; exact infoIm) ?_))
  refine Calls.mono CH.out ?_
  rintro e W ⟨rfl, b2⟩
  have L2 : Hid _ := below_step L1.out b2
  have B2 : Hid _ := kept_on B1.out b2
  clear b2 L1 B1 CH
  cases hh : heavyV i
  rotate_left
  · go_wp2_with fail
    refine (iawake _).mono ?_
    rintro e W2 ⟨rfl, b3⟩
    go_wp2
    go_ret
    exact ⟨rfl, below_step L2.out b3⟩
  obtain ⟨hok, h100, hall⟩ := light_ok HI.out hh
  have HO : Hid _ := hok
  have H100 : Hid (i.ps.length ≤ 100) := h100
  have HA : Hid _ := hall
  obtain ⟨K, OK, e1, e2⟩ := part_both i.ps nm
  have CP : Hid _ := iPart (HP.out.below L2.out) (by omega) nm
  rw [e1] at CP
  have E2 : Hid _ := e2
  clear hok h100 hall e1 e2 hh
  go_wp2_with (first | (refine wpList_mids (by rfl) 28 (.tmp 3) rfl w.heap.size 0 rfl i.cells _ (im_rng B2.out) HFI.out rfl (by rw [Im.size]; exact infoIm) ?_))
  refine Calls.mono CP.out ?_
  rintro e W3 ⟨rfl, b3⟩
  have L3 : Hid _ := below_step L2.out b3
  have B3 : Hid _ := kept_on B2.out b3
  have CR : Hid _ := rPart (HP.out.below L3.out) (by have := H100.out; omega) nm
  rw [E2.out] at CR
  clear b3 CP L2 B2 E2
  go_wp2_with (first | (refine wpList_mids (by rfl) 28 (.tmp 3) rfl w.heap.size 0 rfl i.cells _ (im_rng B3.out) HFI.out rfl (by rw [Im.size]; exact infoIm) ?_))
  refine Calls.mono CR.out ?_
  rintro e W4 ⟨rfl, b4⟩
  have A5 : Below W4.heap.size W4 (W4.alloc (.cells #[.int .i64 (K : Int), .bool OK] 34)) := (Below.refl _ _).alloc (Nat.le_refl _) _
  have L4 : Hid _ := below_step (below_step L3.out b4) A5
  have B4 : Hid _ := kept_on (kept_on B3.out b4) A5
  have d0 : (W4.alloc (.cells #[.int .i64 (K : Int), .bool OK] 34)).cell? ⟨W4.heap.size, 0, none⟩ = some (.int .i64 (K : Int)) := (cells_of (alloc_at W4 _)).1 0 _ rfl
  have d1 : (W4.alloc (.cells #[.int .i64 (K : Int), .bool OK] 34)).cell? ⟨W4.heap.size, 1, none⟩ = some (.bool OK) := (cells_of (alloc_at W4 _)).1 1 _ rfl
  have hk1 : ((K : Int) != (K : Int)) = false := by simp
  have hk2 : (OK != OK) = false := by simp
  clear b4 CR L3 B3 A5
  go_wp2_with fail
  generalize W4.alloc (.cells #[.int .i64 (K : Int), .bool OK] 34) = W5 at *
  have g0 := cell_regrown d0
  have g1 := cell_regrown d1
  clear d0 d1
  refine wp_region_quiet_below hm (by kernel_rfl) ?_
  iterate 11 (quiet_step (fail))
  refine wpQuiet_load (.agg i.cells) (by rfl) (im_load B4.out (.tmp 3) rfl (by rfl)) ?_
  quiet_step (exact tcheckIn (HP.out.below L4.out) HO.out H100.out _ _)
  refine wpQuiet_load (.agg i.cells) (by rfl) (im_load B4.out (.tmp 3) rfl (by rfl)) ?_
  quiet_step (exact trcheckIn (HP.out.below L4.out) HO.out H100.out _ _)
  have hcv : (checkV i != checkV i) = false := by simp
  generalize checkV i = cv at *
  repeat (quiet_step (fail))
  refine wpQuiet_nil ?_
  intro _ hw'
  obtain ⟨⟨dq, osq⟩, hw''⟩ := hw'
  subst hw''
  have b6 : Below W5.heap.size W5 (grow (redrawn W5 dq) osq) := below_regrown W5 dq osq
  generalize grow (redrawn W5 dq) osq = W6 at *
  have L6 : Hid _ := below_step L4.out b6
  have B6 : Hid _ := kept_on B4.out b6
  clear b6 g0 g1 L4 B4 hk1 hk2 hcv
  have c9 : W6.cell? ⟨w.heap.size, 9, none⟩ = some (.slice i.pa i.ps.length i.pc) := (cells_of B6.out).1 9 _ rfl
  obtain ⟨n, hn⟩ : ∃ n, n = i.ps.length := ⟨_, rfl⟩
  have HLN : Hid (i.ps.length = n) := hn.symm
  rw [← hn] at c9
  have n100 : n ≤ 100 := by have := H100.out; omega
  clear hn
  by_cases ha : 0 ≤ at'
  rotate_left
  · have d1 : ¬ 0 ≤ at' := ha
    go_wp2_with fail
    refine (iawake _).mono ?_
    rintro e W7 ⟨rfl, b7⟩
    go_wp2
    go_ret
    exact ⟨rfl, below_step L6.out b7⟩
  by_cases hb : at' < (n : Int)
  rotate_left
  · have d1 : ¬ at' < (n : Int) := hb
    go_wp2_with fail
    refine (iawake _).mono ?_
    rintro e W7 ⟨rfl, b7⟩
    go_wp2
    go_ret
    exact ⟨rfl, below_step L6.out b7⟩
  obtain ⟨q, rfl⟩ : ∃ q : Nat, at' = (q : Int) := ⟨at'.toNat, by omega⟩
  have hqn : q < n := by omega
  obtain ⟨p, hx⟩ : ∃ p, i.ps[q]? = some p := ⟨_, List.getElem?_eq_getElem (by rw [HLN.out]; exact hqn)⟩
  have HX : Hid _ := hx
  have I1 : Hid _ := HP.out.below L6.out
  obtain ⟨ea, _⟩ := I1.out.at' (I1.out.lt hx)
  rw [ea] at c9
  have hpp := HA.out p (List.mem_of_getElem? hx)
  have PO : Hid _ := hpp.2
  have PA : Hid _ := I1.out.in' p (List.mem_of_getElem? hx)
  obtain ⟨fp, hfp⟩ := undPt
  have HFP : Hid _ := hfp
  obtain ⟨A, OS, s1, s2, hA⟩ := sym_both (fun s hs => (hpp.2.ss s hs).2) nm
  have S1 : Hid _ := s1
  have S2 : Hid _ := s2
  have u0 : 0 ≤ A := hA.1
  have u1 : A < 4294967296 := hA.2
  clear hx ea hpp hfp s1 s2 hA
  go_wp2_with (first | (refine wpList_mids (by rfl) 40 (.tmp 55) rfl b (off + q * 11) rfl p.cells _ (I1.out.row q p HX.out) HFP.out rfl (by rw [Pt.size]; exact infoPt) ?_) | (refine wpList_fill rfl 40 (.tmp 10) (.tmp 56) rfl rfl p.cells rfl 40 _ (by rw [Pt.size]; exact infoPt) (by rw [Pt.size]; rfl) (Pt.one p) ?_))
  intro W7 R7 b7
  have R : Hid _ := R7
  have L7 : Hid _ := below_step L6.out b7
  have PA7 : Hid _ := PA.out.below b7
  have CS : Hid _ := iSym PA7.out PO.out.sl nm
  rw [S1.out] at CS
  clear R7 b7 I1 PA L6 S1 c9
  go_wp2_with (first | (refine wpList_row (by rfl) 40 (.tmp 10) rfl W6.heap.size rfl 40 p.cells _ R.out HFP.out rfl (by rw [Pt.size]; exact infoPt) ?_))
  refine Calls.mono CS.out ?_
  rintro e W8 ⟨rfl, b8⟩
  have L8 : Hid _ := below_step L7.out b8
  have R8 : Hid _ := kept_on R.out b8
  have CT : Hid _ := rSym (PA7.out.below b8) PO.out.sl (fun k y hy => (PO.out.ss y (List.mem_of_getElem? hy)).2) nm
  rw [S2.out] at CT
  clear b8 CS L7 R PA7 S2
  go_wp2_with (first | (refine wpList_row (by rfl) 40 (.tmp 10) rfl W6.heap.size rfl 40 p.cells _ R8.out HFP.out rfl (by rw [Pt.size]; exact infoPt) ?_))
  refine Calls.mono CT.out ?_
  rintro e W9 ⟨rfl, b9⟩
  have A10 : Below W9.heap.size W9 (W9.alloc (.cells #[.int .i64 A, .bool OS] 34)) := (Below.refl _ _).alloc (Nat.le_refl _) _
  have L10 : Hid _ := below_step (below_step L8.out b9) A10
  have hk1 : (A != A) = false := by simp
  have hk2 : (OS != OS) = false := by simp
  clear b9 CT L8 A10
  go_wp2_with fail
  refine (iawake _).mono ?_
  rintro e W11 ⟨rfl, b11⟩
  go_wp2
  go_ret
  exact ⟨rfl, below_step L10.out b11⟩
end Go.Proofs.Ytfjppgfnjjmkpaa
