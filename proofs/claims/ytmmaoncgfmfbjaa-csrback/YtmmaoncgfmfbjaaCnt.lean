/-
  Package csr: what a trap and a way back make: the contracts.
-/
import Derived.Test.YtmmaoncgfmfbjaaCnv
namespace Go.Proofs.Ytmmaoncgfmfbjaa
open Go.RowKit

set_option maxRecDepth 100000 in
set_option maxHeartbeats 4000000 in
theorem nTrap_true (f : Nat → Int) (c v : Int) (hu : ∀ i, U32 (f i)) (w : World) :
    Calls Try.prog 13 #[.agg (regs57 f true), .int .u32 c, .int .u32 v] w fun e w' => e = .returned (.agg (regs57 (trapF f true c v) false)) ∧ Below w.heap.size w w' := by
  have C3 : Hid _ := nbits (f 34) 3 1 (hu 34) (by decide) (by decide) (by decide) (by decide)
  have P7 : Hid _ := put_7_1
  have P3 : Hid _ := put_3_1
  have P11 : Hid _ := put_11_2
  have HT : Hid _ := trap_form (hu 34) true
  clear hu
  generalize bitsV (f 34) 3 1 = y3 at *
  have hbox := box57 f true
  obtain ⟨fs, hfs⟩ := und57
  have HS : Hid _ := hfs
  clear hfs
  have HB0 : ((w.alloc (.cells (regs57 f true) 27)).alloc (.cells (regs57 (fun _ => 0) false) 27)).heap[w.heap.size]? = some (.cells (regs57 f true) 27) := kept_block ((Below.refl _ _).alloc (Nat.le_refl _) _)
  have HZ0 : ((w.alloc (.cells (regs57 f true) 27)).alloc (.cells (regs57 (fun _ => 0) false) 27)).heap[w.heap.size + 1]? = some (.cells (regs57 (fun _ => 0) false) 27) := by have := alloc_at (w.alloc (.cells (regs57 f true) 27)) (.cells (regs57 (fun _ => 0) false) 27); rwa [World.size_alloc] at this
  have HL0 : Below w.heap.size w ((w.alloc (.cells (regs57 f true) 27)).alloc (.cells (regs57 (fun _ => 0) false) 27)) := box2
  have z57 := zero57
  go_enter Try.func13, Try.ntmps13
  go_wp2_with (first | (refine wpList_load_user rfl rfl rfl (by assumption) ?_))
  generalize (w.alloc (.cells (regs57 f true) 27)).alloc (.cells (regs57 (fun _ => 0) false) 27) = V at *
  have c34 : V.cell? ⟨w.heap.size, 34, none⟩ = some (.int .u32 (f 34)) := (cells_of HB0).1 34 _ (regs57_at f true 34 (by decide))
  go_quiet (first | (go_at_call 25; exact Calls.quiet_of_same (C3.out _)) | (go_at_call 24; exact Calls.quiet_of (P7.out _ _ _)))
  have b1 := below_draws (w := V) ⟨nq, rfl⟩
  have HB1 := kept_on HB0 b1
  have HZ1 := kept_on HZ0 b1
  have HL1 := below_step HL0 b1
  clear HB0 HZ0 HL0 b1
  generalize V.drewN nq = V1 at *
  clear c34
  go_wp2_with fail
  refine (P3.out _ _ _).mono ?_
  rintro e V2 ⟨rfl, b2⟩
  replace b2 := below_draws b2
  have HB2 := kept_on HB1 b2
  have HZ2 := kept_on HZ1 b2
  have HL2 := below_step HL1 b2
  clear HB1 HZ1 HL1 b2
  go_wp2_with fail
  refine (P11.out _ _ _).mono ?_
  rintro e V3 ⟨rfl, b3⟩
  replace b3 := below_draws b3
  have HB3 := kept_on HB2 b3
  have HZ3 := kept_on HZ2 b3
  have HL3 := below_step HL2 b3
  clear HB2 HZ2 HL2 b3
  have HE : bits .or .u32 (bits .andNot .u32 (bits .or .u32 (bits .andNot .u32 (bits .or .u32 (bits .andNot .u32 (f 34) 128) (y3 * 128 % 4294967296)) 8) 0) 6144) (0 * 2048 % 4294967296) = trapS (f 34) true := HT.out
  rw [HE]
  clear HE
  go_wp2_with (first | (refine wpList_load_reg rfl rfl rfl (by assumption) (by decide) (by decide) ?_) | (refine wpList_store_reg rfl rfl rfl rfl (by assumption) (by decide) (by decide) ?_; intro wn HBn HO HL; have HZn := Eq.trans (HO (w.heap.size + 1) (by omega)) (by assumption); have HLn := HL w.heap.size w (Nat.le_refl _) (by assumption); clear HO HL) | (refine wpList_store_user rfl rfl rfl rfl (by assumption) ?_; intro wn HBn HO HL; have HZn := Eq.trans (HO (w.heap.size + 1) (by omega)) (by assumption); have HLn := HL w.heap.size w (Nat.le_refl _) (by assumption); clear HO HL) | (refine wpList_load_row rfl 27 (.tmp 3) rfl _ rfl _ _ _ _ (by assumption) HS.out rfl (by rw [regs57_size]; exact info57) ?_) | (refine wpList_store_row rfl 27 (.tmp 6) (.tmp 34) rfl _ (regs57 _ _) rfl rfl _ _ (by assumption) (by rw [regs57_size]; exact info57) (by rw [regs57_size]; rfl) (regs57_one _ _) ?_))
  refine bodyPost_ret (results_cell_row rfl _ _ _ _ _ _ _ rfl (setRow_heap _ _ _ _ _ _ (by assumption)) HS.out rfl (by rw [regs57_size]; exact info57)) rfl ⟨ret57 (fun i _ _ => ?_) rfl, below_setRow (by assumption) (Nat.le_succ _) _⟩
  unfold trapF
  by_cases a1 : i = 32
  · subst a1; simp [set1]
  · by_cases a2 : i = 34
    · subst a2; simp [set1]
    · by_cases a3 : i = 38
      · subst a3; simp [set1]
      · by_cases a4 : i = 39
        · subst a4; simp [set1]
        · by_cases a5 : i = 40
          · subst a5; simp [set1]
          · simp [set1, a1, a2, a3, a4, a5]

set_option maxRecDepth 100000 in
set_option maxHeartbeats 4000000 in
theorem nTrap_false (f : Nat → Int) (c v : Int) (hu : ∀ i, U32 (f i)) (w : World) :
    Calls Try.prog 13 #[.agg (regs57 f false), .int .u32 c, .int .u32 v] w fun e w' => e = .returned (.agg (regs57 (trapF f false c v) false)) ∧ Below w.heap.size w w' := by
  have C3 : Hid _ := nbits (f 34) 3 1 (hu 34) (by decide) (by decide) (by decide) (by decide)
  have P7 : Hid _ := put_7_1
  have P3 : Hid _ := put_3_1
  have P11 : Hid _ := put_11_2
  have HT : Hid _ := trap_form (hu 34) false
  clear hu
  generalize bitsV (f 34) 3 1 = y3 at *
  have hbox := box57 f false
  obtain ⟨fs, hfs⟩ := und57
  have HS : Hid _ := hfs
  clear hfs
  have HB0 : ((w.alloc (.cells (regs57 f false) 27)).alloc (.cells (regs57 (fun _ => 0) false) 27)).heap[w.heap.size]? = some (.cells (regs57 f false) 27) := kept_block ((Below.refl _ _).alloc (Nat.le_refl _) _)
  have HZ0 : ((w.alloc (.cells (regs57 f false) 27)).alloc (.cells (regs57 (fun _ => 0) false) 27)).heap[w.heap.size + 1]? = some (.cells (regs57 (fun _ => 0) false) 27) := by have := alloc_at (w.alloc (.cells (regs57 f false) 27)) (.cells (regs57 (fun _ => 0) false) 27); rwa [World.size_alloc] at this
  have HL0 : Below w.heap.size w ((w.alloc (.cells (regs57 f false) 27)).alloc (.cells (regs57 (fun _ => 0) false) 27)) := box2
  have z57 := zero57
  go_enter Try.func13, Try.ntmps13
  go_wp2_with (first | (refine wpList_load_user rfl rfl rfl (by assumption) ?_))
  generalize (w.alloc (.cells (regs57 f false) 27)).alloc (.cells (regs57 (fun _ => 0) false) 27) = V at *
  have c34 : V.cell? ⟨w.heap.size, 34, none⟩ = some (.int .u32 (f 34)) := (cells_of HB0).1 34 _ (regs57_at f false 34 (by decide))
  go_quiet (first | (go_at_call 25; exact Calls.quiet_of_same (C3.out _)) | (go_at_call 24; exact Calls.quiet_of (P7.out _ _ _)))
  have b1 := below_draws (w := V) ⟨nq, rfl⟩
  have HB1 := kept_on HB0 b1
  have HZ1 := kept_on HZ0 b1
  have HL1 := below_step HL0 b1
  clear HB0 HZ0 HL0 b1
  generalize V.drewN nq = V1 at *
  clear c34
  go_wp2_with fail
  refine (P3.out _ _ _).mono ?_
  rintro e V2 ⟨rfl, b2⟩
  replace b2 := below_draws b2
  have HB2 := kept_on HB1 b2
  have HZ2 := kept_on HZ1 b2
  have HL2 := below_step HL1 b2
  clear HB1 HZ1 HL1 b2
  go_wp2_with fail
  refine (P11.out _ _ _).mono ?_
  rintro e V3 ⟨rfl, b3⟩
  replace b3 := below_draws b3
  have HB3 := kept_on HB2 b3
  have HZ3 := kept_on HZ2 b3
  have HL3 := below_step HL2 b3
  clear HB2 HZ2 HL2 b3
  have HE : bits .or .u32 (bits .andNot .u32 (bits .or .u32 (bits .andNot .u32 (bits .or .u32 (bits .andNot .u32 (f 34) 128) (y3 * 128 % 4294967296)) 8) 0) 6144) (3 * 2048 % 4294967296) = trapS (f 34) false := HT.out
  rw [HE]
  clear HE
  go_wp2_with (first | (refine wpList_load_reg rfl rfl rfl (by assumption) (by decide) (by decide) ?_) | (refine wpList_store_reg rfl rfl rfl rfl (by assumption) (by decide) (by decide) ?_; intro wn HBn HO HL; have HZn := Eq.trans (HO (w.heap.size + 1) (by omega)) (by assumption); have HLn := HL w.heap.size w (Nat.le_refl _) (by assumption); clear HO HL) | (refine wpList_store_user rfl rfl rfl rfl (by assumption) ?_; intro wn HBn HO HL; have HZn := Eq.trans (HO (w.heap.size + 1) (by omega)) (by assumption); have HLn := HL w.heap.size w (Nat.le_refl _) (by assumption); clear HO HL) | (refine wpList_load_row rfl 27 (.tmp 3) rfl _ rfl _ _ _ _ (by assumption) HS.out rfl (by rw [regs57_size]; exact info57) ?_) | (refine wpList_store_row rfl 27 (.tmp 6) (.tmp 34) rfl _ (regs57 _ _) rfl rfl _ _ (by assumption) (by rw [regs57_size]; exact info57) (by rw [regs57_size]; rfl) (regs57_one _ _) ?_))
  refine bodyPost_ret (results_cell_row rfl _ _ _ _ _ _ _ rfl (setRow_heap _ _ _ _ _ _ (by assumption)) HS.out rfl (by rw [regs57_size]; exact info57)) rfl ⟨ret57 (fun i _ _ => ?_) rfl, below_setRow (by assumption) (Nat.le_succ _) _⟩
  unfold trapF
  by_cases a1 : i = 32
  · subst a1; simp [set1]
  · by_cases a2 : i = 34
    · subst a2; simp [set1]
    · by_cases a3 : i = 38
      · subst a3; simp [set1]
      · by_cases a4 : i = 39
        · subst a4; simp [set1]
        · by_cases a5 : i = 40
          · subst a5; simp [set1]
          · simp [set1, a1, a2, a3, a4, a5]

theorem nTrap (f : Nat → Int) (u : Bool) (hu : ∀ i, U32 (f i)) (c v : Int) (w : World) :
    Calls Try.prog 13 #[.agg (regs57 f u), .int .u32 c, .int .u32 v] w fun e w' => e = .returned (.agg (regs57 (trapF f u c v) false)) ∧ Below w.heap.size w w' := by
  cases u
  · exact nTrap_false f c v hu w
  · exact nTrap_true f c v hu w

set_option maxRecDepth 100000 in
set_option maxHeartbeats 4000000 in
theorem nRet (f : Nat → Int) (u : Bool) (hu : ∀ i, U32 (f i)) (w : World) :
    Calls Try.prog 15 #[.agg (regs57 f u)] w fun e w' => e = .returned (.agg (regs57 (retF f) (retU f))) ∧ Below w.heap.size w w' := by
  have C11 : Hid _ := nbits (f 34) 11 1 (hu 34) (by decide) (by decide) (by decide) (by decide)
  have C7 : Hid _ := nbits (f 34) 7 1 (hu 34) (by decide) (by decide) (by decide) (by decide)
  have P7 : Hid _ := put_7_1
  have P3 : Hid _ := put_3_1
  have P11 : Hid _ := put_11_2
  have HT : Hid _ := ret_form (hu 34)
  have HR : Hid (retU f = (bitsV (f 34) 11 1 == 0)) := rfl
  clear hu
  generalize bitsV (f 34) 7 1 = y7 at *
  generalize bitsV (f 34) 11 1 = y11 at *
  have hbox := box57 f u
  obtain ⟨fs, hfs⟩ := und57
  have HS : Hid _ := hfs
  clear hfs
  have HB0 : ((w.alloc (.cells (regs57 f u) 27)).alloc (.cells (regs57 (fun _ => 0) false) 27)).heap[w.heap.size]? = some (.cells (regs57 f u) 27) := kept_block ((Below.refl _ _).alloc (Nat.le_refl _) _)
  have HZ0 : ((w.alloc (.cells (regs57 f u) 27)).alloc (.cells (regs57 (fun _ => 0) false) 27)).heap[w.heap.size + 1]? = some (.cells (regs57 (fun _ => 0) false) 27) := by have := alloc_at (w.alloc (.cells (regs57 f u) 27)) (.cells (regs57 (fun _ => 0) false) 27); rwa [World.size_alloc] at this
  have HL0 : Below w.heap.size w ((w.alloc (.cells (regs57 f u) 27)).alloc (.cells (regs57 (fun _ => 0) false) 27)) := box2
  have z57 := zero57
  go_enter Try.func15, Try.ntmps15
  go_wp2_with (first | (refine wpList_load_reg rfl rfl rfl (by assumption) (by decide) (by decide) ?_))
  refine (C11.out _).mono ?_
  rintro e wq ⟨rfl, rfl⟩
  go_wp2_with (first | (refine wpList_store_user rfl rfl rfl rfl (by assumption) ?_; intro wn HBn HO HL; have HZn := Eq.trans (HO (w.heap.size + 1) (by omega)) (by assumption); have HLn := HL w.heap.size w (Nat.le_refl _) (by assumption); clear HO HL))
  clear HB0 HZ0 HL0
  have c34 : wn.cell? ⟨w.heap.size, 34, none⟩ = some (.int .u32 (f 34)) := (cells_of HBn).1 34 _ (regs57_at f _ 34 (by decide))
  go_quiet (first | (go_at_call 25; exact Calls.quiet_of_same (C7.out _)) | (go_at_call 24; exact Calls.quiet_of (P3.out _ _ _)))
  have b1 := below_draws (w := wn) ⟨nq, rfl⟩
  have HB1 := kept_on HBn b1
  have HZ1 := kept_on HZn b1
  have HL1 := below_step HLn b1
  clear HBn HZn HLn b1
  generalize wn.drewN nq = V1 at *
  clear c34
  go_wp2_with fail
  refine (P7.out _ _ _).mono ?_
  rintro e V2 ⟨rfl, b2⟩
  replace b2 := below_draws b2
  have HB2 := kept_on HB1 b2
  have HZ2 := kept_on HZ1 b2
  have HL2 := below_step HL1 b2
  clear HB1 HZ1 HL1 b2
  go_wp2_with fail
  refine (P11.out _ _ _).mono ?_
  rintro e V3 ⟨rfl, b3⟩
  replace b3 := below_draws b3
  have HB3 := kept_on HB2 b3
  have HZ3 := kept_on HZ2 b3
  have HL3 := below_step HL2 b3
  clear HB2 HZ2 HL2 b3
  rw [show (0 * 2048 % 4294967296 : Int) = 0 from rfl, HT.out]
  go_wp2_with (first | (refine wpList_load_reg rfl rfl rfl (by assumption) (by decide) (by decide) ?_) | (refine wpList_store_reg rfl rfl rfl rfl (by assumption) (by decide) (by decide) ?_; intro wn HBn HO HL; have HZn := Eq.trans (HO (w.heap.size + 1) (by omega)) (by assumption); have HLn := HL w.heap.size w (Nat.le_refl _) (by assumption); clear HO HL) | (refine wpList_load_row rfl 27 (.tmp 1) rfl _ rfl _ _ _ _ (by assumption) HS.out rfl (by rw [regs57_size]; exact info57) ?_) | (refine wpList_store_row rfl 27 (.tmp 2) (.tmp 23) rfl _ (regs57 _ _) rfl rfl _ _ (by assumption) (by rw [regs57_size]; exact info57) (by rw [regs57_size]; rfl) (regs57_one _ _) ?_))
  refine bodyPost_ret (results_cell_row rfl _ _ _ _ _ _ _ rfl (setRow_heap _ _ _ _ _ _ (by assumption)) HS.out rfl (by rw [regs57_size]; exact info57)) rfl ⟨ret57 (fun i _ _ => ?_) HR.out.symm, below_setRow (by assumption) (Nat.le_succ _) _⟩
  unfold retF
  by_cases a1 : i = 32
  · subst a1; simp [set1]
  · by_cases a2 : i = 34
    · subst a2; simp [set1]
    · simp [set1, a1, a2]
end Go.Proofs.Ytmmaoncgfmfbjaa
