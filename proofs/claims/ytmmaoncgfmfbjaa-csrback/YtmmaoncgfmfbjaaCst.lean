/-
  What a trap makes of registers, by the document: contract of the function that the statements bear.
-/
import Derived.Test.YtmmaoncgfmfbjaaCsv
namespace Go.Proofs.Ytmmaoncgfmfbjaa
open Go.RowKit

set_option maxRecDepth 100000 in
set_option maxHeartbeats 4000000 in
theorem rTrap_true (f : Nat → Int) (c v : Int) (hu : ∀ i, U32 (f i)) (w : World) :
    Calls Try.prog 14 #[.agg (regs57 f true), .int .u32 c, .int .u32 v] w fun e w' => e = .returned (.agg (regs57 (trapF f true c v) false)) ∧ Below w.heap.size w w' := by
  have HB3 : Hid _ := rBits (f 34) 3 1 (hu 34)
  have hbox := box57 f true
  obtain ⟨fs, hfs⟩ := und57
  have HS : Hid _ := hfs
  clear hfs
  have H0 : Hid (∀ Z, ((w.alloc (.cells (regs57 f true) 27)).alloc Z).heap[w.heap.size]? = some (.cells (regs57 f true) 27)) := fun Z => kept_block ((Below.refl _ _).alloc (Nat.le_refl _) _)
  have Z0 : Hid (∀ Z, ((w.alloc (.cells (regs57 f true) 27)).alloc Z).heap[w.heap.size + 1]? = some Z) := fun Z => by have := alloc_at (w.alloc (.cells (regs57 f true) 27)) Z; rwa [World.size_alloc] at this
  clear hu
  generalize hy : bitsV (f 34) 3 1 = y3 at *
  have HY : Hid _ := hy
  clear hy
  by_cases h3 : y3 = 1
  · have b3 : (y3 == 1) = true := by simpa using h3
    have HE : Hid (trapS (f 34) true = bits .or .u32 (bits .andNot .u32 (f 34) 6280) 128) := by
      show _ = _
      unfold trapS
      rw [HY.out]
      simp [h3]
    clear HY h3
    go_enter Try.func14, Try.ntmps14
    go_wp2_with (first | (refine wpList_load_reg rfl rfl rfl (by assumption) (by decide) (by decide) ?_) | (refine wpList_load_reg rfl rfl rfl (H0.out _) (by decide) (by decide) ?_) | (refine wpList_load_user rfl rfl rfl (by assumption) ?_) | (refine wpList_store_reg rfl rfl rfl rfl (by assumption) (by decide) (by decide) ?_; intro wn HBn HO HL; have HZn := Eq.trans (HO (w.heap.size + 1) (by omega)) (by assumption); have HLn := HL w.heap.size w (Nat.le_refl _) (by assumption); clear HO HL) | (refine wpList_store_reg rfl rfl rfl rfl (H0.out _) (by decide) (by decide) ?_; intro wn HBn HO HL; have HZn := Eq.trans (HO (w.heap.size + 1) (by omega)) (Z0.out _); have HLn := HL w.heap.size w (Nat.le_refl _) box2; clear HO HL) | (refine wpList_store_user rfl rfl rfl rfl (by assumption) ?_; intro wn HBn HO HL; have HZn := Eq.trans (HO (w.heap.size + 1) (by omega)) (by assumption); have HLn := HL w.heap.size w (Nat.le_refl _) (by assumption); clear HO HL) | (refine wpList_load_row rfl 27 (.tmp 3) rfl _ rfl _ _ _ _ (by assumption) HS.out rfl (by rw [regs57_size]; exact info57) ?_) | (refine wpList_store_row rfl 27 (.tmp 6) (.tmp 38) rfl _ (regs57 _ _) rfl rfl _ _ (by assumption) (by rw [regs57_size]; exact info57) (by rw [regs57_size]; rfl) (regs57_one _ _) ?_))
    refine (HB3.out _).mono ?_
    rintro e wq ⟨rfl, rfl⟩
    go_wp2_with (first | (refine wpList_load_reg rfl rfl rfl (by assumption) (by decide) (by decide) ?_) | (refine wpList_load_reg rfl rfl rfl (H0.out _) (by decide) (by decide) ?_) | (refine wpList_load_user rfl rfl rfl (by assumption) ?_) | (refine wpList_store_reg rfl rfl rfl rfl (by assumption) (by decide) (by decide) ?_; intro wn HBn HO HL; have HZn := Eq.trans (HO (w.heap.size + 1) (by omega)) (by assumption); have HLn := HL w.heap.size w (Nat.le_refl _) (by assumption); clear HO HL) | (refine wpList_store_reg rfl rfl rfl rfl (H0.out _) (by decide) (by decide) ?_; intro wn HBn HO HL; have HZn := Eq.trans (HO (w.heap.size + 1) (by omega)) (Z0.out _); have HLn := HL w.heap.size w (Nat.le_refl _) box2; clear HO HL) | (refine wpList_store_user rfl rfl rfl rfl (by assumption) ?_; intro wn HBn HO HL; have HZn := Eq.trans (HO (w.heap.size + 1) (by omega)) (by assumption); have HLn := HL w.heap.size w (Nat.le_refl _) (by assumption); clear HO HL) | (refine wpList_load_row rfl 27 (.tmp 3) rfl _ rfl _ _ _ _ (by assumption) HS.out rfl (by rw [regs57_size]; exact info57) ?_) | (refine wpList_store_row rfl 27 (.tmp 6) (.tmp 38) rfl _ (regs57 _ _) rfl rfl _ _ (by assumption) (by rw [regs57_size]; exact info57) (by rw [regs57_size]; rfl) (regs57_one _ _) ?_))
    refine bodyPost_ret (results_cell_row rfl _ _ _ _ _ _ _ rfl (setRow_heap _ _ _ _ _ _ (by assumption)) HS.out rfl (by rw [regs57_size]; exact info57)) rfl ⟨ret57 (fun i _ _ => ?_) ?_, below_setRow (by assumption) (Nat.le_succ _) _⟩
    · unfold trapF
      rw [HE.out]
      by_cases a1 : i = 32
      · subst a1; simp [set1]
      · by_cases a2 : i = 34
        · subst a2; simp [set1]
        · by_cases a3 : i = 38
          · subst a3; simp [set1]
          · by_cases a4 : i = 39
            · subst a4; simp [set1]
            · by_cases a5 : i = 40
              · subst a5; simp [set1]
              · simp [set1, a1, a2, a3, a4, a5]
    · rfl
  · have b3 : (y3 == 1) = false := by simpa using h3
    have HE : Hid (trapS (f 34) true = bits .andNot .u32 (f 34) 6280) := by
      show _ = _
      unfold trapS
      rw [HY.out]
      simp [h3]
    clear HY h3
    go_enter Try.func14, Try.ntmps14
    go_wp2_with (first | (refine wpList_load_reg rfl rfl rfl (by assumption) (by decide) (by decide) ?_) | (refine wpList_load_reg rfl rfl rfl (H0.out _) (by decide) (by decide) ?_) | (refine wpList_load_user rfl rfl rfl (by assumption) ?_) | (refine wpList_store_reg rfl rfl rfl rfl (by assumption) (by decide) (by decide) ?_; intro wn HBn HO HL; have HZn := Eq.trans (HO (w.heap.size + 1) (by omega)) (by assumption); have HLn := HL w.heap.size w (Nat.le_refl _) (by assumption); clear HO HL) | (refine wpList_store_reg rfl rfl rfl rfl (H0.out _) (by decide) (by decide) ?_; intro wn HBn HO HL; have HZn := Eq.trans (HO (w.heap.size + 1) (by omega)) (Z0.out _); have HLn := HL w.heap.size w (Nat.le_refl _) box2; clear HO HL) | (refine wpList_store_user rfl rfl rfl rfl (by assumption) ?_; intro wn HBn HO HL; have HZn := Eq.trans (HO (w.heap.size + 1) (by omega)) (by assumption); have HLn := HL w.heap.size w (Nat.le_refl _) (by assumption); clear HO HL) | (refine wpList_load_row rfl 27 (.tmp 3) rfl _ rfl _ _ _ _ (by assumption) HS.out rfl (by rw [regs57_size]; exact info57) ?_) | (refine wpList_store_row rfl 27 (.tmp 6) (.tmp 38) rfl _ (regs57 _ _) rfl rfl _ _ (by assumption) (by rw [regs57_size]; exact info57) (by rw [regs57_size]; rfl) (regs57_one _ _) ?_))
    refine (HB3.out _).mono ?_
    rintro e wq ⟨rfl, rfl⟩
    go_wp2_with (first | (refine wpList_load_reg rfl rfl rfl (by assumption) (by decide) (by decide) ?_) | (refine wpList_load_reg rfl rfl rfl (H0.out _) (by decide) (by decide) ?_) | (refine wpList_load_user rfl rfl rfl (by assumption) ?_) | (refine wpList_store_reg rfl rfl rfl rfl (by assumption) (by decide) (by decide) ?_; intro wn HBn HO HL; have HZn := Eq.trans (HO (w.heap.size + 1) (by omega)) (by assumption); have HLn := HL w.heap.size w (Nat.le_refl _) (by assumption); clear HO HL) | (refine wpList_store_reg rfl rfl rfl rfl (H0.out _) (by decide) (by decide) ?_; intro wn HBn HO HL; have HZn := Eq.trans (HO (w.heap.size + 1) (by omega)) (Z0.out _); have HLn := HL w.heap.size w (Nat.le_refl _) box2; clear HO HL) | (refine wpList_store_user rfl rfl rfl rfl (by assumption) ?_; intro wn HBn HO HL; have HZn := Eq.trans (HO (w.heap.size + 1) (by omega)) (by assumption); have HLn := HL w.heap.size w (Nat.le_refl _) (by assumption); clear HO HL) | (refine wpList_load_row rfl 27 (.tmp 3) rfl _ rfl _ _ _ _ (by assumption) HS.out rfl (by rw [regs57_size]; exact info57) ?_) | (refine wpList_store_row rfl 27 (.tmp 6) (.tmp 38) rfl _ (regs57 _ _) rfl rfl _ _ (by assumption) (by rw [regs57_size]; exact info57) (by rw [regs57_size]; rfl) (regs57_one _ _) ?_))
    refine bodyPost_ret (results_cell_row rfl _ _ _ _ _ _ _ rfl (setRow_heap _ _ _ _ _ _ (by assumption)) HS.out rfl (by rw [regs57_size]; exact info57)) rfl ⟨ret57 (fun i _ _ => ?_) ?_, below_setRow (by assumption) (Nat.le_succ _) _⟩
    · unfold trapF
      rw [HE.out]
      by_cases a1 : i = 32
      · subst a1; simp [set1]
      · by_cases a2 : i = 34
        · subst a2; simp [set1]
        · by_cases a3 : i = 38
          · subst a3; simp [set1]
          · by_cases a4 : i = 39
            · subst a4; simp [set1]
            · by_cases a5 : i = 40
              · subst a5; simp [set1]
              · simp [set1, a1, a2, a3, a4, a5]
    · rfl

set_option maxRecDepth 100000 in
set_option maxHeartbeats 4000000 in
theorem rTrap_false (f : Nat → Int) (c v : Int) (hu : ∀ i, U32 (f i)) (w : World) :
    Calls Try.prog 14 #[.agg (regs57 f false), .int .u32 c, .int .u32 v] w fun e w' => e = .returned (.agg (regs57 (trapF f false c v) false)) ∧ Below w.heap.size w w' := by
  have HB3 : Hid _ := rBits (f 34) 3 1 (hu 34)
  have hbox := box57 f false
  obtain ⟨fs, hfs⟩ := und57
  have HS : Hid _ := hfs
  clear hfs
  have H0 : Hid (∀ Z, ((w.alloc (.cells (regs57 f false) 27)).alloc Z).heap[w.heap.size]? = some (.cells (regs57 f false) 27)) := fun Z => kept_block ((Below.refl _ _).alloc (Nat.le_refl _) _)
  have Z0 : Hid (∀ Z, ((w.alloc (.cells (regs57 f false) 27)).alloc Z).heap[w.heap.size + 1]? = some Z) := fun Z => by have := alloc_at (w.alloc (.cells (regs57 f false) 27)) Z; rwa [World.size_alloc] at this
  clear hu
  generalize hy : bitsV (f 34) 3 1 = y3 at *
  have HY : Hid _ := hy
  clear hy
  by_cases h3 : y3 = 1
  · have b3 : (y3 == 1) = true := by simpa using h3
    have HE : Hid (trapS (f 34) false = bits .or .u32 (bits .or .u32 (bits .andNot .u32 (f 34) 6280) 128) 6144) := by
      show _ = _
      unfold trapS
      rw [HY.out]
      simp [h3]
    clear HY h3
    go_enter Try.func14, Try.ntmps14
    go_wp2_with (first | (refine wpList_load_reg rfl rfl rfl (by assumption) (by decide) (by decide) ?_) | (refine wpList_load_reg rfl rfl rfl (H0.out _) (by decide) (by decide) ?_) | (refine wpList_load_user rfl rfl rfl (by assumption) ?_) | (refine wpList_store_reg rfl rfl rfl rfl (by assumption) (by decide) (by decide) ?_; intro wn HBn HO HL; have HZn := Eq.trans (HO (w.heap.size + 1) (by omega)) (by assumption); have HLn := HL w.heap.size w (Nat.le_refl _) (by assumption); clear HO HL) | (refine wpList_store_reg rfl rfl rfl rfl (H0.out _) (by decide) (by decide) ?_; intro wn HBn HO HL; have HZn := Eq.trans (HO (w.heap.size + 1) (by omega)) (Z0.out _); have HLn := HL w.heap.size w (Nat.le_refl _) box2; clear HO HL) | (refine wpList_store_user rfl rfl rfl rfl (by assumption) ?_; intro wn HBn HO HL; have HZn := Eq.trans (HO (w.heap.size + 1) (by omega)) (by assumption); have HLn := HL w.heap.size w (Nat.le_refl _) (by assumption); clear HO HL) | (refine wpList_load_row rfl 27 (.tmp 3) rfl _ rfl _ _ _ _ (by assumption) HS.out rfl (by rw [regs57_size]; exact info57) ?_) | (refine wpList_store_row rfl 27 (.tmp 6) (.tmp 38) rfl _ (regs57 _ _) rfl rfl _ _ (by assumption) (by rw [regs57_size]; exact info57) (by rw [regs57_size]; rfl) (regs57_one _ _) ?_))
    refine (HB3.out _).mono ?_
    rintro e wq ⟨rfl, rfl⟩
    go_wp2_with (first | (refine wpList_load_reg rfl rfl rfl (by assumption) (by decide) (by decide) ?_) | (refine wpList_load_reg rfl rfl rfl (H0.out _) (by decide) (by decide) ?_) | (refine wpList_load_user rfl rfl rfl (by assumption) ?_) | (refine wpList_store_reg rfl rfl rfl rfl (by assumption) (by decide) (by decide) ?_; intro wn HBn HO HL; have HZn := Eq.trans (HO (w.heap.size + 1) (by omega)) (by assumption); have HLn := HL w.heap.size w (Nat.le_refl _) (by assumption); clear HO HL) | (refine wpList_store_reg rfl rfl rfl rfl (H0.out _) (by decide) (by decide) ?_; intro wn HBn HO HL; have HZn := Eq.trans (HO (w.heap.size + 1) (by omega)) (Z0.out _); have HLn := HL w.heap.size w (Nat.le_refl _) box2; clear HO HL) | (refine wpList_store_user rfl rfl rfl rfl (by assumption) ?_; intro wn HBn HO HL; have HZn := Eq.trans (HO (w.heap.size + 1) (by omega)) (by assumption); have HLn := HL w.heap.size w (Nat.le_refl _) (by assumption); clear HO HL) | (refine wpList_load_row rfl 27 (.tmp 3) rfl _ rfl _ _ _ _ (by assumption) HS.out rfl (by rw [regs57_size]; exact info57) ?_) | (refine wpList_store_row rfl 27 (.tmp 6) (.tmp 38) rfl _ (regs57 _ _) rfl rfl _ _ (by assumption) (by rw [regs57_size]; exact info57) (by rw [regs57_size]; rfl) (regs57_one _ _) ?_))
    refine bodyPost_ret (results_cell_row rfl _ _ _ _ _ _ _ rfl (setRow_heap _ _ _ _ _ _ (by assumption)) HS.out rfl (by rw [regs57_size]; exact info57)) rfl ⟨ret57 (fun i _ _ => ?_) ?_, below_setRow (by assumption) (Nat.le_succ _) _⟩
    · unfold trapF
      rw [HE.out]
      by_cases a1 : i = 32
      · subst a1; simp [set1]
      · by_cases a2 : i = 34
        · subst a2; simp [set1]
        · by_cases a3 : i = 38
          · subst a3; simp [set1]
          · by_cases a4 : i = 39
            · subst a4; simp [set1]
            · by_cases a5 : i = 40
              · subst a5; simp [set1]
              · simp [set1, a1, a2, a3, a4, a5]
    · rfl
  · have b3 : (y3 == 1) = false := by simpa using h3
    have HE : Hid (trapS (f 34) false = bits .or .u32 (bits .andNot .u32 (f 34) 6280) 6144) := by
      show _ = _
      unfold trapS
      rw [HY.out]
      simp [h3]
    clear HY h3
    go_enter Try.func14, Try.ntmps14
    go_wp2_with (first | (refine wpList_load_reg rfl rfl rfl (by assumption) (by decide) (by decide) ?_) | (refine wpList_load_reg rfl rfl rfl (H0.out _) (by decide) (by decide) ?_) | (refine wpList_load_user rfl rfl rfl (by assumption) ?_) | (refine wpList_store_reg rfl rfl rfl rfl (by assumption) (by decide) (by decide) ?_; intro wn HBn HO HL; have HZn := Eq.trans (HO (w.heap.size + 1) (by omega)) (by assumption); have HLn := HL w.heap.size w (Nat.le_refl _) (by assumption); clear HO HL) | (refine wpList_store_reg rfl rfl rfl rfl (H0.out _) (by decide) (by decide) ?_; intro wn HBn HO HL; have HZn := Eq.trans (HO (w.heap.size + 1) (by omega)) (Z0.out _); have HLn := HL w.heap.size w (Nat.le_refl _) box2; clear HO HL) | (refine wpList_store_user rfl rfl rfl rfl (by assumption) ?_; intro wn HBn HO HL; have HZn := Eq.trans (HO (w.heap.size + 1) (by omega)) (by assumption); have HLn := HL w.heap.size w (Nat.le_refl _) (by assumption); clear HO HL) | (refine wpList_load_row rfl 27 (.tmp 3) rfl _ rfl _ _ _ _ (by assumption) HS.out rfl (by rw [regs57_size]; exact info57) ?_) | (refine wpList_store_row rfl 27 (.tmp 6) (.tmp 38) rfl _ (regs57 _ _) rfl rfl _ _ (by assumption) (by rw [regs57_size]; exact info57) (by rw [regs57_size]; rfl) (regs57_one _ _) ?_))
    refine (HB3.out _).mono ?_
    rintro e wq ⟨rfl, rfl⟩
    go_wp2_with (first | (refine wpList_load_reg rfl rfl rfl (by assumption) (by decide) (by decide) ?_) | (refine wpList_load_reg rfl rfl rfl (H0.out _) (by decide) (by decide) ?_) | (refine wpList_load_user rfl rfl rfl (by assumption) ?_) | (refine wpList_store_reg rfl rfl rfl rfl (by assumption) (by decide) (by decide) ?_; intro wn HBn HO HL; have HZn := Eq.trans (HO (w.heap.size + 1) (by omega)) (by assumption); have HLn := HL w.heap.size w (Nat.le_refl _) (by assumption); clear HO HL) | (refine wpList_store_reg rfl rfl rfl rfl (H0.out _) (by decide) (by decide) ?_; intro wn HBn HO HL; have HZn := Eq.trans (HO (w.heap.size + 1) (by omega)) (Z0.out _); have HLn := HL w.heap.size w (Nat.le_refl _) box2; clear HO HL) | (refine wpList_store_user rfl rfl rfl rfl (by assumption) ?_; intro wn HBn HO HL; have HZn := Eq.trans (HO (w.heap.size + 1) (by omega)) (by assumption); have HLn := HL w.heap.size w (Nat.le_refl _) (by assumption); clear HO HL) | (refine wpList_load_row rfl 27 (.tmp 3) rfl _ rfl _ _ _ _ (by assumption) HS.out rfl (by rw [regs57_size]; exact info57) ?_) | (refine wpList_store_row rfl 27 (.tmp 6) (.tmp 38) rfl _ (regs57 _ _) rfl rfl _ _ (by assumption) (by rw [regs57_size]; exact info57) (by rw [regs57_size]; rfl) (regs57_one _ _) ?_))
    refine bodyPost_ret (results_cell_row rfl _ _ _ _ _ _ _ rfl (setRow_heap _ _ _ _ _ _ (by assumption)) HS.out rfl (by rw [regs57_size]; exact info57)) rfl ⟨ret57 (fun i _ _ => ?_) ?_, below_setRow (by assumption) (Nat.le_succ _) _⟩
    · unfold trapF
      rw [HE.out]
      by_cases a1 : i = 32
      · subst a1; simp [set1]
      · by_cases a2 : i = 34
        · subst a2; simp [set1]
        · by_cases a3 : i = 38
          · subst a3; simp [set1]
          · by_cases a4 : i = 39
            · subst a4; simp [set1]
            · by_cases a5 : i = 40
              · subst a5; simp [set1]
              · simp [set1, a1, a2, a3, a4, a5]
    · rfl

theorem rTrap (f : Nat → Int) (u : Bool) (c v : Int) (hu : ∀ i, U32 (f i)) (w : World) :
    Calls Try.prog 14 #[.agg (regs57 f u), .int .u32 c, .int .u32 v] w fun e w' => e = .returned (.agg (regs57 (trapF f u c v) false)) ∧ Below w.heap.size w w' := by
  cases u
  · exact rTrap_false f c v hu w
  · exact rTrap_true f c v hu w
end Go.Proofs.Ytmmaoncgfmfbjaa
