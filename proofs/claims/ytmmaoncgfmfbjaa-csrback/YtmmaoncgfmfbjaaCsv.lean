/-
  Registers of a core as plain data: fifty-seven cells, all words but one; what the document's functions make of them.
-/
import Derived.Test.YtmmaoncgfmfbjaaCellw
import Derived.Test.YtmmaoncgfmfbjaaRefb
import Derived.Laws.CopyOwn
namespace Go.Proofs.Ytmmaoncgfmfbjaa
open Go.RowKit

def rv (f : Nat → Int) (u : Bool) (i : Nat) : Value := if i = 33 then .bool u else .int .u32 (f i)
/-- The registers: the words f, cell by cell, and whether it is User. -/
def regs57 (f : Nat → Int) (u : Bool) : Array Value := ((List.range 57).map (rv f u)).toArray
theorem regs57_size (f : Nat → Int) (u : Bool) : (regs57 f u).size = 57 := by simp [regs57]
theorem regs57_at (f : Nat → Int) (u : Bool) (i : Nat) (h : i < 57) : (regs57 f u)[i]? = some (rv f u i) := by simp [regs57, h]
theorem regs57_one (f : Nat → Int) (u : Bool) : (regs57 f u).all (·.oneCell') = true := by
  rw [Array.all_eq_true]
  intro i hi
  have h1 : i < 57 := by rwa [regs57_size] at hi
  have h2 := regs57_at f u i h1
  rw [Array.getElem?_eq_getElem hi, Option.some.injEq] at h2
  rw [h2]
  unfold rv
  split <;> rfl
def set1 (f : Nat → Int) (i : Nat) (x : Int) (j : Nat) : Int := if j = i then x else f j
theorem regs57_ext {f g : Nat → Int} {u : Bool} (h : ∀ i, i < 57 → i ≠ 33 → f i = g i) : regs57 f u = regs57 g u := by
  unfold regs57
  congr 1
  apply List.map_congr_left
  intro i hi
  unfold rv
  by_cases h3 : i = 33
  · rw [if_pos h3, if_pos h3]
  · rw [if_neg h3, if_neg h3, h i (by simpa using hi) h3]
theorem regs57_put (f : Nat → Int) (u : Bool) (i : Nat) (x : Int) (hi : i ≠ 33) : (regs57 f u).setIfInBounds i (.int .u32 x) = regs57 (set1 f i x) u := by
  apply Array.ext_getElem?
  intro j
  rw [Array.getElem?_setIfInBounds]
  by_cases hj : j < 57
  · by_cases hij : i = j
    · subst hij
      rw [if_pos rfl, regs57_size, if_pos hj, regs57_at _ _ i hj]
      simp [rv, set1, hi]
    · rw [if_neg hij, regs57_at _ _ j hj, regs57_at _ _ j hj]
      simp [rv, set1, Ne.symm hij]
  · have h1 : (regs57 f u)[j]? = none := by rw [Array.getElem?_eq_none_iff, regs57_size]; omega
    have h2 : (regs57 (set1 f i x) u)[j]? = none := by rw [Array.getElem?_eq_none_iff, regs57_size]; omega
    rw [h1, h2]
    by_cases hij : i = j
    · subst hij
      rw [if_pos rfl, regs57_size, if_neg hj]
    · rw [if_neg hij]
theorem regs57_user (f : Nat → Int) (u v : Bool) : (regs57 f u).setIfInBounds 33 (.bool v) = regs57 f v := by
  apply Array.ext_getElem?
  intro j
  rw [Array.getElem?_setIfInBounds]
  by_cases hj : j < 57
  · by_cases hij : 33 = j
    · subst hij
      rw [if_pos rfl, regs57_size, if_pos hj, regs57_at _ _ 33 hj]
      rfl
    · rw [if_neg hij, regs57_at _ _ j hj, regs57_at _ _ j hj]
      simp [rv, Ne.symm hij]
  · have h1 : (regs57 f u)[j]? = none := by rw [Array.getElem?_eq_none_iff, regs57_size]; omega
    have h2 : (regs57 f v)[j]? = none := by rw [Array.getElem?_eq_none_iff, regs57_size]; omega
    rw [h1, h2, if_neg (by omega)]
theorem zero57 : (#[.int .u32 0, .int .u32 0, .int .u32 0, .int .u32 0, .int .u32 0, .int .u32 0, .int .u32 0, .int .u32 0, .int .u32 0, .int .u32 0, .int .u32 0, .int .u32 0, .int .u32 0, .int .u32 0, .int .u32 0, .int .u32 0, .int .u32 0, .int .u32 0, .int .u32 0, .int .u32 0, .int .u32 0, .int .u32 0, .int .u32 0, .int .u32 0, .int .u32 0, .int .u32 0, .int .u32 0, .int .u32 0, .int .u32 0, .int .u32 0, .int .u32 0, .int .u32 0, .int .u32 0, .bool false, .int .u32 0, .int .u32 0, .int .u32 0, .int .u32 0, .int .u32 0, .int .u32 0, .int .u32 0, .int .u32 0, .int .u32 0, .int .u32 0, .int .u32 0, .int .u32 0, .int .u32 0, .int .u32 0, .int .u32 0, .int .u32 0, .int .u32 0, .int .u32 0, .int .u32 0, .int .u32 0, .int .u32 0, .int .u32 0, .int .u32 0] : Array Value) = regs57 (fun _ => 0) false := rfl
theorem info57 : (Try.prog.info? 27).map (·.size) = some 57 := by kernel_rfl
theorem und57 : ∃ fs, Try.prog.underlying 27 = some (.struct fs) := ⟨_, Try.underlying27⟩
theorem box57 (f : Nat → Int) (u : Bool) (w : World) : (Instr.box 27 (.agg (regs57 f u))).run Try.prog w = .ok (.pointer (some ⟨w.heap.size, 0, none⟩)) (w.alloc (.cells (regs57 f u) 27)) := by kernel_rfl

section
variable {ops : Array Oper} {rest : List Oper} {o : Oper} {a : Act} {w : World} {Q : Exit → Act → World → Prop}

theorem wpList_load_reg (hgd : o.guard = none) {x : Operand} (ho : o.op = .load 23 x) {b i : Nat} (hx : a.eval x = .pointer (some ⟨b, i, none⟩)) {f : Nat → Int} {u : Bool} {t : TypeId} (hw : w.heap[b]? = some (.cells (regs57 f u) t)) (hi : i < 57) (h3 : i ≠ 33)
    (h : wpList Try.prog ops Q rest (a.put o.dst (.int .u32 (f i))) w) : wpList Try.prog ops Q (o :: rest) a w :=
  wpList_load_u32 hgd ho hx hw (by rw [regs57_at f u i hi]; unfold rv; rw [if_neg h3]) h
theorem wpList_load_user (hgd : o.guard = none) {x : Operand} (ho : o.op = .load 4 x) {b : Nat} (hx : a.eval x = .pointer (some ⟨b, 33, none⟩)) {f : Nat → Int} {u : Bool} {t : TypeId} (hw : w.heap[b]? = some (.cells (regs57 f u) t))
    (h : wpList Try.prog ops Q rest (a.put o.dst (.bool u)) w) : wpList Try.prog ops Q (o :: rest) a w :=
  wpList_load_bool hgd ho hx hw rfl h
theorem wpList_store_reg (hgd : o.guard = none) {x y : Operand} (ho : o.op = .store 23 x y) {b i : Nat} (hx : a.eval x = .pointer (some ⟨b, i, none⟩)) {n : Int} (hy : a.eval y = .int .u32 n) {f : Nat → Int} {u : Bool} {t : TypeId} (hw : w.heap[b]? = some (.cells (regs57 f u) t)) (hi : i < 57) (h3 : i ≠ 33)
    (h : ∀ w', w'.heap[b]? = some (.cells (regs57 (set1 f i n) u) t) → (∀ k, k ≠ b → w'.heap[k]? = w.heap[k]?) → (∀ (B : Nat) (w0 : World), B ≤ b → Below B w0 w → Below B w0 w') → wpList Try.prog ops Q rest (a.put o.dst undef) w') : wpList Try.prog ops Q (o :: rest) a w :=
  wpList_store_u32 hgd ho hx hy hw (regs57_at f u i hi) fun w' hW => h w' (by rw [← regs57_put f u i n h3]; exact hW.block) hW.other hW.below
theorem wpList_store_user (hgd : o.guard = none) {x y : Operand} (ho : o.op = .store 4 x y) {b : Nat} (hx : a.eval x = .pointer (some ⟨b, 33, none⟩)) {n : Bool} (hy : a.eval y = .bool n) {f : Nat → Int} {u : Bool} {t : TypeId} (hw : w.heap[b]? = some (.cells (regs57 f u) t))
    (h : ∀ w', w'.heap[b]? = some (.cells (regs57 f n) t) → (∀ k, k ≠ b → w'.heap[k]? = w.heap[k]?) → (∀ (B : Nat) (w0 : World), B ≤ b → Below B w0 w → Below B w0 w') → wpList Try.prog ops Q rest (a.put o.dst undef) w') : wpList Try.prog ops Q (o :: rest) a w :=
  wpList_store_bool hgd ho hx hy hw (regs57_at f u 33 (by decide)) fun w' hW => h w' (by rw [← regs57_user f u n]; exact hW.block) hW.other hW.below
end

/-! ### What a trap and a way back make -/
def trapS (s : Int) (u : Bool) : Int :=
  if u then (if bitsV s 3 1 = 1 then bits .or .u32 (bits .andNot .u32 s 6280) 128 else bits .andNot .u32 s 6280)
  else bits .or .u32 (if bitsV s 3 1 = 1 then bits .or .u32 (bits .andNot .u32 s 6280) 128 else bits .andNot .u32 s 6280) 6144
def trapF (f : Nat → Int) (u : Bool) (c v : Int) (i : Nat) : Int :=
  if i = 32 then f 36 else if i = 34 then trapS (f 34) u else if i = 38 then f 32 else if i = 39 then c else if i = 40 then v else f i
def retS (s : Int) : Int := if bitsV s 7 1 = 1 then bits .or .u32 (bits .or .u32 (bits .andNot .u32 s 6152) 128) 8 else bits .or .u32 (bits .andNot .u32 s 6152) 128
def retF (f : Nat → Int) (i : Nat) : Int := if i = 32 then f 38 else if i = 34 then retS (f 34) else f i
def retU (f : Nat → Int) : Bool := bitsV (f 34) 11 1 == 0

theorem ret57 {f g : Nat → Int} {u v : Bool} (h : ∀ i, i < 57 → i ≠ 33 → f i = g i) (hu : u = v) : Ending.returned (.agg (regs57 f u)) = .returned (.agg (regs57 g v)) := by rw [regs57_ext h, hu]

set_option maxRecDepth 100000 in
set_option maxHeartbeats 4000000 in
theorem rRet (f : Nat → Int) (u : Bool) (hu : ∀ i, U32 (f i)) (w : World) :
    Calls Try.prog 16 #[.agg (regs57 f u)] w fun e w' => e = .returned (.agg (regs57 (retF f) (retU f))) ∧ Below w.heap.size w w' := by
  have HB7 : Hid _ := rBits (f 34) 7 1 (hu 34)
  have HB11 : Hid _ := rBits (f 34) 11 1 (hu 34)
  have hbox := box57 f u
  obtain ⟨fs, hfs⟩ := und57
  have HS : Hid _ := hfs
  clear hfs
  have H0 : Hid (∀ Z, ((w.alloc (.cells (regs57 f u) 27)).alloc Z).heap[w.heap.size]? = some (.cells (regs57 f u) 27)) := fun Z => kept_block ((Below.refl _ _).alloc (Nat.le_refl _) _)
  have Z0 : Hid (∀ Z, ((w.alloc (.cells (regs57 f u) 27)).alloc Z).heap[w.heap.size + 1]? = some Z) := fun Z => by have := alloc_at (w.alloc (.cells (regs57 f u) 27)) Z; rwa [World.size_alloc] at this
  have HU : Hid (retU f = (bitsV (f 34) 11 1 == 0)) := rfl
  have HR : Hid (retS (f 34) = if bitsV (f 34) 7 1 = 1 then bits .or .u32 (bits .or .u32 (bits .andNot .u32 (f 34) 6152) 128) 8 else bits .or .u32 (bits .andNot .u32 (f 34) 6152) 128) := rfl
  clear hu
  generalize bitsV (f 34) 7 1 = y7 at *
  generalize bitsV (f 34) 11 1 = y11 at *
  by_cases h7 : y7 = 1
  · have b7 : (y7 == 1) = true := by simpa using h7
    have e7 := HR.out
    rw [if_pos h7] at e7
    have HE : Hid _ := e7
    clear HR h7 e7
    go_enter Try.func16, Try.ntmps16
    go_wp2_with (first | (refine wpList_load_reg rfl rfl rfl (by assumption) (by decide) (by decide) ?_) | (refine wpList_load_reg rfl rfl rfl (H0.out _) (by decide) (by decide) ?_) | (refine wpList_load_user rfl rfl rfl (by assumption) ?_) | (refine wpList_store_reg rfl rfl rfl rfl (by assumption) (by decide) (by decide) ?_; intro wn HBn HO HL; have HZn := Eq.trans (HO (w.heap.size + 1) (by omega)) (by assumption); have HLn := HL w.heap.size w (Nat.le_refl _) (by assumption); clear HO HL) | (refine wpList_store_reg rfl rfl rfl rfl (H0.out _) (by decide) (by decide) ?_; intro wn HBn HO HL; have HZn := Eq.trans (HO (w.heap.size + 1) (by omega)) (Z0.out _); have HLn := HL w.heap.size w (Nat.le_refl _) box2; clear HO HL) | (refine wpList_store_user rfl rfl rfl rfl (by assumption) ?_; intro wn HBn HO HL; have HZn := Eq.trans (HO (w.heap.size + 1) (by omega)) (by assumption); have HLn := HL w.heap.size w (Nat.le_refl _) (by assumption); clear HO HL) | (refine wpList_load_row rfl 27 (.tmp 1) rfl _ rfl _ _ _ _ (by assumption) HS.out rfl (by rw [regs57_size]; exact info57) ?_) | (refine wpList_store_row rfl 27 (.tmp 2) (.tmp 24) rfl _ (regs57 _ _) rfl rfl _ _ (by assumption) (by rw [regs57_size]; exact info57) (by rw [regs57_size]; rfl) (regs57_one _ _) ?_))
    refine (HB7.out _).mono ?_
    rintro e wq ⟨rfl, rfl⟩
    go_wp2_with (first | (refine wpList_load_reg rfl rfl rfl (by assumption) (by decide) (by decide) ?_) | (refine wpList_load_reg rfl rfl rfl (H0.out _) (by decide) (by decide) ?_) | (refine wpList_load_user rfl rfl rfl (by assumption) ?_) | (refine wpList_store_reg rfl rfl rfl rfl (by assumption) (by decide) (by decide) ?_; intro wn HBn HO HL; have HZn := Eq.trans (HO (w.heap.size + 1) (by omega)) (by assumption); have HLn := HL w.heap.size w (Nat.le_refl _) (by assumption); clear HO HL) | (refine wpList_store_reg rfl rfl rfl rfl (H0.out _) (by decide) (by decide) ?_; intro wn HBn HO HL; have HZn := Eq.trans (HO (w.heap.size + 1) (by omega)) (Z0.out _); have HLn := HL w.heap.size w (Nat.le_refl _) box2; clear HO HL) | (refine wpList_store_user rfl rfl rfl rfl (by assumption) ?_; intro wn HBn HO HL; have HZn := Eq.trans (HO (w.heap.size + 1) (by omega)) (by assumption); have HLn := HL w.heap.size w (Nat.le_refl _) (by assumption); clear HO HL) | (refine wpList_load_row rfl 27 (.tmp 1) rfl _ rfl _ _ _ _ (by assumption) HS.out rfl (by rw [regs57_size]; exact info57) ?_) | (refine wpList_store_row rfl 27 (.tmp 2) (.tmp 24) rfl _ (regs57 _ _) rfl rfl _ _ (by assumption) (by rw [regs57_size]; exact info57) (by rw [regs57_size]; rfl) (regs57_one _ _) ?_))
    refine (HB11.out _).mono ?_
    rintro e wq ⟨rfl, rfl⟩
    go_wp2_with (first | (refine wpList_load_reg rfl rfl rfl (by assumption) (by decide) (by decide) ?_) | (refine wpList_load_reg rfl rfl rfl (H0.out _) (by decide) (by decide) ?_) | (refine wpList_load_user rfl rfl rfl (by assumption) ?_) | (refine wpList_store_reg rfl rfl rfl rfl (by assumption) (by decide) (by decide) ?_; intro wn HBn HO HL; have HZn := Eq.trans (HO (w.heap.size + 1) (by omega)) (by assumption); have HLn := HL w.heap.size w (Nat.le_refl _) (by assumption); clear HO HL) | (refine wpList_store_reg rfl rfl rfl rfl (H0.out _) (by decide) (by decide) ?_; intro wn HBn HO HL; have HZn := Eq.trans (HO (w.heap.size + 1) (by omega)) (Z0.out _); have HLn := HL w.heap.size w (Nat.le_refl _) box2; clear HO HL) | (refine wpList_store_user rfl rfl rfl rfl (by assumption) ?_; intro wn HBn HO HL; have HZn := Eq.trans (HO (w.heap.size + 1) (by omega)) (by assumption); have HLn := HL w.heap.size w (Nat.le_refl _) (by assumption); clear HO HL) | (refine wpList_load_row rfl 27 (.tmp 1) rfl _ rfl _ _ _ _ (by assumption) HS.out rfl (by rw [regs57_size]; exact info57) ?_) | (refine wpList_store_row rfl 27 (.tmp 2) (.tmp 24) rfl _ (regs57 _ _) rfl rfl _ _ (by assumption) (by rw [regs57_size]; exact info57) (by rw [regs57_size]; rfl) (regs57_one _ _) ?_))
    refine bodyPost_ret (results_cell_row rfl _ _ _ _ _ _ _ rfl (setRow_heap _ _ _ _ _ _ (by assumption)) HS.out rfl (by rw [regs57_size]; exact info57)) rfl ⟨ret57 (fun i _ _ => ?_) ?_, below_setRow (by assumption) (Nat.le_succ _) _⟩
    · unfold retF
      rw [HE.out]
      by_cases a1 : i = 32
      · subst a1; simp [set1]
      · by_cases a2 : i = 34
        · subst a2; simp [set1]
        · simp [set1, a1, a2]
    · exact HU.out.symm
  · have b7 : (y7 == 1) = false := by simpa using h7
    have e7 := HR.out
    rw [if_neg h7] at e7
    have HE : Hid _ := e7
    clear HR h7 e7
    go_enter Try.func16, Try.ntmps16
    go_wp2_with (first | (refine wpList_load_reg rfl rfl rfl (by assumption) (by decide) (by decide) ?_) | (refine wpList_load_reg rfl rfl rfl (H0.out _) (by decide) (by decide) ?_) | (refine wpList_load_user rfl rfl rfl (by assumption) ?_) | (refine wpList_store_reg rfl rfl rfl rfl (by assumption) (by decide) (by decide) ?_; intro wn HBn HO HL; have HZn := Eq.trans (HO (w.heap.size + 1) (by omega)) (by assumption); have HLn := HL w.heap.size w (Nat.le_refl _) (by assumption); clear HO HL) | (refine wpList_store_reg rfl rfl rfl rfl (H0.out _) (by decide) (by decide) ?_; intro wn HBn HO HL; have HZn := Eq.trans (HO (w.heap.size + 1) (by omega)) (Z0.out _); have HLn := HL w.heap.size w (Nat.le_refl _) box2; clear HO HL) | (refine wpList_store_user rfl rfl rfl rfl (by assumption) ?_; intro wn HBn HO HL; have HZn := Eq.trans (HO (w.heap.size + 1) (by omega)) (by assumption); have HLn := HL w.heap.size w (Nat.le_refl _) (by assumption); clear HO HL) | (refine wpList_load_row rfl 27 (.tmp 1) rfl _ rfl _ _ _ _ (by assumption) HS.out rfl (by rw [regs57_size]; exact info57) ?_) | (refine wpList_store_row rfl 27 (.tmp 2) (.tmp 24) rfl _ (regs57 _ _) rfl rfl _ _ (by assumption) (by rw [regs57_size]; exact info57) (by rw [regs57_size]; rfl) (regs57_one _ _) ?_))
    refine (HB7.out _).mono ?_
    rintro e wq ⟨rfl, rfl⟩
    go_wp2_with (first | (refine wpList_load_reg rfl rfl rfl (by assumption) (by decide) (by decide) ?_) | (refine wpList_load_reg rfl rfl rfl (H0.out _) (by decide) (by decide) ?_) | (refine wpList_load_user rfl rfl rfl (by assumption) ?_) | (refine wpList_store_reg rfl rfl rfl rfl (by assumption) (by decide) (by decide) ?_; intro wn HBn HO HL; have HZn := Eq.trans (HO (w.heap.size + 1) (by omega)) (by assumption); have HLn := HL w.heap.size w (Nat.le_refl _) (by assumption); clear HO HL) | (refine wpList_store_reg rfl rfl rfl rfl (H0.out _) (by decide) (by decide) ?_; intro wn HBn HO HL; have HZn := Eq.trans (HO (w.heap.size + 1) (by omega)) (Z0.out _); have HLn := HL w.heap.size w (Nat.le_refl _) box2; clear HO HL) | (refine wpList_store_user rfl rfl rfl rfl (by assumption) ?_; intro wn HBn HO HL; have HZn := Eq.trans (HO (w.heap.size + 1) (by omega)) (by assumption); have HLn := HL w.heap.size w (Nat.le_refl _) (by assumption); clear HO HL) | (refine wpList_load_row rfl 27 (.tmp 1) rfl _ rfl _ _ _ _ (by assumption) HS.out rfl (by rw [regs57_size]; exact info57) ?_) | (refine wpList_store_row rfl 27 (.tmp 2) (.tmp 24) rfl _ (regs57 _ _) rfl rfl _ _ (by assumption) (by rw [regs57_size]; exact info57) (by rw [regs57_size]; rfl) (regs57_one _ _) ?_))
    refine (HB11.out _).mono ?_
    rintro e wq ⟨rfl, rfl⟩
    go_wp2_with (first | (refine wpList_load_reg rfl rfl rfl (by assumption) (by decide) (by decide) ?_) | (refine wpList_load_reg rfl rfl rfl (H0.out _) (by decide) (by decide) ?_) | (refine wpList_load_user rfl rfl rfl (by assumption) ?_) | (refine wpList_store_reg rfl rfl rfl rfl (by assumption) (by decide) (by decide) ?_; intro wn HBn HO HL; have HZn := Eq.trans (HO (w.heap.size + 1) (by omega)) (by assumption); have HLn := HL w.heap.size w (Nat.le_refl _) (by assumption); clear HO HL) | (refine wpList_store_reg rfl rfl rfl rfl (H0.out _) (by decide) (by decide) ?_; intro wn HBn HO HL; have HZn := Eq.trans (HO (w.heap.size + 1) (by omega)) (Z0.out _); have HLn := HL w.heap.size w (Nat.le_refl _) box2; clear HO HL) | (refine wpList_store_user rfl rfl rfl rfl (by assumption) ?_; intro wn HBn HO HL; have HZn := Eq.trans (HO (w.heap.size + 1) (by omega)) (by assumption); have HLn := HL w.heap.size w (Nat.le_refl _) (by assumption); clear HO HL) | (refine wpList_load_row rfl 27 (.tmp 1) rfl _ rfl _ _ _ _ (by assumption) HS.out rfl (by rw [regs57_size]; exact info57) ?_) | (refine wpList_store_row rfl 27 (.tmp 2) (.tmp 24) rfl _ (regs57 _ _) rfl rfl _ _ (by assumption) (by rw [regs57_size]; exact info57) (by rw [regs57_size]; rfl) (regs57_one _ _) ?_))
    refine bodyPost_ret (results_cell_row rfl _ _ _ _ _ _ _ rfl (setRow_heap _ _ _ _ _ _ (by assumption)) HS.out rfl (by rw [regs57_size]; exact info57)) rfl ⟨ret57 (fun i _ _ => ?_) ?_, below_setRow (by assumption) (Nat.le_succ _) _⟩
    · unfold retF
      rw [HE.out]
      by_cases a1 : i = 32
      · subst a1; simp [set1]
      · by_cases a2 : i = 34
        · subst a2; simp [set1]
        · simp [set1, a1, a2]
    · exact HU.out.symm
end Go.Proofs.Ytmmaoncgfmfbjaa
