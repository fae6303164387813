/-
  What is written into a register, by the document: contract of the function that the statements bear.
-/
import Derived.Test.YtmmaoncgfmfbjaaCsr
namespace Go.Proofs.Ytmmaoncgfmfbjaa
open Go.RowKit

/-- Registers and an error. -/
def row58 (f : Nat → Int) (u : Bool) (e : Int) : Array Value := (regs57 f u).push (.int .i64 e)
theorem row58_size (f : Nat → Int) (u : Bool) (e : Int) : (row58 f u e).size = 58 := by simp [row58, regs57_size]
theorem row58_one (f : Nat → Int) (u : Bool) (e : Int) : (row58 f u e).all (·.oneCell') = true := by
  unfold row58
  rw [Array.all_push, regs57_one]
  rfl
theorem info58 : (Try.prog.info? 39).map (·.size) = some 58 := by kernel_rfl
theorem und58 : ∃ fs, Try.prog.underlying 39 = some (.struct fs) := ⟨_, Try.underlying39⟩
theorem built58 (f : Nat → Int) (u : Bool) : Try.prog.built 39 [(0, .agg (regs57 f u))] = some (row58 f u 0) := by kernel_rfl
theorem built58e (f : Nat → Int) (u : Bool) (e : Int) : Try.prog.built 39 [(0, .agg (regs57 f u)), (1, .int .i64 e)] = some (row58 f u e) := by kernel_rfl
theorem wpList_built58 {ops : Array Oper} {rest : List Oper} {o : Oper} {a : Act} {w : World} {Q : Exit → Act → World → Prop} (hg : o.guard = none) (x : Operand) (ho : o.op = .build 39 #[(0, x)]) (f : Nat → Int) (u : Bool) (hx : a.eval x = .agg (regs57 f u))
    (h : wpList Try.prog ops Q rest (a.put o.dst (.agg (row58 f u 0))) w) : wpList Try.prog ops Q (o :: rest) a w := by
  have e : (#[(0, x)].map fun (i, x) => (i, a.eval x)).toList = [(0, Value.agg (regs57 f u))] := by simp [hx]
  refine wpList_build hg _ _ ho ?_ ?_
  · rw [e, built58]; rfl
  · rw [e, built58]; exact h
theorem wpList_built58e {ops : Array Oper} {rest : List Oper} {o : Oper} {a : Act} {w : World} {Q : Exit → Act → World → Prop} (hg : o.guard = none) (x : Operand) (er : Int) (ho : o.op = .build 39 #[(0, x), (1, .const (.int .i64 er))]) (f : Nat → Int) (u : Bool) (hx : a.eval x = .agg (regs57 f u))
    (h : wpList Try.prog ops Q rest (a.put o.dst (.agg (row58 f u er))) w) : wpList Try.prog ops Q (o :: rest) a w := by
  have e : (#[(0, x), (1, .const (.int .i64 er))].map fun (i, x) => (i, a.eval x)).toList = [(0, Value.agg (regs57 f u)), (1, .int .i64 er)] := by
    have hc : a.eval (.const (.int .i64 er)) = .int .i64 er := rfl
    simp [hx, hc]
  refine wpList_build hg _ _ ho ?_ ?_
  · rw [e, built58e]; rfl
  · rw [e, built58e]; exact h
theorem ret58 {f g : Nat → Int} {u : Bool} {e : Int} (h : ∀ i, i < 57 → i ≠ 33 → f i = g i) : Ending.returned (.agg (row58 f u e)) = .returned (.agg (row58 g u e)) := by unfold row58; rw [regs57_ext h]
theorem set1_twice (f : Nat → Int) (i : Nat) (x y : Int) (j : Nat) : set1 (set1 f i x) i y j = set1 f i y j := by
  unfold set1
  by_cases h : j = i
  · rw [if_pos h, if_pos h]
  · rw [if_neg h, if_neg h, if_neg h]
/-- What Status becomes. -/
def statV (x : Int) : Int := if bitsV x 11 2 = 3 then bits .or .u32 (bits .and .u32 x 136) 6144 else bits .and .u32 x 136

set_option maxRecDepth 100000 in
set_option maxHeartbeats 4000000 in
theorem rWrite_772 (f : Nat → Int) (u : Bool) (x : Int) (w : World) :
    Calls Try.prog 11 #[.agg (regs57 f u), .int .i64 772, .int .u32 x] w fun e w' => e = .returned (.agg (row58 (set1 f 35 (bits .and .u32 x 128)) u 0)) ∧ Below w.heap.size w w' := by
  have hbox := box57 f u
  obtain ⟨fs, hfs⟩ := und57
  have HS : Hid _ := hfs
  clear hfs
  obtain ⟨fs', hfs⟩ := und58
  have HT : Hid _ := hfs
  clear hfs
  have H0 : Hid (∀ Z, ((w.alloc (.cells (regs57 f u) 27)).alloc Z).heap[w.heap.size]? = some (.cells (regs57 f u) 27)) := fun Z => kept_block ((Below.refl _ _).alloc (Nat.le_refl _) _)
  have Z0 : Hid (∀ Z, ((w.alloc (.cells (regs57 f u) 27)).alloc Z).heap[w.heap.size + 1]? = some Z) := fun Z => by have := alloc_at (w.alloc (.cells (regs57 f u) 27)) Z; rwa [World.size_alloc] at this
  go_enter Try.func11, Try.ntmps11
  go_wp2_with (first | (refine wpList_store_reg rfl rfl rfl rfl (H0.out _) (by decide) (by decide) ?_; intro wn HBn HO HL; have HZn := Eq.trans (HO (w.heap.size + 1) (by omega)) (Z0.out _); have HLn := HL w.heap.size w (Nat.le_refl _) box2; clear HO HL) | (refine wpList_store_reg rfl rfl rfl rfl (by assumption) (by decide) (by decide) ?_; intro wn HBn HO HL; have HZn := Eq.trans (HO (w.heap.size + 1) (by omega)) (by assumption); have HLn := HL w.heap.size w (Nat.le_refl _) (by assumption); clear HO HL) | (refine wpList_load_row rfl 27 (.tmp 3) rfl _ rfl _ _ _ _ (by assumption) HS.out rfl (by rw [regs57_size]; exact info57) ?_) | (refine wpList_built58 rfl (.tmp 67) rfl _ _ rfl ?_) | (refine wpList_store_row rfl 39 (.tmp 6) (.tmp 68) rfl _ (row58 _ _ _) rfl rfl _ _ (by assumption) (by rw [row58_size]; exact info58) (by rw [row58_size]; rfl) (row58_one _ _ _) ?_))
  exact bodyPost_ret (results_cell_row rfl _ _ _ _ _ _ _ rfl (setRow_heap _ _ _ _ _ _ (by assumption)) HT.out rfl (by rw [row58_size]; exact info58)) rfl ⟨rfl, below_setRow (by assumption) (Nat.le_succ _) _⟩

set_option maxRecDepth 100000 in
set_option maxHeartbeats 4000000 in
theorem rWrite_773 (f : Nat → Int) (u : Bool) (x : Int) (hx : U32 x) (w : World) :
    Calls Try.prog 11 #[.agg (regs57 f u), .int .i64 773, .int .u32 x] w fun e w' => e = .returned (.agg (row58 (set1 f 36 (x / 4 * 4)) u 0)) ∧ Below w.heap.size w w' := by
  have hbox := box57 f u
  obtain ⟨fs, hfs⟩ := und57
  have HS : Hid _ := hfs
  clear hfs
  obtain ⟨fs', hfs⟩ := und58
  have HT : Hid _ := hfs
  clear hfs
  have H0 : Hid (∀ Z, ((w.alloc (.cells (regs57 f u) 27)).alloc Z).heap[w.heap.size]? = some (.cells (regs57 f u) 27)) := fun Z => kept_block ((Below.refl _ _).alloc (Nat.le_refl _) _)
  have Z0 : Hid (∀ Z, ((w.alloc (.cells (regs57 f u) 27)).alloc Z).heap[w.heap.size + 1]? = some Z) := fun Z => by have := alloc_at (w.alloc (.cells (regs57 f u) 27)) Z; rwa [World.size_alloc] at this
  have t1 : x.tdiv 4 = x / 4 := Int.tdiv_eq_ediv_of_nonneg hx.1
  obtain ⟨x0, x1⟩ := hx
  go_enter Try.func11, Try.ntmps11
  go_wp2_with (first | (refine wpList_store_reg rfl rfl rfl rfl (H0.out _) (by decide) (by decide) ?_; intro wn HBn HO HL; have HZn := Eq.trans (HO (w.heap.size + 1) (by omega)) (Z0.out _); have HLn := HL w.heap.size w (Nat.le_refl _) box2; clear HO HL) | (refine wpList_store_reg rfl rfl rfl rfl (by assumption) (by decide) (by decide) ?_; intro wn HBn HO HL; have HZn := Eq.trans (HO (w.heap.size + 1) (by omega)) (by assumption); have HLn := HL w.heap.size w (Nat.le_refl _) (by assumption); clear HO HL) | (refine wpList_load_row rfl 27 (.tmp 3) rfl _ rfl _ _ _ _ (by assumption) HS.out rfl (by rw [regs57_size]; exact info57) ?_) | (refine wpList_built58 rfl (.tmp 67) rfl _ _ rfl ?_) | (refine wpList_store_row rfl 39 (.tmp 6) (.tmp 68) rfl _ (row58 _ _ _) rfl rfl _ _ (by assumption) (by rw [row58_size]; exact info58) (by rw [row58_size]; rfl) (row58_one _ _ _) ?_))
  exact bodyPost_ret (results_cell_row rfl _ _ _ _ _ _ _ rfl (setRow_heap _ _ _ _ _ _ (by assumption)) HT.out rfl (by rw [row58_size]; exact info58)) rfl ⟨rfl, below_setRow (by assumption) (Nat.le_succ _) _⟩

set_option maxRecDepth 100000 in
set_option maxHeartbeats 4000000 in
theorem rWrite_832 (f : Nat → Int) (u : Bool) (x : Int) (w : World) :
    Calls Try.prog 11 #[.agg (regs57 f u), .int .i64 832, .int .u32 x] w fun e w' => e = .returned (.agg (row58 (set1 f 37 x) u 0)) ∧ Below w.heap.size w w' := by
  have hbox := box57 f u
  obtain ⟨fs, hfs⟩ := und57
  have HS : Hid _ := hfs
  clear hfs
  obtain ⟨fs', hfs⟩ := und58
  have HT : Hid _ := hfs
  clear hfs
  have H0 : Hid (∀ Z, ((w.alloc (.cells (regs57 f u) 27)).alloc Z).heap[w.heap.size]? = some (.cells (regs57 f u) 27)) := fun Z => kept_block ((Below.refl _ _).alloc (Nat.le_refl _) _)
  have Z0 : Hid (∀ Z, ((w.alloc (.cells (regs57 f u) 27)).alloc Z).heap[w.heap.size + 1]? = some Z) := fun Z => by have := alloc_at (w.alloc (.cells (regs57 f u) 27)) Z; rwa [World.size_alloc] at this
  go_enter Try.func11, Try.ntmps11
  go_wp2_with (first | (refine wpList_store_reg rfl rfl rfl rfl (H0.out _) (by decide) (by decide) ?_; intro wn HBn HO HL; have HZn := Eq.trans (HO (w.heap.size + 1) (by omega)) (Z0.out _); have HLn := HL w.heap.size w (Nat.le_refl _) box2; clear HO HL) | (refine wpList_store_reg rfl rfl rfl rfl (by assumption) (by decide) (by decide) ?_; intro wn HBn HO HL; have HZn := Eq.trans (HO (w.heap.size + 1) (by omega)) (by assumption); have HLn := HL w.heap.size w (Nat.le_refl _) (by assumption); clear HO HL) | (refine wpList_load_row rfl 27 (.tmp 3) rfl _ rfl _ _ _ _ (by assumption) HS.out rfl (by rw [regs57_size]; exact info57) ?_) | (refine wpList_built58 rfl (.tmp 67) rfl _ _ rfl ?_) | (refine wpList_store_row rfl 39 (.tmp 6) (.tmp 68) rfl _ (row58 _ _ _) rfl rfl _ _ (by assumption) (by rw [row58_size]; exact info58) (by rw [row58_size]; rfl) (row58_one _ _ _) ?_))
  exact bodyPost_ret (results_cell_row rfl _ _ _ _ _ _ _ rfl (setRow_heap _ _ _ _ _ _ (by assumption)) HT.out rfl (by rw [row58_size]; exact info58)) rfl ⟨rfl, below_setRow (by assumption) (Nat.le_succ _) _⟩

set_option maxRecDepth 100000 in
set_option maxHeartbeats 4000000 in
theorem rWrite_833 (f : Nat → Int) (u : Bool) (x : Int) (hx : U32 x) (w : World) :
    Calls Try.prog 11 #[.agg (regs57 f u), .int .i64 833, .int .u32 x] w fun e w' => e = .returned (.agg (row58 (set1 f 38 (x / 4 * 4)) u 0)) ∧ Below w.heap.size w w' := by
  have hbox := box57 f u
  obtain ⟨fs, hfs⟩ := und57
  have HS : Hid _ := hfs
  clear hfs
  obtain ⟨fs', hfs⟩ := und58
  have HT : Hid _ := hfs
  clear hfs
  have H0 : Hid (∀ Z, ((w.alloc (.cells (regs57 f u) 27)).alloc Z).heap[w.heap.size]? = some (.cells (regs57 f u) 27)) := fun Z => kept_block ((Below.refl _ _).alloc (Nat.le_refl _) _)
  have Z0 : Hid (∀ Z, ((w.alloc (.cells (regs57 f u) 27)).alloc Z).heap[w.heap.size + 1]? = some Z) := fun Z => by have := alloc_at (w.alloc (.cells (regs57 f u) 27)) Z; rwa [World.size_alloc] at this
  have t1 : x.tdiv 4 = x / 4 := Int.tdiv_eq_ediv_of_nonneg hx.1
  obtain ⟨x0, x1⟩ := hx
  go_enter Try.func11, Try.ntmps11
  go_wp2_with (first | (refine wpList_store_reg rfl rfl rfl rfl (H0.out _) (by decide) (by decide) ?_; intro wn HBn HO HL; have HZn := Eq.trans (HO (w.heap.size + 1) (by omega)) (Z0.out _); have HLn := HL w.heap.size w (Nat.le_refl _) box2; clear HO HL) | (refine wpList_store_reg rfl rfl rfl rfl (by assumption) (by decide) (by decide) ?_; intro wn HBn HO HL; have HZn := Eq.trans (HO (w.heap.size + 1) (by omega)) (by assumption); have HLn := HL w.heap.size w (Nat.le_refl _) (by assumption); clear HO HL) | (refine wpList_load_row rfl 27 (.tmp 3) rfl _ rfl _ _ _ _ (by assumption) HS.out rfl (by rw [regs57_size]; exact info57) ?_) | (refine wpList_built58 rfl (.tmp 67) rfl _ _ rfl ?_) | (refine wpList_store_row rfl 39 (.tmp 6) (.tmp 68) rfl _ (row58 _ _ _) rfl rfl _ _ (by assumption) (by rw [row58_size]; exact info58) (by rw [row58_size]; rfl) (row58_one _ _ _) ?_))
  exact bodyPost_ret (results_cell_row rfl _ _ _ _ _ _ _ rfl (setRow_heap _ _ _ _ _ _ (by assumption)) HT.out rfl (by rw [row58_size]; exact info58)) rfl ⟨rfl, below_setRow (by assumption) (Nat.le_succ _) _⟩

set_option maxRecDepth 100000 in
set_option maxHeartbeats 4000000 in
theorem rWrite_834 (f : Nat → Int) (u : Bool) (x : Int) (w : World) :
    Calls Try.prog 11 #[.agg (regs57 f u), .int .i64 834, .int .u32 x] w fun e w' => e = .returned (.agg (row58 (set1 f 39 x) u 0)) ∧ Below w.heap.size w w' := by
  have hbox := box57 f u
  obtain ⟨fs, hfs⟩ := und57
  have HS : Hid _ := hfs
  clear hfs
  obtain ⟨fs', hfs⟩ := und58
  have HT : Hid _ := hfs
  clear hfs
  have H0 : Hid (∀ Z, ((w.alloc (.cells (regs57 f u) 27)).alloc Z).heap[w.heap.size]? = some (.cells (regs57 f u) 27)) := fun Z => kept_block ((Below.refl _ _).alloc (Nat.le_refl _) _)
  have Z0 : Hid (∀ Z, ((w.alloc (.cells (regs57 f u) 27)).alloc Z).heap[w.heap.size + 1]? = some Z) := fun Z => by have := alloc_at (w.alloc (.cells (regs57 f u) 27)) Z; rwa [World.size_alloc] at this
  go_enter Try.func11, Try.ntmps11
  go_wp2_with (first | (refine wpList_store_reg rfl rfl rfl rfl (H0.out _) (by decide) (by decide) ?_; intro wn HBn HO HL; have HZn := Eq.trans (HO (w.heap.size + 1) (by omega)) (Z0.out _); have HLn := HL w.heap.size w (Nat.le_refl _) box2; clear HO HL) | (refine wpList_store_reg rfl rfl rfl rfl (by assumption) (by decide) (by decide) ?_; intro wn HBn HO HL; have HZn := Eq.trans (HO (w.heap.size + 1) (by omega)) (by assumption); have HLn := HL w.heap.size w (Nat.le_refl _) (by assumption); clear HO HL) | (refine wpList_load_row rfl 27 (.tmp 3) rfl _ rfl _ _ _ _ (by assumption) HS.out rfl (by rw [regs57_size]; exact info57) ?_) | (refine wpList_built58 rfl (.tmp 67) rfl _ _ rfl ?_) | (refine wpList_store_row rfl 39 (.tmp 6) (.tmp 68) rfl _ (row58 _ _ _) rfl rfl _ _ (by assumption) (by rw [row58_size]; exact info58) (by rw [row58_size]; rfl) (row58_one _ _ _) ?_))
  exact bodyPost_ret (results_cell_row rfl _ _ _ _ _ _ _ rfl (setRow_heap _ _ _ _ _ _ (by assumption)) HT.out rfl (by rw [row58_size]; exact info58)) rfl ⟨rfl, below_setRow (by assumption) (Nat.le_succ _) _⟩

set_option maxRecDepth 100000 in
set_option maxHeartbeats 4000000 in
theorem rWrite_835 (f : Nat → Int) (u : Bool) (x : Int) (w : World) :
    Calls Try.prog 11 #[.agg (regs57 f u), .int .i64 835, .int .u32 x] w fun e w' => e = .returned (.agg (row58 (set1 f 40 x) u 0)) ∧ Below w.heap.size w w' := by
  have hbox := box57 f u
  obtain ⟨fs, hfs⟩ := und57
  have HS : Hid _ := hfs
  clear hfs
  obtain ⟨fs', hfs⟩ := und58
  have HT : Hid _ := hfs
  clear hfs
  have H0 : Hid (∀ Z, ((w.alloc (.cells (regs57 f u) 27)).alloc Z).heap[w.heap.size]? = some (.cells (regs57 f u) 27)) := fun Z => kept_block ((Below.refl _ _).alloc (Nat.le_refl _) _)
  have Z0 : Hid (∀ Z, ((w.alloc (.cells (regs57 f u) 27)).alloc Z).heap[w.heap.size + 1]? = some Z) := fun Z => by have := alloc_at (w.alloc (.cells (regs57 f u) 27)) Z; rwa [World.size_alloc] at this
  go_enter Try.func11, Try.ntmps11
  go_wp2_with (first | (refine wpList_store_reg rfl rfl rfl rfl (H0.out _) (by decide) (by decide) ?_; intro wn HBn HO HL; have HZn := Eq.trans (HO (w.heap.size + 1) (by omega)) (Z0.out _); have HLn := HL w.heap.size w (Nat.le_refl _) box2; clear HO HL) | (refine wpList_store_reg rfl rfl rfl rfl (by assumption) (by decide) (by decide) ?_; intro wn HBn HO HL; have HZn := Eq.trans (HO (w.heap.size + 1) (by omega)) (by assumption); have HLn := HL w.heap.size w (Nat.le_refl _) (by assumption); clear HO HL) | (refine wpList_load_row rfl 27 (.tmp 3) rfl _ rfl _ _ _ _ (by assumption) HS.out rfl (by rw [regs57_size]; exact info57) ?_) | (refine wpList_built58 rfl (.tmp 67) rfl _ _ rfl ?_) | (refine wpList_store_row rfl 39 (.tmp 6) (.tmp 68) rfl _ (row58 _ _ _) rfl rfl _ _ (by assumption) (by rw [row58_size]; exact info58) (by rw [row58_size]; rfl) (row58_one _ _ _) ?_))
  exact bodyPost_ret (results_cell_row rfl _ _ _ _ _ _ _ rfl (setRow_heap _ _ _ _ _ _ (by assumption)) HT.out rfl (by rw [row58_size]; exact info58)) rfl ⟨rfl, below_setRow (by assumption) (Nat.le_succ _) _⟩

set_option maxRecDepth 100000 in
set_option maxHeartbeats 4000000 in
theorem rWrite_836 (f : Nat → Int) (u : Bool) (x : Int) (w : World) :
    Calls Try.prog 11 #[.agg (regs57 f u), .int .i64 836, .int .u32 x] w fun e w' => e = .returned (.agg (row58 f u 7)) ∧ Below w.heap.size w w' := by
  have hbox := box57 f u
  obtain ⟨fs, hfs⟩ := und57
  have HS : Hid _ := hfs
  clear hfs
  obtain ⟨fs', hfs⟩ := und58
  have HT : Hid _ := hfs
  clear hfs
  have H0 : Hid (∀ Z, ((w.alloc (.cells (regs57 f u) 27)).alloc Z).heap[w.heap.size]? = some (.cells (regs57 f u) 27)) := fun Z => kept_block ((Below.refl _ _).alloc (Nat.le_refl _) _)
  have Z0 : Hid (∀ Z, ((w.alloc (.cells (regs57 f u) 27)).alloc Z).heap[w.heap.size + 1]? = some Z) := fun Z => by have := alloc_at (w.alloc (.cells (regs57 f u) 27)) Z; rwa [World.size_alloc] at this
  go_enter Try.func11, Try.ntmps11
  go_wp2_with (first | (refine wpList_load_row rfl 27 (.tmp 3) rfl _ rfl _ _ _ _ (H0.out _) HS.out rfl (by rw [regs57_size]; exact info57) ?_) | (refine wpList_built58e rfl (.tmp 65) 7 rfl _ _ rfl ?_) | (refine wpList_store_row rfl 39 (.tmp 6) (.tmp 66) rfl _ (row58 _ _ _) rfl rfl _ _ (Z0.out _) (by rw [row58_size]; exact info58) (by rw [row58_size]; rfl) (row58_one _ _ _) ?_))
  exact bodyPost_ret (results_cell_row rfl _ _ _ _ _ _ _ rfl (setRow_heap _ _ _ _ _ _ (Z0.out _)) HT.out rfl (by rw [row58_size]; exact info58)) rfl ⟨rfl, below_setRow box2 (Nat.le_succ _) _⟩

set_option maxRecDepth 100000 in
set_option maxHeartbeats 4000000 in
theorem rWrite_3072 (f : Nat → Int) (u : Bool) (x : Int) (w : World) :
    Calls Try.prog 11 #[.agg (regs57 f u), .int .i64 3072, .int .u32 x] w fun e w' => e = .returned (.agg (row58 f u 7)) ∧ Below w.heap.size w w' := by
  have hbox := box57 f u
  obtain ⟨fs, hfs⟩ := und57
  have HS : Hid _ := hfs
  clear hfs
  obtain ⟨fs', hfs⟩ := und58
  have HT : Hid _ := hfs
  clear hfs
  have H0 : Hid (∀ Z, ((w.alloc (.cells (regs57 f u) 27)).alloc Z).heap[w.heap.size]? = some (.cells (regs57 f u) 27)) := fun Z => kept_block ((Below.refl _ _).alloc (Nat.le_refl _) _)
  have Z0 : Hid (∀ Z, ((w.alloc (.cells (regs57 f u) 27)).alloc Z).heap[w.heap.size + 1]? = some Z) := fun Z => by have := alloc_at (w.alloc (.cells (regs57 f u) 27)) Z; rwa [World.size_alloc] at this
  go_enter Try.func11, Try.ntmps11
  go_wp2_with (first | (refine wpList_load_row rfl 27 (.tmp 3) rfl _ rfl _ _ _ _ (H0.out _) HS.out rfl (by rw [regs57_size]; exact info57) ?_) | (refine wpList_built58e rfl (.tmp 65) 7 rfl _ _ rfl ?_) | (refine wpList_store_row rfl 39 (.tmp 6) (.tmp 66) rfl _ (row58 _ _ _) rfl rfl _ _ (Z0.out _) (by rw [row58_size]; exact info58) (by rw [row58_size]; rfl) (row58_one _ _ _) ?_))
  exact bodyPost_ret (results_cell_row rfl _ _ _ _ _ _ _ rfl (setRow_heap _ _ _ _ _ _ (Z0.out _)) HT.out rfl (by rw [row58_size]; exact info58)) rfl ⟨rfl, below_setRow box2 (Nat.le_succ _) _⟩

set_option maxRecDepth 100000 in
set_option maxHeartbeats 4000000 in
theorem rWrite_guard (f : Nat → Int) (u : Bool) (x : Int) (k : Nat) (hk : k < 16) (w : World) :
    Calls Try.prog 11 #[.agg (regs57 f u), .int .i64 (1984 + k : Int), .int .u32 x] w fun e w' => e = .returned (.agg (row58 (set1 f (41 + k) x) u 0)) ∧ Below w.heap.size w w' := by
  have hbox := box57 f u
  obtain ⟨fs, hfs⟩ := und57
  have HS : Hid _ := hfs
  clear hfs
  obtain ⟨fs', hfs⟩ := und58
  have HT : Hid _ := hfs
  clear hfs
  have H0 : Hid (∀ Z, ((w.alloc (.cells (regs57 f u) 27)).alloc Z).heap[w.heap.size]? = some (.cells (regs57 f u) 27)) := fun Z => kept_block ((Below.refl _ _).alloc (Nat.le_refl _) _)
  have Z0 : Hid (∀ Z, ((w.alloc (.cells (regs57 f u) 27)).alloc Z).heap[w.heap.size + 1]? = some Z) := fun Z => by have := alloc_at (w.alloc (.cells (regs57 f u) 27)) Z; rwa [World.size_alloc] at this
  have m768 : ((1984 + k : Int) == 768) = false := by simp; omega
  have m772 : ((1984 + k : Int) == 772) = false := by simp; omega
  have m773 : ((1984 + k : Int) == 773) = false := by simp; omega
  have m832 : ((1984 + k : Int) == 832) = false := by simp; omega
  have m833 : ((1984 + k : Int) == 833) = false := by simp; omega
  have m834 : ((1984 + k : Int) == 834) = false := by simp; omega
  have m835 : ((1984 + k : Int) == 835) = false := by simp; omega
  have m836 : ((1984 + k : Int) == 836) = false := by simp; omega
  have m3072 : ((1984 + k : Int) == 3072) = false := by simp; omega
  have g1 : ¬ 1984 + (k : Int) < 1984 := by omega
  have g2 : ¬ 2000 ≤ 1984 + (k : Int) := by omega
  have g3 : (0 : Int) ≤ (k : Int) := by omega
  have g4 : (k : Int) < 16 := by omega
  have g5 : 1984 + (k : Int) - 1984 = (k : Int) := by omega
  go_enter Try.func11, Try.ntmps11
  go_wp2_with (first | (refine wpList_store_reg rfl rfl rfl rfl (H0.out _) (by omega) (by omega) ?_; intro wn HBn HO HL; have HZn := Eq.trans (HO (w.heap.size + 1) (by omega)) (Z0.out _); have HLn := HL w.heap.size w (Nat.le_refl _) box2; clear HO HL) | (refine wpList_store_reg rfl rfl rfl rfl (by assumption) (by omega) (by omega) ?_; intro wn HBn HO HL; have HZn := Eq.trans (HO (w.heap.size + 1) (by omega)) (by assumption); have HLn := HL w.heap.size w (Nat.le_refl _) (by assumption); clear HO HL) | (refine wpList_load_row rfl 27 (.tmp 3) rfl _ rfl _ _ _ _ (by assumption) HS.out rfl (by rw [regs57_size]; exact info57) ?_) | (refine wpList_built58 rfl (.tmp 67) rfl _ _ rfl ?_) | (refine wpList_store_row rfl 39 (.tmp 6) (.tmp 68) rfl _ (row58 _ _ _) rfl rfl _ _ (by assumption) (by rw [row58_size]; exact info58) (by rw [row58_size]; rfl) (row58_one _ _ _) ?_))
  exact bodyPost_ret (results_cell_row rfl _ _ _ _ _ _ _ rfl (setRow_heap _ _ _ _ _ _ (by assumption)) HT.out rfl (by rw [row58_size]; exact info58)) rfl ⟨rfl, below_setRow (by assumption) (Nat.le_succ _) _⟩

set_option maxRecDepth 100000 in
set_option maxHeartbeats 4000000 in
theorem rWrite_none (f : Nat → Int) (u : Bool) (x : Int) (n : Int) (h : cellOf n = none) (h1 : n ≠ 836) (h2 : n ≠ 3072) (w : World) :
    Calls Try.prog 11 #[.agg (regs57 f u), .int .i64 n, .int .u32 x] w fun e w' => e = .returned (.agg (row58 f u 2)) ∧ Below w.heap.size w w' := by
  have hbox := box57 f u
  obtain ⟨fs, hfs⟩ := und57
  have HS : Hid _ := hfs
  clear hfs
  obtain ⟨fs', hfs⟩ := und58
  have HT : Hid _ := hfs
  clear hfs
  have H0 : Hid (∀ Z, ((w.alloc (.cells (regs57 f u) 27)).alloc Z).heap[w.heap.size]? = some (.cells (regs57 f u) 27)) := fun Z => kept_block ((Below.refl _ _).alloc (Nat.le_refl _) _)
  have Z0 : Hid (∀ Z, ((w.alloc (.cells (regs57 f u) 27)).alloc Z).heap[w.heap.size + 1]? = some Z) := fun Z => by have := alloc_at (w.alloc (.cells (regs57 f u) 27)) Z; rwa [World.size_alloc] at this
  have hh : n ≠ 768 ∧ n ≠ 772 ∧ n ≠ 773 ∧ n ≠ 832 ∧ n ≠ 833 ∧ n ≠ 834 ∧ n ≠ 835 ∧ ¬ (1984 ≤ n ∧ n < 2000) := by
    unfold cellOf at h
    repeat' split at h
    all_goals first | (cases h; done) | (refine ⟨?_, ?_, ?_, ?_, ?_, ?_, ?_, ?_⟩ <;> assumption)
  obtain ⟨z1, z2, z3, z4, z5, z6, z7, z8⟩ := hh
  have m768 : (n == 768) = false := by simp; omega
  have m772 : (n == 772) = false := by simp; omega
  have m773 : (n == 773) = false := by simp; omega
  have m832 : (n == 832) = false := by simp; omega
  have m833 : (n == 833) = false := by simp; omega
  have m834 : (n == 834) = false := by simp; omega
  have m835 : (n == 835) = false := by simp; omega
  have m836 : (n == 836) = false := by simp; omega
  have m3072 : (n == 3072) = false := by simp; omega
  clear h h1 h2 z1 z2 z3 z4 z5 z6 z7
  by_cases c : n < 1984
  · clear z8
    go_enter Try.func11, Try.ntmps11
    go_wp2_with (first | (refine wpList_load_row rfl 27 (.tmp 3) rfl _ rfl _ _ _ _ (H0.out _) HS.out rfl (by rw [regs57_size]; exact info57) ?_) | (refine wpList_built58e rfl (.tmp 14) 2 rfl _ _ rfl ?_) | (refine wpList_store_row rfl 39 (.tmp 6) (.tmp 15) rfl _ (row58 _ _ _) rfl rfl _ _ (Z0.out _) (by rw [row58_size]; exact info58) (by rw [row58_size]; rfl) (row58_one _ _ _) ?_))
    exact bodyPost_ret (results_cell_row rfl _ _ _ _ _ _ _ rfl (setRow_heap _ _ _ _ _ _ (Z0.out _)) HT.out rfl (by rw [row58_size]; exact info58)) rfl ⟨rfl, below_setRow box2 (Nat.le_succ _) _⟩
  · have c2 : 2000 ≤ n := by omega
    clear z8
    go_enter Try.func11, Try.ntmps11
    go_wp2_with (first | (refine wpList_load_row rfl 27 (.tmp 3) rfl _ rfl _ _ _ _ (H0.out _) HS.out rfl (by rw [regs57_size]; exact info57) ?_) | (refine wpList_built58e rfl (.tmp 14) 2 rfl _ _ rfl ?_) | (refine wpList_store_row rfl 39 (.tmp 6) (.tmp 15) rfl _ (row58 _ _ _) rfl rfl _ _ (Z0.out _) (by rw [row58_size]; exact info58) (by rw [row58_size]; rfl) (row58_one _ _ _) ?_))
    exact bodyPost_ret (results_cell_row rfl _ _ _ _ _ _ _ rfl (setRow_heap _ _ _ _ _ _ (Z0.out _)) HT.out rfl (by rw [row58_size]; exact info58)) rfl ⟨rfl, below_setRow box2 (Nat.le_succ _) _⟩

set_option maxRecDepth 100000 in
set_option maxHeartbeats 4000000 in
theorem rWrite_768 (f : Nat → Int) (u : Bool) (x : Int) (hx : U32 x) (w : World) :
    Calls Try.prog 11 #[.agg (regs57 f u), .int .i64 768, .int .u32 x] w fun e w' => e = .returned (.agg (row58 (set1 f 34 (statV x)) u 0)) ∧ Below w.heap.size w w' := by
  have hbox := box57 f u
  obtain ⟨fs, hfs⟩ := und57
  have HS : Hid _ := hfs
  clear hfs
  obtain ⟨fs', hfs⟩ := und58
  have HT : Hid _ := hfs
  clear hfs
  have H0 : Hid (∀ Z, ((w.alloc (.cells (regs57 f u) 27)).alloc Z).heap[w.heap.size]? = some (.cells (regs57 f u) 27)) := fun Z => kept_block ((Below.refl _ _).alloc (Nat.le_refl _) _)
  have Z0 : Hid (∀ Z, ((w.alloc (.cells (regs57 f u) 27)).alloc Z).heap[w.heap.size + 1]? = some Z) := fun Z => by have := alloc_at (w.alloc (.cells (regs57 f u) 27)) Z; rwa [World.size_alloc] at this
  have HB : Hid _ := rBits x 11 2 hx
  have HR : Hid (statV x = if bitsV x 11 2 = 3 then bits .or .u32 (bits .and .u32 x 136) 6144 else bits .and .u32 x 136) := rfl
  generalize bitsV x 11 2 = y at *
  by_cases h3 : y = 3
  · have b3 : (y == 3) = true := by simpa using h3
    have e3 := HR.out
    rw [if_pos h3] at e3
    have HE : Hid _ := e3
    clear HR h3 e3 hx
    go_enter Try.func11, Try.ntmps11
    go_wp2_with (first | (refine wpList_store_reg rfl rfl rfl rfl (H0.out _) (by decide) (by decide) ?_; intro wn HBn HO HL; have HZn := Eq.trans (HO (w.heap.size + 1) (by omega)) (Z0.out _); have HLn := HL w.heap.size w (Nat.le_refl _) box2; clear HO HL) | (refine wpList_store_reg rfl rfl rfl rfl (by assumption) (by decide) (by decide) ?_; intro wn HBn HO HL; have HZn := Eq.trans (HO (w.heap.size + 1) (by omega)) (by assumption); have HLn := HL w.heap.size w (Nat.le_refl _) (by assumption); clear HO HL) | (refine wpList_load_row rfl 27 (.tmp 3) rfl _ rfl _ _ _ _ (by assumption) HS.out rfl (by rw [regs57_size]; exact info57) ?_) | (refine wpList_built58 rfl (.tmp 67) rfl _ _ rfl ?_) | (refine wpList_store_row rfl 39 (.tmp 6) (.tmp 68) rfl _ (row58 _ _ _) rfl rfl _ _ (by assumption) (by rw [row58_size]; exact info58) (by rw [row58_size]; rfl) (row58_one _ _ _) ?_))
    refine (HB.out _).mono ?_
    rintro e wq ⟨rfl, rfl⟩
    go_wp2_with (first | (refine wpList_load_reg rfl rfl rfl (by assumption) (by decide) (by decide) ?_) | (refine wpList_store_reg rfl rfl rfl rfl (H0.out _) (by decide) (by decide) ?_; intro wn HBn HO HL; have HZn := Eq.trans (HO (w.heap.size + 1) (by omega)) (Z0.out _); have HLn := HL w.heap.size w (Nat.le_refl _) box2; clear HO HL) | (refine wpList_store_reg rfl rfl rfl rfl (by assumption) (by decide) (by decide) ?_; intro wn HBn HO HL; have HZn := Eq.trans (HO (w.heap.size + 1) (by omega)) (by assumption); have HLn := HL w.heap.size w (Nat.le_refl _) (by assumption); clear HO HL) | (refine wpList_load_row rfl 27 (.tmp 3) rfl _ rfl _ _ _ _ (by assumption) HS.out rfl (by rw [regs57_size]; exact info57) ?_) | (refine wpList_built58 rfl (.tmp 67) rfl _ _ rfl ?_) | (refine wpList_store_row rfl 39 (.tmp 6) (.tmp 68) rfl _ (row58 _ _ _) rfl rfl _ _ (by assumption) (by rw [row58_size]; exact info58) (by rw [row58_size]; rfl) (row58_one _ _ _) ?_))
    exact bodyPost_ret (results_cell_row rfl _ _ _ _ _ _ _ rfl (setRow_heap _ _ _ _ _ _ (by assumption)) HT.out rfl (by rw [row58_size]; exact info58)) rfl ⟨ret58 fun i _ _ => (by rw [HE.out]; exact set1_twice _ _ _ _ _), below_setRow (by assumption) (Nat.le_succ _) _⟩
  · have b3 : (y == 3) = false := by simpa using h3
    have e3 := HR.out
    rw [if_neg h3] at e3
    have HE : Hid _ := e3
    clear HR h3 e3 hx
    go_enter Try.func11, Try.ntmps11
    go_wp2_with (first | (refine wpList_store_reg rfl rfl rfl rfl (H0.out _) (by decide) (by decide) ?_; intro wn HBn HO HL; have HZn := Eq.trans (HO (w.heap.size + 1) (by omega)) (Z0.out _); have HLn := HL w.heap.size w (Nat.le_refl _) box2; clear HO HL) | (refine wpList_store_reg rfl rfl rfl rfl (by assumption) (by decide) (by decide) ?_; intro wn HBn HO HL; have HZn := Eq.trans (HO (w.heap.size + 1) (by omega)) (by assumption); have HLn := HL w.heap.size w (Nat.le_refl _) (by assumption); clear HO HL) | (refine wpList_load_row rfl 27 (.tmp 3) rfl _ rfl _ _ _ _ (by assumption) HS.out rfl (by rw [regs57_size]; exact info57) ?_) | (refine wpList_built58 rfl (.tmp 67) rfl _ _ rfl ?_) | (refine wpList_store_row rfl 39 (.tmp 6) (.tmp 68) rfl _ (row58 _ _ _) rfl rfl _ _ (by assumption) (by rw [row58_size]; exact info58) (by rw [row58_size]; rfl) (row58_one _ _ _) ?_))
    refine (HB.out _).mono ?_
    rintro e wq ⟨rfl, rfl⟩
    go_wp2_with (first | (refine wpList_load_reg rfl rfl rfl (by assumption) (by decide) (by decide) ?_) | (refine wpList_store_reg rfl rfl rfl rfl (H0.out _) (by decide) (by decide) ?_; intro wn HBn HO HL; have HZn := Eq.trans (HO (w.heap.size + 1) (by omega)) (Z0.out _); have HLn := HL w.heap.size w (Nat.le_refl _) box2; clear HO HL) | (refine wpList_store_reg rfl rfl rfl rfl (by assumption) (by decide) (by decide) ?_; intro wn HBn HO HL; have HZn := Eq.trans (HO (w.heap.size + 1) (by omega)) (by assumption); have HLn := HL w.heap.size w (Nat.le_refl _) (by assumption); clear HO HL) | (refine wpList_load_row rfl 27 (.tmp 3) rfl _ rfl _ _ _ _ (by assumption) HS.out rfl (by rw [regs57_size]; exact info57) ?_) | (refine wpList_built58 rfl (.tmp 67) rfl _ _ rfl ?_) | (refine wpList_store_row rfl 39 (.tmp 6) (.tmp 68) rfl _ (row58 _ _ _) rfl rfl _ _ (by assumption) (by rw [row58_size]; exact info58) (by rw [row58_size]; rfl) (row58_one _ _ _) ?_))
    exact bodyPost_ret (results_cell_row rfl _ _ _ _ _ _ _ rfl (setRow_heap _ _ _ _ _ _ (by assumption)) HT.out rfl (by rw [row58_size]; exact info58)) rfl ⟨by rw [HE.out], below_setRow (by assumption) (Nat.le_succ _) _⟩
end Go.Proofs.Ytmmaoncgfmfbjaa
