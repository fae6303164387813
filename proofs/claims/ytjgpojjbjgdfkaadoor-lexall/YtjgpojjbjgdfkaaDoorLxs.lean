/-
  Package lex: signs, the map of the signs' lengths.
-/
import Derived.Test.YtjgpojjbjgdfkaaDoorLxm
import Derived.Test.YtjgpojjbjgdfkaaDoorInsall
namespace Go.Proofs.YtjgpojjbjgdfkaaDoor
open Go.RowKit

/-- An entry: the operation that puts it in, its two bytes, how long the sign is. -/
def sgT : List (Nat × Int × Int × Int) := [(2, 123, 0, 1), (4, 125, 0, 1), (6, 40, 0, 1), (8, 41, 0, 1), (10, 91, 0, 1), (12, 93, 0, 1), (14, 59, 0, 1), (16, 44, 0, 1), (18, 61, 0, 1), (20, 61, 61, 2), (22, 33, 61, 2), (24, 60, 0, 1), (26, 60, 61, 2), (28, 60, 60, 2), (30, 62, 0, 1), (32, 62, 61, 2), (34, 62, 62, 2), (36, 43, 0, 1), (38, 45, 0, 1), (40, 42, 0, 1), (42, 47, 0, 1), (44, 37, 0, 1), (46, 38, 0, 1), (48, 94, 0, 1), (50, 124, 0, 1), (52, 126, 0, 1)]
def sgI : List Nat := [2, 4, 6, 8, 10, 12, 14, 16, 18, 20, 22, 24, 26, 28, 30, 32, 34, 36, 38, 40, 42, 44, 46, 48, 50, 52]
def sgIdx (a b : Int) : Option (Nat × Int × Int × Int) := sgT.find? fun q => q.2.1 == a && q.2.2.1 == b
def sgM (done : Nat → Bool) (a b : Int) : Option Int := match sgIdx a b with | some q => if done q.1 then some q.2.2.2 else none | none => none
/-- How long the sign of two bytes is. -/
def signV (a b : Int) : Option Int := (sgIdx a b).map (·.2.2.2)
theorem sg_idx {a b : Int} {q : Nat × Int × Int × Int} (h : sgIdx a b = some q) : q ∈ sgT ∧ q.2.1 = a ∧ q.2.2.1 = b := by
  unfold sgIdx at h
  refine ⟨List.mem_of_find?_eq_some h, ?_⟩
  have := List.find?_some h
  simpa using this
theorem sg_one : ∀ q ∈ sgT, ∀ q' ∈ sgT, q.1 = q'.1 → q = q' := by decide
theorem sg_key : ∀ q ∈ sgT, sgIdx q.2.1 q.2.2.1 = some q ∧ (0 ≤ q.2.1 ∧ q.2.1 ≤ 255) ∧ (0 ≤ q.2.2.1 ∧ q.2.2.1 ≤ 255) ∧ 0 ≤ q.2.2.2 ∧ q.2.2.2 ≤ 2 ∧ q.1 ∈ sgI := by decide
theorem sg_nodup : sgI.Nodup := by decide
/-- What lies there while the entries come in. -/
structure SgSt (w0 : World) (g : Nat) (done : Nat → Bool) (w : World) : Prop where
  low : Below w0.heap.size w0 w
  map : ∃ n, n + (sgI.filter fun j => !done j).length ≤ 26 ∧ MapP w g n (sgM done)
theorem sg_step {w0 w : World} {g : Nat} {done : Nat → Bool} (h : SgSt w0 g done w) (hg : w0.heap.size ≤ g) {q : Nat × Int × Int × Int} (hq : q ∈ sgT) (hd : done q.1 = false) :
    ∃ w', (Instr.mapUpdate 46 (.map (some g)) (pv8 q.2.1 q.2.2.1) (.int .i64 q.2.2.2)).run Tryd.prog w = .ok () w' ∧ SgSt w0 g (fun j => done j || j == q.1) w' := by
  obtain ⟨hl, n, hn, hm⟩ := h
  obtain ⟨k1, k2, k3, k4, k5, k6⟩ := sg_key q hq
  have hc := count_less sg_nodup k6 hd
  obtain ⟨w', e1, e2, e3⟩ := mapP_put hm (a := q.2.1) (b := q.2.2.1) (x := q.2.2.2) k2 k3 ⟨by omega, by omega⟩ (show n < maxLen by unfold maxLen; omega)
  refine ⟨w', e1, below_grown hl e3 hl.size hg, n + 1, by omega, mapP_ext e2 fun a b => ?_⟩
  unfold updP sgM
  by_cases h1 : a = q.2.1 ∧ b = q.2.2.1
  · obtain ⟨rfl, rfl⟩ := h1
    rw [if_pos ⟨rfl, rfl⟩, k1]
    simp
  · rw [if_neg h1]
    cases hi : sgIdx a b with
    | none => rfl
    | some q' =>
      obtain ⟨m1, m2, m3⟩ := sg_idx hi
      have hne : (q'.1 == q.1) = false := by
        rw [beq_eq_false_iff_ne]
        intro e
        have := sg_one q' m1 q hq e
        subst this
        exact h1 ⟨m2.symm, m3.symm⟩
      simp only [hne, Bool.or_false]
set_option maxRecDepth 100000 in
set_option maxHeartbeats 8000000 in
theorem lSigns (w : World) : Calls Tryd.prog 49 #[] w fun e w' => ∃ g n, e = .returned (.map (some g)) ∧ w.heap.size ≤ g ∧ Below w.heap.size w w' ∧ MapP w' g n signV := by
  have hm : Tryd.prog.follows .mixedOrders = true := by kernel_rfl
  go_enter Tryd.func49, Tryd.ntmps49
  go_wp2_with fail
  refine wp_region_noPanic (wp_region_held (S := fun _ => True) hm ?_)
  refine take_at 1 (some 2) (v := ?_) rfl rfl (by kernel_rfl) (by kernel_rfl) (by kernel_rfl) (fun _ _ _ h => h) (Or.inl ⟨by rfl, ?_⟩) True.intro ?_
  rotate_left
  · intro w hSw
    go_simp
    try with_reducible rfl
  simp only [Act.put, List.setIfInBounds_toArray, List.set_cons_zero, List.set_cons_succ]
  refine take_at 3 (some 3) (v := ?_) rfl rfl (by kernel_rfl) (by kernel_rfl) (by kernel_rfl) (fun _ _ _ h => h) (Or.inl ⟨by rfl, ?_⟩) True.intro ?_
  rotate_left
  · intro w hSw
    go_simp
    try with_reducible rfl
  simp only [Act.put, List.setIfInBounds_toArray, List.set_cons_zero, List.set_cons_succ]
  refine take_at 5 (some 4) (v := ?_) rfl rfl (by kernel_rfl) (by kernel_rfl) (by kernel_rfl) (fun _ _ _ h => h) (Or.inl ⟨by rfl, ?_⟩) True.intro ?_
  rotate_left
  · intro w hSw
    go_simp
    try with_reducible rfl
  simp only [Act.put, List.setIfInBounds_toArray, List.set_cons_zero, List.set_cons_succ]
  refine take_at 7 (some 5) (v := ?_) rfl rfl (by kernel_rfl) (by kernel_rfl) (by kernel_rfl) (fun _ _ _ h => h) (Or.inl ⟨by rfl, ?_⟩) True.intro ?_
  rotate_left
  · intro w hSw
    go_simp
    try with_reducible rfl
  simp only [Act.put, List.setIfInBounds_toArray, List.set_cons_zero, List.set_cons_succ]
  refine take_at 9 (some 6) (v := ?_) rfl rfl (by kernel_rfl) (by kernel_rfl) (by kernel_rfl) (fun _ _ _ h => h) (Or.inl ⟨by rfl, ?_⟩) True.intro ?_
  rotate_left
  · intro w hSw
    go_simp
    try with_reducible rfl
  simp only [Act.put, List.setIfInBounds_toArray, List.set_cons_zero, List.set_cons_succ]
  refine take_at 11 (some 7) (v := ?_) rfl rfl (by kernel_rfl) (by kernel_rfl) (by kernel_rfl) (fun _ _ _ h => h) (Or.inl ⟨by rfl, ?_⟩) True.intro ?_
  rotate_left
  · intro w hSw
    go_simp
    try with_reducible rfl
  simp only [Act.put, List.setIfInBounds_toArray, List.set_cons_zero, List.set_cons_succ]
  refine take_at 13 (some 8) (v := ?_) rfl rfl (by kernel_rfl) (by kernel_rfl) (by kernel_rfl) (fun _ _ _ h => h) (Or.inl ⟨by rfl, ?_⟩) True.intro ?_
  rotate_left
  · intro w hSw
    go_simp
    try with_reducible rfl
  simp only [Act.put, List.setIfInBounds_toArray, List.set_cons_zero, List.set_cons_succ]
  refine take_at 15 (some 9) (v := ?_) rfl rfl (by kernel_rfl) (by kernel_rfl) (by kernel_rfl) (fun _ _ _ h => h) (Or.inl ⟨by rfl, ?_⟩) True.intro ?_
  rotate_left
  · intro w hSw
    go_simp
    try with_reducible rfl
  simp only [Act.put, List.setIfInBounds_toArray, List.set_cons_zero, List.set_cons_succ]
  refine take_at 17 (some 10) (v := ?_) rfl rfl (by kernel_rfl) (by kernel_rfl) (by kernel_rfl) (fun _ _ _ h => h) (Or.inl ⟨by rfl, ?_⟩) True.intro ?_
  rotate_left
  · intro w hSw
    go_simp
    try with_reducible rfl
  simp only [Act.put, List.setIfInBounds_toArray, List.set_cons_zero, List.set_cons_succ]
  refine take_at 19 (some 11) (v := ?_) rfl rfl (by kernel_rfl) (by kernel_rfl) (by kernel_rfl) (fun _ _ _ h => h) (Or.inl ⟨by rfl, ?_⟩) True.intro ?_
  rotate_left
  · intro w hSw
    go_simp
    try with_reducible rfl
  simp only [Act.put, List.setIfInBounds_toArray, List.set_cons_zero, List.set_cons_succ]
  refine take_at 21 (some 12) (v := ?_) rfl rfl (by kernel_rfl) (by kernel_rfl) (by kernel_rfl) (fun _ _ _ h => h) (Or.inl ⟨by rfl, ?_⟩) True.intro ?_
  rotate_left
  · intro w hSw
    go_simp
    try with_reducible rfl
  simp only [Act.put, List.setIfInBounds_toArray, List.set_cons_zero, List.set_cons_succ]
  refine take_at 23 (some 13) (v := ?_) rfl rfl (by kernel_rfl) (by kernel_rfl) (by kernel_rfl) (fun _ _ _ h => h) (Or.inl ⟨by rfl, ?_⟩) True.intro ?_
  rotate_left
  · intro w hSw
    go_simp
    try with_reducible rfl
  simp only [Act.put, List.setIfInBounds_toArray, List.set_cons_zero, List.set_cons_succ]
  refine take_at 25 (some 14) (v := ?_) rfl rfl (by kernel_rfl) (by kernel_rfl) (by kernel_rfl) (fun _ _ _ h => h) (Or.inl ⟨by rfl, ?_⟩) True.intro ?_
  rotate_left
  · intro w hSw
    go_simp
    try with_reducible rfl
  simp only [Act.put, List.setIfInBounds_toArray, List.set_cons_zero, List.set_cons_succ]
  refine take_at 27 (some 15) (v := ?_) rfl rfl (by kernel_rfl) (by kernel_rfl) (by kernel_rfl) (fun _ _ _ h => h) (Or.inl ⟨by rfl, ?_⟩) True.intro ?_
  rotate_left
  · intro w hSw
    go_simp
    try with_reducible rfl
  simp only [Act.put, List.setIfInBounds_toArray, List.set_cons_zero, List.set_cons_succ]
  refine take_at 29 (some 16) (v := ?_) rfl rfl (by kernel_rfl) (by kernel_rfl) (by kernel_rfl) (fun _ _ _ h => h) (Or.inl ⟨by rfl, ?_⟩) True.intro ?_
  rotate_left
  · intro w hSw
    go_simp
    try with_reducible rfl
  simp only [Act.put, List.setIfInBounds_toArray, List.set_cons_zero, List.set_cons_succ]
  refine take_at 31 (some 17) (v := ?_) rfl rfl (by kernel_rfl) (by kernel_rfl) (by kernel_rfl) (fun _ _ _ h => h) (Or.inl ⟨by rfl, ?_⟩) True.intro ?_
  rotate_left
  · intro w hSw
    go_simp
    try with_reducible rfl
  simp only [Act.put, List.setIfInBounds_toArray, List.set_cons_zero, List.set_cons_succ]
  refine take_at 33 (some 18) (v := ?_) rfl rfl (by kernel_rfl) (by kernel_rfl) (by kernel_rfl) (fun _ _ _ h => h) (Or.inl ⟨by rfl, ?_⟩) True.intro ?_
  rotate_left
  · intro w hSw
    go_simp
    try with_reducible rfl
  simp only [Act.put, List.setIfInBounds_toArray, List.set_cons_zero, List.set_cons_succ]
  refine take_at 35 (some 19) (v := ?_) rfl rfl (by kernel_rfl) (by kernel_rfl) (by kernel_rfl) (fun _ _ _ h => h) (Or.inl ⟨by rfl, ?_⟩) True.intro ?_
  rotate_left
  · intro w hSw
    go_simp
    try with_reducible rfl
  simp only [Act.put, List.setIfInBounds_toArray, List.set_cons_zero, List.set_cons_succ]
  refine take_at 37 (some 20) (v := ?_) rfl rfl (by kernel_rfl) (by kernel_rfl) (by kernel_rfl) (fun _ _ _ h => h) (Or.inl ⟨by rfl, ?_⟩) True.intro ?_
  rotate_left
  · intro w hSw
    go_simp
    try with_reducible rfl
  simp only [Act.put, List.setIfInBounds_toArray, List.set_cons_zero, List.set_cons_succ]
  refine take_at 39 (some 21) (v := ?_) rfl rfl (by kernel_rfl) (by kernel_rfl) (by kernel_rfl) (fun _ _ _ h => h) (Or.inl ⟨by rfl, ?_⟩) True.intro ?_
  rotate_left
  · intro w hSw
    go_simp
    try with_reducible rfl
  simp only [Act.put, List.setIfInBounds_toArray, List.set_cons_zero, List.set_cons_succ]
  refine take_at 41 (some 22) (v := ?_) rfl rfl (by kernel_rfl) (by kernel_rfl) (by kernel_rfl) (fun _ _ _ h => h) (Or.inl ⟨by rfl, ?_⟩) True.intro ?_
  rotate_left
  · intro w hSw
    go_simp
    try with_reducible rfl
  simp only [Act.put, List.setIfInBounds_toArray, List.set_cons_zero, List.set_cons_succ]
  refine take_at 43 (some 23) (v := ?_) rfl rfl (by kernel_rfl) (by kernel_rfl) (by kernel_rfl) (fun _ _ _ h => h) (Or.inl ⟨by rfl, ?_⟩) True.intro ?_
  rotate_left
  · intro w hSw
    go_simp
    try with_reducible rfl
  simp only [Act.put, List.setIfInBounds_toArray, List.set_cons_zero, List.set_cons_succ]
  refine take_at 45 (some 24) (v := ?_) rfl rfl (by kernel_rfl) (by kernel_rfl) (by kernel_rfl) (fun _ _ _ h => h) (Or.inl ⟨by rfl, ?_⟩) True.intro ?_
  rotate_left
  · intro w hSw
    go_simp
    try with_reducible rfl
  simp only [Act.put, List.setIfInBounds_toArray, List.set_cons_zero, List.set_cons_succ]
  refine take_at 47 (some 25) (v := ?_) rfl rfl (by kernel_rfl) (by kernel_rfl) (by kernel_rfl) (fun _ _ _ h => h) (Or.inl ⟨by rfl, ?_⟩) True.intro ?_
  rotate_left
  · intro w hSw
    go_simp
    try with_reducible rfl
  simp only [Act.put, List.setIfInBounds_toArray, List.set_cons_zero, List.set_cons_succ]
  refine take_at 49 (some 26) (v := ?_) rfl rfl (by kernel_rfl) (by kernel_rfl) (by kernel_rfl) (fun _ _ _ h => h) (Or.inl ⟨by rfl, ?_⟩) True.intro ?_
  rotate_left
  · intro w hSw
    go_simp
    try with_reducible rfl
  simp only [Act.put, List.setIfInBounds_toArray, List.set_cons_zero, List.set_cons_succ]
  refine take_at 51 (some 27) (v := ?_) rfl rfl (by kernel_rfl) (by kernel_rfl) (by kernel_rfl) (fun _ _ _ h => h) (Or.inl ⟨by rfl, ?_⟩) True.intro ?_
  rotate_left
  · intro w hSw
    go_simp
    try with_reducible rfl
  simp only [Act.put, List.setIfInBounds_toArray, List.set_cons_zero, List.set_cons_succ]
  refine turn_at 0 (some 1) (v := .map (some w.heap.size)) (w' := w.drew.alloc (.map #[] 0)) rfl rfl (by rfl) (by kernel_rfl) (by kernel_rfl) True.intro ?_
  simp only [Act.put, List.setIfInBounds_toArray, List.set_cons_zero, List.set_cons_succ]
  refine inserts_all sgI #[true, true, false, true, false, true, false, true, false, true, false, true, false, true, false, true, false, true, false, true, false, true, false, true, false, true, false, true, false, true, false, true, false, true, false, true, false, true, false, true, false, true, false, true, false, true, false, true, false, true, false, true, false, false, false] #[true, true, true, true, true, true, true, true, true, true, true, true, true, true, true, true, true, true, true, true, true, true, true, true, true, true, true, true, true, true, true, true, true, true, true, true, true, true, true, true, true, true, true, true, true, true, true, true, true, true, true, true, true, false, false] (by kernel_rfl) rfl rfl (by decide) sg_nodup (SgSt w w.heap.size) _ 2 ?_ ?_ 26 (fun _ => false) _ _ rfl ⟨rfl, by decide⟩ ?_ True.intro
  · intro i hi
    simp only [sgI, List.mem_cons, List.not_mem_nil, or_false] at hi
    rcases hi with rfl | rfl | rfl | rfl | rfl | rfl | rfl | rfl | rfl | rfl | rfl | rfl | rfl | rfl | rfl | rfl | rfl | rfl | rfl | rfl | rfl | rfl | rfl | rfl | rfl | rfl
    · refine ⟨_, rfl, by rfl, rfl, fun done w1 hd hI _ => ?_⟩
      obtain ⟨w', e1, e2⟩ := sg_step hI (Nat.le_refl _) (q := (2, 123, 0, 1)) (by decide) hd
      unfold pv8 at e1
      exact ⟨w', by simp [execOp, go_sem, e1], True.intro, e2⟩
    · refine ⟨_, rfl, by rfl, rfl, fun done w1 hd hI _ => ?_⟩
      obtain ⟨w', e1, e2⟩ := sg_step hI (Nat.le_refl _) (q := (4, 125, 0, 1)) (by decide) hd
      unfold pv8 at e1
      exact ⟨w', by simp [execOp, go_sem, e1], True.intro, e2⟩
    · refine ⟨_, rfl, by rfl, rfl, fun done w1 hd hI _ => ?_⟩
      obtain ⟨w', e1, e2⟩ := sg_step hI (Nat.le_refl _) (q := (6, 40, 0, 1)) (by decide) hd
      unfold pv8 at e1
      exact ⟨w', by simp [execOp, go_sem, e1], True.intro, e2⟩
    · refine ⟨_, rfl, by rfl, rfl, fun done w1 hd hI _ => ?_⟩
      obtain ⟨w', e1, e2⟩ := sg_step hI (Nat.le_refl _) (q := (8, 41, 0, 1)) (by decide) hd
      unfold pv8 at e1
      exact ⟨w', by simp [execOp, go_sem, e1], True.intro, e2⟩
    · refine ⟨_, rfl, by rfl, rfl, fun done w1 hd hI _ => ?_⟩
      obtain ⟨w', e1, e2⟩ := sg_step hI (Nat.le_refl _) (q := (10, 91, 0, 1)) (by decide) hd
      unfold pv8 at e1
      exact ⟨w', by simp [execOp, go_sem, e1], True.intro, e2⟩
    · refine ⟨_, rfl, by rfl, rfl, fun done w1 hd hI _ => ?_⟩
      obtain ⟨w', e1, e2⟩ := sg_step hI (Nat.le_refl _) (q := (12, 93, 0, 1)) (by decide) hd
      unfold pv8 at e1
      exact ⟨w', by simp [execOp, go_sem, e1], True.intro, e2⟩
    · refine ⟨_, rfl, by rfl, rfl, fun done w1 hd hI _ => ?_⟩
      obtain ⟨w', e1, e2⟩ := sg_step hI (Nat.le_refl _) (q := (14, 59, 0, 1)) (by decide) hd
      unfold pv8 at e1
      exact ⟨w', by simp [execOp, go_sem, e1], True.intro, e2⟩
    · refine ⟨_, rfl, by rfl, rfl, fun done w1 hd hI _ => ?_⟩
      obtain ⟨w', e1, e2⟩ := sg_step hI (Nat.le_refl _) (q := (16, 44, 0, 1)) (by decide) hd
      unfold pv8 at e1
      exact ⟨w', by simp [execOp, go_sem, e1], True.intro, e2⟩
    · refine ⟨_, rfl, by rfl, rfl, fun done w1 hd hI _ => ?_⟩
      obtain ⟨w', e1, e2⟩ := sg_step hI (Nat.le_refl _) (q := (18, 61, 0, 1)) (by decide) hd
      unfold pv8 at e1
      exact ⟨w', by simp [execOp, go_sem, e1], True.intro, e2⟩
    · refine ⟨_, rfl, by rfl, rfl, fun done w1 hd hI _ => ?_⟩
      obtain ⟨w', e1, e2⟩ := sg_step hI (Nat.le_refl _) (q := (20, 61, 61, 2)) (by decide) hd
      unfold pv8 at e1
      exact ⟨w', by simp [execOp, go_sem, e1], True.intro, e2⟩
    · refine ⟨_, rfl, by rfl, rfl, fun done w1 hd hI _ => ?_⟩
      obtain ⟨w', e1, e2⟩ := sg_step hI (Nat.le_refl _) (q := (22, 33, 61, 2)) (by decide) hd
      unfold pv8 at e1
      exact ⟨w', by simp [execOp, go_sem, e1], True.intro, e2⟩
    · refine ⟨_, rfl, by rfl, rfl, fun done w1 hd hI _ => ?_⟩
      obtain ⟨w', e1, e2⟩ := sg_step hI (Nat.le_refl _) (q := (24, 60, 0, 1)) (by decide) hd
      unfold pv8 at e1
      exact ⟨w', by simp [execOp, go_sem, e1], True.intro, e2⟩
    · refine ⟨_, rfl, by rfl, rfl, fun done w1 hd hI _ => ?_⟩
      obtain ⟨w', e1, e2⟩ := sg_step hI (Nat.le_refl _) (q := (26, 60, 61, 2)) (by decide) hd
      unfold pv8 at e1
      exact ⟨w', by simp [execOp, go_sem, e1], True.intro, e2⟩
    · refine ⟨_, rfl, by rfl, rfl, fun done w1 hd hI _ => ?_⟩
      obtain ⟨w', e1, e2⟩ := sg_step hI (Nat.le_refl _) (q := (28, 60, 60, 2)) (by decide) hd
      unfold pv8 at e1
      exact ⟨w', by simp [execOp, go_sem, e1], True.intro, e2⟩
    · refine ⟨_, rfl, by rfl, rfl, fun done w1 hd hI _ => ?_⟩
      obtain ⟨w', e1, e2⟩ := sg_step hI (Nat.le_refl _) (q := (30, 62, 0, 1)) (by decide) hd
      unfold pv8 at e1
      exact ⟨w', by simp [execOp, go_sem, e1], True.intro, e2⟩
    · refine ⟨_, rfl, by rfl, rfl, fun done w1 hd hI _ => ?_⟩
      obtain ⟨w', e1, e2⟩ := sg_step hI (Nat.le_refl _) (q := (32, 62, 61, 2)) (by decide) hd
      unfold pv8 at e1
      exact ⟨w', by simp [execOp, go_sem, e1], True.intro, e2⟩
    · refine ⟨_, rfl, by rfl, rfl, fun done w1 hd hI _ => ?_⟩
      obtain ⟨w', e1, e2⟩ := sg_step hI (Nat.le_refl _) (q := (34, 62, 62, 2)) (by decide) hd
      unfold pv8 at e1
      exact ⟨w', by simp [execOp, go_sem, e1], True.intro, e2⟩
    · refine ⟨_, rfl, by rfl, rfl, fun done w1 hd hI _ => ?_⟩
      obtain ⟨w', e1, e2⟩ := sg_step hI (Nat.le_refl _) (q := (36, 43, 0, 1)) (by decide) hd
      unfold pv8 at e1
      exact ⟨w', by simp [execOp, go_sem, e1], True.intro, e2⟩
    · refine ⟨_, rfl, by rfl, rfl, fun done w1 hd hI _ => ?_⟩
      obtain ⟨w', e1, e2⟩ := sg_step hI (Nat.le_refl _) (q := (38, 45, 0, 1)) (by decide) hd
      unfold pv8 at e1
      exact ⟨w', by simp [execOp, go_sem, e1], True.intro, e2⟩
    · refine ⟨_, rfl, by rfl, rfl, fun done w1 hd hI _ => ?_⟩
      obtain ⟨w', e1, e2⟩ := sg_step hI (Nat.le_refl _) (q := (40, 42, 0, 1)) (by decide) hd
      unfold pv8 at e1
      exact ⟨w', by simp [execOp, go_sem, e1], True.intro, e2⟩
    · refine ⟨_, rfl, by rfl, rfl, fun done w1 hd hI _ => ?_⟩
      obtain ⟨w', e1, e2⟩ := sg_step hI (Nat.le_refl _) (q := (42, 47, 0, 1)) (by decide) hd
      unfold pv8 at e1
      exact ⟨w', by simp [execOp, go_sem, e1], True.intro, e2⟩
    · refine ⟨_, rfl, by rfl, rfl, fun done w1 hd hI _ => ?_⟩
      obtain ⟨w', e1, e2⟩ := sg_step hI (Nat.le_refl _) (q := (44, 37, 0, 1)) (by decide) hd
      unfold pv8 at e1
      exact ⟨w', by simp [execOp, go_sem, e1], True.intro, e2⟩
    · refine ⟨_, rfl, by rfl, rfl, fun done w1 hd hI _ => ?_⟩
      obtain ⟨w', e1, e2⟩ := sg_step hI (Nat.le_refl _) (q := (46, 38, 0, 1)) (by decide) hd
      unfold pv8 at e1
      exact ⟨w', by simp [execOp, go_sem, e1], True.intro, e2⟩
    · refine ⟨_, rfl, by rfl, rfl, fun done w1 hd hI _ => ?_⟩
      obtain ⟨w', e1, e2⟩ := sg_step hI (Nat.le_refl _) (q := (48, 94, 0, 1)) (by decide) hd
      unfold pv8 at e1
      exact ⟨w', by simp [execOp, go_sem, e1], True.intro, e2⟩
    · refine ⟨_, rfl, by rfl, rfl, fun done w1 hd hI _ => ?_⟩
      obtain ⟨w', e1, e2⟩ := sg_step hI (Nat.le_refl _) (q := (50, 124, 0, 1)) (by decide) hd
      unfold pv8 at e1
      exact ⟨w', by simp [execOp, go_sem, e1], True.intro, e2⟩
    · refine ⟨_, rfl, by rfl, rfl, fun done w1 hd hI _ => ?_⟩
      obtain ⟨w', e1, e2⟩ := sg_step hI (Nat.le_refl _) (q := (52, 126, 0, 1)) (by decide) hd
      unfold pv8 at e1
      exact ⟨w', by simp [execOp, go_sem, e1], True.intro, e2⟩
  · intro done w1 hall hI _
    refine take_at 53 (some 28) (v := ?_) rfl rfl (by kernel_rfl) (by kernel_rfl) (by kernel_rfl) (fun _ _ _ h => h) (Or.inl ⟨by rfl, ?_⟩) True.intro ?_
    rotate_left
    · intro w hSw
      go_simp
      try with_reducible rfl
    simp only [Act.put, List.setIfInBounds_toArray, List.set_cons_zero, List.set_cons_succ]
    refine take_at 54 (some 0) (v := ?_) rfl rfl (by kernel_rfl) (by kernel_rfl) (by kernel_rfl) (fun _ _ _ h => h) (Or.inl ⟨by rfl, ?_⟩) True.intro ?_
    rotate_left
    · intro w hSw
      go_simp
      try with_reducible rfl
    simp only [Act.put, List.setIfInBounds_toArray, List.set_cons_zero, List.set_cons_succ]
    refine wpAnyH_done (by kernel_rfl) ?_ _
    refine NoPanic.normal ?_
    obtain ⟨hl, n, hn, hmp⟩ := hI
    have HM : Hid (MapP w1 w.heap.size n signV) := mapP_ext hmp fun a b => by
      unfold sgM signV
      cases hi : sgIdx a b with
      | none => rfl
      | some q =>
        have := hall q.1 (sg_key q (sg_idx hi).1).2.2.2.2.2
        simp only [this, if_true]
        rfl
    have HL : Hid _ := hl
    clear hall hl hmp hn
    go_wp2
    go_ret
    exact ⟨_, n, rfl, Nat.le_refl _, HL.out, HM.out⟩
  · exact ⟨((Below.refl _ _).drew).alloc (by simp) _, 0, by decide, mapP_ext (mapP_made w.drew) fun a b => by
      unfold sgM
      cases sgIdx a b <;> rfl⟩
end Go.Proofs.YtjgpojjbjgdfkaaDoor
