/-
  Package lex: signLen.
-/
import Derived.Test.YtjgpojjbjgdfkaaDoorLxu
namespace Go.Proofs.YtjgpojjbjgdfkaaDoor
open Go.RowKit

theorem eqNilS (w : World) (g : Nat) : (binOp BinOp.eql 46 (Value.map (some g)) (Value.map none)).run Tryd.prog w = .ok (.bool false) w := by kernel_rfl
theorem eqNilN (w : World) : (binOp BinOp.eql 46 (Value.map none) (Value.map none)).run Tryd.prog w = .ok (.bool true) w := by kernel_rfl
set_option maxRecDepth 100000 in
set_option maxHeartbeats 8000000 in
theorem lSignLenS {w : World} {rb : Nat} {S : ByteArray} {g n : Nat} (h : RdAt w rb S (some g)) (hM : MapP w g n signV) (hS : S.size ≤ 281474976710656) (p : Nat) (hp : p < S.size) :
    Calls Tryd.prog 44 #[.pointer (some ⟨rb, 0, none⟩), .int .i64 p] w fun e w' => e = .returned (.int .i64 (signN S p)) ∧ Below w.heap.size w w' := by
  have hm : Tryd.prog.follows .mixedOrders = true := by kernel_rfl
  have hh : (S.size : Int) ≤ 281474976710656 := by omega
  have k0 : (0 : Int) ≤ (p : Int) := by omega
  have k1 : (p : Int) ≤ (S.size : Int) := by omega
  have c0 : w.cell? ⟨rb, 0, none⟩ = some (.string S) := (cells_of h).1 0 _ rfl
  have c1 : w.cell? ⟨rb, 1, none⟩ = some (.map (some g)) := (cells_of h).1 1 _ rfl
  have H : Hid _ := h
  have HM : Hid _ := hM
  clear h hM
  have en := eqNilS w g
  obtain ⟨R, hR⟩ : ∃ R, R = signN S p := ⟨_, rfl⟩
  have HN : Hid (R = signN S p) := hR
  rw [← hR]
  clear hR
  go_enter Tryd.func44, Tryd.ntmps44
  go_wp2_with fail
  have CS : (w.alloc (.cells #[.int .u8 0, .int .u8 0] 66)).cell? ⟨rb, 0, none⟩ = some (.string S) := (cells_of (kept_on H.out ((Below.refl _ _).alloc (Nat.le_refl _) _))).1 0 _ rfl
  obtain ⟨W2, c, hcp, hb2, hk2⟩ : ∃ W2 c, (Builtin.copy_ #[26, 9] 3 #[.slice (some ⟨w.heap.size, 0, none⟩) 2 2, .string (S.extract p S.size)]).run Tryd.prog (w.alloc (.cells #[.int .u8 0, .int .u8 0] 66)).drew = .ok (.int .i64 c) W2 ∧ Hid (Below w.heap.size w W2) ∧ Hid (W2.heap[w.heap.size]? = some (.cells #[.int .u8 (byteV S p), .int .u8 (byteV S (p + 1))] 66 (0, 0))) := by
    have hcp := copy_two (w := (w.alloc (.cells #[.int .u8 0, .int .u8 0] 66)).drew) (s := S.extract p S.size) (t := 66) 3 (alloc_at w _) (by rw [ByteArray.size_extract]; omega)
    rw [byteV_extract (by omega), byteV_extract (by omega), Nat.add_zero] at hcp
    exact ⟨_, _, hcp, below_setRow (((Below.refl _ _).alloc (Nat.le_refl _) _).drew) (Nat.le_refl _) _, setRow_heap _ _ _ _ _ _ (alloc_at w _)⟩
  have CS2 : W2.cell? ⟨rb, 0, none⟩ = some (.string S) := (cells_of (kept_on H.out hb2.out)).1 0 _ rfl
  have CM2 : W2.cell? ⟨rb, 1, none⟩ = some (.map (some g)) := (cells_of (kept_on H.out hb2.out)).1 1 _ rfl
  have HM2 : Hid (MapP W2 g n signV) := mapP_kept HM.out hb2.out
  refine wp_region_noPanic (wp_region_held (S := fun v => v.cell? ⟨rb, 0, none⟩ = some (.string S)) hm ?_)
  refine take_at 0 (some 17) (v := ?_) rfl rfl (by kernel_rfl) (by kernel_rfl) (by kernel_rfl) (fun _ _ _ h => h) (Or.inl ⟨by rfl, ?_⟩) CS ?_
  rotate_left
  · intro w hSw
    have c0 := hSw; go_simp
    try with_reducible rfl
  simp only [Act.put, List.setIfInBounds_toArray, List.set_cons_zero, List.set_cons_succ]
  refine take_at 1 (some 18) (v := ?_) rfl rfl (by kernel_rfl) (by kernel_rfl) (by kernel_rfl) (fun _ _ _ h => h) (Or.inl ⟨by rfl, ?_⟩) CS ?_
  rotate_left
  · intro w hSw
    have c0 := hSw; go_simp
    try with_reducible rfl
  simp only [Act.put, List.setIfInBounds_toArray, List.set_cons_zero, List.set_cons_succ]
  refine take_at 2 (some 19) (v := ?_) rfl rfl (by kernel_rfl) (by kernel_rfl) (by kernel_rfl) (fun _ _ _ h => h) (Or.inl ⟨by rfl, ?_⟩) CS ?_
  rotate_left
  · intro w hSw
    have c0 := hSw; go_simp
    try with_reducible rfl
  simp only [Act.put, List.setIfInBounds_toArray, List.set_cons_zero, List.set_cons_succ]
  refine take_at 3 (some 20) (v := ?_) rfl rfl (by kernel_rfl) (by kernel_rfl) (by kernel_rfl) (fun _ _ _ h => h) (Or.inl ⟨by rfl, ?_⟩) CS ?_
  rotate_left
  · intro w hSw
    have c0 := hSw; go_simp
    try with_reducible rfl
  simp only [Act.put, List.setIfInBounds_toArray, List.set_cons_zero, List.set_cons_succ]
  refine take_at 4 (some 21) (v := ?_) rfl rfl (by kernel_rfl) (by kernel_rfl) (by kernel_rfl) (fun _ _ _ h => h) (Or.inl ⟨by rfl, ?_⟩) CS ?_
  rotate_left
  · intro w hSw
    have c0 := hSw; go_simp
    try with_reducible rfl
  simp only [Act.put, List.setIfInBounds_toArray, List.set_cons_zero, List.set_cons_succ]
  refine take_at 5 (some 22) (v := ?_) rfl rfl (by kernel_rfl) (by kernel_rfl) (by kernel_rfl) (fun _ _ _ h => h) (Or.inl ⟨by rfl, ?_⟩) CS ?_
  rotate_left
  · intro w hSw
    have c0 := hSw; go_simp
    try with_reducible rfl
  simp only [Act.put, List.setIfInBounds_toArray, List.set_cons_zero, List.set_cons_succ]
  refine take_at 6 (some 23) (v := ?_) rfl rfl (by kernel_rfl) (by kernel_rfl) (by kernel_rfl) (fun _ _ _ h => h) (Or.inl ⟨by rfl, ?_⟩) CS ?_
  rotate_left
  · intro w hSw
    have c0 := hSw; go_simp
    try with_reducible rfl
  simp only [Act.put, List.setIfInBounds_toArray, List.set_cons_zero, List.set_cons_succ]
  refine turn_at 7 (some 24) (v := .int .i64 c) (w' := W2) rfl rfl (by rfl) (by kernel_rfl) ?_ CS2 ?_
  · simp [execOp, go_sem]
    exact congrArg (fun (r : Result Value) => r.andThen fun a w' => Result.ok (Next.value a) w') hcp
  simp only [Act.put, List.setIfInBounds_toArray, List.set_cons_zero, List.set_cons_succ]
  refine wpAnyH_done (by kernel_rfl) ?_ _
  refine NoPanic.normal ?_
  clear hcp CS c0 c1
  have U1 := byteV_u8 S p
  have U2 := byteV_u8 S (p + 1)
  have D0 : W2.cell? ⟨w.heap.size, 0, none⟩ = some (.int .u8 (byteV S p)) := (cells_of hk2.out).1 0 _ rfl
  have D1 : W2.cell? ⟨w.heap.size, 1, none⟩ = some (.int .u8 (byteV S (p + 1))) := (cells_of hk2.out).1 1 _ rfl
  have F1 : Hid (U8 (byteV S p)) := U1
  have F2 : Hid (U8 (byteV S (p + 1))) := U2
  unfold signN at HN
  generalize byteV S p = x at *
  generalize byteV S (p + 1) = y at *
  go_wp2_with fail
  cases hZ : signV x y with
  | some k =>
    have hS5 : (fun v => v.cell? ⟨rb, 1, none⟩ = some (.map (some g)) ∧ v.cell? ⟨w.heap.size, 0, none⟩ = some (.int .u8 x) ∧ v.cell? ⟨w.heap.size, 1, none⟩ = some (.int .u8 y) ∧ MapP v g n signV) W2.drew := ⟨CM2, D0, D1, mapP_block HM2.out rfl⟩
    refine wp_region_noPanic (wp_region_held (S := (fun v => v.cell? ⟨rb, 1, none⟩ = some (.map (some g)) ∧ v.cell? ⟨w.heap.size, 0, none⟩ = some (.int .u8 x) ∧ v.cell? ⟨w.heap.size, 1, none⟩ = some (.int .u8 y) ∧ MapP v g n signV)) hm ?_)
    refine take_at 0 (some 26) (v := ?_) rfl rfl (by kernel_rfl) (by kernel_rfl) (by kernel_rfl) (fun _ _ _ h => h) (Or.inl ⟨by rfl, ?_⟩) hS5 ?_
    rotate_left
    · intro w hSw
      obtain ⟨h1, h2, h3, h4⟩ := hSw; go_simp
      try with_reducible rfl
    simp only [Act.put, List.setIfInBounds_toArray, List.set_cons_zero, List.set_cons_succ]
    refine take_at 1 (some 27) (v := ?_) rfl rfl (by kernel_rfl) (by kernel_rfl) (by kernel_rfl) (fun _ _ _ h => h) (Or.inl ⟨by rfl, ?_⟩) hS5 ?_
    rotate_left
    · intro w hSw
      obtain ⟨h1, h2, h3, h4⟩ := hSw; go_simp
      try with_reducible rfl
    simp only [Act.put, List.setIfInBounds_toArray, List.set_cons_zero, List.set_cons_succ]
    refine take_at 2 (some 28) (v := ?_) rfl rfl (by kernel_rfl) (by kernel_rfl) (by kernel_rfl) (fun _ _ _ h => h) (Or.inl ⟨by rfl, ?_⟩) hS5 ?_
    rotate_left
    · intro w hSw
      obtain ⟨h1, h2, h3, h4⟩ := hSw; go_simp
      try with_reducible rfl
    simp only [Act.put, List.setIfInBounds_toArray, List.set_cons_zero, List.set_cons_succ]
    refine take_at 3 (some 29) (v := ?_) rfl rfl (by kernel_rfl) (by kernel_rfl) (by kernel_rfl) (fun _ _ _ h => h) (Or.inl ⟨by rfl, ?_⟩) hS5 ?_
    rotate_left
    · intro w hSw
      obtain ⟨h1, h2, h3, h4⟩ := hSw; go_simp
      try with_reducible rfl
    simp only [Act.put, List.setIfInBounds_toArray, List.set_cons_zero, List.set_cons_succ]
    refine take_at 4 (some 30) (v := ?_) rfl rfl (by kernel_rfl) (by kernel_rfl) (by kernel_rfl) (fun _ _ _ h => h) (Or.inl ⟨by rfl, ?_⟩) hS5 ?_
    rotate_left
    · intro w hSw
      obtain ⟨h1, h2, h3, h4⟩ := hSw; go_simp
      try with_reducible rfl
    simp only [Act.put, List.setIfInBounds_toArray, List.set_cons_zero, List.set_cons_succ]
    refine take_at 5 (some 31) (v := ?_) rfl rfl (by kernel_rfl) (by kernel_rfl) (by kernel_rfl) (fun _ _ _ h => h) (Or.inl ⟨by rfl, ?_⟩) hS5 ?_
    rotate_left
    · intro w hSw
      obtain ⟨h1, h2, h3, h4⟩ := hSw; have hl := mapP_look h4 F1.out F2.out true; rw [hZ] at hl; unfold pv8 at hl; simp only [if_true, Option.getD_some, Option.isSome_some] at hl; go_simp
      try with_reducible rfl
    simp only [Act.put, List.setIfInBounds_toArray, List.set_cons_zero, List.set_cons_succ]
    refine take_at 6 (some 25) (v := ?_) rfl rfl (by kernel_rfl) (by kernel_rfl) (by kernel_rfl) (fun _ _ _ h => h) (Or.inl ⟨by rfl, ?_⟩) hS5 ?_
    rotate_left
    · intro w hSw
      obtain ⟨h1, h2, h3, h4⟩ := hSw; go_simp
      try with_reducible rfl
    simp only [Act.put, List.setIfInBounds_toArray, List.set_cons_zero, List.set_cons_succ]
    refine take_at 7 (some 32) (v := ?_) rfl rfl (by kernel_rfl) (by kernel_rfl) (by kernel_rfl) (fun _ _ _ h => h) (Or.inl ⟨by rfl, ?_⟩) hS5 ?_
    rotate_left
    · intro w hSw
      obtain ⟨h1, h2, h3, h4⟩ := hSw; go_simp
      try with_reducible rfl
    simp only [Act.put, List.setIfInBounds_toArray, List.set_cons_zero, List.set_cons_succ]
    refine take_at 8 (some 33) (v := ?_) rfl rfl (by kernel_rfl) (by kernel_rfl) (by kernel_rfl) (fun _ _ _ h => h) (Or.inl ⟨by rfl, ?_⟩) hS5 ?_
    rotate_left
    · intro w hSw
      obtain ⟨h1, h2, h3, h4⟩ := hSw; go_simp
      try with_reducible rfl
    simp only [Act.put, List.setIfInBounds_toArray, List.set_cons_zero, List.set_cons_succ]
    refine take_at 9 (some 6) (v := ?_) rfl rfl (by kernel_rfl) (by kernel_rfl) (by kernel_rfl) (fun _ _ _ h => h) (Or.inl ⟨by rfl, ?_⟩) hS5 ?_
    rotate_left
    · intro w hSw
      obtain ⟨h1, h2, h3, h4⟩ := hSw; go_simp
      try with_reducible rfl
    simp only [Act.put, List.setIfInBounds_toArray, List.set_cons_zero, List.set_cons_succ]
    refine take_at 10 (some 7) (v := ?_) rfl rfl (by kernel_rfl) (by kernel_rfl) (by kernel_rfl) (fun _ _ _ h => h) (Or.inl ⟨by rfl, ?_⟩) hS5 ?_
    rotate_left
    · intro w hSw
      obtain ⟨h1, h2, h3, h4⟩ := hSw; go_simp
      try with_reducible rfl
    simp only [Act.put, List.setIfInBounds_toArray, List.set_cons_zero, List.set_cons_succ]
    refine wpAnyH_done (by kernel_rfl) ?_ _
    refine NoPanic.normal ?_
    have hv : R = k := by rw [HN.out, hZ]
    subst hv
    go_wp2_with fail
    go_ret
    exact ⟨rfl, (hb2.out.drew)⟩
  | none =>
    have hS5 : (fun v => v.cell? ⟨rb, 1, none⟩ = some (.map (some g)) ∧ v.cell? ⟨w.heap.size, 0, none⟩ = some (.int .u8 x) ∧ v.cell? ⟨w.heap.size, 1, none⟩ = some (.int .u8 y) ∧ MapP v g n signV) W2.drew := ⟨CM2, D0, D1, mapP_block HM2.out rfl⟩
    refine wp_region_noPanic (wp_region_held (S := (fun v => v.cell? ⟨rb, 1, none⟩ = some (.map (some g)) ∧ v.cell? ⟨w.heap.size, 0, none⟩ = some (.int .u8 x) ∧ v.cell? ⟨w.heap.size, 1, none⟩ = some (.int .u8 y) ∧ MapP v g n signV)) hm ?_)
    refine take_at 0 (some 26) (v := ?_) rfl rfl (by kernel_rfl) (by kernel_rfl) (by kernel_rfl) (fun _ _ _ h => h) (Or.inl ⟨by rfl, ?_⟩) hS5 ?_
    rotate_left
    · intro w hSw
      obtain ⟨h1, h2, h3, h4⟩ := hSw; go_simp
      try with_reducible rfl
    simp only [Act.put, List.setIfInBounds_toArray, List.set_cons_zero, List.set_cons_succ]
    refine take_at 1 (some 27) (v := ?_) rfl rfl (by kernel_rfl) (by kernel_rfl) (by kernel_rfl) (fun _ _ _ h => h) (Or.inl ⟨by rfl, ?_⟩) hS5 ?_
    rotate_left
    · intro w hSw
      obtain ⟨h1, h2, h3, h4⟩ := hSw; go_simp
      try with_reducible rfl
    simp only [Act.put, List.setIfInBounds_toArray, List.set_cons_zero, List.set_cons_succ]
    refine take_at 2 (some 28) (v := ?_) rfl rfl (by kernel_rfl) (by kernel_rfl) (by kernel_rfl) (fun _ _ _ h => h) (Or.inl ⟨by rfl, ?_⟩) hS5 ?_
    rotate_left
    · intro w hSw
      obtain ⟨h1, h2, h3, h4⟩ := hSw; go_simp
      try with_reducible rfl
    simp only [Act.put, List.setIfInBounds_toArray, List.set_cons_zero, List.set_cons_succ]
    refine take_at 3 (some 29) (v := ?_) rfl rfl (by kernel_rfl) (by kernel_rfl) (by kernel_rfl) (fun _ _ _ h => h) (Or.inl ⟨by rfl, ?_⟩) hS5 ?_
    rotate_left
    · intro w hSw
      obtain ⟨h1, h2, h3, h4⟩ := hSw; go_simp
      try with_reducible rfl
    simp only [Act.put, List.setIfInBounds_toArray, List.set_cons_zero, List.set_cons_succ]
    refine take_at 4 (some 30) (v := ?_) rfl rfl (by kernel_rfl) (by kernel_rfl) (by kernel_rfl) (fun _ _ _ h => h) (Or.inl ⟨by rfl, ?_⟩) hS5 ?_
    rotate_left
    · intro w hSw
      obtain ⟨h1, h2, h3, h4⟩ := hSw; go_simp
      try with_reducible rfl
    simp only [Act.put, List.setIfInBounds_toArray, List.set_cons_zero, List.set_cons_succ]
    refine take_at 5 (some 31) (v := ?_) rfl rfl (by kernel_rfl) (by kernel_rfl) (by kernel_rfl) (fun _ _ _ h => h) (Or.inl ⟨by rfl, ?_⟩) hS5 ?_
    rotate_left
    · intro w hSw
      obtain ⟨h1, h2, h3, h4⟩ := hSw; have hl := mapP_look h4 F1.out F2.out true; rw [hZ] at hl; unfold pv8 at hl; simp only [if_true, Option.getD_none, Option.isSome_none] at hl; go_simp
      try with_reducible rfl
    simp only [Act.put, List.setIfInBounds_toArray, List.set_cons_zero, List.set_cons_succ]
    refine take_at 6 (some 25) (v := ?_) rfl rfl (by kernel_rfl) (by kernel_rfl) (by kernel_rfl) (fun _ _ _ h => h) (Or.inl ⟨by rfl, ?_⟩) hS5 ?_
    rotate_left
    · intro w hSw
      obtain ⟨h1, h2, h3, h4⟩ := hSw; go_simp
      try with_reducible rfl
    simp only [Act.put, List.setIfInBounds_toArray, List.set_cons_zero, List.set_cons_succ]
    refine take_at 7 (some 32) (v := ?_) rfl rfl (by kernel_rfl) (by kernel_rfl) (by kernel_rfl) (fun _ _ _ h => h) (Or.inl ⟨by rfl, ?_⟩) hS5 ?_
    rotate_left
    · intro w hSw
      obtain ⟨h1, h2, h3, h4⟩ := hSw; go_simp
      try with_reducible rfl
    simp only [Act.put, List.setIfInBounds_toArray, List.set_cons_zero, List.set_cons_succ]
    refine take_at 8 (some 33) (v := ?_) rfl rfl (by kernel_rfl) (by kernel_rfl) (by kernel_rfl) (fun _ _ _ h => h) (Or.inl ⟨by rfl, ?_⟩) hS5 ?_
    rotate_left
    · intro w hSw
      obtain ⟨h1, h2, h3, h4⟩ := hSw; go_simp
      try with_reducible rfl
    simp only [Act.put, List.setIfInBounds_toArray, List.set_cons_zero, List.set_cons_succ]
    refine take_at 9 (some 6) (v := ?_) rfl rfl (by kernel_rfl) (by kernel_rfl) (by kernel_rfl) (fun _ _ _ h => h) (Or.inl ⟨by rfl, ?_⟩) hS5 ?_
    rotate_left
    · intro w hSw
      obtain ⟨h1, h2, h3, h4⟩ := hSw; go_simp
      try with_reducible rfl
    simp only [Act.put, List.setIfInBounds_toArray, List.set_cons_zero, List.set_cons_succ]
    refine take_at 10 (some 7) (v := ?_) rfl rfl (by kernel_rfl) (by kernel_rfl) (by kernel_rfl) (fun _ _ _ h => h) (Or.inl ⟨by rfl, ?_⟩) hS5 ?_
    rotate_left
    · intro w hSw
      obtain ⟨h1, h2, h3, h4⟩ := hSw; go_simp
      try with_reducible rfl
    simp only [Act.put, List.setIfInBounds_toArray, List.set_cons_zero, List.set_cons_succ]
    refine wpAnyH_done (by kernel_rfl) ?_ _
    refine NoPanic.normal ?_
    have hv : R = (signV x 0).getD 0 := by rw [HN.out, hZ]
    clear HN
    go_wp2_with fail
    have hS8 : (fun v => v.cell? ⟨rb, 1, none⟩ = some (.map (some g)) ∧ v.cell? ⟨w.heap.size, 0, none⟩ = some (.int .u8 x) ∧ MapP v g n signV) W2.drew.drew := ⟨CM2, D0, mapP_block HM2.out rfl⟩
    refine wp_region_noPanic (wp_region_held (S := (fun v => v.cell? ⟨rb, 1, none⟩ = some (.map (some g)) ∧ v.cell? ⟨w.heap.size, 0, none⟩ = some (.int .u8 x) ∧ MapP v g n signV)) hm ?_)
    refine take_at 0 (some 36) (v := ?_) rfl rfl (by kernel_rfl) (by kernel_rfl) (by kernel_rfl) (fun _ _ _ h => h) (Or.inl ⟨by rfl, ?_⟩) hS8 ?_
    rotate_left
    · intro w hSw
      obtain ⟨h1, h2, h4⟩ := hSw; go_simp
      try with_reducible rfl
    simp only [Act.put, List.setIfInBounds_toArray, List.set_cons_zero, List.set_cons_succ]
    refine take_at 1 (some 37) (v := ?_) rfl rfl (by kernel_rfl) (by kernel_rfl) (by kernel_rfl) (fun _ _ _ h => h) (Or.inl ⟨by rfl, ?_⟩) hS8 ?_
    rotate_left
    · intro w hSw
      obtain ⟨h1, h2, h4⟩ := hSw; go_simp
      try with_reducible rfl
    simp only [Act.put, List.setIfInBounds_toArray, List.set_cons_zero, List.set_cons_succ]
    refine take_at 2 (some 38) (v := ?_) rfl rfl (by kernel_rfl) (by kernel_rfl) (by kernel_rfl) (fun _ _ _ h => h) (Or.inl ⟨by rfl, ?_⟩) hS8 ?_
    rotate_left
    · intro w hSw
      obtain ⟨h1, h2, h4⟩ := hSw; go_simp
      try with_reducible rfl
    simp only [Act.put, List.setIfInBounds_toArray, List.set_cons_zero, List.set_cons_succ]
    refine take_at 3 (some 39) (v := ?_) rfl rfl (by kernel_rfl) (by kernel_rfl) (by kernel_rfl) (fun _ _ _ h => h) (Or.inl ⟨by rfl, ?_⟩) hS8 ?_
    rotate_left
    · intro w hSw
      obtain ⟨h1, h2, h4⟩ := hSw; go_simp
      try with_reducible rfl
    simp only [Act.put, List.setIfInBounds_toArray, List.set_cons_zero, List.set_cons_succ]
    refine take_at 4 (some 40) (v := ?_) rfl rfl (by kernel_rfl) (by kernel_rfl) (by kernel_rfl) (fun _ _ _ h => h) (Or.inl ⟨by rfl, ?_⟩) hS8 ?_
    rotate_left
    · intro w hSw
      obtain ⟨h1, h2, h4⟩ := hSw; go_simp
      try with_reducible rfl
    simp only [Act.put, List.setIfInBounds_toArray, List.set_cons_zero, List.set_cons_succ]
    refine take_at 5 (some 41) (v := ?_) rfl rfl (by kernel_rfl) (by kernel_rfl) (by kernel_rfl) (fun _ _ _ h => h) (Or.inl ⟨by rfl, ?_⟩) hS8 ?_
    rotate_left
    · intro w hSw
      obtain ⟨h1, h2, h4⟩ := hSw; go_simp
      try with_reducible rfl
    simp only [Act.put, List.setIfInBounds_toArray, List.set_cons_zero, List.set_cons_succ]
    refine take_at 6 (some 42) (v := ?_) rfl rfl (by kernel_rfl) (by kernel_rfl) (by kernel_rfl) (fun _ _ _ h => h) (Or.inl ⟨by rfl, ?_⟩) hS8 ?_
    rotate_left
    · intro w hSw
      obtain ⟨h1, h2, h4⟩ := hSw; go_simp
      try with_reducible rfl
    simp only [Act.put, List.setIfInBounds_toArray, List.set_cons_zero, List.set_cons_succ]
    refine take_at 7 (some 43) (v := ?_) rfl rfl (by kernel_rfl) (by kernel_rfl) (by kernel_rfl) (fun _ _ _ h => h) (Or.inl ⟨by rfl, ?_⟩) hS8 ?_
    rotate_left
    · intro w hSw
      obtain ⟨h1, h2, h4⟩ := hSw; have hl := mapP_look h4 F1.out (show U8 0 from ⟨by decide, by decide⟩) false; unfold pv8 at hl; rw [← hv] at hl; simp only [Bool.false_eq_true, if_false] at hl; go_simp
      try with_reducible rfl
    simp only [Act.put, List.setIfInBounds_toArray, List.set_cons_zero, List.set_cons_succ]
    refine take_at 8 (some 4) (v := ?_) rfl rfl (by kernel_rfl) (by kernel_rfl) (by kernel_rfl) (fun _ _ _ h => h) (Or.inl ⟨by rfl, ?_⟩) hS8 ?_
    rotate_left
    · intro w hSw
      obtain ⟨h1, h2, h4⟩ := hSw; go_simp
      try with_reducible rfl
    simp only [Act.put, List.setIfInBounds_toArray, List.set_cons_zero, List.set_cons_succ]
    refine wpAnyH_done (by kernel_rfl) ?_ _
    refine NoPanic.normal ?_
    go_wp2
    go_ret
    exact ⟨rfl, (hb2.out.drew.drew)⟩

end Go.Proofs.YtjgpojjbjgdfkaaDoor
