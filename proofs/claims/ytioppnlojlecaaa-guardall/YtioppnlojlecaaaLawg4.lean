/-
  The regions of any words, the words of any regions, whether any bytes are allowed, are the document's.
-/
import Derived.Test.YtioppnlojlecaaaGdf
import Derived.Test.YtioppnlojlecaaaGde
import Derived.Test.YtioppnlojlecaaaHeld
import Derived.Deep.MidRow
namespace Go.Proofs.Ytioppnlojlecaaa
open Go.RowKit

theorem gErr (n : Int) (w : World) : Calls Try.prog 14 #[.int .i64 n] w fun e w' => e = .returned (.int .i64 n) ∧ w' = w := by
  go_enter Try.func14, Try.ntmps14
  go_wp2
  go_ret
  exact ⟨rfl, rfl⟩

theorem rPutG {w : World} {sa : Option Addr} {b off : Nat} {l : List Rg} (hr : Regs w sa b off l) (hu : ∀ r ∈ l, RgU r) (n cap : Nat) (hn : n = l.length) (hm : n ≤ 1000000000) :
    Calls Try.prog 9 #[.slice sa n cap] w fun e w' => e = .returned (.agg (row17 (putW l) (putE l))) ∧ Below w.heap.size w w' := by
  by_cases h8 : n ≤ 8
  · exact rPutG_few hr hu n cap hn h8
  · have e : putE l = 9 := by unfold putE; rw [if_pos (by omega)]
    have e2 : row17 (putW l) (putE l) = row17 (fun _ => 0) 9 := by
      unfold row17
      rw [e, row16_ext (f := putW l) (g := fun _ => 0)]
      intro i _
      unfold putW
      rw [e, if_neg (by decide)]
    rw [e2]
    exact rPutG_many sa n cap (by omega) hm

/-- What holds all along the last statement. -/
structure GInv (w0 : World) (sa : Option Addr) (b off c off' n' : Nat) (l : List Rg) (zs : List Int) (g1 g2 : Nat) (L : List Value) (E : Int) (w : World) : Prop where
  regs : Regs w sa b off l
  lt : 0 < n' → c < w.heap.size
  cells : ∀ i, i < n' → w.cell? ⟨c, off' + i, none⟩ = some (.int .u32 (zs.getD i 0))
  r1 : w.rangeAt g1 0 L
  r2 : w.rangeAt g2 0 L
  r3 : w.cell? ⟨g2, 16, none⟩ = some (.int .i64 E)
  lt1 : g1 < w.heap.size
  lt2 : g2 < w.heap.size
  below : Below w0.heap.size w0 w
theorem GInv.on {w0 : World} {sa : Option Addr} {b off c off' n' : Nat} {l : List Rg} {zs : List Int} {g1 g2 : Nat} {L : List Value} {E : Int} {w w' : World} (h : GInv w0 sa b off c off' n' l zs g1 g2 L E w) (hb : Below w.heap.size w w') : GInv w0 sa b off c off' n' l zs g1 g2 L E w' :=
  ⟨h.regs.below hb, fun n => Nat.lt_of_lt_of_le (h.lt n) hb.size, fun i hi => by rw [hb.cell (p := ⟨c, off' + i, none⟩) (h.lt (by omega))]; exact h.cells i hi,
    fun j v hv => by rw [hb.cell (p := ⟨g1, 0 + j, none⟩) h.lt1]; exact h.r1 j v hv, fun j v hv => by rw [hb.cell (p := ⟨g2, 0 + j, none⟩) h.lt2]; exact h.r2 j v hv,
    by rw [hb.cell (p := ⟨g2, 16, none⟩) h.lt2]; exact h.r3, Nat.lt_of_lt_of_le h.lt1 hb.size, Nat.lt_of_lt_of_le h.lt2 hb.size, below_step h.below hb⟩
theorem wordsV_u {zs : List Int} (hz : ∀ z ∈ zs, U32 z) (n i : Nat) : U32 (wordsV zs n i) := by
  unfold wordsV
  split
  · rw [List.getD_eq_getElem?_getD]
    cases hi : zs[i]? with
    | none => simp [U32]
    | some z => simpa using hz z (List.mem_of_getElem? hi)
  · simp [U32]

set_option maxRecDepth 100000 in
set_option maxHeartbeats 4000000 in
theorem guardAll_way (K : GuardK) {w : World} {sa sb : Option Addr} {b off c off' : Nat} {l : List Rg} (hl : Regs w sa b off l) (ul : ∀ r ∈ l, RgU r) (n ca n' cb : Nat) (hn : n = l.length) (n1 : n ≤ 20)
    (zs : List Int) (hm : n' ≤ maxLen) (hsb : 0 < n' → sb = some ⟨c, off', none⟩ ∧ c < w.heap.size) (hc : ∀ i, i < n' → w.cell? ⟨c, off' + i, none⟩ = some (.int .u32 (zs.getD i 0))) (hz : ∀ z ∈ zs, U32 z)
    (p s h : Int) (hp : U32 p) (hs : U32 s) :
    Calls Try.prog 3 #[.slice sb n' cb, .slice sa n ca, .int .u32 p, .int .u32 s, .int .i64 h] w fun e w' => e = .returned (.bool true) ∧ Below w.heap.size w w' := by
  have CW : Hid _ := gawake K
  have HK : Hid _ := K
  have HP : Hid _ := hp
  have HS : Hid _ := hs
  have RL : Hid _ := hl
  have UL : Hid _ := ul
  have NL : Hid (n = l.length) := hn
  have HC : Hid _ := hc
  have HB : Hid _ := hsb
  have HM : Hid _ := hm
  have e1 : ¬ (20 : Int) < (n : Int) := by omega
  clear K hp hs hl ul hn hc hsb hm
  go_enter Try.func3, Try.ntmps3
  go_wp2_with fail
  refine (HK.out.put RL.out UL.out n ca NL.out (by omega)).mono ?_
  rintro e w1 ⟨rfl, b1⟩
  have RL : Hid _ := RL.out.below b1
  go_wp2_with (first | (refine wpList_store_row rfl 26 (.tmp 11) (.tmp 21) rfl _ (row16 _) rfl rfl _ (row16 fun _ => 0) (alloc_at w1 _) (by rw [row16_size]; exact info16) (by rw [row16_size, row16_size]) (by simp [row16, Value.oneCell']) ?_))
  rw [zero16]
  have C1 := setRow_heap _ _ _ (row16 (putW l)) _ _ (alloc_at w1 (.cells (row16 fun _ => 0) 26))
  have b2 : Below w1.heap.size w1 ((w1.alloc (.cells (row16 fun _ => 0) 26)).setRow w1.heap.size (row16 (putW l))) := below_setRow ((Below.refl _ _).alloc (Nat.le_refl _) _) (Nat.le_refl _) _
  have RL : Hid _ := RL.out.below b2
  have B2 : Hid _ := below_step b1 b2
  generalize (w1.alloc (.cells (row16 fun _ => 0) 26)).setRow w1.heap.size (row16 (putW l)) = w2 at *
  clear b2
  refine (rPutG RL.out UL.out n ca NL.out (by omega)).mono ?_
  rintro e w3 ⟨rfl, b3⟩
  have RL : Hid _ := RL.out.below b3
  have C1 := kept_on C1 b3
  have B3 : Hid _ := below_step B2.out b3
  clear b3 b1
  go_wp2_with (first | (refine wpList_store_row rfl 31 (.tmp 13) (.tmp 24) rfl _ (row17 _ _) rfl rfl _ (row17 (fun _ => 0) 0) (alloc_at w3 _) (by rw [row17_size]; exact info17) (by rw [row17_size, row17_size]) (row17_one _ _) ?_))
  rw [zero17]
  have C2 := setRow_heap _ _ _ (row17 (putW l) (putE l)) _ _ (alloc_at w3 (.cells (row17 (fun _ => 0) 0) 31))
  have b4 : Below w3.heap.size w3 ((w3.alloc (.cells (row17 (fun _ => 0) 0) 31)).setRow w3.heap.size (row17 (putW l) (putE l))) := below_setRow ((Below.refl _ _).alloc (Nat.le_refl _) _) (Nat.le_refl _) _
  have RL : Hid _ := RL.out.below b4
  have C1 := kept_on C1 b4
  have B4 : Hid _ := below_step B3.out b4
  generalize (w3.alloc (.cells (row17 (fun _ => 0) 0) 31)).setRow w3.heap.size (row17 (putW l) (putE l)) = w4 at *
  clear b4
  generalize hg1 : w1.heap.size = g1 at *
  generalize hg2 : w3.heap.size = g2 at *
  have I0 : Hid (GInv w sa b off c off' n' l zs g1 g2 (row16 (putW l)).toList (putE l) w4.drew) := by
    obtain ⟨k1, _, s1⟩ := cells_of C1
    obtain ⟨k2, _, s2⟩ := cells_of C2
    refine ⟨RL.out.drew, fun n0 => Nat.lt_of_lt_of_le (HB.out n0).2 B4.out.size, fun i hi => ?_, fun j v hv => ?_, fun j v hv => ?_, ?_, s1, s2, B4.out.drew⟩
    · show w4.cell? _ = _
      rw [B4.out.cell (p := ⟨c, off' + i, none⟩) (HB.out (by omega)).2]
      exact HC.out i hi
    · rw [Nat.zero_add]
      exact k1 j v (by rw [← Array.getElem?_toList]; exact hv)
    · have hj : j < 16 := by
        have := (List.getElem?_eq_some_iff.1 hv).1
        rwa [Array.length_toList, row16_size] at this
      rw [Nat.zero_add]
      refine k2 j v ?_
      rw [Array.getElem?_toList] at hv
      unfold row17
      rw [Array.getElem?_push_lt (by rw [row16_size]; exact hj), ← hv, Array.getElem?_eq_getElem]
    · refine k2 16 _ ?_
      unfold row17
      have := Array.getElem?_push_size (xs := row16 (putW l)) (x := .int .i64 (putE l))
      rw [row16_size] at this
      exact this
  have cmp : ∀ w, (Op.equalIn 10000 26 (.agg (row16 (putW l)).toList.toArray) (.agg (row16 (putW l)).toList.toArray)).run Try.prog w = .ok true w := fun w => by rw [Array.toArray_toList]; exact eq16 _ _
  have hlen : (row16 (putW l)).toList.length = 16 := by rw [Array.length_toList, row16_size]
  have hone : ∀ v ∈ (row16 (putW l)).toList, v.oneCell' = true := by simp [row16, Value.oneCell']
  have UZ : Hid (∀ i, U32 (wordsV zs n' i)) := wordsV_u hz n'
  clear C1 C2 B4 B3 B2 RL HC hg1 hg2 hz
  have p0 := I0.out.r1
  have q0 := I0.out.r2
  have t0 := I0.out.r3
  have hu := und16
  have hi : (Try.prog.info? 26).map (·.size) = some (row16 (putW l)).toList.length := by rw [hlen]; exact info16
  generalize (row16 (putW l)).toList = L at *
  generalize putE l = E at *
  refine wp_region_noPanic ?_
  refine wp_region_held_drew (S := (fun w' => w'.rangeAt g1 0 L ∧ w'.rangeAt g2 0 L ∧ w'.cell? ⟨g2, 16, none⟩ = some (.int .i64 E))) (by kernel_rfl) ⟨p0, q0, t0⟩ (fun hHeld => ?_)
  refine take_at 0 (some 25) (v := ?_) rfl rfl (by kernel_rfl) (by kernel_rfl) (by kernel_rfl) (fun _ _ _ h => h) (Or.inl ⟨by rfl, ?_⟩) (by assumption) ?_
  rotate_left
  · intro w hSw
    try dsimp only at hSw
    go_simp
    try with_reducible rfl
  simp only [Act.put, List.setIfInBounds_toArray, List.set_cons_zero, List.set_cons_succ]
  refine take_at 3 (some 28) (v := ?_) rfl rfl (by kernel_rfl) (by kernel_rfl) (by kernel_rfl) (fun _ _ _ h => h) (Or.inl ⟨by rfl, ?_⟩) (by assumption) ?_
  rotate_left
  · intro w hSw
    try dsimp only at hSw
    go_simp
    try with_reducible rfl
  simp only [Act.put, List.setIfInBounds_toArray, List.set_cons_zero, List.set_cons_succ]
  refine call_at 1 (some 26) 12 #[.slice sb n' cb] rfl rfl (by rfl) (by kernel_rfl) (by kernel_rfl) (Calls.mono (lrow sb c off' n' cb zs w4.drew HM.out (fun n0 => ⟨(HB.out n0).1, I0.out.lt n0⟩) I0.out.cells) ?_)
  rintro e wa ⟨rfl, hb1⟩
  have I1 : Hid _ := I0.out.on hb1
  refine ⟨_, rfl, ⟨I1.out.r1, I1.out.r2, I1.out.r3⟩, fun hHeld => ?_⟩
  simp only [Act.put, List.setIfInBounds_toArray, List.set_cons_zero, List.set_cons_succ]
  refine call_at 2 (some 27) 11 #[.agg (row16 (wordsV zs n'))] rfl rfl (by rfl) (by kernel_rfl) (by kernel_rfl) (Calls.mono (HK.out.of _ UZ.out wa) ?_)
  rintro e wb ⟨gb, ob, cc, rfl, -, -, -, rb, hb2⟩
  have RB2 : Hid _ := rb
  have I2 : Hid _ := I1.out.on hb2
  clear rb
  refine ⟨_, rfl, ⟨I2.out.r1, I2.out.r2, I2.out.r3⟩, fun hHeld => ?_⟩
  simp only [Act.put, List.setIfInBounds_toArray, List.set_cons_zero, List.set_cons_succ]
  refine call_at 4 (some 29) 12 #[.slice sb n' cb] rfl rfl (by rfl) (by kernel_rfl) (by kernel_rfl) (Calls.mono (lrow sb c off' n' cb zs wb HM.out (fun n0 => ⟨(HB.out n0).1, I2.out.lt n0⟩) I2.out.cells) ?_)
  rintro e wc ⟨rfl, hb3⟩
  have I3 : Hid _ := I2.out.on hb3
  refine ⟨_, rfl, ⟨I3.out.r1, I3.out.r2, I3.out.r3⟩, fun hHeld => ?_⟩
  simp only [Act.put, List.setIfInBounds_toArray, List.set_cons_zero, List.set_cons_succ]
  refine call_at 5 (some 30) 13 #[.agg (row16 (wordsV zs n'))] rfl rfl (by rfl) (by kernel_rfl) (by kernel_rfl) (Calls.mono (rOf _ UZ.out wc) ?_)
  rintro e wd ⟨gd, cd, rfl, -, -, -, rd, hb4⟩
  have RD4 : Hid _ := rd
  have RB4 : Hid _ := (RB2.out.below hb3).below hb4
  have I4 : Hid _ := I3.out.on hb4
  clear rd
  refine ⟨_, rfl, ⟨I4.out.r1, I4.out.r2, I4.out.r3⟩, fun hHeld => ?_⟩
  simp only [Act.put, List.setIfInBounds_toArray, List.set_cons_zero, List.set_cons_succ]
  refine call_at 6 (some 31) 10 #[.slice (some ⟨gb, ob, none⟩) 8 cc, .slice (some ⟨gd, 0, none⟩) 8 cd] rfl rfl (by rfl) (by kernel_rfl) (by kernel_rfl) (Calls.mono (lsame RB4.out RD4.out 8 cc cd rfl (by decide)) ?_)
  rintro e we ⟨rfl, hb5⟩
  have I5 : Hid _ := I4.out.on hb5
  refine ⟨_, rfl, ⟨I5.out.r1, I5.out.r2, I5.out.r3⟩, fun hHeld => ?_⟩
  simp only [Act.put, List.setIfInBounds_toArray, List.set_cons_zero, List.set_cons_succ]
  refine take_at 7 (some 32) (v := ?_) rfl rfl (by kernel_rfl) (by kernel_rfl) (by kernel_rfl) (fun _ _ _ h => h) (Or.inl ⟨by rfl, ?_⟩) (by assumption) ?_
  rotate_left
  · intro w hSw
    try dsimp only at hSw
    go_simp
    try with_reducible rfl
  simp only [Act.put, List.setIfInBounds_toArray, List.set_cons_zero, List.set_cons_succ]
  refine take_at 8 (some 33) (v := .agg L.toArray) rfl rfl (by kernel_rfl) (by kernel_rfl) (by kernel_rfl) (fun _ _ _ h => h) (yieldsIf_load_mid (by rfl) _ _ rfl _ _ rfl L _ (fun w hSw => hSw.1) hu rfl hi) (by assumption) ?_
  simp only [Act.put, List.setIfInBounds_toArray, List.set_cons_zero, List.set_cons_succ]
  refine take_at 9 (some 34) (v := ?_) rfl rfl (by kernel_rfl) (by kernel_rfl) (by kernel_rfl) (fun _ _ _ h => h) (Or.inl ⟨by rfl, ?_⟩) (by assumption) ?_
  rotate_left
  · intro w hSw
    try dsimp only at hSw
    go_simp
    try with_reducible rfl
  simp only [Act.put, List.setIfInBounds_toArray, List.set_cons_zero, List.set_cons_succ]
  refine take_at 10 (some 35) (v := .agg L.toArray) rfl rfl (by kernel_rfl) (by kernel_rfl) (by kernel_rfl) (fun _ _ _ h => h) (yieldsIf_load_mid (by rfl) _ _ rfl _ _ rfl L _ (fun w hSw => hSw.2.1) hu rfl hi) (by assumption) ?_
  simp only [Act.put, List.setIfInBounds_toArray, List.set_cons_zero, List.set_cons_succ]
  refine take_at 11 (some 36) (v := ?_) rfl rfl (by kernel_rfl) (by kernel_rfl) (by kernel_rfl) (fun _ _ _ h => h) (Or.inl ⟨by rfl, ?_⟩) (by assumption) ?_
  rotate_left
  · intro w hSw
    try dsimp only at hSw
    go_simp
    try with_reducible rfl
  simp only [Act.put, List.setIfInBounds_toArray, List.set_cons_zero, List.set_cons_succ]
  refine take_at 12 (some 37) (v := ?_) rfl rfl (by kernel_rfl) (by kernel_rfl) (by kernel_rfl) (fun _ _ _ h => h) (Or.inl ⟨by rfl, ?_⟩) (by assumption) ?_
  rotate_left
  · intro w hSw
    try dsimp only at hSw
    go_simp
    try with_reducible rfl
  simp only [Act.put, List.setIfInBounds_toArray, List.set_cons_zero, List.set_cons_succ]
  refine take_at 13 (some 38) (v := ?_) rfl rfl (by kernel_rfl) (by kernel_rfl) (by kernel_rfl) (fun _ _ _ h => h) (Or.inl ⟨by rfl, ?_⟩) (by assumption) ?_
  rotate_left
  · intro w hSw
    try dsimp only at hSw
    go_simp
    try with_reducible rfl
  simp only [Act.put, List.setIfInBounds_toArray, List.set_cons_zero, List.set_cons_succ]
  refine take_at 14 (some 39) (v := ?_) rfl rfl (by kernel_rfl) (by kernel_rfl) (by kernel_rfl) (fun _ _ _ h => h) (Or.inl ⟨by rfl, ?_⟩) (by assumption) ?_
  rotate_left
  · intro w hSw
    try dsimp only at hSw
    go_simp
    try with_reducible rfl
  simp only [Act.put, List.setIfInBounds_toArray, List.set_cons_zero, List.set_cons_succ]
  refine take_at 16 (some 41) (v := ?_) rfl rfl (by kernel_rfl) (by kernel_rfl) (by kernel_rfl) (fun _ _ _ h => h) (Or.inl ⟨by rfl, ?_⟩) (by assumption) ?_
  rotate_left
  · intro w hSw
    try dsimp only at hSw
    go_simp
    try with_reducible rfl
  simp only [Act.put, List.setIfInBounds_toArray, List.set_cons_zero, List.set_cons_succ]
  refine take_at 17 (some 42) (v := ?_) rfl rfl (by kernel_rfl) (by kernel_rfl) (by kernel_rfl) (fun _ _ _ h => h) (Or.inl ⟨by rfl, ?_⟩) (by assumption) ?_
  rotate_left
  · intro w hSw
    try dsimp only at hSw
    go_simp
    try with_reducible rfl
  simp only [Act.put, List.setIfInBounds_toArray, List.set_cons_zero, List.set_cons_succ]
  refine call_at 15 (some 40) 14 #[.int .i64 E] rfl rfl (by rfl) (by kernel_rfl) (by kernel_rfl) (Calls.mono (gErr _ _) ?_)
  rintro e wz ⟨rfl, hz⟩
  subst hz
  refine ⟨_, rfl, ⟨I5.out.r1, I5.out.r2, I5.out.r3⟩, fun hHeld => ?_⟩
  simp only [Act.put, List.setIfInBounds_toArray, List.set_cons_zero, List.set_cons_succ]
  refine take_at 18 (some 43) (v := ?_) rfl rfl (by kernel_rfl) (by kernel_rfl) (by kernel_rfl) (fun _ _ _ h => h) (Or.inl ⟨by rfl, ?_⟩) (by assumption) ?_
  rotate_left
  · intro w hSw
    try dsimp only at hSw
    go_simp
    try with_reducible rfl
  simp only [Act.put, List.setIfInBounds_toArray, List.set_cons_zero, List.set_cons_succ]
  refine take_at 19 (some 44) (v := ?_) rfl rfl (by kernel_rfl) (by kernel_rfl) (by kernel_rfl) (fun _ _ _ h => h) (Or.inl ⟨by rfl, ?_⟩) (by assumption) ?_
  rotate_left
  · intro w hSw
    try dsimp only at hSw
    go_simp
    try with_reducible rfl
  simp only [Act.put, List.setIfInBounds_toArray, List.set_cons_zero, List.set_cons_succ]
  refine take_at 20 (some 45) (v := ?_) rfl rfl (by kernel_rfl) (by kernel_rfl) (by kernel_rfl) (fun _ _ _ h => h) (Or.inl ⟨by rfl, ?_⟩) (by assumption) ?_
  rotate_left
  · intro w hSw
    try dsimp only at hSw
    go_simp
    try with_reducible rfl
  simp only [Act.put, List.setIfInBounds_toArray, List.set_cons_zero, List.set_cons_succ]
  refine take_at 21 (some 46) (v := ?_) rfl rfl (by kernel_rfl) (by kernel_rfl) (by kernel_rfl) (fun _ _ _ h => h) (Or.inl ⟨by rfl, ?_⟩) (by assumption) ?_
  rotate_left
  · intro w hSw
    try dsimp only at hSw
    go_simp
    try with_reducible rfl
  simp only [Act.put, List.setIfInBounds_toArray, List.set_cons_zero, List.set_cons_succ]
  refine take_at 22 (some 47) (v := ?_) rfl rfl (by kernel_rfl) (by kernel_rfl) (by kernel_rfl) (fun _ _ _ h => h) (Or.inl ⟨by rfl, ?_⟩) (by assumption) ?_
  rotate_left
  · intro w hSw
    try dsimp only at hSw
    go_simp
    try with_reducible rfl
  simp only [Act.put, List.setIfInBounds_toArray, List.set_cons_zero, List.set_cons_succ]
  refine take_at 23 (some 48) (v := ?_) rfl rfl (by kernel_rfl) (by kernel_rfl) (by kernel_rfl) (fun _ _ _ h => h) (Or.inl ⟨by rfl, ?_⟩) (by assumption) ?_
  rotate_left
  · intro w hSw
    try dsimp only at hSw
    go_simp
    try with_reducible rfl
  simp only [Act.put, List.setIfInBounds_toArray, List.set_cons_zero, List.set_cons_succ]
  refine take_at 24 (some 49) (v := ?_) rfl rfl (by kernel_rfl) (by kernel_rfl) (by kernel_rfl) (fun _ _ _ h => h) (Or.inl ⟨by rfl, ?_⟩) (by assumption) ?_
  rotate_left
  · intro w hSw
    try dsimp only at hSw
    go_simp
    try with_reducible rfl
  simp only [Act.put, List.setIfInBounds_toArray, List.set_cons_zero, List.set_cons_succ]
  refine take_at 26 (some 51) (v := ?_) rfl rfl (by kernel_rfl) (by kernel_rfl) (by kernel_rfl) (fun _ _ _ h => h) (Or.inl ⟨by rfl, ?_⟩) (by assumption) ?_
  rotate_left
  · intro w hSw
    try dsimp only at hSw
    go_simp
    try with_reducible rfl
  simp only [Act.put, List.setIfInBounds_toArray, List.set_cons_zero, List.set_cons_succ]
  refine take_at 27 (some 52) (v := ?_) rfl rfl (by kernel_rfl) (by kernel_rfl) (by kernel_rfl) (fun _ _ _ h => h) (Or.inl ⟨by rfl, ?_⟩) (by assumption) ?_
  rotate_left
  · intro w hSw
    try dsimp only at hSw
    go_simp
    try with_reducible rfl
  simp only [Act.put, List.setIfInBounds_toArray, List.set_cons_zero, List.set_cons_succ]
  refine take_at 28 (some 53) (v := ?_) rfl rfl (by kernel_rfl) (by kernel_rfl) (by kernel_rfl) (fun _ _ _ h => h) (Or.inl ⟨by rfl, ?_⟩) (by assumption) ?_
  rotate_left
  · intro w hSw
    try dsimp only at hSw
    go_simp
    try with_reducible rfl
  simp only [Act.put, List.setIfInBounds_toArray, List.set_cons_zero, List.set_cons_succ]
  refine take_at 29 (some 54) (v := ?_) rfl rfl (by kernel_rfl) (by kernel_rfl) (by kernel_rfl) (fun _ _ _ h => h) (Or.inl ⟨by rfl, ?_⟩) (by assumption) ?_
  rotate_left
  · intro w hSw
    try dsimp only at hSw
    go_simp
    try with_reducible rfl
  simp only [Act.put, List.setIfInBounds_toArray, List.set_cons_zero, List.set_cons_succ]
  refine call_at 25 (some 50) 15 #[.slice sa n ca, .int .u32 p, .int .u32 s, .int .i64 h] rfl rfl (by rfl) (by kernel_rfl) (by kernel_rfl) (Calls.mono (HK.out.allow I5.out.regs UL.out n ca NL.out (by omega) p s h HP.out HS.out) ?_)
  rintro e wf ⟨rfl, hb6⟩
  have I6 : Hid _ := I5.out.on hb6
  refine ⟨_, rfl, ⟨I6.out.r1, I6.out.r2, I6.out.r3⟩, fun hHeld => ?_⟩
  simp only [Act.put, List.setIfInBounds_toArray, List.set_cons_zero, List.set_cons_succ]
  refine call_at 30 (some 55) 16 #[.slice sa n ca, .int .u32 p, .int .u32 s, .int .i64 h] rfl rfl (by rfl) (by kernel_rfl) (by kernel_rfl) (Calls.mono (rAllow I6.out.regs UL.out n ca NL.out (by omega) p s h HP.out HS.out) ?_)
  rintro e wg ⟨rfl, hb7⟩
  have I7 : Hid _ := I6.out.on hb7
  refine ⟨_, rfl, ⟨I7.out.r1, I7.out.r2, I7.out.r3⟩, fun hHeld => ?_⟩
  simp only [Act.put, List.setIfInBounds_toArray, List.set_cons_zero, List.set_cons_succ]
  refine take_at 31 (some 56) (v := ?_) rfl rfl (by kernel_rfl) (by kernel_rfl) (by kernel_rfl) (fun _ _ _ h => h) (Or.inl ⟨by rfl, ?_⟩) (by assumption) ?_
  rotate_left
  · intro w hSw
    try dsimp only at hSw
    go_simp
    try with_reducible rfl
  simp only [Act.put, List.setIfInBounds_toArray, List.set_cons_zero, List.set_cons_succ]
  refine take_at 32 (some 57) (v := ?_) rfl rfl (by kernel_rfl) (by kernel_rfl) (by kernel_rfl) (fun _ _ _ h => h) (Or.inl ⟨by rfl, ?_⟩) (by assumption) ?_
  rotate_left
  · intro w hSw
    try dsimp only at hSw
    go_simp
    try with_reducible rfl
  simp only [Act.put, List.setIfInBounds_toArray, List.set_cons_zero, List.set_cons_succ]
  refine take_at 33 (some 58) (v := ?_) rfl rfl (by kernel_rfl) (by kernel_rfl) (by kernel_rfl) (fun _ _ _ h => h) (Or.inl ⟨by rfl, ?_⟩) (by assumption) ?_
  rotate_left
  · intro w hSw
    try dsimp only at hSw
    go_simp
    try with_reducible rfl
  simp only [Act.put, List.setIfInBounds_toArray, List.set_cons_zero, List.set_cons_succ]
  refine call_at 34 (some 59) 7 #[] rfl rfl (by rfl) (by kernel_rfl) (by kernel_rfl) (Calls.mono (CW.out _) ?_)
  rintro e wh ⟨rfl, hb8⟩
  have I8 : Hid _ := I7.out.on hb8
  refine ⟨_, rfl, ⟨I8.out.r1, I8.out.r2, I8.out.r3⟩, fun hHeld => ?_⟩
  simp only [Act.put, List.setIfInBounds_toArray, List.set_cons_zero, List.set_cons_succ]
  refine take_at 35 (some 60) (v := ?_) rfl rfl (by kernel_rfl) (by kernel_rfl) (by kernel_rfl) (fun _ _ _ h => h) (Or.inl ⟨by rfl, ?_⟩) (by assumption) ?_
  rotate_left
  · intro w hSw
    try dsimp only at hSw
    go_simp
    try with_reducible rfl
  simp only [Act.put, List.setIfInBounds_toArray, List.set_cons_zero, List.set_cons_succ]
  refine take_at 36 (some 10) (v := ?_) rfl rfl (by kernel_rfl) (by kernel_rfl) (by kernel_rfl) (fun _ _ _ h => h) (Or.inl ⟨by rfl, ?_⟩) (by assumption) ?_
  rotate_left
  · intro w hSw
    try dsimp only at hSw
    go_simp
    try with_reducible rfl
  simp only [Act.put, List.setIfInBounds_toArray, List.set_cons_zero, List.set_cons_succ]
  refine wpAnyH_done (by kernel_rfl) ?_ _
  refine NoPanic.normal ?_
  go_wp2
  go_ret
  exact ⟨rfl, I8.out.below⟩

theorem guardAll_many (K : GuardK) (w : World) (sa sb : Option Addr) (n n' ca cb : Nat) (p s h : Int) (hm : n ≤ maxLen) (hn : 20 < n) :
    Calls Try.prog 3 #[.slice sb n' cb, .slice sa n ca, .int .u32 p, .int .u32 s, .int .i64 h] w fun e w' => e = .returned (.bool true) ∧ Below w.heap.size w w' := by
  have CW : Hid _ := gawake K
  clear K
  unfold maxLen at hm
  have e1 : (20 : Int) < (n : Int) := by omega
  go_enter Try.func3, Try.ntmps3
  go_wp2_with fail
  refine (CW.out _).mono ?_
  rintro e w1 ⟨rfl, b1⟩
  go_wp2
  go_ret
  exact ⟨rfl, b1⟩

/-- In the form in which the frame opens what came in. -/
theorem guardAll (K : GuardK) (a sa : Option Addr) (n cap n2 cap2 : Nat) (zs : List Int) (l : List Rg) (p s h : Int) (hp : U32 p) (hs : U32 s) (w : World)
    (hz : (a = none ∧ n = 0 ∧ cap = 0 ∧ zs = []) ∨ ∃ q, a = some q ∧ n ≤ cap ∧ cap ≤ maxLen ∧ zs.length = cap ∧ (∀ i, i < zs.length → w.cell? (q.add i) = some (.int .u32 (zs.getD i 0))) ∧ ∀ z ∈ zs, (Lit.int .u32 z).wf = true)
    (hl : IsRegs w sa n2 l) :
    Calls Try.prog 3 #[.slice a n cap, .slice sa n2 cap2, .int .u32 p, .int .u32 s, .int .i64 h] w fun e w' => e = .returned (.bool true) ∧ Below w.heap.size w w' := by
  obtain ⟨e1, e2, hu, b, off, hr⟩ := hl
  by_cases h20 : 20 < n2
  · exact guardAll_many K w sa a n2 n cap2 cap p s h e2 h20
  · rcases hz with ⟨rfl, rfl, rfl, rfl⟩ | ⟨q, rfl, hl, hmc, hzl, hcell, hwz⟩
    · exact guardAll_way (c := 0) (off' := 0) K hr hu n2 cap2 0 0 e1 (by omega) [] (Nat.zero_le _) (fun h => absurd h (by omega)) (fun i hi => absurd hi (by omega)) (fun z hzz => by cases hzz) p s h hp hs
    · have hU : ∀ z ∈ zs, U32 z := fun z hzz => u32_of (bounds_u32 (hwz z hzz))
      by_cases hn : n = 0
      · subst hn
        exact guardAll_way (c := 0) (off' := 0) K hr hu n2 cap2 0 cap e1 (by omega) zs (Nat.zero_le _) (fun h => absurd h (by omega)) (fun i hi => absurd hi (by omega)) hU p s h hp hs
      · obtain ⟨c, off', spot⟩ := q
        have hc := hcell 0 (by omega)
        have hspot : spot = none := by simpa [Addr.add] using World.cell?_spot hc
        subst hspot
        have hb : c < w.heap.size := by simpa [Addr.add] using World.block_lt_of_cell? _ _ hc
        exact guardAll_way (c := c) (off' := off') K hr hu n2 cap2 n cap e1 (by omega) zs (by omega) (fun _ => ⟨rfl, hb⟩) (fun i hi => by have := hcell i (by omega); rwa [add_none] at this) hU p s h hp hs
end Go.Proofs.Ytioppnlojlecaaa
