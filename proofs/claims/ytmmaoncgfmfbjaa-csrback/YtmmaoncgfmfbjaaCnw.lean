/-
  Package csr: what a register says, what is written: the contracts.
-/
import Derived.Test.YtmmaoncgfmfbjaaCnr
namespace Go.Proofs.Ytmmaoncgfmfbjaa
open Go.RowKit

theorem readE_two (n : Int) : readE n = 0 ∨ readE n = 2 := by unfold readE; split; exact Or.inl rfl; exact Or.inr rfl
set_option maxRecDepth 100000 in
set_option maxHeartbeats 4000000 in
theorem nRead (f : Nat → Int) (u : Bool) (hu : ∀ i, U32 (f i)) (n now : Int) (due : Bool) (w : World) : Calls Try.prog 8 #[.agg (regs57 f u), .int .i64 n, .int .i64 now, .bool due] w fun e w' => e = .returned (.tuple #[.int .u32 (readN f n now due), .int .i64 (readE n)]) ∧ Below w.heap.size w w' := by
  have C : Hid _ := nregisters f u hu now due
  clear hu
  have hbox := box57 f u
  obtain ⟨fs, hfs⟩ := und57
  have HS : Hid _ := hfs
  clear hfs
  have HB0 := alloc_at w (.cells (regs57 f u) 27)
  rcases readE_two n with h | h
  · have hM : regM f now due n = some (readN f n now due) := by unfold regM; rw [if_pos h]
    rw [h]
    generalize readN f n now due = N at *
    generalize regM f now due = M at *
    have HM : Hid _ := hM
    clear hM h
    go_enter Try.func8, Try.ntmps8
    go_wp2_with (first | (refine wpList_load_row rfl 27 (.tmp 4) rfl _ rfl _ _ _ _ (by assumption) HS.out rfl (by rw [regs57_size]; exact info57) ?_))
    refine (C.out _).mono ?_
    rintro e w1 ⟨rfl, b1, m1⟩
    have B := below_first b1
    rw [World.size_alloc] at m1 ⊢
    go_wp2_with (first | (refine wpList_mget_some rfl rfl rfl rfl m1 HM.out ?_))
    exact bodyPost_ret (v := .tuple #[.int .u32 N, .int .i64 0]) (by simp [results, Try.results8, go_sem]) rfl ⟨rfl, B⟩
  · have hM : regM f now due n = none := by unfold regM; rw [if_neg (by omega)]
    have hN : readN f n now due = 0 := by
      have h3 : ¬ (n = 836 ∨ n = 3072 ∨ (cellOf n).isSome = true) := fun h2 => by
        unfold readE at h
        rw [if_pos h2] at h
        cases h
      have h4 : cellOf n = none := by
        cases hc : cellOf n with
        | none => rfl
        | some i => exact absurd (Or.inr (Or.inr (by rw [hc]; rfl))) h3
      unfold readN
      rw [if_neg (fun e => h3 (Or.inl e)), if_neg (fun e => h3 (Or.inr (Or.inl e))), h4]
    rw [h, hN]
    generalize regM f now due = M at *
    have HM : Hid _ := hM
    clear hM h hN
    go_enter Try.func8, Try.ntmps8
    go_wp2_with (first | (refine wpList_load_row rfl 27 (.tmp 4) rfl _ rfl _ _ _ _ (by assumption) HS.out rfl (by rw [regs57_size]; exact info57) ?_))
    refine (C.out _).mono ?_
    rintro e w1 ⟨rfl, b1, m1⟩
    have B := below_first b1
    rw [World.size_alloc] at m1 ⊢
    go_wp2_with (first | (refine wpList_mget_none rfl rfl rfl rfl m1 HM.out ?_))
    exact bodyPost_ret (v := .tuple #[.int .u32 0, .int .i64 2]) (by simp [results, Try.results8, go_sem]) rfl ⟨rfl, B⟩

/-- Registers with what the map has of them: the seven, and k of the sixteen. -/
def takeF (f : Nat → Int) (M : Int → Option Int) (k : Nat) (i : Nat) : Int :=
  if i = 34 then (M 768).getD 0 else if i = 35 then (M 772).getD 0 else if i = 36 then (M 773).getD 0 else if i = 37 then (M 832).getD 0 else if i = 38 then (M 833).getD 0 else if i = 39 then (M 834).getD 0 else if i = 40 then (M 835).getD 0
  else if 41 ≤ i ∧ i < 41 + k then (M (1984 + ((i - 41 : Nat) : Int))).getD 0 else f i
theorem takeF_zero (f : Nat → Int) (M : Int → Option Int) (i : Nat) : set1 (set1 (set1 (set1 (set1 (set1 (set1 f 34 ((M 768).getD 0)) 35 ((M 772).getD 0)) 36 ((M 773).getD 0)) 37 ((M 832).getD 0)) 38 ((M 833).getD 0)) 39 ((M 834).getD 0)) 40 ((M 835).getD 0) i = takeF f M 0 i := by
  by_cases a1 : i = 34
  · subst a1; rfl
  by_cases a2 : i = 35
  · subst a2; rfl
  by_cases a3 : i = 36
  · subst a3; rfl
  by_cases a4 : i = 37
  · subst a4; rfl
  by_cases a5 : i = 38
  · subst a5; rfl
  by_cases a6 : i = 39
  · subst a6; rfl
  by_cases a7 : i = 40
  · subst a7; rfl
  unfold takeF set1
  rw [if_neg a1, if_neg a2, if_neg a3, if_neg a4, if_neg a5, if_neg a6, if_neg a7, if_neg a1, if_neg a2, if_neg a3, if_neg a4, if_neg a5, if_neg a6, if_neg a7, if_neg (by omega)]
theorem takeF_next (f : Nat → Int) (M : Int → Option Int) (k : Nat) (i : Nat) : set1 (takeF f M k) (41 + k) ((M (1984 + (k : Int))).getD 0) i = takeF f M (k + 1) i := by
  unfold set1
  by_cases h : i = 41 + k
  · subst h
    rw [if_pos rfl]
    unfold takeF
    rw [if_neg (by omega), if_neg (by omega), if_neg (by omega), if_neg (by omega), if_neg (by omega), if_neg (by omega), if_neg (by omega), if_pos (by omega), show 41 + k - 41 = k by omega]
  · rw [if_neg h]
    unfold takeF
    by_cases h2 : 41 ≤ i ∧ i < 41 + k
    · rw [if_pos h2, if_pos (show 41 ≤ i ∧ i < 41 + (k + 1) by omega)]
    · rw [if_neg h2, if_neg (show ¬ (41 ≤ i ∧ i < 41 + (k + 1)) by omega)]

structure KeepR (w : World) (f : Nat → Int) (u : Bool) (g n : Nat) (M : Int → Option Int) (k : Nat) (wr : World) : Prop where
  row : wr.heap[w.heap.size]? = some (.cells (regs57 (takeF f M k) u) 27)
  out : wr.heap[w.heap.size + 1]? = some (.cells (regs57 (fun _ => 0) false) 27)
  map : MapIs wr g n M
  below : Below w.heap.size w wr

set_option maxRecDepth 100000 in
set_option maxHeartbeats 4000000 in
theorem nkeep (f : Nat → Int) (u : Bool) (g n : Nat) (M : Int → Option Int) (w : World) (hm : MapIs w g n M) : Calls Try.prog 22 #[.agg (regs57 f u), .map (some g)] w fun e w' => e = .returned (.agg (regs57 (takeF f M 16) u)) ∧ Below w.heap.size w w' := by
  have hbox := box57 f u
  obtain ⟨fs, hfs⟩ := und57
  have HS : Hid _ := hfs
  clear hfs
  have hg := mapIs_lt hm
  have HM0 := mapIs_kept hm (show Below w.heap.size w ((w.alloc (.cells (regs57 f u) 27)).alloc (.cells (regs57 (fun _ => 0) false) 27)) from box2)
  have HB0 : ((w.alloc (.cells (regs57 f u) 27)).alloc (.cells (regs57 (fun _ => 0) false) 27)).heap[w.heap.size]? = some (.cells (regs57 f u) 27) := kept_block ((Below.refl _ _).alloc (Nat.le_refl _) _)
  have HZ0 : ((w.alloc (.cells (regs57 f u) 27)).alloc (.cells (regs57 (fun _ => 0) false) 27)).heap[w.heap.size + 1]? = some (.cells (regs57 (fun _ => 0) false) 27) := by have := alloc_at (w.alloc (.cells (regs57 f u) 27)) (.cells (regs57 (fun _ => 0) false) 27); rwa [World.size_alloc] at this
  have HL0 : Below w.heap.size w ((w.alloc (.cells (regs57 f u) 27)).alloc (.cells (regs57 (fun _ => 0) false) 27)) := box2
  clear hm
  have z57 := zero57
  go_enter Try.func22, Try.ntmps22
  go_wp2_with (first | (refine wpList_mget rfl rfl rfl rfl (by assumption) ?_) | (refine wpList_store_reg rfl rfl rfl rfl (by assumption) (by first | decide | omega) (by first | decide | omega) ?_; intro wn HBn HO HL; have HZn := Eq.trans (HO (w.heap.size + 1) (by omega)) (by assumption); have HMn := mapIs_block (by assumption) (HO g (by omega)); have HLn := HL w.heap.size w (Nat.le_refl _) (by assumption); clear HO HL))
  rw [regs57_ext (fun i _ _ => takeF_zero f M i)] at HBn
  have R0 : Hid (KeepR w f u g n M 0 wn) := ⟨HBn, HZn, HMn, HLn⟩
  clear HBn HZn HMn HLn HM0 HB0 HZ0 HL0 hbox z57
  go_loopw [27] (fun i wr => ∃ k : Nat, k ≤ 16 ∧ i = .int .i64 k ∧ Hid (KeepR w f u g n M k wr)) (fun i _ => 16 - (intOf i).toNat)
  case atStart => exact ⟨0, Nat.zero_le _, rfl, R0.out⟩
  case round =>
    clear R0
    obtain ⟨k, hk, rfl, hr⟩ := hrel
    have HB1 := hr.out.row
    have HZ1 := hr.out.out
    have HM1 := hr.out.map
    have HL1 := hr.out.below
    clear hr
    by_cases hlt : k < 16
    · have hw : wrap64 (1984 + (k : Int)) = 1984 + (k : Int) := wrap64_id (by omega) (by omega)
      have i5 : (0 : Int) ≤ (k : Int) := by omega
      have i6 : (k : Int) < 16 := by omega
      go_wp2_with (first | (refine wpList_mget rfl rfl rfl rfl (by assumption) ?_) | (refine wpList_store_reg rfl rfl rfl rfl (by assumption) (by first | decide | omega) (by first | decide | omega) ?_; intro wn HBn HO HL; have HZn := Eq.trans (HO (w.heap.size + 1) (by omega)) (by assumption); have HMn := mapIs_block (by assumption) (HO g (by omega)); have HLn := HL w.heap.size w (Nat.le_refl _) (by assumption); clear HO HL))
      have HF : Hid (KeepR w f u g n M (k + 1) wn) := ⟨by rw [HBn, regs57_ext (fun i _ _ => takeF_next f M k i)], HZn, HMn, HLn⟩
      exact ⟨⟨k + 1, hlt, by go_num, HF.out⟩, by simp [intOf]; omega⟩
    · have hk16 : k = 16 := by omega
      subst hk16
      go_wp2_with (first | (refine wpList_load_row rfl 27 (.tmp 2) rfl _ rfl _ _ _ _ (by assumption) HS.out rfl (by rw [regs57_size]; exact info57) ?_) | (refine wpList_store_row rfl 27 (.tmp 4) (.tmp 38) rfl _ (regs57 _ _) rfl rfl _ _ (by assumption) (by rw [regs57_size]; exact info57) (by rw [regs57_size]; rfl) (regs57_one _ _) ?_))
      exact bodyPost_ret (results_cell_row rfl _ _ _ _ _ _ _ rfl (setRow_heap _ _ _ _ _ _ (by assumption)) HS.out rfl (by rw [regs57_size]; exact info57)) rfl ⟨rfl, below_setRow HL1 (Nat.le_succ _) _⟩

/-- The number of a register that has a cell. -/
def numOf (c : Nat) : Int := if c = 34 then 768 else if c = 35 then 772 else if c = 36 then 773 else if c = 37 then 832 else if c = 38 then 833 else if c = 39 then 834 else if c = 40 then 835 else 1984 + ((c - 41 : Nat) : Int)
theorem cellOf_inv {n : Int} {c : Nat} (h : cellOf n = some c) : n = numOf c ∧ 34 ≤ c ∧ c < 57 := by
  unfold cellOf at h
  by_cases a1 : n = 768
  · subst a1; cases h; exact ⟨rfl, by decide, by decide⟩
  by_cases a2 : n = 772
  · subst a2; cases h; exact ⟨rfl, by decide, by decide⟩
  by_cases a3 : n = 773
  · subst a3; cases h; exact ⟨rfl, by decide, by decide⟩
  by_cases a4 : n = 832
  · subst a4; cases h; exact ⟨rfl, by decide, by decide⟩
  by_cases a5 : n = 833
  · subst a5; cases h; exact ⟨rfl, by decide, by decide⟩
  by_cases a6 : n = 834
  · subst a6; cases h; exact ⟨rfl, by decide, by decide⟩
  by_cases a7 : n = 835
  · subst a7; cases h; exact ⟨rfl, by decide, by decide⟩
  rw [if_neg a1, if_neg a2, if_neg a3, if_neg a4, if_neg a5, if_neg a6, if_neg a7] at h
  by_cases a8 : 1984 ≤ n ∧ n < 2000
  · rw [if_pos a8] at h
    cases h
    refine ⟨?_, by omega, by omega⟩
    unfold numOf
    rw [if_neg (by omega), if_neg (by omega), if_neg (by omega), if_neg (by omega), if_neg (by omega), if_neg (by omega), if_neg (by omega)]
    omega
  · rw [if_neg a8] at h; cases h
theorem takeF_num (f : Nat → Int) (M : Int → Option Int) (i : Nat) : takeF f M 16 i = if 34 ≤ i ∧ i < 57 then (M (numOf i)).getD 0 else f i := by
  by_cases a1 : i = 34
  · subst a1; rfl
  by_cases a2 : i = 35
  · subst a2; rfl
  by_cases a3 : i = 36
  · subst a3; rfl
  by_cases a4 : i = 37
  · subst a4; rfl
  by_cases a5 : i = 38
  · subst a5; rfl
  by_cases a6 : i = 39
  · subst a6; rfl
  by_cases a7 : i = 40
  · subst a7; rfl
  unfold takeF numOf
  rw [if_neg a1, if_neg a2, if_neg a3, if_neg a4, if_neg a5, if_neg a6, if_neg a7, if_neg a1, if_neg a2, if_neg a3, if_neg a4, if_neg a5, if_neg a6, if_neg a7]
  by_cases h : 41 ≤ i ∧ i < 57
  · rw [if_pos (by omega), if_pos (by omega)]
  · rw [if_neg (by omega), if_neg (by omega)]
theorem numOf_inj {i c : Nat} (hi : 34 ≤ i ∧ i < 57) (hc : 34 ≤ c ∧ c < 57) (h : numOf i = numOf c) : i = c := by
  unfold numOf at h
  repeat' split at h
  all_goals omega
theorem cellOf_num {i : Nat} (hi : 34 ≤ i ∧ i < 57) : cellOf (numOf i) = some i := by
  by_cases a1 : i = 34
  · subst a1; rfl
  by_cases a2 : i = 35
  · subst a2; rfl
  by_cases a3 : i = 36
  · subst a3; rfl
  by_cases a4 : i = 37
  · subst a4; rfl
  by_cases a5 : i = 38
  · subst a5; rfl
  by_cases a6 : i = 39
  · subst a6; rfl
  by_cases a7 : i = 40
  · subst a7; rfl
  unfold numOf
  rw [if_neg a1, if_neg a2, if_neg a3, if_neg a4, if_neg a5, if_neg a6, if_neg a7]
  unfold cellOf
  rw [if_neg (by omega), if_neg (by omega), if_neg (by omega), if_neg (by omega), if_neg (by omega), if_neg (by omega), if_neg (by omega), if_pos (by omega)]
  congr 1
  omega
theorem cell_ne {n : Int} {c : Nat} (h : cellOf n = some c) : ¬ n = 836 ∧ ¬ n = 3072 := by
  constructor <;> (intro e; subst e; cases h)
theorem regM_cell (f : Nat → Int) (now : Int) (due : Bool) {n : Int} {c : Nat} (h : cellOf n = some c) : regM f now due n = some (f c) := by
  have e1 : readE n = 0 := by unfold readE; rw [if_pos (Or.inr (Or.inr (by rw [h]; rfl)))]
  have e2 : readN f n now due = f c := by unfold readN; rw [if_neg (cell_ne h).1, if_neg (cell_ne h).2, h]
  unfold regM
  rw [if_pos e1, e2]
theorem take_write (f : Nat → Int) (n v : Int) (c : Nat) (h : cellOf n = some c) (i : Nat) : takeF f (updM (regM f 0 false) n v) 16 i = set1 f c v i := by
  obtain ⟨h1, h2⟩ := cellOf_inv h
  rw [takeF_num]
  unfold set1 updM
  by_cases hi : 34 ≤ i ∧ i < 57
  · rw [if_pos hi]
    by_cases hic : i = c
    · subst hic
      rw [if_pos h1.symm, if_pos rfl]; rfl
    · rw [if_neg (fun e => hic (numOf_inj hi h2 (e.trans h1))), if_neg hic, regM_cell f 0 false (cellOf_num hi)]; rfl
  · rw [if_neg hi, if_neg (by intro e; subst e; exact hi h2)]
theorem keepV_u {n x : Int} (hx : U32 x) : U32 (keepV n x) := by
  unfold keepV
  split
  · unfold statV; split <;> exact bits_u32 _ _ _
  split
  · exact bits_u32 _ _ _
  split
  · obtain ⟨h0, h1⟩ := hx; exact ⟨by omega, by omega⟩
  · exact hx

theorem regs_tuple {f g : Nat → Int} {u : Bool} {a b : Int} (h : ∀ i, i < 57 → i ≠ 33 → f i = g i) (e : a = b) : Ending.returned (.tuple #[.agg (regs57 f u), .int .i64 a]) = .returned (.tuple #[.agg (regs57 g u), .int .i64 b]) := by rw [regs57_ext h, e]
end Go.Proofs.Ytmmaoncgfmfbjaa
