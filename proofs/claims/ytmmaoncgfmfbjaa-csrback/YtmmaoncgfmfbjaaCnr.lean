/-
  Package csr: all registers by their numbers, in a map: the contract of the function that makes it.
-/
import Derived.Test.YtmmaoncgfmfbjaaCnv
import Derived.Test.YtmmaoncgfmfbjaaImap
import Derived.Test.YtmmaoncgfmfbjaaCells
import Derived.Test.YtmmaoncgfmfbjaaCsg
namespace Go.Proofs.Ytmmaoncgfmfbjaa
open Go.RowKit

/-- All registers by their numbers. -/
def regM (f : Nat → Int) (now : Int) (due : Bool) (n : Int) : Option Int := if readE n = 0 then some (readN f n now due) else none
def baseM (f : Nat → Int) (c d : Int) : Int → Option Int :=
  updM (updM (updM (updM (updM (updM (updM (updM (updM (fun _ => none) 768 (f 34)) 772 (f 35)) 773 (f 36)) 832 (f 37)) 833 (f 38)) 834 (f 39)) 835 (f 40)) 836 d) 3072 c
def rowM (f : Nat → Int) (B : Int → Option Int) (k : Nat) (n : Int) : Option Int := if 1984 ≤ n ∧ n < 1984 + (k : Int) then some (f (41 + (n - 1984).toNat)) else B n
theorem rowM_zero (f : Nat → Int) (B : Int → Option Int) (n : Int) : B n = rowM f B 0 n := by unfold rowM; rw [if_neg (by omega)]
theorem rowM_next (f : Nat → Int) (B : Int → Option Int) (k : Nat) (n : Int) : updM (rowM f B k) (1984 + (k : Int)) (f (41 + k)) n = rowM f B (k + 1) n := by
  unfold updM rowM
  by_cases h : n = 1984 + (k : Int)
  · subst h
    rw [if_pos rfl, if_pos (by omega), show (1984 + (k : Int) - 1984).toNat = k by omega]
  · rw [if_neg h]
    by_cases h2 : 1984 ≤ n ∧ n < 1984 + (k : Int)
    · rw [if_pos h2, if_pos (by omega)]
    · rw [if_neg h2, if_neg (by omega)]
theorem updM_twice (M : Int → Option Int) (i x y z j c : Int) (h : i ≠ j) : updM (updM (updM M i x) j c) i y z = updM (updM M i y) j c z := by
  unfold updM
  by_cases h1 : z = i
  · subst h1; rw [if_pos rfl, if_neg h, if_pos rfl]
  · rw [if_neg h1]
    by_cases h2 : z = j
    · rw [if_pos h2, if_pos h2]
    · rw [if_neg h2, if_neg h2, if_neg h1, if_neg h1]
theorem rowM_all (f : Nat → Int) (now : Int) (due : Bool) (n : Int) : rowM f (baseM f (now % 4294967296) (if due then 128 else 0)) 16 n = regM f now due n := by
  by_cases a8 : 1984 ≤ n ∧ n < 2000
  · have e1 : rowM f (baseM f (now % 4294967296) (if due then 128 else 0)) 16 n = some (f (41 + (n - 1984).toNat)) := by unfold rowM; rw [if_pos (by omega)]
    have hc : cellOf n = some (41 + (n - 1984).toNat) := by
      unfold cellOf
      rw [if_neg (by omega), if_neg (by omega), if_neg (by omega), if_neg (by omega), if_neg (by omega), if_neg (by omega), if_neg (by omega), if_pos a8]
    have e2 : readE n = 0 := by unfold readE; rw [if_pos (Or.inr (Or.inr (by rw [hc]; rfl)))]
    have e3 : readN f n now due = f (41 + (n - 1984).toNat) := by unfold readN; rw [if_neg (by omega), if_neg (by omega), hc]
    rw [e1]; unfold regM; rw [if_pos e2, e3]
  · have e0 : rowM f (baseM f (now % 4294967296) (if due then 128 else 0)) 16 n = baseM f (now % 4294967296) (if due then 128 else 0) n := by unfold rowM; rw [if_neg (by omega)]
    rw [e0]
    clear e0
    by_cases h1 : n = 768
    · subst h1; rfl
    by_cases h2 : n = 772
    · subst h2; rfl
    by_cases h3 : n = 773
    · subst h3; rfl
    by_cases h4 : n = 832
    · subst h4; rfl
    by_cases h5 : n = 833
    · subst h5; rfl
    by_cases h6 : n = 834
    · subst h6; rfl
    by_cases h7 : n = 835
    · subst h7; rfl
    by_cases h8 : n = 836
    · subst h8; rfl
    by_cases h9 : n = 3072
    · subst h9; rfl
    have hc : cellOf n = none := by
      unfold cellOf
      rw [if_neg h1, if_neg h2, if_neg h3, if_neg h4, if_neg h5, if_neg h6, if_neg h7, if_neg a8]
    have e2 : readE n = 2 := by unfold readE; rw [if_neg (by rw [hc]; simp [h8, h9])]
    unfold regM
    rw [e2]
    unfold baseM updM
    rw [if_neg h9, if_neg h8, if_neg h7, if_neg h6, if_neg h5, if_neg h4, if_neg h3, if_neg h2, if_neg h1]
    rfl

/-- The sixteen words of the guards. -/
def guardW (f : Nat → Int) (i : Nat) : Int := f (41 + i)
theorem r16_size (g : Nat → Int) : (r16 g).size = 16 := by simp [r16]
theorem nund16 : Try.prog.underlying 25 = some (.array 16 23) := by kernel_rfl
theorem ninfo16 : (Try.prog.info? 25).map (·.size) = some 16 := by kernel_rfl
theorem guard_range {w : World} {b : Nat} {f : Nat → Int} {u : Bool} {t : TypeId} (h : w.heap[b]? = some (.cells (regs57 f u) t)) : w.rangeAt b 41 (r16 (guardW f)).toList := fun j v hv => by
  refine (cells_of h).1 _ _ ?_
  have hj : j < 16 := by
    have := (List.getElem?_eq_some_iff.1 hv).1
    simpa [r16] using this
  rw [Array.getElem?_toList, r16_at _ _ hj] at hv
  rw [← hv, regs57_at f u (41 + j) (by omega)]
  unfold rv guardW
  rw [if_neg (by omega)]
theorem nindex (g : Nat → Int) (k : Nat) (h : k < 16) (w : World) : (Instr.index 25 (.agg (r16 g)) (.int .i64 (k : Int))).run Try.prog w = .ok (.int .u32 (g k)) w := by
  have : k = 0 ∨ k = 1 ∨ k = 2 ∨ k = 3 ∨ k = 4 ∨ k = 5 ∨ k = 6 ∨ k = 7 ∨ k = 8 ∨ k = 9 ∨ k = 10 ∨ k = 11 ∨ k = 12 ∨ k = 13 ∨ k = 14 ∨ k = 15 := by omega
  rcases this with rfl | rfl | rfl | rfl | rfl | rfl | rfl | rfl | rfl | rfl | rfl | rfl | rfl | rfl | rfl | rfl <;> (show _ = _) <;> kernel_rfl

structure NRegSt (w : World) (f : Nat → Int) (B : Int → Option Int) (k : Nat) (wr : World) : Prop where
  map : MapIs wr (w.heap.size + 1) (10 + k) (rowM f B k)
  below : Below w.heap.size w wr

set_option maxRecDepth 100000 in
set_option maxHeartbeats 4000000 in
theorem nregisters_false (f : Nat → Int) (u : Bool) (hu : ∀ i, U32 (f i)) (now : Int) (w : World) : Calls Try.prog 19 #[.agg (regs57 f u), .int .i64 now, .bool false] w fun e w' => e = .returned (.map (some (w.heap.size + 1))) ∧ Below w.heap.size w w' ∧ MapIs w' (w.heap.size + 1) 26 (regM f now false) := by
  have HU : Hid _ := hu
  clear hu
  have HC : Hid (U32 (now % 4294967296)) := ⟨Int.emod_nonneg _ (by decide), Int.emod_lt_of_pos _ (by decide)⟩
  have HR : Hid (∀ n, rowM f (baseM f (now % 4294967296) 0) 16 n = regM f now false n) := rowM_all f now false
  have CM : Hid _ := mask_7_1
  have hbox := box57 f u
  have hmade := imade
  have HI : Hid _ := fun k h w => nindex (guardW f) k h w
  have HM0 := mapIs_made (w.alloc (.cells (regs57 f u) 27))
  rw [World.size_alloc] at HM0
  have HB0 : ((w.alloc (.cells (regs57 f u) 27)).alloc (.map #[] 0)).heap[w.heap.size]? = some (.cells (regs57 f u) 27) := kept_block ((Below.refl _ _).alloc (Nat.le_refl _) _)
  have HL0 : Below w.heap.size w ((w.alloc (.cells (regs57 f u) 27)).alloc (.map #[] 0)) := box2
  go_enter Try.func19, Try.ntmps19
  go_wp2_with (first | (refine wpList_load_reg rfl rfl rfl (by assumption) (by decide) (by decide) ?_) | (refine wpList_mput rfl (Or.inr rfl) rfl rfl rfl (by assumption) ⟨by decide, by decide⟩ (by first | exact HU.out _ | exact ⟨by decide, by decide⟩ | exact HC.out) (by decide) ?_; intro wn HMn HO HL; have HBn := HO w.heap.size _ (by omega) (by assumption); have HLn := HL w.heap.size w (by omega) (by assumption); clear HO HL) | (refine wpList_mids (by rfl) 25 (.tmp 31) rfl _ 41 rfl (r16 (guardW f)) _ (guard_range (by assumption)) nund16 rfl (by rw [r16_size]; exact ninfo16) ?_))

  have R0 : Hid (NRegSt w f (baseM f (now % 4294967296) 0) 0 wn) := ⟨mapIs_ext (mapIs_mono HMn (by decide)) (fun n => by show _ = _; exact rowM_zero f _ n), HLn⟩
  clear HMn HBn HLn HM0 HB0 HL0 hbox hmade CM HC
  generalize baseM f (now % 4294967296) 0 = B at *
  go_loopw [33] (fun i wr => ∃ k : Nat, k ≤ 16 ∧ i = .int .i64 k ∧ Hid (NRegSt w f B k wr)) (fun i _ => 16 - (intOf i).toNat)
  case atStart => exact ⟨0, Nat.zero_le _, rfl, R0.out⟩
  case round =>
    clear R0
    obtain ⟨k, hk, rfl, hr⟩ := hrel
    by_cases hlt : k < 16
    · have hi := fun w => HI.out k hlt w
      have hw : wrap64 (1984 + (k : Int)) = 1984 + (k : Int) := wrap64_id (by omega) (by omega)
      have HK : Hid (N64 (1984 + (k : Int))) := ⟨by omega, by omega⟩
      have HV : Hid (U32 (guardW f k)) := HU.out _
      have HN : Hid _ := fun n => rowM_next f B k n
      have HG : Hid (guardW f k = f (41 + k)) := rfl
      generalize guardW f k = gv at *
      go_wp2_with (first | (refine wpList_mput rfl (Or.inl rfl) rfl rfl rfl hr.out.map HK.out HV.out (by unfold maxLen; omega) ?_; intro wn HMn HO HL; have HLn := HL w.heap.size w (by omega) hr.out.below; clear HO HL))
      exact ⟨⟨k + 1, by omega, by go_num, mapIs_ext HMn (fun n => by rw [HG.out]; exact HN.out n), HLn⟩, by simp [intOf]; omega⟩
    · have hk16 : k = 16 := by omega
      subst hk16
      go_wp2
      go_ret
      exact ⟨rfl, hr.out.below, mapIs_ext hr.out.map HR.out⟩

set_option maxRecDepth 100000 in
set_option maxHeartbeats 4000000 in
theorem nregisters_true (f : Nat → Int) (u : Bool) (hu : ∀ i, U32 (f i)) (now : Int) (w : World) : Calls Try.prog 19 #[.agg (regs57 f u), .int .i64 now, .bool true] w fun e w' => e = .returned (.map (some (w.heap.size + 1))) ∧ Below w.heap.size w w' ∧ MapIs w' (w.heap.size + 1) 26 (regM f now true) := by
  have HU : Hid _ := hu
  clear hu
  have HC : Hid (U32 (now % 4294967296)) := ⟨Int.emod_nonneg _ (by decide), Int.emod_lt_of_pos _ (by decide)⟩
  have HR : Hid (∀ n, rowM f (baseM f (now % 4294967296) 128) 16 n = regM f now true n) := rowM_all f now true
  have CM : Hid _ := mask_7_1
  have hbox := box57 f u
  have hmade := imade
  have HI : Hid _ := fun k h w => nindex (guardW f) k h w
  have HM0 := mapIs_made (w.alloc (.cells (regs57 f u) 27))
  rw [World.size_alloc] at HM0
  have HB0 : ((w.alloc (.cells (regs57 f u) 27)).alloc (.map #[] 0)).heap[w.heap.size]? = some (.cells (regs57 f u) 27) := kept_block ((Below.refl _ _).alloc (Nat.le_refl _) _)
  have HL0 : Below w.heap.size w ((w.alloc (.cells (regs57 f u) 27)).alloc (.map #[] 0)) := box2
  go_enter Try.func19, Try.ntmps19
  go_wp2_with (first | (refine wpList_load_reg rfl rfl rfl (by assumption) (by decide) (by decide) ?_) | (refine wpList_mput rfl (Or.inr rfl) rfl rfl rfl (by assumption) ⟨by decide, by decide⟩ (by first | exact HU.out _ | exact ⟨by decide, by decide⟩ | exact HC.out) (by decide) ?_; intro wn HMn HO HL; have HBn := HO w.heap.size _ (by omega) (by assumption); have HLn := HL w.heap.size w (by omega) (by assumption); clear HO HL) | (refine wpList_mids (by rfl) 25 (.tmp 31) rfl _ 41 rfl (r16 (guardW f)) _ (guard_range (by assumption)) nund16 rfl (by rw [r16_size]; exact ninfo16) ?_))

  refine (CM.out _).mono ?_
  rintro e1 w1 ⟨rfl, rfl⟩
  go_wp2_with (first | (refine wpList_mput rfl (Or.inl rfl) rfl rfl rfl (by assumption) ⟨by decide, by decide⟩ (by first | exact HU.out _ | exact ⟨by decide, by decide⟩ | exact HC.out) (by decide) ?_; intro wn HMn HO HL; have HBn := HO w.heap.size _ (by omega) (by assumption); have HLn := HL w.heap.size w (by omega) (by assumption); clear HO HL) | (refine wpList_mids (by rfl) 25 (.tmp 31) rfl _ 41 rfl (r16 (guardW f)) _ (guard_range (by assumption)) nund16 rfl (by rw [r16_size]; exact ninfo16) ?_))
  have R0 : Hid (NRegSt w f (baseM f (now % 4294967296) 128) 0 wn) := ⟨mapIs_ext (mapIs_mono HMn (by decide)) (fun n => by refine Eq.trans (updM_twice _ 836 0 128 n 3072 _ (by decide)) ?_; exact rowM_zero f _ n), HLn⟩
  clear HMn HBn HLn HM0 HB0 HL0 hbox hmade CM HC
  generalize baseM f (now % 4294967296) 128 = B at *
  go_loopw [33] (fun i wr => ∃ k : Nat, k ≤ 16 ∧ i = .int .i64 k ∧ Hid (NRegSt w f B k wr)) (fun i _ => 16 - (intOf i).toNat)
  case atStart => exact ⟨0, Nat.zero_le _, rfl, R0.out⟩
  case round =>
    clear R0
    obtain ⟨k, hk, rfl, hr⟩ := hrel
    by_cases hlt : k < 16
    · have hi := fun w => HI.out k hlt w
      have hw : wrap64 (1984 + (k : Int)) = 1984 + (k : Int) := wrap64_id (by omega) (by omega)
      have HK : Hid (N64 (1984 + (k : Int))) := ⟨by omega, by omega⟩
      have HV : Hid (U32 (guardW f k)) := HU.out _
      have HN : Hid _ := fun n => rowM_next f B k n
      have HG : Hid (guardW f k = f (41 + k)) := rfl
      generalize guardW f k = gv at *
      go_wp2_with (first | (refine wpList_mput rfl (Or.inl rfl) rfl rfl rfl hr.out.map HK.out HV.out (by unfold maxLen; omega) ?_; intro wn HMn HO HL; have HLn := HL w.heap.size w (by omega) hr.out.below; clear HO HL))
      exact ⟨⟨k + 1, by omega, by go_num, mapIs_ext HMn (fun n => by rw [HG.out]; exact HN.out n), HLn⟩, by simp [intOf]; omega⟩
    · have hk16 : k = 16 := by omega
      subst hk16
      go_wp2
      go_ret
      exact ⟨rfl, hr.out.below, mapIs_ext hr.out.map HR.out⟩

theorem nregisters (f : Nat → Int) (u : Bool) (hu : ∀ i, U32 (f i)) (now : Int) (due : Bool) (w : World) : Calls Try.prog 19 #[.agg (regs57 f u), .int .i64 now, .bool due] w fun e w' => e = .returned (.map (some (w.heap.size + 1))) ∧ Below w.heap.size w w' ∧ MapIs w' (w.heap.size + 1) 26 (regM f now due) := by
  cases due
  · exact nregisters_false f u hu now w
  · exact nregisters_true f u hu now w
end Go.Proofs.Ytmmaoncgfmfbjaa
