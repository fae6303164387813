/-
  What some regions allow more of them do, in any order.
-/
import Derived.Test.YtioppnlojlecaaaGdm
namespace Go.Proofs.Ytioppnlojlecaaa
open Go.RowKit

set_option maxRecDepth 100000 in
set_option maxHeartbeats 4000000 in
theorem guardMore_way (K : GuardK) {w : World} {sa sb : Option Addr} {b off c off' : Nat} {l m : List Rg} (hl : Regs w sa b off l) (hm : Regs w sb c off' m) (ul : ∀ r ∈ l, RgU r) (um : ∀ r ∈ m, RgU r)
    (n n' ca cb : Nat) (hn : n = l.length) (hn' : n' = m.length) (n1 : n ≤ 20) (n2 : n' ≤ 20) (p s h : Int) (hp : U32 p) (hs : U32 s) (h0 : 0 ≤ h) (h1 : h ≤ 255) :
    Calls Try.prog 6 #[.slice sa n ca, .slice sb n' cb, .int .u32 p, .int .u32 s, .int .u8 h] w fun e w' => e = .returned (.bool true) ∧ Below w.heap.size w w' := by
  have CW : Hid _ := gawake K
  have HK : Hid _ := K
  have HP : Hid _ := hp
  have HS : Hid _ := hs
  have RL : Hid _ := hl
  have RM : Hid _ := hm
  have UL : Hid _ := ul
  have UM : Hid _ := um
  have NL : Hid (n = l.length) := hn
  have NM : Hid (n' = m.length) := hn'
  have T1 : h.tmod 3 = h % 3 := Int.tmod_eq_emod_of_nonneg h0
  have e1 : ¬ (20 : Int) < (n : Int) := by omega
  have e2 : ¬ (20 : Int) < (n' : Int) := by omega
  have VA : Hid (allowV (l ++ m) p s (h % 3) = (allowV l p s (h % 3) || allowV m p s (h % 3))) := allow_app _ _ _ _ _
  have VB : Hid (allowV (m ++ l) p s (h % 3) = (allowV l p s (h % 3) || allowV m p s (h % 3))) := by
    show _ = _
    rw [allow_app, Bool.or_comm]
  clear K hp hs hl hm ul um hn hn'
  go_enter Try.func6, Try.ntmps6
  go_wp2_with fail
  refine (HK.out.allow RL.out UL.out n ca NL.out (by omega) p s (h % 3) HP.out HS.out).mono ?_
  rintro e w1 ⟨rfl, hb⟩
  have RL : Hid _ := RL.out.below hb
  have RM : Hid _ := RM.out.below hb
  have B : Hid _ := hb
  clear hb
  go_wp2_with fail
  refine (HK.out.allow RM.out UM.out n' cb NM.out (by omega) p s (h % 3) HP.out HS.out).mono ?_
  rintro e w2 ⟨rfl, hb⟩
  have RL : Hid _ := RL.out.below hb
  have RM : Hid _ := RM.out.below hb
  have B : Hid _ := below_step B.out hb
  clear hb
  generalize allowV l p s (h % 3) = V1 at *
  generalize allowV m p s (h % 3) = V2 at *
  cases V1
  · go_wp2_with (first | (refine wpList_append_regs rfl (.tmp 36) (.tmp 37) rfl _ _ _ _ rfl (own_none w2) (by simp) (Regs.below RL.out ((Below.refl _ _).alloc (Nat.le_refl _) _)) _ _ rfl NL.out (by omega) ?_; intro v1 w3 hown hgrow; have B3 : Below w2.heap.size w2 w3 := below_grown ((Below.refl _ _).alloc (Nat.le_refl _) _) hgrow (by simp) (Nat.le_refl _); have R3 : Hid _ := RM.out.below B3; clear hgrow) | (refine wpList_append_regs rfl (.tmp 38) (.tmp 39) rfl w2.heap.size _ _ _ rfl hown B3.size R3.out _ _ rfl NM.out (by omega) ?_; intro v2 w4 hown2 hgrow; have B4 : Below w2.heap.size w2 w4 := B3.grown hgrow B3.size (own_base hown); have hR4 := own_any (l := l ++ m) (by rw [rrow_append]; exact hown2) (by rw [List.length_append, ← NL.out, ← NM.out]; omega); obtain ⟨sc, bc, cc, rfl, R4⟩ := hR4; clear hgrow hown hown2 R3 B3))
    refine (HK.out.allow R4 (rgU_app UL.out UM.out) _ cc (by rw [List.length_append, ← NL.out, ← NM.out]) (by omega) p s (h % 3) HP.out HS.out).mono ?_
    rintro e w5 ⟨rfl, hb⟩
    rw [VA.out]
    have B5 := below_step (below_step B.out B4) hb
    have RL : Hid _ := RL.out.below (below_step B4 hb)
    have RM : Hid _ := RM.out.below (below_step B4 hb)
    clear hb B4 R4 B
    simp only [Bool.false_or]
    go_wp2_with (first | (refine wpList_append_want (by rfl) (.tmp 51) (.tmp 52) rfl _ _ _ _ rfl (own_none w5) (by simp) (Regs.below RM.out ((Below.refl _ _).alloc (Nat.le_refl _) _)) _ _ rfl NM.out (by omega) ?_; intro v1 w3 hown hgrow; have B3 : Below w5.heap.size w5 w3 := below_grown ((Below.refl _ _).alloc (Nat.le_refl _) _) hgrow (by simp) (Nat.le_refl _); have R3 : Hid _ := RL.out.below B3; clear hgrow) | (refine wpList_append_want (by rfl) (.tmp 53) (.tmp 54) rfl w5.heap.size _ _ _ rfl hown B3.size R3.out _ _ rfl NL.out (by omega) ?_; intro v2 w4 hown2 hgrow; have B4 : Below w5.heap.size w5 w4 := B3.grown hgrow B3.size (own_base hown); have hR4 := own_any (l := m ++ l) (by rw [rrow_append]; exact hown2) (by rw [List.length_append, ← NL.out, ← NM.out]; omega); obtain ⟨sc, bc, cc, rfl, R4⟩ := hR4; clear hgrow hown hown2 R3 B3))
    refine (HK.out.allow R4 (rgU_app UM.out UL.out) _ cc (by rw [List.length_append, ← NL.out, ← NM.out]) (by omega) p s (h % 3) HP.out HS.out).mono ?_
    rintro e w7 ⟨rfl, hb⟩
    rw [VB.out]
    have B7 := below_step (below_step B5 B4) hb
    clear hb B4 R4 B5
    simp only [Bool.false_or]
    go_wp2_with fail
    refine (CW.out _).mono ?_
    rintro e w8 ⟨rfl, hb⟩
    have B8 := below_step B7 hb
    clear hb B7
    go_wp2
    go_ret
    exact ⟨rfl, B8⟩
  · go_wp2_with (first | (refine wpList_append_regs rfl (.tmp 36) (.tmp 37) rfl _ _ _ _ rfl (own_none w2) (by simp) (Regs.below RL.out ((Below.refl _ _).alloc (Nat.le_refl _) _)) _ _ rfl NL.out (by omega) ?_; intro v1 w3 hown hgrow; have B3 : Below w2.heap.size w2 w3 := below_grown ((Below.refl _ _).alloc (Nat.le_refl _) _) hgrow (by simp) (Nat.le_refl _); have R3 : Hid _ := RM.out.below B3; clear hgrow) | (refine wpList_append_regs rfl (.tmp 38) (.tmp 39) rfl w2.heap.size _ _ _ rfl hown B3.size R3.out _ _ rfl NM.out (by omega) ?_; intro v2 w4 hown2 hgrow; have B4 : Below w2.heap.size w2 w4 := B3.grown hgrow B3.size (own_base hown); have hR4 := own_any (l := l ++ m) (by rw [rrow_append]; exact hown2) (by rw [List.length_append, ← NL.out, ← NM.out]; omega); obtain ⟨sc, bc, cc, rfl, R4⟩ := hR4; clear hgrow hown hown2 R3 B3))
    refine (HK.out.allow R4 (rgU_app UL.out UM.out) _ cc (by rw [List.length_append, ← NL.out, ← NM.out]) (by omega) p s (h % 3) HP.out HS.out).mono ?_
    rintro e w5 ⟨rfl, hb⟩
    rw [VA.out]
    have B5 := below_step (below_step B.out B4) hb
    have RL : Hid _ := RL.out.below (below_step B4 hb)
    have RM : Hid _ := RM.out.below (below_step B4 hb)
    clear hb B4 R4 B
    simp only [Bool.true_or]
    go_wp2_with (first | (refine wpList_append_want (by rfl) (.tmp 51) (.tmp 52) rfl _ _ _ _ rfl (own_none w5) (by simp) (Regs.below RM.out ((Below.refl _ _).alloc (Nat.le_refl _) _)) _ _ rfl NM.out (by omega) ?_; intro v1 w3 hown hgrow; have B3 : Below w5.heap.size w5 w3 := below_grown ((Below.refl _ _).alloc (Nat.le_refl _) _) hgrow (by simp) (Nat.le_refl _); have R3 : Hid _ := RL.out.below B3; clear hgrow) | (refine wpList_append_want (by rfl) (.tmp 53) (.tmp 54) rfl w5.heap.size _ _ _ rfl hown B3.size R3.out _ _ rfl NL.out (by omega) ?_; intro v2 w4 hown2 hgrow; have B4 : Below w5.heap.size w5 w4 := B3.grown hgrow B3.size (own_base hown); have hR4 := own_any (l := m ++ l) (by rw [rrow_append]; exact hown2) (by rw [List.length_append, ← NL.out, ← NM.out]; omega); obtain ⟨sc, bc, cc, rfl, R4⟩ := hR4; clear hgrow hown hown2 R3 B3))
    refine (HK.out.allow R4 (rgU_app UM.out UL.out) _ cc (by rw [List.length_append, ← NL.out, ← NM.out]) (by omega) p s (h % 3) HP.out HS.out).mono ?_
    rintro e w7 ⟨rfl, hb⟩
    rw [VB.out]
    have B7 := below_step (below_step B5 B4) hb
    clear hb B4 R4 B5
    simp only [Bool.true_or]
    go_wp2_with fail
    refine (CW.out _).mono ?_
    rintro e w8 ⟨rfl, hb⟩
    have B8 := below_step B7 hb
    clear hb B7
    go_wp2
    go_ret
    exact ⟨rfl, B8⟩

theorem guardMore_many (K : GuardK) (w : World) (sa sb : Option Addr) (n n' ca cb : Nat) (p s h : Int) (hm : n ≤ maxLen) (hm' : n' ≤ maxLen) (hn : 20 < n ∨ 20 < n') :
    Calls Try.prog 6 #[.slice sa n ca, .slice sb n' cb, .int .u32 p, .int .u32 s, .int .u8 h] w fun e w' => e = .returned (.bool true) ∧ Below w.heap.size w w' := by
  have CW : Hid _ := gawake K
  clear K
  unfold maxLen at hm hm'
  by_cases h1 : 20 < n
  · have e1 : (20 : Int) < (n : Int) := by omega
    go_enter Try.func6, Try.ntmps6
    go_wp2_with fail
    refine (CW.out _).mono ?_
    rintro e w1 ⟨rfl, b1⟩
    go_wp2
    go_ret
    exact ⟨rfl, b1⟩
  · have e1 : ¬ (20 : Int) < (n : Int) := by omega
    have e2 : (20 : Int) < (n' : Int) := by omega
    go_enter Try.func6, Try.ntmps6
    go_wp2_with fail
    refine (CW.out _).mono ?_
    rintro e w1 ⟨rfl, b1⟩
    go_wp2
    go_ret
    exact ⟨rfl, b1⟩
end Go.Proofs.Ytioppnlojlecaaa
