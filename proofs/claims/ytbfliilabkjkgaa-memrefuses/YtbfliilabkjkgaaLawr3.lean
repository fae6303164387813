/-
  What memory refuses, and in which order it tells.
-/
import Derived.Test.YtbfliilabkjkgaaLawv
import Derived.Deep.OwnRows
namespace Go.Proofs.Ytbfliilabkjkgaa
open Go.RowKit

theorem wordAt_zero (n i : Nat) : wordAt (List.replicate n 0) i = 0 := by
  unfold wordAt
  simp only [List.getD_eq_getElem?_getD, List.getElem?_replicate]
  split <;> rfl
theorem ask_behind (n : Nat) (p k : Int) (hk : k = 1 ∨ k = 2 ∨ k = 4) (hp : p % k = 0) (h1 : 4 * (n : Int) ≤ p) : askV n p k = 2 := by
  unfold askV
  rw [if_neg (by rw [(sizeV_iff k).2 hk]; decide), if_neg (by omega), if_pos h1]
theorem ask_odd (n : Nat) (p k : Int) (hk : k = 1 ∨ k = 2 ∨ k = 4) (hp : p % k ≠ 0) : askV n p k = 4 := by
  unfold askV
  rw [if_neg (by rw [(sizeV_iff k).2 hk]; decide), if_pos hp]
theorem ask_size (n : Nat) (p k : Int) (hk : ¬ (k = 1 ∨ k = 2 ∨ k = 4)) : askV n p k = 1 := by
  unfold askV
  rw [if_pos (by cases hs : sizeV k with | true => exact absurd ((sizeV_iff k).1 hs) hk | false => rfl)]
theorem load_not {n : Nat} {l : List Int} {p k : Int} {s : Bool} (h : askV n p k ≠ 0) : loadN n l p k s = 0 := by
  unfold loadN
  rw [if_neg h]
theorem store_not {l : List Int} {p k x : Int} (h : askV l.length p k ≠ 0) : storeL l p k x = l := by
  unfold storeL
  rw [if_neg h]

theorem makeU (n : Nat) (h : n ≤ 1000000) (w : World) : (Instr.makeSlice 22 (.int .i64 (n : Int)) (.int .i64 (n : Int))).run Try.prog w = .ok (.slice (some ⟨w.heap.size, 0, none⟩) n n) (w.alloc (.cells (madeCells #[.int .u32 0] n) 30)) :=
  run_make_row' (P := Try.prog) 22 30 (.int .u32 0) 4 Try.underlying22 (by kernel_rfl) rfl .i64 .i64 n (by omega) (by omega) w

set_option maxRecDepth 100000 in
set_option maxHeartbeats 4000000 in
theorem memRefuses_way {Is : World → Addr → List Int → (Nat → Prop) → Prop} (K : MemK Is) (p s a x : Int) (n : Nat) (hx : U32 x) (hp : U32 p) (a0 : 0 ≤ a) (a1 : a ≤ 255) (hn : 1 + a % 20 = (n : Int)) (w : World) :
    Calls Try.prog 5 #[.int .u32 p, .int .i64 s, .int .u8 a, .int .u32 x] w fun e w' => e = .returned (.bool true) ∧ Below w.heap.size w w' := by
  have CE : Hid _ := mErr
  have CW : Hid _ := mawake K
  have HK : Hid _ := K
  clear K
  have HX : Hid (U32 x) := hx
  obtain ⟨p0, p1⟩ := hp
  have n0 : 1 ≤ n := by omega
  have n1 : n ≤ 20 := by omega
  have T1 : a.tmod 20 = a % 20 := Int.tmod_eq_emod_of_nonneg a0
  have T2 : p.tdiv 8 = p / 8 := Int.tdiv_eq_ediv_of_nonneg p0
  have hmk := makeU n (by omega)
  have hmk2 : Hid (∀ w, (Instr.makeSlice 22 (.int .i64 65537) (.int .i64 65537)).run Try.prog w = .ok (.slice (some ⟨w.heap.size, 0, none⟩) 65537 65537) (w.alloc (.cells (madeCells #[.int .u32 0] 65537) 30))) := makeU 65537 (by omega)
  have HQ : Hid (U32 (4 * (n : Int) + p / 8 * 4) ∧ U32 (4 * (n : Int) + p / 8 * 4 + 1)) := ⟨⟨by omega, by omega⟩, ⟨by omega, by omega⟩⟩
  have A1 : Hid (askV (List.replicate n (0 : Int)).length (4 * (n : Int) + p / 8 * 4) 4 = 2) := ask_behind _ _ 4 (by omega) (by omega) (by simp; omega)
  have A2 : Hid (askV (List.replicate n (0 : Int)).length (4 * (n : Int) + p / 8 * 4) 2 = 2) := ask_behind _ _ 2 (by omega) (by omega) (by simp; omega)
  have A3 : Hid (askV (List.replicate n (0 : Int)).length (4 * (n : Int) + p / 8 * 4 + 1) 2 = 4) := ask_odd _ _ 2 (by omega) (by omega)
  have c1 : ∀ (W : World) (t : TypeId) (i : Nat), i < n → (W.alloc (.cells (madeCells #[.int .u32 0] n) t)).cell? ⟨W.heap.size, 0 + i, none⟩ = some (.int .u32 (wordAt (List.replicate n 0) i)) := by
    intro W t i hi
    rw [wordAt_zero, Nat.zero_add]
    exact (World.rowIs_made W (.int .u32 0) n t).cell hi
  have C1 : Hid _ := c1
  clear c1
  have HR : Hid (askV (List.replicate n (0 : Int)).length 1 3 = 1) := ask_size _ _ _ (by decide)
  have hs4 : s = 1 ∨ s = 2 ∨ s = 4 ∨ (s ≠ 1 ∧ s ≠ 2 ∧ s ≠ 4) := by omega
  rcases hs4 with rfl | rfl | rfl | ⟨s1, s2, s4⟩
  · go_enter Try.func5, Try.ntmps5
    go_wp2_with fail
    refine (HK.out.new w.heap.size 0 n n (List.replicate n 0) _ (by simp) (by omega) (by omega) (Nat.le_refl _) (by intro z hz; rw [(List.mem_replicate.1 hz).2]; exact ⟨by decide, by decide⟩) (C1.out w _)).mono ?_
    rintro e w1 ⟨m, O, rfl, i1, hO, hb1⟩
    have hO' : Hid (∀ k, O k → w.heap.size ≤ k) := fun k hk => Nat.le_trans (by simp) (hO k hk)
    have b1 := below_first hb1
    clear hb1 hO C1 hmk
    go_wp2_with (first | (go_at_call 10; refine (CE.out _ _).mono ?_; rintro e w' ⟨rfl, rfl⟩))
    refine (HK.out.loads i1 _ 4 false _ _ HQ.out.1 (load_not (by rw [A1.out]; decide)) A1.out).mono ?_
    rintro e w2 ⟨rfl, i2, hb2⟩
    have b2 := below_step b1 hb2
    clear hb2 i1 b1
    go_wp2_with fail
    refine (HK.out.stores i2 _ 2 x _ _ HQ.out.1 HX.out (store_not (by rw [A2.out]; decide)) A2.out).mono ?_
    rintro e w3 ⟨rfl, ⟨O3, i3, hO3⟩, ap⟩
    have b3 := ap.below b2 hO'.out
    have hO3' : Hid (∀ k, O3 k → w.heap.size ≤ k) := fun k hk => (hO3 k hk).elim (hO'.out k) (Nat.le_trans b2.size)
    clear ap i2 b2 hO' hO3
    go_wp2_with fail
    refine (HK.out.loads i3 _ 2 true _ _ HQ.out.2 (load_not (by rw [A3.out]; decide)) A3.out).mono ?_
    rintro e w4 ⟨rfl, i4, hb4⟩
    have b4 := below_step b3 hb4
    clear hb4 i3 b3
    go_wp2_with fail
    refine (HK.out.stores i4 1 _ x _ _ ⟨by decide, by decide⟩ HX.out (store_not (by rw [HR.out]; decide)) HR.out).mono ?_
    rintro e w5 ⟨rfl, ⟨O5, i5, -⟩, ap⟩
    have b5 := ap.below b4 hO3'.out
    clear ap i4 b4 hO3'
    go_wp2_with fail
    refine (HK.out.words i5).mono ?_
    rintro e w6 ⟨b, cap, rfl, -, -, hc, -, hb6⟩
    have b6 := below_step b5 hb6
    rw [List.length_replicate] at hc
    have hc' : Hid (∀ i, i < n → w6.cell? ⟨b, i, none⟩ = some (.int .u32 0)) := fun i hi => by rw [hc i hi, wordAt_zero]
    clear hc hb6 b5 i5
    rw [List.length_replicate]
    go_wp2_with fail
    go_loopw [20] (fun i wr => ∃ k : Nat, k ≤ n ∧ i = .int .i64 k ∧ wr = w6) (fun i _ => n - (intOf i).toNat)
    case atStart => exact ⟨0, Nat.zero_le _, rfl, rfl⟩
    case round =>
      obtain ⟨k, hk, rfl, rfl⟩ := hrel
      by_cases hlt : k < n
      · have c0 := hc'.out k hlt
        go_wp2_with fail
        exact ⟨⟨k + 1, hlt, by go_num, trivial⟩, by simp [intOf]; omega⟩
      · have hkn : k = n := by omega
        subst hkn
        have hm2 := hmk2.out
        clear hmk2 hc' HQ A1 A2 A3 HR T1 T2
        go_wp2_with fail
        clear hm2
        refine (HK.out.none _ 65537 _ _ (Or.inr (by decide)) (by decide)).mono ?_
        rintro e w7 ⟨rfl, hb7⟩
        have b7 := below_step b6 (below_first hb7)
        clear hb7 b6
        go_wp2_with fail
        refine (HK.out.load0 _ _ _ _).mono ?_
        rintro e w8 ⟨rfl, hb8⟩
        have b8 := below_step b7 hb8
        clear hb8 b7
        go_wp2_with (first | (go_at_call 10; refine (CE.out _ _).mono ?_; rintro e w' ⟨rfl, rfl⟩))
        refine (HK.out.store0 _ _ _ _).mono ?_
        rintro e w9 ⟨rfl, hb9⟩
        have b9 := below_step b8 hb9
        clear hb9 b8
        go_wp2_with (first | (go_at_call 10; refine (CE.out _ _).mono ?_; rintro e w' ⟨rfl, rfl⟩))
        refine (HK.out.size0 _).mono ?_
        rintro e w10 ⟨rfl, hb10⟩
        have b10 := below_step b9 hb10
        clear hb10 b9
        go_wp2_with fail
        refine (HK.out.words0 _).mono ?_
        rintro e w11 ⟨⟨aw, cw, rfl⟩, hb11⟩
        have b11 := below_step b10 hb11
        clear hb11 b10
        go_wp2_with fail
        refine (CW.out _).mono ?_
        rintro e w12 ⟨rfl, hb12⟩
        have b12 := below_step b11 hb12
        clear hb12 b11
        go_wp2
        go_ret
        exact ⟨rfl, b12⟩
  · go_enter Try.func5, Try.ntmps5
    go_wp2_with fail
    refine (HK.out.new w.heap.size 0 n n (List.replicate n 0) _ (by simp) (by omega) (by omega) (Nat.le_refl _) (by intro z hz; rw [(List.mem_replicate.1 hz).2]; exact ⟨by decide, by decide⟩) (C1.out w _)).mono ?_
    rintro e w1 ⟨m, O, rfl, i1, hO, hb1⟩
    have hO' : Hid (∀ k, O k → w.heap.size ≤ k) := fun k hk => Nat.le_trans (by simp) (hO k hk)
    have b1 := below_first hb1
    clear hb1 hO C1 hmk
    go_wp2_with (first | (go_at_call 10; refine (CE.out _ _).mono ?_; rintro e w' ⟨rfl, rfl⟩))
    refine (HK.out.loads i1 _ 4 false _ _ HQ.out.1 (load_not (by rw [A1.out]; decide)) A1.out).mono ?_
    rintro e w2 ⟨rfl, i2, hb2⟩
    have b2 := below_step b1 hb2
    clear hb2 i1 b1
    go_wp2_with fail
    refine (HK.out.stores i2 _ 2 x _ _ HQ.out.1 HX.out (store_not (by rw [A2.out]; decide)) A2.out).mono ?_
    rintro e w3 ⟨rfl, ⟨O3, i3, hO3⟩, ap⟩
    have b3 := ap.below b2 hO'.out
    have hO3' : Hid (∀ k, O3 k → w.heap.size ≤ k) := fun k hk => (hO3 k hk).elim (hO'.out k) (Nat.le_trans b2.size)
    clear ap i2 b2 hO' hO3
    go_wp2_with fail
    refine (HK.out.loads i3 _ 2 true _ _ HQ.out.2 (load_not (by rw [A3.out]; decide)) A3.out).mono ?_
    rintro e w4 ⟨rfl, i4, hb4⟩
    have b4 := below_step b3 hb4
    clear hb4 i3 b3
    go_wp2_with fail
    refine (HK.out.stores i4 1 _ x _ _ ⟨by decide, by decide⟩ HX.out (store_not (by rw [HR.out]; decide)) HR.out).mono ?_
    rintro e w5 ⟨rfl, ⟨O5, i5, -⟩, ap⟩
    have b5 := ap.below b4 hO3'.out
    clear ap i4 b4 hO3'
    go_wp2_with fail
    refine (HK.out.words i5).mono ?_
    rintro e w6 ⟨b, cap, rfl, -, -, hc, -, hb6⟩
    have b6 := below_step b5 hb6
    rw [List.length_replicate] at hc
    have hc' : Hid (∀ i, i < n → w6.cell? ⟨b, i, none⟩ = some (.int .u32 0)) := fun i hi => by rw [hc i hi, wordAt_zero]
    clear hc hb6 b5 i5
    rw [List.length_replicate]
    go_wp2_with fail
    go_loopw [20] (fun i wr => ∃ k : Nat, k ≤ n ∧ i = .int .i64 k ∧ wr = w6) (fun i _ => n - (intOf i).toNat)
    case atStart => exact ⟨0, Nat.zero_le _, rfl, rfl⟩
    case round =>
      obtain ⟨k, hk, rfl, rfl⟩ := hrel
      by_cases hlt : k < n
      · have c0 := hc'.out k hlt
        go_wp2_with fail
        exact ⟨⟨k + 1, hlt, by go_num, trivial⟩, by simp [intOf]; omega⟩
      · have hkn : k = n := by omega
        subst hkn
        have hm2 := hmk2.out
        clear hmk2 hc' HQ A1 A2 A3 HR T1 T2
        go_wp2_with fail
        clear hm2
        refine (HK.out.none _ 65537 _ _ (Or.inr (by decide)) (by decide)).mono ?_
        rintro e w7 ⟨rfl, hb7⟩
        have b7 := below_step b6 (below_first hb7)
        clear hb7 b6
        go_wp2_with fail
        refine (HK.out.load0 _ _ _ _).mono ?_
        rintro e w8 ⟨rfl, hb8⟩
        have b8 := below_step b7 hb8
        clear hb8 b7
        go_wp2_with (first | (go_at_call 10; refine (CE.out _ _).mono ?_; rintro e w' ⟨rfl, rfl⟩))
        refine (HK.out.store0 _ _ _ _).mono ?_
        rintro e w9 ⟨rfl, hb9⟩
        have b9 := below_step b8 hb9
        clear hb9 b8
        go_wp2_with (first | (go_at_call 10; refine (CE.out _ _).mono ?_; rintro e w' ⟨rfl, rfl⟩))
        refine (HK.out.size0 _).mono ?_
        rintro e w10 ⟨rfl, hb10⟩
        have b10 := below_step b9 hb10
        clear hb10 b9
        go_wp2_with fail
        refine (HK.out.words0 _).mono ?_
        rintro e w11 ⟨⟨aw, cw, rfl⟩, hb11⟩
        have b11 := below_step b10 hb11
        clear hb11 b10
        go_wp2_with fail
        refine (CW.out _).mono ?_
        rintro e w12 ⟨rfl, hb12⟩
        have b12 := below_step b11 hb12
        clear hb12 b11
        go_wp2
        go_ret
        exact ⟨rfl, b12⟩
  · go_enter Try.func5, Try.ntmps5
    go_wp2_with fail
    refine (HK.out.new w.heap.size 0 n n (List.replicate n 0) _ (by simp) (by omega) (by omega) (Nat.le_refl _) (by intro z hz; rw [(List.mem_replicate.1 hz).2]; exact ⟨by decide, by decide⟩) (C1.out w _)).mono ?_
    rintro e w1 ⟨m, O, rfl, i1, hO, hb1⟩
    have hO' : Hid (∀ k, O k → w.heap.size ≤ k) := fun k hk => Nat.le_trans (by simp) (hO k hk)
    have b1 := below_first hb1
    clear hb1 hO C1 hmk
    go_wp2_with (first | (go_at_call 10; refine (CE.out _ _).mono ?_; rintro e w' ⟨rfl, rfl⟩))
    refine (HK.out.loads i1 _ 4 false _ _ HQ.out.1 (load_not (by rw [A1.out]; decide)) A1.out).mono ?_
    rintro e w2 ⟨rfl, i2, hb2⟩
    have b2 := below_step b1 hb2
    clear hb2 i1 b1
    go_wp2_with fail
    refine (HK.out.stores i2 _ 2 x _ _ HQ.out.1 HX.out (store_not (by rw [A2.out]; decide)) A2.out).mono ?_
    rintro e w3 ⟨rfl, ⟨O3, i3, hO3⟩, ap⟩
    have b3 := ap.below b2 hO'.out
    have hO3' : Hid (∀ k, O3 k → w.heap.size ≤ k) := fun k hk => (hO3 k hk).elim (hO'.out k) (Nat.le_trans b2.size)
    clear ap i2 b2 hO' hO3
    go_wp2_with fail
    refine (HK.out.loads i3 _ 2 true _ _ HQ.out.2 (load_not (by rw [A3.out]; decide)) A3.out).mono ?_
    rintro e w4 ⟨rfl, i4, hb4⟩
    have b4 := below_step b3 hb4
    clear hb4 i3 b3
    go_wp2_with fail
    refine (HK.out.stores i4 1 _ x _ _ ⟨by decide, by decide⟩ HX.out (store_not (by rw [HR.out]; decide)) HR.out).mono ?_
    rintro e w5 ⟨rfl, ⟨O5, i5, -⟩, ap⟩
    have b5 := ap.below b4 hO3'.out
    clear ap i4 b4 hO3'
    go_wp2_with fail
    refine (HK.out.words i5).mono ?_
    rintro e w6 ⟨b, cap, rfl, -, -, hc, -, hb6⟩
    have b6 := below_step b5 hb6
    rw [List.length_replicate] at hc
    have hc' : Hid (∀ i, i < n → w6.cell? ⟨b, i, none⟩ = some (.int .u32 0)) := fun i hi => by rw [hc i hi, wordAt_zero]
    clear hc hb6 b5 i5
    rw [List.length_replicate]
    go_wp2_with fail
    go_loopw [20] (fun i wr => ∃ k : Nat, k ≤ n ∧ i = .int .i64 k ∧ wr = w6) (fun i _ => n - (intOf i).toNat)
    case atStart => exact ⟨0, Nat.zero_le _, rfl, rfl⟩
    case round =>
      obtain ⟨k, hk, rfl, rfl⟩ := hrel
      by_cases hlt : k < n
      · have c0 := hc'.out k hlt
        go_wp2_with fail
        exact ⟨⟨k + 1, hlt, by go_num, trivial⟩, by simp [intOf]; omega⟩
      · have hkn : k = n := by omega
        subst hkn
        have hm2 := hmk2.out
        clear hmk2 hc' HQ A1 A2 A3 HR T1 T2
        go_wp2_with fail
        clear hm2
        refine (HK.out.none _ 65537 _ _ (Or.inr (by decide)) (by decide)).mono ?_
        rintro e w7 ⟨rfl, hb7⟩
        have b7 := below_step b6 (below_first hb7)
        clear hb7 b6
        go_wp2_with fail
        refine (HK.out.load0 _ _ _ _).mono ?_
        rintro e w8 ⟨rfl, hb8⟩
        have b8 := below_step b7 hb8
        clear hb8 b7
        go_wp2_with (first | (go_at_call 10; refine (CE.out _ _).mono ?_; rintro e w' ⟨rfl, rfl⟩))
        refine (HK.out.store0 _ _ _ _).mono ?_
        rintro e w9 ⟨rfl, hb9⟩
        have b9 := below_step b8 hb9
        clear hb9 b8
        go_wp2_with (first | (go_at_call 10; refine (CE.out _ _).mono ?_; rintro e w' ⟨rfl, rfl⟩))
        refine (HK.out.size0 _).mono ?_
        rintro e w10 ⟨rfl, hb10⟩
        have b10 := below_step b9 hb10
        clear hb10 b9
        go_wp2_with fail
        refine (HK.out.words0 _).mono ?_
        rintro e w11 ⟨⟨aw, cw, rfl⟩, hb11⟩
        have b11 := below_step b10 hb11
        clear hb11 b10
        go_wp2_with fail
        refine (CW.out _).mono ?_
        rintro e w12 ⟨rfl, hb12⟩
        have b12 := below_step b11 hb12
        clear hb12 b11
        go_wp2
        go_ret
        exact ⟨rfl, b12⟩
  · have HS : Hid (askV (List.replicate n (0 : Int)).length 1 s = 1) := ask_size _ _ _ (by omega)
    have e1 : (s == 1) = false := by simpa using s1
    have e2 : (s == 2) = false := by simpa using s2
    have e4 : (s == 4) = false := by simpa using s4
    go_enter Try.func5, Try.ntmps5
    go_wp2_with fail
    refine (HK.out.new w.heap.size 0 n n (List.replicate n 0) _ (by simp) (by omega) (by omega) (Nat.le_refl _) (by intro z hz; rw [(List.mem_replicate.1 hz).2]; exact ⟨by decide, by decide⟩) (C1.out w _)).mono ?_
    rintro e w1 ⟨m, O, rfl, i1, hO, hb1⟩
    have hO' : Hid (∀ k, O k → w.heap.size ≤ k) := fun k hk => Nat.le_trans (by simp) (hO k hk)
    have b1 := below_first hb1
    clear hb1 hO C1 hmk
    go_wp2_with (first | (go_at_call 10; refine (CE.out _ _).mono ?_; rintro e w' ⟨rfl, rfl⟩))
    refine (HK.out.loads i1 _ 4 false _ _ HQ.out.1 (load_not (by rw [A1.out]; decide)) A1.out).mono ?_
    rintro e w2 ⟨rfl, i2, hb2⟩
    have b2 := below_step b1 hb2
    clear hb2 i1 b1
    go_wp2_with fail
    refine (HK.out.stores i2 _ 2 x _ _ HQ.out.1 HX.out (store_not (by rw [A2.out]; decide)) A2.out).mono ?_
    rintro e w3 ⟨rfl, ⟨O3, i3, hO3⟩, ap⟩
    have b3 := ap.below b2 hO'.out
    have hO3' : Hid (∀ k, O3 k → w.heap.size ≤ k) := fun k hk => (hO3 k hk).elim (hO'.out k) (Nat.le_trans b2.size)
    clear ap i2 b2 hO' hO3
    go_wp2_with fail
    refine (HK.out.loads i3 _ 2 true _ _ HQ.out.2 (load_not (by rw [A3.out]; decide)) A3.out).mono ?_
    rintro e w4 ⟨rfl, i4, hb4⟩
    have b4 := below_step b3 hb4
    clear hb4 i3 b3
    go_wp2_with fail
    refine (HK.out.stores i4 1 _ x _ _ ⟨by decide, by decide⟩ HX.out (store_not (by rw [HS.out]; decide)) HS.out).mono ?_
    rintro e w5 ⟨rfl, ⟨O5, i5, -⟩, ap⟩
    have b5 := ap.below b4 hO3'.out
    clear ap i4 b4 hO3'
    go_wp2_with fail
    refine (HK.out.words i5).mono ?_
    rintro e w6 ⟨b, cap, rfl, -, -, hc, -, hb6⟩
    have b6 := below_step b5 hb6
    rw [List.length_replicate] at hc
    have hc' : Hid (∀ i, i < n → w6.cell? ⟨b, i, none⟩ = some (.int .u32 0)) := fun i hi => by rw [hc i hi, wordAt_zero]
    clear hc hb6 b5 i5
    rw [List.length_replicate]
    go_wp2_with fail
    go_loopw [20] (fun i wr => ∃ k : Nat, k ≤ n ∧ i = .int .i64 k ∧ wr = w6) (fun i _ => n - (intOf i).toNat)
    case atStart => exact ⟨0, Nat.zero_le _, rfl, rfl⟩
    case round =>
      obtain ⟨k, hk, rfl, rfl⟩ := hrel
      by_cases hlt : k < n
      · have c0 := hc'.out k hlt
        go_wp2_with fail
        exact ⟨⟨k + 1, hlt, by go_num, trivial⟩, by simp [intOf]; omega⟩
      · have hkn : k = n := by omega
        subst hkn
        have hm2 := hmk2.out
        clear hmk2 hc' HQ A1 A2 A3 HR HS T1 T2
        go_wp2_with fail
        clear hm2
        refine (HK.out.none _ 65537 _ _ (Or.inr (by decide)) (by decide)).mono ?_
        rintro e w7 ⟨rfl, hb7⟩
        have b7 := below_step b6 (below_first hb7)
        clear hb7 b6
        go_wp2_with fail
        refine (HK.out.load0 _ _ _ _).mono ?_
        rintro e w8 ⟨rfl, hb8⟩
        have b8 := below_step b7 hb8
        clear hb8 b7
        go_wp2_with (first | (go_at_call 10; refine (CE.out _ _).mono ?_; rintro e w' ⟨rfl, rfl⟩))
        refine (HK.out.store0 _ _ _ _).mono ?_
        rintro e w9 ⟨rfl, hb9⟩
        have b9 := below_step b8 hb9
        clear hb9 b8
        go_wp2_with (first | (go_at_call 10; refine (CE.out _ _).mono ?_; rintro e w' ⟨rfl, rfl⟩))
        refine (HK.out.size0 _).mono ?_
        rintro e w10 ⟨rfl, hb10⟩
        have b10 := below_step b9 hb10
        clear hb10 b9
        go_wp2_with fail
        refine (HK.out.words0 _).mono ?_
        rintro e w11 ⟨⟨aw, cw, rfl⟩, hb11⟩
        have b11 := below_step b10 hb11
        clear hb11 b10
        go_wp2_with fail
        refine (CW.out _).mono ?_
        rintro e w12 ⟨rfl, hb12⟩
        have b12 := below_step b11 hb12
        clear hb12 b11
        go_wp2
        go_ret
        exact ⟨rfl, b12⟩

theorem memRefuses {Is : World → Addr → List Int → (Nat → Prop) → Prop} (K : MemK Is) (p s a x : Int) (hx : U32 x) (hp : U32 p) (a0 : 0 ≤ a) (a1 : a ≤ 255) (w : World) :
    Calls Try.prog 5 #[.int .u32 p, .int .i64 s, .int .u8 a, .int .u32 x] w fun e w' => e = .returned (.bool true) ∧ Below w.heap.size w w' :=
  memRefuses_way K p s a x (1 + a % 20).toNat hx hp a0 a1 (by omega) w
end Go.Proofs.Ytbfliilabkjkgaa
