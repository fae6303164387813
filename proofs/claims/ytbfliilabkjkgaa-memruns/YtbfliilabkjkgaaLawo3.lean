/-
  What memory is made of, and what it tells, is its own.
-/
import Derived.Test.YtbfliilabkjkgaaLawh3
import Derived.Test.YtbfliilabkjkgaaLaws3
import Derived.OpenShut
namespace Go.Proofs.Ytbfliilabkjkgaa
open Go.RowKit

/-- A whole word that is stored is what lies there. -/
theorem storeV_word {o y : Int} (ho : U32 o) (hy : U32 y) : storeV o 0 4 y = y := by
  obtain ⟨Y, rfl⟩ := Int.eq_ofNat_of_zero_le hy.1
  obtain ⟨X, rfl⟩ := Int.eq_ofNat_of_zero_le ho.1
  have h1 : X < 4294967296 := by have := ho.2; omega
  have h2 : Y < 4294967296 := by have := hy.2; omega
  unfold storeV
  rw [show maskV 0 4 = ((4294967295 : Nat) : Int) by decide +kernel, show (2 : Int) ^ ((0 : Int) % 4 * 8).toNat = 1 by decide, Int.mul_one]
  rw [show (Y : Int) % 4294967296 = (Y : Int) by omega]
  rw [u32_andNot_nat X _ h1 (by decide), u32_and_nat Y _ h2 (by decide)]
  have e1 : X &&& (4294967295 - 4294967295) = 0 := by simp
  have e2 : Y &&& 4294967295 = Y := by
    have := Nat.and_two_pow_sub_one_eq_mod Y 32
    rw [show (2 : Nat) ^ 32 - 1 = 4294967295 by decide, Nat.mod_eq_of_lt (by omega)] at this
    exact this
  rw [e1, e2, u32_or_nat 0 Y (by decide) h2]
  simp
theorem ask_first (n : Nat) (n0 : 1 ≤ n) : askV n 0 4 = 0 := by
  unfold askV
  rw [if_neg (by decide), if_neg (by decide), if_neg (by omega)]
theorem store_first {l : List Int} {y : Int} (n0 : 1 ≤ l.length) (hu : ∀ z ∈ l, U32 z) (hy : U32 y) : storeL l 0 4 y = l.set 0 y := by
  unfold storeL
  rw [if_pos (ask_first _ n0)]
  show l.set 0 (storeV (wordAt l 0) 0 4 y) = _
  rw [storeV_word (hu _ (by
    unfold wordAt
    rw [List.getD_eq_getElem?_getD, List.getElem?_eq_getElem (by omega)]
    exact List.getElem_mem _)) hy]
theorem load_first {l : List Int} (s : Bool) (n0 : 1 ≤ l.length) (h : U32 (wordAt l 0)) : loadN l.length l 0 4 s = wordAt l 0 := by
  unfold loadN
  rw [if_pos (ask_first _ n0)]
  unfold loadV
  show (if s then sextV (bitsV (wordAt l 0) 0 32) 32 else bitsV (wordAt l 0) 0 32) = _
  rw [bitsV_word h]
  cases s
  · rfl
  · exact sextV_word h

set_option maxRecDepth 100000 in
set_option maxHeartbeats 4000000 in
theorem memOwn_way {Is : World → Addr → List Int → (Nat → Prop) → Prop} (K : MemK Is) (b off n cap : Nat) (l : List Int) (x : Int) (hl : n = l.length) (n0 : 1 ≤ n) (n1 : n ≤ 100) (hu : ∀ z ∈ l, U32 z) (hx : U32 x) (w : World)
    (hc : ∀ i, i < n → w.cell? ⟨b, off + i, none⟩ = some (.int .u32 (wordAt l i))) (hb : b < w.heap.size) :
    Calls Try.prog 6 #[.slice (some ⟨b, off, none⟩) n cap, .int .u32 x] w fun e w' => e = .returned (.bool true) ∧ Below w.heap.size w w' := by
  have CE : Hid _ := mErr
  have CW : Hid _ := mawake K
  have HK : Hid _ := K
  clear K
  have HL : Hid (n = l.length) := hl
  have HC : Hid _ := hc
  have HU : Hid _ := hu
  have HX : Hid (U32 x) := hx
  clear hl hc hu
  obtain ⟨iu, hi, hz0, hz1, hz2⟩ := info_parts infoU
  have HO : Hid ((w.alloc (.cells #[] 30)).ownsRow w.heap.size 30 1 (.slice (some ⟨w.heap.size, 0, none⟩) 0 0) 0 []) := World.ownsRow_lit w #[] 0 (Nat.le_refl _) (by decide) rfl
  have HN : Hid _ := wvals_cells (w := w) (b := b) (off := off) (l := l) (by rw [← HL.out]; exact HC.out) hb (.cells #[] 30)
  have e0 : ((n : Int) == 0) = false := by simp; omega
  have e1 : ¬ (100 : Int) < (n : Int) := by omega
  go_enter Try.func6, Try.ntmps6
  go_wp2_with (first | (at_builtin; refine wpList_append_own _ rfl (.tmp 24) (.tmp 25) 22 rfl w.heap.size 30 iu (.int .u32 0) 1 4 Try.underlying22 hi hz0 hz1 hz2 rfl (by decide) _ _ _ rfl HO.out ⟨b, off, none⟩ n cap (wvals l) rfl (by rw [wvals_len, ← HL.out, Nat.mul_one]) HN.out (wvals_one l) (by unfold maxLen; omega) (by omega) (by simp) ?_; intro v1 w1 hown hgrow hv))
  obtain ⟨g, gc, rfl, hg0, hg1, hg2, cg, fg⟩ := owns_open HL.out n0 hown
  have b1 : Below w.heap.size w w1 := below_grown ((Below.refl _ _).alloc (Nat.le_refl _) _) hgrow (by simp) (Nat.le_refl _)
  clear hown hgrow hv HO HN hi hz0 hz1 hz2
  refine (HK.out.new g 0 n gc l w1 HL.out n0 (by omega) hg2 HU.out (fun i hi => by rw [Nat.zero_add]; exact cg i hi)).mono ?_
  rintro e w2 ⟨m, O, rfl, i2, hO, hb2⟩
  have cg2 : ∀ i, i < n → w2.cell? ⟨g, i, none⟩ = some (.int .u32 (wordAt l i)) := fun i hi => by rw [hb2.cell (p := ⟨g, i, none⟩) hg1]; exact cg i hi
  have fg2 : ∀ i, w2.frozen? ⟨g, i, none⟩ = false := fun i => by rw [hb2.frozen (p := ⟨g, i, none⟩) hg1]; exact fg i
  have hg3 : g < w2.heap.size := Nat.lt_of_lt_of_le hg1 hb2.size
  have b2 := below_step b1 hb2
  have hOg : Hid (∀ k, O k → g < k ∧ w.heap.size ≤ k) := fun k hk => ⟨Nat.lt_of_lt_of_le hg1 (hO k hk), Nat.le_trans b1.size (hO k hk)⟩
  have CG : Hid _ := cg2
  have FG : Hid _ := fg2
  clear b1 hb2 cg fg cg2 fg2 hO hg1
  go_wp2_with fail
  refine (HK.out.new g 0 n gc l w2 HL.out n0 (by omega) hg2 HU.out (fun i hi => by rw [Nat.zero_add]; exact CG.out i hi)).mono ?_
  rintro e w3 ⟨m', O', rfl, j3, hO', hb3⟩
  have i3 := HK.out.below i2 hb3
  have hOO : Hid (∀ k, O' k → ¬ O k) := fun k hk ho => absurd (HK.out.own i2 ho) (Nat.not_lt.2 (hO' k hk))
  have hOg' : Hid (∀ k, O' k → g < k) := fun k hk => Nat.lt_of_lt_of_le hg3 (hO' k hk)
  have b3 := below_step b2 hb3
  have c3 : w3.cell? ⟨g, 0, none⟩ = some (.int .u32 (wordAt l 0)) := by rw [hb3.cell (p := ⟨g, 0, none⟩) hg3]; exact CG.out 0 n0
  have f3 : w3.frozen? ⟨g, 0, none⟩ = false := by rw [hb3.frozen (p := ⟨g, 0, none⟩) hg3]; exact FG.out 0
  clear i2 hO' b2 hb3 CG FG hg3
  go_wp2_with (first | (go_at_call 10; refine (CE.out _ _).mono ?_; rintro e w' ⟨rfl, rfl⟩))
  have hy : U32 ((x + 1) % 4294967296) := ⟨by omega, by omega⟩
  generalize hyv : (x + 1) % 4294967296 = y at *
  have i4 : Is (w'.setCell ⟨g, 0, none⟩ (.int .u32 x)) m l O := HK.out.keep i3 fun k hk => Below.heap_setCell _ _ _ _ (by have := hOg.out k hk; show k ≠ g; omega)
  have j4 : Is (w'.setCell ⟨g, 0, none⟩ (.int .u32 x)) m' l O' := HK.out.keep j3 fun k hk => Below.heap_setCell _ _ _ _ (by have := hOg'.out k hk; show k ≠ g; omega)
  have b4 : Below w.heap.size w (w'.setCell ⟨g, 0, none⟩ (.int .u32 x)) := b3.setCell hg0 _
  clear i3 j3 b3 c3 f3 hOg'
  generalize w'.setCell ⟨g, 0, none⟩ (.int .u32 x) = w4 at *
  refine (HK.out.stores i4 0 4 y 0 (l.set 0 y) ⟨by decide, by decide⟩ hy (store_first (by rw [← HL.out]; exact n0) HU.out hy) (ask_first _ (by rw [← HL.out]; exact n0))).mono ?_
  rintro e w5 ⟨rfl, ⟨O5, i5, hO5⟩, ap⟩
  have b5 := ap.below b4 (fun k hk => (hOg.out k hk).2)
  have j5 : Is w5 m' l O' := HK.out.keep j4 fun k hk => ap.block k (HK.out.own j4 hk) (hOO.out k hk)
  clear i4 j4 b4 ap hO5 hOO hOg
  go_wp2_with fail
  refine (HK.out.words j5).mono ?_
  rintro e w6 ⟨tb, tc, rfl, t0, t1, tcell, tfr, hb6⟩
  have b6 := below_step b5 hb6
  have i6 := HK.out.below i5 hb6
  have j6 := HK.out.below j5 hb6
  have oi : Hid (∀ k, O5 k → k < tb) := fun k hk => Nat.lt_of_lt_of_le (HK.out.own i5 hk) t0
  have oj : Hid (∀ k, O' k → k < tb) := fun k hk => Nat.lt_of_lt_of_le (HK.out.own j5 hk) t0
  have t2 : w.heap.size ≤ tb := Nat.le_trans b5.size t0
  rw [← HL.out] at tcell
  rw [← HL.out]
  have tc0 := tcell 0 n0
  have tf0 := tfr 0
  clear tcell tfr hb6 b5 i5 j5 t0
  go_wp2_with fail
  have i7 : Is (w6.setCell ⟨tb, 0, none⟩ (.int .u32 ((x + 2) % 4294967296))) m (l.set 0 y) O5 := HK.out.keep i6 fun k hk => Below.heap_setCell _ _ _ _ (by have := oi.out k hk; show k ≠ tb; omega)
  have j7 : Is (w6.setCell ⟨tb, 0, none⟩ (.int .u32 ((x + 2) % 4294967296))) m' l O' := HK.out.keep j6 fun k hk => Below.heap_setCell _ _ _ _ (by have := oj.out k hk; show k ≠ tb; omega)
  have b7 : Below w.heap.size w (w6.setCell ⟨tb, 0, none⟩ (.int .u32 ((x + 2) % 4294967296))) := b6.setCell t2 _
  clear i6 j6 b6 oi oj t1 t2 tc0 tf0
  generalize w6.setCell ⟨tb, 0, none⟩ (.int .u32 ((x + 2) % 4294967296)) = w7 at *
  have hu0 : U32 (wordAt l 0) := HU.out _ (by
    unfold wordAt
    rw [List.getD_eq_getElem?_getD, List.getElem?_eq_getElem (by rw [← HL.out]; exact n0)]
    exact List.getElem_mem _)
  have hset : wordAt (l.set 0 y) 0 = y := by
    unfold wordAt
    rw [List.getD_eq_getElem?_getD, List.getElem?_set_self (by rw [← HL.out]; exact n0)]
    rfl
  have LS : Hid (loadN (l.set 0 y).length (l.set 0 y) 0 4 false = y) := by
    show _ = _
    rw [load_first false (by rw [List.length_set, ← HL.out]; exact n0) (by rw [hset]; exact hy), hset]
  have c0 : w.cell? ⟨b, off, none⟩ = some (.int .u32 (wordAt l 0)) := HC.out 0 n0
  refine (HK.out.loads j7 0 4 true (wordAt l 0) 0 ⟨by decide, by decide⟩ (load_first true (by rw [← HL.out]; exact n0) hu0) (ask_first _ (by rw [← HL.out]; exact n0))).mono ?_
  rintro e w8 ⟨rfl, -, hb8⟩
  have b8 := below_step b7 hb8
  have i8 := HK.out.below i7 hb8
  clear hb8 b7 i7 j7 hset
  go_wp2_with fail
  refine (HK.out.loads i8 0 4 false y 0 ⟨by decide, by decide⟩ LS.out (ask_first _ (by rw [List.length_set, ← HL.out]; exact n0))).mono ?_
  rintro e w9 ⟨rfl, -, hb9⟩
  have b9 := below_step b8 hb9
  have c9 : w9.cell? ⟨b, off, none⟩ = some (.int .u32 (wordAt l 0)) := by rw [b9.cell (p := ⟨b, off, none⟩) hb]; exact c0
  clear hb9 b8 i8 LS c0 HL HC HU
  generalize wordAt l 0 = v at *
  go_wp2_with (first | (go_at_call 10; refine (CE.out _ _).mono ?_; rintro e w' ⟨rfl, rfl⟩))
  refine (CW.out _).mono ?_
  rintro e w10 ⟨rfl, hb10⟩
  have b10 := below_step b9 hb10
  clear hb10 b9 c9
  go_wp2
  go_ret
  exact ⟨rfl, b10⟩

theorem memOwn_few {Is : World → Addr → List Int → (Nat → Prop) → Prop} (K : MemK Is) (a : Option Addr) (n cap : Nat) (x : Int) (hn : n = 0 ∨ 100 < n) (hm : n ≤ maxLen) (w : World) :
    Calls Try.prog 6 #[.slice a n cap, .int .u32 x] w fun e w' => e = .returned (.bool true) ∧ Below w.heap.size w w' := by
  have CW : Hid _ := mawake K
  clear K
  unfold maxLen at hm
  rcases hn with rfl | hn
  · go_enter Try.func6, Try.ntmps6
    go_wp2_with fail
    refine (CW.out _).mono ?_
    rintro e w1 ⟨rfl, b1⟩
    go_wp2
    go_ret
    exact ⟨rfl, b1⟩
  · have e0 : ((n : Int) == 0) = false := by simp; omega
    have e1 : (100 : Int) < (n : Int) := by omega
    go_enter Try.func6, Try.ntmps6
    go_wp2_with fail
    refine (CW.out _).mono ?_
    rintro e w1 ⟨rfl, b1⟩
    go_wp2
    go_ret
    exact ⟨rfl, b1⟩

/-- In the form in which the frame opens a slice of words that came in. -/
theorem memOwn {Is : World → Addr → List Int → (Nat → Prop) → Prop} (K : MemK Is) (a : Option Addr) (n cap : Nat) (zs : List Int) (x : Int) (hx : U32 x) (w : World)
    (h : (a = none ∧ n = 0 ∧ cap = 0 ∧ zs = []) ∨ ∃ p, a = some p ∧ n ≤ cap ∧ cap ≤ maxLen ∧ zs.length = cap ∧ (∀ i, i < zs.length → w.cell? (p.add i) = some (.int .u32 (zs.getD i 0))) ∧ ∀ z ∈ zs, (Lit.int .u32 z).wf = true) :
    Calls Try.prog 6 #[.slice a n cap, .int .u32 x] w fun e w' => e = .returned (.bool true) ∧ Below w.heap.size w w' := by
  rcases h with ⟨rfl, rfl, rfl, rfl⟩ | ⟨p, rfl, hl, hm, hz, hcell, hwz⟩
  · exact memOwn_few K _ _ _ _ (Or.inl rfl) (Nat.zero_le _) w
  · by_cases h0 : n = 0 ∨ 100 < n
    · exact memOwn_few K _ _ _ _ h0 (by omega) w
    · obtain ⟨b, off, spot⟩ := p
      have hc := hcell 0 (by omega)
      have hspot : spot = none := by simpa [Addr.add] using World.cell?_spot hc
      subst hspot
      have hb : b < w.heap.size := by simpa [Addr.add] using World.block_lt_of_cell? _ _ hc
      refine memOwn_way K b off n cap (zs.take n) x (by simp; omega) (by omega) (by omega) (fun z hzz => u32_of (bounds_u32 (hwz z (List.mem_of_mem_take hzz)))) hx w (fun i hi => ?_) hb
      have e : (⟨b, off, none⟩ : Addr).add i = ⟨b, off + i, none⟩ := by
        unfold Addr.add
        split
        · rename_i h; subst h; rfl
        · rfl
      have hci := hcell i (by omega)
      rw [e] at hci
      rw [hci]
      unfold wordAt
      simp [List.getElem?_take_of_lt hi]
end Go.Proofs.Ytbfliilabkjkgaa
