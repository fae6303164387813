/-
  Whatever is stored and loaded, asked one behind the other.
-/
import Derived.Test.YtbfliilabkjkgaaLawo3
import Derived.Deep.RegionHeld3
namespace Go.Proofs.Ytbfliilabkjkgaa
open Go.RowKit

/-- Something that is asked of memory: store, sign, at, size, x. -/
structure QAsk where
  st : Bool
  sg : Bool
  at' : Int
  sz : Int
  x : Int

def qcells (q : QAsk) : List Value := [.bool q.st, .bool q.sg, .int .u32 q.at', .int .i64 q.sz, .int .u32 q.x]

/-- What holds ahead of each round. -/
structure Round (Is : World → Addr → List Int → (Nat → Prop) → Prop) (w : World) (m : Addr) (g n : Nat) (l : List Int) (O : Nat → Prop) (wr : World) : Prop where
  is : Is wr m l O
  len : l.length = n
  u32 : ∀ z ∈ l, U32 z
  apart : ∀ k, O k → k ≠ g ∧ w.heap.size ≤ k
  cells : ∀ i, i < n → wr.cell? ⟨g, i, none⟩ = some (.int .u32 (wordAt l i))
  frozen : ∀ i, wr.frozen? ⟨g, i, none⟩ = false
  there : w.heap.size ≤ g ∧ g < wr.heap.size
  below : Below w.heap.size w wr

theorem wordAt_u32 {l : List Int} (h : ∀ z ∈ l, U32 z) (i : Nat) : U32 (wordAt l i) := by
  unfold wordAt
  rw [List.getD_eq_getElem?_getD]
  by_cases hi : i < l.length
  · rw [List.getElem?_eq_getElem hi]; exact h _ (List.getElem_mem _)
  · rw [List.getElem?_eq_none (by omega)]; exact ⟨by decide, by decide⟩

theorem Round.on {Is : World → Addr → List Int → (Nat → Prop) → Prop} (K : MemK Is) {w : World} {m : Addr} {g n : Nat} {l : List Int} {O : Nat → Prop} {wr w' : World} (h : Round Is w m g n l O wr) (hb : Below wr.heap.size wr w') : Round Is w m g n l O w' where
  is := K.below h.is hb
  len := h.len
  u32 := h.u32
  apart := h.apart
  cells i hi := by rw [hb.cell (p := ⟨g, i, none⟩) h.there.2]; exact h.cells i hi
  frozen i := by rw [hb.frozen (p := ⟨g, i, none⟩) h.there.2]; exact h.frozen i
  there := ⟨h.there.1, Nat.lt_of_lt_of_le h.there.2 hb.size⟩
  below := below_step h.below hb

theorem Apart.cell {O : Nat → Prop} {w w' : World} (h : Apart O w w') {p : Addr} (hp : p.block < w.heap.size) (hn : ¬ O p.block) : w'.cell? p = w.cell? p := World.cell?_of_block (w := w) (h.block p.block hp hn)
theorem Apart.frozen {O : Nat → Prop} {w w' : World} (h : Apart O w w') {p : Addr} (hp : p.block < w.heap.size) (hn : ¬ O p.block) : w'.frozen? p = w.frozen? p := World.frozen?_of_block (w := w) (h.block p.block hp hn)

theorem storeW_cell {n g b : Nat} {l : List Int} {p k x : Int} {w : World} (i : Nat) (h : b ≠ g) : (storeW n g l p k x w).cell? ⟨b, i, none⟩ = w.cell? ⟨b, i, none⟩ := by
  unfold storeW
  split
  · exact World.cell?_of_block (Below.heap_setCell _ _ _ _ h)
  · rfl

theorem Round.store {Is : World → Addr → List Int → (Nat → Prop) → Prop} (K : MemK Is) {w : World} {m : Addr} {g n : Nat} {l : List Int} {O O3 : Nat → Prop} {W w3 : World} (h : Round Is w m g n l O W) (p k x : Int) (hp : U32 p) (i3 : Is w3 m (storeL l p k x) O3) (hO3 : ∀ b, O3 b → O b ∨ W.heap.size ≤ b) (ap : Apart O W w3) :
    Round Is w m g n (storeL l p k x) O3 (storeW n g l p k x w3) := by
  have hng : ¬ O g := fun o => (h.apart g o).1 rfl
  have hap : ∀ k, O3 k → k ≠ g ∧ w.heap.size ≤ k := fun k hk => (hO3 k hk).elim (h.apart k) fun hs => ⟨by have := h.there.2; omega, Nat.le_trans h.below.size hs⟩
  have hg3 : g < w3.heap.size := Nat.lt_of_lt_of_le h.there.2 ap.size
  have hb3 : Below w.heap.size w w3 := ap.below h.below fun k hk => (h.apart k hk).2
  have hc3 : ∀ i, i < n → w3.cell? ⟨g, i, none⟩ = some (.int .u32 (wordAt l i)) := fun i hi => by rw [ap.cell (p := ⟨g, i, none⟩) h.there.2 hng]; exact h.cells i hi
  have hf3 : ∀ i, w3.frozen? ⟨g, i, none⟩ = false := fun i => by rw [ap.frozen (p := ⟨g, i, none⟩) h.there.2 hng]; exact h.frozen i
  by_cases ha : askV n p k = 0
  · have e1 : storeL l p k x = l.set (p / 4).toNat (storeV (wordAt l (p / 4).toNat) p k x) := by unfold storeL; rw [h.len, if_pos ha]
    have e2 : storeW n g l p k x w3 = w3.setCell ⟨g, (p / 4).toNat, none⟩ (.int .u32 (storeV (wordAt l (p / 4).toNat) p k x)) := by unfold storeW; rw [if_pos ha]
    have hv : U32 (storeV (wordAt l (p / 4).toNat) p k x) := bits_u32 _ _ _
    have hi : (p / 4).toNat < n := by obtain ⟨_, _, h3⟩ := ask_zero ha; have := hp.1; omega
    rw [e1] at i3 ⊢
    rw [e2]
    generalize storeV (wordAt l (p / 4).toNat) p k x = v at *
    generalize (p / 4).toNat = j at *
    refine ⟨K.keep i3 fun b hb => Below.heap_setCell _ _ _ _ (hap b hb).1, by rw [List.length_set]; exact h.len, fun z hz => ?_, hap, fun i hi' => ?_, fun i => ?_, ⟨h.there.1, by simpa [World.setCell] using hg3⟩, hb3.setCell h.there.1 _⟩
    · rcases List.mem_or_eq_of_mem_set hz with h1 | h1
      · exact h.u32 z h1
      · rw [h1]; exact hv
    · by_cases hij : i = j
      · subst hij
        have := hc3 i hi'
        unfold wordAt
        rw [List.getD_eq_getElem?_getD, List.getElem?_set_self (by rw [h.len]; exact hi)]
        simp [go_sem, this]
      · have := hc3 i hi'
        have e3 : wordAt (l.set j v) i = wordAt l i := by
          unfold wordAt
          rw [List.getD_eq_getElem?_getD, List.getD_eq_getElem?_getD, List.getElem?_set_ne (by omega)]
        rw [e3]
        rw [show (w3.setCell ⟨g, j, none⟩ (.int .u32 v)).cell? ⟨g, i, none⟩ = w3.cell? ⟨g, i, none⟩ by simp [go_sem]]
        exact this
    · have := hf3 i
      simp [go_sem, this]
  · have e1 : storeL l p k x = l := by unfold storeL; rw [h.len, if_neg ha]
    have e2 : storeW n g l p k x w3 = w3 := by unfold storeW; rw [if_neg ha]
    rw [e1] at i3 ⊢
    rw [e2]
    exact ⟨i3, h.len, h.u32, hap, hc3, hf3, ⟨h.there.1, hg3⟩, hb3⟩

set_option maxRecDepth 100000 in
set_option maxHeartbeats 4000000 in
theorem memRuns_way {Is : World → Addr → List Int → (Nat → Prop) → Prop} (K : MemK Is) (b off n cap b2 off2 n2 cap2 : Nat) (sa : Option Addr) (l : List Int) (qs : Nat → QAsk) (hl : n = l.length) (n0 : 1 ≤ n) (n1 : n ≤ 200) (m1 : n2 ≤ 80) (hcap : n ≤ cap) (hu : ∀ z ∈ l, U32 z) (w : World)
    (hc : ∀ i, i < n → w.cell? ⟨b, off + i, none⟩ = some (.int .u32 (wordAt l i))) (hb : b < w.heap.size)
    (hq : ∀ i, i < n2 → (∀ f v, (qcells (qs i))[f]? = some v → w.cell? ⟨b2, off2 + i * 5 + f, none⟩ = some v) ∧ U32 (qs i).at' ∧ U32 (qs i).x) (hsa : 0 < n2 → sa = some ⟨b2, off2, none⟩ ∧ b2 < w.heap.size) :
    Calls Try.prog 3 #[.slice (some ⟨b, off, none⟩) n cap, .slice sa n2 cap2] w fun e w' => e = .returned (.bool true) ∧ Below w.heap.size w w' := by
  have CE : Hid _ := mErr
  have CW : Hid _ := mawake K
  have HK : Hid _ := K
  clear K
  have HL : Hid (n = l.length) := hl
  have HC : Hid _ := hc
  have HU : Hid _ := hu
  have HQ : Hid _ := hq
  clear hl hc hu hq
  obtain ⟨iu, hi, hz0, hz1, hz2⟩ := info_parts infoU
  have e0 : ((n : Int) == 0) = false := by simp; omega
  have e1 : ¬ (200 : Int) < (n : Int) := by omega
  have e2 : ¬ (80 : Int) < (n2 : Int) := by omega
  go_enter Try.func3, Try.ntmps3
  go_wp2_with fail
  refine (HK.out.new b off n cap l w HL.out n0 (by omega) hcap HU.out HC.out).mono ?_
  rintro e w1 ⟨m, O, rfl, i1, hO, b1⟩
  have hb1 : b < w1.heap.size := Nat.lt_of_lt_of_le hb b1.size
  have HO : Hid ((w1.alloc (.cells #[] 30)).ownsRow w1.heap.size 30 1 (.slice (some ⟨w1.heap.size, 0, none⟩) 0 0) 0 []) := World.ownsRow_lit w1 #[] 0 (Nat.le_refl _) (by decide) rfl
  have HN : Hid _ := wvals_cells (w := w1) (b := b) (off := off) (l := l) (by rw [← HL.out]; intro i hi; rw [b1.cell (p := ⟨b, off + i, none⟩) hb]; exact HC.out i hi) hb1 (.cells #[] 30)
  go_wp2_with (first | (go_at_call 10; refine (CE.out _ _).mono ?_; rintro e w' ⟨rfl, rfl⟩) | (at_builtin; refine wpList_append_own _ rfl (.tmp 47) (.tmp 48) 22 rfl _ 30 iu (.int .u32 0) 1 4 Try.underlying22 hi hz0 hz1 hz2 rfl (by decide) _ _ _ rfl HO.out ⟨b, off, none⟩ n cap (wvals l) rfl (by rw [wvals_len, ← HL.out, Nat.mul_one]) HN.out (wvals_one l) (by unfold maxLen; omega) (by omega) (by simp) ?_; intro v1 w2 hown hgrow hv))
  obtain ⟨g, gc, rfl, hg0, hg1, hg2, cg, fg⟩ := owns_open HL.out n0 hown
  have bb : Below w'.heap.size w' w2 := below_grown ((Below.refl _ _).alloc (Nat.le_refl _) _) hgrow (by simp) (Nat.le_refl _)
  have R0 : Hid (Round Is w m g n l O w2) := ⟨HK.out.below i1 bb, HL.out.symm, HU.out, fun k hk => ⟨by have := HK.out.own i1 hk; omega, hO k hk⟩, cg, fg, ⟨Nat.le_trans b1.size hg0, hg1⟩, below_step b1 bb⟩
  clear hown hgrow hv HO HN hi hz0 hz1 hz2 i1 hO b1 hb1 bb cg fg HC HU hg0 hg1
  go_loopw [8, 9, 10, 11, 12] (fun i _ _ _ _ wr => ∃ k : Nat, k ≤ n2 ∧ i = .int .i64 k ∧ Hid (∃ lk Ok, Round Is w m g n lk Ok wr)) (fun i _ _ _ _ _ => n2 - (intOf i).toNat)
  case atStart => exact ⟨0, Nat.zero_le _, rfl, l, O, R0.out⟩
  case round =>
    clear R0 HL
    obtain ⟨k, hk, rfl, hr⟩ := hrel
    by_cases hlt : k < n2
    · obtain ⟨rfl, hb2⟩ := hsa (by omega)
      clear hsa
      obtain ⟨lk, Ok, hR⟩ := hr.out
      obtain ⟨hq, ua, ux⟩ := HQ.out k hlt
      have R1 : Hid _ := hR
      have bw := hR.below
      have q0 : wr.cell? ⟨b2, off2 + k * 5, none⟩ = some (.bool (qs k).st) := by rw [bw.cell (p := ⟨b2, off2 + k * 5, none⟩) hb2]; exact hq 0 _ rfl
      have q1 : wr.cell? ⟨b2, off2 + k * 5 + 1, none⟩ = some (.bool (qs k).sg) := by rw [bw.cell (p := ⟨b2, off2 + k * 5 + 1, none⟩) hb2]; exact hq 1 _ rfl
      have q2 : wr.cell? ⟨b2, off2 + k * 5 + 2, none⟩ = some (.int .u32 (qs k).at') := by rw [bw.cell (p := ⟨b2, off2 + k * 5 + 2, none⟩) hb2]; exact hq 2 _ rfl
      have q3 : wr.cell? ⟨b2, off2 + k * 5 + 3, none⟩ = some (.int .i64 (qs k).sz) := by rw [bw.cell (p := ⟨b2, off2 + k * 5 + 3, none⟩) hb2]; exact hq 3 _ rfl
      have q4 : wr.cell? ⟨b2, off2 + k * 5 + 4, none⟩ = some (.int .u32 (qs k).x) := by rw [bw.cell (p := ⟨b2, off2 + k * 5 + 4, none⟩) hb2]; exact hq 4 _ rfl
      have UA : Hid _ := ua
      have UX : Hid _ := ux
      clear hr hR hq bw ua ux
      generalize qs k = q at *
      obtain ⟨st, sg, at', sz, x⟩ := q
      simp only at q0 q1 q2 q3 q4 UA UX
      cases st with
      | true =>
        go_wp2_with fail
        have R2 : Hid _ := R1.out.on HK.out ((Below.refl _ wr).alloc (Nat.le_refl _) (.cells #[.bool true, .bool sg, .int .u32 at', .int .i64 sz, .int .u32 x] 32)).drew
        have hnew : (wr.alloc (.cells #[.bool true, .bool sg, .int .u32 at', .int .i64 sz, .int .u32 x] 32)).drew.heap[wr.heap.size]? = _ := alloc_at wr (.cells #[.bool true, .bool sg, .int .u32 at', .int .i64 sz, .int .u32 x] 32)
        have HB : Hid ((∀ k, Ok k → k < wr.heap.size) ∧ g < wr.heap.size) := ⟨fun k hk => HK.out.own R1.out.is hk, R1.out.there.2⟩
        obtain ⟨cc, cf, cs⟩ := cells_of hnew
        have a2 := cc 2 _ rfl
        have a3 := cc 3 _ rfl
        have a4 := cc 4 _ rfl
        clear hnew cc cf q0 q1 q2 q3 q4 R1
        go_region_held3 (fun w' => w'.cell? ⟨wr.heap.size, 2, none⟩ = some (.int .u32 at') ∧ w'.cell? ⟨wr.heap.size, 3, none⟩ = some (.int .i64 sz) ∧ w'.cell? ⟨wr.heap.size, 4, none⟩ = some (.int .u32 x)) (first | (refine ⟨?_, ?_, ?_⟩ <;> assumption) | (refine ⟨?_, ?_, ?_⟩ <;> simp [go_sem])) (first | (go_at_call 10; refine (CE.out _ _).mono ?_; rintro e w' ⟨rfl, rfl⟩) | (go_at_call 11; refine (HK.out.stores R2.out.is at' sz x (askV n at' sz) (storeL lk at' sz x) UA.out UX.out rfl (by rw [R2.out.len])).mono ?_; rintro e w3 ⟨rfl, ⟨O3, i3, hO3⟩, ap⟩; have d2 := (ap.cell (p := ⟨wr.heap.size, 2, none⟩) cs (fun o => Nat.lt_irrefl _ (HB.out.1 _ o))).trans a2; have d3 := (ap.cell (p := ⟨wr.heap.size, 3, none⟩) cs (fun o => Nat.lt_irrefl _ (HB.out.1 _ o))).trans a3; have d4 := (ap.cell (p := ⟨wr.heap.size, 4, none⟩) cs (fun o => Nat.lt_irrefl _ (HB.out.1 _ o))).trans a4) | (go_at_call 12; refine (rStore g n gc lk at' sz x (by omega) UA.out UX.out (wordAt_u32 R2.out.u32) _ (fun i hi => (ap.cell (p := ⟨g, i, none⟩) R2.out.there.2 (fun o => (R2.out.apart g o).1 rfl)).trans (R2.out.cells i hi)) (fun i => (ap.frozen (p := ⟨g, i, none⟩) R2.out.there.2 (fun o => (R2.out.apart g o).1 rfl)).trans (R2.out.frozen i))).mono ?_; rintro e w4 ⟨rfl, rfl⟩; have f2 := (storeW_cell (n := n) (l := lk) (p := at') (k := sz) (x := x) 2 (Nat.ne_of_gt HB.out.2)).trans d2; have f3 := (storeW_cell (n := n) (l := lk) (p := at') (k := sz) (x := x) 3 (Nat.ne_of_gt HB.out.2)).trans d3; have f4 := (storeW_cell (n := n) (l := lk) (p := at') (k := sz) (x := x) 4 (Nat.ne_of_gt HB.out.2)).trans d4))
        have R5 : Hid (Round Is w m g n (storeL lk at' sz x) O3 (storeW n g lk at' sz x _)) := R2.out.store HK.out at' sz x UA.out i3 hO3 ap
        clear R2 d2 d3 d4 f2 f3 f4 a2 a3 a4 cs HB i3 hO3 ap
        go_wp2_with fail
        exact ⟨⟨k + 1, hlt, by go_num, _, _, R5.out⟩, by simp [intOf]; omega⟩
      | false =>
        go_wp2_with fail
        have R2 : Hid _ := R1.out.on HK.out ((Below.refl _ wr).alloc (Nat.le_refl _) (.cells #[.bool false, .bool sg, .int .u32 at', .int .i64 sz, .int .u32 x] 32))
        have hnew := alloc_at wr (.cells #[.bool false, .bool sg, .int .u32 at', .int .i64 sz, .int .u32 x] 32)
        have B := wr.heap.size
        generalize hW : wr.alloc (.cells #[.bool false, .bool sg, .int .u32 at', .int .i64 sz, .int .u32 x] 32) = W at *
        clear hW q0 q1 q2 q3 q4 R1
        refine (HK.out.loads R2.out.is at' sz sg (loadN n lk at' sz sg) (askV n at' sz) UA.out (by rw [R2.out.len]) (by rw [R2.out.len])).mono ?_
        rintro e w3 ⟨rfl, -, hb3⟩
        have R3 : Hid _ := R2.out.on HK.out hb3
        have hn3 := kept_on hnew hb3
        obtain ⟨cc, cf, cs⟩ := cells_of hn3
        have a0 := cc 0 _ rfl
        have a1 := cc 1 _ rfl
        have a2 := cc 2 _ rfl
        have a3 := cc 3 _ rfl
        clear hb3 R2 hnew cc cf
        have HN3 : Hid _ := hn3
        clear hn3
        go_wp2_with fail
        refine (rLoad g n gc lk at' sz sg (by omega) UA.out (wordAt_u32 R3.out.u32) w3 R3.out.cells R3.out.there.2).mono ?_
        rintro e w4 ⟨rfl, hb4⟩
        have R4 : Hid _ := R3.out.on HK.out hb4
        clear hb4 R3 HN3 a0 a1 a2 a3 cs
        generalize loadN n lk at' sz sg = V at *
        generalize askV n at' sz = E at *
        go_wp2_with fail
        go_region_with (go_at_call 10; refine (CE.out _ _).mono ?_; rintro e w' ⟨rfl, rfl⟩)
        all_goals go_wp2_with fail
        all_goals exact ⟨⟨k + 1, hlt, by go_num, lk, Ok, R4.out.on HK.out (((Below.refl _ _).alloc (Nat.le_refl _) _).drew)⟩, by simp [intOf]; omega⟩
    · have hkn : k = n2 := by omega
      subst hkn
      obtain ⟨lk, Ok, hR⟩ := hr.out
      have R1 : Hid _ := hR
      clear hr hR HQ
      go_wp2_with fail
      refine (HK.out.words R1.out.is).mono ?_
      rintro e w3 ⟨tb, tc, rfl, -, t1, tcell, -, hb3⟩
      have R3 : Hid _ := R1.out.on HK.out hb3
      have TC : Hid (∀ i, i < n → w3.cell? ⟨tb, i, none⟩ = some (.int .u32 (wordAt lk i))) := by
        show ∀ i, _
        rw [← R3.out.len]; exact tcell
      rw [R3.out.len]
      clear tcell hb3 R1
      go_wp2_with fail
      refine (rSame tb g n tc gc lk (by omega) w3 TC.out R3.out.cells t1 R3.out.there.2).mono ?_
      rintro e w4 ⟨rfl, hb4⟩
      have R4 : Hid _ := R3.out.on HK.out hb4
      clear hb4 R3 TC t1
      go_wp2_with fail
      refine (HK.out.sizes R4.out.is (4 * (n : Int)) (by rw [R4.out.len])).mono ?_
      rintro e w5 ⟨rfl, -, hb5⟩
      have b5 := below_step R4.out.below hb5
      clear hb5 R4
      go_wp2_with fail
      refine (CW.out _).mono ?_
      rintro e w6 ⟨rfl, hb6⟩
      have b6 := below_step b5 hb6
      clear hb6 b5
      go_wp2
      go_ret
      exact ⟨rfl, b6⟩

theorem memRuns_many {Is : World → Addr → List Int → (Nat → Prop) → Prop} (K : MemK Is) (a sa : Option Addr) (n cap n2 cap2 : Nat) (hn : 200 < n ∨ 80 < n2) (hm : n ≤ maxLen) (hm2 : n2 ≤ maxLen) (w : World) :
    Calls Try.prog 3 #[.slice a n cap, .slice sa n2 cap2] w fun e w' => e = .returned (.bool true) ∧ Below w.heap.size w w' := by
  have CW : Hid _ := mawake K
  clear K
  unfold maxLen at hm hm2
  by_cases h : 200 < n
  · have e1 : (200 : Int) < (n : Int) := by omega
    go_enter Try.func3, Try.ntmps3
    go_wp2_with fail
    refine (CW.out _).mono ?_
    rintro e w1 ⟨rfl, b1⟩
    go_wp2
    go_ret
    exact ⟨rfl, b1⟩
  · have e1 : ¬ (200 : Int) < (n : Int) := by omega
    have e2 : (80 : Int) < (n2 : Int) := by omega
    go_enter Try.func3, Try.ntmps3
    go_wp2_with fail
    refine (CW.out _).mono ?_
    rintro e w1 ⟨rfl, b1⟩
    go_wp2
    go_ret
    exact ⟨rfl, b1⟩

theorem memRuns_none {Is : World → Addr → List Int → (Nat → Prop) → Prop} (K : MemK Is) (a sa : Option Addr) (cap n2 cap2 : Nat) (hn : n2 ≤ 80) (w : World) :
    Calls Try.prog 3 #[.slice a 0 cap, .slice sa n2 cap2] w fun e w' => e = .returned (.bool true) ∧ Below w.heap.size w w' := by
  have CE : Hid _ := mErr
  have CW : Hid _ := mawake K
  have CN : Hid _ := K.none a 0 cap
  clear K
  have e2 : ¬ (80 : Int) < (n2 : Int) := by omega
  go_enter Try.func3, Try.ntmps3
  go_wp2_with fail
  refine (CN.out _ (Or.inl (by trivial)) (by omega)).mono ?_
  rintro e w1 ⟨rfl, b1⟩
  go_wp2_with (first | (go_at_call 10; refine (CE.out _ _).mono ?_; rintro e w' ⟨rfl, rfl⟩))
  refine (CW.out _).mono ?_
  rintro e w2 ⟨rfl, b2⟩
  have b3 := below_step b1 b2
  clear b1 b2
  go_wp2
  go_ret
  exact ⟨rfl, b3⟩
end Go.Proofs.Ytbfliilabkjkgaa
