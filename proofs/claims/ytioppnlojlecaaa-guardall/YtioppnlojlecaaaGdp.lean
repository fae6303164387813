/-
  The words of regions, by the document: contract of the function that the statements bear.
-/
import Derived.Test.YtioppnlojlecaaaGdw
namespace Go.Proofs.Ytioppnlojlecaaa
open Go.RowKit

/-- Sixteen words and an error. -/
def row17 (f : Nat → Int) (e : Int) : Array Value := (row16 f).push (.int .i64 e)
theorem row17_size (f : Nat → Int) (e : Int) : (row17 f e).size = 17 := by simp [row17, row16]
theorem row17_one (f : Nat → Int) (e : Int) : (row17 f e).all (·.oneCell') = true := by simp [row17, row16, Value.oneCell']
theorem zero17 : (#[.int .u32 0, .int .u32 0, .int .u32 0, .int .u32 0, .int .u32 0, .int .u32 0, .int .u32 0, .int .u32 0, .int .u32 0, .int .u32 0, .int .u32 0, .int .u32 0, .int .u32 0, .int .u32 0, .int .u32 0, .int .u32 0, .int .i64 0] : Array Value) = row17 (fun _ => 0) 0 := rfl
theorem info17 : (Try.prog.info? 31).map (·.size) = some 17 := by kernel_rfl
theorem und17 : ∃ fs, Try.prog.underlying 31 = some (.struct fs) := ⟨_, Try.underlying31⟩
theorem ret17 {f g : Nat → Int} {e e' : Int} (h : ∀ i, i < 16 → f i = g i) (he : e = e') : Ending.returned (.agg (row17 f e)) = .returned (.agg (row17 g e')) := by
  unfold row17
  rw [row16_ext h, he]

set_option maxRecDepth 100000 in
set_option maxHeartbeats 2000000 in
theorem rPutG_many {w : World} (sa : Option Addr) (n cap : Nat) (hn : 8 < n) (hm : n ≤ 1000000000) :
    Calls Try.prog 9 #[.slice sa n cap] w fun e w' => e = .returned (.agg (row17 (fun _ => 0) 9)) ∧ Below w.heap.size w w' := by
  have h8 : (8 : Int) < (n : Int) := by omega
  go_enter Try.func9, Try.ntmps9
  go_wp2_with (first | (refine wpList_store_row rfl 31 (.tmp 2) (.tmp 8) rfl _ (row17 (fun _ => 0) 9) rfl rfl _ (row17 (fun _ => 0) 0) (alloc_at w _) (by rw [row17_size]; exact info17) (by rw [row17_size, row17_size]) (row17_one _ _) ?_))
  obtain ⟨fs, hfs⟩ := und17
  exact bodyPost_ret (results_cell_row rfl _ _ _ _ _ _ _ rfl (setRow_heap _ _ _ _ _ _ (alloc_at w _)) hfs rfl (by rw [row17_size]; exact info17)) rfl ⟨rfl, below_setRow ((Below.refl _ _).alloc (Nat.le_refl _) _) (Nat.le_refl _) _⟩

theorem or_one {h : Int} (hu : U32 h) (hm : h % 4 = 0) : bits .or .u32 h 1 = h + 1 := or_add 1 (by decide) hu (by decide) (by decide) (by omega)
theorem or_two {h : Int} (hu : U32 h) (hm : h % 4 = 0) : bits .or .u32 h 2 = h + 2 := or_add 2 (by decide) hu (by decide) (by decide) (by omega)
theorem or_both {h : Int} (hu : U32 h) (hm : h % 4 = 0) : bits .or .u32 (h + 1) 2 = h + 3 := by
  obtain ⟨H, rfl⟩ := Int.eq_ofNat_of_zero_le hu.1
  have h1 : H < 4294967296 := by have := hu.2; omega
  have e : H = 2 ^ 2 * (H / 4) := by omega
  have e1 : H + 1 = H ||| 1 := by
    rw [e]; exact Nat.two_pow_add_eq_or_of_lt (by decide) _
  have e3 : H + 3 = H ||| 3 := by
    rw [e]; exact Nat.two_pow_add_eq_or_of_lt (by decide) _
  have h2 : H + 1 < 4294967296 := by omega
  have := u32_or_nat (H + 1) 2 h2 (by decide)
  rw [show ((H : Nat) : Int) + 1 = ((H + 1 : Nat) : Int) by omega, show ((2 : Nat) : Int) = 2 by rfl] at *
  rw [this, e1, Nat.or_assoc, show (1 : Nat) ||| 2 = 3 by decide, ← e3]
  omega

/-- The j-th word of the first k regions. -/
def putP (l : List Rg) (k j : Nat) : Int := if j / 2 < k then (if j % 2 = 0 then (rgAt l (j / 2)).lo else hiV (rgAt l (j / 2))) else 0
theorem putP_next (l : List Rg) (k j : Nat) : putP l (k + 1) j = put1 (put1 (putP l k) (2 * k) (rgAt l k).lo) (2 * k + 1) (hiV (rgAt l k)) j := by
  unfold putP put1
  by_cases h1 : j = 2 * k + 1
  · subst h1
    rw [if_pos rfl, if_pos (by omega), if_neg (by omega), show (2 * k + 1) / 2 = k by omega]
  · rw [if_neg h1]
    by_cases h2 : j = 2 * k
    · subst h2
      rw [if_pos rfl, if_pos (by omega), if_pos (by omega), show 2 * k / 2 = k by omega]
    · rw [if_neg h2]
      show _ = if j / 2 < k then (if j % 2 = 0 then (rgAt l (j / 2)).lo else hiV (rgAt l (j / 2))) else 0
      by_cases h3 : j / 2 < k
      · rw [if_pos h3, if_pos (by omega)]
      · rw [if_neg h3, if_neg (by omega)]
theorem put1_twice (f : Nat → Int) (i : Nat) (x y : Int) : put1 (put1 f i x) i y = put1 f i y := by
  funext j
  unfold put1
  by_cases h : j = i
  · rw [if_pos h, if_pos h]
  · rw [if_neg h, if_neg h, if_neg h]

structure PutSt (w : World) (l : List Rg) (k : Nat) (wr : World) : Prop where
  one : wr.heap[w.heap.size]? = some (.cells (row17 (fun _ => 0) 0) 31)
  two : wr.heap[w.heap.size + 1]? = some (.cells (row16 (putP l k)) 26)
  good : ∀ i, i < k → badV (rgAt l i) = false
  below : Below w.heap.size w wr
theorem PutSt.next {w wr W : World} {l : List Rg} {k : Nat} (h : PutSt w l k wr) (hb : badV (rgAt l k) = false) (f : Nat → Int) (hf : f = put1 (put1 (putP l k) (2 * k) (rgAt l k).lo) (2 * k + 1) (hiV (rgAt l k)))
    (h1 : W.heap[w.heap.size]? = wr.heap[w.heap.size]?) (h2 : W.heap[w.heap.size + 1]? = some (.cells (row16 f) 26)) (h3 : Below w.heap.size w W) : PutSt w l (k + 1) W := by
  refine ⟨h1.trans h.one, ?_, fun i hi => ?_, h3⟩
  · rw [h2, hf, row16_ext fun j _ => (putP_next l k j).symm]
  · by_cases hik : i = k
    · rw [hik]; exact hb
    · exact h.good i (by omega)
theorem built17 (f : Nat → Int) : Try.prog.built 31 [(0, .agg (row16 f))] = some (row17 f 0) := by kernel_rfl

theorem wpList_built17 {ops : Array Oper} {rest : List Oper} {o : Oper} {a : Act} {w : World} {Q : Exit → Act → World → Prop} (hg : o.guard = none) (x : Operand) (ho : o.op = .build 31 #[(0, x)]) (f : Nat → Int) (hx : a.eval x = .agg (row16 f))
    (h : wpList Try.prog ops Q rest (a.put o.dst (.agg (row17 f 0))) w) : wpList Try.prog ops Q (o :: rest) a w := by
  have e : (#[(0, x)].map fun (i, x) => (i, a.eval x)).toList = [(0, Value.agg (row16 f))] := by simp [hx]
  refine wpList_build hg _ _ ho ?_ ?_
  · rw [e, built17]; rfl
  · rw [e, built17]; exact h

theorem putE_good {l : List Rg} (h8 : l.length ≤ 8) (h : ∀ i, i < l.length → badV (rgAt l i) = false) : putE l = 0 := by
  unfold putE
  rw [if_neg (by omega), if_neg (by rw [any_none h]; decide)]
theorem putE_bad {l : List Rg} (h8 : l.length ≤ 8) {i : Nat} (hi : i < l.length) (h : badV (rgAt l i) = true) : putE l = 4 := by
  unfold putE
  rw [if_neg (by omega), if_pos (any_at hi h)]

set_option maxRecDepth 100000 in
set_option maxHeartbeats 4000000 in
theorem rPutG_few {w : World} {sa : Option Addr} {b off : Nat} {l : List Rg} (hr : Regs w sa b off l) (hu : ∀ r ∈ l, RgU r) (n cap : Nat) (hn : n = l.length) (h8 : n ≤ 8) :
    Calls Try.prog 9 #[.slice sa n cap] w fun e w' => e = .returned (.agg (row17 (putW l) (putE l))) ∧ Below w.heap.size w w' := by
  have HR : Hid _ := hr
  have HU : Hid _ := hu
  have HN : Hid (n = l.length) := hn
  clear hr hu hn
  have e8 : ¬ (8 : Int) < (n : Int) := by omega
  obtain ⟨fs, hfs⟩ := und17
  have HS : Hid _ := hfs
  clear hfs
  go_enter Try.func9, Try.ntmps9
  go_wp2_with fail
  rw [zero16]
  have R0 : Hid (PutSt w l 0 ((w.alloc (.cells (row17 (fun _ => 0) 0) 31)).alloc (.cells (row16 fun _ => 0) 26))) := by
    have hA := alloc_at (w.alloc (.cells (row17 (fun _ => 0) 0) 31)) (.cells (row16 fun _ => 0) 26)
    rw [World.size_alloc] at hA
    exact ⟨kept_block ((Below.refl _ _).alloc (Nat.le_refl _) _), by rw [hA, row16_ext (f := fun _ => 0) (g := putP l 0)]; intro i _; rfl, fun i hi => absurd hi (Nat.not_lt_zero _), box2⟩
  rw [zero17]
  generalize (w.alloc (.cells (row17 (fun _ => 0) 0) 31)).alloc (.cells (row16 fun _ => 0) 26) = V at *
  go_loopw [4] (fun i wr => ∃ k : Nat, k ≤ n ∧ i = .int .i64 k ∧ Hid (PutSt w l k wr)) (fun i _ => n - (intOf i).toNat)
  case atStart => exact ⟨0, Nat.zero_le _, rfl, R0.out⟩
  case round =>
    clear R0
    obtain ⟨k, hk, rfl, hr⟩ := hrel
    by_cases hlt : k < n
    · have hl : k < l.length := by rw [← HN.out]; exact hlt
      have esa := HR.out.sa (by omega)
      subst esa
      have hR := HR.out.below hr.out.below
      have q0 : wr.cell? ⟨b, off + k * 4, none⟩ = some (.int .u32 (rgAt l k).lo) := hR.cell k hl 0 _ rfl
      have q1 : wr.cell? ⟨b, off + k * 4 + 1, none⟩ = some (.int .u32 (rgAt l k).hi) := hR.cell k hl 1 _ rfl
      have q2 : wr.cell? ⟨b, off + k * 4 + 2, none⟩ = some (.bool (rgAt l k).x) := hR.cell k hl 2 _ rfl
      have q3 : wr.cell? ⟨b, off + k * 4 + 3, none⟩ = some (.bool (rgAt l k).w) := hR.cell k hl 3 _ rfl
      have hbs : b < w.heap.size := HR.out.there (by omega)
      have hne : ¬ b = w.heap.size + 1 := by omega
      obtain ⟨cc, cf, cs⟩ := cells_of hr.out.two
      have c0 := cc (2 * k) _ (row16_at _ _ (by omega))
      have c1 := cc (2 * k + 1) _ (row16_at _ _ (by omega))
      have f0 := cf (2 * k)
      have f1 := cf (2 * k + 1)
      obtain ⟨⟨l0, l1⟩, ⟨g0, g1⟩⟩ := rgAt_u HU.out k
      have HP : Hid _ := hr.out
      have HNX : Hid _ := fun (hb : badV (rgAt l k) = false) W f => hr.out.next (W := W) hb f
      have HBD : Hid _ := fun (hb : badV (rgAt l k) = true) => putE_bad (l := l) (by rw [← HN.out]; exact h8) hl hb
      clear hr cc cf hR hl HR HU HN
      generalize hrr : rgAt l k = r at *
      obtain ⟨lo, hi, x, y⟩ := r
      simp only at q0 q1 q2 q3 l0 l1 g0 g1
      generalize putP l k (2 * k) = y0 at *
      generalize putP l k (2 * k + 1) = y1 at *
      by_cases b1 : lo % 4 = 0
      · have m1 : (lo % 4 != 0) = false := by simpa using b1
        by_cases b2 : hi % 4 = 0
        · have m2 : (hi % 4 != 0) = false := by simpa using b2
          have o1 := or_one ⟨g0, g1⟩ b2
          have o2 := or_two ⟨g0, g1⟩ b2
          have o3 := or_both ⟨g0, g1⟩ b2
          cases x <;> cases y
          · go_wp2_with fail
            exact ⟨⟨k + 1, hlt, by go_num, HNX.out (by simp [badV, b1, b2]) _ (put1 (put1 (putP l k) (2 * k) lo) (2 * k + 1) hi) (by rw [show hiV ⟨lo, hi, false, false⟩ = hi by simp [hiV]]) (((Below.heap_setCell _ _ _ _ (show w.heap.size ≠ w.heap.size + 1 by omega))).trans ((Below.heap_setCell _ _ _ _ (show w.heap.size ≠ w.heap.size + 1 by omega)))) (by rw [heap_setCell_at _ (heap_setCell_at _ (HP.out.two)), row16_put, row16_put]) (((HP.out.below).setCell (Nat.le_succ _) _).setCell (Nat.le_succ _) _)⟩, by simp [intOf]; omega⟩
          · go_wp2_with fail
            exact ⟨⟨k + 1, hlt, by go_num, HNX.out (by simp [badV, b1, b2]) _ (put1 (put1 (put1 (putP l k) (2 * k) lo) (2 * k + 1) hi) (2 * k + 1) (hi + 2)) (by rw [show hiV ⟨lo, hi, false, true⟩ = hi + 2 by simp [hiV]]; rw [put1_twice]) (((Below.heap_setCell _ _ _ _ (show w.heap.size ≠ w.heap.size + 1 by omega))).trans (((Below.heap_setCell _ _ _ _ (show w.heap.size ≠ w.heap.size + 1 by omega))).trans ((Below.heap_setCell _ _ _ _ (show w.heap.size ≠ w.heap.size + 1 by omega))))) (by rw [heap_setCell_at _ (heap_setCell_at _ (heap_setCell_at _ (HP.out.two))), row16_put, row16_put, row16_put]) ((((HP.out.below).setCell (Nat.le_succ _) _).setCell (Nat.le_succ _) _).setCell (Nat.le_succ _) _)⟩, by simp [intOf]; omega⟩
          · go_wp2_with fail
            exact ⟨⟨k + 1, hlt, by go_num, HNX.out (by simp [badV, b1, b2]) _ (put1 (put1 (put1 (putP l k) (2 * k) lo) (2 * k + 1) hi) (2 * k + 1) (hi + 1)) (by rw [show hiV ⟨lo, hi, true, false⟩ = hi + 1 by simp [hiV]]; rw [put1_twice]) (((Below.heap_setCell _ _ _ _ (show w.heap.size ≠ w.heap.size + 1 by omega))).trans (((Below.heap_setCell _ _ _ _ (show w.heap.size ≠ w.heap.size + 1 by omega))).trans ((Below.heap_setCell _ _ _ _ (show w.heap.size ≠ w.heap.size + 1 by omega))))) (by rw [heap_setCell_at _ (heap_setCell_at _ (heap_setCell_at _ (HP.out.two))), row16_put, row16_put, row16_put]) ((((HP.out.below).setCell (Nat.le_succ _) _).setCell (Nat.le_succ _) _).setCell (Nat.le_succ _) _)⟩, by simp [intOf]; omega⟩
          · have c2 : (((wr.setCell ⟨w.heap.size + 1, 2 * k, none⟩ (.int .u32 lo)).setCell ⟨w.heap.size + 1, 2 * k + 1, none⟩ (.int .u32 hi)).setCell ⟨w.heap.size + 1, 2 * k + 1, none⟩ (.int .u32 (hi + 1))).cell? ⟨w.heap.size + 1, 2 * k + 1, none⟩ = some (.int .u32 (hi + 1)) := by rw [(cells_of (heap_setCell_at _ (heap_setCell_at _ (heap_setCell_at _ HP.out.two)))).1 (2 * k + 1) (.int .u32 (hi + 1)) (by rw [row16_put, row16_put, row16_put, row16_at _ _ (by omega)]; simp [put1])]
            go_wp2_with fail
            exact ⟨⟨k + 1, hlt, by go_num, HNX.out (by simp [badV, b1, b2]) _ (put1 (put1 (put1 (put1 (putP l k) (2 * k) lo) (2 * k + 1) hi) (2 * k + 1) (hi + 1)) (2 * k + 1) (hi + 3)) (by rw [show hiV ⟨lo, hi, true, true⟩ = hi + 3 by simp [hiV]; omega]; rw [put1_twice, put1_twice]) (((Below.heap_setCell _ _ _ _ (show w.heap.size ≠ w.heap.size + 1 by omega))).trans (((Below.heap_setCell _ _ _ _ (show w.heap.size ≠ w.heap.size + 1 by omega))).trans (((Below.heap_setCell _ _ _ _ (show w.heap.size ≠ w.heap.size + 1 by omega))).trans ((Below.heap_setCell _ _ _ _ (show w.heap.size ≠ w.heap.size + 1 by omega)))))) (by rw [heap_setCell_at _ (heap_setCell_at _ (heap_setCell_at _ (heap_setCell_at _ (HP.out.two)))), row16_put, row16_put, row16_put, row16_put]) (((((HP.out.below).setCell (Nat.le_succ _) _).setCell (Nat.le_succ _) _).setCell (Nat.le_succ _) _).setCell (Nat.le_succ _) _)⟩, by simp [intOf]; omega⟩
        · have m2 : (hi % 4 != 0) = true := by simpa using b2
          go_wp2_with (first | (refine wpList_store_row rfl 31 (.tmp 2) (.tmp 31) rfl _ (row17 (fun _ => 0) 4) rfl rfl _ _ HP.out.one (by rw [row17_size]; exact info17) (by rw [row17_size, row17_size]) (row17_one _ _) ?_))
          exact bodyPost_ret (results_cell_row rfl _ _ _ _ _ _ _ rfl (setRow_heap _ _ _ _ _ _ HP.out.one) HS.out rfl (by rw [row17_size]; exact info17)) rfl ⟨ret17 (fun j _ => by unfold putW; rw [HBD.out (by simp [badV, b2])]; rfl) (HBD.out (by simp [badV, b2])).symm, below_setRow HP.out.below (Nat.le_refl _) _⟩
      · have m1 : (lo % 4 != 0) = true := by simpa using b1
        go_wp2_with (first | (refine wpList_store_row rfl 31 (.tmp 2) (.tmp 31) rfl _ (row17 (fun _ => 0) 4) rfl rfl _ _ HP.out.one (by rw [row17_size]; exact info17) (by rw [row17_size, row17_size]) (row17_one _ _) ?_))
        exact bodyPost_ret (results_cell_row rfl _ _ _ _ _ _ _ rfl (setRow_heap _ _ _ _ _ _ HP.out.one) HS.out rfl (by rw [row17_size]; exact info17)) rfl ⟨ret17 (fun j _ => by unfold putW; rw [HBD.out (by simp [badV, b1])]; rfl) (HBD.out (by simp [badV, b1])).symm, below_setRow HP.out.below (Nat.le_refl _) _⟩
    · have hkn : k = n := by omega
      subst hkn
      have HP : Hid _ := hr.out
      have HE : Hid (putE l = 0) := putE_good (by rw [← HN.out]; exact h8) (by rw [← HN.out]; exact hr.out.good)
      have HW : Hid (∀ j, j < 16 → putP l k j = putW l j) := fun j _ => by
        unfold putW putAt putP
        rw [if_pos HE.out, ← HN.out]
      clear hr
      go_wp2_with (first | (refine wpList_load_row rfl 26 (.tmp 3) rfl _ rfl _ _ _ _ HP.out.two und16 rfl (by rw [row16_size]; exact info16) ?_) | (refine wpList_built17 rfl (.tmp 73) rfl _ rfl ?_) | (refine wpList_store_row rfl 31 (.tmp 2) (.tmp 74) rfl _ (row17 _ 0) rfl rfl _ _ HP.out.one (by rw [row17_size]; exact info17) (by rw [row17_size, row17_size]) (row17_one _ _) ?_))
      exact bodyPost_ret (results_cell_row rfl _ _ _ _ _ _ _ rfl (setRow_heap _ _ _ _ _ _ HP.out.one) HS.out rfl (by rw [row17_size]; exact info17)) rfl ⟨ret17 HW.out HE.out.symm, below_setRow HP.out.below (Nat.le_refl _) _⟩
end Go.Proofs.Ytioppnlojlecaaa
