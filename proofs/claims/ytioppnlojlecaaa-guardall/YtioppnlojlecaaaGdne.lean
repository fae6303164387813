/-
  Package guard: the words of regions: the contract of the function; what the statements need of the package, all of it.
-/
import Derived.Test.YtioppnlojlecaaaGdnb
import Derived.Test.YtioppnlojlecaaaGdnd
namespace Go.Proofs.Ytioppnlojlecaaa
open Go.RowKit

/-- A row that lies in a block, and a number, as two results. -/
theorem results_row_num {fn : Func} {p q : Tmp} (h : fn.results = #[.cell p 26, .tmp q]) (tmps : Array Value) (w : World) (g : Nat) (f : Nat → Int)
    (hp : tmps.getD p undef = .pointer (some ⟨g, 0, none⟩)) (hg : w.heap[g]? = some (.cells (row16 f) 26)) (v : Value) (hv : tmps.getD q undef = v) :
    (results fn tmps).run Try.prog w = .ok (.tuple #[.agg (row16 f), v]) w := by
  have hp' : tmps[p]?.getD undef = .pointer (some ⟨g, 0, none⟩) := by simpa using hp
  have hv' : tmps[q]?.getD undef = v := by simpa using hv
  simp [results, h, hp', hv', asAddr, run_loadVar_row w g _ 26 (row16 f) _ _ hg und16 rfl (by rw [row16_size]; exact info16)]

theorem bad_or {a b : Int} (ha : U32 a) (hb : U32 b) : (bits .and .u32 (bits .or .u32 a b) 3 != 0) = (decide (a % 4 ≠ 0) || decide (b % 4 ≠ 0)) := by
  obtain ⟨A, rfl⟩ := Int.eq_ofNat_of_zero_le ha.1
  obtain ⟨B, rfl⟩ := Int.eq_ofNat_of_zero_le hb.1
  have h1 : A < 4294967296 := by have := ha.2; omega
  have h2 : B < 4294967296 := by have := hb.2; omega
  have h3 : A ||| B < 4294967296 := Nat.or_lt_two_pow (n := 32) h1 h2
  rw [u32_or_nat A B h1 h2]
  have := u32_and_nat (A ||| B) 3 h3 (by decide)
  rw [show ((3 : Nat) : Int) = 3 by rfl] at this
  rw [this, Nat.and_or_distrib_right, nat_mask2, nat_mask2]
  have e1 : A % 4 < 4 := Nat.mod_lt _ (by decide)
  have e2 : B % 4 < 4 := Nat.mod_lt _ (by decide)
  have f1 : ((A : Int) % 4 ≠ 0) = (A % 4 ≠ 0) := by
    apply propext
    omega
  have f2 : ((B : Int) % 4 ≠ 0) = (B % 4 ≠ 0) := by
    apply propext
    omega
  simp only [f1, f2]
  generalize A % 4 = x at *
  generalize B % 4 = y at *
  have : ∀ x, x < 4 → ∀ y, y < 4 → ((((x ||| y : Nat) : Int) != 0) = (decide (x ≠ 0) || decide (y ≠ 0))) := by decide
  exact this x e1 y e2

set_option maxRecDepth 100000 in
set_option maxHeartbeats 2000000 in
theorem gPut_many {w : World} (sa : Option Addr) (n cap : Nat) (hn : 8 < n) (hm : n ≤ 1000000000) :
    Calls Try.prog 8 #[.slice sa n cap] w fun e w' => e = .returned (.tuple #[.agg (row16 fun _ => 0), .int .i64 9]) ∧ Below w.heap.size w w' := by
  have h8 : (8 : Int) < (n : Int) := by omega
  go_enter Try.func8, Try.ntmps8
  go_wp2_with (first | (refine wpList_store_row rfl 26 (.tmp 2) (.tmp 11) rfl _ (row16 fun _ => 0) rfl rfl _ (row16 fun _ => 0) (alloc_at w _) (by rw [row16_size]; exact info16) (by rw [row16_size]) (by simp [row16, Value.oneCell']) ?_))
  exact bodyPost_ret (results_row_num rfl _ _ w.heap.size (fun _ => 0) rfl (setRow_heap _ _ _ _ _ _ (alloc_at w _)) (.int .i64 9) rfl) rfl ⟨rfl, below_setRow ((Below.refl _ _).alloc (Nat.le_refl _) _) (Nat.le_refl _) _⟩

structure PutGSt (w : World) (l : List Rg) (k : Nat) (wr : World) : Prop where
  one : wr.heap[w.heap.size]? = some (.cells (row16 fun _ => 0) 26)
  two : wr.heap[w.heap.size + 1]? = some (.cells (row16 (putP l k)) 26)
  good : ∀ i, i < k → badV (rgAt l i) = false
  below : Below w.heap.size w wr

set_option maxRecDepth 100000 in
set_option maxHeartbeats 4000000 in
theorem gPut_few {w : World} {sa : Option Addr} {b off : Nat} {l : List Rg} (hr : Regs w sa b off l) (hu : ∀ r ∈ l, RgU r) (n cap : Nat) (hn : n = l.length) (h8 : n ≤ 8) :
    Calls Try.prog 8 #[.slice sa n cap] w fun e w' => e = .returned (.tuple #[.agg (row16 (putW l)), .int .i64 (putE l)]) ∧ Below w.heap.size w w' := by
  have HR : Hid _ := hr
  have HU : Hid _ := hu
  have HN : Hid (n = l.length) := hn
  clear hr hu hn
  have e8 : ¬ (8 : Int) < (n : Int) := by omega
  go_enter Try.func8, Try.ntmps8
  go_wp2_with fail
  rw [zero16]
  have R0 : Hid (PutGSt w l 0 ((w.alloc (.cells (row16 fun _ => 0) 26)).alloc (.cells (row16 fun _ => 0) 26))) := by
    have hA := alloc_at (w.alloc (.cells (row16 fun _ => 0) 26)) (.cells (row16 fun _ => 0) 26)
    rw [World.size_alloc] at hA
    exact ⟨kept_block ((Below.refl _ _).alloc (Nat.le_refl _) _), by rw [hA, row16_ext (f := fun _ => 0) (g := putP l 0)]; intro i _; rfl, fun i hi => absurd hi (Nat.not_lt_zero _), box2⟩
  generalize (w.alloc (.cells (row16 fun _ => 0) 26)).alloc (.cells (row16 fun _ => 0) 26) = V at *
  go_loopw [14] (fun i wr => ∃ k : Nat, k ≤ n ∧ i = .int .i64 k ∧ Hid (PutGSt w l k wr)) (fun i _ => n - (intOf i).toNat)
  case atStart => exact ⟨0, Nat.zero_le _, rfl, R0.out⟩
  case round =>
    clear R0
    obtain ⟨k, hk, rfl, hr⟩ := hrel
    by_cases hlt : k < n
    · have hl : k < l.length := by rw [← HN.out]; exact hlt
      have esa := HR.out.sa (by omega)
      subst esa
      have hR := HR.out.below hr.out.below
      have q0 : wr.cell? ⟨b, off + k * 4, none⟩ = some (.int .u32 (rgAt l k).lo) := hR.cell k hl 0 _ rfl
      have q1 : wr.cell? ⟨b, off + k * 4 + 1, none⟩ = some (.int .u32 (rgAt l k).hi) := hR.cell k hl 1 _ rfl
      have q2 : wr.cell? ⟨b, off + k * 4 + 2, none⟩ = some (.bool (rgAt l k).x) := hR.cell k hl 2 _ rfl
      have q3 : wr.cell? ⟨b, off + k * 4 + 3, none⟩ = some (.bool (rgAt l k).w) := hR.cell k hl 3 _ rfl
      have hu := rgAt_u HU.out k
      have hbo := bad_or hu.1 hu.2
      have HNX : Hid _ := putP_next l k
      have HBD : Hid _ := fun (hb : badV (rgAt l k) = true) => putE_bad (l := l) (by rw [← HN.out]; exact h8) hl hb
      have HGD : Hid _ := hr.out.good
      have HPO : Hid _ := gpairOf (rgAt l k) hu
      have hws : w.heap.size + 1 < wr.heap.size := (cells_of hr.out.two).2.2
      generalize hrr : rgAt l k = r at *
      obtain ⟨lo, hi, x, y⟩ := r
      simp only at q0 q1 q2 q3 hbo
      unfold badV at HBD
      simp only at HBD
      unfold rval pval at HPO
      simp only at HPO
      by_cases bd : (decide (lo % 4 ≠ 0) || decide (hi % 4 ≠ 0)) = true
      · rw [bd] at hbo
        have HE := HBD.out bd
        have k1 := kept_on hr.out.one ((Below.refl _ _).alloc (Nat.le_refl _) (.cells #[.int .u32 lo, .int .u32 hi, .bool x, .bool y] 40))
        go_wp2_with (first | (refine wpList_store_row rfl 26 (.tmp 2) (.tmp 26) rfl _ (row16 fun _ => 0) rfl rfl _ (row16 fun _ => 0) k1 (by rw [row16_size]; exact info16) (by rw [row16_size]) (by simp [row16, Value.oneCell']) ?_))
        exact bodyPost_ret (results_row_num rfl _ _ w.heap.size (fun _ => 0) rfl (setRow_heap _ _ _ _ _ _ k1) (.int .i64 4) rfl) rfl ⟨by rw [row16_ext (f := putW l) (g := fun _ => 0)]; intro j _; unfold putW; rw [HE]; rfl, below_setRow (hr.out.below.alloc (by omega) _) (Nat.le_refl _) _⟩
      · rw [Bool.not_eq_true] at bd
        rw [bd] at hbo
        have hb4 : lo % 4 = 0 ∧ hi % 4 = 0 := by simpa using bd
        have C1 : Hid _ := HPO.out hb4.2
        have HG : Hid (∀ i, i < k + 1 → badV (rgAt l i) = false) := fun i hi => by
          by_cases e : i = k
          · rw [e, hrr]; exact bd
          · exact HGD.out i (by omega)
        generalize hh : hiV ⟨lo, hi, x, y⟩ = h2 at *
        go_wp2_with fail
        refine (C1.out _).mono ?_
        rintro e w2 ⟨rfl, b2⟩
        have b3 : Below wr.heap.size wr w2 := below_first b2
        have hr2 : Hid (PutGSt w l k (w2.alloc (.cells #[.int .u32 lo, .int .u32 h2] 46))) := by
          have b4 : Below wr.heap.size wr (w2.alloc (.cells #[.int .u32 lo, .int .u32 h2] 46)) := b3.alloc b3.size _
          exact ⟨kept_on hr.out.one b4, kept_on hr.out.two b4, hr.out.good, below_step hr.out.below b4⟩
        have ha := alloc_at w2 (.cells #[.int .u32 lo, .int .u32 h2] 46)
        have hsz : w.heap.size + 1 < w2.heap.size := Nat.lt_of_lt_of_le hws b3.size
        clear hr b2 b3 hR HR hl HPO C1 HBD hu hbo bd hb4 HGD q0 q1 q2 q3 hws
        go_wp2_with fail
        generalize w2.alloc (.cells #[.int .u32 lo, .int .u32 h2] 46) = W at *
        generalize w2.heap.size = p0 at *
        obtain ⟨cc, cf, cs⟩ := cells_of ha
        have c0 := cc 0 (.int .u32 lo) rfl
        have c1 := cc 1 (.int .u32 h2) rfl
        obtain ⟨dc, df, ds⟩ := cells_of hr2.out.two
        obtain ⟨m, hm⟩ : ∃ m, m = 2 * k := ⟨_, rfl⟩
        have d0 := dc m _ (row16_at _ _ (by omega))
        have d1 := dc (m + 1) _ (row16_at _ _ (by omega))
        have f0 := df m
        have f1 := df (m + 1)
        have v0 : (2 : Int) * (k : Int) = (m : Int) := by omega
        have v1 : IntKind.i64.wrap (2 * (k : Int)) = (m : Int) := by rw [IntKind.wrap_i64]; omega
        have v2 : IntKind.i64.wrap ((m : Int) + 1) = (m : Int) + 1 := by rw [IntKind.wrap_i64]; omega
        have v3 : ((m : Int) + 1).toNat = m + 1 := by omega
        have i1 : (0 : Int) ≤ (m : Int) := by omega
        have i2 : (m : Int) < 16 := by omega
        have i3 : (m : Int) + 1 < 16 := by omega
        have i4 : (0 : Int) ≤ (m : Int) + 1 := by omega
        have ne : ¬ p0 = w.heap.size + 1 := by omega
        have HM : Hid (m = 2 * k) := hm
        generalize putP l k m = y0 at *
        generalize putP l k (m + 1) = y1 at *
        clear hm cc cf dc df ha
        go_region
        have hB : Below w.heap.size w (((W.setCell ⟨w.heap.size + 1, m, none⟩ (.int .u32 lo)).setCell ⟨w.heap.size + 1, m + 1, none⟩ (.int .u32 h2)).drew) := ((hr2.out.below.setCell (Nat.le_succ _) _).setCell (Nat.le_succ _) _).drew
        have hK : (((W.setCell ⟨w.heap.size + 1, m, none⟩ (.int .u32 lo)).setCell ⟨w.heap.size + 1, m + 1, none⟩ (.int .u32 h2)).drew).heap[w.heap.size]? = W.heap[w.heap.size]? := by
          have n1 : w.heap.size ≠ w.heap.size + 1 := by omega
          show (((W.setCell ⟨w.heap.size + 1, m, none⟩ (.int .u32 lo)).setCell ⟨w.heap.size + 1, m + 1, none⟩ (.int .u32 h2))).heap[w.heap.size]? = _
          rw [Below.heap_setCell _ _ _ _ n1, Below.heap_setCell _ _ _ _ n1]
        have hO := heap_setCell_at (i := m + 1) (.int .u32 h2) (heap_setCell_at (i := m) (.int .u32 lo) hr2.out.two)
        rw [row16_put, row16_put, HM.out, row16_ext fun j _ => (HNX.out j).symm, ← HM.out] at hO
        have HF : Hid (PutGSt w l (k + 1) (((W.setCell ⟨w.heap.size + 1, m, none⟩ (.int .u32 lo)).setCell ⟨w.heap.size + 1, m + 1, none⟩ (.int .u32 h2)).drew)) := ⟨hK.trans hr2.out.one, hO, HG.out, hB⟩
        generalize ((W.setCell ⟨w.heap.size + 1, m, none⟩ (.int .u32 lo)).setCell ⟨w.heap.size + 1, m + 1, none⟩ (.int .u32 h2)).drew = W2 at *
        clear hB hK hO hr2
        go_wp2_with fail
        exact ⟨⟨k + 1, hlt, by go_num, HF.out⟩, by simp [intOf]; omega⟩
    · have hkn : k = n := by omega
      subst hkn
      have HP : Hid _ := hr.out
      have HE : Hid (putE l = 0) := putE_good (by rw [← HN.out]; exact h8) (by rw [← HN.out]; exact hr.out.good)
      have HW : Hid (∀ j, j < 16 → putP l k j = putW l j) := fun j _ => by
        unfold putW putAt putP
        rw [if_pos HE.out, ← HN.out]
      clear hr
      go_wp2_with (first | (refine wpList_load_row rfl 26 (.tmp 4) rfl _ rfl _ _ _ _ HP.out.two und16 rfl (by rw [row16_size]; exact info16) ?_) | (refine wpList_store_row rfl 26 (.tmp 2) (.tmp 41) rfl _ (row16 _) rfl rfl _ _ HP.out.one (by rw [row16_size]; exact info16) (by rw [row16_size, row16_size]) (by simp [row16, Value.oneCell']) ?_))
      exact bodyPost_ret (results_row_num rfl _ _ w.heap.size (putP l k) rfl (setRow_heap _ _ _ _ _ _ HP.out.one) (.int .i64 0) rfl) rfl ⟨by rw [HE.out, row16_ext HW.out], below_setRow HP.out.below (Nat.le_refl _) _⟩
end Go.Proofs.Ytioppnlojlecaaa
