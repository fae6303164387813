/-
  Package image: takeKeys; regions that meet: plain facts.
-/
import Derived.Test.YtfjppgfnjjmkpaaImg
namespace Go.Proofs.Ytfjppgfnjjmkpaa
open Go.RowKit

/-- Two regions share a byte. -/
def meetB (s r : Rg) : Bool := decide (s.lo < s.hi) && decide (r.lo < r.hi) && decide (s.lo < r.hi) && decide (r.lo < s.hi)
def freeK (l : List Rg) (r : Rg) : Bool := l.all fun s => !(meetB s r)
def usedS (step : Int) (l : List Rg) (a : Int) : Bool := l.any fun r => inR r.lo r.hi step a
def Aln (step : Int) (r : Rg) : Prop := r.lo % step = 0 ∧ r.hi % step = 0
theorem meet_iff {step : Int} (hs : step = 1 ∨ step = 4) {s r : Rg} (h1 : Aln step s) (h2 : Aln step r) : (∃ a, inR s.lo s.hi step a = true ∧ inR r.lo r.hi step a = true) ↔ meetB s r = true := by
  unfold inR meetB
  obtain ⟨a1, a2⟩ := h1
  obtain ⟨b1, b2⟩ := h2
  simp only [Bool.and_eq_true, beq_iff_eq, decide_eq_true_eq]
  constructor
  · rintro ⟨a, ⟨⟨c1, c2⟩, _⟩, ⟨c4, c5⟩, _⟩
    omega
  · rintro ⟨⟨⟨c1, c2⟩, c3⟩, c4⟩
    by_cases h : s.lo ≤ r.lo
    · refine ⟨r.lo, ⟨⟨h, c4⟩, ?_⟩, ⟨Int.le_refl _, c2⟩, ?_⟩
      · rcases hs with rfl | rfl <;> omega
      · rcases hs with rfl | rfl <;> omega
    · refine ⟨s.lo, ⟨⟨Int.le_refl _, c1⟩, ?_⟩, ⟨by omega, c3⟩, ?_⟩
      · rcases hs with rfl | rfl <;> omega
      · rcases hs with rfl | rfl <;> omega
theorem free_yes {step : Int} (hs : step = 1 ∨ step = 4) {l : List Rg} {r : Rg} (hl : ∀ s ∈ l, Aln step s) (hr : Aln step r) (h : ∀ a, inR r.lo r.hi step a = true → usedS step l a = false) : freeK l r = true := by
  unfold freeK
  rw [List.all_eq_true]
  intro s hsl
  cases hm : meetB s r with
  | false => rfl
  | true =>
    exfalso
    obtain ⟨a, h1, h2⟩ := (meet_iff hs (hl s hsl) hr).2 hm
    have h3 := h a h2
    unfold usedS at h3
    rw [List.any_eq_false] at h3
    exact h3 s hsl h1
theorem free_no {step : Int} (hs : step = 1 ∨ step = 4) {l : List Rg} {r : Rg} (hl : ∀ s ∈ l, Aln step s) (hr : Aln step r) {a : Int} (h1 : inR r.lo r.hi step a = true) (h2 : usedS step l a = true) : freeK l r = false := by
  unfold freeK
  rw [List.all_eq_false]
  unfold usedS at h2
  rw [List.any_eq_true] at h2
  obtain ⟨s, hsl, h3⟩ := h2
  refine ⟨s, hsl, ?_⟩
  rw [(meet_iff hs (hl s hsl) hr).1 ⟨a, h3, h1⟩]
  decide
theorem used_more (step : Int) (l : List Rg) (r : Rg) (a : Int) : usedS step (l ++ [r]) a = (inR r.lo r.hi step a || usedS step l a) := by
  unfold usedS
  rw [List.any_append]
  simp [Bool.or_comm]
theorem al_one (r : Rg) : Aln 1 r := ⟨by omega, by omega⟩
def keyV (i : Im) (k : Nat) (p : Pt) (q : Nat) (r : Rg) : Bool := isKeyV r i.keys && freeK ((i.ps.take k).flatMap (·.ks) ++ p.ks.take q) r
def keysP (i : Im) (k : Nat) (p : Pt) : Bool := decide (p.ks.length ≤ 6) && idxAll p.ks (keyV i k p)
def keysV (i : Im) : Bool := idxAll i.ps (keysP i)
theorem flat_next {l : List Pt} {k : Nat} {p : Pt} (hx : l[k]? = some p) : (l.take (k + 1)).flatMap (·.ks) = (l.take k).flatMap (·.ks) ++ p.ks := by
  obtain ⟨h, e⟩ := List.getElem?_eq_some_iff.1 hx
  rw [List.take_succ_eq_append_getElem h, List.flatMap_append, e]
  simp
theorem take_more {α : Type} {l : List α} {k : Nat} {x : α} (hx : l[k]? = some x) : l.take (k + 1) = l.take k ++ [x] := by
  obtain ⟨h, e⟩ := List.getElem?_eq_some_iff.1 hx
  rw [List.take_succ_eq_append_getElem h, e]
theorem isKeyV_hi {r s : Rg} (h : isKeyV r s = true) : r.hi ≤ s.hi := by
  unfold isKeyV at h
  simp only [Bool.and_eq_true, decide_eq_true_eq] at h
  exact h.1.2
structure KeySt (w0 w1 V : World) (g n ib : Nat) (i : Im) (prior : List Rg) : Prop where
  low : Below w0.heap.size w0 V
  spot : ∃ (M : Int → Int → Bool) (n' : Nat), n' ≤ n ∧ SpotIs V g n' M ∧ ∀ a, M 2 a = usedS 1 prior a
  box : V.heap[ib]? = some (.cells i.cells 28)
  kc : KC w1 V
theorem KeySt.below {w0 w1 V V' : World} {g n ib : Nat} {i : Im} {prior : List Rg} (h : KeySt w0 w1 V g n ib i prior) (hb : Below V.heap.size V V') : KeySt w0 w1 V' g n ib i prior := by
  obtain ⟨h1, ⟨M, n', h2, h3, h4⟩, h5, h6⟩ := h
  exact ⟨below_step h1 hb, ⟨M, n', h2, spot_kept h3 hb, h4⟩, kept_on h5 hb, h6.trans (KC.of_below hb)⟩
theorem KeySt.more {w0 w1 V : World} {g n m ib : Nat} {i : Im} {prior : List Rg} (h : KeySt w0 w1 V g n ib i prior) (hm : n ≤ m) : KeySt w0 w1 V g m ib i prior := by
  obtain ⟨h1, ⟨M, n', h2, h3, h4⟩, h5, h6⟩ := h
  exact ⟨h1, ⟨M, n', by omega, h3, h4⟩, h5, h6⟩
/-- A key is taken, or is not. -/
theorem keyTake {w0 w1 V : World} {g n ib : Nat} {i : Im} {prior : List Rg} (h : KeySt w0 w1 V g n ib i prior) (hg : w0.heap.size ≤ g) (hib : ib ≠ g) (hn : n ≤ 90000000) (r : Rg) (hr : RgU r) (hhi : r.hi ≤ 300000) :
    Calls Try.prog 26 #[.map (some g), .int .i64 2, rgV r, .int .u32 1] V fun e w' => e = .returned (.bool (freeK prior r)) ∧ Below w0.heap.size w0 w' ∧ KC w1 w' ∧ (freeK prior r = true → KeySt w0 w1 w' g (n + 300010) ib i (prior ++ [r])) := by
  obtain ⟨h1, ⟨M, n', h2, h3, h4⟩, h5, h6⟩ := h
  refine (iTake h3 2 (.inr rfl) r hr hhi 1 (.inl rfl) (by omega)).mono ?_
  rintro e w' ⟨c, rfl, ht⟩
  have hlow : Below w0.heap.size w0 w' := below_grown h1 ht.grown h1.size hg
  have hkc := h6.trans (KC.of_grown ht.grown (spot_map h3))
  cases c
  · obtain ⟨a, a1, a2⟩ := ht.no rfl
    rw [h4] at a2
    have e1 := free_no (.inl rfl) (fun s _ => al_one s) (al_one r) a1 a2
    rw [e1]
    exact ⟨rfl, hlow, hkc, fun e => by cases e⟩
  · obtain ⟨a1, n2, hn2, a2⟩ := ht.yes rfl
    have e1 := free_yes (.inl rfl) (fun s _ => al_one s) (al_one r) (l := prior) (fun a ha => by rw [← h4]; exact a1 a ha)
    rw [e1]
    refine ⟨rfl, hlow, hkc, fun _ => ⟨hlow, ⟨_, n2, by omega, a2, fun a => ?_⟩, kept_grown h5 ht.grown hib, hkc⟩⟩
    rw [used_more, ← h4]
    unfold addR
    simp
set_option maxRecDepth 100000 in
set_option maxHeartbeats 2000000 in
theorem iKeys {w0 w : World} {i : Im} {b off g n : Nat} {M : Int → Int → Bool} (hp : PartsAt w0 b off i.pa i.ps) (ho : ImOk i) (hb : Below w0.heap.size w0 w) (hg : w0.heap.size ≤ g) (hs : SpotIs w g n M) (hM : ∀ a, M 2 a = false) (hn : n ≤ 10000000) (h8 : i.ps.length ≤ 8) (hk : i.keys.hi ≤ 300000) :
    Calls Try.prog 21 #[.map (some g), .agg i.cells] w fun e w' => e = .returned (.bool (keysV i)) ∧ Below w0.heap.size w0 w' ∧ KC w w' := by
  have HP : Hid _ := hp
  have HO : Hid _ := ho
  have HG : Hid (w0.heap.size ≤ g) := hg
  have HN : Hid (n ≤ 10000000) := hn
  have HKH : Hid (i.keys.hi ≤ 300000) := hk
  have hgl : Hid (g < w.heap.size) := spot_lt hs
  have CI : Hid _ := iIsKey
  obtain ⟨fp, hfp⟩ := undPt
  obtain ⟨fr, hfr⟩ := undRg
  have HFP : Hid _ := hfp
  have HFR : Hid _ := hfr
  obtain ⟨RV, hRV⟩ : ∃ RV, RV = keysV i := ⟨_, rfl⟩
  have HRV : Hid (RV = keysV i) := hRV
  rw [← hRV]
  have A1 : Below w.heap.size w (w.alloc (.cells i.cells 28)) := (Below.refl _ _).alloc (Nat.le_refl _) _
  have K0 : Hid (KeySt w0 w (w.alloc (.cells i.cells 28)) g n w.heap.size i []) := ⟨below_step hb A1, ⟨M, n, Nat.le_refl _, spot_kept hs A1, fun a => by rw [hM]; rfl⟩, alloc_at w _, KC.of_below A1⟩
  have CELL : Hid (∀ V : World, V.heap[w.heap.size]? = some (.cells i.cells 28) → V.cell? ⟨w.heap.size, 9, none⟩ = some (.slice i.pa i.ps.length i.pc)) := fun V hV => (cells_of hV).1 9 _ rfl
  have KEYS : Hid (∀ V : World, V.heap[w.heap.size]? = some (.cells i.cells 28) → V.rangeAt w.heap.size 5 [.int .u32 i.keys.lo, .int .u32 i.keys.hi, .bool i.keys.x, .bool i.keys.w]) := fun V hV => range_of hV (fun j v hv => by
    match j, hv with
    | 0, hv => exact hv
    | 1, hv => exact hv
    | 2, hv => exact hv
    | 3, hv => exact hv)
  clear hp ho hb hg hs hM hn hk hfp hfr hRV A1
  have hKC : i.cells = #[.slice i.wa i.wl i.wc, .int .u32 i.kern.lo, .int .u32 i.kern.hi, .bool i.kern.x, .bool i.kern.w, .int .u32 i.keys.lo, .int .u32 i.keys.hi, .bool i.keys.x, .bool i.keys.w, .slice i.pa i.ps.length i.pc] := rfl
  have K0c := CELL.out _ K0.out.box
  generalize hln : i.ps.length = m at *
  have HLN : Hid (i.ps.length = m) := hln
  clear hln hKC
  go_enter Try.func21, Try.ntmps21
  go_wp2_with fail
  have hib : Hid (w.heap.size ≠ g) := (by have := hgl.out; omega : w.heap.size ≠ g)
  go_loopw [12] (fun x wr => ∃ (k : Nat) (V : World), V = wr ∧ k ≤ m ∧ x = .int .i64 k ∧ Hid ((∀ (j : Nat) y, j < k → i.ps[j]? = some y → keysP i j y = true) ∧ KeySt w0 w V g (n + k * 1800060) w.heap.size i ((i.ps.take k).flatMap (·.ks)))) (fun x _ => m - (intOf x).toNat)
  case atStart => exact ⟨0, _, rfl, Nat.zero_le _, rfl, fun j y hj => by omega, K0.out.more (by omega)⟩
  case round =>
    clear K0 K0c
    obtain ⟨k, V, rfl, hk, rfl, hr⟩ := hrel
    by_cases hlt : k < m
    · obtain ⟨p, hx⟩ : ∃ p, i.ps[k]? = some p := ⟨_, List.getElem?_eq_getElem (by rw [HLN.out]; exact hlt)⟩
      have HX : Hid _ := hx
      have I1 : Hid _ := HP.out.below hr.out.2.low
      obtain ⟨ea, hb⟩ := I1.out.at' (I1.out.lt hx)
      rw [ea]
      have k0 : (0 : Int) ≤ (k : Int) := by omega
      have k1 : (k : Int) < (m : Int) := by omega
      have PO : Hid _ := HO.out.ps p (List.mem_of_getElem? hx)
      have PA : Hid _ := HP.out.in' p (List.mem_of_getElem? hx)
      clear hb hx ea
      go_wp2_with (first | (refine wpList_mids (by rfl) 40 (.tmp 14) rfl b (off + k * 11) rfl p.cells _ (I1.out.row k p HX.out) HFP.out rfl (by rw [Pt.size]; exact infoPt) ?_) | (refine wpList_fill rfl 40 (.tmp 6) (.tmp 15) rfl rfl p.cells rfl 40 _ (by rw [Pt.size]; exact infoPt) (by rw [Pt.size]; rfl) (Pt.one p) ?_))
      intro V2 R2 b2
      have K2 : Hid _ := hr.out.2.below b2
      have c9 : V2.cell? ⟨V.heap.size, 9, none⟩ = some (.slice p.ka p.kl p.kc) := (cells_of R2).1 9 _ rfl
      have hnot : keysP i k p = false → RV = false := fun h => by rw [HRV.out]; exact idx_not HX.out h
      have HNOT : Hid _ := hnot
      have HKL : Hid (p.kl = p.ks.length) := PA.out.kl
      clear b2 I1 R2 hnot
      by_cases h6 : p.kl ≤ 6
      · have e6 : ¬ 6 < (p.kl : Int) := by omega
        go_wp2_with fail
        go_loopw [23] (fun x wr => ∃ (q : Nat) (W : World), W = wr ∧ q ≤ p.kl ∧ x = .int .i64 q ∧ Hid ((∀ (j : Nat) r, j < q → p.ks[j]? = some r → keyV i k p j r = true) ∧ KeySt w0 w W g (n + k * 1800060 + q * 300010) w.heap.size i ((i.ps.take k).flatMap (·.ks) ++ p.ks.take q))) (fun x _ => p.kl - (intOf x).toNat)
        case atStart => exact ⟨0, _, rfl, Nat.zero_le _, rfl, fun j y hj => by omega, by rw [List.take_zero, List.append_nil]; exact K2.out.more (by omega)⟩
        case round =>
          clear c9 K2
          obtain ⟨q, W, rfl, hq, rfl, hrq⟩ := hrel
          by_cases hql : q < p.kl
          · obtain ⟨r, hy⟩ : ∃ r, p.ks[q]? = some r := ⟨_, List.getElem?_eq_getElem (by rw [← HKL.out]; exact hql)⟩
            have HY : Hid _ := hy
            obtain ⟨kb, koff, hrg⟩ := (PA.out.below hrq.out.2.low).keys
            have hka : p.ka = some ⟨kb, koff, none⟩ := hrg.sa (by rw [← HKL.out]; omega)
            have RG : Hid _ := regs_row hrg hy
            have RO : Hid _ := PO.out.ks r (List.mem_of_getElem? hy)
            have q0 : (0 : Int) ≤ (q : Int) := by omega
            have q1 : (q : Int) < (p.kl : Int) := by omega
            clear hrg hy
            rw [hka]
            go_wp2_with (first | (refine wpList_mids (by rfl) 25 (.tmp 25) rfl kb (koff + q * 4) rfl #[.int .u32 r.lo, .int .u32 r.hi, .bool r.x, .bool r.w] _ RG.out HFR.out rfl infoRg ?_) | (refine wpList_fill rfl 25 (.tmp 8) (.tmp 26) rfl rfl #[.int .u32 r.lo, .int .u32 r.hi, .bool r.x, .bool r.w] rfl 25 _ infoRg rfl (rg_one r) ?_))
            intro W2 S2 d2
            have K3 : Hid _ := hrq.out.2.below d2
            have S3 : Hid _ := S2
            clear d2 S2
            go_wp2_with (first | (refine wpList_row (by rfl) 25 (.tmp 8) rfl W.heap.size rfl 25 #[.int .u32 r.lo, .int .u32 r.hi, .bool r.x, .bool r.w] _ S3.out HFR.out rfl infoRg ?_) | (refine wpList_mids (by rfl) 25 (.tmp 28) rfl w.heap.size 5 rfl #[.int .u32 i.keys.lo, .int .u32 i.keys.hi, .bool i.keys.x, .bool i.keys.w] _ (KEYS.out _ K3.out.box) HFR.out rfl infoRg ?_))
            refine (CI.out r i.keys RO.out _).mono ?_
            rintro e W3 ⟨rfl, d3⟩
            have K4 : Hid _ := K3.out.below d3
            have S4 : Hid _ := kept_on S3.out d3
            have hn2 : keyV i k p q r = false → keysP i k p = false := fun h => by
              unfold keysP
              rw [idx_not HY.out h, Bool.and_false]
            have HN2 : Hid _ := hn2
            clear d3 K3 S3 hn2
            cases h1 : isKeyV r i.keys
            · have hv : RV = false := HNOT.out (HN2.out (by unfold keyV; rw [h1]; rfl))
              clear HRV HNOT
              subst hv
              go_wp2_with fail
              go_ret
              exact ⟨rfl, K4.out.low, K4.out.kc⟩
            · have H1 : Hid _ := h1
              have hhi : Hid (r.hi ≤ 300000) := Int.le_trans (isKeyV_hi h1) HKH.out
              have CT : Hid _ := keyTake K4.out HG.out hib.out (by have := HN.out; omega) r RO.out hhi.out
              clear h1
              go_wp2_with (first | (refine wpList_row (by rfl) 25 (.tmp 8) rfl W.heap.size rfl 25 #[.int .u32 r.lo, .int .u32 r.hi, .bool r.x, .bool r.w] _ S4.out HFR.out rfl infoRg ?_))
              refine Calls.mono CT.out ?_
              rintro e W4 ⟨rfl, l5, q5, n5⟩
              have K5 : Hid _ := n5
              have L5 : Hid _ := And.intro l5 q5
              clear l5 q5 n5 S4 K4
              cases h2 : freeK ((i.ps.take k).flatMap (·.ks) ++ p.ks.take q) r
              · have hv : RV = false := HNOT.out (HN2.out (by unfold keyV; rw [h2, Bool.and_false]))
                clear HRV HNOT h2 K5
                subst hv
                go_wp2_with fail
                go_ret
                exact ⟨rfl, L5.out.1, L5.out.2⟩
              · have K6 : Hid _ := K5.out h2
                have H2 : Hid _ := h2
                clear h2 K5
                go_wp2_with fail
                exact ⟨⟨q + 1, _, rfl, by omega, by go_num, fun j r' hj hr' => by
                  by_cases hj2 : j < q
                  · exact hrq.out.1 j r' hj2 hr'
                  · have : j = q := by omega
                    subst this
                    rw [HY.out] at hr'
                    cases hr'
                    unfold keyV
                    rw [H1.out, H2.out]
                    rfl, by rw [take_more HY.out, ← List.append_assoc]; exact K6.out.more (by omega)⟩, by simp [intOf]; omega⟩
          · have q1 : ¬ (q : Int) < (p.kl : Int) := by omega
            have hqk : q = p.kl := by omega
            have hall : keysP i k p = true := by
              unfold keysP
              rw [decide_eq_true (show p.ks.length ≤ 6 by rw [← HKL.out]; exact h6), idx_yes (fun j r hj => hrq.out.1 j r (by have := (List.getElem?_eq_some_iff.1 hj).1; rw [← HKL.out] at this; omega) hj)]
              rfl
            have HALL : Hid _ := hall
            have KE : Hid (KeySt w0 w W g (n + (k + 1) * 1800060) w.heap.size i ((i.ps.take (k + 1)).flatMap (·.ks))) := by
              have := hrq.out.2
              rw [show p.ks.take q = p.ks from List.take_of_length_le (by rw [hqk, HKL.out]; exact Nat.le_refl _), ← flat_next HX.out] at this
              exact this.more (by omega)
            clear hall hqk
            go_wp2_with fail
            exact ⟨⟨k + 1, _, rfl, hlt, by go_num, fun j y hj hy => by
              by_cases hj2 : j < k
              · exact hr.out.1 j y hj2 hy
              · have : j = k := by omega
                subst this
                rw [HX.out] at hy
                cases hy
                exact HALL.out, KE.out⟩, by simp [intOf]; omega⟩
      · have e6 : 6 < (p.kl : Int) := by omega
        have hv : RV = false := HNOT.out (by
          unfold keysP
          rw [decide_eq_false (show ¬ p.ks.length ≤ 6 by rw [← HKL.out]; exact h6), Bool.false_and])
        clear HRV HNOT
        subst hv
        go_wp2_with fail
        go_ret
        exact ⟨rfl, K2.out.low, K2.out.kc⟩
    · have k1 : ¬ (k : Int) < (m : Int) := by omega
      have hv : RV = true := by
        rw [HRV.out]
        exact idx_yes (fun j y hy => hr.out.1 j y (by have := (List.getElem?_eq_some_iff.1 hy).1; rw [HLN.out] at this; omega) hy)
      clear HRV
      subst hv
      go_wp2_with fail
      go_ret
      exact ⟨rfl, hr.out.2.low, hr.out.2.kc⟩
end Go.Proofs.Ytfjppgfnjjmkpaa
