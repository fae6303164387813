/-
  Package image: takeRegions.
-/
import Derived.Test.YtfjppgfnjjmkpaaImk
namespace Go.Proofs.Ytfjppgfnjjmkpaa
open Go.RowKit Go.Shelf
attribute [local go_sem] Oper.semAt_some

def RgT (r : Rg) : Prop := RgU r ∧ r.hi ≤ 300000 ∧ Aln 4 r
def regsV (i : Im) : Bool := idxAll (regL i) fun j r => freeK ((regL i).take j) r
theorem spot_block {w w' : World} {g n : Nat} {M : Int → Int → Bool} (h : SpotIs w g n M) (hb : w'.heap[g]? = w.heap[g]?) : SpotIs w' g n M := by
  obtain ⟨⟨D, ⟨es, clock, h1, h2⟩, h3⟩⟩ := h
  exact ⟨⟨D, ⟨es, clock, hb.trans h1, h2⟩, h3⟩⟩
/-- What is taken when some regions have come. -/
structure TkSt (w0 W : World) (g : Nat) (l : List Rg) : Prop where
  low : Below w0.heap.size w0 W
  spot : ∃ (M : Int → Int → Bool) (n : Nat), n ≤ l.length * 300010 ∧ SpotIs W g n M ∧ (∀ a, M 1 a = usedS 4 l a) ∧ ∀ a, M 2 a = false
theorem TkSt.own {β : Type} {w0 : World} {g B : Nat} (f : β → List Rg) (hB : w0.heap.size ≤ B) (hg : g < B) : OwnFrom B (fun (s : β) W => TkSt w0 W g (f s)) := fun s W W' row hs hgr hr => by
  obtain ⟨h1, M, n, h2, h3, h4⟩ := hs
  have hne : ∀ k, k < B → some k ≠ row := fun k hk e => by have := (hr k e.symm).1; omega
  refine ⟨⟨hgr.os.trans h1.os, hgr.tape.trans h1.tape, hgr.output.trans h1.output, Nat.le_trans h1.size hgr.size, fun k hk => (hgr.block k (by have := h1.size; omega) (hne k (by omega))).trans (h1.block k hk)⟩, M, n, h2, spot_block h3 (hgr.block g (spot_lt h3) (hne g hg)), h4⟩
theorem TkSt.grown {w0 W W' : World} {g : Nat} {l : List Rg} {row : Option Nat} (h : TkSt w0 W g l) (hgr : W.grownBy W' row) (hr : ∀ r, row = some r → w0.heap.size ≤ r ∧ r ≠ g) : TkSt w0 W' g l := by
  obtain ⟨h1, M, n, h2, h3, h4⟩ := h
  refine ⟨⟨hgr.os.trans h1.os, hgr.tape.trans h1.tape, hgr.output.trans h1.output, Nat.le_trans h1.size hgr.size, fun k hk => (hgr.block k (by have := h1.size; omega) (fun e => by have := (hr k e.symm).1; omega)).trans (h1.block k hk)⟩, M, n, h2, spot_block h3 (hgr.block g (spot_lt h3) (fun e => (hr g e.symm).2 rfl)), h4⟩
theorem KC.own {β : Type} {w : World} {B : Nat} : OwnFrom B (fun (_ : β) W => KC w W) := fun _ W _ row hs hg hr =>
  ⟨Nat.le_trans hs.size hg.size, fun k cs t fr hk => by
    have h1 := hs.same k cs t fr hk
    rw [hg.block k (Array.getElem?_eq_some_iff.1 h1).1 (fun e => by
      obtain ⟨_, o, ho, hc⟩ := hr k e.symm
      rw [h1] at ho
      cases ho
      cases hc)]
    exact h1⟩
theorem KC.grown {w W W' : World} {row : Option Nat} (h : KC w W) (hg : W.grownBy W' row) (hr : ∀ r, row = some r → w.heap.size ≤ r) : KC w W' :=
  ⟨Nat.le_trans h.size hg.size, fun k cs t fr hk => by
    have h1 := h.same k cs t fr hk
    have h2 := (Array.getElem?_eq_some_iff.1 hk).1
    rw [hg.block k (Array.getElem?_eq_some_iff.1 h1).1 (fun e => by have := hr k e.symm; omega)]
    exact h1⟩
theorem TkSt.below {w0 W W' : World} {g : Nat} {l : List Rg} (h : TkSt w0 W g l) (hb : Below W.heap.size W W') : TkSt w0 W' g l := by
  obtain ⟨h1, M, n, h2, h3, h4⟩ := h
  exact ⟨below_step h1 hb, M, n, h2, spot_kept h3 hb, h4⟩
/-- What a region that is taken leaves. -/
structure TkRes (w0 W w' : World) (g : Nat) (l : List Rg) (r : Rg) (b : Bool) : Prop where
  is : b = freeK l r
  low : Below w0.heap.size w0 w'
  grown : W.grownBy w' (some g)
  kc : KC W w'
  st : b = true → TkSt w0 w' g (l ++ [r])
theorem regTake {w0 W : World} {g : Nat} {l : List Rg} (h : TkSt w0 W g l) (hg : w0.heap.size ≤ g) (hl : ∀ s ∈ l, Aln 4 s) (hn : l.length ≤ 300) (r : Rg) (hr : RgT r) :
    Calls Try.prog 26 #[.map (some g), .int .i64 1, rgV r, .int .u32 4] W fun e w' => Told e (TkRes w0 W w' g l r) := by
  obtain ⟨h1, M, n, h2, h3, h4, h5⟩ := h
  refine (iTake h3 1 (.inl rfl) r hr.1 hr.2.1 4 (.inr rfl) (by omega)).mono ?_
  rintro e w' ⟨c, rfl, ht⟩
  have hlow : Below w0.heap.size w0 w' := below_grown h1 ht.grown h1.size hg
  have hkc := KC.of_grown ht.grown (spot_map h3)
  cases c
  · obtain ⟨a, a1, a2⟩ := ht.no rfl
    rw [h4] at a2
    exact ⟨false, rfl, (free_no (.inr rfl) hl hr.2.2 a1 a2).symm, hlow, ht.grown, hkc, fun e => by cases e⟩
  · obtain ⟨a1, n2, hn2, a2⟩ := ht.yes rfl
    refine ⟨true, rfl, (free_yes (.inr rfl) hl hr.2.2 (fun a ha => by rw [← h4]; exact a1 a ha)).symm, hlow, ht.grown, hkc, fun _ => ⟨hlow, _, n2, by rw [List.length_append]; show n2 ≤ (l.length + 1) * 300010; omega, a2, fun a => ?_, fun a => ?_⟩⟩
    · rw [used_more, ← h4]
      unfold addR
      simp
    · unfold addR
      rw [h5]
      simp
/-- What takeRegions leaves. -/
structure RegRes (w0 w w' : World) (g : Nat) (i : Im) (b : Bool) : Prop where
  is : b = regsV i
  low : Below w0.heap.size w0 w'
  kc : KC w w'
  st : b = true → TkSt w0 w' g (regL i)
set_option maxRecDepth 100000 in
set_option maxHeartbeats 2000000 in
theorem iTakes {w0 w : World} {i : Im} {b off g : Nat} (hp : PartsAt w0 b off i.pa i.ps) (ho : ImOk i) (hreg : ∀ r ∈ regL i, RgT r) (h8 : i.ps.length ≤ 100) (hg : w0.heap.size ≤ g) (hst : TkSt w0 w g []) (hgw : g < w.heap.size) :
    Calls Try.prog 18 #[.map (some g), .agg i.cells] w fun e w' => Told e (RegRes w0 w w' g i) := by
  have HP : Hid _ := hp
  have HO : Hid _ := ho
  have HG : Hid (w0.heap.size ≤ g) := hg
  have HST : Hid _ := hst
  have HGW : Hid (g < w.heap.size) := hgw
  have HW0 : Hid (w0.heap.size ≤ w.heap.size) := hst.low.size
  have HLR : Hid ((regL i).length ≤ 300) := (by rw [reg_len]; omega : (regL i).length ≤ 300)
  obtain ⟨xs, hxs⟩ := sub_of (Pr := RgT) (regL i) hreg
  have HXS : Hid _ := hxs
  obtain ⟨fi, hfi⟩ := undIm
  have HFI : Hid _ := hfi
  obtain ⟨fr, hfr⟩ := undRg
  have HFR : Hid _ := hfr
  obtain ⟨W0, hW0⟩ : ∃ W0, W0 = (((w.alloc (.cells #[.map (some g)] 54)).alloc (.cells i.cells 28)).alloc (.cells #[.bool false] 4)).alloc (.cells i.cells 28) := ⟨_, rfl⟩
  have A1 : Below w.heap.size w (w.alloc (.cells #[.map (some g)] 54)) := (Below.refl _ _).alloc (Nat.le_refl _) _
  have A2 : Below (w.alloc (.cells #[.map (some g)] 54)).heap.size (w.alloc (.cells #[.map (some g)] 54)) ((w.alloc (.cells #[.map (some g)] 54)).alloc (.cells i.cells 28)) := (Below.refl _ _).alloc (Nat.le_refl _) _
  have A3 : Below ((w.alloc (.cells #[.map (some g)] 54)).alloc (.cells i.cells 28)).heap.size ((w.alloc (.cells #[.map (some g)] 54)).alloc (.cells i.cells 28)) (((w.alloc (.cells #[.map (some g)] 54)).alloc (.cells i.cells 28)).alloc (.cells #[.bool false] 4)) := (Below.refl _ _).alloc (Nat.le_refl _) _
  have A4 : Below (((w.alloc (.cells #[.map (some g)] 54)).alloc (.cells i.cells 28)).alloc (.cells #[.bool false] 4)).heap.size (((w.alloc (.cells #[.map (some g)] 54)).alloc (.cells i.cells 28)).alloc (.cells #[.bool false] 4)) W0 := by rw [hW0]; exact (Below.refl _ _).alloc (Nat.le_refl _) _
  have N0 : W0.heap[w.heap.size]? = some (.cells #[.map (some g)] 54 (0, 0)) := kept_on (kept_on (kept_on (alloc_at _ _) A2) A3) A4
  have n1 := alloc_at (w.alloc (.cells #[.map (some g)] 54)) (.cells i.cells 28)
  rw [World.size_alloc] at n1
  have RI : Hid ((((w.alloc (.cells #[.map (some g)] 54)).alloc (.cells i.cells 28)).alloc (.cells #[.bool false] 4)).rangeAt (w.heap.size + 1) 0 i.cells.toList) := im_rng (kept_on n1 A3)
  have N2 : W0.heap[w.heap.size + 1 + 1]? = some (.cells #[.bool false] 4 (0, 0)) := by
    have h1 := alloc_at ((w.alloc (.cells #[.map (some g)] 54)).alloc (.cells i.cells 28)) (.cells #[.bool false] 4)
    rw [World.size_alloc, World.size_alloc] at h1
    exact kept_on h1 A4
  have N3 : W0.heap[w.heap.size + 1 + 1 + 1]? = some (.cells i.cells 28) := by
    have h1 := alloc_at (((w.alloc (.cells #[.map (some g)] 54)).alloc (.cells i.cells 28)).alloc (.cells #[.bool false] 4)) (.cells i.cells 28)
    rw [World.size_alloc, World.size_alloc, World.size_alloc, ← hW0] at h1
    exact h1
  have S0 : W0.heap.size = w.heap.size + 4 := by rw [hW0, World.size_alloc, World.size_alloc, World.size_alloc, World.size_alloc]
  have ST0 : Hid (TkSt w0 W0 g []) := (((HST.out.below A1).below A2).below A3).below A4
  have KC0 : Hid (KC w W0) := (((KC.of_below A1).trans (KC.of_below A2)).trans (KC.of_below A3)).trans (KC.of_below A4)
  have HW00 : Hid _ := hW0
  clear hp ho hg hst hgw hxs hfi hfr hreg n1 A1 A2 A3 A4 hW0
  refine (callsIn_wide (n := 9)).1 ?_
  refine callsIn_of_wp_marks Try.func18 rfl trivial ?_ rfl
  simp only [Try.ntmps18, List.size_toArray, List.length_cons, List.length_nil, Nat.reduceAdd, Nat.reduceSub, Array.replicate_succ, Array.replicate_zero, List.push_toArray, List.append_toArray, List.nil_append, List.cons_append]
  gi_wp2_with (first | (refine wpListIn_mids (by rfl) 28 (.tmp 3) rfl (w.heap.size + 1) 0 rfl i.cells _ RI.out HFI.out rfl (by rw [Im.size]; exact infoIm) ?_))
  refine ⟨trivial, ?_⟩
  refine (iRegions Fence.wide 8 trivial rfl i _).mono ?_
  rintro e w' ⟨rfl, rfl⟩
  gi_wp2
  rw [← HW00.out]
  refine wpIn_rangeFunc_ownH (F := Fence.wide) (n := 9) rfl (by omega) (gf := 31) (lb := #[.pointer (some ⟨w.heap.size + 1 + 1 + 1, 0, none⟩)]) rfl trivial (enters_of Try.func31 (by kernel_rfl) rfl)
    (iStops Fence.wide 8 trivial rfl (by omega) (w.heap.size + 1 + 1 + 1) HP.out (by omega) ST0.out.low xs HXS.out N3) (fun h k => h.trans k) (fun W l o o' => kc_obj W l o o') (Below.refl _ _) (fun _ => rfl)
    (fun (pre : List {r : Rg // RgT r}) W => ((Boxed W w.heap.size 54 (.map (some g)) ∧ Boxed W (w.heap.size + 1 + 1) 4 (.bool false)) ∧ (∀ (j : Nat) r, (pre.map (·.1))[j]? = some r → freeK ((pre.map (·.1)).take j) r = true)) ∧ (TkSt w0 W g (pre.map (·.1)) ∧ KC w W))
    (fun c (pre : List {r : Rg // RgT r}) W => ((c = .ret ∧ ∃ (j : Nat) (r : Rg), (pre.map (·.1))[j]? = some r ∧ freeK ((pre.map (·.1)).take j) r = false) ∧ Boxed W (w.heap.size + 1 + 1) 4 (.bool false)) ∧ (Below w0.heap.size w0 W ∧ KC w W))
    (OwnFrom.and (OwnFrom.and (OwnFrom.and (Own.from (boxed_own _ _ _) _) (Own.from (boxed_own _ _ _) _)) (ownFrom_pure _ _)) (OwnFrom.and (TkSt.own _ (by have := HW0.out; omega) (by have := HGW.out; omega)) KC.own))
    (fun c => OwnFrom.and (OwnFrom.and (ownFrom_pure _ (fun (pre : List {r : Rg // RgT r}) => c = .ret ∧ ∃ (j : Nat) (r : Rg), (pre.map (·.1))[j]? = some r ∧ freeK ((pre.map (·.1)).take j) r = false)) (Own.from (boxed_own _ _ _) _)) (OwnFrom.and (ownFrom_below (Nat.le_refl _) (by have := HW0.out; omega)) KC.own))
    ⟨⟨⟨N0, N2⟩, fun j r h => by cases h⟩, ST0.out, KC0.out⟩
    (fun (x : {r : Rg // RgT r}) a' W => ∃ Bx, w.heap.size + 2 < Bx ∧ W.heap[Bx]? = some (.cells #[.int .u32 x.1.lo, .int .u32 x.1.hi, .bool x.1.x, .bool x.1.w] 25) ∧ a' = { tmps := #[.map (some g), .agg i.cells, .pointer (some ⟨w.heap.size, 0, none⟩), .pointer (some ⟨w.heap.size + 1, 0, none⟩), .pointer (some ⟨w.heap.size + 1 + 1, 0, none⟩), .pointer (some ⟨Bx, 0, none⟩), .agg i.cells, .func (.func 31) #[] #[.pointer (some ⟨w.heap.size + 1 + 1 + 1, 0, none⟩)], rgV x.1, undef, undef, undef, undef], defers := [] })
    (fun x a' _ X Y row hs hg hr => by
      obtain ⟨Bx, h1, h2, h3⟩ := hs
      refine ⟨Bx, h1, ?_, h3⟩
      rw [hg.block Bx (Array.getElem?_eq_some_iff.1 h2).1 (fun e => by
        obtain ⟨_, o, ho, hc⟩ := hr Bx e.symm
        rw [h2] at ho
        cases ho
        cases hc)]
      exact h2) ?assign ?body ?done ?stop
  case assign =>
    rintro l pre x W K ⟨⟨⟨b1, b2⟩, hpre⟩, hT, hC⟩ hK
    have HH : Hid _ := And.intro b1 (And.intro b2 (And.intro hpre (And.intro hT (And.intro hC hK))))
    clear b1 b2 hpre hT hC hK
    gi_wp2_with (first | (refine wpListIn_fill rfl 25 (.tmp 5) (.tmp 8) rfl rfl #[.int .u32 x.1.lo, .int .u32 x.1.hi, .bool x.1.x, .bool x.1.w] rfl 25 _ infoRg rfl (rg_one x.1) ?_))
    intro V2 R2 d2
    obtain ⟨b1, b2, hpre, hT, hC, hK⟩ := HH.out
    have R2h : Hid _ := R2
    have D2 : Hid _ := d2
    clear R2 d2
    gi_wp2
    exact hK _ _ (KeepsFrom.of_grownBy (row := none) (grown_below D2.out) (fun j e => by cases e)) (KC.of_below D2.out) ⟨⟨⟨kept_on b1 D2.out, kept_on b2 D2.out⟩, hpre⟩, hT.below D2.out, hC.trans (KC.of_below D2.out)⟩ ⟨W.heap.size, by have := b2.lt; omega, R2h.out, rfl⟩
  case body =>
    rintro l pre x a' W hl hrec ⟨⟨⟨b1, b2⟩, hpre⟩, hT, hC⟩ ⟨Bx, hBx, bX, rfl⟩ hlt
    have c0 := b1.cell
    have RB : Hid (W.rangeAt Bx 0 [.int .u32 x.1.lo, .int .u32 x.1.hi, .bool x.1.x, .bool x.1.w]) := range_of bX (fun j v hv => by
      rw [Nat.zero_add, ← Array.getElem?_toList]
      exact hv)
    have hln : (pre.map (·.1)).length ≤ 300 := by
      have h1 := HLR.out
      rw [← HXS.out, List.length_map] at h1
      rw [List.length_map]
      omega
    have CT : Hid _ := regTake hT HG.out (fun y hy => by
      obtain ⟨z, _, rfl⟩ := List.mem_map.1 hy
      exact z.2.2.2) hln x.1 x.2
    have HH : Hid _ := And.intro b1 (And.intro b2 (And.intro hpre hC))
    have HGB : Hid (g < W0.heap.size) := (by have := HGW.out; omega : g < W0.heap.size)
    have mp : (pre ++ [x]).map (·.1) = pre.map (·.1) ++ [x.1] := by rw [List.map_append]; rfl
    have HMP : Hid _ := mp
    clear b1 b2 hpre hT hC bX hl hrec hlt S0 N0 N2 N3 hln mp
    gi_wp2_with (first | (refine wpListIn_mids (by rfl) 25 (.tmp 5) rfl Bx 0 rfl #[.int .u32 x.1.lo, .int .u32 x.1.hi, .bool x.1.x, .bool x.1.w] _ RB.out HFR.out rfl infoRg ?_))
    refine ⟨trivial, ?_⟩
    refine (CallsIn.inRound l (callsIn_wide.2 CT.out)).mono ?_
    rintro e W1 ⟨c, rfl, hr⟩
    have HR : Hid _ := hr
    have b1' : Hid _ := hr.kc.same _ _ _ _ HH.out.1
    have b2' : Hid (Boxed W1 (w.heap.size + 1 + 1) 4 (.bool false)) := hr.kc.same _ _ _ _ HH.out.2.1
    have cR := b2'.out.cell
    have fR := b2'.out.frozen
    have KF : Hid (KeepsFrom W0.heap.size W W1) := KeepsFrom.of_grownBy hr.grown (fun j e => by cases e; exact HGB.out)
    have HC1 : Hid (KC w W1) := HH.out.2.2.2.trans hr.kc
    clear hr
    cases c
    · have HBAD : Hid (∃ (j : Nat) (r : Rg), ((pre ++ [x]).map (·.1))[j]? = some r ∧ freeK (((pre ++ [x]).map (·.1)).take j) r = false) := by
        refine ⟨(pre.map (·.1)).length, x.1, ?_, ?_⟩
        · rw [HMP.out, List.getElem?_append_right (Nat.le_refl _), Nat.sub_self]
          rfl
        · rw [HMP.out, List.take_left]
          exact HR.out.is.symm
      have HLOW : Hid (Below w0.heap.size w0 (W1.setCell ⟨w.heap.size + 1 + 1, 0, none⟩ (.bool false))) := HR.out.low.setCell (p := ⟨w.heap.size + 1 + 1, 0, none⟩) (by have := HW0.out; show w0.heap.size ≤ w.heap.size + 1 + 1; omega) _
      gi_wp2
      exact ⟨KF.out.trans ((KeepsOthers.setCell _ _ _).from _), ⟨⟨rfl, HBAD.out⟩, Boxed.set _ b2'.out⟩, HLOW.out, HC1.out.grown (grownBy_setCell' W1 (w.heap.size + 1 + 1) (.bool false)) (fun r e => by cases e; omega)⟩
    · have HALL : Hid (∀ (j : Nat) r, ((pre ++ [x]).map (·.1))[j]? = some r → freeK (((pre ++ [x]).map (·.1)).take j) r = true) := fun j r hj => by
        rw [HMP.out] at hj ⊢
        rcases Nat.lt_trichotomy j (pre.map (·.1)).length with h | h | h
        · rw [List.getElem?_append_left h] at hj
          rw [List.take_append_of_le_length (by omega)]
          exact HH.out.2.2.1 j r hj
        · subst h
          rw [List.getElem?_append_right (Nat.le_refl _), Nat.sub_self] at hj
          cases hj
          rw [List.take_left]
          exact HR.out.is.symm
        · rw [List.getElem?_eq_none (by rw [List.length_append]; show (pre.map (·.1)).length + 1 ≤ j; omega)] at hj
          cases hj
      have HT2 : Hid (TkSt w0 W1 g ((pre ++ [x]).map (·.1))) := by
        show TkSt w0 W1 g ((pre ++ [x]).map (·.1))
        rw [HMP.out]
        exact HR.out.st rfl
      gi_wp2
      exact ⟨KF.out, HR.out.kc, ⟨⟨b1'.out, b2'.out⟩, HALL.out⟩, HT2.out, HC1.out⟩
  case done =>
    rintro D ys W hD hys ⟨⟨⟨b1, b2⟩, hpre⟩, hT, hC⟩ hK
    rw [hys, HXS.out] at hpre hT
    have HV : Hid (true = regsV i) := (idx_yes (fun j r hj => hpre j r hj)).symm
    have cR := b2.cell
    have fR := b2.frozen
    have HT : Hid _ := hT
    have HC : Hid _ := hC
    have HK : Hid _ := hK
    have HD : Hid (w.heap.size ≤ D) := (by omega : w.heap.size ≤ D)
    clear b1 b2 hpre hT hC hK hys hD S0 N0 N2 N3
    gi_wp2
    have hK' := (KeepsOthers.setCell W ⟨w.heap.size + 1 + 1, 0, none⟩ (.bool true)).same D _ HK.out rfl
    refine ⟨by simp, .inl ⟨_, _, rfl, run_takeDeferred hK', ?_⟩⟩
    have hc5 := cell_kept (World.cell?_setCell_same' W ⟨w.heap.size + 1 + 1, 0, none⟩ (.bool true) (by rw [cR]; rfl)) (grownBy_putObj' _ D (.deferred none)) (fun r e => by cases e; exact ⟨_, hK', rfl⟩)
    have hw := HW0.out
    have hgw := HGW.out
    have hd := HD.out
    have HT3 := (HT.out.grown (grownBy_setCell' W (w.heap.size + 1 + 1) (.bool true)) (fun r e => by cases e; omega)).grown (grownBy_putObj' _ D (.deferred none)) (fun r e => by cases e; omega)
    have HC3 := (HC.out.grown (grownBy_setCell' W (w.heap.size + 1 + 1) (.bool true)) (fun r e => by cases e; omega)).grown (grownBy_putObj' _ D (.deferred none)) (fun r e => by cases e; omega)
    refine ⟨.bool true, ?_, ⟨true, rfl, HV.out, HT3.low, HC3, fun _ => HT3⟩⟩
    simp [results, Try.f18, go_sem, hc5]
  case stop =>
    rintro D c pre W hD hpr ⟨⟨⟨rfl, j, r, hj, hbad⟩, b2⟩, hB1, hC⟩ hK
    have hv : false = regsV i := by
      obtain ⟨rest, he⟩ := hpr
      have hm : regL i = pre.map (·.1) ++ rest.map (·.1) := by rw [← HXS.out, ← he, List.map_append]
      have hjl := (List.getElem?_eq_some_iff.1 hj).1
      refine (idx_not (k := j) (x := r) ?_ ?_).symm
      · rw [hm, List.getElem?_append_left hjl]
        exact hj
      · rw [hm, List.take_append_of_le_length (by omega)]
        exact hbad
    have HV : Hid _ := hv
    have cR := b2.cell
    have hd : w0.heap.size ≤ D := by have := HW0.out; omega
    clear hv
    gi_wp2
    refine ⟨by simp, .inl ⟨_, _, rfl, run_takeDeferred hK, ?_⟩⟩
    have hc5 := cell_kept cR (grownBy_putObj' _ D (.deferred none)) (fun r e => by cases e; exact ⟨_, hK, rfl⟩)
    refine ⟨.bool false, ?_, ⟨false, rfl, HV.out, hB1.trans (belowK_b (w := w0) (Nat.le_refl _) W D _ _ hd hK rfl rfl), hC.grown (grownBy_putObj' _ D (.deferred none)) (fun r e => by cases e; omega), fun e => by cases e⟩⟩
    simp [results, Try.f18, go_sem, hc5]
end Go.Proofs.Ytfjppgfnjjmkpaa
