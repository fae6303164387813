/-
  Package image: regions, regionsStand.
-/
import Derived.Test.YtfjppgfnjjmkpaaImj
namespace Go.Proofs.Ytfjppgfnjjmkpaa
open Go.RowKit Go.Shelf
attribute [local go_sem] Oper.semAt_some

theorem iRegions (F : Fence) (n : Nat) (hF : F.fn 25) (hro : F.round = none) (i : Im) (w : World) :
    CallsIn F n Try.prog 25 #[.agg i.cells] w fun e w' => e = .returned (.func (.func 31) #[] #[.pointer (some ⟨w.heap.size, 0, none⟩)]) ∧ w' = w.alloc (.cells i.cells 28) := by
  generalize i.cells = cs
  refine callsIn_of_wp Try.func25 rfl hF ?_ hro
  simp only [Try.ntmps25, List.size_toArray, List.length_cons, List.length_nil, Nat.reduceAdd, Nat.reduceSub, Array.replicate_succ, Array.replicate_zero, List.push_toArray, List.append_toArray, List.nil_append, List.cons_append]
  gi_wp2
  go_ret
  exact ⟨rfl, rfl⟩
theorem sub_of {Pr : Rg → Prop} : ∀ l : List Rg, (∀ r ∈ l, Pr r) → ∃ xs : List {r : Rg // Pr r}, xs.map (·.1) = l
  | [], _ => ⟨[], rfl⟩
  | r :: l, h => by
    obtain ⟨xs, hx⟩ := sub_of l (fun s hs => h s (List.mem_cons_of_mem _ hs))
    exact ⟨⟨r, h r (List.mem_cons_self ..)⟩ :: xs, by rw [List.map_cons, hx]⟩
theorem reg_all {i : Im} (h : ImOk i) : ∀ r ∈ regL i, RgU r := by
  intro r hr
  rcases List.mem_cons.1 hr with rfl | hr
  · exact h.kern
  rcases List.mem_cons.1 hr with rfl | hr
  · exact h.keys
  obtain ⟨p, hp, hr⟩ := List.mem_flatMap.1 hr
  rcases List.mem_cons.1 hr with rfl | hr
  · exact (h.ps p hp).code
  rcases List.mem_cons.1 hr with rfl | hr
  · exact (h.ps p hp).data
  · cases hr
def standB (n : Nat) (r : Rg) : Bool := (r.lo % 4 == 0) && (r.hi % 4 == 0) && decide (r.lo ≤ r.hi) && decide (r.hi ≤ 4 * (n : Int))
def standsV (i : Im) : Bool := (regL i).all (standB i.wl)
/-- The iterator keeps its word. -/
theorem iStops {Pr : Rg → Prop} (F : Fence) (n : Nat) (hF : F.fn 31) (hro : F.round = none) (hn : 1 ≤ n) (Bn : Nat) {i : Im} {b off : Nat} {w0 w : World} (hp : PartsAt w0 b off i.pa i.ps) (hps : i.ps.length ≤ 1000) (hb : Below w0.heap.size w0 w) (xs : List {r : Rg // Pr r}) (hx : xs.map (·.1) = regL i) (hbox : w.heap[Bn]? = some (.cells i.cells 28)) :
    SeqStopsK F n Try.prog 31 #[.pointer (some ⟨Bn, 0, none⟩)] (fun x : {r : Rg // Pr r} => #[rgV x.1]) KC (fun ys => ys = xs) (fun pre => pre <+: xs) xs.length w := fun l J Jx W hW hJ _ hY h0 =>
  iReg1 F n hF hro hn l Bn i b off xs hx hps J Jx W hJ hY (kept_on hbox hW) (fun h => (hp.at' h).1) (fun k p hk => (KC.of_below hW).range ((KC.of_below hb).range (hp.row k p hk))) h0
theorem im_rng {V : World} {g : Nat} {i : Im} (h : V.heap[g]? = some (.cells i.cells 28)) : V.rangeAt g 0 i.cells.toList := range_of h (fun j v hv => by
  rw [Nat.zero_add, ← Array.getElem?_toList]
  exact hv)
set_option maxRecDepth 100000 in
set_option maxHeartbeats 2000000 in
theorem iStands {w : World} {i : Im} {b off : Nat} (hp : PartsAt w b off i.pa i.ps) (ho : ImOk i) (hw : i.wl ≤ 65536) :
    Calls Try.prog 17 #[.agg i.cells] w fun e w' => e = .returned (.bool (standsV i)) ∧ Below w.heap.size w w' := by
  have HP : Hid _ := hp
  have HO : Hid _ := ho
  obtain ⟨xs, hxs⟩ := sub_of (Pr := RgU) (regL i) (reg_all ho)
  have HXS : Hid _ := hxs
  obtain ⟨fi, hfi⟩ := undIm
  have HFI : Hid _ := hfi
  obtain ⟨fr, hfr⟩ := undRg
  have HFR : Hid _ := hfr
  obtain ⟨RV, hRV⟩ : ∃ RV, RV = standsV i := ⟨_, rfl⟩
  have HRV : Hid (RV = standsV i) := hRV
  rw [← hRV]
  obtain ⟨WA, hWA⟩ : ∃ WA, WA = (w.alloc (.cells i.cells 28)).alloc (.cells #[.bool false] 4) := ⟨_, rfl⟩
  have A1 : Below w.heap.size w (w.alloc (.cells i.cells 28)) := (Below.refl _ _).alloc (Nat.le_refl _) _
  have A2 : Below (w.alloc (.cells i.cells 28)).heap.size (w.alloc (.cells i.cells 28)) WA := by rw [hWA]; exact (Below.refl _ _).alloc (Nat.le_refl _) _
  have BA : Hid (Below w.heap.size w WA) := below_step A1 A2
  have NA : Hid (WA.heap[w.heap.size]? = some (.cells i.cells 28)) := kept_on (alloc_at _ _) A2
  have SA : Hid (WA.heap.size = w.heap.size + 2) := by
    show WA.heap.size = _
    rw [hWA, World.size_alloc, World.size_alloc]
  have HWA : Hid (WA = _) := hWA
  have c0 : ((w.alloc (.cells i.cells 28)).alloc (.cells #[.bool false] 4)).cell? ⟨w.heap.size, 0, none⟩ = some (.slice i.wa i.wl i.wc) := by
    rw [← hWA]
    exact (cells_of NA.out).1 0 _ rfl
  clear hp ho hxs hfi hfr hRV A1 A2 hWA
  refine (callsIn_wide (n := 9)).1 ?_
  refine callsIn_of_wp_marks Try.func17 rfl trivial ?_ rfl
  simp only [Try.ntmps17, List.size_toArray, List.length_cons, List.length_nil, Nat.reduceAdd, Nat.reduceSub, Array.replicate_succ, Array.replicate_zero, List.push_toArray, List.append_toArray, List.nil_append, List.cons_append]
  have RI : Hid (((WA.alloc (.cells #[.int .u32 (4 * (i.wl : Int))] 23))).rangeAt w.heap.size 0 i.cells.toList) := im_rng (kept_on NA.out ((Below.refl _ _).alloc (Nat.le_refl _) _))
  have RIx := RI
  rw [HWA.out] at RIx
  gi_wp2_with (first | (refine wpListIn_mids (by rfl) 28 (.tmp 1) rfl w.heap.size 0 rfl i.cells _ RIx.out HFI.out rfl (by rw [Im.size]; exact infoIm) ?_))
  refine ⟨trivial, ?_⟩
  refine (iRegions Fence.wide 8 trivial rfl i _).mono ?_
  rintro e w' ⟨rfl, rfl⟩
  gi_wp2
  obtain ⟨s, hs⟩ : ∃ s, s = w.heap.size := ⟨_, rfl⟩
  obtain ⟨E, hE⟩ : ∃ E : Int, E = 4 * (i.wl : Int) := ⟨_, rfl⟩
  obtain ⟨W0, hW0⟩ : ∃ W0, W0 = (WA.alloc (.cells #[.int .u32 (4 * (i.wl : Int))] 23)).alloc (.cells i.cells 28) := ⟨_, rfl⟩
  have S1 : (WA.alloc (.cells #[.int .u32 (4 * (i.wl : Int))] 23)).heap.size = s + 3 := by rw [World.size_alloc, SA.out, hs]
  have S0 : W0.heap.size = s + 4 := by rw [hW0, World.size_alloc, S1]
  have A3 : Below WA.heap.size WA (WA.alloc (.cells #[.int .u32 (4 * (i.wl : Int))] 23)) := (Below.refl _ _).alloc (Nat.le_refl _) _
  have A4 : Below (WA.alloc (.cells #[.int .u32 (4 * (i.wl : Int))] 23)).heap.size (WA.alloc (.cells #[.int .u32 (4 * (i.wl : Int))] 23)) W0 := by rw [hW0]; exact (Below.refl _ _).alloc (Nat.le_refl _) _
  have B0 : Below s w W0 := by rw [hs]; exact below_step (below_step BA.out A3) A4
  have N1 : W0.heap[s + 1]? = some (.cells #[.bool false] 4 (0, 0)) := by
    have h1 := alloc_at (w.alloc (.cells i.cells 28)) (.cells #[.bool false] 4)
    rw [World.size_alloc, ← HWA.out, ← hs] at h1
    exact kept_on (kept_on h1 A3) A4
  have N2 : W0.heap[s + 2]? = some (.cells #[.int .u32 E] 23 (0, 0)) := by
    have h1 := alloc_at WA (.cells #[.int .u32 (4 * (i.wl : Int))] 23)
    rw [SA.out, ← hs, ← hE] at h1
    rw [← hE] at A4
    exact kept_on h1 A4
  have N3 : W0.heap[s + 1 + 1 + 1]? = some (.cells i.cells 28) := by
    have h1 := alloc_at (WA.alloc (.cells #[.int .u32 (4 * (i.wl : Int))] 23)) (.cells i.cells 28)
    rw [S1, ← hW0] at h1
    exact h1
  have hWW : W0 = (((w.alloc (.cells i.cells 28)).alloc (.cells #[.bool false] 4)).alloc (.cells #[.int .u32 (4 * (i.wl : Int))] 23)).alloc (.cells i.cells 28) := by rw [hW0, HWA.out]
  rw [← hWW]
  have HB : Hid (Below w.heap.size w W0) := by
    show Below w.heap.size w W0
    rw [← hs]
    exact B0
  have hsz : ((((w.alloc (.cells i.cells 28)).alloc (.cells #[.bool false] 4)).alloc (.cells #[.int .u32 (4 * (i.wl : Int))] 23))).heap.size = s + 1 + 1 + 1 := by rw [World.size_alloc, World.size_alloc, World.size_alloc, hs]
  have few : i.ps.length ≤ 1000 := HO.out.few
  clear c0 RI RIx hW0 A3 A4 hWW NA SA HWA BA S1
  subst hs hE
  refine wpIn_rangeFunc_ownH (F := Fence.wide) (n := 9) rfl (by omega) (gf := 31) (lb := #[.pointer (some ⟨w.heap.size + 1 + 1 + 1, 0, none⟩)]) rfl trivial (enters_of Try.func31 (by kernel_rfl) rfl)
    (iStops Fence.wide 8 trivial rfl (by omega) (w.heap.size + 1 + 1 + 1) HP.out few HB.out xs HXS.out N3) (fun h k => h.trans k) (fun W l o o' => kc_obj W l o o') (Below.refl _ _) (fun _ => rfl)
    (fun (pre : List {r : Rg // RgU r}) W => ((Boxed W (w.heap.size + 1) 4 (.bool false) ∧ Boxed W (w.heap.size + 2) 23 (.int .u32 (4 * (i.wl : Int)))) ∧ (∀ y ∈ pre, standB i.wl y.1 = true)) ∧ Below w.heap.size w W)
    (fun c (pre : List {r : Rg // RgU r}) W => ((c = .ret ∧ ∃ y ∈ pre, standB i.wl y.1 = false) ∧ Boxed W (w.heap.size + 1) 4 (.bool false)) ∧ Below w.heap.size w W)
    (OwnFrom.and (OwnFrom.and (OwnFrom.and (Own.from (boxed_own _ _ _) _) (Own.from (boxed_own _ _ _) _)) (ownFrom_pure _ _)) (ownFrom_below (by omega) (by omega)))
    (fun c => OwnFrom.and (OwnFrom.and (ownFrom_pure _ (fun (pre : List {r : Rg // RgU r}) => c = .ret ∧ ∃ y ∈ pre, standB i.wl y.1 = false)) (Own.from (boxed_own _ _ _) _)) (ownFrom_below (by omega) (by omega)))
    ⟨⟨⟨N1, N2⟩, fun y hy => by cases hy⟩, HB.out⟩
    (fun (x : {r : Rg // RgU r}) a' W => ∃ Bx, w.heap.size + 2 < Bx ∧ W.heap[Bx]? = some (.cells #[.int .u32 x.1.lo, .int .u32 x.1.hi, .bool x.1.x, .bool x.1.w] 25) ∧ a' = { tmps := #[.agg i.cells, .pointer (some ⟨w.heap.size, 0, none⟩), .pointer (some ⟨w.heap.size + 1, 0, none⟩), .pointer (some ⟨w.heap.size + 1 + 1, 0, none⟩), .pointer (some ⟨Bx, 0, none⟩), .pointer (some ⟨w.heap.size, 0, none⟩), .slice i.wa i.wl i.wc, .int .i64 i.wl, .int .i64 (4 * (i.wl : Int)), .int .u32 (4 * (i.wl : Int)), .agg i.cells, .func (.func 31) #[] #[.pointer (some ⟨w.heap.size + 1 + 1 + 1, 0, none⟩)], rgV x.1, undef, undef, undef, undef, undef, undef, undef, undef, undef, undef, undef, undef, undef, undef, undef, undef, undef, undef, undef, undef, undef, undef, undef], defers := [] })
    (fun x a' _ X Y row hs hg hr => by
      obtain ⟨Bx, h1, h2, h3⟩ := hs
      refine ⟨Bx, h1, ?_, h3⟩
      rw [hg.block Bx (Array.getElem?_eq_some_iff.1 h2).1 (fun e => by
        obtain ⟨_, o, ho, hc⟩ := hr Bx e.symm
        rw [h2] at ho
        cases ho
        cases hc)]
      exact h2) ?assign ?body ?done ?stop
  case assign =>
    rintro l pre x W K ⟨⟨⟨b1, b2⟩, hpre⟩, hB1⟩ hK
    have HH : Hid _ := And.intro b1 (And.intro b2 (And.intro hpre (And.intro hB1 hK)))
    clear b1 b2 hpre hB1 hK
    gi_wp2_with (first | (refine wpListIn_fill rfl 25 (.tmp 4) (.tmp 12) rfl rfl #[.int .u32 x.1.lo, .int .u32 x.1.hi, .bool x.1.x, .bool x.1.w] rfl 25 _ infoRg rfl (rg_one x.1) ?_))
    intro V2 R2 d2
    obtain ⟨b1, b2, hpre, hB1, hK⟩ := HH.out
    have R2h : Hid _ := R2
    have D2 : Hid _ := d2
    clear R2 d2
    gi_wp2
    exact hK _ _ (KeepsFrom.of_grownBy (row := none) (grown_below D2.out) (fun j e => by cases e)) (KC.of_below D2.out) ⟨⟨⟨kept_on b1 D2.out, kept_on b2 D2.out⟩, hpre⟩, hB1.trans (D2.out.mono hB1.size)⟩ ⟨W.heap.size, by have := b2.lt; omega, R2h.out, rfl⟩
  case body =>
    rintro l pre x a' W hl hrec ⟨⟨⟨b1, b2⟩, hpre⟩, hB1⟩ ⟨Bx, hBx, bX, rfl⟩ hlt
    obtain ⟨⟨lo, hi, rx, rw'⟩, ⟨hl0, hl1⟩, hh0, hh1⟩ := x
    simp only at hl0 hl1 hh0 hh1 bX
    have cE := b2.cell
    have cl : W.cell? ⟨Bx, 0, none⟩ = some (.int .u32 lo) := (cells_of bX).1 0 _ rfl
    have ch : W.cell? ⟨Bx, 1, none⟩ = some (.int .u32 hi) := (cells_of bX).1 1 _ rfl
    have cR := b1.cell
    have fR := b1.frozen
    have HH : Hid _ := And.intro b1 (And.intro b2 (And.intro hpre hB1))
    have tl : lo.tmod 4 = lo % 4 := Int.tmod_eq_emod_of_nonneg hl0
    have th : hi.tmod 4 = hi % 4 := Int.tmod_eq_emod_of_nonneg hh0
    clear b1 b2 hpre hB1 bX hl hrec hlt S0 N1 N2 N3 hsz B0
    by_cases t1 : lo % 4 = 0
    · by_cases t2 : hi % 4 = 0
      · by_cases t3 : lo ≤ hi
        · by_cases t4 : hi ≤ 4 * (i.wl : Int)
          · have hyes : standB i.wl ⟨lo, hi, rx, rw'⟩ = true := by
              unfold standB
              simp only [t1, t2, decide_eq_true t3, decide_eq_true t4]
              rfl
            have HYES : Hid _ := hyes
            clear hyes
            gi_wp2
            exact ⟨KeepsFrom.refl _ _, KC.refl _, ⟨⟨HH.out.1, HH.out.2.1⟩, fun y hy => by
              rcases List.mem_append.1 hy with h | h
              · exact HH.out.2.2.1 y h
              · simp only [List.mem_cons, List.not_mem_nil, or_false] at h
                subst h
                exact HYES.out⟩, HH.out.2.2.2⟩
          · have hno : Hid (standB i.wl ⟨lo, hi, rx, rw'⟩ = false) := by
              show standB i.wl ⟨lo, hi, rx, rw'⟩ = false
              unfold standB
              simp only [decide_eq_false t4, Bool.and_false]
            gi_wp2
            first | exact ⟨(KeepsOthers.setCell _ _ _).from _, ⟨⟨rfl, _, List.mem_append.2 (.inr (List.mem_cons_self ..)), hno.out⟩, Boxed.set _ HH.out.1⟩, HH.out.2.2.2.setCell (p := ⟨w.heap.size + 1, 0, none⟩) (by simp) _⟩ | exact ⟨(KeepsOthers.setCell _ _ _).from _, ⟨⟨rfl, _, ⟨⟨⟨hl0, hl1⟩, hh0, hh1⟩, List.mem_append.2 (.inr (List.mem_cons_self ..))⟩, hno.out⟩, Boxed.set _ HH.out.1⟩, HH.out.2.2.2.setCell (p := ⟨w.heap.size + 1, 0, none⟩) (by simp) _⟩
        · have hno : Hid (standB i.wl ⟨lo, hi, rx, rw'⟩ = false) := by
            show standB i.wl ⟨lo, hi, rx, rw'⟩ = false
            unfold standB
            simp only [decide_eq_false t3, Bool.and_false, Bool.false_and]
          gi_wp2
          first | exact ⟨(KeepsOthers.setCell _ _ _).from _, ⟨⟨rfl, _, List.mem_append.2 (.inr (List.mem_cons_self ..)), hno.out⟩, Boxed.set _ HH.out.1⟩, HH.out.2.2.2.setCell (p := ⟨w.heap.size + 1, 0, none⟩) (by simp) _⟩ | exact ⟨(KeepsOthers.setCell _ _ _).from _, ⟨⟨rfl, _, ⟨⟨⟨hl0, hl1⟩, hh0, hh1⟩, List.mem_append.2 (.inr (List.mem_cons_self ..))⟩, hno.out⟩, Boxed.set _ HH.out.1⟩, HH.out.2.2.2.setCell (p := ⟨w.heap.size + 1, 0, none⟩) (by simp) _⟩
      · have hb2 : (hi % 4 == 0) = false := by simp [t2]
        have hb3 : (hi % 4 != 0) = true := by simp [t2]
        have hno : Hid (standB i.wl ⟨lo, hi, rx, rw'⟩ = false) := by
          show standB i.wl ⟨lo, hi, rx, rw'⟩ = false
          unfold standB
          simp only [hb2, Bool.and_false, Bool.false_and]
        gi_wp2
        first | exact ⟨(KeepsOthers.setCell _ _ _).from _, ⟨⟨rfl, _, List.mem_append.2 (.inr (List.mem_cons_self ..)), hno.out⟩, Boxed.set _ HH.out.1⟩, HH.out.2.2.2.setCell (p := ⟨w.heap.size + 1, 0, none⟩) (by simp) _⟩ | exact ⟨(KeepsOthers.setCell _ _ _).from _, ⟨⟨rfl, _, ⟨⟨⟨hl0, hl1⟩, hh0, hh1⟩, List.mem_append.2 (.inr (List.mem_cons_self ..))⟩, hno.out⟩, Boxed.set _ HH.out.1⟩, HH.out.2.2.2.setCell (p := ⟨w.heap.size + 1, 0, none⟩) (by simp) _⟩
    · have hb2 : (lo % 4 == 0) = false := by simp [t1]
      have hb3 : (lo % 4 != 0) = true := by simp [t1]
      have hno : Hid (standB i.wl ⟨lo, hi, rx, rw'⟩ = false) := by
        show standB i.wl ⟨lo, hi, rx, rw'⟩ = false
        unfold standB
        simp only [hb2, Bool.false_and]
      gi_wp2
      first | exact ⟨(KeepsOthers.setCell _ _ _).from _, ⟨⟨rfl, _, List.mem_append.2 (.inr (List.mem_cons_self ..)), hno.out⟩, Boxed.set _ HH.out.1⟩, HH.out.2.2.2.setCell (p := ⟨w.heap.size + 1, 0, none⟩) (by simp) _⟩ | exact ⟨(KeepsOthers.setCell _ _ _).from _, ⟨⟨rfl, _, ⟨⟨⟨hl0, hl1⟩, hh0, hh1⟩, List.mem_append.2 (.inr (List.mem_cons_self ..))⟩, hno.out⟩, Boxed.set _ HH.out.1⟩, HH.out.2.2.2.setCell (p := ⟨w.heap.size + 1, 0, none⟩) (by simp) _⟩
  case done =>
    rintro D ys W hD hys ⟨⟨⟨b1, b2⟩, hpre⟩, hB1⟩ hK
    have hv : RV = true := by
      rw [HRV.out]
      unfold standsV
      rw [← HXS.out, List.all_map, List.all_eq_true]
      rw [hys] at hpre
      exact hpre
    have cR := b1.cell
    have fR := b1.frozen
    have HB1 : Hid _ := hB1
    have HK : Hid _ := hK
    have HD : Hid (w.heap.size ≤ D) := (by omega : w.heap.size ≤ D)
    clear HRV b1 b2 hpre hB1 hK hys hD S0 N1 N2 N3 hsz B0
    subst hv
    gi_wp2
    have hK' := (KeepsOthers.setCell W ⟨w.heap.size + 1, 0, none⟩ (.bool true)).same D _ HK.out rfl
    refine ⟨by simp, .inl ⟨_, _, rfl, run_takeDeferred hK', ?_⟩⟩
    have hc5 := cell_kept (World.cell?_setCell_same' W ⟨w.heap.size + 1, 0, none⟩ (.bool true) (by rw [cR]; rfl)) (grownBy_putObj' _ D (.deferred none)) (fun r e => by cases e; exact ⟨_, hK', rfl⟩)
    refine ⟨.bool true, ?_, rfl, (HB1.out.setCell (p := ⟨w.heap.size + 1, 0, none⟩) (by simp) _).trans (belowK_b (w := w) (Nat.le_refl _) _ D _ _ HD.out hK' rfl rfl)⟩
    simp [results, Try.f17, go_sem, hc5]
  case stop =>
    rintro D c pre W hD hpr ⟨⟨⟨rfl, y, hy, hbad⟩, b1⟩, hB1⟩ hK
    have hv : RV = false := by
      rw [HRV.out]
      unfold standsV
      rw [← HXS.out, List.all_map, List.all_eq_false]
      exact ⟨y, hpr.subset hy, by simp [hbad]⟩
    have cR := b1.cell
    have HD : Hid (w.heap.size ≤ D) := (by omega : w.heap.size ≤ D)
    clear HRV
    subst hv
    gi_wp2
    refine ⟨by simp, .inl ⟨_, _, rfl, run_takeDeferred hK, ?_⟩⟩
    have hc5 := cell_kept cR (grownBy_putObj' _ D (.deferred none)) (fun r e => by cases e; exact ⟨_, hK, rfl⟩)
    refine ⟨.bool false, ?_, rfl, hB1.trans (belowK_b (w := w) (Nat.le_refl _) W D _ _ HD.out hK rfl rfl)⟩
    simp [results, Try.f17, go_sem, hc5]
end Go.Proofs.Ytfjppgfnjjmkpaa
