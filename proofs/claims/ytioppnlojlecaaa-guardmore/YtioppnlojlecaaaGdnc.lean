/-
  Package guard: the map of a row's regions by their pairs: the contract of the function that makes it.
-/
import Derived.Test.YtioppnlojlecaaaGdna
import Derived.Test.YtioppnlojlecaaaMix
import Derived.Maps.OwnSet
import Derived.DeepKeys4
namespace Go.Proofs.Ytioppnlojlecaaa
open Go.RowKit Go.Maps

theorem gundK : Try.prog.underlying 46 = some (.array 2 24) := by kernel_rfl
theorem gundM : Try.prog.underlying 48 = some (.map 46 40) := by kernel_rfl
theorem glaidB : laidOutB Try.prog = true := by kernel_rfl
theorem growK : (46 : TypeId) < Try.prog.types.size := of_decide_eq_true (by kernel_rfl)
theorem gkeyed : Keyed Try.prog 46 := Keyed.of_law (deep_law_laid glaidB (m := 2) (by omega) growK (by kernel_rfl) (by rw [gundK]))
/-- A pair as the library reads it. -/
def kpV (a b : Int) : Lit := .string (keyBytes [.int .u32 a, .int .u32 b])
theorem gwf_u32 {a : Int} (h : U32 a) : (Lit.int .u32 a).wf = true := by
  obtain ⟨h0, h1⟩ := h
  simp [Lit.wf, IntKind.min, IntKind.max, IntKind.bits, IntKind.signed]
  omega
theorem gkeyType : Try.prog.keyType 46 = true := by kernel_rfl
theorem gsizeT : ∃ n, Try.prog.types.size + 1 = n + 2 := ⟨_, rfl⟩
theorem gcellsK : Try.prog.cellsOf 46 = 2 := by kernel_rfl
theorem gcellsW : Try.prog.cellsOf 24 = 1 := by kernel_rfl
theorem gkey_of {a b : Int} (ha : U32 a) (hb : U32 b) : keyOf Try.prog 46 (pval a b) = some (kpV a b) := by
  unfold pval
  have f : (Value.agg #[.int .u32 a, .int .u32 b]).formed Try.prog 46 = true := by simp [Value.formed, gcellsK]
  obtain ⟨n, hn⟩ := gsizeT
  unfold keyOf
  rw [gundK, gkeyType, f, hn]
  simp [Value.cells, Program.keyLits, gcellsK, gcellsW, gwf_u32 ha, gwf_u32 hb, List.range, List.range.loop, kpV]
theorem kp_inj {a b a' b' : Int} (ha : U32 a) (hb : U32 b) (ha' : U32 a') (hb' : U32 b') (h : kpV a b = kpV a' b') : a = a' ∧ b = b' := by
  have h1 := gkey_of ha hb
  have h2 := gkey_of ha' hb'
  rw [h] at h1
  have := gkeyed.inj h1 h2
  unfold pval at this
  injection this with e
  simp only [Array.mk.injEq, List.cons.injEq, Value.int.injEq, true_and, and_true] at e
  exact e

/-- A region that a map holds, as it is read. -/
def datR (r : Rg) : DataW Unit := .agg [.lit (.int .u32 r.lo), .lit (.int .u32 r.hi), .lit (.bool r.x), .lit (.bool r.w)]
def readR (v : Value) : Option (DataW Unit × List MemPlace) :=
  match v with
  | .agg cs => match cs.toList with
    | [.int .u32 a, .int .u32 b, .bool x, .bool y] => some (datR ⟨a, b, x, y⟩, [])
    | _ => none
  | _ => none
theorem readR_mk (r : Rg) : readR (rval r) = some (datR r, []) := rfl
theorem readR_inv {v : Value} {r : Rg} {ps : List MemPlace} (h : readR v = some (datR r, ps)) : v = rval r := by
  obtain ⟨lo, hi, x, y⟩ := r
  unfold readR at h
  split at h
  · rename_i cs
    split at h
    · rename_i a b x' y' hl
      simp only [Option.some.injEq, Prod.mk.injEq, datR, DataW.agg.injEq, List.cons.injEq, DataW.lit.injEq, Lit.int.injEq, Lit.bool.injEq, true_and, and_true] at h
      obtain ⟨⟨h1, h2, h3, h4⟩, _⟩ := h
      subst h1 h2 h3 h4
      unfold rval
      congr 1
      have := congrArg List.toArray hl
      simpa using this
    · cases h
  · cases h

/-- The map holds, at pairs alone, the region of each; the first k pairs of the row are there. -/
def PairMap (ws : Nat → Int) (k : Nat) (D : DataW Unit) : Prop := ∀ a b, U32 a → U32 b →
  (Maps.has D (kpV a b) = true ∧ ∀ z, D.atKey (kpV a b) z = datR (pairV a b)) ∨
  ((∀ j, j < k → ¬ (ws (2 * j) = a ∧ ws (2 * j + 1) = b)) ∧ Maps.has D (kpV a b) = false)
theorem pm_start (ws : Nat → Int) : PairMap ws 0 (.map []) := fun _ _ _ _ => Or.inr ⟨fun j hj => absurd hj (Nat.not_lt_zero j), rfl⟩
theorem pm_skip {ws : Nat → Int} {k : Nat} {D : DataW Unit} (h : PairMap ws k D) (hk : Maps.has D (kpV (ws (2 * k)) (ws (2 * k + 1))) = true) : PairMap ws (k + 1) D := by
  intro a b ha hb
  rcases h a b ha hb with h1 | ⟨h1, h2⟩
  · exact Or.inl h1
  · refine Or.inr ⟨fun j hj e => ?_, h2⟩
    rcases Nat.lt_succ_iff_lt_or_eq.mp hj with h3 | h3
    · exact h1 j h3 e
    · rw [h3] at e
      rw [e.1, e.2, h2] at hk
      cases hk
theorem pm_put {ws : Nat → Int} {k : Nat} {D : DataW Unit} (hu : ∀ i, U32 (ws i)) (hD : IsMap D) (h : PairMap ws k D) :
    PairMap ws (k + 1) (D.put (kpV (ws (2 * k)) (ws (2 * k + 1))) (datR (pairV (ws (2 * k)) (ws (2 * k + 1))))) := by
  intro a b ha hb
  by_cases e : ws (2 * k) = a ∧ ws (2 * k + 1) = b
  · obtain ⟨rfl, rfl⟩ := e
    have hkl := gkeyed.key (gkey_of ha hb)
    exact Or.inl ⟨has_put_same hD hkl _, fun z => atKey_put_same hD hkl _ z⟩
  · have hne : kpV a b ≠ kpV (ws (2 * k)) (ws (2 * k + 1)) := fun h => e (by
      obtain ⟨h1, h2⟩ := kp_inj ha hb (hu _) (hu _) h
      exact ⟨h1.symm, h2.symm⟩)
    rw [has_put_other hne]
    rcases h a b ha hb with ⟨h1, h2⟩ | ⟨h1, h2⟩
    · exact Or.inl ⟨h1, fun z => by rw [atKey_put_other hne]; exact h2 z⟩
    · refine Or.inr ⟨fun j hj => ?_, h2⟩
      rcases Nat.lt_succ_iff_lt_or_eq.mp hj with h | h
      · exact h1 j h
      · rw [h]; exact e

theorem gzeroRg (w : World) : (zeroValue 40).run Try.prog w = .ok (rval noRg) w := by kernel_rfl
/-- What is looked up at a pair. -/
theorem gfind {ws : Nat → Int} {k : Nat} {D : DataW Unit} {n g : Nat} {w : World} (hm : PairMap ws k D) (hown : w.ownsMap Try.prog 46 readR g n D) {a b : Int} (ha : U32 a) (hb : U32 b) :
    ∃ r ok, (Instr.lookup 48 (.map (some g)) (pval a b) true).run Try.prog w = .ok (.tuple #[rval r, .bool ok]) w ∧ Maps.has D (kpV a b) = ok := by
  obtain ⟨v', ps, hrun, hv⟩ := hown.look_ok gkeyed gundM (gzeroRg w) (readR_mk _) (gkey_of ha hb)
  rcases hm a b ha hb with ⟨h1, h2⟩ | ⟨h1, h2⟩
  · rw [h2] at hv
    exact ⟨pairV a b, true, by rw [hrun, readR_inv hv, h1], h1⟩
  · rw [atKey_of_not_has h2] at hv
    exact ⟨noRg, false, by rw [hrun, readR_inv hv, h2], h2⟩
theorem glook {ws : Nat → Int} {k : Nat} {D : DataW Unit} {n g : Nat} {w : World} (hm : PairMap ws k D) (hown : w.ownsMap Try.prog 46 readR g n D) (hu : ∀ i, U32 (ws i)) {j : Nat} (hj : j < k) :
    (Instr.lookup 48 (.map (some g)) (pval (ws (2 * j)) (ws (2 * j + 1))) false).run Try.prog w = .ok (rval (pairV (ws (2 * j)) (ws (2 * j + 1)))) w := by
  obtain ⟨v', ps, hrun, hv⟩ := hown.lookup gkeyed gundM (gzeroRg w) (readR_mk _) (gkey_of (hu (2 * j)) (hu (2 * j + 1)))
  rcases hm _ _ (hu (2 * j)) (hu (2 * j + 1)) with ⟨h1, h2⟩ | ⟨h1, h2⟩
  · rw [h2] at hv
    rw [hrun, readR_inv hv]
  · exact absurd ⟨rfl, rfl⟩ (h1 j hj)

structure KeepSt (w : World) (ws : Nat → Int) (k : Nat) (D : DataW Unit) (wr : World) : Prop where
  row : wr.heap[w.heap.size]? = some (.cells (row16 ws) 26)
  own : wr.ownsMap Try.prog 46 readR (w.heap.size + 1) k D
  map : PairMap ws k D
  below : Below w.heap.size w wr
theorem owns_kept {w w' : World} {g n : Nat} {D : DataW Unit} (h : w.ownsMap Try.prog 46 readR g n D) (hb : Below w.heap.size w w') : w'.ownsMap Try.prog 46 readR g n D := by
  obtain ⟨es, clock, h1, h2⟩ := h
  exact ⟨es, clock, kept_on h1 hb, h2⟩

set_option maxRecDepth 100000 in
set_option maxHeartbeats 2000000 in
theorem gkeep (ws : Nat → Int) (hu : ∀ i, U32 (ws i)) (w : World) :
    Calls Try.prog 18 #[.agg (row16 ws)] w fun e w' => ∃ g D, e = .returned (.map (some g)) ∧ w.heap.size ≤ g ∧ Below w.heap.size w w' ∧ w'.ownsMap Try.prog 46 readR g 8 D ∧ PairMap ws 8 D := by
  have HU : Hid _ := hu
  clear hu
  have hbox : ∀ w, (Instr.box 26 (.agg (row16 ws))).run Try.prog w = .ok (.pointer (some ⟨w.heap.size, 0, none⟩)) (w.alloc (.cells (row16 ws) 26)) := fun w => by kernel_rfl
  have hmk : ∀ w, (Instr.makeMap 48 (some (.int .i64 8))).run Try.prog w = .ok (.map (some w.heap.size)) (w.alloc (.map #[] 0)) := fun w => by kernel_rfl
  have hown0 := World.ownsMap_made (w.alloc (.cells (row16 ws) 26)) Try.prog 46 readR
  rw [World.size_alloc] at hown0
  have R0 : Hid (KeepSt w ws 0 (.map []) ((w.alloc (.cells (row16 ws) 26)).alloc (.map #[] 0))) := ⟨kept_block ((Below.refl _ _).alloc (Nat.le_refl _) _), hown0, pm_start ws, box2⟩
  go_enter Try.func18, Try.ntmps18
  go_wp2_with fail
  generalize (w.alloc (.cells (row16 ws) 26)).alloc (.map #[] 0) = V at *
  clear hbox hmk hown0
  go_loopw [9] (fun i wr => ∃ (k : Nat) (D : DataW Unit), k ≤ 8 ∧ i = .int .i64 k ∧ Hid (KeepSt w ws k D wr)) (fun i _ => 8 - (intOf i).toNat)
  case atStart => exact ⟨0, .map [], Nat.zero_le _, rfl, R0.out⟩
  case round =>
    clear R0
    obtain ⟨k, D, hk, rfl, hr⟩ := hrel
    have hws : w.heap.size ≤ wr.heap.size := hr.out.below.size
    by_cases hlt : k < 8
    · have C1 : Hid _ := gpairAt ws k hlt
      have u1 := HU.out (2 * k)
      have u2 := HU.out (2 * k + 1)
      have HS : Hid (∀ D', Maps.has D (kpV (ws (2 * k)) (ws (2 * k + 1))) = true → D' = D → PairMap ws (k + 1) D') := fun D' h e => by rw [e]; exact pm_skip hr.out.map h
      have HP : Hid (PairMap ws (k + 1) (D.put (kpV (ws (2 * k)) (ws (2 * k + 1))) (datR (pairV (ws (2 * k)) (ws (2 * k + 1)))))) := pm_put HU.out hr.out.own.isMap hr.out.map
      generalize ws (2 * k) = a at *
      generalize ws (2 * k + 1) = b at *
      go_wp2_with (first | (refine wpList_load_row rfl 26 (.tmp 1) rfl _ rfl _ _ _ _ hr.out.row und16 rfl (by rw [row16_size]; exact info16) ?_))
      refine (C1.out _).mono ?_
      rintro e w1 ⟨rfl, b1⟩
      have hr1 : Hid (KeepSt w ws k D w1) := ⟨kept_on hr.out.row b1, owns_kept hr.out.own b1, hr.out.map, below_step hr.out.below b1⟩
      clear b1 hr hws
      have Hkey : Hid _ := gkey_of u1 u2
      have C2 : Hid _ := gregionOf a b u1 u2
      obtain ⟨r, ok, hf, hok⟩ := gfind (hr1.out.map) (hr1.out.own.alloc (.cells #[.int .u32 a, .int .u32 b] 46)) u1 u2
      unfold pval at hf ⊢
      obtain ⟨lo, hi, x, y⟩ := r
      unfold rval at hf
      simp only at hf
      have hws : w.heap.size ≤ w1.heap.size := hr1.out.below.size
      have HW : Hid (∀ o o' : Obj, Below w1.heap.size w1 ((w1.alloc o).alloc o')) := fun o o' => box2
      cases ok
      · go_wp2_with fail
        have kp : ((w1.alloc (.cells #[.int .u32 a, .int .u32 b] 46)).alloc (.cells #[.int .u32 lo, .int .u32 hi, .bool x, .bool y] 40)).heap[w1.heap.size]? = some (.cells #[.int .u32 a, .int .u32 b] 46) := kept_block ((Below.refl _ _).alloc (Nat.le_refl _) _)
        have hr2 : Hid (KeepSt w ws k D ((w1.alloc (.cells #[.int .u32 a, .int .u32 b] 46)).alloc (.cells #[.int .u32 lo, .int .u32 hi, .bool x, .bool y] 40))) := by
          have bb := HW.out (.cells #[.int .u32 a, .int .u32 b] 46) (.cells #[.int .u32 lo, .int .u32 hi, .bool x, .bool y] 40)
          exact ⟨kept_on hr1.out.row bb, owns_kept hr1.out.own bb, hr1.out.map, below_step hr1.out.below bb⟩
        generalize (w1.alloc (.cells #[.int .u32 a, .int .u32 b] 46)).alloc (.cells #[.int .u32 lo, .int .u32 hi, .bool x, .bool y] 40) = W at *
        generalize w1.heap.size = p0 at *
        obtain ⟨cc, _, cs⟩ := cells_of kp
        have c0 := cc 0 (.int .u32 a) rfl
        have c1 := cc 1 (.int .u32 b) rfl
        clear cc kp hf hok hr1 HW hws
        generalize hrv : pairV a b = R at *
        refine wp_region_mix_tail 4 [] [.map (some (w.heap.size + 1)), .agg #[.int .u32 a, .int .u32 b], .agg #[.int .u32 a, .int .u32 b], rval R] (by kernel_rfl) (by kernel_rfl) (by kernel_rfl) (by intro r hr; cases hr) ?_ (by intro r hr; cases hr) (by intro r hr; cases hr) ?_
        · generalize hl : lay _ _ _ = af
          have e3 : af.tmps[3]?.getD undef = .map (some (w.heap.size + 1)) := by rw [← hl]; kernel_rfl
          have e5 : af.tmps[5]?.getD undef = .pointer (some ⟨p0, 0, none⟩) := by rw [← hl]; kernel_rfl
          have e25 : af.tmps[25]?.getD undef = .agg #[.int .u32 a, .int .u32 b] := by rw [← hl]; kernel_rfl
          clear hl
          refine And.intro (fun w' hw => ?_) ?_
          · exact quiet_run (by simp [execOp, go_sem, e3])
          refine And.intro (fun w' hw => ?_) ?_
          · have q0 := hw.cell (p := ⟨p0, 0, none⟩) cs
            have q1 := hw.cell (p := ⟨p0, 1, none⟩) cs
            rw [c0] at q0
            rw [c1] at q1
            exact quiet_run (by simp [execOp, go_sem, e5, q0, q1])
          refine And.intro (fun w' hw => ?_) ?_
          · have q0 := hw.cell (p := ⟨p0, 0, none⟩) cs
            have q1 := hw.cell (p := ⟨p0, 1, none⟩) cs
            rw [c0] at q0
            rw [c1] at q1
            exact quiet_run (by simp [execOp, go_sem, e5, q0, q1])
          refine And.intro (fun w' hw => ?_) ?_
          · exact quiet_enter 22 #[.agg #[.int .u32 a, .int .u32 b]] (by simp [go_sem, e25]) (C2.out _)
          exact True.intro
        · intro β3 W3 hW3 _ _
          have hr3 : Hid (KeepSt w ws k D W3) := ⟨kept_on hr2.out.row hW3, owns_kept hr2.out.own hW3, hr2.out.map, below_step hr2.out.below hW3⟩
          clear hr2 hW3 c0 c1 cs
          simp [putAl, lay, Act.put]
          go_wp2_with (first | (at_mapUpdate; refine wpList_mapUpdate_own _ rfl _ _ _ 48 rfl 46 40 gkeyed gundM readR (w.heap.size + 1) k D rfl hr3.out.own (by unfold maxLen; omega) _ _ _ rfl rfl Hkey.out _ [] (readR_mk R) ?_; intro w2 hown2 hgrow2))
          have hlt3 := (Array.getElem?_eq_some_iff.1 hr3.out.row).1
          exact ⟨⟨k + 1, _, by omega, by go_num, (hgrow2.block _ hlt3 (by simp)).trans hr3.out.row, hown2, HP.out, below_grown hr3.out.below hgrow2 hr3.out.below.size (Nat.le_succ _)⟩, by simp [intOf]; omega⟩
      · go_wp2_with fail
        have bb := HW.out (.cells #[.int .u32 a, .int .u32 b] 46) (.cells #[.int .u32 lo, .int .u32 hi, .bool x, .bool y] 40)
        exact ⟨⟨k + 1, D, by omega, by go_num, kept_on hr1.out.row bb, (owns_kept hr1.out.own bb).mono (by omega), HS.out D hok rfl, below_step hr1.out.below bb⟩, by simp [intOf]; omega⟩
    · have hk8 : k = 8 := by omega
      subst hk8
      go_wp2
      go_ret
      exact ⟨_, D, rfl, Nat.le_succ _, hr.out.below, hr.out.own, hr.out.map⟩
end Go.Proofs.Ytioppnlojlecaaa
