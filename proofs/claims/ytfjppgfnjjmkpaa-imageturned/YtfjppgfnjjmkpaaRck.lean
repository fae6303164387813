/-
  footmanref6: Check.
-/
import Derived.Test.YtfjppgfnjjmkpaaImv
import Derived.Test.YtfjppgfnjjmkpaaImz
namespace Go.Proofs.Ytfjppgfnjjmkpaa
open Go.RowKit Go.Sort

theorem meet_comm (s r : Rg) : meetB s r = meetB r s := by
  unfold meetB
  cases decide (s.lo < s.hi) <;> cases decide (r.lo < r.hi) <;> cases decide (s.lo < r.hi) <;> cases decide (r.lo < s.hi) <;> rfl
theorem rg_load {o : Oper} {a : Act} {w : World} {g k : Nat} {r : Rg} (x : Operand) (ho : o.op = .load 25 x) (hx : a.eval x = .pointer (some ⟨g, k, none⟩)) (h : w.rangeAt g k (rgC r)) :
    (execOp a.eval o).run Try.prog w = .ok (.value (rgV r)) w := by
  obtain ⟨fr, hfr⟩ := undRg
  exact run_mid 25 x ho g k hx #[.int .u32 r.lo, .int .u32 r.hi, .bool r.x, .bool r.w] _ h hfr rfl infoRg
theorem rg_load_in {o : Oper} {a : Act} {V : World} {g k : Nat} {r : Rg} (x : Operand) (ho : o.op = .load 25 x) (hx : a.eval x = .pointer (some ⟨g, k, none⟩)) (h : V.rangeAt g k (rgC r)) :
    ∀ w', (∃ p : Regrown, w' = grow (redrawn V p.d) p.os) → (execOp a.eval o).run Try.prog w' = .ok (.value (rgV r)) w' := by
  rintro _ ⟨⟨d, os⟩, rfl⟩
  exact rg_load x ho hx (fun j v hv => cell_regrown (h j v hv) d os)
theorem meetIn (s r : Rg) (V : World) (d : Nat) (os : Array Obj) : Calls Try.prog 24 #[rgV s, rgV r] (grow (redrawn V d) os) fun e w'' => e = .returned (.bool (meetB s r)) ∧ ∃ p : Regrown, w'' = grow (redrawn V p.d) p.os :=
  Calls.regrown_of (rMeet s r _)
theorem free_of {l : List Rg} {k : Nat} {r : Rg} (h : ∀ (j : Nat) s, j < k → l[j]? = some s → meetB s r = false) : freeK (l.take k) r = true := by
  unfold freeK
  rw [List.all_eq_true]
  intro s hs
  obtain ⟨j, hj⟩ := List.mem_iff_getElem?.1 hs
  rw [List.getElem?_take] at hj
  split at hj
  · rename_i hlt
    rw [h j s hlt hj]
    rfl
  · cases hj
theorem free_not {l : List Rg} {k j : Nat} {r s : Rg} (hj : j < k) (hs : l[j]? = some s) (h : meetB s r = true) : freeK (l.take k) r = false := by
  unfold freeK
  refine all_not (k := j) (x := s) ?_ (by rw [h]; rfl)
  rw [List.getElem?_take, if_pos hj]
  exact hs
theorem place_new {l : List ByteArray} {s : ByteArray} : ∀ (m k : Nat), hasN (l.take k) s = true → ∃ j, j < k ∧ placeV l s m = some (m + j) := by
  induction l with
  | nil => intro m k h; rw [List.take_nil] at h; cases h
  | cons a l ih =>
    intro m k h
    unfold placeV
    by_cases e : a = s
    · cases k with
      | zero => cases h
      | succ k => exact ⟨0, by omega, by rw [if_pos e]; rfl⟩
    · rw [if_neg e]
      cases k with
      | zero => cases h
      | succ k =>
        have h2 : hasN (l.take k) s = true := by
          unfold hasN at h ⊢
          rw [List.take_succ_cons, List.any_cons, decide_eq_false e, Bool.false_or] at h
          exact h
        obtain ⟨j, hj, hp⟩ := ih (m + 1) k h2
        exact ⟨j + 1, by omega, by rw [hp]; congr 1; omega⟩
theorem hasN_no {α : Type} {l : List α} {f : α → ByteArray} {k : Nat} {s : ByteArray} (h : ∀ (j : Nat) y, j < k → l[j]? = some y → f y ≠ s) : hasN ((l.take k).map f) s = false := by
  unfold hasN
  rw [List.any_eq_false]
  intro t ht
  obtain ⟨y, hy, rfl⟩ := List.mem_map.1 ht
  obtain ⟨j, hj⟩ := List.mem_iff_getElem?.1 hy
  rw [List.getElem?_take] at hj
  split at hj
  · rename_i hlt
    simpa using h j y hlt hj
  · cases hj
theorem hasN_yes {α : Type} {l : List α} {f : α → ByteArray} {k j : Nat} {y : α} (hj : j < k) (h : l[j]? = some y) : hasN ((l.take k).map f) (f y) = true := by
  unfold hasN
  rw [List.any_eq_true]
  exact ⟨f y, List.mem_map.2 ⟨y, List.mem_of_getElem? (by rw [List.getElem?_take, if_pos hj]; exact h), rfl⟩, by simp⟩
theorem hasN_low {α : Type} {l : List α} {f : α → ByteArray} {k : Nat} {s : ByteArray} (h : hasN ((l.take k).map f) s = false) : ∀ (j : Nat) y, j < k → l[j]? = some y → f y ≠ s := fun j y hj hy e => by
  rw [← e, hasN_yes hj hy] at h
  cases h
theorem own_rg {V : World} {base n : Nat} {v : Value} {l : List Rg} (h : V.ownsRow base 25 4 v n (regrow l)) {k : Nat} {r : Rg} (hk : k < n) (hr : l[k]? = some r) : ∃ g cp, v = .slice (some ⟨g, 0, none⟩) n cp ∧ base ≤ g ∧ g < V.heap.size ∧ V.rangeAt g (k * 4) (rgC r) := by
  obtain ⟨_, ⟨_, e⟩ | ⟨g, cap, cur, rfl, hb, hg, h1, h2, h3, h4⟩⟩ := h
  · omega
  · refine ⟨g, cap, rfl, hb, (Array.getElem?_eq_some_iff.1 hg).1, fun j u hu => ?_⟩
    have e1 := regrow_at l k r hr j u hu
    have e2 : (cur.toList.take (n * 4))[k * 4 + j]? = some u := by rw [h4]; exact e1
    have e3 : cur[k * 4 + j]? = some u := by
      rw [List.getElem?_take] at e2
      split at e2
      · rw [← Array.getElem?_toList]; exact e2
      · cases e2
    exact (cells_of hg).1 (k * 4 + j) u e3
theorem own_slice {V : World} {base n sz : Nat} {t : TypeId} {v : Value} {l : List Value} (h : V.ownsRow base t sz v n l) : ∃ sa cp, v = .slice sa n cp := by
  obtain ⟨_, ⟨e, hn⟩ | ⟨g, cap, cur, e, _⟩⟩ := h
  · exact ⟨none, 0, by rw [e, hn]⟩
  · exact ⟨_, _, e⟩
theorem own_below {V W : World} {base n sz : Nat} {t : TypeId} {v : Value} {l : List Value} (h : V.ownsRow base t sz v n l) (hb : Below V.heap.size V W) : W.ownsRow base t sz v n l := by
  obtain ⟨h1, h2 | ⟨g, cap, cur, e1, e2, e3, e4⟩⟩ := h
  · exact ⟨h1, .inl h2⟩
  · exact ⟨h1, .inr ⟨g, cap, cur, e1, e2, kept_on e3 hb, e4⟩⟩
theorem fldN (x y : Value) (w : World) : (Instr.field 34 (.agg #[x, y]) 0).run Try.prog w = .ok x w := by kernel_rfl
theorem free_all {l : List Rg} {r : Rg} (h : ∀ (j : Nat) s, l[j]? = some s → meetB s r = false) : freeK l r = true := by
  unfold freeK
  exact all_yes (fun j s hj => by rw [h j s hj]; rfl)
/-- The keys gathered so far. -/
structure KeysAt (w V : World) (i : Im) (v : Value) (l : List Rg) (n : Nat) : Prop where
  low : Below w.heap.size w V
  box : V.heap[w.heap.size]? = some (.cells i.cells 28)
  own : V.ownsRow (w.heap.size + 1) 25 4 v n (regrow l)
  len : n = l.length
theorem KeysAt.below {w V W : World} {i : Im} {v : Value} {l : List Rg} {n : Nat} (h : KeysAt w V i v l n) (hb : Below V.heap.size V W) : KeysAt w W i v l n := ⟨below_step h.low hb, kept_on h.box hb, own_below h.own hb, h.len⟩
theorem keys_next {w V V3 W4 : World} {i : Im} {v v' : Value} {l : List Rg} {n : Nat} {r : Rg} (h : KeysAt w V i v l n) (hV : Below V.heap.size V V3) (ho : W4.ownsRow (w.heap.size + 1) 25 4 v' (n + 1) (regrow l ++ rgC r)) (hg : V3.grownBy W4 v.ownBlock) : KeysAt w W4 i v' (l ++ [r]) (n + 1) := by
  have h3 := h.below hV
  have b4 : Below w.heap.size w W4 := by
    cases hov : v.ownBlock with
    | none => exact below_grown (b := w.heap.size) h3.low ⟨hg.os, hg.tape, hg.output, hg.size, fun q hq _ => hg.block q hq (by rw [hov]; simp)⟩ h3.low.size (Nat.le_refl _)
    | some q =>
      rw [hov] at hg
      exact below_grown h3.low hg h3.low.size (by have := (owns_lt2 h3.own q hov).1; omega)
  refine ⟨b4, ?_, by rw [regrow_app]; simpa [regrow] using ho, by rw [List.length_append, h.len]; rfl⟩
  rw [hg.block _ (Array.getElem?_eq_some_iff.1 h3.box).1 (fun e => by have := (owns_lt2 h3.own _ e.symm).1; omega)]
  exact h3.box
/-- The first of Check's rules: words, regions, pairs. What holds behind them. -/
structure CkA (w V : World) (i : Im) : Prop where
  low : Below w.heap.size w V
  box : V.heap[w.heap.size]? = some (.cells i.cells 28)
theorem range_below {w V : World} {g k : Nat} {l : List Value} (h : w.rangeAt g k l) (hg : g < w.heap.size) (hb : Below w.heap.size w V) : V.rangeAt g k l := fun j v hv => by
  rw [hb.cell (p := ⟨g, k + j, none⟩) hg]
  exact h j v hv
set_option maxRecDepth 100000 in
set_option maxHeartbeats 40000000 in
theorem rCheck {w : World} {i : Im} {b off : Nat} (hp : PartsAt w b off i.pa i.ps) (ho : ImOk i) (_h100 : i.ps.length ≤ 100) :
    Calls Try.prog 12 #[.agg i.cells] w fun e w' => e = .returned (.int .i64 (checkV i)) ∧ Below w.heap.size w w' := by
  have HP : Hid _ := hp
  have HO : Hid _ := ho
  have HF : Hid (i.ps.length ≤ 1000) := ho.few
  obtain ⟨fi, hfi⟩ := undIm
  obtain ⟨fr, hfr⟩ := undRg
  have HFI : Hid _ := hfi
  have HFR : Hid _ := hfr
  have hm : Try.prog.follows .mixedOrders = true := by kernel_rfl
  obtain ⟨RV, hRV⟩ : ∃ RV, RV = checkV i := ⟨_, rfl⟩
  have HRV : Hid (RV = checkV i) := hRV
  rw [← hRV]
  have L1 : Hid (Below w.heap.size w (w.alloc (.cells i.cells 28))) := (Below.refl _ _).alloc (Nat.le_refl _) _
  have B1 : Hid ((w.alloc (.cells i.cells 28)).heap[w.heap.size]? = some (.cells i.cells 28)) := alloc_at _ _
  have c0 : (w.alloc (.cells i.cells 28)).cell? ⟨w.heap.size, 0, none⟩ = some (.slice i.wa i.wl i.wc) := (cells_of (alloc_at w _)).1 0 _ rfl
  have hwm : i.wl ≤ maxLen := ho.wl
  clear hp ho hfi hfr hRV _h100
  go_enter Try.func12, Try.ntmps12
  by_cases h1 : 1 ≤ i.wl
  rotate_left
  · have hv : RV = 1 := by rw [HRV.out]; unfold checkV imWordsV; rw [decide_eq_false h1, Bool.false_and]; rfl
    have d1 : (i.wl : Int) < 1 := by omega
    clear HRV
    subst hv
    go_wp2_with fail
    go_ret
    exact ⟨rfl, L1.out⟩
  by_cases h2 : i.wl ≤ 65536
  rotate_left
  · have hv : RV = 1 := by rw [HRV.out]; unfold checkV imWordsV; rw [decide_eq_false h2, Bool.and_false]; rfl
    have d1 : ¬ (i.wl : Int) < 1 := by omega
    have d2 : 65536 < (i.wl : Int) := by omega
    clear HRV
    subst hv
    go_wp2_with fail
    go_ret
    exact ⟨rfl, L1.out⟩
  have H1 : Hid (imWordsV i = true) := by
    show imWordsV i = true
    unfold imWordsV
    rw [decide_eq_true h1, decide_eq_true h2]
    rfl
  have d1 : ¬ (i.wl : Int) < 1 := by omega
  have d2 : ¬ 65536 < (i.wl : Int) := by omega
  have HWL : Hid (i.wl ≤ 65536) := h2
  clear h1 h2 hwm
  go_wp2_with (first | (refine wpList_mids (by rfl) 28 (.tmp 1) rfl w.heap.size 0 rfl i.cells _ (im_rng B1.out) HFI.out rfl (by rw [Im.size]; exact infoIm) ?_))
  refine (rRegions (HP.out.below L1.out) HF.out).mono ?_
  rintro e W ⟨v, rfl, hgt⟩
  obtain ⟨g, cp, rfl, hg1, hg2, hgr⟩ := gat_at hgt
  have L2 : Hid _ := below_step L1.out hgt.low
  have B2 : Hid _ := kept_on B1.out hgt.low
  have GR : Hid _ := hgr
  have HG : Hid (g < W.heap.size) := hg2
  obtain ⟨N, hN⟩ : ∃ N, N = 2 + 2 * i.ps.length := ⟨_, rfl⟩
  have HN : Hid (N = (regL i).length) := by show N = _; rw [reg_len, hN]
  have hN2 : N ≤ 2002 := by have := HF.out; omega
  have e1 : ((2 + 2 * i.ps.length : Nat) : Int) = (N : Int) := by rw [hN]
  clear hgt hg1 hg2 hgr c0 L1 B1
  rw [← hN]
  clear hN e1
  go_wp2_with fail
  go_loopw [5] (fun x wr => ∃ (k : Nat) (V : World), V = wr ∧ k ≤ N ∧ x = .int .i64 k ∧ Hid ((∀ (j : Nat) r, j < k → (regL i)[j]? = some r → standB i.wl r = true) ∧ Below W.heap.size W V)) (fun x _ => N - (intOf x).toNat)
  case atStart => exact ⟨0, _, rfl, Nat.zero_le _, rfl, fun j y hj => by omega, Below.refl _ _⟩
  case round =>
    obtain ⟨k, V, rfl, hk, rfl, hr⟩ := hrel
    by_cases hlt : k < N
    --A{
    · as_aux_lemma =>
      obtain ⟨r, hx⟩ : ∃ r, (regL i)[k]? = some r := ⟨_, List.getElem?_eq_getElem (by rw [← HN.out]; exact hlt)⟩
      have HX : Hid _ := hx
      have RG : Hid _ := range_below (GR.out k r hx) HG.out hr.out.2
      have k0 : (0 : Int) ≤ (k : Int) := by omega
      have k1 : (k : Int) < (N : Int) := by omega
      have hU := reg_all HO.out r (List.mem_of_getElem? hx)
      clear hx
      go_wp2_with (first | (refine wpList_mids (by rfl) 25 (.tmp 44) rfl g (k * 4) rfl #[.int .u32 r.lo, .int .u32 r.hi, .bool r.x, .bool r.w] _ RG.out HFR.out rfl infoRg ?_) | (refine wpList_fill rfl 25 (.tmp 6) (.tmp 45) rfl rfl #[.int .u32 r.lo, .int .u32 r.hi, .bool r.x, .bool r.w] rfl 25 _ infoRg rfl (rg_one r) ?_))
      intro V2 R2 b2
      have D2 : Hid _ := below_step hr.out.2 b2
      have a0 : V2.cell? ⟨V.heap.size, 0, none⟩ = some (.int .u32 r.lo) := (cells_of R2).1 0 _ rfl
      have a1 : V2.cell? ⟨V.heap.size, 1, none⟩ = some (.int .u32 r.hi) := (cells_of R2).1 1 _ rfl
      have t0 : r.lo.tmod 4 = r.lo % 4 := Int.tmod_eq_emod_of_nonneg hU.1.1
      have t1 : r.hi.tmod 4 = r.hi % 4 := Int.tmod_eq_emod_of_nonneg hU.2.1
      have u0 : 0 ≤ r.hi ∧ r.hi < 4294967296 := hU.2
      have hno : standB i.wl r = false → RV = 2 := fun h => by
        rw [HRV.out]
        unfold checkV
        rw [H1.out, show standsV i = false from all_not HX.out h]
        rfl
      have HNO : Hid _ := hno
      have hwl : (i.wl : Int) ≤ 65536 := by have := HWL.out; omega
      clear R2 b2 RG hno hU
      by_cases h1 : r.lo % 4 = 0
      · by_cases h2 : r.hi % 4 = 0
        · by_cases h3 : r.lo ≤ r.hi
          · by_cases h4 : r.hi ≤ 4 * (i.wl : Int)
            · have hyes : standB i.wl r = true := by
                unfold standB
                rw [h1, h2, decide_eq_true h3, decide_eq_true h4]
                rfl
              have HYES : Hid _ := hyes
              have e3 : ¬ r.hi < r.lo := by omega
              have e4 : ¬ 4 * (i.wl : Int) < r.hi := by omega
              clear hyes
              go_wp2_with fail
              exact ⟨⟨k + 1, _, rfl, hlt, by go_num, fun j r' hj hr' => by
                by_cases hj2 : j < k
                · exact hr.out.1 j r' hj2 hr'
                · have : j = k := by omega
                  subst this
                  rw [HX.out] at hr'
                  cases hr'
                  exact HYES.out, D2.out⟩, by simp [intOf]; omega⟩
            · have hv : RV = 2 := HNO.out (by unfold standB; rw [decide_eq_false h4, Bool.and_false])
              have e3 : ¬ r.hi < r.lo := by omega
              have e4 : 4 * (i.wl : Int) < r.hi := by omega
              clear HRV HNO
              subst hv
              go_wp2_with fail
              go_ret
              exact ⟨rfl, below_step L2.out D2.out⟩
          · have hv : RV = 2 := HNO.out (by unfold standB; rw [decide_eq_false h3, Bool.and_false, Bool.false_and])
            have e3 : r.hi < r.lo := by omega
            clear HRV HNO
            subst hv
            go_wp2_with fail
            go_ret
            exact ⟨rfl, below_step L2.out D2.out⟩
        · have hb2 : (r.hi % 4 == 0) = false := by simp [h2]
          have hb3 : (r.hi % 4 != 0) = true := by simp [h2]
          have hv : RV = 2 := HNO.out (by unfold standB; rw [hb2, Bool.and_false, Bool.false_and, Bool.false_and])
          clear HRV HNO
          subst hv
          go_wp2_with fail
          go_ret
          exact ⟨rfl, below_step L2.out D2.out⟩
      · have hb2 : (r.lo % 4 == 0) = false := by simp [h1]
        have hb3 : (r.lo % 4 != 0) = true := by simp [h1]
        have hv : RV = 2 := HNO.out (by unfold standB; rw [hb2, Bool.false_and, Bool.false_and, Bool.false_and])
        clear HRV HNO
        subst hv
        go_wp2_with fail
        go_ret
        exact ⟨rfl, below_step L2.out D2.out⟩
    --A}
    have hkN : k = N := by omega
    subst hkN
    have H2 : Hid (standsV i = true) := all_yes (fun j r hj => hr.out.1 j r (by have := (List.getElem?_eq_some_iff.1 hj).1; rw [HN.out]; exact this) hj)
    have k1 : ¬ (k : Int) < (k : Int) := by omega
    have LV : Hid _ := below_step L2.out hr.out.2
    have BV : Hid _ := kept_on B2.out hr.out.2
    have GV : Hid _ := fun (j : Nat) (r : Rg) (hj : (regL i)[j]? = some r) => range_below (GR.out j r hj) HG.out hr.out.2
    have HGV : Hid (g < V.heap.size) := by have := HG.out; have := hr.out.2.size; show g < V.heap.size; omega
    clear hr L2 B2 GR HG hk hlt
    go_wp2_with fail
    generalize hV0 : V = V0 at *
    clear hV0
    go_loopw [7] (fun x wr => ∃ (k2 : Nat) (V : World), V = wr ∧ k2 ≤ k ∧ x = .int .i64 k2 ∧ Hid ((∀ (j : Nat) r, j < k2 → (regL i)[j]? = some r → freeK ((regL i).take j) r = true) ∧ Below V0.heap.size V0 V)) (fun x _ => k - (intOf x).toNat)
    case atStart => exact ⟨0, _, rfl, Nat.zero_le _, rfl, fun j y hj => by omega, Below.refl _ _⟩
    case round =>
      obtain ⟨q, V, rfl, hq, rfl, hr⟩ := hrel
      by_cases hlt : q < k
      --A{
      · as_aux_lemma =>
        obtain ⟨r, hx⟩ : ∃ r, (regL i)[q]? = some r := ⟨_, List.getElem?_eq_getElem (by rw [← HN.out]; exact hlt)⟩
        have HX : Hid _ := hx
        have q0 : (0 : Int) ≤ (q : Int) := by omega
        have q1 : (q : Int) < (k : Int) := by omega
        have hno : freeK ((regL i).take q) r = false → RV = 3 := fun h => by
          rw [HRV.out]
          unfold checkV
          rw [H1.out, H2.out, show regsV i = false from idx_not HX.out h]
          rfl
        have HNO : Hid _ := hno
        clear hx hno
        go_wp2_with fail
        go_loopw [8] (fun x wr => ∃ (j : Nat) (W : World), W = wr ∧ j ≤ q ∧ x = .int .i64 j ∧ Hid ((∀ (t : Nat) s, t < j → (regL i)[t]? = some s → meetB s r = false) ∧ Below V.heap.size V W)) (fun x _ => q - (intOf x).toNat)
        case atStart => exact ⟨0, _, rfl, Nat.zero_le _, rfl, fun j y hj => by omega, Below.refl _ _⟩
        case round =>
          obtain ⟨j, W, rfl, hj, rfl, hj2⟩ := hrel
          by_cases hjq : j < q
          · obtain ⟨s, hy⟩ : ∃ s, (regL i)[j]? = some s := ⟨_, List.getElem?_eq_getElem (by rw [← HN.out]; omega)⟩
            have HY : Hid _ := hy
            have j0 : (0 : Int) ≤ (j : Int) := by omega
            have j1 : (j : Int) < (q : Int) := by omega
            have j3 : (j : Int) < (k : Int) := by omega
            have WB : Hid _ := below_step hr.out.2 hj2.out.2
            have GR1 : Hid _ := range_below (GV.out q r HX.out) HGV.out WB.out
            have GR2 : Hid _ := range_below (GV.out j s hy) HGV.out WB.out
            clear hy
            go_wp2_with fail
            refine wp_region_quiet_below hm (by kernel_rfl) ?_
            quiet_step (fail)
            quiet_step (fail)
            quiet_step (fail)
            refine wpQuiet_load (rgV r) (by rfl) (rg_load_in (.tmp 84) rfl (by rfl) GR1.out) ?_
            quiet_step (fail)
            quiet_step (fail)
            quiet_step (fail)
            refine wpQuiet_load (rgV s) (by rfl) (rg_load_in (.tmp 88) rfl (by rfl) GR2.out) ?_
            quiet_step (exact meetIn r s _ _ _)
            refine wpQuiet_nil ?_
            intro _ hw'
            obtain ⟨⟨dq, osq⟩, hw''⟩ := hw'
            subst hw''
            have b3 : Below W.heap.size W (grow (redrawn W dq) osq) := below_regrown W dq osq
            generalize grow (redrawn W dq) osq = W3 at *
            have B3 : Hid _ := below_step hj2.out.2 b3
            clear b3
            cases h3 : meetB r s
            · have H3 : Hid (meetB s r = false) := by show meetB s r = false; rw [meet_comm]; exact h3
              clear h3
              go_wp2_with fail
              exact ⟨⟨j + 1, _, rfl, by omega, by go_num, fun t s' ht hs' => by
                by_cases ht2 : t < j
                · exact hj2.out.1 t s' ht2 hs'
                · have : t = j := by omega
                  subst this
                  rw [HY.out] at hs'
                  cases hs'
                  exact H3.out, B3.out⟩, by simp [intOf]; omega⟩
            · have hv : RV = 3 := HNO.out (free_not hjq HY.out (by rw [meet_comm]; exact h3))
              clear HRV HNO
              subst hv
              go_wp2_with fail
              go_ret
              exact ⟨rfl, below_step LV.out (below_step hr.out.2 B3.out)⟩
          have hje : j = q := by omega
          subst hje
          have j1 : ¬ (j : Int) < (j : Int) := by omega
          have HFR2 : Hid (freeK ((regL i).take j) r = true) := free_of hj2.out.1
          have B3 : Hid _ := below_step hr.out.2 hj2.out.2
          go_wp2_with fail
          exact ⟨⟨j + 1, _, rfl, by omega, by go_num, fun t r' ht hr' => by
            by_cases ht2 : t < j
            · exact hr.out.1 t r' ht2 hr'
            · have : t = j := by omega
              subst this
              rw [HX.out] at hr'
              cases hr'
              exact HFR2.out, B3.out⟩, by simp [intOf]; omega⟩
      --A}
      have hqk : q = k := by omega
      subst hqk
      have H3 : Hid (regsV i = true) := idx_yes (fun j r hj => hr.out.1 j r (by have := (List.getElem?_eq_some_iff.1 hj).1; rw [HN.out]; exact this) hj)
      have q1 : ¬ (q : Int) < (q : Int) := by omega
      have L3 : Hid _ := below_step LV.out hr.out.2
      have B3 : Hid _ := kept_on BV.out hr.out.2
      clear hr LV BV GV HGV hq hlt HN
      have c1 : V.cell? ⟨w.heap.size, 1, none⟩ = some (.int .u32 i.kern.lo) := (cells_of B3.out).1 1 _ rfl
      have c2 : V.cell? ⟨w.heap.size, 2, none⟩ = some (.int .u32 i.kern.hi) := (cells_of B3.out).1 2 _ rfl
      have c9 : V.cell? ⟨w.heap.size, 9, none⟩ = some (.slice i.pa i.ps.length i.pc) := (cells_of B3.out).1 9 _ rfl
      have hno4 : rightsV i = false → RV = 4 := fun h => by
        rw [HRV.out]
        unfold checkV
        rw [H1.out, H2.out, H3.out, h]
        rfl
      have HNO4 : Hid _ := hno4
      clear hno4
      by_cases hk1 : i.kern.lo = 0
      rotate_left
      · have hb2 : (i.kern.lo == 0) = false := by simp [hk1]
        have hb3 : (i.kern.lo != 0) = true := by simp [hk1]
        have hv : RV = 4 := HNO4.out (by unfold rightsV; rw [hb2, Bool.false_and, Bool.false_and])
        clear HRV HNO4
        subst hv
        go_wp2_with fail
        go_ret
        exact ⟨rfl, L3.out⟩
      by_cases hk2 : i.kern.hi = 0
      · have hv : RV = 4 := HNO4.out (by unfold rightsV isEmptyV; rw [hk1, hk2]; rfl)
        have hb3 : (i.kern.lo != 0) = false := by simp [hk1]
        have hb4 : (i.kern.hi == 0) = true := by simp [hk2]
        clear HRV HNO4
        subst hv
        go_wp2_with fail
        go_ret
        exact ⟨rfl, L3.out⟩
      have hb3 : (i.kern.lo != 0) = false := by simp [hk1]
      have hb4 : (i.kern.hi == 0) = false := by simp [hk2]
      have HR2 : Hid (rightsV i = i.ps.all rightsP) := by
        show rightsV i = i.ps.all rightsP
        unfold rightsV isEmptyV
        rw [hk1, show ((0 : Int) == i.kern.hi) = false by simp [Ne.symm hk2]]
        rfl
      obtain ⟨fp, hfp⟩ := undPt
      have HFP : Hid _ := hfp
      obtain ⟨n, hn⟩ : ∃ n, n = i.ps.length := ⟨_, rfl⟩
      have HLN : Hid (i.ps.length = n) := hn.symm
      rw [← hn] at c9
      have hn1 : n ≤ 1000 := by have := HF.out; omega
      clear hfp hn hk1 hk2
      go_wp2_with fail
      clear c1 c2 hb3 hb4
      go_loopw [9] (fun x wr => ∃ (k : Nat) (W : World), W = wr ∧ k ≤ n ∧ x = .int .i64 k ∧ Hid ((∀ (j : Nat) y, j < k → i.ps[j]? = some y → rightsP y = true) ∧ Below V.heap.size V W)) (fun x _ => n - (intOf x).toNat)
      case atStart => exact ⟨0, _, rfl, Nat.zero_le _, rfl, fun j y hj => by omega, Below.refl _ _⟩
      case round =>
        clear c9
        obtain ⟨k, W, rfl, hk, rfl, hr⟩ := hrel
        have LW : Hid _ := below_step L3.out hr.out.2
        have BW : Hid _ := kept_on B3.out hr.out.2
        have c9 : W.cell? ⟨w.heap.size, 9, none⟩ = some (.slice i.pa n i.pc) := by rw [← HLN.out]; exact (cells_of BW.out).1 9 _ rfl
        by_cases hlt : k < n
        --A{
        · as_aux_lemma =>
          obtain ⟨p, hx⟩ : ∃ p, i.ps[k]? = some p := ⟨_, List.getElem?_eq_getElem (by rw [HLN.out]; exact hlt)⟩
          have HX : Hid _ := hx
          have I1 : Hid _ := HP.out.below LW.out
          obtain ⟨ea, hb⟩ := I1.out.at' (I1.out.lt hx)
          rw [ea] at c9
          have k0 : (0 : Int) ≤ (k : Int) := by omega
          have k1 : (k : Int) < (n : Int) := by omega
          have PO : Hid _ := HO.out.ps p (List.mem_of_getElem? hx)
          have PA : Hid _ := I1.out.in' p (List.mem_of_getElem? hx)
          clear hb hx
          go_wp2_with (first | (refine wpList_mids (by rfl) 40 (.tmp 111) rfl b (off + k * 11) rfl p.cells _ (I1.out.row k p HX.out) HFP.out rfl (by rw [Pt.size]; exact infoPt) ?_) | (refine wpList_fill rfl 40 (.tmp 10) (.tmp 112) rfl rfl p.cells rfl 40 _ (by rw [Pt.size]; exact infoPt) (by rw [Pt.size]; rfl) (Pt.one p) ?_))
          intro V2 R2 b2
          have RR : Hid _ := R2
          have D2 : Hid _ := below_step hr.out.2 b2
          have L5 : Hid _ := below_step LW.out b2
          have PA2 : Hid _ := PA.out.below b2
          have hnot : rightsP p = false → RV = 4 := fun h => HNO4.out (by rw [HR2.out]; exact all_not HX.out h)
          have HNOT : Hid _ := hnot
          obtain ⟨X1, hX1⟩ : ∃ X, X = p.code.x := ⟨_, rfl⟩
          obtain ⟨X2, hX2⟩ : ∃ X, X = p.code.w := ⟨_, rfl⟩
          obtain ⟨X3, hX3⟩ : ∃ X, X = p.data.w := ⟨_, rfl⟩
          obtain ⟨X4, hX4⟩ : ∃ X, X = p.data.x := ⟨_, rfl⟩
          have a3 : V2.cell? ⟨W.heap.size, 3, none⟩ = some (.bool X1) := by rw [hX1]; exact (cells_of R2).1 3 _ rfl
          have a4 : V2.cell? ⟨W.heap.size, 4, none⟩ = some (.bool X2) := by rw [hX2]; exact (cells_of R2).1 4 _ rfl
          have a8 : V2.cell? ⟨W.heap.size, 8, none⟩ = some (.bool X3) := by rw [hX3]; exact (cells_of R2).1 8 _ rfl
          have a7 : V2.cell? ⟨W.heap.size, 7, none⟩ = some (.bool X4) := by rw [hX4]; exact (cells_of R2).1 7 _ rfl
          have a9 : V2.cell? ⟨W.heap.size, 9, none⟩ = some (.slice p.ka p.kl p.kc) := (cells_of R2).1 9 _ rfl
          have E1 : Hid _ := hX1
          have E2 : Hid _ := hX2
          have E3 : Hid _ := hX3
          have E4 : Hid _ := hX4
          have hkl : p.kl ≤ 1000 := by rw [PA2.out.kl]; exact PO.out.kl
          clear b2 I1 R2 PA hnot hX1 hX2 hX3 hX4
          cases X1
          · have hv : RV = 4 := HNOT.out (by unfold rightsP hasV; rw [← E1.out]; rfl)
            clear HRV HNO4 HNOT
            subst hv
            go_wp2_with fail
            go_ret
            exact ⟨rfl, L5.out⟩
          cases X2
          rotate_left
          · have hv : RV = 4 := HNOT.out (by unfold rightsP hasV; rw [← E1.out, ← E2.out]; rfl)
            clear HRV HNO4 HNOT
            subst hv
            go_wp2_with fail
            go_ret
            exact ⟨rfl, L5.out⟩
          cases X3
          · have hv : RV = 4 := HNOT.out (by unfold rightsP hasV; rw [← E1.out, ← E2.out, ← E3.out, ← E4.out]; cases X4 <;> rfl)
            clear HRV HNO4 HNOT
            subst hv
            go_wp2_with fail
            go_ret
            exact ⟨rfl, L5.out⟩
          cases X4
          rotate_left
          · have hv : RV = 4 := HNOT.out (by unfold rightsP hasV; rw [← E1.out, ← E2.out, ← E3.out, ← E4.out]; rfl)
            clear HRV HNO4 HNOT
            subst hv
            go_wp2_with fail
            go_ret
            exact ⟨rfl, L5.out⟩
          have HCD : Hid (rightsP p = p.ks.all fun k => hasV k false false) := by
            show rightsP p = _
            unfold rightsP hasV
            rw [← E1.out, ← E2.out, ← E3.out, ← E4.out]
            rfl
          go_wp2_with fail
          go_loopw [11] (fun x wr => ∃ (q : Nat) (U : World), U = wr ∧ q ≤ p.kl ∧ x = .int .i64 q ∧ Hid ((∀ (j : Nat) r, j < q → p.ks[j]? = some r → hasV r false false = true) ∧ Below V2.heap.size V2 U)) (fun x _ => p.kl - (intOf x).toNat)
          case atStart => exact ⟨0, _, rfl, Nat.zero_le _, rfl, fun j r hj => by omega, Below.refl _ _⟩
          case round =>
            clear a3 a4 a7 a8 a9
            obtain ⟨q, U, rfl, hq, rfl, hrq⟩ := hrel
            have a9 : U.cell? ⟨W.heap.size, 9, none⟩ = some (.slice p.ka p.kl p.kc) := (cells_of (kept_on RR.out hrq.out.2)).1 9 _ rfl
            by_cases hql : q < p.kl
            · obtain ⟨r, hy⟩ : ∃ r, p.ks[q]? = some r := ⟨_, List.getElem?_eq_getElem (by rw [← PA2.out.kl]; exact hql)⟩
              have HY : Hid _ := hy
              obtain ⟨kb, koff, hrg⟩ := (PA2.out.below hrq.out.2).keys
              have hka : p.ka = some ⟨kb, koff, none⟩ := hrg.sa (by rw [← PA2.out.kl]; omega)
              rw [hka] at a9
              have RG := regs_row hrg hy
              obtain ⟨Y1, hY1⟩ : ∃ X, X = r.x := ⟨_, rfl⟩
              obtain ⟨Y2, hY2⟩ : ∃ X, X = r.w := ⟨_, rfl⟩
              have r2 : U.cell? ⟨kb, koff + q * 4 + 2, none⟩ = some (.bool Y1) := by rw [hY1]; exact RG 2 _ rfl
              have r3 : U.cell? ⟨kb, koff + q * 4 + 3, none⟩ = some (.bool Y2) := by rw [hY2]; exact RG 3 _ rfl
              have F1 : Hid _ := hY1
              have F2 : Hid _ := hY2
              have q0 : (0 : Int) ≤ (q : Int) := by omega
              have q1 : (q : Int) < (p.kl : Int) := by omega
              have HN5 : Hid (hasV r false false = false → RV = 4) := fun h => HNOT.out (by rw [HCD.out]; exact all_not HY.out h)
              clear hrg hy RG hY1 hY2
              cases Y1
              rotate_left
              · have hv : RV = 4 := HN5.out (by unfold hasV; rw [← F1.out]; rfl)
                clear HRV HNO4 HNOT HN5
                subst hv
                go_wp2_with fail
                go_ret
                exact ⟨rfl, below_step L5.out hrq.out.2⟩
              cases Y2
              rotate_left
              · have hv : RV = 4 := HN5.out (by unfold hasV; rw [← F1.out, ← F2.out]; rfl)
                clear HRV HNO4 HNOT HN5
                subst hv
                go_wp2_with fail
                go_ret
                exact ⟨rfl, below_step L5.out hrq.out.2⟩
              have HYES : Hid (hasV r false false = true) := by
                show hasV r false false = true
                unfold hasV
                rw [← F1.out, ← F2.out]
                rfl
              go_wp2_with fail
              exact ⟨⟨q + 1, _, rfl, by omega, by go_num, fun j r' hj hr' => by
                by_cases hj2 : j < q
                · exact hrq.out.1 j r' hj2 hr'
                · have : j = q := by omega
                  subst this
                  rw [HY.out] at hr'
                  cases hr'
                  exact HYES.out, hrq.out.2⟩, by simp [intOf]; omega⟩
            have q1 : ¬ (q : Int) < (p.kl : Int) := by omega
            have HALL : Hid (rightsP p = true) := by
              show rightsP p = true
              rw [HCD.out]
              exact all_yes (fun j r hj => hrq.out.1 j r (by have := (List.getElem?_eq_some_iff.1 hj).1; rw [← PA2.out.kl] at this; omega) hj)
            have D5 : Hid _ := below_step D2.out hrq.out.2
            go_wp2_with fail
            exact ⟨⟨k + 1, _, rfl, hlt, by go_num, fun j y hj hy => by
              by_cases hj2 : j < k
              · exact hr.out.1 j y hj2 hy
              · have : j = k := by omega
                subst this
                rw [HX.out] at hy
                cases hy
                exact HALL.out, D5.out⟩, by simp [intOf]; omega⟩
        --A}
        have k1 : ¬ (k : Int) < (n : Int) := by omega
        have H4 : Hid (rightsV i = true) := by
          show rightsV i = true
          rw [HR2.out]
          exact all_yes (fun j y hy => hr.out.1 j y (by have := (List.getElem?_eq_some_iff.1 hy).1; rw [HLN.out] at this; omega) hy)
        have HNO5 : Hid (partsV i.ps = false → RV = 5) := fun h => by
          rw [HRV.out]
          unfold checkV
          rw [H1.out, H2.out, H3.out, H4.out, h]
          rfl
        have hkn : k = n := by omega
        clear HR2 HNO4 hr L3 B3 k1
        subst hkn
        have k1 : ¬ (k : Int) < (k : Int) := by omega
        clear hk hlt
        by_cases hp1 : 1 ≤ k
        rotate_left
        · have hv : RV = 5 := HNO5.out (by unfold partsV; rw [HLN.out, decide_eq_false hp1]; rfl)
          have e2 : (k : Int) < 1 := by omega
          clear HRV HNO5
          subst hv
          go_wp2_with fail
          go_ret
          exact ⟨rfl, LW.out⟩
        by_cases hp8 : k ≤ 8
        rotate_left
        · have hv : RV = 5 := HNO5.out (by unfold partsV; rw [HLN.out, decide_eq_false hp8, Bool.and_false]; rfl)
          have e2 : ¬ (k : Int) < 1 := by omega
          have e3 : 8 < (k : Int) := by omega
          clear HRV HNO5
          subst hv
          go_wp2_with fail
          go_ret
          exact ⟨rfl, LW.out⟩
        have e2 : ¬ (k : Int) < 1 := by omega
        have e3 : ¬ 8 < (k : Int) := by omega
        have HR5 : Hid (partsV i.ps = idxAll i.ps fun j p => newN ((i.ps.take j).map Pt.name) p.name && !(isEmptyV p.code)) := by
          show partsV i.ps = _
          unfold partsV
          rw [HLN.out, decide_eq_true hp1, decide_eq_true hp8]
          rfl
        clear hp1 hp8
        go_wp2_with fail
        clear e2 e3 k1
        go_loopw [12] (fun x wr => ∃ (q : Nat) (U : World), U = wr ∧ q ≤ k ∧ x = .int .i64 q ∧ Hid ((∀ (j : Nat) y, j < q → i.ps[j]? = some y → (newN ((i.ps.take j).map Pt.name) y.name && !(isEmptyV y.code)) = true) ∧ Below W.heap.size W U)) (fun x _ => k - (intOf x).toNat)
        case atStart => exact ⟨0, _, rfl, Nat.zero_le _, rfl, fun j y hj => by omega, Below.refl _ _⟩
        case round =>
          clear c9
          obtain ⟨q, U, rfl, hq, rfl, hr⟩ := hrel
          have LU : Hid _ := below_step LW.out hr.out.2
          have BU : Hid _ := kept_on BW.out hr.out.2
          have c9 : U.cell? ⟨w.heap.size, 9, none⟩ = some (.slice i.pa k i.pc) := by rw [← HLN.out]; exact (cells_of BU.out).1 9 _ rfl
          by_cases hlt : q < k
          --A{
          · as_aux_lemma =>
            obtain ⟨p, hx⟩ : ∃ p, i.ps[q]? = some p := ⟨_, List.getElem?_eq_getElem (by rw [HLN.out]; exact hlt)⟩
            have HX : Hid _ := hx
            have I1 : Hid _ := HP.out.below LU.out
            obtain ⟨ea, hb⟩ := I1.out.at' (I1.out.lt hx)
            rw [ea] at c9
            have q0 : (0 : Int) ≤ (q : Int) := by omega
            have q1 : (q : Int) < (k : Int) := by omega
            clear hb hx ea
            go_wp2_with (first | (refine wpList_mids (by rfl) 40 (.tmp 174) rfl b (off + q * 11) rfl p.cells _ (I1.out.row q p HX.out) HFP.out rfl (by rw [Pt.size]; exact infoPt) ?_) | (refine wpList_fill rfl 40 (.tmp 13) (.tmp 175) rfl rfl p.cells rfl 40 _ (by rw [Pt.size]; exact infoPt) (by rw [Pt.size]; rfl) (Pt.one p) ?_))
            intro V2 R2 b2
            have RR : Hid _ := R2
            have D2 : Hid _ := below_step hr.out.2 b2
            have L5 : Hid _ := below_step LU.out b2
            have B5 : Hid _ := kept_on BU.out b2
            have a0 : V2.cell? ⟨U.heap.size, 0, none⟩ = some (.string p.name) := (cells_of R2).1 0 _ rfl
            have HNOT : Hid ((newN ((i.ps.take q).map Pt.name) p.name && !(isEmptyV p.code)) = false → RV = 5) := fun h => HNO5.out (by rw [HR5.out]; exact idx_not HX.out h)
            clear b2 I1 R2
            cases hne : (p.name.toList == [])
            rotate_left
            · have hv : RV = 5 := HNOT.out (by unfold newN; rw [hne, Bool.not_true, Bool.and_false, Bool.false_and])
              clear HRV HNO5 HNOT
              subst hv
              go_wp2_with fail
              go_ret
              exact ⟨rfl, L5.out⟩
            have HNE : Hid _ := hne
            have fN := fldN
            go_wp2_with (first | (refine wpList_mids (by rfl) 28 (.tmp 1) rfl w.heap.size 0 rfl i.cells _ (im_rng B5.out) HFI.out rfl (by rw [Im.size]; exact infoIm) ?_))
            refine (rPart (HP.out.below L5.out) HF.out p.name).mono ?_
            rintro e U3 ⟨rfl, b3⟩
            have D3 : Hid _ := below_step D2.out b3
            have L6 : Hid _ := below_step L5.out b3
            have R3 := kept_on RR.out b3
            have a1 : U3.cell? ⟨U.heap.size, 1, none⟩ = some (.int .u32 p.code.lo) := (cells_of R3).1 1 _ rfl
            have a2 : U3.cell? ⟨U.heap.size, 2, none⟩ = some (.int .u32 p.code.hi) := (cells_of R3).1 2 _ rfl
            clear b3 a0 R3
            cases hh : hasN ((i.ps.take q).map Pt.name) p.name
            rotate_left
            · have hv : RV = 5 := HNOT.out (by unfold newN; rw [hh, Bool.not_true, Bool.false_and, Bool.false_and])
              obtain ⟨j, hj, hpl⟩ := place_new (l := i.ps.map Pt.name) (s := p.name) 0 q (by rw [← List.map_take]; exact hh)
              have hne2 : (((0 + j : Nat) : Int) != (q : Int)) = true := by
                rw [bne_iff_ne]
                omega
              unfold placedR
              rw [hpl]
              simp only
              generalize 0 + j = jj at *
              clear HRV HNO5 HNOT hh
              subst hv
              go_wp2_with fail
              go_ret
              exact ⟨rfl, L6.out⟩
            have hpl := place_at (l := i.ps.map Pt.name) (s := p.name) 0 q (by rw [List.getElem?_map, HX.out]; rfl) (fun j a hj ha => names_low (hasN_low hh) j a hj ha)
            rw [Nat.zero_add] at hpl
            have HHN : Hid _ := hh
            unfold placedR
            rw [hpl]
            simp only
            clear hpl hh
            have hne2 : ((q : Int) != (q : Int)) = false := by simp
            cases he : isEmptyV p.code
            rotate_left
            · have hv : RV = 5 := HNOT.out (by rw [he, Bool.not_true, Bool.and_false])
              unfold isEmptyV at he
              clear HRV HNO5 HNOT
              subst hv
              go_wp2_with fail
              go_ret
              exact ⟨rfl, L6.out⟩
            have HYES : Hid ((newN ((i.ps.take q).map Pt.name) p.name && !(isEmptyV p.code)) = true) := by
              show (newN ((i.ps.take q).map Pt.name) p.name && !(isEmptyV p.code)) = true
              unfold newN
              rw [HHN.out, HNE.out, he]
              rfl
            unfold isEmptyV at he
            go_wp2_with fail
            exact ⟨⟨q + 1, _, rfl, hlt, by go_num, fun j y hj hy => by
              by_cases hj2 : j < q
              · exact hr.out.1 j y hj2 hy
              · have : j = q := by omega
                subst this
                rw [HX.out] at hy
                cases hy
                exact HYES.out, D3.out⟩, by simp [intOf]; omega⟩
          --A}
          have q1 : ¬ (q : Int) < (k : Int) := by omega
          have H5 : Hid (partsV i.ps = true) := by
            show partsV i.ps = true
            rw [HR5.out]
            exact idx_yes (fun j y hy => hr.out.1 j y (by have := (List.getElem?_eq_some_iff.1 hy).1; rw [HLN.out] at this; omega) hy)
          have HNO6 : Hid (keysV i = false → RV = 6) := fun h => by
            rw [HRV.out]
            unfold checkV
            rw [H1.out, H2.out, H3.out, H4.out, H5.out, h]
            rfl
          have KA : Hid (KeysAt w U i (.slice none 0 0) [] 0) := ⟨LU.out, BU.out, ⟨rfl, .inl ⟨rfl, rfl⟩⟩, rfl⟩
          clear HR5 HNO5 hr hq hlt
          go_wp2_with fail
          clear q1
          go_loopw [14, 15] (fun kv x wr => ∃ (q m : Nat) (X : World), X = wr ∧ q ≤ k ∧ x = .int .i64 q ∧ Hid ((∀ (j : Nat) y, j < q → i.ps[j]? = some y → keysP i j y = true) ∧ KeysAt w X i kv ((i.ps.take q).flatMap (·.ks)) m ∧ m ≤ 6 * q)) (fun _ x _ => k - (intOf x).toNat)
          case atStart => exact ⟨0, 0, _, rfl, Nat.zero_le _, rfl, fun j y hj => by omega, KA.out, by omega⟩
          case round =>
            clear c9
            obtain ⟨q, m, X, rfl, hq, rfl, hr⟩ := hrel
            have LX : Hid _ := hr.out.2.1.low
            have BX : Hid _ := hr.out.2.1.box
            have c9 : X.cell? ⟨w.heap.size, 9, none⟩ = some (.slice i.pa k i.pc) := by rw [← HLN.out]; exact (cells_of BX.out).1 9 _ rfl
            by_cases hlt : q < k
            --A{
            · as_aux_lemma =>
              obtain ⟨p, hx⟩ : ∃ p, i.ps[q]? = some p := ⟨_, List.getElem?_eq_getElem (by rw [HLN.out]; exact hlt)⟩
              have HX : Hid _ := hx
              have I1 : Hid _ := HP.out.below LX.out
              obtain ⟨ea, hb⟩ := I1.out.at' (I1.out.lt hx)
              rw [ea] at c9
              have q0 : (0 : Int) ≤ (q : Int) := by omega
              have q1 : (q : Int) < (k : Int) := by omega
              have PO : Hid _ := HO.out.ps p (List.mem_of_getElem? hx)
              have PA : Hid _ := I1.out.in' p (List.mem_of_getElem? hx)
              have c99 : X.cell? ⟨b, off + q * 11 + 9, none⟩ = some (.slice p.ka p.kl p.kc) := I1.out.row q p hx 9 _ rfl
              have hkl : p.kl ≤ 1000 := by rw [PA.out.kl]; exact PO.out.kl
              have HNOT : Hid (keysP i q p = false → RV = 6) := fun h => HNO6.out (idx_not HX.out h)
              clear hb hx ea I1
              by_cases h6 : p.kl ≤ 6
              rotate_left
              · have hv : RV = 6 := HNOT.out (by unfold keysP; rw [← PA.out.kl, decide_eq_false h6]; rfl)
                have e6 : 6 < (p.kl : Int) := by omega
                clear HRV HNO6 HNOT
                subst hv
                go_wp2_with fail
                go_ret
                exact ⟨rfl, LX.out⟩
              have e6 : ¬ 6 < (p.kl : Int) := by omega
              have H6 : Hid (keysP i q p = idxAll p.ks (keyV i q p)) := by
                show keysP i q p = _
                unfold keysP
                rw [← PA.out.kl, decide_eq_true h6]
                rfl
              go_wp2_with fail
              clear c9 c99 e6
              go_loopw [14, 17] (fun kv x wr => ∃ (t m2 : Nat) (Y : World), Y = wr ∧ t ≤ p.kl ∧ x = .int .i64 t ∧ Hid ((∀ (j : Nat) r, j < t → p.ks[j]? = some r → keyV i q p j r = true) ∧ KeysAt w Y i kv ((i.ps.take q).flatMap (·.ks) ++ p.ks.take t) m2 ∧ m2 = m + t)) (fun _ x _ => p.kl - (intOf x).toNat)
              case atStart => exact ⟨0, m, _, rfl, Nat.zero_le _, rfl, fun j y hj => by omega, by rw [List.take_zero, List.append_nil]; exact hr.out.2.1, by omega⟩
              case round =>
                obtain ⟨t, m2, Y, rfl, ht, rfl, hy⟩ := hrel
                have LY : Hid _ := hy.out.2.1.low
                have BY : Hid _ := hy.out.2.1.box
                by_cases htl : t < p.kl
                · obtain ⟨r, hz⟩ : ∃ r, p.ks[t]? = some r := ⟨_, List.getElem?_eq_getElem (by rw [← PA.out.kl]; exact htl)⟩
                  have HZ : Hid _ := hz
                  obtain ⟨kb, koff, hrg⟩ := ((HP.out.below LY.out).in' p (List.mem_of_getElem? HX.out)).keys
                  have hka : p.ka = some ⟨kb, koff, none⟩ := hrg.sa (by rw [← PA.out.kl]; omega)
                  have RG : Hid _ := regs_row hrg hz
                  have RU : Hid _ := PO.out.ks r (List.mem_of_getElem? hz)
                  have t0 : (0 : Int) ≤ (t : Int) := by omega
                  have t1 : (t : Int) < (p.kl : Int) := by omega
                  have HN7 : Hid (keyV i q p t r = false → RV = 6) := fun h => HNOT.out (by rw [H6.out]; exact idx_not HZ.out h)
                  clear hrg hz
                  rw [hka]
                  go_wp2_with (first | (refine wpList_mids (by rfl) 25 (.tmp 221) rfl kb (koff + t * 4) rfl #[.int .u32 r.lo, .int .u32 r.hi, .bool r.x, .bool r.w] _ RG.out HFR.out rfl infoRg ?_) | (refine wpList_fill rfl 25 (.tmp 18) (.tmp 222) rfl rfl #[.int .u32 r.lo, .int .u32 r.hi, .bool r.x, .bool r.w] rfl 25 _ infoRg rfl (rg_one r) ?_))
                  intro V2 R2 b2
                  have RR : Hid _ := R2
                  have K2 : Hid _ := hy.out.2.1.below b2
                  have a0 : V2.cell? ⟨Y.heap.size, 0, none⟩ = some (.int .u32 r.lo) := (cells_of R2).1 0 _ rfl
                  have a1 : V2.cell? ⟨Y.heap.size, 1, none⟩ = some (.int .u32 r.hi) := (cells_of R2).1 1 _ rfl
                  have c5 : V2.cell? ⟨w.heap.size, 5, none⟩ = some (.int .u32 i.keys.lo) := (cells_of K2.out.box).1 5 _ rfl
                  have c6 : V2.cell? ⟨w.heap.size, 6, none⟩ = some (.int .u32 i.keys.hi) := (cells_of K2.out.box).1 6 _ rfl
                  clear R2 b2
                  by_cases h1 : i.keys.lo ≤ r.lo
                  rotate_left
                  · have hv : RV = 6 := HN7.out (by unfold keyV isKeyV; rw [decide_eq_false h1]; rfl)
                    have e1 : r.lo < i.keys.lo := by omega
                    clear HRV HNO6 HNOT HN7
                    subst hv
                    go_wp2_with fail
                    go_ret
                    exact ⟨rfl, K2.out.low⟩
                  have e1 : ¬ r.lo < i.keys.lo := by omega
                  by_cases h3 : r.hi ≤ i.keys.hi
                  rotate_left
                  · have hv : RV = 6 := HN7.out (by unfold keyV isKeyV; rw [decide_eq_false h3, Bool.and_false, Bool.false_and, Bool.false_and])
                    have e3 : i.keys.hi < r.hi := by omega
                    clear HRV HNO6 HNOT HN7
                    subst hv
                    go_wp2_with fail
                    go_ret
                    exact ⟨rfl, K2.out.low⟩
                  have e3 : ¬ i.keys.hi < r.hi := by omega
                  by_cases h2 : r.lo ≤ r.hi
                  rotate_left
                  · have hv : RV = 6 := HN7.out (by unfold keyV isKeyV; rw [decide_eq_false h2, Bool.and_false, Bool.false_and, Bool.false_and, Bool.false_and])
                    have e2 : r.hi < r.lo := by omega
                    clear HRV HNO6 HNOT HN7
                    subst hv
                    go_wp2_with fail
                    go_ret
                    exact ⟨rfl, K2.out.low⟩
                  have e2 : ¬ r.hi < r.lo := by omega
                  have c4 : (r.hi - r.lo) % 4294967296 = r.hi - r.lo := by
                    obtain ⟨⟨l0, l1⟩, ⟨l2, l3⟩⟩ := RU.out
                    omega
                  by_cases h4 : r.hi - r.lo = 16
                  rotate_left
                  · have hb4 : (r.hi - r.lo == 16) = false := by simp [h4]
                    have hb5 : (r.hi - r.lo != 16) = true := by simp [h4]
                    have hv : RV = 6 := HN7.out (by unfold keyV isKeyV; rw [hb4, Bool.and_false, Bool.false_and])
                    clear HRV HNO6 HNOT HN7
                    subst hv
                    go_wp2_with fail
                    go_ret
                    exact ⟨rfl, K2.out.low⟩
                  have hb5 : (r.hi - r.lo != 16) = false := by simp [h4]
                  have HK : Hid (isKeyV r i.keys = true) := by
                    show isKeyV r i.keys = true
                    unfold isKeyV
                    rw [decide_eq_true h1, decide_eq_true h2, decide_eq_true h3, h4]
                    rfl
                  go_wp2_with fail
                  have hm2 : m2 ≤ 10000 := by have := hy.out.2.2; have := hr.out.2.2; omega
                  generalize hl : (i.ps.take q).flatMap (·.ks) ++ p.ks.take t = l at *
                  have HL : Hid _ := hl
                  obtain ⟨sa, cp, ekv⟩ := own_slice K2.out.own
                  subst ekv
                  clear a0 a1 c5 c6 hl e1 e2 e3 c4 hb5 h1 h2 h3 h4
                  go_wp2_with fail
                  go_loopw [19] (fun x wr => ∃ (h : Nat) (Z : World), Z = wr ∧ h ≤ m2 ∧ x = .int .i64 h ∧ Hid ((∀ (j : Nat) s, j < h → l[j]? = some s → meetB s r = false) ∧ Below V2.heap.size V2 Z)) (fun x _ => m2 - (intOf x).toNat)
                  case atStart => exact ⟨0, _, rfl, Nat.zero_le _, rfl, fun j y hj => by omega, Below.refl _ _⟩
                  case round =>
                    obtain ⟨h, Z, rfl, hh, rfl, hz⟩ := hrel
                    have KZ : Hid _ := K2.out.below hz.out.2
                    have RZ : Hid _ := kept_on RR.out hz.out.2
                    by_cases hhl : h < m2
                    · obtain ⟨s, hs⟩ : ∃ s, l[h]? = some s := ⟨_, List.getElem?_eq_getElem (by rw [← KZ.out.len]; exact hhl)⟩
                      have HS : Hid _ := hs
                      obtain ⟨g2, cp2, eg, _, _, hrg2⟩ := own_rg KZ.out.own hhl hs
                      have esa : sa = some ⟨g2, 0, none⟩ := by injection eg
                      subst esa
                      have GR1 : Hid _ := hrg2
                      have GR2 : Hid (Z.rangeAt Y.heap.size 0 (rgC r)) := range_of RZ.out (fun j v hv => by rw [Nat.zero_add, ← Array.getElem?_toList]; exact hv)
                      have h0 : (0 : Int) ≤ (h : Int) := by omega
                      have h1 : (h : Int) < (m2 : Int) := by omega
                      clear hs hrg2 eg
                      go_wp2_with fail
                      refine wp_region_quiet_below hm (by kernel_rfl) ?_
                      quiet_step (fail)
                      quiet_step (fail)
                      quiet_step (fail)
                      refine wpQuiet_load (rgV s) (by rfl) (rg_load_in (.tmp 260) rfl (by rfl) GR1.out) ?_
                      refine wpQuiet_load (rgV r) (by rfl) (rg_load_in (.tmp 18) rfl (by rfl) GR2.out) ?_
                      quiet_step (exact meetIn s r _ _ _)
                      refine wpQuiet_nil ?_
                      intro _ hw'
                      obtain ⟨⟨dq, osq⟩, hw''⟩ := hw'
                      subst hw''
                      have b3 : Below Z.heap.size Z (grow (redrawn Z dq) osq) := below_regrown Z dq osq
                      generalize grow (redrawn Z dq) osq = Z3 at *
                      have B3 : Hid _ := below_step hz.out.2 b3
                      clear b3
                      cases h3 : meetB s r
                      · have H3 : Hid _ := h3
                        clear h3
                        go_wp2_with fail
                        exact ⟨⟨h + 1, _, rfl, by omega, by go_num, fun t s' ht hs' => by
                          by_cases ht2 : t < h
                          · exact hz.out.1 t s' ht2 hs'
                          · have : t = h := by omega
                            subst this
                            rw [HS.out] at hs'
                            cases hs'
                            exact H3.out, B3.out⟩, by simp [intOf]; omega⟩
                      · have hv : RV = 6 := HN7.out (by
                          unfold keyV
                          rw [HL.out, show freeK l r = false from all_not HS.out (by rw [h3]; rfl), Bool.and_false])
                        clear HRV HNO6 HNOT HN7
                        subst hv
                        go_wp2_with fail
                        go_ret
                        exact ⟨rfl, below_step K2.out.low B3.out⟩
                    have hhe : h = m2 := by omega
                    subst hhe
                    have h1 : ¬ (h : Int) < (h : Int) := by omega
                    have HYES : Hid (keyV i q p t r = true) := by
                      show keyV i q p t r = true
                      unfold keyV
                      rw [HL.out, HK.out, free_all (fun j s hj => hz.out.1 j s (by have := (List.getElem?_eq_some_iff.1 hj).1; rw [KZ.out.len]; exact this) hj)]
                      rfl
                    obtain ⟨V3, hV3⟩ : ∃ V3, V3 = Z.alloc (.cells #[.int .u32 r.lo, .int .u32 r.hi, .bool r.x, .bool r.w] 25) := ⟨_, rfl⟩
                    have b3 : Below Z.heap.size Z V3 := by rw [hV3]; exact (Below.refl _ _).alloc (Nat.le_refl _) _
                    have n3 : V3.heap[Z.heap.size]? = some (.cells #[.int .u32 r.lo, .int .u32 r.hi, .bool r.x, .bool r.w] 25) := by rw [hV3]; exact alloc_at _ _
                    have zs : w.heap.size + 1 ≤ Z.heap.size := (Array.getElem?_eq_some_iff.1 KZ.out.box).1
                    obtain ⟨v', W4, hrun, ho, hg, _⟩ := run_app_rg (ty := 37) (r := r) (own_below KZ.out.own b3) (by have := b3.size; omega) n3 (by omega)
                    have hka := keys_next KZ.out b3 ho hg
                    rw [← HL.out, List.append_assoc, ← take_more HZ.out] at hka
                    have KN : Hid _ := hka
                    have HR : Hid _ := hrun
                    have HV3 : Hid _ := hV3
                    clear hka hrun hV3 ho hg n3 b3
                    go_wp2_with (first | (refine wpList_row (by rfl) 25 (.tmp 18) rfl Y.heap.size rfl 25 #[.int .u32 r.lo, .int .u32 r.hi, .bool r.x, .bool r.w] _ RZ.out HFR.out rfl infoRg ?_) | (refine wp_world HV3.out ?_) | (refine wp_app rfl rfl rfl rfl HR.out ?_))
                    exact ⟨⟨t + 1, h + 1, _, rfl, by omega, by go_num, fun j r' hj hr' => by
                      by_cases hj2 : j < t
                      · exact hy.out.1 j r' hj2 hr'
                      · have : j = t := by omega
                        subst this
                        rw [HZ.out] at hr'
                        cases hr'
                        exact HYES.out, KN.out, by have := hy.out.2.2; omega⟩, by simp [intOf]; omega⟩
                have hte : t = p.kl := by omega
                subst hte
                have t1 : ¬ (p.kl : Int) < (p.kl : Int) := by omega
                have HALL : Hid (keysP i q p = true) := by
                  show keysP i q p = true
                  rw [H6.out]
                  exact idx_yes (fun j r hj => hy.out.1 j r (by have := (List.getElem?_eq_some_iff.1 hj).1; rw [← PA.out.kl] at this; omega) hj)
                have hkn := hy.out.2.1
                rw [show p.ks.take p.kl = p.ks from List.take_of_length_le (by rw [PA.out.kl]; omega), ← flat_next HX.out] at hkn
                have KN : Hid _ := hkn
                have hm3 : m2 ≤ 6 * (q + 1) := by have := hy.out.2.2; have := hr.out.2.2; omega
                have HM3 : Hid _ := hm3
                clear hkn hm3 hy ht htl
                go_wp2_with fail
                exact ⟨⟨q + 1, m2, _, rfl, hlt, by go_num, fun j y hj hy => by
                  by_cases hj2 : j < q
                  · exact hr.out.1 j y hj2 hy
                  · have : j = q := by omega
                    subst this
                    rw [HX.out] at hy
                    cases hy
                    exact HALL.out, KN.out, HM3.out⟩, by simp [intOf]; omega⟩
            --A}
            have q1 : ¬ (q : Int) < (k : Int) := by omega
            have H6 : Hid (keysV i = true) := idx_yes (fun j y hy => hr.out.1 j y (by have := (List.getElem?_eq_some_iff.1 hy).1; rw [HLN.out] at this; omega) hy)
            have HNO7 : Hid (symsV i.ps = false → RV = 7) := fun h => by
              rw [HRV.out]
              unfold checkV
              rw [H1.out, H2.out, H3.out, H4.out, H5.out, H6.out, h]
              rfl
            obtain ⟨fs, hfs⟩ := undSy
            have HFS : Hid _ := hfs
            clear HNO6 hr hq hlt hfs
            go_wp2_with fail
            clear q1
            go_loopw [20] (fun x wr => ∃ (q : Nat) (Y : World), Y = wr ∧ q ≤ k ∧ x = .int .i64 q ∧ Hid ((∀ (j : Nat) y, j < q → i.ps[j]? = some y → symsP y = true) ∧ Below X.heap.size X Y)) (fun x _ => k - (intOf x).toNat)
            case atStart => exact ⟨0, _, rfl, Nat.zero_le _, rfl, fun j y hj => by omega, Below.refl _ _⟩
            case round =>
              clear c9
              obtain ⟨q, Y, rfl, hq, rfl, hr⟩ := hrel
              have LY : Hid _ := below_step LX.out hr.out.2
              have BY : Hid _ := kept_on BX.out hr.out.2
              have c9 : Y.cell? ⟨w.heap.size, 9, none⟩ = some (.slice i.pa k i.pc) := by rw [← HLN.out]; exact (cells_of BY.out).1 9 _ rfl
              by_cases hlt : q < k
              --A{
              · as_aux_lemma =>
                obtain ⟨p, hx⟩ : ∃ p, i.ps[q]? = some p := ⟨_, List.getElem?_eq_getElem (by rw [HLN.out]; exact hlt)⟩
                have HX : Hid _ := hx
                have I1 : Hid _ := HP.out.below LY.out
                obtain ⟨ea, hb⟩ := I1.out.at' (I1.out.lt hx)
                rw [ea] at c9
                have q0 : (0 : Int) ≤ (q : Int) := by omega
                have q1 : (q : Int) < (k : Int) := by omega
                have PO : Hid _ := HO.out.ps p (List.mem_of_getElem? hx)
                have PA : Hid _ := I1.out.in' p (List.mem_of_getElem? hx)
                clear hb hx ea
                go_wp2_with (first | (refine wpList_mids (by rfl) 40 (.tmp 278) rfl b (off + q * 11) rfl p.cells _ (I1.out.row q p HX.out) HFP.out rfl (by rw [Pt.size]; exact infoPt) ?_) | (refine wpList_fill rfl 40 (.tmp 21) (.tmp 279) rfl rfl p.cells rfl 40 _ (by rw [Pt.size]; exact infoPt) (by rw [Pt.size]; rfl) (Pt.one p) ?_))
                intro V2 R2 b2
                have RR : Hid _ := R2
                have D2 : Hid _ := below_step hr.out.2 b2
                have L2 : Hid _ := below_step LY.out b2
                have PA2 : Hid _ := PA.out.below b2
                have c10 : V2.cell? ⟨Y.heap.size, 10, none⟩ = some (.slice p.sa p.sl p.sc) := (cells_of R2).1 10 _ rfl
                have HNOT : Hid (symsP p = false → RV = 7) := fun h => HNO7.out (all_not HX.out h)
                have hsl : p.sl ≤ 1000 := by rw [PA2.out.sl]; exact PO.out.sl
                clear b2 I1 R2 PA c9
                go_wp2_with fail
                go_loopw [22] (fun x wr => ∃ (t : Nat) (Z : World), Z = wr ∧ t ≤ p.sl ∧ x = .int .i64 t ∧ Hid ((∀ (j : Nat) s, j < t → p.ss[j]? = some s → symV p j s = true) ∧ Below V2.heap.size V2 Z)) (fun x _ => p.sl - (intOf x).toNat)
                case atStart => exact ⟨0, _, rfl, Nat.zero_le _, rfl, fun j y hj => by omega, Below.refl _ _⟩
                case round =>
                  clear c10
                  obtain ⟨t, Z, rfl, ht, rfl, hz⟩ := hrel
                  have RZ : Hid _ := kept_on RR.out hz.out.2
                  have c10 : Z.cell? ⟨Y.heap.size, 10, none⟩ = some (.slice p.sa p.sl p.sc) := (cells_of RZ.out).1 10 _ rfl
                  by_cases htl : t < p.sl
                  · obtain ⟨s, hs⟩ : ∃ s, p.ss[t]? = some s := ⟨_, List.getElem?_eq_getElem (by rw [← PA2.out.sl]; exact htl)⟩
                    have HS : Hid _ := hs
                    obtain ⟨sb, soff, hsy⟩ := (PA2.out.below hz.out.2).syms
                    have hsa : p.sa = some ⟨sb, soff, none⟩ := (hsy.sa (by rw [← PA2.out.sl]; omega)).1
                    rw [hsa] at c10
                    have HSY : Hid _ := hsy
                    have RG : Hid _ := hsy.row t s hs
                    have t0 : (0 : Int) ≤ (t : Int) := by omega
                    have t1 : (t : Int) < (p.sl : Int) := by omega
                    have SO : Hid _ := PO.out.ss s (List.mem_of_getElem? hs)
                    have HN7 : Hid (symV p t s = false → RV = 7) := fun h => HNOT.out (idx_not HS.out h)
                    clear hsy hs hsa
                    go_wp2_with (first | (refine wpList_mids (by rfl) 49 (.tmp 290) rfl sb (soff + t * 2) rfl #[.string s.1, .int .u32 s.2] _ RG.out HFS.out rfl infoSy ?_) | (refine wpList_fill rfl 49 (.tmp 23) (.tmp 291) rfl rfl #[.string s.1, .int .u32 s.2] rfl 49 _ infoSy rfl (sy_one s) ?_))
                    intro V3 S3 d3
                    have SR : Hid _ := S3
                    have D3 : Hid _ := below_step hz.out.2 d3
                    have L3 : Hid _ := below_step L2.out D3.out
                    have HS3 : Hid _ := HSY.out.below d3
                    have R3 := kept_on RZ.out d3
                    have RR3 : Hid _ := R3
                    have a0 : V3.cell? ⟨Z.heap.size, 0, none⟩ = some (.string s.1) := (cells_of S3).1 0 _ rfl
                    have a1 : V3.cell? ⟨Z.heap.size, 1, none⟩ = some (.int .u32 s.2) := (cells_of S3).1 1 _ rfl
                    have a5 : V3.cell? ⟨Y.heap.size, 5, none⟩ = some (.int .u32 p.data.lo) := (cells_of R3).1 5 _ rfl
                    have a6 : V3.cell? ⟨Y.heap.size, 6, none⟩ = some (.int .u32 p.data.hi) := (cells_of R3).1 6 _ rfl
                    have s0 : 0 ≤ s.2 := SO.out.2.1
                    have t4 : s.2.tmod 4 = s.2 % 4 := Int.tmod_eq_emod_of_nonneg s0
                    clear S3 d3 R3 c10 HSY
                    cases hne : (s.1.toList == [])
                    rotate_left
                    · have hv : RV = 7 := HN7.out (by unfold symV newN; rw [hne, Bool.not_true, Bool.and_false, Bool.false_and, Bool.false_and, Bool.false_and])
                      clear HRV HNO7 HNOT HN7
                      subst hv
                      go_wp2_with fail
                      go_ret
                      exact ⟨rfl, L3.out⟩
                    by_cases h3 : p.data.lo ≤ s.2
                    rotate_left
                    · have hv : RV = 7 := HN7.out (by unfold symV; rw [decide_eq_false h3, Bool.and_false, Bool.false_and])
                      have e3 : s.2 < p.data.lo := by omega
                      clear HRV HNO7 HNOT HN7
                      subst hv
                      go_wp2_with fail
                      go_ret
                      exact ⟨rfl, L3.out⟩
                    have e3 : ¬ s.2 < p.data.lo := by omega
                    by_cases h4 : s.2 < p.data.hi
                    rotate_left
                    · have hv : RV = 7 := HN7.out (by unfold symV; rw [decide_eq_false h4, Bool.and_false])
                      have e4 : p.data.hi ≤ s.2 := by omega
                      clear HRV HNO7 HNOT HN7
                      subst hv
                      go_wp2_with fail
                      go_ret
                      exact ⟨rfl, L3.out⟩
                    have e4 : ¬ p.data.hi ≤ s.2 := by omega
                    by_cases h2 : s.2 % 4 = 0
                    rotate_left
                    · have hb2 : (s.2 % 4 == 0) = false := by simp [h2]
                      have hb3 : (s.2 % 4 != 0) = true := by simp [h2]
                      have hv : RV = 7 := HN7.out (by unfold symV; rw [hb2, Bool.and_false, Bool.false_and, Bool.false_and])
                      clear HRV HNO7 HNOT HN7
                      subst hv
                      go_wp2_with fail
                      go_ret
                      exact ⟨rfl, L3.out⟩
                    have HNE : Hid _ := hne
                    have HA : Hid ((s.2 % 4 == 0) = true ∧ decide (p.data.lo ≤ s.2) = true ∧ decide (s.2 < p.data.hi) = true) := ⟨by rw [h2]; rfl, decide_eq_true h3, decide_eq_true h4⟩
                    go_wp2_with fail
                    clear a0 a1 a5 a6 hne h2 h3 h4 e3 e4 t4 s0
                    go_loopw [24] (fun x wr => ∃ (h : Nat) (Q : World), Q = wr ∧ h ≤ t ∧ x = .int .i64 h ∧ Hid ((∀ (j : Nat) y, j < h → p.ss[j]? = some y → y.1 ≠ s.1) ∧ Below V3.heap.size V3 Q)) (fun x _ => t - (intOf x).toNat)
                    case atStart => exact ⟨0, _, rfl, Nat.zero_le _, rfl, fun j y hj => by omega, Below.refl _ _⟩
                    case round =>
                      obtain ⟨h, Q, rfl, hh, rfl, hqq⟩ := hrel
                      by_cases hht : h < t
                      · obtain ⟨y, hy⟩ : ∃ y, p.ss[h]? = some y := ⟨_, List.getElem?_eq_getElem (by rw [← PA2.out.sl]; omega)⟩
                        have HY : Hid _ := hy
                        have HS4 := HS3.out.below hqq.out.2
                        have hsa : p.sa = some ⟨sb, soff, none⟩ := (HS4.sa (by rw [← PA2.out.sl]; omega)).1
                        have c10 : Q.cell? ⟨Y.heap.size, 10, none⟩ = some (.slice (some ⟨sb, soff, none⟩) p.sl p.sc) := by rw [← hsa]; exact (cells_of (kept_on RR3.out hqq.out.2)).1 10 _ rfl
                        have b0 : Q.cell? ⟨Z.heap.size, 0, none⟩ = some (.string s.1) := (cells_of (kept_on SR.out hqq.out.2)).1 0 _ rfl
                        have b1 : Q.cell? ⟨sb, soff + h * 2, none⟩ = some (.string y.1) := HS4.row h y hy 0 _ rfl
                        have g10 := cell_regrown c10
                        have g0 := cell_regrown b0
                        have g1 := cell_regrown b1
                        have h0 : (0 : Int) ≤ (h : Int) := by omega
                        have h1 : (h : Int) < (t : Int) := by omega
                        have h2 : (h : Int) < (p.sl : Int) := by omega
                        clear hy HS4 hsa
                        by_cases hn : y.1 = s.1
                        · have hv : RV = 7 := HN7.out (by
                            unfold symV newN
                            rw [show hasN ((p.ss.take t).map (·.1)) s.1 = true by rw [← hn]; exact hasN_yes (f := fun (x : ByteArray × Int) => x.1) hht HY.out, Bool.not_true, Bool.false_and, Bool.false_and, Bool.false_and, Bool.false_and])
                          have hn3 : (y.1.toList == s.1.toList) = true := by rw [hn]; simp
                          clear HRV HNO7 HNOT HN7
                          subst hv
                          go_wp2_with fail
                          refine wp_region_quiet_below hm (by kernel_rfl) ?_
                          repeat (quiet_step (fail))
                          refine wpQuiet_nil ?_
                          intro _ hw'
                          obtain ⟨⟨dq, osq⟩, hw''⟩ := hw'
                          subst hw''
                          have b3 : Below Q.heap.size Q (grow (redrawn Q dq) osq) := below_regrown Q dq osq
                          clear g10 g0 g1 c10 b0 b1
                          generalize grow (redrawn Q dq) osq = Q3 at *
                          have B3 : Hid _ := below_step hqq.out.2 b3
                          clear b3
                          go_wp2_with fail
                          go_ret
                          exact ⟨rfl, below_step L3.out B3.out⟩
                        · have hn3 : (y.1.toList == s.1.toList) = false := by
                            cases h : (y.1.toList == s.1.toList) with
                            | false => rfl
                            | true => exact absurd (bytes_ext (by simpa using h)) hn
                          have HNN : Hid (y.1 ≠ s.1) := hn
                          clear hn
                          go_wp2_with fail
                          refine wp_region_quiet_below hm (by kernel_rfl) ?_
                          repeat (quiet_step (fail))
                          refine wpQuiet_nil ?_
                          intro _ hw'
                          obtain ⟨⟨dq, osq⟩, hw''⟩ := hw'
                          subst hw''
                          have b3 : Below Q.heap.size Q (grow (redrawn Q dq) osq) := below_regrown Q dq osq
                          clear g10 g0 g1 c10 b0 b1
                          generalize grow (redrawn Q dq) osq = Q3 at *
                          have B3 : Hid _ := below_step hqq.out.2 b3
                          clear b3
                          go_wp2_with fail
                          exact ⟨⟨h + 1, _, rfl, by omega, by go_num, fun j y' hj hy' => by
                            by_cases hj2 : j < h
                            · exact hqq.out.1 j y' hj2 hy'
                            · have : j = h := by omega
                              subst this
                              rw [HY.out] at hy'
                              cases hy'
                              exact HNN.out, B3.out⟩, by simp [intOf]; omega⟩
                      have hhe : h = t := by omega
                      subst hhe
                      have h1 : ¬ (h : Int) < (h : Int) := by omega
                      have HYES : Hid (symV p h s = true) := by
                        show symV p h s = true
                        unfold symV newN
                        rw [hasN_no (f := fun (x : ByteArray × Int) => x.1) hqq.out.1, HNE.out, HA.out.1, HA.out.2.1, HA.out.2.2]
                        rfl
                      have D5 : Hid _ := below_step D3.out hqq.out.2
                      go_wp2_with fail
                      exact ⟨⟨h + 1, _, rfl, by omega, by go_num, fun j s' hj hs' => by
                        by_cases hj2 : j < h
                        · exact hz.out.1 j s' hj2 hs'
                        · have : j = h := by omega
                          subst this
                          rw [HS.out] at hs'
                          cases hs'
                          exact HYES.out, D5.out⟩, by simp [intOf]; omega⟩
                  have t1 : ¬ (t : Int) < (p.sl : Int) := by omega
                  have HALL : Hid (symsP p = true) := idx_yes (fun j s hj => hz.out.1 j s (by have := (List.getElem?_eq_some_iff.1 hj).1; rw [← PA2.out.sl] at this; omega) hj)
                  have D5 : Hid _ := below_step D2.out hz.out.2
                  go_wp2_with fail
                  exact ⟨⟨q + 1, _, rfl, hlt, by go_num, fun j y hj hy => by
                    by_cases hj2 : j < q
                    · exact hr.out.1 j y hj2 hy
                    · have : j = q := by omega
                      subst this
                      rw [HX.out] at hy
                      cases hy
                      exact HALL.out, D5.out⟩, by simp [intOf]; omega⟩
              --A}
              have q1 : ¬ (q : Int) < (k : Int) := by omega
              have H7 : symsV i.ps = true := all_yes (fun j y hy => hr.out.1 j y (by have := (List.getElem?_eq_some_iff.1 hy).1; rw [HLN.out] at this; omega) hy)
              have hv : RV = 0 := by
                rw [HRV.out]
                unfold checkV
                rw [H1.out, H2.out, H3.out, H4.out, H5.out, H6.out, H7]
                rfl
              clear HRV HNO7
              subst hv
              go_wp2_with fail
              go_ret
              exact ⟨rfl, LY.out⟩
end Go.Proofs.Ytfjppgfnjjmkpaa
