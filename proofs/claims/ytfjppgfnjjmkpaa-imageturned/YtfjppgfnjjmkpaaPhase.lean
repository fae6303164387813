/-
  Regions that draw their order and in which one operation (number k0, a store) turns what earlier ones read: a walk step by step, under a condition S false on the world ahead of k0, and S true behind it. Whatever reads under S false must be waited for by k0. It speaks of no program.
-/
import Derived.Deep.RegionHeld3
namespace Go.Proofs.Ytfjppgfnjjmkpaa

section
variable {P : Program} {ops : Array Oper} {Q : Exit → Act → World → Prop} {md : Region.Mode} {k0 : Nat} {S : Bool → World → Prop}

def wpAnyS (P : Program) (md : Region.Mode) (ops : Array Oper) (Q : Exit → Act → World → Prop) (k0 : Nat) (S : Bool → World → Prop) : Nat → Array Bool → Act → World → Prop
  | 0, listed, a, w => Region.ready md ops listed = [] ∧ Q .normal a w
  | fuel + 1, listed, a, w =>
    (Region.ready md ops listed = [] → Q .normal a w) ∧
    ∀ i ∈ Region.ready md ops listed, wpOp P ops Q i (fun a' w' => S ((listed.setIfInBounds i true).getD k0 true) w' ∧ wpAnyS P md ops Q k0 S fuel (listed.setIfInBounds i true) a' w') a w
theorem wpAny_of_phase : ∀ (fuel : Nat) (listed : Array Bool) (a : Act) (w : World), wpAnyS P md ops Q k0 S fuel listed a w → wpAny P md ops Q fuel listed a w
  | 0, _, _, _, h => h
  | fuel + 1, _, _, _, h => ⟨h.1, fun i hi => wpOp_mono (fun a' w' h' => wpAny_of_phase fuel _ a' w' h'.2) (h.2 i hi)⟩
/-- k0 waits for i. -/
def pwaitB (md : Region.Mode) (ops : Array Oper) (k0 i : Nat) : Bool := match ops[k0]? with | some o => o.after.any fun e => Region.binds md e && e.on == i | none => false
theorem wpAnyS_first {Y : World → Prop} {i : Nat} {oi : Oper} {v : Value} (hi : ops[i]? = some oi) (hsel : ∀ (j : Nat) (o : Oper) cs b, ops[j]? = some o → o.op ≠ .select cs b)
    (hQ : ∀ c a w, Q (.panic c) (a.put oi.dst v) w → Q (.panic c) a w) (hik : i ≠ k0) (hY0 : ∀ w, S false w → Y w) (hW : pwaitB md ops k0 i = true ∨ ∀ w, S true w → Y w) :
    ∀ (fuel : Nat) (listed : Array Bool) (a : Act) (w : World),
      (∀ j oj, ops[j]? = some oj → j ≠ i → listed.getD j true = false → (∀ e ∈ oj.after, Region.binds md e = true → e.on ≠ i) → oi.apart ops oj = true) →
      i ∈ Region.ready md ops listed → YieldsIf P ops Y oi v a → S (listed.getD k0 true) w → (listed.getD k0 true = false ∨ ∀ w, S true w → Y w) →
      wpAnyS P md ops Q k0 S fuel (listed.setIfInBounds i true) (a.put oi.dst v) w → wpAnyS P md ops Q k0 S (fuel + 1) listed a w := by
  have hY : ∀ (b : Bool), (b = false ∨ ∀ w, S true w → Y w) → ∀ w, S b w → Y w := fun b hb w h => by
    cases b
    · exact hY0 w h
    · rcases hb with e | e
      · cases e
      · exact e w h
  intro fuel
  induction fuel with
  | zero =>
    intro listed a w _ hr hy hS hI H
    refine ⟨fun h => (by rw [h] at hr; cases hr), fun j hj => ?_⟩
    by_cases hji : j = i
    · subst hji; exact hy.wpOp hi (hY _ hI w hS) ⟨by rw [getD_set_ne true hik]; exact hS, H⟩
    · have := ready_mono hj hji
      rw [H.1] at this
      cases this
  | succ fuel ih =>
    intro listed a w hfree hr hy hS hI H
    refine ⟨fun h => (by rw [h] at hr; cases hr), fun j hj => ?_⟩
    by_cases hji : j = i
    · subst hji; exact hy.wpOp hi (hY _ hI w hS) ⟨by rw [getD_set_ne true hik]; exact hS, H⟩
    · have h1 := H.2 j (ready_mono hj hji)
      obtain ⟨hjun, oj, hoj, hall⟩ := mem_ready.1 hj
      have hnot : ∀ e ∈ oj.after, Region.binds md e = true → e.on ≠ i := fun e he hb heq => by
        have h1 := hall e he hb
        have h0 := (mem_ready.1 hr).1
        rw [heq] at h1
        rcases Nat.lt_or_ge i listed.size with h' | h'
        · simp [h'] at h0 h1; rw [h0] at h1; cases h1
        · simp [Array.getElem?_eq_none h'] at h1
      have hI' : (listed.setIfInBounds j true).getD k0 true = false ∨ ∀ w, S true w → Y w := by
        rcases hW with hw | hw
        · rcases hI with e | e
          · left
            by_cases hjk : j = k0
            · exfalso
              subst hjk
              unfold pwaitB at hw
              rw [hoj] at hw
              simp only [Array.any_eq_true, Bool.and_eq_true, beq_iff_eq] at hw
              obtain ⟨n, hn, q1, q2⟩ := hw
              exact hnot _ (Array.getElem_mem hn) q1 q2
            · rw [getD_set_ne true hjk]; exact e
          · exact Or.inr e
        · exact Or.inr hw
      have h2 := wpOp_putIf (S := Y) hoj (hfree j oj hoj hji hjun hnot) (fun cs b => hsel i oi cs b hi) (fun cs b => hsel j oj cs b hoj) hQ hy h1
      have hfree' : ∀ k ok, ops[k]? = some ok → k ≠ i → (listed.setIfInBounds j true).getD k true = false →
          (∀ e ∈ ok.after, Region.binds md e = true → e.on ≠ i) → oi.apart ops ok = true := fun k ok hk hki hun hno => by
        refine hfree k ok hk hki ?_ hno
        by_cases hjk : j = k
        · subst hjk; exact hjun
        · rw [getD_set_ne true hjk] at hun; exact hun
      refine wpOp_mono (fun a' w' h3 => ?_) h2
      have e1 : ((listed.setIfInBounds i true).setIfInBounds j true).getD k0 true = (listed.setIfInBounds j true).getD k0 true := by
        rw [Array.setIfInBounds_comm _ _ (Ne.symm hji), getD_set_ne true hik]
      have h4 : S ((listed.setIfInBounds j true).getD k0 true) w' := by rw [← e1]; exact h3.2.1
      refine ⟨h4, ih (listed.setIfInBounds j true) a' w' hfree' (ready_mono hr (Ne.symm hji)) h3.1 h4 hI' ?_⟩
      rw [Array.setIfInBounds_comm _ _ hji]
      exact h3.2.2
/-- Ahead of k0: an operation that k0 waits for, or that yields in both. -/
theorem ptake (i : Nat) (d : Option Tmp) {Y : World → Prop} {oi : Oper} {v : Value} {fuel : Nat} {listed : Array Bool} {a : Act} {w : World} (hi : ops[i]? = some oi) (hd : oi.dst = d)
    (hs : Region.noSelect ops = true) (hf : Region.free md ops listed i = true) (hr : (Region.ready md ops listed).contains i = true) (hik : i ≠ k0) (hl : listed.getD k0 true = false)
    (hQ : ∀ c a w, Q (.panic c) (a.put oi.dst v) w → Q (.panic c) a w) (hY0 : ∀ w, S false w → Y w) (hW : pwaitB md ops k0 i = true ∨ ∀ w, S true w → Y w) (hy : YieldsIf P ops Y oi v a) (hS : S false w)
    (h : wpAnyS P md ops Q k0 S fuel (listed.setIfInBounds i true) (a.put d v) w) : wpAnyS P md ops Q k0 S (fuel + 1) listed a w := by
  subst hd
  exact wpAnyS_first hi (Region.noSelect_spec hs) hQ hik hY0 hW fuel listed a w (Region.free_spec hi hf) (by simpa using hr) hy (by rw [hl]; exact hS) (Or.inl hl) h
/-- The same, spelt for an operation that reads and that k0 waits for. -/
theorem ptake_read (i : Nat) (d : Option Tmp) {oi : Oper} {v : Value} {fuel : Nat} {listed : Array Bool} {a : Act} {w : World} (hi : ops[i]? = some oi) (hd : oi.dst = d)
    (hs : Region.noSelect ops = true) (hf : Region.free md ops listed i = true) (hr : (Region.ready md ops listed).contains i = true) (hik : (i == k0) = false) (hl : listed.getD k0 true = false)
    (hQ : ∀ c a w, Q (.panic c) (a.put oi.dst v) w → Q (.panic c) a w) (hW : pwaitB md ops k0 i = true) (hy : YieldsIf P ops (S false) oi v a) (hS : S false w)
    (h : wpAnyS P md ops Q k0 S fuel (listed.setIfInBounds i true) (a.put d v) w) : wpAnyS P md ops Q k0 S (fuel + 1) listed a w :=
  ptake i d hi hd hs hf hr (by simpa using hik) hl hQ (fun _ h => h) (Or.inl hW) hy hS h
/-- .. and for one that yields in whatever world. -/
theorem ptake_pure (i : Nat) (d : Option Tmp) {oi : Oper} {v : Value} {fuel : Nat} {listed : Array Bool} {a : Act} {w : World} (hi : ops[i]? = some oi) (hd : oi.dst = d)
    (hs : Region.noSelect ops = true) (hf : Region.free md ops listed i = true) (hr : (Region.ready md ops listed).contains i = true) (hik : (i == k0) = false)
    (hQ : ∀ c a w, Q (.panic c) (a.put oi.dst v) w → Q (.panic c) a w) (hy : YieldsIf P ops (fun _ => True) oi v a) (hS : S (listed.getD k0 true) w)
    (h : wpAnyS P md ops Q k0 S fuel (listed.setIfInBounds i true) (a.put d v) w) : wpAnyS P md ops Q k0 S (fuel + 1) listed a w := by
  subst hd
  exact wpAnyS_first (Y := fun _ => True) hi (Region.noSelect_spec hs) hQ (by simpa using hik) (fun _ _ => trivial) (Or.inr fun _ _ => trivial) fuel listed a w (Region.free_spec hi hf) (by simpa using hr) hy hS (Or.inr fun _ _ => trivial) h
/-- A call that alone may come up now. -/
theorem pcall (i : Nat) (d : Option Tmp) (f : FuncId) (args : Array Value) {o : Oper} {fuel : Nat} {listed : Array Bool} {a : Act} {w : World} (hi : ops[i]? = some o) (hd : o.dst = d)
    (hw : Region.wanted o (yielded ops a.tmps) = true) (hr : Region.ready md ops listed = [i]) (hx : (execOp a.eval o).run P w = .ok (.enter f args) w)
    (hc : Calls P f args w fun e w' => ∃ v, e = .returned v ∧ S ((listed.setIfInBounds i true).getD k0 true) w' ∧ wpAnyS P md ops Q k0 S fuel (listed.setIfInBounds i true) (a.put d v) w') : wpAnyS P md ops Q k0 S (fuel + 1) listed a w := by
  subst hd
  refine ⟨fun h => (by rw [hr] at h; cases h), fun j hj => ?_⟩
  rw [hr] at hj
  have : j = i := by simpa using hj
  subst this
  unfold wpOp
  simp only [hi]
  rw [if_pos hw]
  refine Or.inl ?_
  unfold Oper.wp
  rw [hx]
  refine Calls.mono hc ?_
  rintro e w' ⟨v, rfl, h3, h4⟩
  exact ⟨h3, h4⟩
/-- Another operation that alone may come up now. -/
theorem pturn (i : Nat) (d : Option Tmp) {o : Oper} {v : Value} {fuel : Nat} {listed : Array Bool} {a : Act} {w w' : World} (hi : ops[i]? = some o) (hd : o.dst = d)
    (hw : Region.wanted o (yielded ops a.tmps) = true) (hr : Region.ready md ops listed = [i]) (hx : (execOp a.eval o).run P w = .ok (.value v) w') (hS : S ((listed.setIfInBounds i true).getD k0 true) w')
    (h : wpAnyS P md ops Q k0 S fuel (listed.setIfInBounds i true) (a.put d v) w') : wpAnyS P md ops Q k0 S (fuel + 1) listed a w := by
  subst hd
  refine ⟨fun h => (by rw [hr] at h; cases h), fun j hj => ?_⟩
  rw [hr] at hj
  have : j = i := by simpa using hj
  subst this
  unfold wpOp
  simp only [hi]
  rw [if_pos hw]
  refine Or.inl ?_
  unfold Oper.wp
  rw [hx]
  exact ⟨hS, h⟩
/-- .. that tells nothing (a store). -/
theorem pskip (i : Nat) (d : Option Tmp) {o : Oper} {fuel : Nat} {listed : Array Bool} {a : Act} {w w' : World} (hi : ops[i]? = some o) (hd : o.dst = d)
    (hw : Region.wanted o (yielded ops a.tmps) = true) (hr : Region.ready md ops listed = [i]) (hx : (execOp a.eval o).run P w = .ok .skip w') (hS : S ((listed.setIfInBounds i true).getD k0 true) w')
    (h : wpAnyS P md ops Q k0 S fuel (listed.setIfInBounds i true) (a.put d undef) w') : wpAnyS P md ops Q k0 S (fuel + 1) listed a w := by
  subst hd
  refine ⟨fun h => (by rw [hr] at h; cases h), fun j hj => ?_⟩
  rw [hr] at hj
  have : j = i := by simpa using hj
  subst this
  unfold wpOp
  simp only [hi]
  rw [if_pos hw]
  refine Or.inl ?_
  unfold Oper.wp
  rw [hx]
  exact ⟨hS, h⟩
theorem pdone {listed : Array Bool} {a : Act} {w : World} (hr : Region.ready md ops listed = []) (h : Q .normal a w) : ∀ fuel, wpAnyS P md ops Q k0 S fuel listed a w
  | 0 => ⟨hr, h⟩
  | _ + 1 => ⟨fun _ => h, by rw [hr]; simp⟩
theorem wp_region_phase (k0 : Nat) (S : Bool → World → Prop) {id : Nat} {a : Act} {w : World} (hm : P.follows .mixedOrders = true) (hS : S false w.drew)
    (h : S false w.drew → wpAnyS P .any ops (NoPanic Q) k0 S ops.size (Array.replicate ops.size false) a w.drew) : (Code.region id ops true).wp P Q a w :=
  wp_region_noPanic (wp_region_any hm (wpAny_of_phase _ _ _ _ (h hS)))
end
end Go.Proofs.Ytfjppgfnjjmkpaa
