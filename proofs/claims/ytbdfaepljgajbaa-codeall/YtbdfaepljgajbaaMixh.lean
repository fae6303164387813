/-
  The same for a region one of whose calls hands back a new thing (a map, say) that others of its operations look at: wherever that thing lies.
-/
import Derived.Test.YtbdfaepljgajbaaMix
namespace Go.Proofs.Ytbdfaepljgajbaa
open Go.RowKit

/-- A call that hands back a new thing: the operation, its slot, the thing that lies in a block, and what holds of that block. -/
structure Hd where
  i : Nat
  p : Nat
  thing : Nat → Value
  Φ : Nat → World → Prop

structure HInv (h : Hd) (als : List Al) (w0 : World) (listed : Array Bool) (a : Act) (w : World) : Prop where
  own : listed.getD h.i false = true → ∃ g, a.tmps[h.p]? = some (h.thing g) ∧ w0.heap.size ≤ g ∧ g < w.heap.size ∧ h.Φ g w ∧ ∀ r ∈ als, listed.getD r.i false = true → a.tmps[r.p]? ≠ some (.pointer (some ⟨g, 0, none⟩))

def mixHB (l : List Oper) (als : List Al) (i p : Nat) : Bool :=
  Region.noSelect l.toArray && (l.all fun o => o.guard.isNone) && dstsB l && apartAl als &&
  (als.all fun r => (match l[r.i]? with | some o => r.allocs o | none => false) && (match l[r.k]? with | some o => r.stores l o | none => false) && (als.all fun s => r.q != s.p) && r.q != p && r.p != p && r.i != i && r.k != i) &&
  (match l[i]? with | some o => o.dst == some p && !(o.looksAt l.toArray).contains p && plainB l als o | none => false) &&
  (List.range l.length).all fun j => match l[j]? with
    | none => false
    | some o => (o.after.all fun e => !Region.binds .any e || decide (e.on < j)) &&
        ((als.any fun r => r.i == j) || (als.any fun r => r.k == j) || plainB l als o)

def callAt (P : Program) (o : Oper) (a : Act) (h : Hd) (w : World) : Prop :=
  match (execOp a.eval o).run P w with
  | .ok (.enter f args) w' => w' = w ∧ Calls P f args w fun e w'' => ∃ g, e = .returned (h.thing g) ∧ w.heap.size ≤ g ∧ g < w''.heap.size ∧ Below w.heap.size w w'' ∧ h.Φ g w''
  | _ => False

/-- Every operation that neither lays nor fills nor is that call: whatever block the thing lies in, it yields its value. -/
def mixAllH (P : Program) (w0 : World) (af : Act) (h : Hd) (l : List Oper) (vs : List Value) : Prop :=
  ∀ (i : Nat) (o : Oper), l[i]? = some o → ∃ v, vs[i]? = some v ∧
    (match o.op with | .alloc _ => True | .store .. => True | _ => if i = h.i then ∀ w, Below w0.heap.size w0 w → callAt P o af h w
      else ∀ g w, Below w0.heap.size w0 w → ((o.looksAt l.toArray).contains h.p = true → h.Φ g w) → o.quietAt P (af.put (some h.p) (h.thing g)) (fun w' => Below w.heap.size w w') w v)

/-- The same, one operation behind the other. -/
def listH (P : Program) (w0 : World) (af : Act) (h : Hd) (l : List Oper) : Nat → List Oper → List Value → Prop
  | i, o :: os, v :: vs =>
    (match o.op with | .alloc _ => True | .store .. => True | _ => if i = h.i then ∀ w, Below w0.heap.size w0 w → callAt P o af h w
      else ∀ g w, Below w0.heap.size w0 w → ((o.looksAt l.toArray).contains h.p = true → h.Φ g w) → o.quietAt P (af.put (some h.p) (h.thing g)) (fun w' => Below w.heap.size w w') w v) ∧ listH P w0 af h l (i + 1) os vs
  | _, [], [] => True
  | _, _, _ => False
theorem listH_at {P : Program} {w0 : World} {af : Act} {h : Hd} {l : List Oper} : ∀ (os : List Oper) (vs : List Value) (k i : Nat) (o : Oper), listH P w0 af h l k os vs → os[i]? = some o → ∃ v, vs[i]? = some v ∧
    (match o.op with | .alloc _ => True | .store .. => True | _ => if k + i = h.i then ∀ w, Below w0.heap.size w0 w → callAt P o af h w
      else ∀ g w, Below w0.heap.size w0 w → ((o.looksAt l.toArray).contains h.p = true → h.Φ g w) → o.quietAt P (af.put (some h.p) (h.thing g)) (fun w' => Below w.heap.size w w') w v)
  | [], _, _, _, _, _, hi => by simp at hi
  | _ :: _, [], _, _, _, hh, _ => hh.elim
  | o :: os, v :: vs, k, 0, o', hh, hi => by
    simp only [List.getElem?_cons_zero, Option.some.injEq] at hi
    subst hi
    exact ⟨v, rfl, hh.1⟩
  | o :: os, v :: vs, k, i + 1, o', hh, hi => by
    simp only [List.getElem?_cons_succ] at hi ⊢
    have := listH_at os vs (k + 1) i o' hh.2 hi
    rw [show k + (i + 1) = k + 1 + i by omega]
    exact this
theorem mixAllH_of {P : Program} {w0 : World} {af : Act} {h : Hd} {l : List Oper} {vs : List Value} (hh : listH P w0 af h l 0 l vs) : mixAllH P w0 af h l vs := fun i o ho => by
  have := listH_at l vs 0 i o hh ho
  rw [Nat.zero_add] at this
  exact this
theorem listH_plain {P : Program} {w0 : World} {af : Act} {h : Hd} {l : List Oper} {i : Nat} {o : Oper} {os : List Oper} {v : Value} {vs : List Value} (hi : i ≠ h.i)
    (hq : ∀ g w, Below w0.heap.size w0 w → ((o.looksAt l.toArray).contains h.p = true → h.Φ g w) → o.quietAt P (af.put (some h.p) (h.thing g)) (fun w' => Below w.heap.size w w') w v)
    (hr : listH P w0 af h l (i + 1) os vs) : listH P w0 af h l i (o :: os) (v :: vs) := by
  refine And.intro ?_ hr
  split
  · trivial
  · trivial
  · simpa [hi] using hq
theorem listH_call {P : Program} {w0 : World} {af : Act} {h : Hd} {l : List Oper} {i : Nat} {o : Oper} {os : List Oper} {v : Value} {vs : List Value} (hi : i = h.i)
    (hq : ∀ w, Below w0.heap.size w0 w → callAt P o af h w) (hr : listH P w0 af h l (i + 1) os vs) : listH P w0 af h l i (o :: os) (v :: vs) := by
  refine And.intro ?_ hr
  split
  · trivial
  · trivial
  · simpa [hi] using hq

section
variable {l : List Oper} {als : List Al} {vs : List Value} {w0 : World} {a0 af : Act} {listed : Array Bool} {a : Act} {w : World} {h : Hd}

theorem all_listedH (hB : mixHB l als h.i h.p = true) (hsz : l.length ≤ listed.size) (h0 : Region.ready .any l.toArray listed = []) : ∀ m, m < l.length → listed.getD m false = true := by
  intro m
  induction m using Nat.strongRecOn with
  | _ m ih =>
    intro hm
    cases hh : listed.getD m false with
    | true => rfl
    | false =>
      exfalso
      have hu : listed.getD m true = false := by
        have : m < listed.size := by omega
        simp [this] at hh ⊢; exact hh
      simp only [mixHB, Bool.and_eq_true] at hB
      have h1 := List.all_eq_true.1 hB.2 m (List.mem_range.2 hm)
      have ho : l[m]? = some l[m] := List.getElem?_eq_getElem hm
      simp only [ho, Bool.and_eq_true] at h1
      have : m ∈ Region.ready .any l.toArray listed := by
        refine mem_ready.2 ⟨hu, l[m], by simp [hm], fun e he hb => ?_⟩
        have h2 := Array.all_eq_true_iff_forall_mem.1 h1.1 e he
        simp only [hb, Bool.not_true, Bool.false_or, decide_eq_true_eq] at h2
        exact ih e.on h2 (by omega)
      rw [h0] at this
      cases this

theorem mixh_any {P : Program} {Q : Exit → Act → World → Prop} (haf : af = lay l vs a0) (hB : mixHB l als h.i h.p = true) (hp : ∀ r ∈ als, r.p < a0.tmps.size) (hhp : h.p < a0.tmps.size)
    (hst : ∀ g (w w' : World), w'.heap[g]? = w.heap[g]? → h.Φ g w → h.Φ g w') (hpl : mixAllH P w0 af h l vs)
    (hz : ∀ r ∈ als, ∀ w : World, (Instr.alloc r.t true (.tuple #[])).run P w = .ok (.pointer (some ⟨w.heap.size, 0, none⟩)) (w.alloc (.cells r.z r.t)))
    (hs : ∀ r ∈ als, ∀ (w : World) (b : Nat), w.heap[b]? = some (.cells r.z r.t) → ∃ w', (Instr.storeAt r.t (.pointer (some ⟨b, 0, none⟩)) (af.eval (.tmp r.q))).run P w = .ok () w' ∧ Turned b (.cells r.f r.t) w w')
    (hQ : ∀ a w listed, MixInv [h.p] l als w0 a0 af listed a w → HInv h als w0 listed a w → (∀ m, m < l.length → listed.getD m false = true) → Q .normal a w) :
    ∀ (fuel : Nat) (listed : Array Bool) (a : Act) (w : World), listed.count false ≤ fuel → MixInv [h.p] l als w0 a0 af listed a w → HInv h als w0 listed a w → wpAny P .any l.toArray Q fuel listed a w := by
  intro fuel
  induction fuel with
  | zero =>
    intro listed a w hc I J
    have hall : ∀ m, m < l.length → listed.getD m false = true := fun m hm => count_zero hc m (Nat.lt_of_lt_of_le hm I.size)
    refine ⟨List.eq_nil_iff_forall_not_mem.2 fun j hj => ?_, hQ a w listed I J hall⟩
    obtain ⟨hun, o, ho, _⟩ := mem_ready.1 hj
    have hj' : j < l.length := by have := (Array.getElem?_eq_some_iff.1 ho).1; simpa using this
    have := hall j hj'
    rw [unl_false hun] at this
    cases this
  | succ fuel ih =>
    intro listed a w hc I J
    refine ⟨fun h0 => hQ a w listed I J (all_listedH hB I.size h0), fun i hi => ?_⟩
    obtain ⟨hun, o, ho, hall⟩ := mem_ready.1 hi
    have hol : l[i]? = some o := by simpa using ho
    have hlt : i < l.length := (List.getElem?_eq_some_iff.1 hol).1
    have hB0 := hB
    simp only [mixHB, Bool.and_eq_true] at hB0
    obtain ⟨⟨⟨⟨⟨⟨hsel, hgu⟩, hds⟩, hap⟩, hal⟩, hho⟩, hcl⟩ := hB0
    have hguard : o.guard = none := by
      have := List.all_eq_true.1 hgu o (List.mem_of_getElem? hol)
      simpa using this
    have hclass := List.all_eq_true.1 hcl i (List.mem_range.2 hlt)
    simp only [hol, Bool.and_eq_true] at hclass
    obtain ⟨oh, hoh, hdh, hlh, hph⟩ : ∃ oh, l[h.i]? = some oh ∧ oh.dst = some h.p ∧ h.p ∉ oh.looksAt l.toArray ∧ plainB l als oh = true := by
      cases hx : l[h.i]? with
      | none => rw [hx] at hho; cases hho
      | some oh =>
        rw [hx] at hho
        simp only [Bool.and_eq_true, beq_iff_eq] at hho
        exact ⟨oh, rfl, hho.1.1, by simpa using hho.1.2, hho.2⟩
    have hkinds : ∀ r ∈ als, (∃ o', l[r.i]? = some o' ∧ r.allocs o' = true) ∧ (∃ o', l[r.k]? = some o' ∧ r.stores l o' = true) ∧ (∀ s ∈ als, r.q ≠ s.p) ∧ r.q ≠ h.p ∧ r.p ≠ h.p ∧ r.i ≠ h.i ∧ r.k ≠ h.i := by
      intro r hr
      have := List.all_eq_true.1 hal r hr
      simp only [Bool.and_eq_true, bne_iff_ne, ne_eq] at this
      obtain ⟨⟨⟨⟨⟨⟨h1, h2⟩, h3⟩, h4⟩, h5⟩, h6⟩, h7⟩ := this
      refine ⟨?_, ?_, fun s hs => by simpa using List.all_eq_true.1 h3 s hs, h4, h5, h6, h7⟩
      · cases hx : l[r.i]? with
        | none => rw [hx] at h1; cases h1
        | some o' => rw [hx] at h1; exact ⟨o', rfl, h1⟩
      · cases hx : l[r.k]? with
        | none => rw [hx] at h2; cases h2
        | some o' => rw [hx] at h2; exact ⟨o', rfl, h2⟩
    have hik : ∀ r ∈ als, ∀ s ∈ als, r.i ≠ s.k := by
      intro r hr s hs e
      obtain ⟨o1, h1, k1⟩ := (hkinds r hr).1
      obtain ⟨o2, h2, k2⟩ := (hkinds s hs).2.1
      rw [e, h2] at h1
      cases h1
      simp only [Al.allocs, Bool.and_eq_true] at k1
      simp only [Al.stores, Bool.and_eq_true] at k2
      have e1 := k1.1
      have e2 := k2.1.1.1
      split at e1
      · rename_i hx; rw [hx] at e2; cases e2
      · cases e1
    unfold wpOp
    rw [ho]
    have hwant : Region.wanted o (yielded l.toArray a.tmps) = true := by simp [Region.wanted, hguard]
    simp only [hwant, if_true]
    refine Or.inl ?_
    unfold Oper.wp
    by_cases hA : ∃ r ∈ als, r.i = i
    · obtain ⟨r, hr, rfl⟩ := hA
      obtain ⟨o', ho', hk⟩ := (hkinds r hr).1
      rw [hol] at ho'
      cases ho'
      simp only [Al.allocs, Bool.and_eq_true, beq_iff_eq] at hk
      have hop : o.op = .alloc r.t := by
        have := hk.1
        split at this
        · rename_i t hx; rw [hx]; congr 1; simpa using this
        · cases this
      have hrun : (execOp a.eval o).run P w = .ok (.value (.pointer (some ⟨w.heap.size, 0, none⟩))) (w.alloc (.cells r.z r.t)) := by
        unfold execOp
        rw [hop]
        simp [hz r hr w]
      rw [hrun]
      refine ih _ _ _ (count_set hun hc) (inv_alloc I hap hr hol hk.2 hun (fun s hs e => hik r hr s hs e.symm) hp) ⟨fun hl => ?_⟩
      obtain ⟨g, g1, g2, g3, g4, g5⟩ := J.own ((getD_set_iff hl).resolve_left (fun e => (hkinds r hr).2.2.2.2.2.1 e.symm))
      refine ⟨g, ?_, g2, by simp; omega, hst g w _ (Below.heap_alloc _ _ _ g3) g4, fun s hs hl' => ?_⟩
      · rw [hk.2, put_other (fun e => (hkinds r hr).2.2.2.2.1 (Option.some.inj e))]; exact g1
      · rw [hk.2]
        by_cases e : s.p = r.p
        · rw [e, put_same (by rw [I.tsize]; exact hp r hr)]
          intro hx; injection hx with hx; injection hx with hx; injection hx with hx; injection hx with hx; omega
        · rw [put_other (fun e' => e (Option.some.inj e').symm)]
          refine g5 s hs ((getD_set_iff hl').resolve_left (fun e' => e ?_))
          rw [apart_of als hap s hs r hr (Or.inl e')]
    · by_cases hS : ∃ r ∈ als, r.k = i
      · obtain ⟨r, hr, rfl⟩ := hS
        obtain ⟨o', ho', hk⟩ := (hkinds r hr).2.1
        rw [hol] at ho'
        cases ho'
        simp only [Al.stores, Bool.and_eq_true, beq_iff_eq] at hk
        obtain ⟨⟨⟨hk1, hd⟩, hwi⟩, hrd⟩ := hk
        have hop : o.op = .store r.t (.tmp r.p) (.tmp r.q) := by
          split at hk1
          · rename_i t p q hx
            simp only [Bool.and_eq_true, beq_iff_eq] at hk1
            rw [hx, hk1.1.1, hk1.1.2, hk1.2]
          · cases hk1
        have hli : listed.getD r.i false = true := waits_of hwi hall
        have hk0 : listed.getD r.k false = false := unl_false hun
        obtain ⟨b, b1, b2, b3, b4⟩ := I.blocks r hr hli
        rw [hk0] at b4
        have eq : a.eval (.tmp r.q) = af.eval (.tmp r.q) := by
          have := I.slots r.q (fun s hs e => (hkinds r hr).2.2.1 s hs e.symm) (by simpa using (hkinds r hr).2.2.2.1) (fun m om h1 h2 => reads_of hrd hall m om h1 h2)
          simp only [Act.eval, Array.getD_eq_getD_getElem?, this]
        have ep : a.eval (.tmp r.p) = .pointer (some ⟨b, 0, none⟩) := by
          simp only [Act.eval, Array.getD_eq_getD_getElem?, b1, Option.getD_some]
        obtain ⟨w', hw', ht⟩ := hs r hr w b b4
        have hrun : (execOp a.eval o).run P w = .ok .skip w' := by
          unfold execOp
          rw [hop]
          simp [ep, eq, hw']
        rw [hrun]
        refine ih _ _ _ (count_set hun hc) (inv_store I hap hr hol hd hun hli (fun s hs e => hik s hs r hr e) b1 b2 b3 ht) ⟨fun hl => ?_⟩
        obtain ⟨g, g1, g2, g3, g4, g5⟩ := J.own ((getD_set_iff hl).resolve_left (fun e => (hkinds r hr).2.2.2.2.2.2 e.symm))
        rw [hd]
        have hgb : g ≠ b := fun e => g5 r hr hli (by rw [b1, e])
        exact ⟨g, g1, g2, by rw [ht.size]; exact g3, hst g w w' (ht.block g hgb) g4, fun s hs hl' => g5 s hs ((getD_set_iff hl').resolve_left (hik s hs r hr))⟩
      · have hpb : plainB l als o = true := by
          rcases hclass.2 with hx
          simp only [Bool.or_eq_true] at hx
          rcases hx with (hx | hx) | hx
          · obtain ⟨r, hr, e⟩ := List.any_eq_true.1 hx
            exact absurd ⟨r, hr, by simpa using e⟩ hA
          · obtain ⟨r, hr, e⟩ := List.any_eq_true.1 hx
            exact absurd ⟨r, hr, by simpa using e⟩ hS
          · exact hx
        simp only [plainB, Bool.and_eq_true] at hpb
        obtain ⟨⟨hk, hnp⟩, hrd⟩ := hpb
        obtain ⟨v, hv, hq⟩ := hpl i o hol
        have hnp' : ∀ r ∈ als, o.dst ≠ some r.p ∧ r.p ∉ o.looksAt l.toArray := by
          intro r hr
          have := List.all_eq_true.1 hnp r hr
          simpa using this
        have hnot : ∀ r ∈ als, r.i ≠ i ∧ r.k ≠ i ∧ o.dst ≠ some r.p := fun r hr => ⟨fun e => hA ⟨r, hr, e⟩, fun e => hS ⟨r, hr, e⟩, (hnp' r hr).1⟩
        by_cases hih : i = h.i
        · subst hih
          rw [hol] at hoh
          cases hoh
          have hq' : ∀ w, Below w0.heap.size w0 w → callAt P o af h w := by
            split at hq
            · rename_i hx; rw [hx] at hk; cases hk
            · rename_i hx; rw [hx] at hk; cases hk
            · simpa using hq
          have heq : execOp a.eval o = execOp af.eval o := by
            refine execOp_congr o (fun cs b => Region.noSelect_spec hsel h.i o cs b ho) fun x hx => ?_
            cases x with
            | tmp t =>
              have hmem : t ∈ o.looksAt l.toArray := List.mem_append_left _ (List.mem_filterMap.2 ⟨.tmp t, by simpa using hx, rfl⟩)
              have h1 := List.all_eq_true.1 hrd t hmem
              have := I.slots t (fun r hr e => (hnp' r hr).2 (e ▸ hmem)) (by simp; exact fun e => hlh (e ▸ hmem)) (fun m om h2 h3 => reads_of h1 hall m om h2 h3)
              simp only [Act.eval, Array.getD_eq_getD_getElem?, this]
            | _ => rfl
          have hgo := hq' w I.below
          unfold callAt at hgo
          rw [heq]
          generalize (execOp af.eval o).run P w = res at hgo
          cases res with
          | halt x w' => exact hgo.elim
          | ok n w' =>
            cases n <;> try exact hgo.elim
            case enter f args =>
              obtain ⟨rfl, hcall⟩ := hgo
              simp only [Oper.upon]
              refine hcall.mono ?_
              rintro e w'' ⟨g, rfl, g1, g2, g3, g4⟩
              have hbs : Below w0.heap.size w0 w'' := I.below.trans (g3.mono I.below.size)
              refine ih _ _ _ (count_set hun hc) ?_ ⟨fun _ => ⟨g, ?_, Nat.le_trans I.below.size g1, g2, g4, fun s hs hl' => ?_⟩⟩
              · refine ⟨by simpa using I.size, by rw [put_size]; exact I.tsize, by rw [put_defers]; exact I.defs, hbs, ?_, ?_, ?_, ?_⟩
                · intro q hq1 hex hm
                  rw [put_other (fun e => hex (by rw [hdh] at e; simp [Option.some.inj e]))]
                  refine I.slots q hq1 hex fun m om h1 h2 => ?_
                  by_cases hmi : m = h.i
                  · subst hmi; rw [hol] at h1; cases h1; rw [hdh]; exact fun e => hex (by simp [Option.some.inj e])
                  · exact hm m om h1 (unl_old hmi h2)
                · intro r hr hl
                  obtain ⟨h1, h2, h3⟩ := hnot r hr
                  obtain ⟨b, b1, b2, b3, b4⟩ := I.blocks r hr ((getD_set_iff hl).resolve_left h1)
                  refine ⟨b, by rw [put_other h3]; exact b1, b2, Nat.lt_of_lt_of_le b3 g3.size, ?_⟩
                  rw [g3.block b b3, b4, getD_set_ne false (Ne.symm h2)]
                · intro r hr hl
                  exact getD_set_true (I.order r hr ((getD_set_iff hl).resolve_left (hnot r hr).2.1))
                · intro r hr s hs hne hl hl'
                  rw [put_other (hnot r hr).2.2, put_other (hnot s hs).2.2]
                  exact I.apart r hr s hs hne ((getD_set_iff hl).resolve_left (hnot r hr).1) ((getD_set_iff hl').resolve_left (hnot s hs).1)
              · rw [hdh, put_same (by rw [I.tsize]; exact hhp)]
              · rw [put_other (hnot s hs).2.2]
                obtain ⟨b, b1, b2, b3, b4⟩ := I.blocks s hs ((getD_set_iff hl').resolve_left (hnot s hs).1)
                rw [b1]
                intro hx; injection hx with hx; injection hx with hx; injection hx with hx; injection hx with hx; omega
        · have hq' : ∀ g w, Below w0.heap.size w0 w → ((o.looksAt l.toArray).contains h.p = true → h.Φ g w) → o.quietAt P (af.put (some h.p) (h.thing g)) (fun w' => Below w.heap.size w w') w v := by
            split at hq
            · rename_i hx; rw [hx] at hk; cases hk
            · rename_i hx; rw [hx] at hk; cases hk
            · simpa [hih] using hq
          have hdo : o.dst ≠ some h.p := fun e => hih (dsts_one l i h.i o oh h.p hds hol hoh e hdh)
          have hget : ∃ g, ((o.looksAt l.toArray).contains h.p = true → h.Φ g w) ∧ execOp a.eval o = execOp (af.put (some h.p) (h.thing g)).eval o := by
            have hslot : ∀ t, t ∈ o.looksAt l.toArray → t ≠ h.p → a.tmps[t]? = af.tmps[t]? := by
              intro t hmem htp
              have h1 := List.all_eq_true.1 hrd t hmem
              exact I.slots t (fun r hr e => (hnp' r hr).2 (e ▸ hmem)) (by simpa using htp) (fun m om h2 h3 => reads_of h1 hall m om h2 h3)
            by_cases hin : h.p ∈ o.looksAt l.toArray
            · have h1 := List.all_eq_true.1 hrd h.p hin
              have hli : listed.getD h.i false = true := by
                have hx := List.all_eq_true.1 h1 h.i (List.mem_range.2 (List.getElem?_eq_some_iff.1 hoh).1)
                simp only [hoh, hdh, bne_self_eq_false, Bool.false_or] at hx
                exact waits_of hx hall
              obtain ⟨g, g1, g2, g3, g4, g5⟩ := J.own hli
              refine ⟨g, fun _ => g4, execOp_congr o (fun cs b => Region.noSelect_spec hsel i o cs b ho) fun x hx => ?_⟩
              cases x with
              | tmp t =>
                have hmem : t ∈ o.looksAt l.toArray := List.mem_append_left _ (List.mem_filterMap.2 ⟨.tmp t, by simpa using hx, rfl⟩)
                by_cases htp : t = h.p
                · subst htp
                  simp only [Act.eval, Array.getD_eq_getD_getElem?, g1]
                  rw [put_same (by rw [haf, (lay_size l vs a0).1]; exact hhp)]
                · simp only [Act.eval, Array.getD_eq_getD_getElem?, hslot t hmem htp]
                  rw [put_other (fun e => htp (Option.some.inj e).symm)]
              | _ => rfl
            · refine ⟨0, fun hc => absurd (by simpa using hc) hin, execOp_congr o (fun cs b => Region.noSelect_spec hsel i o cs b ho) fun x hx => ?_⟩
              cases x with
              | tmp t =>
                have hmem : t ∈ o.looksAt l.toArray := List.mem_append_left _ (List.mem_filterMap.2 ⟨.tmp t, by simpa using hx, rfl⟩)
                have htp : t ≠ h.p := fun e => hin (e ▸ hmem)
                simp only [Act.eval, Array.getD_eq_getD_getElem?, hslot t hmem htp]
                rw [put_other (fun e => htp (Option.some.inj e).symm)]
              | _ => rfl
          obtain ⟨g0, hΦ, heq⟩ := hget
          have hgo := hq' g0 w I.below hΦ
          unfold Oper.quietAt at hgo
          rw [heq]
          have hnext : ∀ w', Below w.heap.size w w' → wpAny P .any l.toArray Q fuel (listed.setIfInBounds i true) (a.put o.dst v) w' := fun w' hw' => by
            refine ih _ _ _ (count_set hun hc) (inv_plain I haf hds hol hv hun hnot hw') ⟨fun hl => ?_⟩
            obtain ⟨g, g1, g2, g3, g4, g5⟩ := J.own ((getD_set_iff hl).resolve_left (fun e => hih e.symm))
            exact ⟨g, by rw [put_other hdo]; exact g1, g2, Nat.lt_of_lt_of_le g3 hw'.size, hst g w w' (hw'.block g g3) g4, fun s hs hl' => by rw [put_other (hnot s hs).2.2]; exact g5 s hs ((getD_set_iff hl').resolve_left (hnot s hs).1)⟩
          generalize (execOp (af.put (some h.p) (h.thing g0)).eval o).run P w = res at hgo
          cases res with
          | ok n w' =>
            cases n <;> simp only [Oper.quietUpon] at hgo <;> simp only [Oper.upon]
            case value u =>
              obtain ⟨rfl, rfl⟩ := hgo
              exact hnext _ (Below.refl _ _)
            case skip =>
              obtain ⟨rfl, rfl⟩ := hgo
              exact hnext _ (Below.refl _ _)
            case enter f args =>
              obtain ⟨rfl, hcall⟩ := hgo
              exact hcall.mono fun e w'' ⟨he, hw''⟩ => by subst he; exact hnext _ hw''
          | halt x w' => simp only [Oper.quietUpon] at hgo

theorem mixh_final (hB : mixHB l als h.i h.p = true) (hp : ∀ r ∈ als, r.p < a0.tmps.size) (hhp : h.p < a0.tmps.size) (I : MixInv [h.p] l als w0 a0 (lay l vs a0) listed a w) (J : HInv h als w0 listed a w) (hall : ∀ m, m < l.length → listed.getD m false = true) :
    ∃ (β : Nat → Nat) (g : Nat), a = putAl β als ((lay l vs a0).put (some h.p) (h.thing g)) ∧ Below w0.heap.size w0 w ∧ (∀ r ∈ als, w0.heap.size ≤ β r.p ∧ β r.p < w.heap.size ∧ w.heap[β r.p]? = some (.cells r.f r.t)) ∧ (∀ r ∈ als, ∀ s ∈ als, r.p ≠ s.p → β r.p ≠ β s.p) := by
  have hB0 := hB
  simp only [mixHB, Bool.and_eq_true] at hB0
  obtain ⟨⟨⟨⟨⟨⟨hsel, hgu⟩, hds⟩, hap⟩, hal⟩, hho⟩, hcl⟩ := hB0
  have hidx : ∀ r ∈ als, r.i < l.length ∧ r.k < l.length ∧ r.p ≠ h.p := by
    intro r hr
    have := List.all_eq_true.1 hal r hr
    simp only [Bool.and_eq_true, bne_iff_ne, ne_eq] at this
    obtain ⟨⟨⟨⟨⟨⟨h1, h2⟩, _⟩, _⟩, h5⟩, _⟩, _⟩ := this
    refine ⟨?_, ?_, h5⟩
    · cases hx : l[r.i]? with
      | none => rw [hx] at h1; cases h1
      | some o => exact (List.getElem?_eq_some_iff.1 hx).1
    · cases hx : l[r.k]? with
      | none => rw [hx] at h2; cases h2
      | some o => exact (List.getElem?_eq_some_iff.1 hx).1
  have hhi : h.i < l.length := by
    cases hx : l[h.i]? with
    | none => rw [hx] at hho; cases hho
    | some oh => exact (List.getElem?_eq_some_iff.1 hx).1
  obtain ⟨g, g1, _⟩ := J.own (hall _ hhi)
  have hex : ∃ β : Nat → Nat, ∀ r ∈ als, a.tmps[r.p]? = some (.pointer (some ⟨β r.p, 0, none⟩)) := by
    refine ⟨fun q => match a.tmps[q]? with | some (.pointer (some b)) => b.block | _ => 0, fun r hr => ?_⟩
    obtain ⟨b, b1, _⟩ := I.blocks r hr (hall _ (hidx r hr).1)
    simp only [b1]
  obtain ⟨β, hβ⟩ := hex
  refine ⟨β, g, ?_, I.below, fun r hr => ?_, fun r hr s hs hne e => ?_⟩
  · have h1 : a.tmps = (putAl β als ((lay l vs a0).put (some h.p) (h.thing g))).tmps := by
      apply Array.ext_getElem?
      intro q
      by_cases hq : ∃ r ∈ als, r.p = q
      · have hq' := hq
        obtain ⟨r, hr, rfl⟩ := hq
        rw [hβ r hr, putAl_at β r.p als _ hq' (by rw [put_size, (lay_size l vs a0).1]; exact hp r hr)]
      · rw [putAl_other β q als _ (fun r hr e => hq ⟨r, hr, e⟩)]
        by_cases hqh : q = h.p
        · subst hqh
          rw [put_same (by rw [(lay_size l vs a0).1]; exact hhp)]; exact g1
        · rw [put_other (fun e => hqh (Option.some.inj e).symm)]
          refine I.slots q (fun r hr e => hq ⟨r, hr, e⟩) (by simpa using hqh) fun m om h2 h3 => ?_
          have := hall m (List.getElem?_eq_some_iff.1 h2).1
          rw [unl_false h3] at this
          cases this
    have h2 : a.defers = (putAl β als ((lay l vs a0).put (some h.p) (h.thing g))).defers := by rw [I.defs, (putAl_size β als _).2, put_defers, (lay_size l vs a0).2]
    cases a
    generalize putAl β als ((lay l vs a0).put (some h.p) (h.thing g)) = c at *
    cases c
    simp only at h1 h2
    rw [h1, h2]
  · obtain ⟨b, b1, b2, b3, b4⟩ := I.blocks r hr (hall _ (hidx r hr).1)
    rw [hall _ (hidx r hr).2.1] at b4
    rw [hβ r hr] at b1
    injection b1 with hx; injection hx with hx; injection hx with hx; injection hx with hx
    rw [hx]
    exact ⟨b2, b3, b4⟩
  · refine I.apart r hr s hs hne (hall _ (hidx r hr).1) (hall _ (hidx s hs).1) ?_
    rw [hβ r hr, hβ s hs, e]

/-- WHATEVER THE ORDER, AND WHEREVER THE THING LIES. -/
theorem wp_region_mixh {P : Program} {Q : Exit → Act → World → Prop} {id : Nat} (als : List Al) (h : Hd) (vs : List Value) (hm : P.follows .mixedOrders = true) (hB : mixHB l als h.i h.p = true) (hp : ∀ r ∈ als, r.p < a0.tmps.size) (hhp : h.p < a0.tmps.size)
    (hst : ∀ g (w w' : World), w'.heap[g]? = w.heap[g]? → h.Φ g w → h.Φ g w')
    (hpl : listH P w0 (lay l vs a0) h l 0 l vs)
    (hz : ∀ r ∈ als, ∀ w : World, (Instr.alloc r.t true (.tuple #[])).run P w = .ok (.pointer (some ⟨w.heap.size, 0, none⟩)) (w.alloc (.cells r.z r.t)))
    (hs : ∀ r ∈ als, ∀ (w : World) (b : Nat), w.heap[b]? = some (.cells r.z r.t) → ∃ w', (Instr.storeAt r.t (.pointer (some ⟨b, 0, none⟩)) ((lay l vs a0).eval (.tmp r.q))).run P w = .ok () w' ∧ Turned b (.cells r.f r.t) w w')
    (hQ : ∀ (β : Nat → Nat) (g : Nat) (w : World), Below w0.heap.size w0 w → (∀ r ∈ als, w0.heap.size ≤ β r.p ∧ β r.p < w.heap.size ∧ w.heap[β r.p]? = some (.cells r.f r.t)) → (∀ r ∈ als, ∀ s ∈ als, r.p ≠ s.p → β r.p ≠ β s.p) →
      Q .normal (putAl β als ((lay l vs a0).put (some h.p) (h.thing g))) w) : (Code.region id l.toArray true).wp P Q a0 w0 := by
  refine wp_region_any hm ?_
  refine mixh_any (als := als) (vs := vs) (w0 := w0) (a0 := a0) (h := h) (af := lay l vs a0) rfl hB hp hhp hst (mixAllH_of hpl) hz hs ?_ _ _ _ _ ?_ ?_ ?_
  · intro a w listed I J hall
    obtain ⟨β, g, e, h1, h2, h3⟩ := mixh_final hB hp hhp I J hall
    rw [e]
    exact hQ β g w h1 h2 h3
  · simp
  · have := mix_start (l := l) (als := als) (vs := vs) (w0 := w0) (a0 := a0) l.toArray.size (by simp) (w0.drawn + 1)
    exact ⟨this.size, this.tsize, this.defs, this.below, fun q h1 _ h3 => this.slots q h1 (by simp) h3, this.blocks, this.order, this.apart⟩
  · exact ⟨fun hl => by rw [getD_replicate_false] at hl; cases hl⟩
end
end Go.Proofs.Ytbdfaepljgajbaa
