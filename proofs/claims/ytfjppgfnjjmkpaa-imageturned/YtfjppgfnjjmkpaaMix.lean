/-
  A region that draws its order, some of whose operations only read or call, some lay new blocks, and some fill those blocks: what holds behind it, whatever the order was.
-/
import Derived.Test.YtfjppgfnjjmkpaaProg
import Derived.WalkKit
import Derived.Below
import Derived.Deep.Quiet
import Derived.StillTail
namespace Go.Proofs.Ytfjppgfnjjmkpaa
open Go.RowKit

/-- One new block: the operation that lays it, its slot and type, the operation that fills it and from which slot, its cells ahead of that and behind it. -/
structure Al where
  i : Nat
  p : Nat
  t : Nat
  k : Nat
  q : Nat
  z : Array Value
  f : Array Value

def Al.allocs (r : Al) (o : Oper) : Bool := (match o.op with | .alloc t => t == r.t | _ => false) && o.dst == some r.p
def waitsB (o : Oper) (m : Nat) : Bool := o.after.any fun e => Region.binds .any e && e.on == m
/-- What writes that slot has been waited for. -/
def readsB (l : List Oper) (o : Oper) (q : Nat) : Bool := (List.range l.length).all fun m => match l[m]? with | some om => om.dst != some q || waitsB o m | none => true
def Al.stores (l : List Oper) (r : Al) (o : Oper) : Bool :=
  (match o.op with | .store t (.tmp p) (.tmp q) => t == r.t && p == r.p && q == r.q | _ => false) && o.dst == none && waitsB o r.i && readsB l o r.q
def plainB (l : List Oper) (als : List Al) (o : Oper) : Bool :=
  (match o.op with | .alloc _ => false | .store .. => false | _ => true) &&
  (als.all fun r => o.dst != some r.p && !(o.looksAt l.toArray).contains r.p) && (o.looksAt l.toArray).all fun q => readsB l o q
def dstsB : List Oper → Bool
  | [] => true
  | o :: os => (match o.dst with | none => true | some d => os.all fun o' => o'.dst != some d) && dstsB os
def apartAl : List Al → Bool
  | [] => true
  | r :: rs => (rs.all fun s => r.i != s.i && r.p != s.p && r.k != s.k) && apartAl rs
def mixB (l : List Oper) (als : List Al) : Bool :=
  Region.noSelect l.toArray && (l.all fun o => o.guard.isNone) && dstsB l && apartAl als &&
  (als.all fun r => (match l[r.i]? with | some o => r.allocs o | none => false) && (match l[r.k]? with | some o => r.stores l o | none => false) && (als.all fun s => r.q != s.p)) &&
  (List.range l.length).all fun i => match l[i]? with
    | none => false
    | some o => (o.after.all fun e => !Region.binds .any e || decide (e.on < i)) &&
        ((als.any fun r => r.i == i) || (als.any fun r => r.k == i) || plainB l als o)

def lay : List Oper → List Value → Act → Act
  | o :: os, v :: vs, a => lay os vs (a.put o.dst v)
  | _, _, a => a

theorem put_size (a : Act) (d : Option Nat) (v : Value) : (a.put d v).tmps.size = a.tmps.size := by cases d <;> simp [Act.put]
theorem put_defers (a : Act) (d : Option Nat) (v : Value) : (a.put d v).defers = a.defers := by cases d <;> rfl
theorem put_other {a : Act} {d : Option Nat} {v : Value} {q : Nat} (h : d ≠ some q) : (a.put d v).tmps[q]? = a.tmps[q]? := by
  cases d with
  | none => rfl
  | some d =>
    have : d ≠ q := fun e => h (by rw [e])
    simp [Act.put, Array.getElem?_setIfInBounds_ne this]
theorem put_same {a : Act} {q : Nat} {v : Value} (h : q < a.tmps.size) : (a.put (some q) v).tmps[q]? = some v := by
  simp [Act.put, h]

theorem lay_size : ∀ (l : List Oper) (vs : List Value) (a : Act), (lay l vs a).tmps.size = a.tmps.size ∧ (lay l vs a).defers = a.defers
  | [], _, _ => ⟨rfl, rfl⟩
  | _ :: _, [], _ => ⟨rfl, rfl⟩
  | o :: os, v :: vs, a => by
    have h := lay_size os vs (a.put o.dst v)
    rw [put_size, put_defers] at h
    exact h
theorem lay_other (q : Nat) : ∀ (l : List Oper) (vs : List Value) (a : Act), (∀ o ∈ l, o.dst ≠ some q) → (lay l vs a).tmps[q]? = a.tmps[q]?
  | [], _, _, _ => rfl
  | _ :: _, [], _, _ => rfl
  | o :: os, v :: vs, a, h => by
    show (lay os vs (a.put o.dst v)).tmps[q]? = _
    rw [lay_other q os vs _ (fun o' ho' => h o' (List.mem_cons_of_mem _ ho')), put_other (h o List.mem_cons_self)]
theorem lay_at {d : Nat} : ∀ (l : List Oper) (vs : List Value) (a : Act) (i : Nat) (o : Oper) (v : Value), dstsB l = true → l[i]? = some o → vs[i]? = some v → o.dst = some d → d < a.tmps.size → (lay l vs a).tmps[d]? = some v
  | [], _, _, _, _, _, _, h, _, _, _ => by simp at h
  | _ :: _, [], _, _, _, _, _, _, h, _, _ => by simp at h
  | o :: os, v :: vs, a, 0, o', v', hB, h1, h2, hd, hs => by
    simp only [List.getElem?_cons_zero, Option.some.injEq] at h1 h2
    subst h1 h2
    simp only [dstsB, hd, Bool.and_eq_true, List.all_eq_true] at hB
    show (lay os vs (a.put o.dst v)).tmps[d]? = _
    rw [lay_other d os vs _ (fun o' ho' => by simpa using hB.1 o' ho'), hd, put_same hs]
  | o :: os, v :: vs, a, i + 1, o', v', hB, h1, h2, hd, hs => by
    simp only [List.getElem?_cons_succ] at h1 h2
    simp only [dstsB, Bool.and_eq_true] at hB
    exact lay_at os vs (a.put o.dst v) i o' v' hB.2 h1 h2 hd (by rw [put_size]; exact hs)
theorem dsts_one : ∀ (l : List Oper) (i j : Nat) (oi oj : Oper) (d : Nat), dstsB l = true → l[i]? = some oi → l[j]? = some oj → oi.dst = some d → oj.dst = some d → i = j
  | [], _, _, _, _, _, _, h, _, _, _ => by simp at h
  | o :: os, 0, 0, _, _, _, _, _, _, _, _ => rfl
  | o :: os, 0, j + 1, oi, oj, d, hB, h1, h2, d1, d2 => by
    simp only [List.getElem?_cons_zero, Option.some.injEq, List.getElem?_cons_succ] at h1 h2
    subst h1
    simp only [dstsB, d1, Bool.and_eq_true, List.all_eq_true] at hB
    have := hB.1 oj (List.mem_of_getElem? h2)
    simp [d2] at this
  | o :: os, i + 1, 0, oi, oj, d, hB, h1, h2, d1, d2 => by
    simp only [List.getElem?_cons_zero, Option.some.injEq, List.getElem?_cons_succ] at h1 h2
    subst h2
    simp only [dstsB, d2, Bool.and_eq_true, List.all_eq_true] at hB
    have := hB.1 oi (List.mem_of_getElem? h1)
    simp [d1] at this
  | o :: os, i + 1, j + 1, oi, oj, d, hB, h1, h2, d1, d2 => by
    simp only [List.getElem?_cons_succ] at h1 h2
    simp only [dstsB, Bool.and_eq_true] at hB
    rw [dsts_one os i j oi oj d hB.2 h1 h2 d1 d2]
theorem apart_of : ∀ (als : List Al), apartAl als = true → ∀ r ∈ als, ∀ s ∈ als, (r.i = s.i ∨ r.p = s.p ∨ r.k = s.k) → r = s
  | [], _, r, hr, _, _, _ => by cases hr
  | x :: xs, h, r, hr, s, hs, he => by
    simp only [apartAl, Bool.and_eq_true, List.all_eq_true, bne_iff_ne, ne_eq] at h
    rcases List.mem_cons.1 hr with rfl | hr'
    · rcases List.mem_cons.1 hs with rfl | hs'
      · rfl
      · have := h.1 s hs'; rcases he with e | e | e
        · exact absurd e this.1.1
        · exact absurd e this.1.2
        · exact absurd e this.2
    · rcases List.mem_cons.1 hs with rfl | hs'
      · have := h.1 r hr'; rcases he with e | e | e
        · exact absurd e.symm this.1.1
        · exact absurd e.symm this.1.2
        · exact absurd e.symm this.2
      · exact apart_of xs h.2 r hr' s hs' he

/-- One block has turned, and nothing else. -/
structure Turned (b : Nat) (o : Obj) (w w' : World) : Prop where
  os : w'.os = w.os
  tape : w'.tape = w.tape
  output : w'.output = w.output
  size : w'.heap.size = w.heap.size
  at_ : w'.heap[b]? = some o
  block : ∀ k, k ≠ b → w'.heap[k]? = w.heap[k]?

/-- Every operation that neither lays nor fills: in each world that has grown from the first one it yields its value, and of what is there nothing turns. -/
def mixAll (P : Program) (w0 : World) (af : Act) : List Oper → List Value → Prop
  | o :: os, v :: vs => (match o.op with | .alloc _ => True | .store .. => True | _ => ∀ w, Below w0.heap.size w0 w → o.quietAt P af (fun w' => Below w.heap.size w w') w v) ∧ mixAll P w0 af os vs
  | [], [] => True
  | _, _ => False
theorem mixAll_at {P : Program} {w0 : World} {af : Act} : ∀ (l : List Oper) (vs : List Value) (i : Nat) (o : Oper), mixAll P w0 af l vs → l[i]? = some o →
    ∃ v, vs[i]? = some v ∧ (match o.op with | .alloc _ => True | .store .. => True | _ => ∀ w, Below w0.heap.size w0 w → o.quietAt P af (fun w' => Below w.heap.size w w') w v)
  | [], _, _, _, _, h => by simp at h
  | _ :: _, [], _, _, h, _ => by simp [mixAll] at h
  | o :: os, v :: vs, 0, o', h, hi => by
    simp only [List.getElem?_cons_zero, Option.some.injEq] at hi
    subst hi
    exact ⟨v, rfl, h.1⟩
  | o :: os, v :: vs, i + 1, o', h, hi => by
    simp only [List.getElem?_cons_succ] at hi ⊢
    exact mixAll_at os vs i o' h.2 hi

structure MixInv (ex : List Nat) (l : List Oper) (als : List Al) (w0 : World) (a0 af : Act) (listed : Array Bool) (a : Act) (w : World) : Prop where
  size : l.length ≤ listed.size
  tsize : a.tmps.size = a0.tmps.size
  defs : a.defers = a0.defers
  below : Below w0.heap.size w0 w
  slots : ∀ q, (∀ r ∈ als, r.p ≠ q) → q ∉ ex → (∀ m om, l[m]? = some om → listed.getD m true = false → om.dst ≠ some q) → a.tmps[q]? = af.tmps[q]?
  blocks : ∀ r ∈ als, listed.getD r.i false = true → ∃ b, a.tmps[r.p]? = some (.pointer (some ⟨b, 0, none⟩)) ∧ w0.heap.size ≤ b ∧ b < w.heap.size ∧ w.heap[b]? = some (.cells (if listed.getD r.k false then r.f else r.z) r.t)
  order : ∀ r ∈ als, listed.getD r.k false = true → listed.getD r.i false = true
  apart : ∀ r ∈ als, ∀ s ∈ als, r.p ≠ s.p → listed.getD r.i false = true → listed.getD s.i false = true → a.tmps[r.p]? ≠ a.tmps[s.p]?

theorem waits_of {o : Oper} {m : Nat} (h : waitsB o m = true) {listed : Array Bool} (hall : ∀ e ∈ o.after, Region.binds .any e = true → listed.getD e.on false = true) : listed.getD m false = true := by
  obtain ⟨e, he, hb⟩ := Array.any_eq_true'.1 h
  simp only [Bool.and_eq_true, beq_iff_eq] at hb
  rw [← hb.2]; exact hall e he hb.1
theorem false_of_true {listed : Array Bool} {m : Nat} (h : listed.getD m false = true) : listed.getD m true = true := by
  rcases Nat.lt_or_ge m listed.size with h' | h'
  · simp [h'] at h ⊢; exact h
  · simp [Array.getElem?_eq_none h']
theorem reads_of {l : List Oper} {o : Oper} {q : Nat} (h : readsB l o q = true) {listed : Array Bool} (hall : ∀ e ∈ o.after, Region.binds .any e = true → listed.getD e.on false = true)
    (m : Nat) (om : Oper) (hm : l[m]? = some om) (hun : listed.getD m true = false) : om.dst ≠ some q := by
  intro hd
  have hlt : m < l.length := (List.getElem?_eq_some_iff.1 hm).1
  have := List.all_eq_true.1 h m (List.mem_range.2 hlt)
  simp only [hm, hd, bne_self_eq_false, Bool.false_or] at this
  rw [false_of_true (waits_of this hall)] at hun
  cases hun

theorem getD_set_iff {listed : Array Bool} {i j : Nat} (h : (listed.setIfInBounds i true).getD j false = true) : j = i ∨ listed.getD j false = true := by
  by_cases e : i = j
  · exact Or.inl e.symm
  · rw [getD_set_ne false e] at h; exact Or.inr h
theorem getD_set_self {listed : Array Bool} {i : Nat} (h : listed.getD i true = false) : (listed.setIfInBounds i true).getD i false = true := by
  rcases Nat.lt_or_ge i listed.size with h' | h'
  · simp [h']
  · simp [Array.getElem?_eq_none h'] at h
theorem unl_false {listed : Array Bool} {i : Nat} (h : listed.getD i true = false) : listed.getD i false = false := by
  rcases Nat.lt_or_ge i listed.size with h' | h'
  · simp [h'] at h ⊢; exact h
  · simp [Array.getElem?_eq_none h'] at h
theorem unl_old {listed : Array Bool} {i m : Nat} (hmi : m ≠ i) (h : listed.getD m true = false) : (listed.setIfInBounds i true).getD m true = false := by
  rw [getD_set_ne true (Ne.symm hmi)]; exact h

section
variable {ex : List Nat} {l : List Oper} {als : List Al} {vs : List Value} {w0 : World} {a0 af : Act} {listed : Array Bool} {a : Act} {w : World}

theorem inv_plain (I : MixInv ex l als w0 a0 af listed a w) (haf : af = lay l vs a0) (hds : dstsB l = true) {i : Nat} {o : Oper} {v : Value} (ho : l[i]? = some o) (hv : vs[i]? = some v) (hun : listed.getD i true = false)
    (hi : ∀ r ∈ als, r.i ≠ i ∧ r.k ≠ i ∧ o.dst ≠ some r.p) {w' : World} (hw : Below w.heap.size w w') : MixInv ex l als w0 a0 af (listed.setIfInBounds i true) (a.put o.dst v) w' := by
  have hbs : Below w0.heap.size w0 w' := I.below.trans (hw.mono I.below.size)
  refine ⟨by simpa using I.size, by rw [put_size]; exact I.tsize, by rw [put_defers]; exact I.defs, hbs, ?_, ?_, ?_, ?_⟩
  · intro q hq hex hm
    by_cases e : o.dst = some q
    · by_cases hlt : q < a0.tmps.size
      · rw [e, put_same (by rw [I.tsize]; exact hlt), haf, lay_at l vs a0 i o v hds ho hv e hlt]
      · rw [Array.getElem?_eq_none (by rw [put_size, I.tsize]; omega), Array.getElem?_eq_none (by rw [haf, (lay_size l vs a0).1]; omega)]
    · rw [put_other e]
      refine I.slots q hq hex fun m om h1 h2 => ?_
      by_cases hmi : m = i
      · subst hmi; rw [ho] at h1; cases h1; exact e
      · exact hm m om h1 (unl_old hmi h2)
  · intro r hr hl
    obtain ⟨h1, h2, h3⟩ := hi r hr
    obtain ⟨b, b1, b2, b3, b4⟩ := I.blocks r hr ((getD_set_iff hl).resolve_left h1)
    refine ⟨b, by rw [put_other h3]; exact b1, b2, Nat.lt_of_lt_of_le b3 hw.size, ?_⟩
    rw [hw.block b b3, b4, getD_set_ne false (Ne.symm h2)]
  · intro r hr hl
    obtain ⟨h1, h2, _⟩ := hi r hr
    exact getD_set_true (I.order r hr ((getD_set_iff hl).resolve_left h2))
  · intro r hr s hs hne hl hl'
    rw [put_other (hi r hr).2.2, put_other (hi s hs).2.2]
    exact I.apart r hr s hs hne ((getD_set_iff hl).resolve_left (hi r hr).1) ((getD_set_iff hl').resolve_left (hi s hs).1)

theorem inv_alloc (I : MixInv ex l als w0 a0 af listed a w) (hap : apartAl als = true) {r : Al} (hr : r ∈ als) {o : Oper} (ho : l[r.i]? = some o) (hd : o.dst = some r.p) (hun : listed.getD r.i true = false) (hne : ∀ s ∈ als, s.k ≠ r.i)
    (hp : ∀ r ∈ als, r.p < a0.tmps.size) : MixInv ex l als w0 a0 af (listed.setIfInBounds r.i true) (a.put o.dst (.pointer (some ⟨w.heap.size, 0, none⟩))) (w.alloc (.cells r.z r.t)) := by
  have hbs : Below w0.heap.size w0 (w.alloc (.cells r.z r.t)) := I.below.alloc I.below.size _
  have same : ∀ s ∈ als, s.i = r.i → s = r := fun s hs e => apart_of als hap s hs r hr (Or.inl e)
  have samep : ∀ s ∈ als, s.p = r.p → s = r := fun s hs e => apart_of als hap s hs r hr (Or.inr (Or.inl e))
  rw [hd]
  have pr : (a.put (some r.p) (.pointer (some ⟨w.heap.size, 0, none⟩))).tmps[r.p]? = some (.pointer (some ⟨w.heap.size, 0, none⟩)) := put_same (by rw [I.tsize]; exact hp r hr)
  have po : ∀ s ∈ als, s ≠ r → (a.put (some r.p) (.pointer (some ⟨w.heap.size, 0, none⟩))).tmps[s.p]? = a.tmps[s.p]? := fun s hs e => put_other fun h => e (samep s hs (Option.some.inj h).symm)
  refine ⟨by simpa using I.size, by rw [put_size]; exact I.tsize, by rw [put_defers]; exact I.defs, hbs, ?_, ?_, ?_, ?_⟩
  · intro q hq hex hm
    rw [put_other (fun e => hq r hr (Option.some.inj e))]
    refine I.slots q hq hex fun m om h1 h2 => ?_
    by_cases hmi : m = r.i
    · subst hmi; rw [ho] at h1; cases h1; rw [hd]; exact fun e => hq r hr (Option.some.inj e)
    · exact hm m om h1 (unl_old hmi h2)
  · intro s hs hl
    by_cases e : s = r
    · subst e
      refine ⟨w.heap.size, pr, I.below.size, by simp, ?_⟩
      have hk : (listed.setIfInBounds s.i true).getD s.k false = false := by
        rw [getD_set_ne false (Ne.symm (hne s hs))]
        cases hh : listed.getD s.k false with
        | false => rfl
        | true => have := I.order s hs hh; rw [unl_false hun] at this; cases this
      rw [hk]
      show (w.heap.push _)[w.heap.size]? = _
      simp
    · obtain ⟨b, b1, b2, b3, b4⟩ := I.blocks s hs ((getD_set_iff hl).resolve_left (fun h => e (same s hs h)))
      refine ⟨b, by rw [po s hs e]; exact b1, b2, by simp; omega, ?_⟩
      rw [Below.heap_alloc _ _ _ b3, b4, getD_set_ne false (Ne.symm (hne s hs))]
  · intro s hs hl
    rw [getD_set_ne false (Ne.symm (hne s hs))] at hl
    exact getD_set_true (I.order s hs hl)
  · intro x hx y hy hne' hl hl'
    by_cases ex : x = r
    · by_cases ey : y = r
      · subst ex ey; exact absurd rfl hne'
      · subst ex
        obtain ⟨b, b1, b2, b3, b4⟩ := I.blocks y hy ((getD_set_iff hl').resolve_left (fun h => ey (same y hy h)))
        rw [pr, po y hy ey, b1]
        intro h; injection h with h; injection h with h; injection h with h; injection h with h; omega
    · by_cases ey : y = r
      · subst ey
        obtain ⟨b, b1, b2, b3, b4⟩ := I.blocks x hx ((getD_set_iff hl).resolve_left (fun h => ex (same x hx h)))
        rw [pr, po x hx ex, b1]
        intro h; injection h with h; injection h with h; injection h with h; injection h with h; omega
      · rw [po x hx ex, po y hy ey]
        exact I.apart x hx y hy hne' ((getD_set_iff hl).resolve_left (fun h => ex (same x hx h))) ((getD_set_iff hl').resolve_left (fun h => ey (same y hy h)))

theorem inv_store (I : MixInv ex l als w0 a0 af listed a w) (hap : apartAl als = true) {r : Al} (hr : r ∈ als) {o : Oper} (ho : l[r.k]? = some o) (hd : o.dst = none) (hun : listed.getD r.k true = false) (hli : listed.getD r.i false = true) (hne : ∀ s ∈ als, s.i ≠ r.k)
    {b : Nat} (hb : a.tmps[r.p]? = some (.pointer (some ⟨b, 0, none⟩))) (hb0 : w0.heap.size ≤ b) (hb1 : b < w.heap.size) {w' : World} (ht : Turned b (.cells r.f r.t) w w') :
    MixInv ex l als w0 a0 af (listed.setIfInBounds r.k true) (a.put o.dst undef) w' := by
  have same : ∀ s ∈ als, s.k = r.k → s = r := fun s hs e => apart_of als hap s hs r hr (Or.inr (Or.inr e))
  have samep : ∀ s ∈ als, s.p = r.p → s = r := fun s hs e => apart_of als hap s hs r hr (Or.inr (Or.inl e))
  have hbs : Below w0.heap.size w0 w' := I.below.trans ⟨ht.os, ht.tape, ht.output, by rw [ht.size]; exact Nat.le_refl _, fun k hk => ht.block k (by omega)⟩
  rw [hd]
  show MixInv ex l als w0 a0 af (listed.setIfInBounds r.k true) a w'
  refine ⟨by simpa using I.size, I.tsize, I.defs, hbs, ?_, ?_, ?_, ?_⟩
  · intro q hq hex hm
    refine I.slots q hq hex fun m om h1 h2 => ?_
    by_cases hmi : m = r.k
    · subst hmi; rw [ho] at h1; cases h1; rw [hd]; exact fun e => by cases e
    · exact hm m om h1 (unl_old hmi h2)
  · intro s hs hl
    have hl0 := (getD_set_iff hl).resolve_left (hne s hs)
    obtain ⟨c, c1, c2, c3, c4⟩ := I.blocks s hs hl0
    by_cases e : s = r
    · subst e
      rw [hb] at c1
      injection c1 with h; injection h with h; injection h with h; injection h with h
      subst h
      exact ⟨b, hb, c2, by rw [ht.size]; exact c3, by rw [getD_set_self hun, ht.at_]; rfl⟩
    · have hcb : c ≠ b := by
        intro h
        subst h
        exact I.apart s hs r hr (fun h => e (samep s hs h)) hl0 hli (by rw [c1, hb])
      refine ⟨c, c1, c2, by rw [ht.size]; exact c3, ?_⟩
      rw [ht.block c hcb, c4, getD_set_ne false (fun h => e (same s hs h.symm))]
  · intro s hs hl
    rcases getD_set_iff hl with h | h
    · rw [same s hs h]; exact getD_set_true hli
    · exact getD_set_true (I.order s hs h)
  · intro x hx y hy hne' hl hl'
    exact I.apart x hx y hy hne' ((getD_set_iff hl).resolve_left (hne x hx)) ((getD_set_iff hl').resolve_left (hne y hy))

theorem count_zero {listed : Array Bool} (h : listed.count false ≤ 0) (m : Nat) (hm : m < listed.size) : listed.getD m false = true := by
  have h0 : listed.count false = 0 := by omega
  have h1 := Array.count_eq_zero.1 h0
  have h2 : listed[m] ≠ false := fun e => h1 (by rw [← e]; exact Array.getElem_mem hm)
  simp [hm]
  simpa using h2
theorem count_set {listed : Array Bool} {i : Nat} (h : listed.getD i true = false) {n : Nat} (hc : listed.count false ≤ n + 1) : (listed.setIfInBounds i true).count false ≤ n := by
  rcases Nat.lt_or_ge i listed.size with h' | h'
  · have hi : listed[i] = false := by simpa [h'] using h
    have hpos : 0 < listed.count false := Array.count_pos_iff.2 (by rw [← hi]; exact Array.getElem_mem h')
    rw [Array.setIfInBounds, dif_pos h', Array.count_set h', hi]
    simp
    omega
  · simp [Array.getElem?_eq_none h'] at h

theorem all_listed {ops : Array Oper} (hops : ∀ m, m < l.length → ops[m]? = l[m]?) (hB : mixB l als = true) (hsz : l.length ≤ listed.size) (h0 : Region.ready .any ops listed = []) : ∀ m, m < l.length → listed.getD m false = true := by
  intro m
  induction m using Nat.strongRecOn with
  | _ m ih =>
    intro hm
    cases hh : listed.getD m false with
    | true => rfl
    | false =>
      exfalso
      have hu : listed.getD m true = false := by
        have : m < listed.size := by omega
        simp [this] at hh ⊢; exact hh
      simp only [mixB, Bool.and_eq_true] at hB
      have h1 := List.all_eq_true.1 hB.2 m (List.mem_range.2 hm)
      have ho : l[m]? = some l[m] := List.getElem?_eq_getElem hm
      simp only [ho, Bool.and_eq_true] at h1
      have : m ∈ Region.ready .any ops listed := by
        refine mem_ready.2 ⟨hu, l[m], by rw [hops m hm, ho], fun e he hb => ?_⟩
        have h2 := Array.all_eq_true_iff_forall_mem.1 h1.1 e he
        simp only [hb, Bool.not_true, Bool.false_or, decide_eq_true_eq] at h2
        exact ih e.on h2 (by omega)
      rw [h0] at this
      cases this

theorem mix_step {P : Program} {Q : Exit → Act → World → Prop} {ops : Array Oper} (hops : ∀ m, m < l.length → ops[m]? = l[m]?) (haf : af = lay l vs a0) (hB : mixB l als = true) (hp : ∀ r ∈ als, r.p < a0.tmps.size) (hpl : mixAll P w0 af l vs)
    (hz : ∀ r ∈ als, ∀ w : World, (Instr.alloc r.t true (.tuple #[])).run P w = .ok (.pointer (some ⟨w.heap.size, 0, none⟩)) (w.alloc (.cells r.z r.t)))
    (hs : ∀ r ∈ als, ∀ (w : World) (b : Nat), w.heap[b]? = some (.cells r.z r.t) → ∃ w', (Instr.storeAt r.t (.pointer (some ⟨b, 0, none⟩)) (af.eval (.tmp r.q))).run P w = .ok () w' ∧ Turned b (.cells r.f r.t) w w')
    (I : MixInv [] l als w0 a0 af listed a w) {i : Nat} (hi : i ∈ Region.ready .any ops listed) (hlt : i < l.length) {K : Act → World → Prop} (ih : ∀ a' w', MixInv [] l als w0 a0 af (listed.setIfInBounds i true) a' w' → K a' w') :
    wpOp P ops Q i K a w := by
  obtain ⟨hun, o, ho, hall⟩ := mem_ready.1 hi
  have hol : l[i]? = some o := by rw [← hops i hlt]; exact ho
  have hB0 := hB
  simp only [mixB, Bool.and_eq_true] at hB0
  obtain ⟨⟨⟨⟨⟨hsel, hgu⟩, hds⟩, hap⟩, hal⟩, hcl⟩ := hB0
  have hguard : o.guard = none := by
    have := List.all_eq_true.1 hgu o (List.mem_of_getElem? hol)
    simpa using this
  have hclass := List.all_eq_true.1 hcl i (List.mem_range.2 hlt)
  simp only [hol, Bool.and_eq_true] at hclass
  have hkinds : ∀ r ∈ als, (∃ o', l[r.i]? = some o' ∧ r.allocs o' = true) ∧ (∃ o', l[r.k]? = some o' ∧ r.stores l o' = true) ∧ ∀ s ∈ als, r.q ≠ s.p := by
    intro r hr
    have := List.all_eq_true.1 hal r hr
    simp only [Bool.and_eq_true] at this
    obtain ⟨⟨h1, h2⟩, h3⟩ := this
    refine ⟨?_, ?_, fun s hs => by simpa using List.all_eq_true.1 h3 s hs⟩
    · cases h : l[r.i]? with
      | none => rw [h] at h1; cases h1
      | some o' => rw [h] at h1; exact ⟨o', rfl, h1⟩
    · cases h : l[r.k]? with
      | none => rw [h] at h2; cases h2
      | some o' => rw [h] at h2; exact ⟨o', rfl, h2⟩
  have hik : ∀ r ∈ als, ∀ s ∈ als, r.i ≠ s.k := by
    intro r hr s hs e
    obtain ⟨o1, h1, k1⟩ := (hkinds r hr).1
    obtain ⟨o2, h2, k2⟩ := (hkinds s hs).2.1
    rw [e, h2] at h1
    cases h1
    simp only [Al.allocs, Bool.and_eq_true] at k1
    simp only [Al.stores, Bool.and_eq_true] at k2
    have e1 := k1.1
    have e2 := k2.1.1.1
    split at e1
    · rename_i h; rw [h] at e2; cases e2
    · cases e1
  unfold wpOp
  rw [ho]
  have hwant : Region.wanted o (yielded ops a.tmps) = true := by simp [Region.wanted, hguard]
  simp only [hwant, if_true]
  refine Or.inl ?_
  unfold Oper.wp
  by_cases hA : ∃ r ∈ als, r.i = i
  · obtain ⟨r, hr, rfl⟩ := hA
    obtain ⟨o', ho', hk⟩ := (hkinds r hr).1
    rw [hol] at ho'
    cases ho'
    simp only [Al.allocs, Bool.and_eq_true, beq_iff_eq] at hk
    have hop : o.op = .alloc r.t := by
      have := hk.1
      split at this
      · rename_i t h; rw [h]; congr 1; simpa using this
      · cases this
    have hrun : (execOp a.eval o).run P w = .ok (.value (.pointer (some ⟨w.heap.size, 0, none⟩))) (w.alloc (.cells r.z r.t)) := by
      unfold execOp
      rw [hop]
      simp [hz r hr w]
    rw [hrun]
    exact ih _ _ (inv_alloc I hap hr hol hk.2 hun (fun s hs e => hik r hr s hs e.symm) hp)
  · by_cases hS : ∃ r ∈ als, r.k = i
    · obtain ⟨r, hr, rfl⟩ := hS
      obtain ⟨o', ho', hk⟩ := (hkinds r hr).2.1
      rw [hol] at ho'
      cases ho'
      simp only [Al.stores, Bool.and_eq_true, beq_iff_eq] at hk
      obtain ⟨⟨⟨hk1, hd⟩, hwi⟩, hrd⟩ := hk
      have hop : o.op = .store r.t (.tmp r.p) (.tmp r.q) := by
        split at hk1
        · rename_i t p q h
          simp only [Bool.and_eq_true, beq_iff_eq] at hk1
          rw [h, hk1.1.1, hk1.1.2, hk1.2]
        · cases hk1
      have hli : listed.getD r.i false = true := waits_of hwi hall
      have hk0 : listed.getD r.k false = false := unl_false hun
      obtain ⟨b, b1, b2, b3, b4⟩ := I.blocks r hr hli
      rw [hk0] at b4
      have eq : a.eval (.tmp r.q) = af.eval (.tmp r.q) := by
        have := I.slots r.q (fun s hs e => (hkinds r hr).2.2 s hs e.symm) (by simp) (fun m om h1 h2 => reads_of hrd hall m om h1 h2)
        simp only [Act.eval, Array.getD_eq_getD_getElem?, this]
      have ep : a.eval (.tmp r.p) = .pointer (some ⟨b, 0, none⟩) := by
        simp only [Act.eval, Array.getD_eq_getD_getElem?, b1, Option.getD_some]
      obtain ⟨w', hw', ht⟩ := hs r hr w b b4
      have hrun : (execOp a.eval o).run P w = .ok .skip w' := by
        unfold execOp
        rw [hop]
        simp [ep, eq, hw']
      rw [hrun]
      exact ih _ _ (inv_store I hap hr hol hd hun hli (fun s hs e => hik s hs r hr e) b1 b2 b3 ht)
    · have hpb : plainB l als o = true := by
        rcases hclass.2 with h
        simp only [Bool.or_eq_true] at h
        rcases h with (h | h) | h
        · obtain ⟨r, hr, e⟩ := List.any_eq_true.1 h
          exact absurd ⟨r, hr, by simpa using e⟩ hA
        · obtain ⟨r, hr, e⟩ := List.any_eq_true.1 h
          exact absurd ⟨r, hr, by simpa using e⟩ hS
        · exact h
      simp only [plainB, Bool.and_eq_true] at hpb
      obtain ⟨⟨hk, hnp⟩, hrd⟩ := hpb
      obtain ⟨v, hv, hq⟩ := mixAll_at l vs i o hpl hol
      have hq' : ∀ w, Below w0.heap.size w0 w → o.quietAt P af (fun w' => Below w.heap.size w w') w v := by
        split at hq
        · rename_i h; rw [h] at hk; cases hk
        · rename_i h; rw [h] at hk; cases hk
        · exact hq
      have hnp' : ∀ r ∈ als, o.dst ≠ some r.p ∧ r.p ∉ o.looksAt l.toArray := by
        intro r hr
        have := List.all_eq_true.1 hnp r hr
        simpa using this
      have heq : execOp a.eval o = execOp af.eval o := by
        refine execOp_congr o (fun cs b => Region.noSelect_spec hsel i o cs b (by simpa using hol)) fun x hx => ?_
        cases x with
        | tmp t =>
          have hmem : t ∈ o.looksAt l.toArray := List.mem_append_left _ (List.mem_filterMap.2 ⟨.tmp t, by simpa using hx, rfl⟩)
          have h1 := List.all_eq_true.1 hrd t hmem
          have := I.slots t (fun r hr e => (hnp' r hr).2 (e ▸ hmem)) (by simp) (fun m om h2 h3 => reads_of h1 hall m om h2 h3)
          simp only [Act.eval, Array.getD_eq_getD_getElem?, this]
        | _ => rfl
      have hgo := hq' w I.below
      unfold Oper.quietAt at hgo
      rw [heq]
      have hnext : ∀ w', Below w.heap.size w w' → K (a.put o.dst v) w' := fun w' hw' =>
        ih _ _ (inv_plain I haf hds hol hv hun (fun r hr => ⟨fun e => hA ⟨r, hr, e⟩, fun e => hS ⟨r, hr, e⟩, (hnp' r hr).1⟩) hw')
      generalize (execOp af.eval o).run P w = res at hgo
      cases res with
      | ok n w' =>
        cases n <;> simp only [Oper.quietUpon] at hgo <;> simp only [Oper.upon]
        case value u =>
          obtain ⟨rfl, rfl⟩ := hgo
          exact hnext _ (Below.refl _ _)
        case skip =>
          obtain ⟨rfl, rfl⟩ := hgo
          exact hnext _ (Below.refl _ _)
        case enter f args =>
          obtain ⟨rfl, hcall⟩ := hgo
          exact hcall.mono fun e w'' ⟨he, hw''⟩ => by subst he; exact hnext _ hw''
      | halt x w' => simp only [Oper.quietUpon] at hgo

theorem mix_any {P : Program} {Q : Exit → Act → World → Prop} (haf : af = lay l vs a0) (hB : mixB l als = true) (hp : ∀ r ∈ als, r.p < a0.tmps.size) (hpl : mixAll P w0 af l vs)
    (hz : ∀ r ∈ als, ∀ w : World, (Instr.alloc r.t true (.tuple #[])).run P w = .ok (.pointer (some ⟨w.heap.size, 0, none⟩)) (w.alloc (.cells r.z r.t)))
    (hs : ∀ r ∈ als, ∀ (w : World) (b : Nat), w.heap[b]? = some (.cells r.z r.t) → ∃ w', (Instr.storeAt r.t (.pointer (some ⟨b, 0, none⟩)) (af.eval (.tmp r.q))).run P w = .ok () w' ∧ Turned b (.cells r.f r.t) w w')
    (hQ : ∀ a w listed, MixInv [] l als w0 a0 af listed a w → (∀ m, m < l.length → listed.getD m false = true) → Q .normal a w) :
    ∀ (fuel : Nat) (listed : Array Bool) (a : Act) (w : World), listed.count false ≤ fuel → MixInv [] l als w0 a0 af listed a w → wpAny P .any l.toArray Q fuel listed a w := by
  intro fuel
  induction fuel with
  | zero =>
    intro listed a w hc I
    have hall : ∀ m, m < l.length → listed.getD m false = true := fun m hm => count_zero hc m (Nat.lt_of_lt_of_le hm I.size)
    refine ⟨List.eq_nil_iff_forall_not_mem.2 fun j hj => ?_, hQ a w listed I hall⟩
    obtain ⟨hun, o, ho, _⟩ := mem_ready.1 hj
    have hj' : j < l.length := by have := (Array.getElem?_eq_some_iff.1 ho).1; simpa using this
    have := hall j hj'
    rw [unl_false hun] at this
    cases this
  | succ fuel ih =>
    intro listed a w hc I
    refine ⟨fun h0 => hQ a w listed I (all_listed (fun m hm => by simp) hB I.size h0), fun i hi => ?_⟩
    have hun := (mem_ready.1 hi).1
    have hlt : i < l.length := by
      obtain ⟨_, o, ho, _⟩ := mem_ready.1 hi
      have := (Array.getElem?_eq_some_iff.1 ho).1
      simpa using this
    exact mix_step (fun m hm => by simp) haf hB hp hpl hz hs I hi hlt fun a' w' I' => ih _ _ _ (count_set hun hc) I'

/-- The blocks' addresses laid into their slots. -/
def putAl (β : Nat → Nat) : List Al → Act → Act
  | [], a => a
  | r :: rs, a => putAl β rs (a.put (some r.p) (.pointer (some ⟨β r.p, 0, none⟩)))
theorem putAl_size (β : Nat → Nat) : ∀ (als : List Al) (a : Act), (putAl β als a).tmps.size = a.tmps.size ∧ (putAl β als a).defers = a.defers
  | [], _ => ⟨rfl, rfl⟩
  | r :: rs, a => by
    have h := putAl_size β rs (a.put (some r.p) (.pointer (some ⟨β r.p, 0, none⟩)))
    rw [put_size, put_defers] at h
    exact h
theorem putAl_other (β : Nat → Nat) (q : Nat) : ∀ (als : List Al) (a : Act), (∀ r ∈ als, r.p ≠ q) → (putAl β als a).tmps[q]? = a.tmps[q]?
  | [], _, _ => rfl
  | r :: rs, a, h => by
    show (putAl β rs _).tmps[q]? = _
    rw [putAl_other β q rs _ (fun s hs => h s (List.mem_cons_of_mem _ hs)), put_other (fun e => h r List.mem_cons_self (Option.some.inj e))]
theorem putAl_at (β : Nat → Nat) (q : Nat) : ∀ (als : List Al) (a : Act), (∃ r ∈ als, r.p = q) → q < a.tmps.size → (putAl β als a).tmps[q]? = some (.pointer (some ⟨β q, 0, none⟩))
  | [], _, h, _ => by obtain ⟨r, hr, _⟩ := h; cases hr
  | r :: rs, a, h, hq => by
    show (putAl β rs _).tmps[q]? = _
    by_cases h' : ∃ s ∈ rs, s.p = q
    · exact putAl_at β q rs _ h' (by rw [put_size]; exact hq)
    · obtain ⟨s, hs, e⟩ := h
      rcases List.mem_cons.1 hs with rfl | hs
      · rw [putAl_other β q rs _ (fun t ht e => h' ⟨t, ht, e⟩), e, put_same hq]
      · exact absurd ⟨s, hs, e⟩ h'

theorem mix_final (hB : mixB l als = true) (hp : ∀ r ∈ als, r.p < a0.tmps.size) (I : MixInv [] l als w0 a0 (lay l vs a0) listed a w) (hall : ∀ m, m < l.length → listed.getD m false = true) :
    ∃ β : Nat → Nat, a = putAl β als (lay l vs a0) ∧ Below w0.heap.size w0 w ∧ (∀ r ∈ als, w0.heap.size ≤ β r.p ∧ β r.p < w.heap.size ∧ w.heap[β r.p]? = some (.cells r.f r.t)) ∧ (∀ r ∈ als, ∀ s ∈ als, r.p ≠ s.p → β r.p ≠ β s.p) := by
  have hidx : ∀ r ∈ als, r.i < l.length ∧ r.k < l.length := by
    intro r hr
    have hB0 := hB
    simp only [mixB, Bool.and_eq_true] at hB0
    have := List.all_eq_true.1 hB0.1.2 r hr
    simp only [Bool.and_eq_true] at this
    obtain ⟨⟨h1, h2⟩, _⟩ := this
    constructor
    · cases h : l[r.i]? with
      | none => rw [h] at h1; cases h1
      | some o => exact (List.getElem?_eq_some_iff.1 h).1
    · cases h : l[r.k]? with
      | none => rw [h] at h2; cases h2
      | some o => exact (List.getElem?_eq_some_iff.1 h).1
  have hex : ∃ β : Nat → Nat, ∀ r ∈ als, a.tmps[r.p]? = some (.pointer (some ⟨β r.p, 0, none⟩)) := by
    refine ⟨fun q => match a.tmps[q]? with | some (.pointer (some b)) => b.block | _ => 0, fun r hr => ?_⟩
    obtain ⟨b, b1, _⟩ := I.blocks r hr (hall _ (hidx r hr).1)
    simp only [b1]
  obtain ⟨β, hβ⟩ := hex
  refine ⟨β, ?_, I.below, fun r hr => ?_, fun r hr s hs hne e => ?_⟩
  · have h1 : a.tmps = (putAl β als (lay l vs a0)).tmps := by
      apply Array.ext_getElem?
      intro q
      by_cases hq : ∃ r ∈ als, r.p = q
      · have hq' := hq
        obtain ⟨r, hr, rfl⟩ := hq
        rw [hβ r hr, putAl_at β r.p als _ hq' (by rw [(lay_size l vs a0).1]; exact hp r hr)]
      · rw [putAl_other β q als _ (fun r hr e => hq ⟨r, hr, e⟩)]
        refine I.slots q (fun r hr e => hq ⟨r, hr, e⟩) (by simp) fun m om h2 h3 => ?_
        have := hall m (List.getElem?_eq_some_iff.1 h2).1
        rw [unl_false h3] at this
        cases this
    have h2 : a.defers = (putAl β als (lay l vs a0)).defers := by rw [I.defs, (putAl_size β als _).2, (lay_size l vs a0).2]
    cases a
    generalize putAl β als (lay l vs a0) = c at *
    cases c
    simp only at h1 h2
    rw [h1, h2]
  · obtain ⟨b, b1, b2, b3, b4⟩ := I.blocks r hr (hall _ (hidx r hr).1)
    rw [hall _ (hidx r hr).2] at b4
    rw [hβ r hr] at b1
    injection b1 with h; injection h with h; injection h with h; injection h with h
    rw [h]
    exact ⟨b2, b3, b4⟩
  · refine I.apart r hr s hs hne (hall _ (hidx r hr).1) (hall _ (hidx s hs).1) ?_
    rw [hβ r hr, hβ s hs, e]

theorem mix_start (N : Nat) (hN : l.length ≤ N) (d : Nat) : MixInv [] l als w0 a0 (lay l vs a0) (Array.replicate N false) a0 { w0 with drawn := d } := by
  refine ⟨by simpa using hN, rfl, rfl, ⟨rfl, rfl, rfl, Nat.le_refl _, fun _ _ => rfl⟩, ?_, ?_, ?_, ?_⟩
  · intro q hq _ hm
    rw [lay_other q l vs a0]
    intro o ho
    obtain ⟨m, hm1, hm2⟩ := List.getElem_of_mem ho
    have : m < N := by omega
    exact hm m o (by rw [List.getElem?_eq_getElem hm1, hm2]) (by simp [this])
  · intro r hr h; rw [getD_replicate_false] at h; cases h
  · intro r hr h; rw [getD_replicate_false] at h; cases h
  · intro r hr s hs _ h; rw [getD_replicate_false] at h; cases h

/-- WHATEVER THE ORDER: behind the region the slots are those of the text's order, each new block lies somewhere behind what was there, apart from the others, with its cells filled. -/
theorem wp_region_mix {P : Program} {Q : Exit → Act → World → Prop} {id : Nat} (als : List Al) (vs : List Value) (hm : P.follows .mixedOrders = true) (hB : mixB l als = true) (hp : ∀ r ∈ als, r.p < a0.tmps.size)
    (hpl : mixAll P w0 (lay l vs a0) l vs)
    (hz : ∀ r ∈ als, ∀ w : World, (Instr.alloc r.t true (.tuple #[])).run P w = .ok (.pointer (some ⟨w.heap.size, 0, none⟩)) (w.alloc (.cells r.z r.t)))
    (hs : ∀ r ∈ als, ∀ (w : World) (b : Nat), w.heap[b]? = some (.cells r.z r.t) → ∃ w', (Instr.storeAt r.t (.pointer (some ⟨b, 0, none⟩)) ((lay l vs a0).eval (.tmp r.q))).run P w = .ok () w' ∧ Turned b (.cells r.f r.t) w w')
    (hQ : ∀ (β : Nat → Nat) (w : World), Below w0.heap.size w0 w → (∀ r ∈ als, w0.heap.size ≤ β r.p ∧ β r.p < w.heap.size ∧ w.heap[β r.p]? = some (.cells r.f r.t)) → (∀ r ∈ als, ∀ s ∈ als, r.p ≠ s.p → β r.p ≠ β s.p) →
      Q .normal (putAl β als (lay l vs a0)) w) : (Code.region id l.toArray true).wp P Q a0 w0 := by
  refine wp_region_any hm ?_
  refine mix_any (als := als) (vs := vs) (w0 := w0) (a0 := a0) (af := lay l vs a0) rfl hB hp hpl hz hs ?_ _ _ _ _ ?_ (mix_start _ (by simp) _)
  · intro a w listed I hall
    obtain ⟨β, e, h1, h2, h3⟩ := mix_final hB hp I hall
    rw [e]
    exact hQ β w h1 h2 h3
  · simp

/-- The first n have come, the others not. -/
def headListed (n g : Nat) : Array Bool := (List.replicate n true ++ List.replicate g false).toArray
def tailB (l : List Oper) (n : Nat) : Bool :=
  decide (n < l.length) && Region.sinkB .any l.toArray n && Region.chainB .any l.toArray n && Region.seqB .any l.toArray (l.length - n) n (headListed n (l.length - n))

theorem head_is {n N : Nat} (hn : n ≤ N) (hsz : listed.size = N) (hall : ∀ m, m < n → listed.getD m false = true) (ht : ∀ t, n ≤ t → t < N → listed.getD t true = false) : listed = headListed n (N - n) := by
  apply Array.ext
  · simp [headListed]; omega
  · intro i h1 h2
    by_cases hi : i < n
    · have := hall i hi
      simp [h1] at this
      rw [this]
      simp [headListed, hi]
    · have := ht i (by omega) (by omega)
      simp [h1] at this
      rw [this]
      simp [headListed, List.getElem_append, hi]

theorem mix_tail_any {P : Program} {Q : Exit → Act → World → Prop} {L : List Oper} {n : Nat} (hl : l = L.take n) (haf : af = lay l vs a0) (hB : mixB l als = true) (hT : tailB L n = true) (hp : ∀ r ∈ als, r.p < a0.tmps.size) (hpl : mixAll P w0 af l vs)
    (hz : ∀ r ∈ als, ∀ w : World, (Instr.alloc r.t true (.tuple #[])).run P w = .ok (.pointer (some ⟨w.heap.size, 0, none⟩)) (w.alloc (.cells r.z r.t)))
    (hs : ∀ r ∈ als, ∀ (w : World) (b : Nat), w.heap[b]? = some (.cells r.z r.t) → ∃ w', (Instr.storeAt r.t (.pointer (some ⟨b, 0, none⟩)) (af.eval (.tmp r.q))).run P w = .ok () w' ∧ Turned b (.cells r.f r.t) w w')
    (hQ : ∀ a w listed, MixInv [] l als w0 a0 af listed a w → (∀ m, m < l.length → listed.getD m false = true) → wpList P L.toArray Q (L.drop n) a w) :
    ∀ (fuel : Nat) (listed : Array Bool) (a : Act) (w : World), listed.count false = fuel → HeadInv .any L.toArray n listed → MixInv [] l als w0 a0 af listed a w → wpAny P .any L.toArray Q fuel listed a w := by
  simp only [tailB, Bool.and_eq_true, decide_eq_true_eq] at hT
  obtain ⟨⟨⟨hn, hsk⟩, hch⟩, hsq⟩ := hT
  have hll : l.length = n := by rw [hl]; simp; omega
  have hops : ∀ m, m < l.length → L.toArray[m]? = l[m]? := fun m hm => by rw [hl]; simp; rw [List.getElem?_take]; simp [show m < n by omega]
  intro fuel
  induction fuel with
  | zero =>
    intro listed a w hc H I
    exfalso
    have := count_zero (listed := listed) (by omega) n (by rw [H.size]; simpa using hn)
    have h2 := H.tail n (Nat.le_refl _) (by simpa using hn)
    rw [unl_false h2] at this
    cases this
  | succ fuel ih =>
    intro listed a w hc H I
    by_cases hall : ∀ m, m < l.length → listed.getD m false = true
    · have hL0 : listed = headListed n (L.length - n) := head_is (Nat.le_of_lt hn) (by rw [H.size]; simp) (fun m hm => hall m (by omega)) (fun t h1 h2 => H.tail t h1 (by simpa using h2))
      have hlen : fuel + 1 = (L.drop n).length := by
        rw [← hc, hL0]
        simp [headListed, List.count_append, List.count_replicate]
      rw [hlen]
      refine wpAny_of_seq (md := .any) (L.drop n) n listed a w (fun j => by simp [List.getElem?_drop]) ?_ (hQ a w listed I hall)
      rw [List.length_drop, hL0]
      exact hsq
    · obtain ⟨m, hm⟩ := Classical.not_forall.1 hall
      obtain ⟨hm1, hm2⟩ := Classical.not_imp.1 hm
      have hm3 : listed.getD m true = false := by
        have : m < listed.size := Nat.lt_of_lt_of_le hm1 I.size
        simp [this] at hm2 ⊢; exact hm2
      refine ⟨fun h0 => absurd (all_listed hops hB I.size h0 m hm1) hm2, fun i hi => ?_⟩
      have hin : i < n := by
        rcases Nat.lt_or_ge i n with h | h
        · exact h
        · exact absurd hi (tail_waits hsk hch (by simpa using hn) H (n - m) m rfl (by omega) hm3 i h)
      have hun := (mem_ready.1 hi).1
      refine mix_step hops haf hB hp hpl hz hs I hi (by omega) fun a' w' I' => ih _ _ _ ?_ (H.set hi hin) I'
      rcases Nat.lt_or_ge i listed.size with h' | h'
      · have hi' : listed[i] = false := by simpa [h'] using hun
        rw [Array.setIfInBounds, dif_pos h', Array.count_set h', hi']
        simp
        omega
      · simp [Array.getElem?_eq_none h'] at hun

/-- The same where the last operations come one behind the other: behind the first n ones, whatever their order was. -/
theorem wp_region_mix_tail {P : Program} {Q : Exit → Act → World → Prop} {id : Nat} {L : List Oper} (n : Nat) (als : List Al) (vs : List Value) (hm : P.follows .mixedOrders = true) (hB : mixB (L.take n) als = true) (hT : tailB L n = true) (hp : ∀ r ∈ als, r.p < a0.tmps.size)
    (hpl : mixAll P w0 (lay (L.take n) vs a0) (L.take n) vs)
    (hz : ∀ r ∈ als, ∀ w : World, (Instr.alloc r.t true (.tuple #[])).run P w = .ok (.pointer (some ⟨w.heap.size, 0, none⟩)) (w.alloc (.cells r.z r.t)))
    (hs : ∀ r ∈ als, ∀ (w : World) (b : Nat), w.heap[b]? = some (.cells r.z r.t) → ∃ w', (Instr.storeAt r.t (.pointer (some ⟨b, 0, none⟩)) ((lay (L.take n) vs a0).eval (.tmp r.q))).run P w = .ok () w' ∧ Turned b (.cells r.f r.t) w w')
    (hQ : ∀ (β : Nat → Nat) (w : World), Below w0.heap.size w0 w → (∀ r ∈ als, w0.heap.size ≤ β r.p ∧ β r.p < w.heap.size ∧ w.heap[β r.p]? = some (.cells r.f r.t)) → (∀ r ∈ als, ∀ s ∈ als, r.p ≠ s.p → β r.p ≠ β s.p) →
      wpList P L.toArray Q (L.drop n) (putAl β als (lay (L.take n) vs a0)) w) : (Code.region id L.toArray true).wp P Q a0 w0 := by
  refine wp_region_any hm ?_
  refine mix_tail_any (L := L) (n := n) (als := als) (vs := vs) (w0 := w0) (a0 := a0) (af := lay (L.take n) vs a0) rfl rfl hB hT hp hpl hz hs ?_ _ _ _ _ ?_ ?_ (mix_start _ (by simp; omega) _)
  · intro a w listed I hall
    obtain ⟨β, e, h1, h2, h3⟩ := mix_final hB hp I hall
    rw [e]
    exact hQ β w h1 h2 h3
  · simp
  · exact ⟨by simp, fun j oj _ hl => (by rw [getD_replicate_false] at hl; cases hl), fun t _ ht => getD_in (by simpa using ht) (getD_replicate_false _ _)⟩
end
end Go.Proofs.Ytfjppgfnjjmkpaa
