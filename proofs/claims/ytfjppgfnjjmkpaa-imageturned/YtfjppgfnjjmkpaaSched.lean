/-
  A region that draws its order, walked in one order that is laid down ahead: whatever yields in every world of S comes as soon as it may, a call where nothing else may. One look (by evaluation) at the order, then a list of operations, one step each. It speaks of no program.
-/
import Derived.Test.YtfjppgfnjjmkpaaHelp
import Derived.Deep.RegionHeld3
namespace Go.Proofs.Ytfjppgfnjjmkpaa
open Go.RowKit

def callB (o : Oper) : Bool := match o.op with | .call c => (match c.callee with | .value _ => true | _ => false) | _ => false
/-- That order may come: who yields is free to come, a call comes alone. -/
def schedB (ops : Array Oper) : List Nat → Array Bool → Bool
  | [], listed => (Region.ready .any ops listed).isEmpty
  | i :: is, listed => (match ops[i]? with
    | none => false
    | some o => if callB o then Region.ready .any ops listed == [i] else (Region.ready .any ops listed).contains i && Region.free .any ops listed i) && schedB ops is (listed.setIfInBounds i true)
def schedOkB (ops : Array Oper) (σ : List Nat) : Bool := Region.noSelect ops && σ.length == ops.size && schedB ops σ (Array.replicate ops.size false)

section
variable {P : Program} {ops : Array Oper} {Q : Exit → Act → World → Prop} {S : World → Prop}

/-- The walk, an operation a step. -/
def wpSched (P : Program) (ops : Array Oper) (Q : Exit → Act → World → Prop) (S : World → Prop) : List Oper → Act → World → Prop
  | [], a, w => Q .normal a w
  | o :: os, a, w =>
    if callB o then (if Region.wanted o (yielded ops a.tmps) then ∃ f args, (execOp a.eval o).run P w = .ok (.enter f args) w ∧ Calls P f args w fun e w' => ∃ v, e = .returned v ∧ S w' ∧ wpSched P ops Q S os (a.put o.dst v) w' else wpSched P ops Q S os (a.put o.dst undef) w)
    else ∃ v, YieldsIf P ops S o v a ∧ wpSched P ops Q S os (a.put o.dst v) w

theorem sched_any (hs : Region.noSelect ops = true) (hQ : ∀ c d v a w, Q (.panic c) (a.put d v) w → Q (.panic c) a w) :
    ∀ (σ : List Nat) (listed : Array Bool) (a : Act) (w : World), schedB ops σ listed = true → S w → wpSched P ops Q S (σ.filterMap (ops[·]?)) a w → wpAnyH P .any ops Q S σ.length listed a w
  | [], listed, a, w, hb, _, h => by
    have : Region.ready .any ops listed = [] := by simpa [schedB] using hb
    exact wpAnyH_done this h _
  | i :: is, listed, a, w, hb, hS, h => by
    simp only [schedB, Bool.and_eq_true] at hb
    obtain ⟨h1, h2⟩ := hb
    cases ho : ops[i]? with
    | none => rw [ho] at h1; cases h1
    | some o =>
      simp only [ho] at h1
      have hl : (i :: is).filterMap (ops[·]?) = o :: is.filterMap (ops[·]?) := by simp [ho]
      rw [hl] at h
      unfold wpSched at h
      by_cases hc : callB o = true
      · rw [if_pos hc] at h1 h
        have hr : Region.ready .any ops listed = [i] := by simpa using h1
        refine wpAnyH_all hr (by simp) fun j hj => ?_
        have : j = i := by simpa using hj
        subst this
        unfold wpOp
        simp only [ho]
        by_cases hw : Region.wanted o (yielded ops a.tmps) = true
        · rw [if_pos hw] at h
          rw [if_pos hw]
          obtain ⟨f, args, hx, hcall⟩ := h
          refine Or.inl ?_
          unfold Oper.wp
          rw [hx]
          refine Calls.mono hcall ?_
          rintro e w' ⟨v, rfl, h3, h4⟩
          exact ⟨h3, sched_any hs hQ is _ _ _ h2 h3 h4⟩
        · rw [if_neg hw] at h
          rw [if_neg hw]
          exact ⟨hS, sched_any hs hQ is _ _ _ h2 hS h⟩
      · rw [if_neg hc] at h1 h
        simp only [Bool.and_eq_true] at h1
        obtain ⟨v, hy, hn⟩ := h
        exact wpAnyH_take ho hs h1.2 h1.1 (fun c a w => hQ c o.dst v a w) hy hS (sched_any hs hQ is _ _ _ h2 hS hn)

/-- THE LAW: the order σ may come (one evaluation); then the walk along it. -/
theorem wp_region_sched {id : Nat} {a : Act} {w : World} (S : World → Prop) (σ : List Nat) (L : List Oper) (hm : P.follows .mixedOrders = true) (hB : schedOkB ops σ = true) (hL : σ.filterMap (ops[·]?) = L) (hS : S w.drew)
    (h : wpSched P ops (NoPanic Q) S L a w.drew) : (Code.region id ops true).wp P Q a w := by
  simp only [schedOkB, Bool.and_eq_true, beq_iff_eq] at hB
  obtain ⟨⟨h1, h2⟩, h3⟩ := hB
  refine wp_region_noPanic (wp_region_held_drew (S := S) hm hS fun hS' => ?_)
  rw [← h2] at h3 ⊢
  subst hL
  exact sched_any h1 (fun c d v a w h => h) σ _ _ _ h3 hS' h

/-- The same walk serves a region that comes in order. -/
theorem seq_of_sched : ∀ (l : List Oper) (a : Act) (w : World), S w → wpSched P ops Q S l a w → wpList P ops Q l a w
  | [], _, _, _, h => h
  | o :: os, a, w, hS, h => by
    unfold wpSched at h
    unfold wpList
    by_cases hw : Region.wanted o (yielded ops a.tmps) = true
    · rw [if_pos hw]
      refine Or.inl ?_
      unfold Oper.wp
      by_cases hc : callB o = true
      · rw [if_pos hc, if_pos hw] at h
        obtain ⟨f, args, hx, hcall⟩ := h
        rw [hx]
        refine Calls.mono hcall ?_
        rintro e w' ⟨v, rfl, h3, h4⟩
        exact seq_of_sched os _ _ h3 h4
      · rw [if_neg hc] at h
        obtain ⟨v, hy, hn⟩ := h
        rcases hy with ⟨_, hv⟩ | ⟨hw', _⟩
        · rw [hv w hS]
          exact seq_of_sched os _ _ hS hn
        · rw [hw'] at hw; cases hw
    · rw [if_neg hw]
      by_cases hc : callB o = true
      · rw [if_pos hc, if_neg hw] at h
        exact seq_of_sched os _ _ hS h
      · rw [if_neg hc] at h
        obtain ⟨v, hy, hn⟩ := h
        rcases hy with ⟨hw', _⟩ | ⟨_, rfl⟩
        · exact absurd hw' hw
        · exact seq_of_sched os _ _ hS hn
theorem wp_region_seq {id : Nat} {a : Act} {w : World} (S : World → Prop) (L : List Oper) (hL : ops.toList = L) (hS : S w) (h : wpSched P ops Q S L a w) : (Code.region id ops false).wp P Q a w := by
  subst hL
  exact wp_region_list (seq_of_sched _ _ _ hS h)

variable {o : Oper} {os : List Oper} {a : Act} {w : World}
/-- From the operation that writes the slot d on. -/
theorem seq_at (d : Tmp) (_hd : o.dst = some d) (S : World → Prop) (hS : S w) (h : wpSched P ops Q S (o :: os) a w) : wpList P ops Q (o :: os) a w := seq_of_sched _ _ _ hS h
theorem sched_take (v : Value) (d : Option Tmp) (hd : o.dst = d) (hc : callB o = false) (hw : Region.wanted o (yielded ops a.tmps) = true) (hv : ∀ w, S w → (execOp a.eval o).run P w = .ok (.value v) w) (h : wpSched P ops Q S os (a.put d v) w) : wpSched P ops Q S (o :: os) a w := by
  subst hd
  unfold wpSched
  rw [if_neg (by rw [hc]; decide)]
  exact ⟨v, Or.inl ⟨hw, hv⟩, h⟩
theorem sched_skip (d : Option Tmp) (hd : o.dst = d) (hw : Region.wanted o (yielded ops a.tmps) = false) (h : wpSched P ops Q S os (a.put d undef) w) : wpSched P ops Q S (o :: os) a w := by
  subst hd
  unfold wpSched
  by_cases hc : callB o = true
  · rw [if_pos hc, if_neg (by rw [hw]; decide)]
    exact h
  · rw [if_neg hc]
    exact ⟨undef, Or.inr ⟨hw, rfl⟩, h⟩
theorem sched_call (f : FuncId) (args : Array Value) (d : Option Tmp) (hd : o.dst = d) (hc : callB o = true) (hw : Region.wanted o (yielded ops a.tmps) = true) (hx : (execOp a.eval o).run P w = .ok (.enter f args) w)
    (h : Calls P f args w fun e w' => ∃ v, e = .returned v ∧ S w' ∧ wpSched P ops Q S os (a.put d v) w') : wpSched P ops Q S (o :: os) a w := by
  subst hd
  unfold wpSched
  rw [if_pos hc, if_pos hw]
  exact ⟨f, args, hx, h⟩
theorem sched_done (h : Q .normal a w) : wpSched P ops Q S [] a w := h
/-- A whole row, out of a block that is known whole. -/
theorem sched_row (d : Option Tmp) (hd : o.dst = d) (hw : Region.wanted o (yielded ops a.tmps) = true) (ty : TypeId) (x : Operand) (ho : o.op = .load ty x) (g : Nat) (hx : a.eval x = .pointer (some ⟨g, 0, none⟩)) (t : TypeId) (cs : Array Value) (fr : Nat × Nat) (ds : TypeDesc)
    (hg : ∀ w, S w → w.heap[g]? = some (.cells cs t fr)) (hu : P.underlying ty = some ds) (hk : (match ds with | .struct _ | .array _ _ => true | _ => false) = true) (hi : (P.info? ty).map (·.size) = some cs.size)
    (h : wpSched P ops Q S os (a.put d (.agg cs)) w) : wpSched P ops Q S (o :: os) a w := by
  refine sched_take (.agg cs) d hd (by unfold callB; rw [ho]) hw (fun w' hS => ?_) h
  unfold execOp
  simp only [ho, hx, Instr.loadAt, Instr.sureAddr, Sem.run_bind, Sem.run_pure, Result.andThen_ok, run_loadVar_row w' g t ty cs fr ds (hg w' hS) hu hk hi]
/-- One operation of a list that comes in order. -/
theorem list_take (v : Value) (d : Option Tmp) (hd : o.dst = d) (hw : Region.wanted o (yielded ops a.tmps) = true) (hv : (execOp a.eval o).run P w = .ok (.value v) w) (h : wpList P ops Q os (a.put d v) w) : wpList P ops Q (o :: os) a w := by
  subst hd
  unfold wpList
  rw [if_pos hw]
  refine Or.inl ?_
  unfold Oper.wp
  rw [hv]
  exact h
end
end Go.Proofs.Ytfjppgfnjjmkpaa
