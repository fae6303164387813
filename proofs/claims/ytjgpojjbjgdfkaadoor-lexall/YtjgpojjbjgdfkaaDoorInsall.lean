/-
  Operations of a region that may come in any order and that all turn one thing (the entries of a map that is laid by a literal), any number of them: an invariant by which of them have come, its orders not counted one by one. It speaks of no program.
-/
import Derived.Test.YtjgpojjbjgdfkaaDoorHeld
namespace Go.Proofs.YtjgpojjbjgdfkaaDoor
open Go.RowKit

/-- Those of I wait for what has come alone, and what else has not come waits for each of I. -/
def insAllB (ops : Array Oper) (I : List Nat) (base : Array Bool) : Bool :=
  I.all (fun i => decide (i < ops.size) && !(base.getD i true) && ((ops[i]?).map (·.after.all fun e => !Region.binds .any e || base.getD e.on false)).getD false) &&
  (List.range ops.size).all fun j => base.getD j true || I.contains j || I.all fun i => ((ops[j]?).map (·.after.any fun e => Region.binds .any e && e.on == i)).getD false
/-- What has come: the base, and those of I that are done. -/
def InsRel (I : List Nat) (base listed : Array Bool) (done : Nat → Bool) : Prop :=
  listed.size = base.size ∧ ∀ k, k < base.size → listed.getD k true = (base.getD k true || (I.contains k && done k))
theorem ready_mem {ops : Array Oper} {listed : Array Bool} {i : Nat} : i ∈ Region.ready .any ops listed ↔ i < ops.size ∧ listed.getD i true = false ∧ ((ops[i]?).map (·.after.all fun e => !Region.binds .any e || listed.getD e.on false)).getD false = true := by
  unfold Region.ready
  rw [List.mem_filter, List.mem_range, Bool.and_eq_true, Bool.not_eq_true']
theorem getD_eq {l : Array Bool} {k : Nat} (h : k < l.size) (a b : Bool) : l.getD k a = l.getD k b := by
  simp [Array.getD, h]
theorem count_less {l : List Nat} {done : Nat → Bool} {i : Nat} (hn : l.Nodup) (hi : i ∈ l) (hd : done i = false) : (l.filter fun j => !done j).length = (l.filter fun j => !(done j || j == i)).length + 1 := by
  induction l with
  | nil => cases hi
  | cons x l ih =>
    have hx := List.nodup_cons.1 hn
    by_cases e : x = i
    · subst e
      have e1 : (l.filter fun j => !(done j || j == x)) = l.filter fun j => !done j := by
        apply List.filter_congr
        intro j hj
        have : (j == x) = false := by
          rw [beq_eq_false_iff_ne]
          exact fun h => hx.1 (h ▸ hj)
        rw [this, Bool.or_false]
      rw [List.filter_cons, List.filter_cons, hd, e1]
      simp
    · have hi' : i ∈ l := by
        rcases List.mem_cons.1 hi with h | h
        · exact absurd h.symm e
        · exact h
      have ih' := ih hx.2 hi'
      have : (x == i) = false := by rw [beq_eq_false_iff_ne]; exact e
      rw [List.filter_cons, List.filter_cons, this, Bool.or_false]
      cases done x
      · simp only [Bool.not_false, if_true, List.length_cons]
        omega
      · simpa using ih'

section
variable {P : Program} {ops : Array Oper} {Q : Exit → Act → World → Prop} {S : World → Prop}
theorem ready_ins {I : List Nat} {base listed : Array Bool} {done : Nat → Bool} (hB : insAllB ops I base = true) (hsz : base.size = ops.size) (hr : InsRel I base listed done) {i0 : Nat} (hi0 : i0 ∈ I) (hd0 : done i0 = false) :
    i0 ∈ Region.ready .any ops listed ∧ ∀ i ∈ Region.ready .any ops listed, i ∈ I ∧ done i = false := by
  obtain ⟨hs, hl⟩ := hr
  unfold insAllB at hB
  rw [Bool.and_eq_true, List.all_eq_true, List.all_eq_true] at hB
  obtain ⟨hA, hC⟩ := hB
  have base_on : ∀ e : Nat, base.getD e false = true → listed.getD e false = true := fun e he => by
    have hlt : e < base.size := by
      by_cases h : e < base.size
      · exact h
      · rw [Array.getD_eq_getD_getElem?, Array.getElem?_eq_none (by omega)] at he
        cases he
    rw [getD_eq (by omega) false true, hl e hlt, getD_eq hlt true false, he, Bool.true_or]
  constructor
  · have h0 := hA i0 hi0
    simp only [Bool.and_eq_true, decide_eq_true_eq, Bool.not_eq_true'] at h0
    obtain ⟨⟨h1, h2⟩, h3⟩ := h0
    refine ready_mem.2 ⟨h1, ?_, ?_⟩
    · rw [hl i0 (by omega), h2, hd0, Bool.and_false]
      rfl
    · cases ho : ops[i0]? with
      | none => rw [ho] at h3; cases h3
      | some o =>
        rw [ho] at h3
        show (o.after.all fun e => !Region.binds .any e || listed.getD e.on false) = true
        have h4 : (o.after.all fun e => !Region.binds .any e || base.getD e.on false) = true := h3
        rw [Array.all_eq_true] at h4 ⊢
        intro k hk
        have h5 := h4 k hk
        rw [Bool.or_eq_true] at h5 ⊢
        rcases h5 with h5 | h5
        · exact .inl h5
        · exact .inr (base_on _ h5)
  · intro i hi
    obtain ⟨h1, h2, h3⟩ := ready_mem.1 hi
    have h4 := hl i (by omega)
    rw [h2] at h4
    have h5 : base.getD i true = false := by
      cases hb : base.getD i true with
      | false => rfl
      | true => rw [hb] at h4; cases h4
    have h6 : (I.contains i && done i) = false := by
      rw [h5, Bool.false_or] at h4
      exact h4.symm
    have hc := hC i (List.mem_range.2 h1)
    rw [h5, Bool.false_or] at hc
    cases hI : I.contains i
    · rw [hI, Bool.false_or, List.all_eq_true] at hc
      have h7 := hc i0 hi0
      cases ho : ops[i]? with
      | none => rw [ho] at h7; cases h7
      | some o =>
        rw [ho] at h7 h3
        have h8 : (o.after.any fun e => Region.binds .any e && e.on == i0) = true := h7
        have h9 : (o.after.all fun e => !Region.binds .any e || listed.getD e.on false) = true := h3
        rw [Array.any_eq_true] at h8
        rw [Array.all_eq_true] at h9
        obtain ⟨k, hk, h10⟩ := h8
        have h11 := h9 k hk
        rw [Bool.and_eq_true, beq_iff_eq] at h10
        rw [h10.1, h10.2, Bool.not_true, Bool.false_or] at h11
        have h0 := hA i0 hi0
        simp only [Bool.and_eq_true, decide_eq_true_eq, Bool.not_eq_true'] at h0
        have h12 := hl i0 (by omega)
        rw [h0.1.2, hd0, Bool.and_false, Bool.or_false, getD_eq (by omega) true false, h11] at h12
        cases h12
    · rw [hI, Bool.true_and] at h6
      exact ⟨by simpa using hI, h6⟩
theorem inserts_all (I : List Nat) (base final : Array Bool) (hB : insAllB ops I base = true) (hsz : base.size = ops.size) (hfz : final.size = base.size) (hff : ∀ k, k < base.size → final.getD k true = (base.getD k true || I.contains k)) (hnd : I.Nodup)
    (Inv : (Nat → Bool) → World → Prop) (a : Act) (m : Nat)
    (hstep : ∀ i ∈ I, ∃ o, ops[i]? = some o ∧ Region.wanted o (yielded ops a.tmps) = true ∧ o.dst = none ∧ ∀ done w, done i = false → Inv done w → S w → ∃ w', (execOp a.eval o).run P w = .ok .skip w' ∧ S w' ∧ Inv (fun j => done j || j == i) w')
    (hend : ∀ done w, (∀ i ∈ I, done i = true) → Inv done w → S w → wpAnyH P .any ops Q S m final a w) :
    ∀ (n : Nat) (done : Nat → Bool) (listed : Array Bool) (w : World), (I.filter fun j => !done j).length = n → InsRel I base listed done → Inv done w → S w → wpAnyH P .any ops Q S (m + n) listed a w
  | 0, done, listed, w, hn, hr, hi, hS => by
    have hall : ∀ i ∈ I, done i = true := fun i hi => by
      cases hd : done i with
      | true => rfl
      | false =>
        have : i ∈ I.filter fun j => !done j := List.mem_filter.2 ⟨hi, by rw [hd]; rfl⟩
        rw [List.length_eq_zero_iff.1 hn] at this
        cases this
    have e : listed = final := by
      apply Array.ext
      · rw [hr.1, hfz]
      · intro k h1 h2
        have h3 : k < base.size := by rw [← hfz]; exact h2
        have e1 := hr.2 k h3
        have e2 := hff k h3
        have e3 : (I.contains k && done k) = I.contains k := by
          cases hc : I.contains k with
          | false => rfl
          | true => rw [hall k (by simpa using hc)]; rfl
        rw [e3, ← e2] at e1
        simpa [Array.getD, h1, h2] using e1
    subst e
    exact hend done w hall hi hS
  | n + 1, done, listed, w, hn, hr, hi, hS => by
    obtain ⟨i0, hm⟩ : ∃ i0, i0 ∈ I.filter fun j => !done j := by
      cases hf : I.filter fun j => !done j with
      | nil => rw [hf] at hn; cases hn
      | cons x l => exact ⟨x, List.mem_cons_self ..⟩
    obtain ⟨hi0, hd0'⟩ := List.mem_filter.1 hm
    have hd0 : done i0 = false := by simpa using hd0'
    obtain ⟨hne, hall⟩ := ready_ins hB hsz hr hi0 hd0
    refine wpAnyH_all rfl (fun e => by rw [e] at hne; cases hne) fun i hir => ?_
    obtain ⟨hiI, hdi⟩ := hall i hir
    obtain ⟨o, ho, hw, hd, hs⟩ := hstep i hiI
    obtain ⟨w', hx, hS', hI'⟩ := hs done w hdi hi hS
    unfold wpOp
    simp only [ho]
    rw [if_pos hw]
    refine Or.inl ?_
    unfold Oper.wp
    rw [hx]
    show S w' ∧ wpAnyH P .any ops Q S (m + n) (listed.setIfInBounds i true) (a.put o.dst undef) w'
    rw [hd]
    refine ⟨hS', inserts_all I base final hB hsz hfz hff hnd Inv a m hstep hend n (fun j => done j || j == i) _ w' ?_ ⟨by rw [Array.size_setIfInBounds]; exact hr.1, fun k hk => ?_⟩ hI' hS'⟩
    · have := count_less hnd hiI hdi
      omega
    · by_cases e : k = i
      · subst e
        have hk2 : k < listed.size := by rw [hr.1]; exact hk
        rw [show I.contains k = true by simpa using hiI]
        simp [Array.getD, hk2]
      · have h1 := hr.2 k hk
        have e2 : (k == i) = false := by rw [beq_eq_false_iff_ne]; exact e
        show (listed.setIfInBounds i true).getD k true = (base.getD k true || (I.contains k && (done k || k == i)))
        rw [e2, Bool.or_false, ← h1]
        rw [Array.getD_eq_getD_getElem?, Array.getD_eq_getD_getElem?, Array.getElem?_setIfInBounds, if_neg (fun h => e h.symm)]
end
end Go.Proofs.YtjgpojjbjgdfkaaDoor
