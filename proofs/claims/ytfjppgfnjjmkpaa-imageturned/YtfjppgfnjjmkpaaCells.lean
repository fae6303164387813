/-
  A block of n cells as a function of the place: reads, writes, a row in its middle; worlds that differ in few blocks. It speaks of no program.
-/
import Derived.Test.YtfjppgfnjjmkpaaHelp
import Derived.Deep.MidRow
import Derived.Laws.IdiomCopy
import Derived.BigFrame
namespace Go.Proofs.Ytfjppgfnjjmkpaa
open Go.RowKit

def cellsN (n : Nat) (g : Nat → Value) : Array Value := ((List.range n).map g).toArray
theorem cellsN_size (n : Nat) (g : Nat → Value) : (cellsN n g).size = n := by simp [cellsN]
theorem cellsN_at (n : Nat) (g : Nat → Value) (i : Nat) (h : i < n) : (cellsN n g)[i]? = some (g i) := by simp [cellsN, h]
theorem cellsN_ext {n : Nat} {g h : Nat → Value} (e : ∀ i, i < n → g i = h i) : cellsN n g = cellsN n h := by
  unfold cellsN
  congr 1
  apply List.map_congr_left
  intro i hi
  exact e i (by simpa using hi)
def updC (g : Nat → Value) (i : Nat) (v : Value) (j : Nat) : Value := if j = i then v else g j
theorem cellsN_put (n : Nat) (g : Nat → Value) (i : Nat) (v : Value) : (cellsN n g).setIfInBounds i v = cellsN n (updC g i v) := by
  apply Array.ext_getElem?
  intro j
  rw [Array.getElem?_setIfInBounds]
  by_cases hj : j < n
  · by_cases hij : i = j
    · subst hij
      rw [if_pos rfl, cellsN_size, if_pos hj, cellsN_at _ _ i hj]
      simp [updC]
    · rw [if_neg hij, cellsN_at _ _ j hj, cellsN_at _ _ j hj]
      simp [updC, Ne.symm hij]
  · have h1 : (cellsN n g)[j]? = none := by rw [Array.getElem?_eq_none_iff, cellsN_size]; omega
    have h2 : (cellsN n (updC g i v))[j]? = none := by rw [Array.getElem?_eq_none_iff, cellsN_size]; omega
    rw [h1, h2]
    by_cases hij : i = j
    · subst hij
      rw [if_pos rfl, cellsN_size, if_neg hj]
    · rw [if_neg hij]
/-- A row laid from k on. -/
def splC (g : Nat → Value) (k : Nat) (l : List Value) (j : Nat) : Value := if k ≤ j ∧ j < k + l.length then l.getD (j - k) undef else g j
theorem splC_cons (g : Nat → Value) (k : Nat) (v : Value) (l : List Value) : splC (updC g k v) (k + 1) l = splC g k (v :: l) := by
  funext j
  unfold splC updC
  by_cases h1 : j = k
  · subst h1
    rw [if_neg (by omega), if_pos rfl, if_pos (by simp), Nat.sub_self]
    rfl
  · by_cases h2 : k + 1 ≤ j ∧ j < k + 1 + l.length
    · rw [if_pos h2, if_pos (by simp only [List.length_cons]; omega), show j - k = (j - (k + 1)) + 1 by omega]
      rfl
    · rw [if_neg h2, if_neg h1, if_neg (by simp only [List.length_cons]; omega)]
theorem heap_setCells_at {b n : Nat} {t : TypeId} : ∀ (l : List Value) (k : Nat) (g : Nat → Value) (w : World), w.heap[b]? = some (.cells (cellsN n g) t) → (w.setCells b k l).heap[b]? = some (.cells (cellsN n (splC g k l)) t)
  | [], k, g, w, h => by
    have e : splC g k [] = g := by funext j; unfold splC; rw [if_neg (by simp)]
    rw [e]; exact h
  | v :: l, k, g, w, h => by
    rw [← splC_cons]
    refine heap_setCells_at l (k + 1) _ _ ?_
    rw [heap_setCell_at v h, cellsN_put]
theorem heap_setCells_other {b k : Nat} : ∀ (l : List Value) (o : Nat) (w : World), k ≠ b → (w.setCells b o l).heap[k]? = w.heap[k]?
  | [], _, _, _ => rfl
  | v :: l, o, w, h => by
    show ((w.setCell ⟨b, o, none⟩ v).setCells b (o + 1) l).heap[k]? = _
    rw [heap_setCells_other l (o + 1) _ h, Below.heap_setCell _ _ _ _ h]
theorem heap_setCells_size {b : Nat} : ∀ (l : List Value) (o : Nat) (w : World), (w.setCells b o l).heap.size = w.heap.size ∧ (w.setCells b o l).os = w.os ∧ (w.setCells b o l).tape = w.tape ∧ (w.setCells b o l).output = w.output
  | [], _, _ => ⟨rfl, rfl, rfl, rfl⟩
  | v :: l, o, w => by
    have := heap_setCells_size (b := b) l (o + 1) (w.setCell ⟨b, o, none⟩ v)
    refine ⟨this.1.trans (by simp [World.setCell]), this.2.1, this.2.2.1, this.2.2.2⟩
theorem cellsN_there {w : World} {b n : Nat} {g : Nat → Value} {t : TypeId} (h : w.heap[b]? = some (.cells (cellsN n g) t)) (k m : Nat) (hk : k + m ≤ n) : w.there b k m := fun j hj => by
  obtain ⟨cc, cf, _⟩ := cells_of h
  exact ⟨by rw [cc (k + j) _ (cellsN_at n g (k + j) (by omega))]; rfl, cf _⟩
theorem cellsN_range {w : World} {b n : Nat} {g : Nat → Value} {t : TypeId} (h : w.heap[b]? = some (.cells (cellsN n g) t)) (k : Nat) (l : List Value) (hl : k + l.length ≤ n) (he : ∀ j v, l[j]? = some v → g (k + j) = v) : w.rangeAt b k l := fun j v hv => by
  have hj : j < l.length := (List.getElem?_eq_some_iff.1 hv).1
  rw [(cells_of h).1 (k + j) _ (cellsN_at n g (k + j) (by omega)), he j v hv]

section
variable {P : Program} {ops : Array Oper} {rest : List Oper} {o : Oper} {a : Act} {w : World} {Q : Exit → Act → World → Prop}
/-- A row in the middle of a block is read, guarded or not. -/
theorem wpList_mids (hw : Region.wanted o (yielded ops a.tmps) = true) (ty : TypeId) (x : Operand) (ho : o.op = .load ty x) (b k : Nat) (hx : a.eval x = .pointer (some ⟨b, k, none⟩)) (cs : Array Value) (d : TypeDesc) (hc : w.rangeAt b k cs.toList)
    (hu : P.underlying ty = some d) (hd : d.isRow = true) (hi : (P.info? ty).map (·.size) = some cs.size)
    (h : wpList P ops Q rest (a.put o.dst (.agg cs)) w) : wpList P ops Q (o :: rest) a w :=
  BigFrame.wpList_want hw fun _ hK => wp_load_mid ty x ho b k hx cs.toList d hc hu hd (by rw [Array.length_toList]; exact hi) (by rw [Array.toArray_toList]; exact hK _ _ h)
theorem wpList_storem (hgd : o.guard = none) (ty : TypeId) (x y : Operand) (ho : o.op = .store ty x y) (b k : Nat) (cs : Array Value) (hx : a.eval x = .pointer (some ⟨b, k, none⟩)) (hy : a.eval y = .agg cs)
    (ht : w.there b k cs.size) (hi : (P.info? ty).map (·.size) = some cs.size) (h1 : cs.all (·.oneCell') = true)
    (h : ∀ w', w' = w.setCells b k cs.toList → wpList P ops Q rest (a.put o.dst undef) w') : wpList P ops Q (o :: rest) a w :=
  wpList_store_mid hgd ty x y ho b k cs hx hy ht hi h1 (h _ rfl)
end

/-- Of what was there only blocks of O have turned. -/
structure Chg (O : Nat → Prop) (w w' : World) : Prop where
  os : w'.os = w.os
  tape : w'.tape = w.tape
  output : w'.output = w.output
  size : w.heap.size ≤ w'.heap.size
  block : ∀ k, k < w.heap.size → ¬ O k → w'.heap[k]? = w.heap[k]?
theorem Chg.refl (O : Nat → Prop) (w : World) : Chg O w w := ⟨rfl, rfl, rfl, Nat.le_refl _, fun _ _ _ => rfl⟩
theorem Chg.trans {O : Nat → Prop} {w w' w'' : World} (h : Chg O w w') (h2 : Chg O w' w'') : Chg O w w'' :=
  ⟨h2.os.trans h.os, h2.tape.trans h.tape, h2.output.trans h.output, Nat.le_trans h.size h2.size, fun k hk ho => (h2.block k (Nat.lt_of_lt_of_le hk h.size) ho).trans (h.block k hk ho)⟩
theorem Chg.of {O : Nat → Prop} {w w' : World} (h : Below w.heap.size w w') : Chg O w w' := ⟨h.os, h.tape, h.output, h.size, fun k hk _ => h.block k hk⟩
theorem Chg.step {O : Nat → Prop} {w w' w'' : World} (h : Chg O w w') (h2 : Below w'.heap.size w' w'') : Chg O w w'' := h.trans (Chg.of h2)
theorem Chg.drew {O : Nat → Prop} {w w' : World} (h : Chg O w w') : Chg O w w'.drew := ⟨h.os, h.tape, h.output, h.size, h.block⟩
theorem Chg.alloc {O : Nat → Prop} {w w' : World} (h : Chg O w w') (o : Obj) : Chg O w (w'.alloc o) := h.step ((Below.refl _ _).alloc (Nat.le_refl _) _)
theorem Chg.set {O : Nat → Prop} {w w' : World} {b i : Nat} (h : Chg O w w') (hb : O b) (v : Value) : Chg O w (w'.setCell ⟨b, i, none⟩ v) :=
  ⟨h.os, h.tape, h.output, by simpa [World.setCell] using h.size, fun k hk ho => (Below.heap_setCell _ _ _ _ (fun e => ho (by rw [e]; exact hb))).trans (h.block k hk ho)⟩
theorem Chg.sets {O : Nat → Prop} {w w' : World} {b i : Nat} (h : Chg O w w') (hb : O b) (l : List Value) : Chg O w (w'.setCells b i l) := by
  obtain ⟨h1, h2, h3, h4⟩ := heap_setCells_size (b := b) l i w'
  exact ⟨h2.trans h.os, h3.trans h.tape, h4.trans h.output, by rw [h1]; exact h.size, fun k hk ho => (heap_setCells_other l i w' (fun e => ho (by rw [e]; exact hb))).trans (h.block k hk ho)⟩
theorem Chg.own {w w' : World} {b i : Nat} (h : Chg (· = b) w w') (v : Value) : Chg (· = b) w (w'.setCell ⟨b, i, none⟩ v) := h.set (O := (· = b)) rfl v
theorem Chg.owns {w w' : World} {b i : Nat} (h : Chg (· = b) w w') (l : List Value) : Chg (· = b) w (w'.setCells b i l) := h.sets (O := (· = b)) rfl l
theorem Chg.mono {O O' : Nat → Prop} {w w' : World} (h : Chg O w w') (ho : ∀ k, k < w.heap.size → O k → O' k) : Chg O' w w' := ⟨h.os, h.tape, h.output, h.size, fun k hk hn => h.block k hk (fun e => hn (ho k hk e))⟩
theorem Chg.kept {O : Nat → Prop} {w w' : World} {b : Nat} {ob : Obj} (h : Chg O w w') (hb : w.heap[b]? = some ob) (ho : ¬ O b) : w'.heap[b]? = some ob := by
  rw [h.block b (Array.getElem?_eq_some_iff.1 hb).1 ho]; exact hb
/-- A block turns that was made since: below B nothing has. -/
theorem Chg.below {O : Nat → Prop} {B : Nat} {w0 w w' : World} (h : Chg O w w') (hb : Below B w0 w) (hB : B ≤ w.heap.size) (ho : ∀ k, O k → B ≤ k) : Below B w0 w' :=
  hb.trans ⟨h.os, h.tape, h.output, h.size, fun k hk => h.block k (by omega) (fun e => by have := ho k e; omega)⟩
end Go.Proofs.Ytfjppgfnjjmkpaa
