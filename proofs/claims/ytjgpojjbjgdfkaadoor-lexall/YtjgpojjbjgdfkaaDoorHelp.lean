/-
  Small facts on worlds, blocks, cells and quiet operations that the other texts share; they speak of no program.
-/
import Derived.Test.YtjgpojjbjgdfkaaDoorChecked
import Derived.WalkKit
import Derived.WalkSpells
import Derived.Below
import Derived.Deep.Quiet
import Derived.Deep.MidRow
import Derived.Laws.Strings
import Derived.Sort.Grow
namespace Go.Proofs.YtjgpojjbjgdfkaaDoor
open Go.RowKit

theorem bytes_ext {s t : ByteArray} (h : s.toList = t.toList) : s = t := by
  rw [ByteArray.toList_eq, ByteArray.toList_eq] at h
  obtain ⟨⟨l⟩⟩ := s
  obtain ⟨⟨m⟩⟩ := t
  simp only at h
  rw [h]
theorem cell_new (w : World) (xs : List Value) (t : TypeId) (k : Nat) (v : Value) (h : xs[k]? = some v) : (w.alloc (.cells xs.toArray t)).cell? ⟨w.heap.size, k, none⟩ = some v := by
  rw [World.cell?_alloc_new]
  simpa using h
/-- A block that was laid is there behind what only lays more. -/
theorem kept_block {w w1 : World} {ob : Obj} (hb : Below (w.alloc ob).heap.size (w.alloc ob) w1) : w1.heap[w.heap.size]? = some ob := by
  rw [hb.block _ (by simp)]
  show (w.heap.push ob)[w.heap.size]? = _
  simp
theorem kept_on {w w1 : World} {b : Nat} {ob : Obj} (h : w.heap[b]? = some ob) (hb : Below w.heap.size w w1) : w1.heap[b]? = some ob := by
  rw [hb.block _ (Array.getElem?_eq_some_iff.1 h).1]; exact h
theorem cells_of {w : World} {b : Nat} {cs : Array Value} {t : TypeId} (h : w.heap[b]? = some (.cells cs t)) :
    (∀ (i : Nat) (v : Value), cs[i]? = some v → w.cell? ⟨b, i, none⟩ = some v) ∧ (∀ i, w.frozen? ⟨b, i, none⟩ = false) ∧ b < w.heap.size := by
  refine ⟨fun i v hv => ?_, fun i => ?_, (Array.getElem?_eq_some_iff.1 h).1⟩
  · simp only [World.cell?, h]; simpa using hv
  · simp [World.frozen?, h]
theorem alloc_at (w : World) (ob : Obj) : (w.alloc ob).heap[w.heap.size]? = some ob := by
  show (w.heap.push ob)[w.heap.size]? = _
  simp
theorem World.size_alloc (w : World) (ob : Obj) : (w.alloc ob).heap.size = w.heap.size + 1 := by simp
theorem heap_setCell_at {w : World} {b i : Nat} {cs : Array Value} {t : TypeId} (v : Value) (h : w.heap[b]? = some (.cells cs t)) : (w.setCell ⟨b, i, none⟩ v).heap[b]? = some (.cells (cs.setIfInBounds i v) t) := by
  simp [World.setCell, Array.getElem?_modify, h]
theorem below_first {w w1 : World} {ob : Obj} (hb : Below (w.alloc ob).heap.size (w.alloc ob) w1) : Below w.heap.size w w1 :=
  ((Below.refl _ _).alloc (Nat.le_refl _) _).trans (hb.mono (by simp))
theorem below_step {w V W : World} (h : Below w.heap.size w V) (h2 : Below V.heap.size V W) : Below w.heap.size w W := h.trans (h2.mono h.size)
theorem below_grown {B : Nat} {w w1 w2 : World} {b : Nat} (h : Below B w w1) (hg : w1.grownBy w2 (some b)) (hB : B ≤ w1.heap.size) (hb : B ≤ b) : Below B w w2 :=
  h.grown hg hB (fun k e => by cases e; exact hb)
theorem below_setCells {B b : Nat} {w0 : World} (hb : B ≤ b) : ∀ (vs : List Value) (o : Nat) (w : World), Below B w0 w → Below B w0 (w.setCells b o vs)
  | [], _, _, h => h
  | _ :: vs, o, _, h => below_setCells hb vs (o + 1) _ (h.setCell hb _)
theorem box2 {w : World} {x y : Obj} : Below w.heap.size w ((w.alloc x).alloc y) := ((Below.refl _ _).alloc (Nat.le_refl _) _).alloc (by simp) _
theorem five_put {V w : World} {B : Nat} {u0 u1 u2 u3 u4 v0 v1 v2 v3 v4 : Value} (h0 : V.cell? ⟨B, 0, none⟩ = some u0) (h1 : V.cell? ⟨B, 1, none⟩ = some u1) (h2 : V.cell? ⟨B, 2, none⟩ = some u2) (h3 : V.cell? ⟨B, 3, none⟩ = some u3) (h4 : V.cell? ⟨B, 4, none⟩ = some u4) (hb : Below B w V) :
    ∃ Y, Y = ((((V.setCell ⟨B, 0, none⟩ v0).setCell ⟨B, 1, none⟩ v1).setCell ⟨B, 2, none⟩ v2).setCell ⟨B, 3, none⟩ v3).setCell ⟨B, 4, none⟩ v4 ∧ Y.cell? ⟨B, 0, none⟩ = some v0 ∧ Y.cell? ⟨B, 1, none⟩ = some v1 ∧ Y.cell? ⟨B, 2, none⟩ = some v2 ∧ Y.cell? ⟨B, 3, none⟩ = some v3 ∧ Y.cell? ⟨B, 4, none⟩ = some v4 ∧ B < Y.heap.size ∧ Y.heap.size = V.heap.size ∧ Below B w Y := by
  have hB : B < V.heap.size := World.block_lt_of_cell? _ _ h0
  refine ⟨_, rfl, ?_⟩
  have hbb : Below B w (((((V.setCell ⟨B, 0, none⟩ v0).setCell ⟨B, 1, none⟩ v1).setCell ⟨B, 2, none⟩ v2).setCell ⟨B, 3, none⟩ v3).setCell ⟨B, 4, none⟩ v4) := ((((hb.setCell (Nat.le_refl _) _).setCell (Nat.le_refl _) _).setCell (Nat.le_refl _) _).setCell (Nat.le_refl _) _).setCell (Nat.le_refl _) _
  have hs : (((((V.setCell ⟨B, 0, none⟩ v0).setCell ⟨B, 1, none⟩ v1).setCell ⟨B, 2, none⟩ v2).setCell ⟨B, 3, none⟩ v3).setCell ⟨B, 4, none⟩ v4).heap.size = V.heap.size := by simp [World.setCell]
  refine ⟨?_, ?_, ?_, ?_, ?_, by rw [hs]; exact hB, hs, hbb⟩ <;> simp [go_sem, h0, h1, h2, h3, h4]
theorem five_at {V w : World} {B0 B : Nat} {u0 u1 u2 u3 u4 v0 v1 v2 v3 v4 : Value} (h0 : V.cell? ⟨B, 0, none⟩ = some u0) (h1 : V.cell? ⟨B, 1, none⟩ = some u1) (h2 : V.cell? ⟨B, 2, none⟩ = some u2) (h3 : V.cell? ⟨B, 3, none⟩ = some u3) (h4 : V.cell? ⟨B, 4, none⟩ = some u4) (hb : Below B0 w V) (hB0 : B0 ≤ B) :
    ∃ Y, Y = ((((V.setCell ⟨B, 0, none⟩ v0).setCell ⟨B, 1, none⟩ v1).setCell ⟨B, 2, none⟩ v2).setCell ⟨B, 3, none⟩ v3).setCell ⟨B, 4, none⟩ v4 ∧ Y.cell? ⟨B, 0, none⟩ = some v0 ∧ Y.cell? ⟨B, 1, none⟩ = some v1 ∧ Y.cell? ⟨B, 2, none⟩ = some v2 ∧ Y.cell? ⟨B, 3, none⟩ = some v3 ∧ Y.cell? ⟨B, 4, none⟩ = some v4 ∧ Below B0 w Y := by
  refine ⟨_, rfl, ?_⟩
  have hbb : Below B0 w (((((V.setCell ⟨B, 0, none⟩ v0).setCell ⟨B, 1, none⟩ v1).setCell ⟨B, 2, none⟩ v2).setCell ⟨B, 3, none⟩ v3).setCell ⟨B, 4, none⟩ v4) := ((((hb.setCell hB0 _).setCell hB0 _).setCell hB0 _).setCell hB0 _).setCell hB0 _
  refine ⟨?_, ?_, ?_, ?_, ?_, hbb⟩ <;> simp [go_sem, h0, h1, h2, h3, h4]
/-- An operation that hands back a value and touches nothing is quiet; so is a call under its contract. -/
theorem quiet_run {P : Program} {o : Oper} {a : Act} {C : World → Prop} {w : World} {v : Value} (h : (execOp a.eval o).run P w = .ok (.value v) w) : o.quietAt P a C w v := by
  unfold Oper.quietAt; rw [h]; exact ⟨rfl, rfl⟩
theorem quiet_enter {P : Program} {o : Oper} {a : Act} {C : World → Prop} {w : World} {v : Value} (f : FuncId) (args : Array Value) (h : (execOp a.eval o).run P w = .ok (.enter f args) w) (hc : Calls P f args w fun e w' => e = .returned v ∧ C w') : o.quietAt P a C w v := by
  unfold Oper.quietAt; rw [h]; exact ⟨rfl, hc⟩
/-- Operations that hand back a value each, carried out one behind the other. -/
def runAll (P : Program) : List Oper → Act → World → Option (Act × World)
  | [], a, w => some (a, w)
  | o :: os, a, w => match o.guard, (execOp a.eval o).run P w with
    | none, .ok (.value v) w' => runAll P os (a.put o.dst v) w'
    | _, _ => none
theorem wpList_runAll {P : Program} {ops : Array Oper} {Q : Exit → Act → World → Prop} {rest : List Oper} : ∀ (l : List Oper) (a : Act) (w : World) (a' : Act) (w' : World), runAll P l a w = some (a', w') → wpList P ops Q rest a' w' → wpList P ops Q (l ++ rest) a w
  | [], a, w, a', w', h, hh => by
    simp only [runAll, Option.some.injEq, Prod.mk.injEq] at h
    rw [← h.1, ← h.2] at hh
    exact hh
  | o :: os, a, w, a', w', h, hh => by
    unfold runAll at h
    split at h
    · rename_i hg hr
      refine wpList_plain hg fun K hK => ?_
      unfold Oper.wp
      rw [hr]
      exact hK _ _ (wpList_runAll os _ _ a' w' h hh)
    · cases h
theorem wpList_take {P : Program} {ops : Array Oper} {Q : Exit → Act → World → Prop} {l : List Oper} {a : Act} {w : World} (n : Nat) (a' : Act) (w' : World) (h : runAll P (l.take n) a w = some (a', w')) (hh : wpList P ops Q (l.drop n) a' w') : wpList P ops Q l a w := by
  have := wpList_runAll (ops := ops) (Q := Q) (rest := l.drop n) _ _ _ _ _ h hh
  rwa [List.take_append_drop] at this
theorem results_cell {P : Program} {fn : Func} {tmps : Array Value} {w : World} {a : Nat} {t : TypeId} {b : Addr} {v : Value} (hr : fn.results = #[.cell a t]) (ha : tmps.getD a undef = .pointer (some b)) (hl : (loadVar t b).run P w = .ok v w) :
    (results fn tmps).run P w = .ok v w := by
  unfold results
  rw [hr]
  have ha' : tmps[a]?.getD undef = .pointer (some b) := by simpa using ha
  simp [ha', hl, asAddr]
end Go.Proofs.YtjgpojjbjgdfkaaDoor
