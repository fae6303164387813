/-
  Whole rows: a new block that is filled at once (the world behind it a new letter), a row read in a drawn region, a row in the middle of a block. It speaks of no program.
-/
import Derived.Test.YtfjppgfnjjmkpaaSched
import Derived.Test.YtfjppgfnjjmkpaaMix
import Derived.Laws.Rows
import Derived.Laws.Tables
import Derived.Deep.WholeRow
import Derived.BigFrame
namespace Go.Proofs.Ytfjppgfnjjmkpaa
open Go.RowKit

theorem row_below {B b : Nat} {w0 w : World} (h : Below B w0 w) (hb : B ≤ b) (cs : Array Value) : Below B w0 (w.setRow b cs) :=
  h.trans ⟨rfl, rfl, rfl, by simp, fun k hk => setRow_other _ _ _ _ (by omega)⟩

section
variable {P : Program} {ops : Array Oper} {rest : List Oper} {o : Oper} {a : Act} {w : World} {Q : Exit → Act → World → Prop}
/-- A new block is filled: behind it a new letter for the world. -/
theorem wpList_fill (hgd : o.guard = none) (ty : TypeId) (x y : Operand) (ho : o.op = .store ty x y) (hx : a.eval x = .pointer (some ⟨w.heap.size, 0, none⟩)) (cells : Array Value) (hy : a.eval y = .agg cells) (t : TypeId) (old : Array Value)
    (hi : (P.info? ty).map (·.size) = some cells.size) (hs : old.size = cells.size) (h1 : cells.all (·.oneCell') = true)
    (h : ∀ w', w'.heap[w.heap.size]? = some (.cells cells t) → Below w.heap.size w w' → wpList P ops Q rest (a.put o.dst undef) w') : wpList P ops Q (o :: rest) a (w.alloc (.cells old t)) :=
  wpList_store_row hgd ty x y ho _ cells hx hy t old (alloc_at w _) hi hs h1 (h _ (setRow_heap _ _ _ _ _ _ (alloc_at w _)) (row_below ((Below.refl _ _).alloc (Nat.le_refl _) _) (Nat.le_refl _) _))
/-- A whole row is read, guarded or not. -/
theorem wpList_row (hwd : Region.wanted o (yielded ops a.tmps) = true) (ty : TypeId) (x : Operand) (ho : o.op = .load ty x)
    (g : Nat) (hx : a.eval x = .pointer (some ⟨g, 0, none⟩)) (t : TypeId) (cs : Array Value) (d : TypeDesc) (hg : w.heap[g]? = some (.cells cs t))
    (hu : P.underlying ty = some d) (hd : (match d with | .struct _ | .array _ _ => true | _ => false) = true) (hi : (P.info? ty).map (·.size) = some cs.size)
    (h : wpList P ops Q rest (a.put o.dst (.agg cs)) w) : wpList P ops Q (o :: rest) a w :=
  BigFrame.wpList_want hwd fun _ hK => wp_load_row ty x ho g hx t cs _ d hg hu hd hi (hK _ _ h)
theorem quiet_row {C : World → Prop} (ty : TypeId) (x : Operand) (ho : o.op = .load ty x) (g : Nat) (hx : a.eval x = .pointer (some ⟨g, 0, none⟩)) (t : TypeId) (cs : Array Value) (ds : TypeDesc)
    (hg : w.heap[g]? = some (.cells cs t)) (hu : P.underlying ty = some ds) (hk : (match ds with | .struct _ | .array _ _ => true | _ => false) = true) (hi : (P.info? ty).map (·.size) = some cs.size) : o.quietAt P a C w (.agg cs) := by
  refine quiet_run ?_
  unfold execOp
  simp only [ho, hx, Instr.loadAt, Instr.sureAddr, Sem.run_bind, Sem.run_pure, Result.andThen_ok, run_loadVar_row w g t ty cs _ ds hg hu hk hi]
theorem turned_row (ty t : TypeId) (z f : Array Value) (hi : (P.info? ty).map (·.size) = some f.size) (hs : z.size = f.size) (h1 : f.all (·.oneCell') = true) (b : Nat) (h : w.heap[b]? = some (.cells z t)) :
    ∃ w', (Instr.storeAt ty (.pointer (some ⟨b, 0, none⟩)) (.agg f)).run P w = .ok () w' ∧ Turned b (.cells f t) w w' := by
  refine ⟨w.setRow b f, ?_, ⟨rfl, rfl, rfl, by simp, setRow_heap _ _ _ _ _ _ h, fun k hk => setRow_other _ _ _ _ hk⟩⟩
  simp only [Instr.storeAt, Instr.sureAddr, Sem.run_bind, Sem.run_pure, Result.andThen_ok, run_storeVar_row w b t ty z f h hi hs h1]
end
section
variable {P : Program} {ops : Array Oper} {Q : Exit → Act → World → Prop} {S : World → Prop} {o : Oper} {os : List Oper} {a : Act} {w : World}
/-- A row in the middle of a block, in a drawn region. -/
theorem sched_mid (d : Option Tmp) (hd : o.dst = d) (hw : Region.wanted o (yielded ops a.tmps) = true) (ty : TypeId) (x : Operand) (ho : o.op = .load ty x) (b k : Nat) (hx : a.eval x = .pointer (some ⟨b, k, none⟩)) (cs : List Value) (ds : TypeDesc)
    (hS : ∀ w, S w → w.rangeAt b k cs) (hu : P.underlying ty = some ds) (hk : ds.isRow = true) (hi : (P.info? ty).map (·.size) = some cs.length)
    (h : wpSched P ops Q S os (a.put d (.agg cs.toArray)) w) : wpSched P ops Q S (o :: os) a w := by
  refine sched_take (.agg cs.toArray) d hd (by unfold callB; rw [ho]) hw (fun w' hS' => ?_) h
  unfold execOp
  simp only [ho, hx, Instr.loadAt, Instr.sureAddr, Sem.run_bind, Sem.run_pure, Result.andThen_ok, run_loadVar_mid w' b k ty cs ds (hS w' hS') hu hk hi]
theorem sched_mids (d : Option Tmp) (hd : o.dst = d) (hw : Region.wanted o (yielded ops a.tmps) = true) (ty : TypeId) (x : Operand) (ho : o.op = .load ty x) (b k : Nat) (hx : a.eval x = .pointer (some ⟨b, k, none⟩)) (cs : Array Value) (ds : TypeDesc)
    (hS : ∀ w, S w → w.rangeAt b k cs.toList) (hu : P.underlying ty = some ds) (hk : ds.isRow = true) (hi : (P.info? ty).map (·.size) = some cs.size)
    (h : wpSched P ops Q S os (a.put d (.agg cs)) w) : wpSched P ops Q S (o :: os) a w :=
  sched_mid d hd hw ty x ho b k hx cs.toList ds hS hu hk (by rw [Array.length_toList]; exact hi) (by rw [Array.toArray_toList]; exact h)
theorem range_of {b k : Nat} {cs : Array Value} {t : TypeId} {l : List Value} (h : w.heap[b]? = some (.cells cs t)) (hl : ∀ j v, l[j]? = some v → cs[k + j]? = some v) : w.rangeAt b k l := fun j v hv => (cells_of h).1 _ _ (hl j v hv)
end
end Go.Proofs.Ytfjppgfnjjmkpaa
