/-
  Words and truth values read out of and written into a block that is known whole: one step each; a store leaves a new letter for the world.
-/
import Derived.Test.YtfjppgfnjjmkpaaChecked
import Derived.Test.YtfjppgfnjjmkpaaFields
import Derived.Test.YtfjppgfnjjmkpaaHelp
import Derived.WalkKit
import Derived.WalkSpells
import Derived.WalkLawsBesides
import Derived.Outline
import Derived.RowKit3
import Derived.Below
import Derived.Sort.Grow
import Derived.Laws.Rows
import Derived.Laws.Tables
namespace Go.Proofs.Ytfjppgfnjjmkpaa
open Go.RowKit

theorem load_u32 {w : World} {b i : Nat} {v : Value} (h : w.cell? ⟨b, i, none⟩ = some v) : (Instr.loadAt 23 (.pointer (some ⟨b, i, none⟩))).run Try.prog w = .ok v w := by
  have a := Try.isAgg23
  go_simp
theorem load_bool {w : World} {b i : Nat} {v : Value} (h : w.cell? ⟨b, i, none⟩ = some v) : (Instr.loadAt 4 (.pointer (some ⟨b, i, none⟩))).run Try.prog w = .ok v w := by
  have a := Try.isAgg4
  go_simp
theorem load_int {w : World} {b i : Nat} {v : Value} (h : w.cell? ⟨b, i, none⟩ = some v) : (Instr.loadAt 3 (.pointer (some ⟨b, i, none⟩))).run Try.prog w = .ok v w := by
  have a := Try.isAgg3
  go_simp
theorem store_u32 {w : World} {b i : Nat} {u : Value} (x : Int) (h : w.cell? ⟨b, i, none⟩ = some u) (hf : w.frozen? ⟨b, i, none⟩ = false) : (Instr.storeAt 23 (.pointer (some ⟨b, i, none⟩)) (.int .u32 x)).run Try.prog w = .ok () (w.setCell ⟨b, i, none⟩ (.int .u32 x)) := by
  have a := Try.isAgg23
  have z := Try.sizeOf23
  go_simp
theorem store_bool {w : World} {b i : Nat} {u : Value} (x : Bool) (h : w.cell? ⟨b, i, none⟩ = some u) (hf : w.frozen? ⟨b, i, none⟩ = false) : (Instr.storeAt 4 (.pointer (some ⟨b, i, none⟩)) (.bool x)).run Try.prog w = .ok () (w.setCell ⟨b, i, none⟩ (.bool x)) := by
  have a := Try.isAgg4
  have z := Try.sizeOf4
  go_simp

/-- What a store into the block b leaves: a world of its own letter. -/
structure Wrote1 (b i : Nat) (v : Value) (cs : Array Value) (t : TypeId) (w w' : World) : Prop where
  block : w'.heap[b]? = some (.cells (cs.setIfInBounds i v) t)
  other : ∀ k, k ≠ b → w'.heap[k]? = w.heap[k]?
  size : w'.heap.size = w.heap.size
  below : ∀ (B : Nat) (w0 : World), B ≤ b → Below B w0 w → Below B w0 w'
theorem wrote1 {w : World} {b i : Nat} {cs : Array Value} {t : TypeId} (h : w.heap[b]? = some (.cells cs t)) (v : Value) : Wrote1 b i v cs t w (w.setCell ⟨b, i, none⟩ v) :=
  ⟨heap_setCell_at v h, fun k hk => Below.heap_setCell _ _ _ _ hk, by simp [World.setCell], fun _ _ hB hb => hb.setCell hB _⟩

section
variable {ops : Array Oper} {rest : List Oper} {o : Oper} {a : Act} {w : World} {Q : Exit → Act → World → Prop}

theorem wpList_load_u32 (hgd : o.guard = none) {x : Operand} (ho : o.op = .load 23 x) {b i : Nat} (hx : a.eval x = .pointer (some ⟨b, i, none⟩)) {cs : Array Value} {t : TypeId} (hw : w.heap[b]? = some (.cells cs t)) {v : Value} (hv : cs[i]? = some v)
    (h : wpList Try.prog ops Q rest (a.put o.dst v) w) : wpList Try.prog ops Q (o :: rest) a w := by
  refine wpList_plain hgd fun K hK => ?_
  unfold Oper.wp execOp
  simp only [ho, hx, Sem.run_bind, Sem.run_pure, Result.andThen_ok, load_u32 ((cells_of hw).1 i v hv)]
  exact hK _ _ h
theorem wpList_load_bool (hgd : o.guard = none) {x : Operand} (ho : o.op = .load 4 x) {b i : Nat} (hx : a.eval x = .pointer (some ⟨b, i, none⟩)) {cs : Array Value} {t : TypeId} (hw : w.heap[b]? = some (.cells cs t)) {v : Value} (hv : cs[i]? = some v)
    (h : wpList Try.prog ops Q rest (a.put o.dst v) w) : wpList Try.prog ops Q (o :: rest) a w := by
  refine wpList_plain hgd fun K hK => ?_
  unfold Oper.wp execOp
  simp only [ho, hx, Sem.run_bind, Sem.run_pure, Result.andThen_ok, load_bool ((cells_of hw).1 i v hv)]
  exact hK _ _ h
theorem wpList_load_int (hgd : o.guard = none) {x : Operand} (ho : o.op = .load 3 x) {b i : Nat} (hx : a.eval x = .pointer (some ⟨b, i, none⟩)) {cs : Array Value} {t : TypeId} (hw : w.heap[b]? = some (.cells cs t)) {v : Value} (hv : cs[i]? = some v)
    (h : wpList Try.prog ops Q rest (a.put o.dst v) w) : wpList Try.prog ops Q (o :: rest) a w := by
  refine wpList_plain hgd fun K hK => ?_
  unfold Oper.wp execOp
  simp only [ho, hx, Sem.run_bind, Sem.run_pure, Result.andThen_ok, load_int ((cells_of hw).1 i v hv)]
  exact hK _ _ h
theorem wpList_store_u32 (hgd : o.guard = none) {x y : Operand} (ho : o.op = .store 23 x y) {b i : Nat} (hx : a.eval x = .pointer (some ⟨b, i, none⟩)) {n : Int} (hy : a.eval y = .int .u32 n) {cs : Array Value} {t : TypeId} (hw : w.heap[b]? = some (.cells cs t)) {u : Value} (hu : cs[i]? = some u)
    (h : ∀ w', Wrote1 b i (.int .u32 n) cs t w w' → wpList Try.prog ops Q rest (a.put o.dst undef) w') : wpList Try.prog ops Q (o :: rest) a w := by
  refine wpList_plain hgd fun K hK => ?_
  obtain ⟨cc, cf, _⟩ := cells_of hw
  unfold Oper.wp execOp
  simp only [ho, hx, hy, Sem.run_bind, Sem.run_pure, Result.andThen_ok, store_u32 n (cc i u hu) (cf i)]
  exact hK _ _ (h _ (wrote1 hw _))
theorem wpList_store_bool (hgd : o.guard = none) {x y : Operand} (ho : o.op = .store 4 x y) {b i : Nat} (hx : a.eval x = .pointer (some ⟨b, i, none⟩)) {n : Bool} (hy : a.eval y = .bool n) {cs : Array Value} {t : TypeId} (hw : w.heap[b]? = some (.cells cs t)) {u : Value} (hu : cs[i]? = some u)
    (h : ∀ w', Wrote1 b i (.bool n) cs t w w' → wpList Try.prog ops Q rest (a.put o.dst undef) w') : wpList Try.prog ops Q (o :: rest) a w := by
  refine wpList_plain hgd fun K hK => ?_
  obtain ⟨cc, cf, _⟩ := cells_of hw
  unfold Oper.wp execOp
  simp only [ho, hx, hy, Sem.run_bind, Sem.run_pure, Result.andThen_ok, store_bool n (cc i u hu) (cf i)]
  exact hK _ _ (h _ (wrote1 hw _))
end
end Go.Proofs.Ytfjppgfnjjmkpaa
