/-
  Whole rows inside a fence: a row in the middle of a block, a block known whole, a new block that is filled. (The plain laws' twins.) What a round that may turn one block alone keeps.
-/
import Derived.Test.YtfjppgfnjjmkpaaImh
import Derived.RangeFuncNested
import Derived.RangeFuncBound
import Derived.RangeFuncCalls
import Derived.RangeFuncLeaves
import Derived.Shelf.Abstract
import Derived.Shelf.RegionOpen
import Derived.OwnWalkIn
import Derived.TacticsInMore
import Derived.LoopNIn
import Derived.LoopIn
namespace Go.Proofs.Ytfjppgfnjjmkpaa
open Go.RowKit Go.Shelf
attribute [local go_sem] Oper.semAt_some

section
variable {F : Fence} {nF : Nat} {P : Program} {ops : Array Oper} {rest : List Oper} {o : Oper} {a : Act} {w : World} {Q : Exit → Act → World → Prop}
theorem wpListIn_load (hw : Region.wanted o (yielded ops a.tmps) = true) (ty : TypeId) (x : Operand) (ho : o.op = .load ty x) {p v : Value} (hx : a.eval x = p) (hr : (Instr.loadAt ty p).run P w = .ok v w)
    (h : wpListIn F nF P ops Q rest (a.put o.dst v) w) : wpListIn F nF P ops Q (o :: rest) a w := by
  refine Go.BigFrame.wpListIn_want hw fun K' hK' => ?_
  unfold Oper.wpIn
  refine ⟨by simp [Oper.about, ho], ?_⟩
  rw [Oper.semAt_plain F _ _ (by rw [ho]; intro c hc'; cases hc')]
  simp [execOp, ho, hx, hr, Result.andThen]
  exact hK' _ _ h
theorem wpListIn_mids (hw : Region.wanted o (yielded ops a.tmps) = true) (ty : TypeId) (x : Operand) (ho : o.op = .load ty x) (b k : Nat) (hx : a.eval x = .pointer (some ⟨b, k, none⟩)) (cs : Array Value) (d : TypeDesc) (hc : w.rangeAt b k cs.toList)
    (hu : P.underlying ty = some d) (hd : d.isRow = true) (hi : (P.info? ty).map (·.size) = some cs.size)
    (h : wpListIn F nF P ops Q rest (a.put o.dst (.agg cs)) w) : wpListIn F nF P ops Q (o :: rest) a w := by
  refine wpListIn_load hw ty x ho hx ?_ h
  have := run_loadVar_mid w b k ty cs.toList d hc hu hd (by rw [Array.length_toList]; exact hi)
  rw [Array.toArray_toList] at this
  simp only [Instr.loadAt, Instr.sureAddr, Sem.run_bind, Sem.run_pure, Result.andThen_ok, this]
theorem wpListIn_fill (hgd : o.guard = none) (ty : TypeId) (x y : Operand) (ho : o.op = .store ty x y) (hx : a.eval x = .pointer (some ⟨w.heap.size, 0, none⟩)) (cells : Array Value) (hy : a.eval y = .agg cells) (t : TypeId) (old : Array Value)
    (hi : (P.info? ty).map (·.size) = some cells.size) (hs : old.size = cells.size) (h1 : cells.all (·.oneCell') = true)
    (h : ∀ w', w'.heap[w.heap.size]? = some (.cells cells t) → Below w.heap.size w w' → wpListIn F nF P ops Q rest (a.put o.dst undef) w') : wpListIn F nF P ops Q (o :: rest) a (w.alloc (.cells old t)) := by
  refine wpListIn_plain hgd fun K' hK' => ?_
  have hr : (Instr.storeAt ty (.pointer (some ⟨w.heap.size, 0, none⟩)) (.agg cells)).run P (w.alloc (.cells old t)) = .ok () ((w.alloc (.cells old t)).setRow w.heap.size cells) := by
    simp only [Instr.storeAt, Instr.sureAddr, Sem.run_bind, Sem.run_pure, Result.andThen_ok, run_storeVar_row _ w.heap.size t ty old cells (alloc_at w _) hi hs h1]
  unfold Oper.wpIn
  refine ⟨by simp [Oper.about, ho], ?_⟩
  rw [Oper.semAt_plain F _ _ (by rw [ho]; intro c hc'; cases hc')]
  simp [execOp, ho, hx, hy, hr, Result.andThen]
  exact hK' _ _ (h _ (setRow_heap _ _ _ _ _ _ (alloc_at w _)) (row_below ((Below.refl _ _).alloc (Nat.le_refl _) _) (Nat.le_refl _) _))
end
theorem KC.range {A B : World} (h : KC A B) {b k : Nat} {l : List Value} (hr : A.rangeAt b k l) : B.rangeAt b k l := fun j v hv => by
  have := hr j v hv
  unfold World.cell? at this ⊢
  cases hb : A.heap[b]? with
  | none => rw [hb] at this; simp at this
  | some o =>
    cases o with
    | cells cs t fr => rw [h.same b cs t fr hb]; rw [hb] at this; exact this
    | _ => rw [hb] at this; simp at this
theorem kc_obj {w : World} (W : World) (l : Nat) (o o' : Obj) (_ : w.heap.size ≤ l) (h : W.heap[l]? = some o) (ho : o.isCells = false) (_ : o.isWalk = false) : KC W (W.putObj l o') :=
  ⟨by simp, fun k cs t fr hk => (World.putObj_heap_other (fun e => by subst e; rw [h] at hk; cases hk; cases ho)).trans hk⟩
/-- The regions that a range goes through. -/
def regL (i : Im) : List Rg := i.kern :: i.keys :: i.ps.flatMap fun p => [p.code, p.data]
theorem flat_at : ∀ (ps : List Pt) (k : Nat) (p : Pt), ps[k]? = some p → (ps.flatMap fun p => [p.code, p.data])[2 * k]? = some p.code ∧ (ps.flatMap fun p => [p.code, p.data])[2 * k + 1]? = some p.data
  | [], _, _, h => by cases h
  | a :: l, 0, p, h => by
    cases h
    exact ⟨rfl, rfl⟩
  | a :: l, k + 1, p, h => by
    have := flat_at l k p h
    rw [show 2 * (k + 1) = 2 * k + 2 by omega, show 2 * k + 2 + 1 = 2 * k + 1 + 2 by omega]
    exact this
theorem flat_len : ∀ ps : List Pt, (ps.flatMap fun p => [p.code, p.data]).length = 2 * ps.length
  | [] => rfl
  | a :: l => by
    show (([a.code, a.data] ++ l.flatMap fun p => [p.code, p.data]).length : Nat) = 2 * (l.length + 1)
    rw [List.length_append, flat_len l]
    show 2 + 2 * l.length = _
    omega
theorem reg_code {i : Im} {k : Nat} {p : Pt} (h : i.ps[k]? = some p) : (regL i)[2 + 2 * k]? = some p.code := by
  rw [show 2 + 2 * k = 2 * k + 1 + 1 by omega]
  exact (flat_at _ k p h).1
theorem reg_data {i : Im} {k : Nat} {p : Pt} (h : i.ps[k]? = some p) : (regL i)[3 + 2 * k]? = some p.data := by
  rw [show 3 + 2 * k = 2 * k + 1 + 1 + 1 by omega]
  exact (flat_at _ k p h).2
theorem reg_len (i : Im) : (regL i).length = 2 + 2 * i.ps.length := by
  show (i.ps.flatMap fun p => [p.code, p.data]).length + 1 + 1 = _
  rw [flat_len]
  omega
theorem val_at {Pr : Rg → Prop} {xs : List {r : Rg // Pr r}} {l : List Rg} (h : xs.map (·.1) = l) {j : Nat} {r : Rg} (hr : l[j]? = some r) : ∃ x : {r : Rg // Pr r}, xs[j]? = some x ∧ x.1 = r := by
  subst h
  rw [List.getElem?_map] at hr
  cases hx : xs[j]? with
  | none => rw [hx] at hr; cases hr
  | some x => rw [hx] at hr; cases hr; exact ⟨x, rfl, rfl⟩
end Go.Proofs.Ytfjppgfnjjmkpaa
