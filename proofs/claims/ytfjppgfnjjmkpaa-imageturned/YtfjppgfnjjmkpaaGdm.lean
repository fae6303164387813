/-
  append of regions: the laws on append for whatever regions, none among them.
-/
import Derived.Test.YtfjppgfnjjmkpaaGdk
import Derived.Laws.AppendOwn
import Derived.BigFrame
namespace Go.Proofs.Ytfjppgfnjjmkpaa
open Go.RowKit

theorem add_none (b o i : Nat) : (⟨b, o, none⟩ : Addr).add i = ⟨b, o + i, none⟩ := by
  unfold Addr.add
  split
  · rename_i h; subst h; rfl
  · rfl
theorem regs_news {w : World} {sa : Option Addr} {b off : Nat} {l : List Rg} (h : Regs w sa b off l) : ∀ j u, (rrow l)[j]? = some u → w.cell? ((⟨b, off, none⟩ : Addr).add j) = some u := by
  intro j u hj
  have hlt : j < l.length * 4 := by
    have := (List.getElem?_eq_some_iff.1 hj).1
    rwa [rrow_len] at this
  rw [show j = j / 4 * 4 + j % 4 by omega, rrow_at l (j / 4) (j % 4) (by omega) (by omega)] at hj
  rw [add_none, show off + j = off + j / 4 * 4 + j % 4 by omega]
  exact h.cell (j / 4) (by omega) (j % 4) u hj

/-- What is owned, as regions that lie in a world; none among them. -/
theorem own_any {w : World} {base : Nat} {v : Value} {l : List Rg} {n : Nat} (h : w.ownsRow base 25 4 v n (rrow l)) (hn : n = l.length) :
    ∃ sa b cap, v = .slice sa n cap ∧ Regs w sa b 0 l := by
  subst hn
  by_cases h0 : 0 < l.length
  · obtain ⟨g, cap, rfl, _, _, _, hr⟩ := own_regs h h0
    exact ⟨_, _, _, rfl, hr⟩
  · obtain ⟨_, ⟨rfl, hh⟩ | ⟨g, cap, cur, rfl, _⟩⟩ := h
    · exact ⟨none, 0, 0, by rw [hh], ⟨fun h => absurd h h0, fun h => absurd h h0, fun i hi => absurd (Nat.lt_of_le_of_lt (Nat.zero_le _) hi) h0⟩⟩
    · exact ⟨_, 0, cap, rfl, ⟨fun h => absurd h h0, fun h => absurd h h0, fun i hi => absurd (Nat.lt_of_le_of_lt (Nat.zero_le _) hi) h0⟩⟩
theorem own_base {w : World} {base : Nat} {v : Value} {n size : Nat} {t : TypeId} {xs : List Value} (h : w.ownsRow base t size v n xs) : ∀ b, v.ownBlock = some b → base ≤ b := by
  intro b hb
  obtain ⟨_, ⟨rfl, _⟩ | ⟨g, cap, cur, rfl, hg, _⟩⟩ := h
  · cases hb
  · simp only [Value.ownBlock, Option.some.injEq] at hb
    omega
theorem own_none (w : World) : (w.alloc (.cells #[] 25)).ownsRow w.heap.size 25 4 (.slice (some ⟨w.heap.size, 0, none⟩) 0 0) 0 [] := World.ownsRow_lit w #[] 0 (Nat.le_refl _) (by decide) rfl
theorem allow_app (l m : List Rg) (p s h : Int) : allowV (l ++ m) p s h = (allowV l p s h || allowV m p s h) := by
  unfold allowV
  split
  · rfl
  · rw [List.any_append]
theorem rgU_app {l m : List Rg} (h : ∀ r ∈ l, RgU r) (h' : ∀ r ∈ m, RgU r) : ∀ r ∈ l ++ m, RgU r := by
  intro r hr
  rcases List.mem_append.1 hr with h1 | h1
  · exact h r h1
  · exact h' r h1

theorem run_append_regs {w : World} (ty : TypeId) (base : Nat) (v : Value) (n : Nat) (xs : List Value) (hown : w.ownsRow base 25 4 v n xs) (hbase : base ≤ w.heap.size)
    {sa : Option Addr} {b off : Nat} {l : List Rg} (hr : Regs w sa b off l) (m c : Nat) (hm : m = l.length) (hn : n + m ≤ 1000) :
    ∃ v' w', (Builtin.append_ #[37, 37] ty #[v, .slice sa m c]).run Try.prog w = .ok v' w' ∧ w'.ownsRow base 25 4 v' (n + m) (xs ++ rrow l) ∧ w.grownBy w' v.ownBlock := by
  obtain ⟨i0, hi0, hz0, hz1, hz2⟩ := info_parts infoR
  by_cases h0 : m = 0
  · subst h0
    have hl : l = [] := List.length_eq_zero_iff.1 hm.symm
    subst hl
    refine ⟨v, w, ?_, ?_, World.grownBy.refl w _⟩
    · obtain ⟨_, ⟨rfl, _⟩ | ⟨g, cap, cur, rfl, _, _, hc, _⟩⟩ := hown
      · cases sa <;> simp [Builtin.append_, run_underlying Try.underlying37, sizeOf, typeInfo, hi0, Builtin.lenOf, Builtin.firstCells, loadCells, loadCellsFrom]
      · cases sa <;> simp [Builtin.append_, run_underlying Try.underlying37, sizeOf, typeInfo, hi0, Builtin.lenOf, Builtin.firstCells, storeCells, loadCells, loadCellsFrom, hc]
    · simpa [rrow] using hown
  · have esa := hr.sa (by omega)
    subst esa
    obtain ⟨v', w', h1, h2, h3, _⟩ := run_append_own (P := Try.prog) w base 37 ty 25 i0 _ 4 12 Try.underlying37 hi0 hz0 hz1 hz2 rfl (by decide) v n xs hown ⟨b, off, none⟩ m c (rrow l) (by rw [rrow_len, hm]) (regs_news hr) (rrow_one l) (by unfold maxLen; omega) (by omega) hbase
    exact ⟨v', w', h1, h2, h3⟩

theorem wp_append_regs {o : Oper} {a : Act} {w : World} {K : Act → World → Prop} {Q : Exit → Act → World → Prop} (s x : Operand)
    (ho : o.op = .call { callee := .builtin .append, args := #[s, x], argTypes := #[37, 37] })
    (base : Nat) (v : Value) (n : Nat) (xs : List Value) (hs : a.eval s = v) (hown : w.ownsRow base 25 4 v n xs) (hbase : base ≤ w.heap.size)
    {sa : Option Addr} {b off : Nat} {l : List Rg} (hr : Regs w sa b off l) (m c : Nat) (hx : a.eval x = .slice sa m c) (hm : m = l.length) (hn : n + m ≤ 1000)
    (h : ∀ v' w', w'.ownsRow base 25 4 v' (n + m) (xs ++ rrow l) → w.grownBy w' v.ownBlock → K (a.put o.dst v') w') : o.wp Try.prog a w K Q := by
  obtain ⟨v', w', hr, h2, h3⟩ := run_append_regs (w := w) o.type base v n xs hown hbase hr m c hm hn
  unfold Oper.wp execOp
  simp only [ho, resolve, invoke, builtin, Sem.run_bind, Sem.run_pure, Result.andThen_ok, List.map_toArray, List.map_cons, List.map_nil, hs, hx, hr]
  exact h v' w' h2 h3
theorem wpList_append_want {ops : Array Oper} {rest : List Oper} {o : Oper} {a : Act} {w : World} {Q : Exit → Act → World → Prop} (hgd : Region.wanted o (yielded ops a.tmps) = true) (s x : Operand)
    (ho : o.op = .call { callee := .builtin .append, args := #[s, x], argTypes := #[37, 37] })
    (base : Nat) (v : Value) (n : Nat) (xs : List Value) (hs : a.eval s = v) (hown : w.ownsRow base 25 4 v n xs) (hbase : base ≤ w.heap.size)
    {sa : Option Addr} {b off : Nat} {l : List Rg} (hr : Regs w sa b off l) (m c : Nat) (hx : a.eval x = .slice sa m c) (hm : m = l.length) (hn : n + m ≤ 1000)
    (h : ∀ v' w', w'.ownsRow base 25 4 v' (n + m) (xs ++ rrow l) → w.grownBy w' v.ownBlock → wpList Try.prog ops Q rest (a.put o.dst v') w') : wpList Try.prog ops Q (o :: rest) a w :=
  BigFrame.wpList_want hgd fun _ hK => wp_append_regs s x ho base v n xs hs hown hbase hr m c hx hm hn fun v' w' h2 h3 => hK _ _ (h v' w' h2 h3)
theorem wpList_append_regs {ops : Array Oper} {rest : List Oper} {o : Oper} {a : Act} {w : World} {Q : Exit → Act → World → Prop} (hgd : o.guard = none) (s x : Operand)
    (ho : o.op = .call { callee := .builtin .append, args := #[s, x], argTypes := #[37, 37] })
    (base : Nat) (v : Value) (n : Nat) (xs : List Value) (hs : a.eval s = v) (hown : w.ownsRow base 25 4 v n xs) (hbase : base ≤ w.heap.size)
    {sa : Option Addr} {b off : Nat} {l : List Rg} (hr : Regs w sa b off l) (m c : Nat) (hx : a.eval x = .slice sa m c) (hm : m = l.length) (hn : n + m ≤ 1000)
    (h : ∀ v' w', w'.ownsRow base 25 4 v' (n + m) (xs ++ rrow l) → w.grownBy w' v.ownBlock → wpList Try.prog ops Q rest (a.put o.dst v') w') : wpList Try.prog ops Q (o :: rest) a w :=
  wpList_plain hgd fun _ hK => wp_append_regs s x ho base v n xs hs hown hbase hr m c hx hm hn fun v' w' h2 h3 => hK _ _ (h v' w' h2 h3)
end Go.Proofs.Ytfjppgfnjjmkpaa
