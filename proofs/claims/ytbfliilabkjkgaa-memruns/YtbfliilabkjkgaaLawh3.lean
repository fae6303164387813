/-
  Words behind append([]uint32{}, l...): what the law on append asks, and what it leaves.
-/
import Derived.Test.YtbfliilabkjkgaaLawv
import Derived.Laws.OwnMore
import Derived.OwnWalk
namespace Go.Proofs.Ytbfliilabkjkgaa
open Go.RowKit

theorem infoU : (Try.prog.info? 30).map (fun i => (i.zero, i.size, i.bytes)) = some (some (.int .u32 0), 1, 4) := by kernel_rfl
def wvals (l : List Int) : List Value := l.map fun z => Value.int .u32 z
theorem wvals_len (l : List Int) : (wvals l).length = l.length := by unfold wvals; simp
theorem wvals_one (l : List Int) : ∀ u ∈ wvals l, u.oneCell' = true := by
  intro u hu
  unfold wvals at hu
  obtain ⟨z, _, rfl⟩ := List.mem_map.1 hu
  rfl
theorem wvals_at {l : List Int} {j : Nat} (h : j < l.length) : (wvals l)[j]? = some (.int .u32 (wordAt l j)) := by
  unfold wvals wordAt
  simp [List.getElem?_eq_getElem h]
/-- Words that lie in a world, as the law on append asks for them. -/
theorem wvals_cells {w : World} {b off : Nat} {l : List Int} (hc : ∀ i, i < l.length → w.cell? ⟨b, off + i, none⟩ = some (.int .u32 (wordAt l i))) (hb : b < w.heap.size) (ob : Obj) :
    ∀ j u, (wvals l)[j]? = some u → (w.alloc ob).cell? ((⟨b, off, none⟩ : Addr).add j) = some u := by
  intro j u hj
  have hlt : j < l.length := by
    have := (List.getElem?_eq_some_iff.1 hj).1
    rwa [wvals_len] at this
  rw [wvals_at hlt] at hj
  cases hj
  have e : (⟨b, off, none⟩ : Addr).add j = ⟨b, off + j, none⟩ := by
    unfold Addr.add
    split
    · rename_i h; subst h; rfl
    · rfl
  rw [e, World.cell?_alloc_lt _ _ _ hb]
  exact hc j hlt
/-- What the law on append leaves, opened. -/
theorem owns_open {w : World} {base n : Nat} {e : TypeId} {v : Value} {l : List Int} (hl : n = l.length) (n0 : 1 ≤ n) (h : w.ownsRow base e 1 v (0 + n) ([] ++ wvals l)) :
    ∃ g cap, v = .slice (some ⟨g, 0, none⟩) n cap ∧ base ≤ g ∧ g < w.heap.size ∧ n ≤ cap ∧ (∀ i, i < n → w.cell? ⟨g, i, none⟩ = some (.int .u32 (wordAt l i))) ∧ ∀ i, w.frozen? ⟨g, i, none⟩ = false := by
  have h' := h
  obtain ⟨_, h1 | ⟨g, cap, cur, rfl, h2, h3, h4, _, _, _⟩⟩ := h
  · omega
  · rw [Nat.zero_add] at h'
    refine ⟨g, cap, by rw [Nat.zero_add], h2, (Array.getElem?_eq_some_iff.1 h3).1, by omega, fun i hi => ?_, fun i => h'.frozenAt i⟩
    rw [h'.cellAt i (by omega), List.nil_append]
    exact wvals_at (by omega)

end Go.Proofs.Ytbfliilabkjkgaa
