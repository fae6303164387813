/-
  What the statements on regions need of package guard; the document's example by it. (The program's own text comes in by an instance; nothing here looks into it.)
-/
import Derived.Test.YtfjppgfnjjmkpaaGda
import Derived.Test.YtfjppgfnjjmkpaaGdp
import Derived.Test.YtfjppgfnjjmkpaaGds
import Derived.Test.YtfjppgfnjjmkpaaGdo
namespace Go.Proofs.Ytfjppgfnjjmkpaa
open Go.RowKit

theorem regs_nil (w : World) : Regs w none 0 0 [] := ⟨fun h => absurd h (Nat.lt_irrefl _), fun h => absurd h (Nat.lt_irrefl _), fun _ hi => absurd hi (Nat.not_lt_zero _)⟩
/-- Regions in a new block. -/
theorem regs_new (w : World) (l : List Rg) (t : TypeId) : Regs (w.alloc (.cells (rrow l).toArray t)) (some ⟨w.heap.size, 0, none⟩) w.heap.size 0 l :=
  ⟨fun _ => rfl, fun _ => by simp, fun i hi f v hv => by
    have hf : f < 4 := by
      have := (List.getElem?_eq_some_iff.1 hv).1
      simpa [rcells_len] using this
    rw [show 0 + i * 4 + f = i * 4 + f by omega]
    exact cell_new _ _ _ _ _ (by rw [rrow_at l i f hi hf]; exact hv)⟩
theorem regs_block {w : World} {b : Nat} {l : List Rg} {t : TypeId} (h : w.heap[b]? = some (.cells (rrow l).toArray t)) : Regs w (some ⟨b, 0, none⟩) b 0 l := by
  obtain ⟨cc, _, cs⟩ := cells_of h
  refine ⟨fun _ => rfl, fun _ => cs, fun i hi f v hv => ?_⟩
  have hf : f < 4 := by
    have := (List.getElem?_eq_some_iff.1 hv).1
    simpa [rcells_len] using this
  rw [show 0 + i * 4 + f = i * 4 + f by omega]
  exact cc _ _ (by rw [List.getElem?_toArray, rrow_at l i f hi hf]; exact hv)
theorem alloc4 (w : World) (A B C D : Obj) : ((((w.alloc A).alloc B).alloc C).alloc D).heap[w.heap.size + 1 + 1]? = some C ∧ ((((w.alloc A).alloc B).alloc C).alloc D).heap[w.heap.size + 1 + 1 + 1]? = some D ∧ Below w.heap.size w ((((w.alloc A).alloc B).alloc C).alloc D) := by
  have hC := alloc_at ((w.alloc A).alloc B) C
  have hD := alloc_at (((w.alloc A).alloc B).alloc C) D
  rw [World.size_alloc, World.size_alloc] at hC
  rw [World.size_alloc, World.size_alloc, World.size_alloc] at hD
  exact ⟨kept_on hC ((Below.refl _ _).alloc (Nat.le_refl _) _), hD, (box2.alloc (by simp; omega) _).alloc (by simp; omega) _⟩
theorem rgU_one {r : Rg} (h : RgU r) : ∀ q ∈ [r], RgU q := by
  intro q hq
  simp only [List.mem_cons, List.not_mem_nil, or_false] at hq
  rw [hq]; exact h
theorem rgU_two {r s : Rg} (h : RgU r) (h' : RgU s) : ∀ q ∈ [r, s], RgU q := by
  intro q hq
  simp only [List.mem_cons, List.not_mem_nil, or_false] at hq
  rcases hq with rfl | rfl
  · exact h
  · exact h'

end Go.Proofs.Ytfjppgfnjjmkpaa
