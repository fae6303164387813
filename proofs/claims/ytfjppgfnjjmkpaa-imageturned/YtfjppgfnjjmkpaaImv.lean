/-
  footmanref6: what regions hands back, as regions that lie in a world.
-/
import Derived.Test.YtfjppgfnjjmkpaaImu
namespace Go.Proofs.Ytfjppgfnjjmkpaa
open Go.RowKit

theorem regrow_at : ∀ (l : List Rg) (k : Nat) (r : Rg), l[k]? = some r → ∀ (f : Nat) (u : Value), (rgC r)[f]? = some u → (regrow l)[k * 4 + f]? = some u
  | [], _, _, h, _, _, _ => by cases h
  | a :: l, 0, r, h, f, u, hu => by
    cases h
    show (rgC a ++ regrow l)[0 * 4 + f]? = some u
    rw [Nat.zero_mul, Nat.zero_add, List.getElem?_append_left (by have := (List.getElem?_eq_some_iff.1 hu).1; exact this)]
    exact hu
  | a :: l, k + 1, r, h, f, u, hu => by
    have := regrow_at l k r h f u hu
    show (rgC a ++ regrow l)[(k + 1) * 4 + f]? = some u
    rw [List.getElem?_append_right (by show 4 ≤ (k + 1) * 4 + f; omega), show (k + 1) * 4 + f - (rgC a).length = k * 4 + f by show (k + 1) * 4 + f - 4 = _; omega]
    exact this
theorem gat_at {w V : World} {i : Im} {v : Value} (h : GatSt w V i v i.ps.length) : ∃ (g cp : Nat), v = .slice (some ⟨g, 0, none⟩) (2 + 2 * i.ps.length) cp ∧ w.heap.size + 1 ≤ g ∧ g < V.heap.size ∧ ∀ (k : Nat) (r : Rg), (regL i)[k]? = some r → V.rangeAt g (k * 4) (rgC r) := by
  have ho := h.own
  rw [List.take_length] at ho
  obtain ⟨_, ⟨_, e⟩ | ⟨g, cap, cur, rfl, hb, hg, h1, h2, h3, h4⟩⟩ := ho
  · omega
  · refine ⟨g, cap, rfl, hb, (Array.getElem?_eq_some_iff.1 hg).1, fun k r hr j u hu => ?_⟩
    have e1 := regrow_at (regL i) k r hr j u hu
    have e2 : (cur.toList.take ((2 + 2 * i.ps.length) * 4))[k * 4 + j]? = some u := by rw [h4]; exact e1
    have e3 : cur[k * 4 + j]? = some u := by
      rw [List.getElem?_take] at e2
      split at e2
      · rw [← Array.getElem?_toList]; exact e2
      · cases e2
    exact (cells_of hg).1 (k * 4 + j) u e3
end Go.Proofs.Ytfjppgfnjjmkpaa
