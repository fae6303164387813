/-
  The regions of words, by the document: contract of the function that the statements bear.
-/
import Derived.Test.YtfjppgfnjjmkpaaGdw
import Derived.Laws.OwnMore
import Derived.OwnWalk
import Derived.Deep.RegionHeld3
import Derived.Deep.AppendLies
namespace Go.Proofs.Ytfjppgfnjjmkpaa
open Go.RowKit

/-- The cells of regions, behind one another. -/
def rrow (l : List Rg) : List Value := l.flatMap rcells
theorem rcells_len (r : Rg) : (rcells r).length = 4 := rfl
theorem rrow_len (l : List Rg) : (rrow l).length = l.length * 4 := by
  unfold rrow
  induction l with
  | nil => rfl
  | cons r l ih => rw [List.flatMap_cons, List.length_append, ih, rcells_len, List.length_cons]; omega
theorem rrow_at (l : List Rg) : ∀ (i f : Nat), i < l.length → f < 4 → (rrow l)[i * 4 + f]? = (rcells (rgAt l i))[f]? := by
  induction l with
  | nil => intro i f h; cases h
  | cons r l ih =>
    intro i f hi hf
    unfold rrow
    rw [List.flatMap_cons]
    cases i with
    | zero =>
      rw [Nat.zero_mul, Nat.zero_add, List.getElem?_append_left (by rw [rcells_len]; exact hf)]
      rfl
    | succ i =>
      rw [List.getElem?_append_right (by rw [rcells_len]; omega), rcells_len, show (i + 1) * 4 + f - 4 = i * 4 + f by omega]
      exact ih i f (by simpa using hi) hf
theorem rrow_one (l : List Rg) : ∀ u ∈ rrow l, u.oneCell' = true := by
  intro u hu
  unfold rrow at hu
  obtain ⟨r, _, h⟩ := List.mem_flatMap.1 hu
  simp only [rcells, List.mem_cons, List.not_mem_nil, or_false] at h
  rcases h with rfl | rfl | rfl | rfl <;> rfl
theorem rrow_append (l m : List Rg) : rrow (l ++ m) = rrow l ++ rrow m := by unfold rrow; rw [List.flatMap_append]
theorem infoR : (Try.prog.info? 25).map (fun i => (i.zero, i.size, i.bytes)) = some (some (.agg #[.int .u32 0, .int .u32 0, .bool false, .bool false]), 4, 12) := by kernel_rfl
/-- What is owned, as regions that lie in a world. -/
theorem own_regs {w : World} {base : Nat} {v : Value} {l : List Rg} (h : w.ownsRow base 25 4 v l.length (rrow l)) (h0 : 0 < l.length) :
    ∃ g cap, v = .slice (some ⟨g, 0, none⟩) l.length cap ∧ base ≤ g ∧ g < w.heap.size ∧ l.length ≤ cap ∧ Regs w (some ⟨g, 0, none⟩) g 0 l := by
  have h' := h
  obtain ⟨_, h1 | ⟨g, cap, cur, rfl, h2, h3, h4, _, _, _⟩⟩ := h
  · omega
  · refine ⟨g, cap, rfl, h2, (Array.getElem?_eq_some_iff.1 h3).1, h4, ⟨fun _ => rfl, fun _ => (Array.getElem?_eq_some_iff.1 h3).1, fun i hi f u hu => ?_⟩⟩
    have hf : f < 4 := by
      have := (List.getElem?_eq_some_iff.1 hu).1
      simpa [rcells_len] using this
    rw [show 0 + i * 4 + f = i * 4 + f by omega, h'.cellAt (i * 4 + f) (by omega), rrow_at l i f hi hf]
    exact hu

def ofP (ws : Nat → Int) (k : Nat) : List Rg := (List.range k).map fun i => pairV (ws (2 * i)) (ws (2 * i + 1))
theorem ofP_len (ws : Nat → Int) (k : Nat) : (ofP ws k).length = k := by simp [ofP]
theorem ofP_next (ws : Nat → Int) (k : Nat) : ofP ws (k + 1) = ofP ws k ++ [pairV (ws (2 * k)) (ws (2 * k + 1))] := by simp [ofP, List.range_succ]

end Go.Proofs.Ytfjppgfnjjmkpaa
