/-
  A slice of items that is the call's own: its cells, and that the items lie there (ItsAt).
-/
import Derived.Test.YtpjnefnngmlpjaaAsv
namespace Go.Proofs.Ytpjnefnngmlpjaa
open Go.RowKit

theorem infoItm : (Try.prog.info? 34).map (fun i => (i.zero, i.size, i.bytes)) = some (some (.agg #[.int .i64 0, .string ⟨#[]⟩, .string ⟨#[]⟩, .int .i64 0, .int .i64 0, .int .i64 0, .int .i32 0, .int .u32 0, .slice none 0 0]), 9, 104) := by kernel_rfl
def irow : List It → List Value
  | [] => []
  | x :: xs => x.cells.toList ++ irow xs
theorem irow_more (xs : List It) (x : It) : irow (xs ++ [x]) = irow xs ++ x.cells.toList := by
  induction xs with
  | nil => simp [irow]
  | cons a l ih => simp [irow, ih]
theorem cells_len (x : It) : x.cells.toList.length = 9 := rfl
theorem irow_at : ∀ (xs : List It) (i : Nat) (x : It) (f : Nat) (v : Value), xs[i]? = some x → x.cells.toList[f]? = some v → (irow xs)[i * 9 + f]? = some v
  | [], _, _, _, _, h, _ => by cases h
  | a :: l, 0, x, f, v, h, hv => by
    cases h
    have hf : f < 9 := by have := (List.getElem?_eq_some_iff.1 hv).1; rw [cells_len] at this; exact this
    show (a.cells.toList ++ irow l)[0 * 9 + f]? = some v
    rw [Nat.zero_mul, Nat.zero_add, List.getElem?_append_left (by rw [cells_len]; exact hf)]
    exact hv
  | a :: l, i + 1, x, f, v, h, hv => by
    show (a.cells.toList ++ irow l)[(i + 1) * 9 + f]? = some v
    rw [List.getElem?_append_right (by rw [cells_len]; omega), cells_len, show (i + 1) * 9 + f - 9 = i * 9 + f by omega]
    exact irow_at l i x f v h hv
theorem its_own {w : World} {B : Nat} {v : Value} {xs : List It} (h : w.ownsRow B 34 9 v xs.length (irow xs)) : ∃ (b : Nat) (sa : Option Addr) (cap : Nat), v = .slice sa xs.length cap ∧ ItsAt w b 0 sa xs := by
  have h' := h
  obtain ⟨_, ⟨e, hn⟩ | ⟨g, cp, cur, e, _, hg, _⟩⟩ := h
  · exact ⟨0, none, 0, by rw [e, hn], ⟨fun h0 => (by omega), fun i x hx => by
      have := (List.getElem?_eq_some_iff.1 hx).1
      omega⟩⟩
  · subst e
    refine ⟨g, some ⟨g, 0, none⟩, cp, rfl, ⟨fun _ => ⟨rfl, (Array.getElem?_eq_some_iff.1 hg).1⟩, fun i x hx j u hu => ?_⟩⟩
    have := h'.cells (g := g) rfl (i * 9 + j) u (irow_at xs i x j u hx hu)
    rw [Addr.add_lit] at this
    rw [show 0 + i * 9 + j = 0 + (i * 9 + j) by omega]
    exact this
end Go.Proofs.Ytpjnefnngmlpjaa
