/-
  footmanref10: number.
-/
import Derived.Test.YtjgpojjbjgdfkaaDoorRxf
import Derived.Test.YtjgpojjbjgdfkaaDoorRxfb
import Derived.Test.YtjgpojjbjgdfkaaDoorRxfc
import Derived.Test.YtjgpojjbjgdfkaaDoorRxfd
namespace Go.Proofs.YtjgpojjbjgdfkaaDoor
open Go.RowKit

theorem while_start {S : ByteArray} {g : Int → Bool} {q : Nat} : q < whileV S g (S.size - q) q ↔ q < S.size ∧ g (byteV S q) = true := by
  by_cases h : q < S.size
  · rw [show S.size - q = (S.size - q - 1) + 1 by omega]
    cases hg : g (byteV S q) with
    | true =>
      have := while_on (S := S) (g := g) (n := S.size - q - 1) h hg
      exact ⟨fun _ => ⟨h, rfl⟩, fun _ => by omega⟩
    | false =>
      have : whileV S g (S.size - q - 1 + 1) q = q := by
        unfold whileV
        rw [hg, Bool.and_false]
        rfl
      rw [this]
      exact ⟨fun h => absurd h (Nat.lt_irrefl _), fun h => by cases h.2⟩
  · rw [show S.size - q = 0 by omega]
    exact ⟨fun h' => absurd h' (Nat.lt_irrefl _), fun h' => absurd h'.1 h⟩
theorem numW_X {S : ByteArray} {p d b q : Nat} {K n : Int} {t : ByteArray} {E : Nat} (h : numW S p d b q = (K, t, n, E)) : numX S p d b q = (K, t, n) ∧ (K ≠ 5 → E = q) := by
  unfold numW at h
  unfold numX
  split at h
  · rename_i u hu
    rw [hu]
    dsimp only
    by_cases hc : q < whileV S bInName (S.size - q) q
    · rw [if_pos hc] at h
      rw [if_pos (while_start.1 hc)]
      simp only [Prod.mk.injEq] at h ⊢
      obtain ⟨rfl, rfl, rfl, rfl⟩ := h
      exact ⟨⟨rfl, rfl, rfl⟩, fun h => absurd rfl h⟩
    · rw [if_neg hc] at h
      rw [if_neg (fun h' => hc (while_start.2 h'))]
      simp only [Prod.mk.injEq] at h ⊢
      obtain ⟨rfl, rfl, rfl, rfl⟩ := h
      exact ⟨⟨rfl, rfl, rfl⟩, fun _ => rfl⟩
  · rename_i hu
    rw [hu]
    simp only [Prod.mk.injEq] at h ⊢
    obtain ⟨rfl, rfl, rfl, rfl⟩ := h
    exact ⟨⟨rfl, rfl, rfl⟩, fun h => absurd rfl h⟩
/-- The document's number: the reader's, but that of a bad one the place behind may be another. -/
theorem xNumber {S : ByteArray} (hS : S.size ≤ 281474976710656) (p : Nat) (hp : p < S.size) {K n : Int} {t : ByteArray} {E : Nat} (hT : numT S p = (K, t, n, E)) (w : World) :
    Calls Tryd.prog 25 #[.string S, .int .i64 p] w fun e w' => ∃ q : Nat, e = .returned (.agg (foundC K t n p q)) ∧ (K ≠ 5 → q = E) ∧ Below w.heap.size w w' := by
  unfold numT at hT
  have h2 : (S.extract p (p + 2)).toList = (S.extract p (p + 2)).data.toList := ByteArray.toList_eq ..
  by_cases hA : p + 2 < S.size
  · have h3 := two_bytes (S := S) (p := p) (by omega)
    have h4 := hexN_iff (S := S) (p := p)
    rw [decide_eq_true hA, Bool.true_and, ← h3, ← h2] at h4
    cases hX : ((S.extract p (p + 2)).toList == [48, 120]) with
    | false =>
      rw [hX, Bool.false_and] at h4
      rw [h4, if_neg (by decide)] at hT
      obtain ⟨x1, x2⟩ := numW_X hT
      exact (xNumB hS p hA hX w rfl x1).mono fun e w' ⟨a, b⟩ => ⟨_, a, fun h => (x2 h).symm, b⟩
    | true =>
      rw [hX, Bool.true_and] at h4
      cases hh : bHex (byteV S (p + 2)) with
      | false =>
        rw [h4, hh, if_neg (by decide)] at hT
        obtain ⟨x1, x2⟩ := numW_X hT
        exact (xNumC hS p hA hX hh w rfl x1).mono fun e w' ⟨a, b⟩ => ⟨_, a, fun h => (x2 h).symm, b⟩
      | true =>
        rw [h4, hh, if_pos rfl] at hT
        obtain ⟨x1, x2⟩ := numW_X hT
        exact (xNumD hS p hA hX hh w rfl x1).mono fun e w' ⟨a, b⟩ => ⟨_, a, fun h => (x2 h).symm, b⟩
  · have h4 := hexN_iff (S := S) (p := p)
    rw [decide_eq_false hA, Bool.false_and, Bool.false_and] at h4
    rw [h4, if_neg (by decide)] at hT
    obtain ⟨x1, x2⟩ := numW_X hT
    exact (xNumA hS p hp hA w rfl x1).mono fun e w' ⟨a, b⟩ => ⟨_, a, fun h => (x2 h).symm, b⟩
end Go.Proofs.YtjgpojjbjgdfkaaDoor
