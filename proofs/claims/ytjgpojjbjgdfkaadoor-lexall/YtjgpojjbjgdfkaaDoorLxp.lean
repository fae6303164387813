/-
  Package lex: plain facts of next: where it ends, that it goes on; the list of all tokens.
-/
import Derived.Test.YtjgpojjbjgdfkaaDoorLxo
namespace Go.Proofs.YtjgpojjbjgdfkaaDoor
open Go.RowKit

theorem skip_ge {S : ByteArray} : ∀ n p, p ≤ skipV S n p
  | 0, p => Nat.le_refl p
  | n + 1, p => by
    unfold skipV
    split
    · split
      · have := skip_ge (S := S) n (p + 1)
        omega
      · split
        · have := while_ge S bInLine (S.size - p) p
          have := skip_ge (S := S) n (whileV S bInLine (S.size - p) p)
          omega
        · exact Nat.le_refl p
    · exact Nat.le_refl p
theorem numW_more {S : ByteArray} {p d b q : Nat} (h : p < q) (hq : q ≤ S.size) : p < (numW S p d b q).2.2.2 ∧ (numW S p d b q).2.2.2 ≤ S.size := by
  have h1 := while_ge S bInName (S.size - q) q
  have h2 := while_le (S := S) (g := bInName) (S.size - q) q hq
  unfold numW
  split
  · split <;> (dsimp only; omega)
  · dsimp only
    omega
theorem numT_more {S : ByteArray} {p : Nat} (hp : p < S.size) (hd : bDigit (byteV S p) = true) : p < (numT S p).2.2.2 ∧ (numT S p).2.2.2 ≤ S.size := by
  unfold numT
  split
  · rename_i h
    unfold isHexN at h
    simp only [Bool.and_eq_true, decide_eq_true_eq] at h
    have hs := hexX_size h.1
    refine numW_more (by omega) ?_
    unfold hexEnd
    exact while_le _ _ hs
  · refine numW_more ?_ (while_le _ _ (by omega))
    rw [show S.size - p = (S.size - p - 1) + 1 by omega]
    exact while_on hp hd
theorem letter_name {c : Int} (h : bLetter c = true) : bInName c = true := by
  unfold bInName
  rw [h]
  rfl
/-- Every token ends in the source; and one that is not the end stands ahead of the place behind it. -/
theorem nextT_more {S : ByteArray} {p : Nat} (hp : p ≤ S.size) {K n : Int} {t : ByteArray} {a E : Nat} (hT : nextT S p = (K, t, n, a, E)) : p ≤ a ∧ a ≤ E ∧ E ≤ S.size ∧ (K ≠ 0 → p < E) := by
  have g1 := skip_ge (S := S) S.size p
  have g2 := skip_le (S := S) S.size p hp
  unfold nextT at hT
  split at hT
  · simp only [Prod.mk.injEq] at hT
    obtain ⟨rfl, _, _, rfl, rfl⟩ := hT
    exact ⟨hp, Nat.le_refl _, Nat.le_refl _, fun h => absurd rfl h⟩
  · split at hT
    · rename_i h1 h2
      obtain ⟨m1, m2⟩ := numT_more (by omega) h2
      simp only [Prod.mk.injEq] at hT
      obtain ⟨_, _, _, rfl, rfl⟩ := hT
      exact ⟨g1, by omega, m2, fun _ => by omega⟩
    · split at hT
      · rename_i h1 h2 h3
        have m1 := while_on (S := S) (g := bInName) (n := S.size - skipV S S.size p - 1) (p := skipV S S.size p) (by omega) (letter_name h3)
        rw [show S.size - skipV S S.size p - 1 + 1 = S.size - skipV S S.size p by omega] at m1
        have m2 := while_le (S := S) (g := bInName) (S.size - skipV S S.size p) (skipV S S.size p) g2
        simp only [Prod.mk.injEq] at hT
        obtain ⟨_, _, _, rfl, rfl⟩ := hT
        exact ⟨g1, by omega, m2, fun _ => by omega⟩
      · rename_i h1 h2 h3
        obtain ⟨N, hN, m1, m2⟩ := signN_len (S := S) (p := skipV S S.size p) (by omega)
        rw [hN, Int.toNat_natCast] at hT
        simp only [Prod.mk.injEq] at hT
        obtain ⟨_, _, _, rfl, rfl⟩ := hT
        have e1 : 1 ≤ signE N ∧ skipV S S.size p + signE N ≤ S.size := by
          unfold signE
          split <;> omega
        exact ⟨g1, by omega, e1.2, fun _ => by omega⟩
/-- All tokens from p on, up to the end or the first that is bad. -/
def allV (S : ByteArray) : Nat → Nat → List (Int × ByteArray × Int × Nat)
  | 0, _ => []
  | f + 1, p => match nextT S p with
    | (K, t, n, a, E) => (K, t, n, a) :: if K == 0 || K == 5 then [] else allV S f E
end Go.Proofs.YtjgpojjbjgdfkaaDoor
