/-
  Which item is the first wrong one: plain facts for AsmWrong.
-/
import Derived.Test.YtpjnefnngmlpjaaAsu
namespace Go.Proofs.Ytpjnefnngmlpjaa
open Go.RowKit

/-- An item that is wrong, with none wrong ahead of it, is the one that is told. -/
theorem wrong_at {xs : List It} {r : Nat} {at' er : Int} (h : WrongAt xs r at' er) {k : Nat} {x : It} (hx : xs[k]? = some x) (hlow : ∀ j y, j < k → xs[j]? = some y → wrongE xs r j y = 0) (hne : wrongE xs r k x ≠ 0) : at' = (k : Int) ∧ er = wrongE xs r k x := by
  rcases h.is with ⟨k', x', hx', e1, e2, e3, e4⟩ | ⟨_, _, e4⟩
  · rcases Nat.lt_trichotomy k k' with hk | hk | hk
    · exact absurd (e4 k x hk hx) hne
    · subst hk
      rw [hx] at hx'
      cases hx'
      exact ⟨e1, e2⟩
    · have := hlow k' x' hk hx'
      rw [← e2] at this
      exact absurd this e3
  · exact absurd (e4 k x hx) hne
/-- An item's word of what is wrong, from its parts. -/
theorem wrong_may {xs : List It} {r k : Nat} {x : It} (h : mayIt x = false) : wrongE xs r k x = 1 := by
  unfold wrongE
  rw [h]
  rfl
theorem wrong_name {xs : List It} {r k : Nat} {x : It} (h : mayIt x = true) (h2 : nameOk xs k x = false) : wrongE xs r k x = 6 := by
  unfold wrongE
  rw [h, h2]
  rfl
theorem wrong_full {xs : List It} {k : Nat} {x : It} (h : mayIt x = true) (h2 : nameOk xs k x = true) : wrongE xs k k x = 9 := by
  unfold wrongE
  rw [h, h2, if_neg (by decide), if_neg (by decide), if_pos rfl]
theorem wrong_none {xs : List It} {r k : Nat} {x : It} (h : mayIt x = true) (h2 : nameOk xs k x = true) (h3 : k ≠ r) : wrongE xs r k x = 0 := by
  unfold wrongE
  rw [h, h2, if_neg (by decide), if_neg (by decide), if_neg h3]
/-- The first item with which there are too many words lies behind all with few ones ahead. -/
theorem full_behind {xs : List It} {r k : Nat} (h : FullAt xs r) (hk : k < xs.length) (hs : sumV xs (k + 1) ≤ 65536) (hm : ∀ i j, i ≤ j → sumV xs i ≤ sumV xs j) : k < r := by
  rcases Nat.lt_or_ge k r with h1 | h1
  · exact h1
  · have h2 := h.many (by omega)
    have h3 := hm (r + 1) (k + 1) (by omega)
    omega
theorem sumV_mono {xs : List It} (ho : ∀ x ∈ xs, ItOk x) (i : Nat) : ∀ j, i ≤ j → sumV xs i ≤ sumV xs j
  | 0, h => by
    have : i = 0 := by omega
    subst this
    exact Int.le_refl _
  | j + 1, h => by
    rcases Nat.lt_or_ge j i with h1 | h1
    · have : i = j + 1 := by omega
      subst this
      exact Int.le_refl _
    · have h2 := sumV_mono ho i j h1
      cases hx : xs[j]? with
      | none =>
        have : sumV xs (j + 1) = sumV xs j + 0 := by
          show sumV xs j + (match xs[j]? with | some x => sizeV x | none => 0) = _
          rw [hx]
        omega
      | some x =>
        have := sumV_next hx
        have := (sizeV_le (ho x (List.mem_of_getElem? hx))).1
        omega
end Go.Proofs.Ytpjnefnngmlpjaa
