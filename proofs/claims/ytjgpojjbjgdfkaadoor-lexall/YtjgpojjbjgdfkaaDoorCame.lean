/-
  Words that came in as a slice, as the frame opens them.
-/
import Derived.Test.YtjgpojjbjgdfkaaDoorHelp
import Derived.Test.YtjgpojjbjgdfkaaDoorPlain
import Derived.OpenShut
namespace Go.Proofs.YtjgpojjbjgdfkaaDoor
open Go.RowKit

theorem add_came (b o i : Nat) : (⟨b, o, none⟩ : Addr).add i = ⟨b, o + i, none⟩ := by
  unfold Addr.add
  split
  · rename_i h; subst h; rfl
  · rfl
theorem came_words {a : Option Addr} {n cap : Nat} {zs : List Int} {w : World}
    (hz : (a = none ∧ n = 0 ∧ cap = 0 ∧ zs = []) ∨ ∃ q, a = some q ∧ n ≤ cap ∧ cap ≤ maxLen ∧ zs.length = cap ∧ (∀ i, i < zs.length → w.cell? (q.add i) = some (.int .u32 (zs.getD i 0))) ∧ ∀ z ∈ zs, (Lit.int .u32 z).wf = true) :
    ∃ b off, n ≤ maxLen ∧ (0 < n → a = some ⟨b, off, none⟩ ∧ b < w.heap.size) ∧ (∀ i, i < n → w.cell? ⟨b, off + i, none⟩ = some (.int .u32 (zs.getD i 0))) ∧ ∀ z ∈ zs, U32 z := by
  rcases hz with ⟨rfl, rfl, rfl, rfl⟩ | ⟨q, rfl, hl, hmc, hzl, hcell, hwz⟩
  · exact ⟨0, 0, Nat.zero_le _, fun h => absurd h (by omega), fun i hi => absurd hi (by omega), fun z hzz => by cases hzz⟩
  · have hU : ∀ z ∈ zs, U32 z := fun z hzz => u32_of (bounds_u32 (hwz z hzz))
    by_cases hn : n = 0
    · subst hn
      exact ⟨0, 0, Nat.zero_le _, fun h => absurd h (by omega), fun i hi => absurd hi (by omega), hU⟩
    · obtain ⟨c, off', spot⟩ := q
      have hc := hcell 0 (by omega)
      have hspot : spot = none := by simpa [Addr.add] using World.cell?_spot hc
      subst hspot
      have hb : c < w.heap.size := by simpa [Addr.add] using World.block_lt_of_cell? _ _ hc
      exact ⟨c, off', by omega, fun _ => ⟨rfl, hb⟩, fun i hi => by have := hcell i (by omega); rwa [add_came] at this, hU⟩
end Go.Proofs.YtjgpojjbjgdfkaaDoor
