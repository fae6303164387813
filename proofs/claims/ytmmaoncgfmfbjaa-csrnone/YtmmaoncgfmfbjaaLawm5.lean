/-
  Registers that there are not are neither read nor written: in the form in which the frame opens what came in.
-/
import Derived.Test.YtmmaoncgfmfbjaaLawn5
import Derived.Test.YtmmaoncgfmfbjaaCame
namespace Go.Proofs.Ytmmaoncgfmfbjaa
open Go.RowKit

theorem csrNone (K : CsrK) (a : Option Addr) (n cap : Nat) (zs : List Int) (m x : Int) (hx : U32 x) (w : World)
    (hz : (a = none ∧ n = 0 ∧ cap = 0 ∧ zs = []) ∨ ∃ q, a = some q ∧ n ≤ cap ∧ cap ≤ maxLen ∧ zs.length = cap ∧ (∀ i, i < zs.length → w.cell? (q.add i) = some (.int .u32 (zs.getD i 0))) ∧ ∀ z ∈ zs, (Lit.int .u32 z).wf = true) :
    Calls Try.prog 6 #[.slice a n cap, .int .i64 m, .int .u32 x] w fun e w' => e = .returned (.bool true) ∧ Below w.heap.size w w' := by
  obtain ⟨c, off, h1, h2, h3, h4⟩ := came_words hz
  exact csrNone_way K a c off n cap zs m x hx h4 w h1 h2 h3
end Go.Proofs.Ytmmaoncgfmfbjaa
