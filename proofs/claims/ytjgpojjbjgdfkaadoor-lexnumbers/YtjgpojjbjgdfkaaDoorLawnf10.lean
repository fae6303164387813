/-
  LexNumbers, in the form in which the frame opens what came in.
-/
import Derived.Test.YtjgpojjbjgdfkaaDoorLawnu10
namespace Go.Proofs.YtjgpojjbjgdfkaaDoor
open Go.RowKit

theorem lexNumbers (n sh c : Int) (w : World) (h0 : (Lit.int .u64 n).wf = true) (h1 : (Lit.int .u8 sh).wf = true) (h2 : (Lit.int .u8 c).wf = true)
    (he : ∃ ev, w.cell? ⟨1, 0, none⟩ = some ev ∧ (ev = .nilIface ∨ ∃ te pe, ev = .iface te pe)) :
    Calls Tryd.prog 6 #[.int .u64 n, .int .u8 sh, .int .u8 c] w fun e w' => e = .returned (.bool true) ∧ Below w.heap.size w w' := by
  obtain ⟨ev, hv, hev⟩ := he
  exact lexNumbers_way n sh c w (bounds_u64 h0) (bounds_u8 h1) (bounds_u8 h2) ev hv hev
end Go.Proofs.YtjgpojjbjgdfkaaDoor
