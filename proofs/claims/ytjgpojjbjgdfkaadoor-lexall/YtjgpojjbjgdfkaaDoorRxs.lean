/-
  footmanref10: signs; the sign at a place, as the document looks for it.
-/
import Derived.Test.YtjgpojjbjgdfkaaDoorRxe
namespace Go.Proofs.YtjgpojjbjgdfkaaDoor
open Go.RowKit

def signL : List (List UInt8) := [[61, 61], [33, 61], [60, 61], [62, 61], [60, 60], [62, 62], [123], [125], [40], [41], [91], [93], [59], [44], [61], [60], [62], [43], [45], [42], [47], [37], [38], [94], [124], [126]]
def signS (k : Nat) : ByteArray := ⟨(signL.getD k []).toArray⟩
def signCells : Array Value := ((List.range 26).map fun k => Value.string (signS k)).toArray
set_option maxRecDepth 100000 in
set_option maxHeartbeats 4000000 in
theorem xSigns (w : World) : Calls Tryd.prog 27 #[] w fun e w' => e = .returned (.slice (some ⟨w.heap.size, 0, none⟩) 26 26) ∧ w'.heap[w.heap.size]? = some (.cells signCells 9) ∧ Below w.heap.size w w' := by
  go_enter Tryd.func27, Tryd.ntmps27
  go_wp2
  go_ret
  exact ⟨rfl, alloc_at _ _, (Below.refl _ _).alloc (Nat.le_refl _) _⟩
theorem sign_cell {k : Nat} (h : k < 26) : signCells[k]? = some (.string (signS k)) := by
  unfold signCells
  simp [h]
theorem sign_list (k : Nat) : (signS k).toList = signL.getD k [] := by
  unfold signS
  exact (by simp : (ByteArray.mk (signL.getD k []).toArray).toList = signL.getD k [])
end Go.Proofs.YtjgpojjbjgdfkaaDoor
