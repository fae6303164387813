/-
  No cell of these rows narrows 'for every input' (looked for: loops, veiled, ifaces, maps, wideKeys, modest, calm, conditions, laid).
  DERIVED. THE GIVEN ROWS OF THIS SEAT. 4 by the template 'for every input the law returns true; each argument reads behind the call as it read before'; 0 by the template 'total and deterministic' (their statements: YtioppnlojlecaaaTotals.lean).
  GIVEN WITH THE SEED: the statements are not yours to turn. If you find one false, say at which input.
  Laid BY PROGRAM, IN A SANDBOX (cutbox-rows.mjs): the forced cells as the released guide's own fill.sh prints them over the translation b80bf04e5d09998e… (all of the seat's roots in one cut). By AI agents, Wed Nov 11 2026. No macro, syntax, notation, axiom, sorry.
-/
import Derived.Test.YtioppnlojlecaaaChecked
import GoSem.Claim
import GoSem.ClaimJoined
import GoSem.ClaimMapViews
import Derived.JoinedTies
import Derived.KernelRfl
namespace Go.Proofs.Ytioppnlojlecaaa
/- THE CELL 'sum', in the pinned program and in every row, IS THE sha256 OF THE DUMP (.gsa) THAT YtioppnlojlecaaaProg.lean LOADS. Nothing in Lean hashes anything: it is a label: what it is worth is what the hold of that sum in a sandbox is worth. -/
noncomputable def Try.pinned : Pinned := { name := "ytioppnlojlecaaa", sum := "b80bf04e5d09998e58b86445961c1f0d145c9c11c6399ea91f72479e00908a45", checked := Try.checked }
namespace Rows
def none {H : Type} : Left H := { results := [], args := [] }

/-- 'footmanlaw4.GuardAll': WHATEVER THE INPUT: true; the input reads as it did. -/
def guardAllSpec : ChangeSpec := { name := "guardAll", fn := fun _ => fun
  | [d1, d2, d3, d4, d5] => { results := [.lit (.bool true)], args := [d1, d2, d3, d4, d5] }
  | _ => none }
def guardAllRow : OpenClaim := { program := "ytioppnlojlecaaa", sum := "b80bf04e5d09998e58b86445961c1f0d145c9c11c6399ea91f72479e00908a45", func := "footman/footmanlaw4.GuardAll", spec := "guardAll", plainKeys := false, apart := false }
def GuardAllSaid : Prop := guardAllRow.holds Try.pinned (OpenSpec.ofChange guardAllSpec)

/-- ITS FALSE NEIGHBOUR: 'it returns false'. Refute it at one input. -/
def guardAllWrong : ChangeSpec := { name := "guardAll", fn := fun _ => fun
  | [d1, d2, d3, d4, d5] => { results := [.lit (.bool false)], args := [d1, d2, d3, d4, d5] }
  | _ => none }
def GuardAllWrongFalsely : Prop := guardAllRow.holds Try.pinned (OpenSpec.ofChange guardAllWrong)

/-- 'footmanlaw4.GuardBack': WHATEVER THE INPUT: true; the input reads as it did. -/
def guardBackSpec : ChangeSpec := { name := "guardBack", fn := fun _ => fun
  | [d] => { results := [.lit (.bool true)], args := [d] }
  | _ => none }
def guardBackRow : OpenClaim := { program := "ytioppnlojlecaaa", sum := "b80bf04e5d09998e58b86445961c1f0d145c9c11c6399ea91f72479e00908a45", func := "footman/footmanlaw4.GuardBack", spec := "guardBack", plainKeys := false, apart := false }
def GuardBackSaid : Prop := guardBackRow.holds Try.pinned (OpenSpec.ofChange guardBackSpec)

/-- ITS FALSE NEIGHBOUR: 'it returns false'. Refute it at one input. -/
def guardBackWrong : ChangeSpec := { name := "guardBack", fn := fun _ => fun
  | [d] => { results := [.lit (.bool false)], args := [d] }
  | _ => none }
def GuardBackWrongFalsely : Prop := guardBackRow.holds Try.pinned (OpenSpec.ofChange guardBackWrong)

/-- 'footmanlaw4.GuardEdges': WHATEVER THE INPUT: true; the input reads as it did. -/
def guardEdgesSpec : ChangeSpec := { name := "guardEdges", fn := fun _ => fun
  | [d1, d2, d3, d4, d5, d6] => { results := [.lit (.bool true)], args := [d1, d2, d3, d4, d5, d6] }
  | _ => none }
def guardEdgesRow : OpenClaim := { program := "ytioppnlojlecaaa", sum := "b80bf04e5d09998e58b86445961c1f0d145c9c11c6399ea91f72479e00908a45", func := "footman/footmanlaw4.GuardEdges", spec := "guardEdges", plainKeys := false, apart := false }
def GuardEdgesSaid : Prop := guardEdgesRow.holds Try.pinned (OpenSpec.ofChange guardEdgesSpec)

/-- ITS FALSE NEIGHBOUR: 'it returns false'. Refute it at one input. -/
def guardEdgesWrong : ChangeSpec := { name := "guardEdges", fn := fun _ => fun
  | [d1, d2, d3, d4, d5, d6] => { results := [.lit (.bool false)], args := [d1, d2, d3, d4, d5, d6] }
  | _ => none }
def GuardEdgesWrongFalsely : Prop := guardEdgesRow.holds Try.pinned (OpenSpec.ofChange guardEdgesWrong)

/-- 'footmanlaw4.GuardMore': WHATEVER THE INPUT: true; the input reads as it did. -/
def guardMoreSpec : ChangeSpec := { name := "guardMore", fn := fun _ => fun
  | [d1, d2, d3, d4, d5] => { results := [.lit (.bool true)], args := [d1, d2, d3, d4, d5] }
  | _ => none }
def guardMoreRow : OpenClaim := { program := "ytioppnlojlecaaa", sum := "b80bf04e5d09998e58b86445961c1f0d145c9c11c6399ea91f72479e00908a45", func := "footman/footmanlaw4.GuardMore", spec := "guardMore", plainKeys := false, apart := false }
def GuardMoreSaid : Prop := guardMoreRow.holds Try.pinned (OpenSpec.ofChange guardMoreSpec)

/-- ITS FALSE NEIGHBOUR: 'it returns false'. Refute it at one input. -/
def guardMoreWrong : ChangeSpec := { name := "guardMore", fn := fun _ => fun
  | [d1, d2, d3, d4, d5] => { results := [.lit (.bool false)], args := [d1, d2, d3, d4, d5] }
  | _ => none }
def GuardMoreWrongFalsely : Prop := guardMoreRow.holds Try.pinned (OpenSpec.ofChange guardMoreWrong)

/- THE SECOND FORM. 'bulk': how many values and letters a reading holds, each counted each time it is reached (what is shared counts as often as it is met; a slice's spare places count too). A statement '..UptoSaid' is the law's where the arguments, and the package variables that the reading takes, are together of bulk at most 1048576: NARROWER than '..Said'. Prove '..Said' where nothing that the law and all that it calls make is longer than what came in: it says more and counts as full. Else prove '..UptoSaid'. A law counts once. -/
mutual
def uptoBulk {H : Type} : DataW H → Nat
  | .lit (.string bytes) => bytes.length + 1
  | .lit _ => 1
  | .nil => 1
  | .ptr d => uptoBulk d + 1
  | .slice elems spare => uptoBulkAll elems + uptoBulkAll spare + 1
  | .agg parts => uptoBulkAll parts + 1
  | .iface _ d => uptoBulk d + 1
  | .map entries => uptoBulkEntries entries + 1
  | .held _ => 1
def uptoBulkAll {H : Type} : List (DataW H) → Nat
  | [] => 0
  | d :: r => uptoBulk d + uptoBulkAll r
def uptoBulkEntries {H : Type} : List (Lit × DataW H) → Nat
  | [] => 0
  | x :: r => uptoBulkEntry x + uptoBulkEntries r
def uptoBulkEntry {H : Type} : Lit × DataW H → Nat
  | (.string bytes, d) => bytes.length + uptoBulk d + 1
  | (_, d) => uptoBulk d + 1
 end
def uptoSmall : (H : Type) → List (DataW H) → Bool := fun _ ds => decide (uptoBulkAll ds ≤ 1048576)
def OpenSpec.upto (s : _root_.Go.ChangeSpec) : _root_.Go.OpenSpec := { _root_.Go.OpenSpec.ofChange s with cond := some uptoSmall }

/-- 'footmanlaw4.GuardAll', WHERE WHAT IT READS IS OF BULK AT MOST 1048576: true; the input reads as it did. -/
def guardAllUptoRow : OpenClaim := { program := "ytioppnlojlecaaa", sum := "b80bf04e5d09998e58b86445961c1f0d145c9c11c6399ea91f72479e00908a45", func := "footman/footmanlaw4.GuardAll", spec := "guardAll", plainKeys := false, apart := false, narrowed := true }
def GuardAllUptoSaid : Prop := guardAllUptoRow.holds Try.pinned (OpenSpec.upto guardAllSpec)

/-- 'footmanlaw4.GuardBack', WHERE WHAT IT READS IS OF BULK AT MOST 1048576: true; the input reads as it did. -/
def guardBackUptoRow : OpenClaim := { program := "ytioppnlojlecaaa", sum := "b80bf04e5d09998e58b86445961c1f0d145c9c11c6399ea91f72479e00908a45", func := "footman/footmanlaw4.GuardBack", spec := "guardBack", plainKeys := false, apart := false, narrowed := true }
def GuardBackUptoSaid : Prop := guardBackUptoRow.holds Try.pinned (OpenSpec.upto guardBackSpec)

/-- 'footmanlaw4.GuardEdges', WHERE WHAT IT READS IS OF BULK AT MOST 1048576: true; the input reads as it did. -/
def guardEdgesUptoRow : OpenClaim := { program := "ytioppnlojlecaaa", sum := "b80bf04e5d09998e58b86445961c1f0d145c9c11c6399ea91f72479e00908a45", func := "footman/footmanlaw4.GuardEdges", spec := "guardEdges", plainKeys := false, apart := false, narrowed := true }
def GuardEdgesUptoSaid : Prop := guardEdgesUptoRow.holds Try.pinned (OpenSpec.upto guardEdgesSpec)

/-- 'footmanlaw4.GuardMore', WHERE WHAT IT READS IS OF BULK AT MOST 1048576: true; the input reads as it did. -/
def guardMoreUptoRow : OpenClaim := { program := "ytioppnlojlecaaa", sum := "b80bf04e5d09998e58b86445961c1f0d145c9c11c6399ea91f72479e00908a45", func := "footman/footmanlaw4.GuardMore", spec := "guardMore", plainKeys := false, apart := false, narrowed := true }
def GuardMoreUptoSaid : Prop := guardMoreUptoRow.holds Try.pinned (OpenSpec.upto guardMoreSpec)

end Rows
end Go.Proofs.Ytioppnlojlecaaa
