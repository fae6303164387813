/-
  No cell of these rows narrows 'for every input' (looked for: loops, veiled, ifaces, maps, wideKeys, modest, calm, conditions, laid).
  DERIVED. THE GIVEN ROWS OF THIS SEAT. 4 by the template 'for every input the law returns true; each argument reads behind the call as it read before'; 0 by the template 'total and deterministic' (their statements: YtfjppgfnjjmkpaaTotals.lean).
  GIVEN WITH THE SEED: the statements are not yours to turn. If you find one false, say at which input.
  Laid BY PROGRAM, IN A SANDBOX (cutbox-rows.mjs): the forced cells as the released guide's own fill.sh prints them over the translation f6ca68f3f56584ae… (all of the seat's roots in one cut). By AI agents, Wed Nov 11 2026. No macro, syntax, notation, axiom, sorry.
-/
import Derived.Test.YtfjppgfnjjmkpaaChecked
import GoSem.Claim
import GoSem.ClaimJoined
import GoSem.ClaimMapViews
import Derived.JoinedTies
import Derived.KernelRfl
namespace Go.Proofs.Ytfjppgfnjjmkpaa
/- THE CELL 'sum', in the pinned program and in every row, IS THE sha256 OF THE DUMP (.gsa) THAT YtfjppgfnjjmkpaaProg.lean LOADS. Nothing in Lean hashes anything: it is a label: what it is worth is what the hold of that sum in a sandbox is worth. -/
noncomputable def Try.pinned : Pinned := { name := "ytfjppgfnjjmkpaa", sum := "f6ca68f3f56584ae8bba9bf16b9fc1db518e4b3e3fb37368840acbe6ece102b0", checked := Try.checked }
namespace Rows
def none {H : Type} : Left H := { results := [], args := [] }

/-- 'footmanlaw9.ImageAll': WHATEVER THE INPUT: true; the input reads as it did. -/
def imageAllSpec : ChangeSpec := { name := "imageAll", fn := fun _ => fun
  | [d1, d2, d3] => { results := [.lit (.bool true)], args := [d1, d2, d3] }
  | _ => none }
def imageAllRow : OpenClaim := { program := "ytfjppgfnjjmkpaa", sum := "f6ca68f3f56584ae8bba9bf16b9fc1db518e4b3e3fb37368840acbe6ece102b0", func := "footman/footmanlaw9.ImageAll", spec := "imageAll", unfollowed := true, recurses := true, plainKeys := false, apart := false }
def ImageAllSaid : Prop := imageAllRow.holds Try.pinned (OpenSpec.ofChange imageAllSpec)

/-- ITS FALSE NEIGHBOUR: 'it returns false'. Refute it at one input. -/
def imageAllWrong : ChangeSpec := { name := "imageAll", fn := fun _ => fun
  | [d1, d2, d3] => { results := [.lit (.bool false)], args := [d1, d2, d3] }
  | _ => none }
def ImageAllWrongFalsely : Prop := imageAllRow.holds Try.pinned (OpenSpec.ofChange imageAllWrong)

/-- 'footmanlaw9.ImageTurned': WHATEVER THE INPUT: true; the input reads as it did. -/
def imageTurnedSpec : ChangeSpec := { name := "imageTurned", fn := fun _ => fun
  | [d1, d2, d3, d4] => { results := [.lit (.bool true)], args := [d1, d2, d3, d4] }
  | _ => none }
def imageTurnedRow : OpenClaim := { program := "ytfjppgfnjjmkpaa", sum := "f6ca68f3f56584ae8bba9bf16b9fc1db518e4b3e3fb37368840acbe6ece102b0", func := "footman/footmanlaw9.ImageTurned", spec := "imageTurned", unfollowed := true, recurses := true, plainKeys := false, apart := false }
def ImageTurnedSaid : Prop := imageTurnedRow.holds Try.pinned (OpenSpec.ofChange imageTurnedSpec)

/-- ITS FALSE NEIGHBOUR: 'it returns false'. Refute it at one input. -/
def imageTurnedWrong : ChangeSpec := { name := "imageTurned", fn := fun _ => fun
  | [d1, d2, d3, d4] => { results := [.lit (.bool false)], args := [d1, d2, d3, d4] }
  | _ => none }
def ImageTurnedWrongFalsely : Prop := imageTurnedRow.holds Try.pinned (OpenSpec.ofChange imageTurnedWrong)

/-- 'footmanlaw9.ImageRules': WHATEVER THE INPUT: true; the input reads as it did. -/
def imageRulesSpec : ChangeSpec := { name := "imageRules", fn := fun _ => fun
  | [d] => { results := [.lit (.bool true)], args := [d] }
  | _ => none }
def imageRulesRow : OpenClaim := { program := "ytfjppgfnjjmkpaa", sum := "f6ca68f3f56584ae8bba9bf16b9fc1db518e4b3e3fb37368840acbe6ece102b0", func := "footman/footmanlaw9.ImageRules", spec := "imageRules", unfollowed := true, recurses := true, plainKeys := false, apart := false }
def ImageRulesSaid : Prop := imageRulesRow.holds Try.pinned (OpenSpec.ofChange imageRulesSpec)

/-- ITS FALSE NEIGHBOUR: 'it returns false'. Refute it at one input. -/
def imageRulesWrong : ChangeSpec := { name := "imageRules", fn := fun _ => fun
  | [d] => { results := [.lit (.bool false)], args := [d] }
  | _ => none }
def ImageRulesWrongFalsely : Prop := imageRulesRow.holds Try.pinned (OpenSpec.ofChange imageRulesWrong)

/-- 'footmanlaw9.ImageApart': WHATEVER THE INPUT: true; the input reads as it did. -/
def imageApartSpec : ChangeSpec := { name := "imageApart", fn := fun _ => fun
  | [d] => { results := [.lit (.bool true)], args := [d] }
  | _ => none }
def imageApartRow : OpenClaim := { program := "ytfjppgfnjjmkpaa", sum := "f6ca68f3f56584ae8bba9bf16b9fc1db518e4b3e3fb37368840acbe6ece102b0", func := "footman/footmanlaw9.ImageApart", spec := "imageApart", unfollowed := true, recurses := true, plainKeys := false, apart := false }
def ImageApartSaid : Prop := imageApartRow.holds Try.pinned (OpenSpec.ofChange imageApartSpec)

/-- ITS FALSE NEIGHBOUR: 'it returns false'. Refute it at one input. -/
def imageApartWrong : ChangeSpec := { name := "imageApart", fn := fun _ => fun
  | [d] => { results := [.lit (.bool false)], args := [d] }
  | _ => none }
def ImageApartWrongFalsely : Prop := imageApartRow.holds Try.pinned (OpenSpec.ofChange imageApartWrong)

/- THE SECOND FORM. 'bulk': how many values and letters a reading holds, each counted each time it is reached (what is shared counts as often as it is met; a slice's spare places count too). A statement '..UptoSaid' is the law's where the arguments, and the package variables that the reading takes, are together of bulk at most 1048576: NARROWER than '..Said'. Prove '..Said' where nothing that the law and all that it calls make is longer than what came in: it says more and counts as full. Else prove '..UptoSaid'. A law counts once. -/
mutual
def uptoBulk {H : Type} : DataW H → Nat
  | .lit (.string bytes) => bytes.length + 1
  | .lit _ => 1
  | .nil => 1
  | .ptr d => uptoBulk d + 1
  | .slice elems spare => uptoBulkAll elems + uptoBulkAll spare + 1
  | .agg parts => uptoBulkAll parts + 1
  | .iface _ d => uptoBulk d + 1
  | .map entries => uptoBulkEntries entries + 1
  | .held _ => 1
def uptoBulkAll {H : Type} : List (DataW H) → Nat
  | [] => 0
  | d :: r => uptoBulk d + uptoBulkAll r
def uptoBulkEntries {H : Type} : List (Lit × DataW H) → Nat
  | [] => 0
  | x :: r => uptoBulkEntry x + uptoBulkEntries r
def uptoBulkEntry {H : Type} : Lit × DataW H → Nat
  | (.string bytes, d) => bytes.length + uptoBulk d + 1
  | (_, d) => uptoBulk d + 1
 end
def uptoSmall : (H : Type) → List (DataW H) → Bool := fun _ ds => decide (uptoBulkAll ds ≤ 1048576)
def OpenSpec.upto (s : _root_.Go.ChangeSpec) : _root_.Go.OpenSpec := { _root_.Go.OpenSpec.ofChange s with cond := some uptoSmall }

/-- 'footmanlaw9.ImageAll', WHERE WHAT IT READS IS OF BULK AT MOST 1048576: true; the input reads as it did. -/
def imageAllUptoRow : OpenClaim := { program := "ytfjppgfnjjmkpaa", sum := "f6ca68f3f56584ae8bba9bf16b9fc1db518e4b3e3fb37368840acbe6ece102b0", func := "footman/footmanlaw9.ImageAll", spec := "imageAll", unfollowed := true, recurses := true, plainKeys := false, apart := false, narrowed := true }
def ImageAllUptoSaid : Prop := imageAllUptoRow.holds Try.pinned (OpenSpec.upto imageAllSpec)

/-- 'footmanlaw9.ImageTurned', WHERE WHAT IT READS IS OF BULK AT MOST 1048576: true; the input reads as it did. -/
def imageTurnedUptoRow : OpenClaim := { program := "ytfjppgfnjjmkpaa", sum := "f6ca68f3f56584ae8bba9bf16b9fc1db518e4b3e3fb37368840acbe6ece102b0", func := "footman/footmanlaw9.ImageTurned", spec := "imageTurned", unfollowed := true, recurses := true, plainKeys := false, apart := false, narrowed := true }
def ImageTurnedUptoSaid : Prop := imageTurnedUptoRow.holds Try.pinned (OpenSpec.upto imageTurnedSpec)

/-- 'footmanlaw9.ImageRules', WHERE WHAT IT READS IS OF BULK AT MOST 1048576: true; the input reads as it did. -/
def imageRulesUptoRow : OpenClaim := { program := "ytfjppgfnjjmkpaa", sum := "f6ca68f3f56584ae8bba9bf16b9fc1db518e4b3e3fb37368840acbe6ece102b0", func := "footman/footmanlaw9.ImageRules", spec := "imageRules", unfollowed := true, recurses := true, plainKeys := false, apart := false, narrowed := true }
def ImageRulesUptoSaid : Prop := imageRulesUptoRow.holds Try.pinned (OpenSpec.upto imageRulesSpec)

/-- 'footmanlaw9.ImageApart', WHERE WHAT IT READS IS OF BULK AT MOST 1048576: true; the input reads as it did. -/
def imageApartUptoRow : OpenClaim := { program := "ytfjppgfnjjmkpaa", sum := "f6ca68f3f56584ae8bba9bf16b9fc1db518e4b3e3fb37368840acbe6ece102b0", func := "footman/footmanlaw9.ImageApart", spec := "imageApart", unfollowed := true, recurses := true, plainKeys := false, apart := false, narrowed := true }
def ImageApartUptoSaid : Prop := imageApartUptoRow.holds Try.pinned (OpenSpec.upto imageApartSpec)

end Rows
end Go.Proofs.Ytfjppgfnjjmkpaa
