/-
  No cell of these rows narrows 'for every input' (looked for: loops, veiled, ifaces, maps, wideKeys, modest, calm, conditions, laid).
  DERIVED. THE GIVEN ROWS OF THIS SEAT. 6 by the template 'for every input the law returns true; each argument reads behind the call as it read before'; 0 by the template 'total and deterministic' (their statements: YtpjnefnngmlpjaaTotals.lean).
  GIVEN WITH THE SEED: the statements are not yours to turn. If you find one false, say at which input.
  Laid BY PROGRAM, IN A SANDBOX (cutbox-rows.mjs): the forced cells as the released guide's own fill.sh prints them over the translation 3d3d61d7451d74b3… (all of the seat's roots in one cut). By AI agents, Wed Nov 11 2026. No macro, syntax, notation, axiom, sorry.
-/
import Derived.Test.YtpjnefnngmlpjaaChecked
import GoSem.Claim
import GoSem.ClaimJoined
import GoSem.ClaimMapViews
import Derived.JoinedTies
import Derived.KernelRfl
namespace Go.Proofs.Ytpjnefnngmlpjaa
/- THE CELL 'sum', in the pinned program and in every row, IS THE sha256 OF THE DUMP (.gsa) THAT YtpjnefnngmlpjaaProg.lean LOADS. Nothing in Lean hashes anything: it is a label: what it is worth is what the hold of that sum in a sandbox is worth. -/
noncomputable def Try.pinned : Pinned := { name := "ytpjnefnngmlpjaa", sum := "3d3d61d7451d74b3987d8f3996bedbeeab1950d2047167f7b2d17492af367d64", checked := Try.checked }
namespace Rows
def none {H : Type} : Left H := { results := [], args := [] }

/-- 'footmanlaw8.AsmRaw': WHATEVER THE INPUT: true; the input reads as it did. -/
def asmRawSpec : ChangeSpec := { name := "asmRaw", fn := fun _ => fun
  | [d1, d2] => { results := [.lit (.bool true)], args := [d1, d2] }
  | _ => none }
def asmRawRow : OpenClaim := { program := "ytpjnefnngmlpjaa", sum := "3d3d61d7451d74b3987d8f3996bedbeeab1950d2047167f7b2d17492af367d64", func := "footman/footmanlaw8.AsmRaw", spec := "asmRaw", plainKeys := false, apart := false }
def AsmRawSaid : Prop := asmRawRow.holds Try.pinned (OpenSpec.ofChange asmRawSpec)

/-- ITS FALSE NEIGHBOUR: 'it returns false'. Refute it at one input. -/
def asmRawWrong : ChangeSpec := { name := "asmRaw", fn := fun _ => fun
  | [d1, d2] => { results := [.lit (.bool false)], args := [d1, d2] }
  | _ => none }
def AsmRawWrongFalsely : Prop := asmRawRow.holds Try.pinned (OpenSpec.ofChange asmRawWrong)

/-- 'footmanlaw8.AsmMade': WHATEVER THE INPUT: true; the input reads as it did. -/
def asmMadeSpec : ChangeSpec := { name := "asmMade", fn := fun _ => fun
  | [d1, d2, d3] => { results := [.lit (.bool true)], args := [d1, d2, d3] }
  | _ => none }
def asmMadeRow : OpenClaim := { program := "ytpjnefnngmlpjaa", sum := "3d3d61d7451d74b3987d8f3996bedbeeab1950d2047167f7b2d17492af367d64", func := "footman/footmanlaw8.AsmMade", spec := "asmMade", plainKeys := false, apart := false }
def AsmMadeSaid : Prop := asmMadeRow.holds Try.pinned (OpenSpec.ofChange asmMadeSpec)

/-- ITS FALSE NEIGHBOUR: 'it returns false'. Refute it at one input. -/
def asmMadeWrong : ChangeSpec := { name := "asmMade", fn := fun _ => fun
  | [d1, d2, d3] => { results := [.lit (.bool false)], args := [d1, d2, d3] }
  | _ => none }
def AsmMadeWrongFalsely : Prop := asmMadeRow.holds Try.pinned (OpenSpec.ofChange asmMadeWrong)

/-- 'footmanlaw8.AsmFar': WHATEVER THE INPUT: true; the input reads as it did. -/
def asmFarSpec : ChangeSpec := { name := "asmFar", fn := fun _ => fun
  | [d1, d2, d3, d4, d5] => { results := [.lit (.bool true)], args := [d1, d2, d3, d4, d5] }
  | _ => none }
def asmFarRow : OpenClaim := { program := "ytpjnefnngmlpjaa", sum := "3d3d61d7451d74b3987d8f3996bedbeeab1950d2047167f7b2d17492af367d64", func := "footman/footmanlaw8.AsmFar", spec := "asmFar", plainKeys := false, apart := false }
def AsmFarSaid : Prop := asmFarRow.holds Try.pinned (OpenSpec.ofChange asmFarSpec)

/-- ITS FALSE NEIGHBOUR: 'it returns false'. Refute it at one input. -/
def asmFarWrong : ChangeSpec := { name := "asmFar", fn := fun _ => fun
  | [d1, d2, d3, d4, d5] => { results := [.lit (.bool false)], args := [d1, d2, d3, d4, d5] }
  | _ => none }
def AsmFarWrongFalsely : Prop := asmFarRow.holds Try.pinned (OpenSpec.ofChange asmFarWrong)

/-- 'footmanlaw8.AsmLoads': WHATEVER THE INPUT: true; the input reads as it did. -/
def asmLoadsSpec : ChangeSpec := { name := "asmLoads", fn := fun _ => fun
  | [d1, d2, d3, d4] => { results := [.lit (.bool true)], args := [d1, d2, d3, d4] }
  | _ => none }
def asmLoadsRow : OpenClaim := { program := "ytpjnefnngmlpjaa", sum := "3d3d61d7451d74b3987d8f3996bedbeeab1950d2047167f7b2d17492af367d64", func := "footman/footmanlaw8.AsmLoads", spec := "asmLoads", plainKeys := false, apart := false }
def AsmLoadsSaid : Prop := asmLoadsRow.holds Try.pinned (OpenSpec.ofChange asmLoadsSpec)

/-- ITS FALSE NEIGHBOUR: 'it returns false'. Refute it at one input. -/
def asmLoadsWrong : ChangeSpec := { name := "asmLoads", fn := fun _ => fun
  | [d1, d2, d3, d4] => { results := [.lit (.bool false)], args := [d1, d2, d3, d4] }
  | _ => none }
def AsmLoadsWrongFalsely : Prop := asmLoadsRow.holds Try.pinned (OpenSpec.ofChange asmLoadsWrong)

/-- 'footmanlaw8.AsmWrong': WHATEVER THE INPUT: true; the input reads as it did. -/
def asmWrongSpec : ChangeSpec := { name := "asmWrong", fn := fun _ => fun
  | [d1, d2, d3] => { results := [.lit (.bool true)], args := [d1, d2, d3] }
  | _ => none }
def asmWrongRow : OpenClaim := { program := "ytpjnefnngmlpjaa", sum := "3d3d61d7451d74b3987d8f3996bedbeeab1950d2047167f7b2d17492af367d64", func := "footman/footmanlaw8.AsmWrong", spec := "asmWrong", plainKeys := false, apart := false }
def AsmWrongSaid : Prop := asmWrongRow.holds Try.pinned (OpenSpec.ofChange asmWrongSpec)

/-- ITS FALSE NEIGHBOUR: 'it returns false'. Refute it at one input. -/
def asmWrongWrong : ChangeSpec := { name := "asmWrong", fn := fun _ => fun
  | [d1, d2, d3] => { results := [.lit (.bool false)], args := [d1, d2, d3] }
  | _ => none }
def AsmWrongWrongFalsely : Prop := asmWrongRow.holds Try.pinned (OpenSpec.ofChange asmWrongWrong)

/-- 'footmanlaw8.AsmRows': WHATEVER THE INPUT: true; the input reads as it did. -/
def asmRowsSpec : ChangeSpec := { name := "asmRows", fn := fun _ => fun
  | [d1, d2, d3] => { results := [.lit (.bool true)], args := [d1, d2, d3] }
  | _ => none }
def asmRowsRow : OpenClaim := { program := "ytpjnefnngmlpjaa", sum := "3d3d61d7451d74b3987d8f3996bedbeeab1950d2047167f7b2d17492af367d64", func := "footman/footmanlaw8.AsmRows", spec := "asmRows", plainKeys := false, apart := false }
def AsmRowsSaid : Prop := asmRowsRow.holds Try.pinned (OpenSpec.ofChange asmRowsSpec)

/-- ITS FALSE NEIGHBOUR: 'it returns false'. Refute it at one input. -/
def asmRowsWrong : ChangeSpec := { name := "asmRows", fn := fun _ => fun
  | [d1, d2, d3] => { results := [.lit (.bool false)], args := [d1, d2, d3] }
  | _ => none }
def AsmRowsWrongFalsely : Prop := asmRowsRow.holds Try.pinned (OpenSpec.ofChange asmRowsWrong)

/- THE SECOND FORM. 'bulk': how many values and letters a reading holds, each counted each time it is reached (what is shared counts as often as it is met; a slice's spare places count too). A statement '..UptoSaid' is the law's where the arguments, and the package variables that the reading takes, are together of bulk at most 1048576: NARROWER than '..Said'. Prove '..Said' where nothing that the law and all that it calls make is longer than what came in: it says more and counts as full. Else prove '..UptoSaid'. A law counts once. -/
mutual
def uptoBulk {H : Type} : DataW H → Nat
  | .lit (.string bytes) => bytes.length + 1
  | .lit _ => 1
  | .nil => 1
  | .ptr d => uptoBulk d + 1
  | .slice elems spare => uptoBulkAll elems + uptoBulkAll spare + 1
  | .agg parts => uptoBulkAll parts + 1
  | .iface _ d => uptoBulk d + 1
  | .map entries => uptoBulkEntries entries + 1
  | .held _ => 1
def uptoBulkAll {H : Type} : List (DataW H) → Nat
  | [] => 0
  | d :: r => uptoBulk d + uptoBulkAll r
def uptoBulkEntries {H : Type} : List (Lit × DataW H) → Nat
  | [] => 0
  | x :: r => uptoBulkEntry x + uptoBulkEntries r
def uptoBulkEntry {H : Type} : Lit × DataW H → Nat
  | (.string bytes, d) => bytes.length + uptoBulk d + 1
  | (_, d) => uptoBulk d + 1
 end
def uptoSmall : (H : Type) → List (DataW H) → Bool := fun _ ds => decide (uptoBulkAll ds ≤ 1048576)
def OpenSpec.upto (s : _root_.Go.ChangeSpec) : _root_.Go.OpenSpec := { _root_.Go.OpenSpec.ofChange s with cond := some uptoSmall }

/-- 'footmanlaw8.AsmRaw', WHERE WHAT IT READS IS OF BULK AT MOST 1048576: true; the input reads as it did. -/
def asmRawUptoRow : OpenClaim := { program := "ytpjnefnngmlpjaa", sum := "3d3d61d7451d74b3987d8f3996bedbeeab1950d2047167f7b2d17492af367d64", func := "footman/footmanlaw8.AsmRaw", spec := "asmRaw", plainKeys := false, apart := false, narrowed := true }
def AsmRawUptoSaid : Prop := asmRawUptoRow.holds Try.pinned (OpenSpec.upto asmRawSpec)

/-- 'footmanlaw8.AsmMade', WHERE WHAT IT READS IS OF BULK AT MOST 1048576: true; the input reads as it did. -/
def asmMadeUptoRow : OpenClaim := { program := "ytpjnefnngmlpjaa", sum := "3d3d61d7451d74b3987d8f3996bedbeeab1950d2047167f7b2d17492af367d64", func := "footman/footmanlaw8.AsmMade", spec := "asmMade", plainKeys := false, apart := false, narrowed := true }
def AsmMadeUptoSaid : Prop := asmMadeUptoRow.holds Try.pinned (OpenSpec.upto asmMadeSpec)

/-- 'footmanlaw8.AsmFar', WHERE WHAT IT READS IS OF BULK AT MOST 1048576: true; the input reads as it did. -/
def asmFarUptoRow : OpenClaim := { program := "ytpjnefnngmlpjaa", sum := "3d3d61d7451d74b3987d8f3996bedbeeab1950d2047167f7b2d17492af367d64", func := "footman/footmanlaw8.AsmFar", spec := "asmFar", plainKeys := false, apart := false, narrowed := true }
def AsmFarUptoSaid : Prop := asmFarUptoRow.holds Try.pinned (OpenSpec.upto asmFarSpec)

/-- 'footmanlaw8.AsmLoads', WHERE WHAT IT READS IS OF BULK AT MOST 1048576: true; the input reads as it did. -/
def asmLoadsUptoRow : OpenClaim := { program := "ytpjnefnngmlpjaa", sum := "3d3d61d7451d74b3987d8f3996bedbeeab1950d2047167f7b2d17492af367d64", func := "footman/footmanlaw8.AsmLoads", spec := "asmLoads", plainKeys := false, apart := false, narrowed := true }
def AsmLoadsUptoSaid : Prop := asmLoadsUptoRow.holds Try.pinned (OpenSpec.upto asmLoadsSpec)

/-- 'footmanlaw8.AsmWrong', WHERE WHAT IT READS IS OF BULK AT MOST 1048576: true; the input reads as it did. -/
def asmWrongUptoRow : OpenClaim := { program := "ytpjnefnngmlpjaa", sum := "3d3d61d7451d74b3987d8f3996bedbeeab1950d2047167f7b2d17492af367d64", func := "footman/footmanlaw8.AsmWrong", spec := "asmWrong", plainKeys := false, apart := false, narrowed := true }
def AsmWrongUptoSaid : Prop := asmWrongUptoRow.holds Try.pinned (OpenSpec.upto asmWrongSpec)

/-- 'footmanlaw8.AsmRows', WHERE WHAT IT READS IS OF BULK AT MOST 1048576: true; the input reads as it did. -/
def asmRowsUptoRow : OpenClaim := { program := "ytpjnefnngmlpjaa", sum := "3d3d61d7451d74b3987d8f3996bedbeeab1950d2047167f7b2d17492af367d64", func := "footman/footmanlaw8.AsmRows", spec := "asmRows", plainKeys := false, apart := false, narrowed := true }
def AsmRowsUptoSaid : Prop := asmRowsUptoRow.holds Try.pinned (OpenSpec.upto asmRowsSpec)

end Rows
end Go.Proofs.Ytpjnefnngmlpjaa
