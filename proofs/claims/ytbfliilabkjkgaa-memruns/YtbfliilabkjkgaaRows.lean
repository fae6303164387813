/-
  No cell of these rows narrows 'for every input' (looked for: loops, veiled, ifaces, maps, wideKeys, modest, calm, conditions, laid).
  DERIVED. THE GIVEN ROWS OF THIS SEAT. 5 by the template 'for every input the law returns true; each argument reads behind the call as it read before'; 0 by the template 'total and deterministic' (their statements: YtbfliilabkjkgaaTotals.lean).
  GIVEN WITH THE SEED: the statements are not yours to turn. If you find one false, say at which input.
  Laid BY PROGRAM, IN A SANDBOX (cutbox-rows.mjs): the forced cells as the released guide's own fill.sh prints them over the translation fb8bbf50e42094cf… (all of the seat's roots in one cut). By AI agents, Wed Nov 11 2026. No macro, syntax, notation, axiom, sorry.
-/
import Derived.Test.YtbfliilabkjkgaaChecked
import GoSem.Claim
import GoSem.ClaimJoined
import GoSem.ClaimMapViews
import Derived.JoinedTies
import Derived.KernelRfl
namespace Go.Proofs.Ytbfliilabkjkgaa
/- THE CELL 'sum', in the pinned program and in every row, IS THE sha256 OF THE DUMP (.gsa) THAT YtbfliilabkjkgaaProg.lean LOADS. Nothing in Lean hashes anything: it is a label: what it is worth is what the hold of that sum in a sandbox is worth. -/
noncomputable def Try.pinned : Pinned := { name := "ytbfliilabkjkgaa", sum := "fb8bbf50e42094cfcc1ef322f8bbce1b7efb8aca27fed4dd8269e3697c3664b1", checked := Try.checked }
namespace Rows
def none {H : Type} : Left H := { results := [], args := [] }

/-- 'footmanlaw3.MemRuns': WHATEVER THE INPUT: true; the input reads as it did. -/
def memRunsSpec : ChangeSpec := { name := "memRuns", fn := fun _ => fun
  | [d1, d2] => { results := [.lit (.bool true)], args := [d1, d2] }
  | _ => none }
def memRunsRow : OpenClaim := { program := "ytbfliilabkjkgaa", sum := "fb8bbf50e42094cfcc1ef322f8bbce1b7efb8aca27fed4dd8269e3697c3664b1", func := "footman/footmanlaw3.MemRuns", spec := "memRuns", apart := false }
def MemRunsSaid : Prop := memRunsRow.holds Try.pinned (OpenSpec.ofChange memRunsSpec)

/-- ITS FALSE NEIGHBOUR: 'it returns false'. Refute it at one input. -/
def memRunsWrong : ChangeSpec := { name := "memRuns", fn := fun _ => fun
  | [d1, d2] => { results := [.lit (.bool false)], args := [d1, d2] }
  | _ => none }
def MemRunsWrongFalsely : Prop := memRunsRow.holds Try.pinned (OpenSpec.ofChange memRunsWrong)

/-- 'footmanlaw3.MemBytes': WHATEVER THE INPUT: true; the input reads as it did. -/
def memBytesSpec : ChangeSpec := { name := "memBytes", fn := fun _ => fun
  | [d1, d2, d3] => { results := [.lit (.bool true)], args := [d1, d2, d3] }
  | _ => none }
def memBytesRow : OpenClaim := { program := "ytbfliilabkjkgaa", sum := "fb8bbf50e42094cfcc1ef322f8bbce1b7efb8aca27fed4dd8269e3697c3664b1", func := "footman/footmanlaw3.MemBytes", spec := "memBytes", apart := false }
def MemBytesSaid : Prop := memBytesRow.holds Try.pinned (OpenSpec.ofChange memBytesSpec)

/-- ITS FALSE NEIGHBOUR: 'it returns false'. Refute it at one input. -/
def memBytesWrong : ChangeSpec := { name := "memBytes", fn := fun _ => fun
  | [d1, d2, d3] => { results := [.lit (.bool false)], args := [d1, d2, d3] }
  | _ => none }
def MemBytesWrongFalsely : Prop := memBytesRow.holds Try.pinned (OpenSpec.ofChange memBytesWrong)

/-- 'footmanlaw3.MemRefuses': WHATEVER THE INPUT: true; the input reads as it did. -/
def memRefusesSpec : ChangeSpec := { name := "memRefuses", fn := fun _ => fun
  | [d1, d2, d3, d4] => { results := [.lit (.bool true)], args := [d1, d2, d3, d4] }
  | _ => none }
def memRefusesRow : OpenClaim := { program := "ytbfliilabkjkgaa", sum := "fb8bbf50e42094cfcc1ef322f8bbce1b7efb8aca27fed4dd8269e3697c3664b1", func := "footman/footmanlaw3.MemRefuses", spec := "memRefuses", apart := false }
def MemRefusesSaid : Prop := memRefusesRow.holds Try.pinned (OpenSpec.ofChange memRefusesSpec)

/-- ITS FALSE NEIGHBOUR: 'it returns false'. Refute it at one input. -/
def memRefusesWrong : ChangeSpec := { name := "memRefuses", fn := fun _ => fun
  | [d1, d2, d3, d4] => { results := [.lit (.bool false)], args := [d1, d2, d3, d4] }
  | _ => none }
def MemRefusesWrongFalsely : Prop := memRefusesRow.holds Try.pinned (OpenSpec.ofChange memRefusesWrong)

/-- 'footmanlaw3.MemOwn': WHATEVER THE INPUT: true; the input reads as it did. -/
def memOwnSpec : ChangeSpec := { name := "memOwn", fn := fun _ => fun
  | [d1, d2] => { results := [.lit (.bool true)], args := [d1, d2] }
  | _ => none }
def memOwnRow : OpenClaim := { program := "ytbfliilabkjkgaa", sum := "fb8bbf50e42094cfcc1ef322f8bbce1b7efb8aca27fed4dd8269e3697c3664b1", func := "footman/footmanlaw3.MemOwn", spec := "memOwn", apart := false }
def MemOwnSaid : Prop := memOwnRow.holds Try.pinned (OpenSpec.ofChange memOwnSpec)

/-- ITS FALSE NEIGHBOUR: 'it returns false'. Refute it at one input. -/
def memOwnWrong : ChangeSpec := { name := "memOwn", fn := fun _ => fun
  | [d1, d2] => { results := [.lit (.bool false)], args := [d1, d2] }
  | _ => none }
def MemOwnWrongFalsely : Prop := memOwnRow.holds Try.pinned (OpenSpec.ofChange memOwnWrong)

/-- 'footmanlaw3.MemSigns': WHATEVER THE INPUT: true; the input reads as it did. -/
def memSignsSpec : ChangeSpec := { name := "memSigns", fn := fun _ => fun
  | [d1, d2] => { results := [.lit (.bool true)], args := [d1, d2] }
  | _ => none }
def memSignsRow : OpenClaim := { program := "ytbfliilabkjkgaa", sum := "fb8bbf50e42094cfcc1ef322f8bbce1b7efb8aca27fed4dd8269e3697c3664b1", func := "footman/footmanlaw3.MemSigns", spec := "memSigns", apart := false }
def MemSignsSaid : Prop := memSignsRow.holds Try.pinned (OpenSpec.ofChange memSignsSpec)

/-- ITS FALSE NEIGHBOUR: 'it returns false'. Refute it at one input. -/
def memSignsWrong : ChangeSpec := { name := "memSigns", fn := fun _ => fun
  | [d1, d2] => { results := [.lit (.bool false)], args := [d1, d2] }
  | _ => none }
def MemSignsWrongFalsely : Prop := memSignsRow.holds Try.pinned (OpenSpec.ofChange memSignsWrong)

/- THE SECOND FORM. 'bulk': how many values and letters a reading holds, each counted each time it is reached (what is shared counts as often as it is met; a slice's spare places count too). A statement '..UptoSaid' is the law's where the arguments, and the package variables that the reading takes, are together of bulk at most 1048576: NARROWER than '..Said'. Prove '..Said' where nothing that the law and all that it calls make is longer than what came in: it says more and counts as full. Else prove '..UptoSaid'. A law counts once. -/
mutual
def uptoBulk {H : Type} : DataW H → Nat
  | .lit (.string bytes) => bytes.length + 1
  | .lit _ => 1
  | .nil => 1
  | .ptr d => uptoBulk d + 1
  | .slice elems spare => uptoBulkAll elems + uptoBulkAll spare + 1
  | .agg parts => uptoBulkAll parts + 1
  | .iface _ d => uptoBulk d + 1
  | .map entries => uptoBulkEntries entries + 1
  | .held _ => 1
def uptoBulkAll {H : Type} : List (DataW H) → Nat
  | [] => 0
  | d :: r => uptoBulk d + uptoBulkAll r
def uptoBulkEntries {H : Type} : List (Lit × DataW H) → Nat
  | [] => 0
  | x :: r => uptoBulkEntry x + uptoBulkEntries r
def uptoBulkEntry {H : Type} : Lit × DataW H → Nat
  | (.string bytes, d) => bytes.length + uptoBulk d + 1
  | (_, d) => uptoBulk d + 1
 end
def uptoSmall : (H : Type) → List (DataW H) → Bool := fun _ ds => decide (uptoBulkAll ds ≤ 1048576)
def OpenSpec.upto (s : _root_.Go.ChangeSpec) : _root_.Go.OpenSpec := { _root_.Go.OpenSpec.ofChange s with cond := some uptoSmall }

/-- 'footmanlaw3.MemRuns', WHERE WHAT IT READS IS OF BULK AT MOST 1048576: true; the input reads as it did. -/
def memRunsUptoRow : OpenClaim := { program := "ytbfliilabkjkgaa", sum := "fb8bbf50e42094cfcc1ef322f8bbce1b7efb8aca27fed4dd8269e3697c3664b1", func := "footman/footmanlaw3.MemRuns", spec := "memRuns", apart := false, narrowed := true }
def MemRunsUptoSaid : Prop := memRunsUptoRow.holds Try.pinned (OpenSpec.upto memRunsSpec)

/-- 'footmanlaw3.MemBytes', WHERE WHAT IT READS IS OF BULK AT MOST 1048576: true; the input reads as it did. -/
def memBytesUptoRow : OpenClaim := { program := "ytbfliilabkjkgaa", sum := "fb8bbf50e42094cfcc1ef322f8bbce1b7efb8aca27fed4dd8269e3697c3664b1", func := "footman/footmanlaw3.MemBytes", spec := "memBytes", apart := false, narrowed := true }
def MemBytesUptoSaid : Prop := memBytesUptoRow.holds Try.pinned (OpenSpec.upto memBytesSpec)

/-- 'footmanlaw3.MemRefuses', WHERE WHAT IT READS IS OF BULK AT MOST 1048576: true; the input reads as it did. -/
def memRefusesUptoRow : OpenClaim := { program := "ytbfliilabkjkgaa", sum := "fb8bbf50e42094cfcc1ef322f8bbce1b7efb8aca27fed4dd8269e3697c3664b1", func := "footman/footmanlaw3.MemRefuses", spec := "memRefuses", apart := false, narrowed := true }
def MemRefusesUptoSaid : Prop := memRefusesUptoRow.holds Try.pinned (OpenSpec.upto memRefusesSpec)

/-- 'footmanlaw3.MemOwn', WHERE WHAT IT READS IS OF BULK AT MOST 1048576: true; the input reads as it did. -/
def memOwnUptoRow : OpenClaim := { program := "ytbfliilabkjkgaa", sum := "fb8bbf50e42094cfcc1ef322f8bbce1b7efb8aca27fed4dd8269e3697c3664b1", func := "footman/footmanlaw3.MemOwn", spec := "memOwn", apart := false, narrowed := true }
def MemOwnUptoSaid : Prop := memOwnUptoRow.holds Try.pinned (OpenSpec.upto memOwnSpec)

/-- 'footmanlaw3.MemSigns', WHERE WHAT IT READS IS OF BULK AT MOST 1048576: true; the input reads as it did. -/
def memSignsUptoRow : OpenClaim := { program := "ytbfliilabkjkgaa", sum := "fb8bbf50e42094cfcc1ef322f8bbce1b7efb8aca27fed4dd8269e3697c3664b1", func := "footman/footmanlaw3.MemSigns", spec := "memSigns", apart := false, narrowed := true }
def MemSignsUptoSaid : Prop := memSignsUptoRow.holds Try.pinned (OpenSpec.upto memSignsSpec)

end Rows
end Go.Proofs.Ytbfliilabkjkgaa
