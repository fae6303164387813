/-
  No cell of these rows narrows 'for every input' (looked for: loops, veiled, ifaces, maps, wideKeys, modest, calm, conditions, laid).
  DERIVED. THE GIVEN ROWS OF THIS SEAT. 4 by the template 'for every input the law returns true; each argument reads behind the call as it read before'; 0 by the template 'total and deterministic' (their statements: YtmmaoncgfmfbjaaTotals.lean).
  GIVEN WITH THE SEED: the statements are not yours to turn. If you find one false, say at which input.
  Laid BY PROGRAM, IN A SANDBOX (cutbox-rows.mjs): the forced cells as the released guide's own fill.sh prints them over the translation 83987adb616e4e8a… (all of the seat's roots in one cut). By AI agents, Wed Nov 11 2026. No macro, syntax, notation, axiom, sorry.
-/
import Derived.Test.YtmmaoncgfmfbjaaChecked
import GoSem.Claim
import GoSem.ClaimJoined
import GoSem.ClaimMapViews
import Derived.JoinedTies
import Derived.KernelRfl
namespace Go.Proofs.Ytmmaoncgfmfbjaa
/- THE CELL 'sum', in the pinned program and in every row, IS THE sha256 OF THE DUMP (.gsa) THAT YtmmaoncgfmfbjaaProg.lean LOADS. Nothing in Lean hashes anything: it is a label: what it is worth is what the hold of that sum in a sandbox is worth. -/
noncomputable def Try.pinned : Pinned := { name := "ytmmaoncgfmfbjaa", sum := "83987adb616e4e8a8602fe660dd090c686165cfa841436e060f28542e18aa163", checked := Try.checked }
namespace Rows
def none {H : Type} : Left H := { results := [], args := [] }

/-- 'footmanlaw5.CsrAll': WHATEVER THE INPUT: true; the input reads as it did. -/
def csrAllSpec : ChangeSpec := { name := "csrAll", fn := fun _ => fun
  | [d1, d2, d3, d4, d5, d6, d7, d8] => { results := [.lit (.bool true)], args := [d1, d2, d3, d4, d5, d6, d7, d8] }
  | _ => none }
def csrAllRow : OpenClaim := { program := "ytmmaoncgfmfbjaa", sum := "83987adb616e4e8a8602fe660dd090c686165cfa841436e060f28542e18aa163", func := "footman/footmanlaw5.CsrAll", spec := "csrAll", apart := false }
def CsrAllSaid : Prop := csrAllRow.holds Try.pinned (OpenSpec.ofChange csrAllSpec)

/-- ITS FALSE NEIGHBOUR: 'it returns false'. Refute it at one input. -/
def csrAllWrong : ChangeSpec := { name := "csrAll", fn := fun _ => fun
  | [d1, d2, d3, d4, d5, d6, d7, d8] => { results := [.lit (.bool false)], args := [d1, d2, d3, d4, d5, d6, d7, d8] }
  | _ => none }
def CsrAllWrongFalsely : Prop := csrAllRow.holds Try.pinned (OpenSpec.ofChange csrAllWrong)

/-- 'footmanlaw5.CsrBack': WHATEVER THE INPUT: true; the input reads as it did. -/
def csrBackSpec : ChangeSpec := { name := "csrBack", fn := fun _ => fun
  | [d1, d2, d3, d4, d5, d6] => { results := [.lit (.bool true)], args := [d1, d2, d3, d4, d5, d6] }
  | _ => none }
def csrBackRow : OpenClaim := { program := "ytmmaoncgfmfbjaa", sum := "83987adb616e4e8a8602fe660dd090c686165cfa841436e060f28542e18aa163", func := "footman/footmanlaw5.CsrBack", spec := "csrBack", apart := false }
def CsrBackSaid : Prop := csrBackRow.holds Try.pinned (OpenSpec.ofChange csrBackSpec)

/-- ITS FALSE NEIGHBOUR: 'it returns false'. Refute it at one input. -/
def csrBackWrong : ChangeSpec := { name := "csrBack", fn := fun _ => fun
  | [d1, d2, d3, d4, d5, d6] => { results := [.lit (.bool false)], args := [d1, d2, d3, d4, d5, d6] }
  | _ => none }
def CsrBackWrongFalsely : Prop := csrBackRow.holds Try.pinned (OpenSpec.ofChange csrBackWrong)

/-- 'footmanlaw5.CsrStatus': WHATEVER THE INPUT: true; the input reads as it did. -/
def csrStatusSpec : ChangeSpec := { name := "csrStatus", fn := fun _ => fun
  | [d1, d2, d3, d4, d5, d6] => { results := [.lit (.bool true)], args := [d1, d2, d3, d4, d5, d6] }
  | _ => none }
def csrStatusRow : OpenClaim := { program := "ytmmaoncgfmfbjaa", sum := "83987adb616e4e8a8602fe660dd090c686165cfa841436e060f28542e18aa163", func := "footman/footmanlaw5.CsrStatus", spec := "csrStatus", apart := false }
def CsrStatusSaid : Prop := csrStatusRow.holds Try.pinned (OpenSpec.ofChange csrStatusSpec)

/-- ITS FALSE NEIGHBOUR: 'it returns false'. Refute it at one input. -/
def csrStatusWrong : ChangeSpec := { name := "csrStatus", fn := fun _ => fun
  | [d1, d2, d3, d4, d5, d6] => { results := [.lit (.bool false)], args := [d1, d2, d3, d4, d5, d6] }
  | _ => none }
def CsrStatusWrongFalsely : Prop := csrStatusRow.holds Try.pinned (OpenSpec.ofChange csrStatusWrong)

/-- 'footmanlaw5.CsrNone': WHATEVER THE INPUT: true; the input reads as it did. -/
def csrNoneSpec : ChangeSpec := { name := "csrNone", fn := fun _ => fun
  | [d1, d2, d3] => { results := [.lit (.bool true)], args := [d1, d2, d3] }
  | _ => none }
def csrNoneRow : OpenClaim := { program := "ytmmaoncgfmfbjaa", sum := "83987adb616e4e8a8602fe660dd090c686165cfa841436e060f28542e18aa163", func := "footman/footmanlaw5.CsrNone", spec := "csrNone", apart := false }
def CsrNoneSaid : Prop := csrNoneRow.holds Try.pinned (OpenSpec.ofChange csrNoneSpec)

/-- ITS FALSE NEIGHBOUR: 'it returns false'. Refute it at one input. -/
def csrNoneWrong : ChangeSpec := { name := "csrNone", fn := fun _ => fun
  | [d1, d2, d3] => { results := [.lit (.bool false)], args := [d1, d2, d3] }
  | _ => none }
def CsrNoneWrongFalsely : Prop := csrNoneRow.holds Try.pinned (OpenSpec.ofChange csrNoneWrong)

/- THE SECOND FORM. 'bulk': how many values and letters a reading holds, each counted each time it is reached (what is shared counts as often as it is met; a slice's spare places count too). A statement '..UptoSaid' is the law's where the arguments, and the package variables that the reading takes, are together of bulk at most 1048576: NARROWER than '..Said'. Prove '..Said' where nothing that the law and all that it calls make is longer than what came in: it says more and counts as full. Else prove '..UptoSaid'. A law counts once. -/
mutual
def uptoBulk {H : Type} : DataW H → Nat
  | .lit (.string bytes) => bytes.length + 1
  | .lit _ => 1
  | .nil => 1
  | .ptr d => uptoBulk d + 1
  | .slice elems spare => uptoBulkAll elems + uptoBulkAll spare + 1
  | .agg parts => uptoBulkAll parts + 1
  | .iface _ d => uptoBulk d + 1
  | .map entries => uptoBulkEntries entries + 1
  | .held _ => 1
def uptoBulkAll {H : Type} : List (DataW H) → Nat
  | [] => 0
  | d :: r => uptoBulk d + uptoBulkAll r
def uptoBulkEntries {H : Type} : List (Lit × DataW H) → Nat
  | [] => 0
  | x :: r => uptoBulkEntry x + uptoBulkEntries r
def uptoBulkEntry {H : Type} : Lit × DataW H → Nat
  | (.string bytes, d) => bytes.length + uptoBulk d + 1
  | (_, d) => uptoBulk d + 1
 end
def uptoSmall : (H : Type) → List (DataW H) → Bool := fun _ ds => decide (uptoBulkAll ds ≤ 1048576)
def OpenSpec.upto (s : _root_.Go.ChangeSpec) : _root_.Go.OpenSpec := { _root_.Go.OpenSpec.ofChange s with cond := some uptoSmall }

/-- 'footmanlaw5.CsrAll', WHERE WHAT IT READS IS OF BULK AT MOST 1048576: true; the input reads as it did. -/
def csrAllUptoRow : OpenClaim := { program := "ytmmaoncgfmfbjaa", sum := "83987adb616e4e8a8602fe660dd090c686165cfa841436e060f28542e18aa163", func := "footman/footmanlaw5.CsrAll", spec := "csrAll", apart := false, narrowed := true }
def CsrAllUptoSaid : Prop := csrAllUptoRow.holds Try.pinned (OpenSpec.upto csrAllSpec)

/-- 'footmanlaw5.CsrBack', WHERE WHAT IT READS IS OF BULK AT MOST 1048576: true; the input reads as it did. -/
def csrBackUptoRow : OpenClaim := { program := "ytmmaoncgfmfbjaa", sum := "83987adb616e4e8a8602fe660dd090c686165cfa841436e060f28542e18aa163", func := "footman/footmanlaw5.CsrBack", spec := "csrBack", apart := false, narrowed := true }
def CsrBackUptoSaid : Prop := csrBackUptoRow.holds Try.pinned (OpenSpec.upto csrBackSpec)

/-- 'footmanlaw5.CsrStatus', WHERE WHAT IT READS IS OF BULK AT MOST 1048576: true; the input reads as it did. -/
def csrStatusUptoRow : OpenClaim := { program := "ytmmaoncgfmfbjaa", sum := "83987adb616e4e8a8602fe660dd090c686165cfa841436e060f28542e18aa163", func := "footman/footmanlaw5.CsrStatus", spec := "csrStatus", apart := false, narrowed := true }
def CsrStatusUptoSaid : Prop := csrStatusUptoRow.holds Try.pinned (OpenSpec.upto csrStatusSpec)

/-- 'footmanlaw5.CsrNone', WHERE WHAT IT READS IS OF BULK AT MOST 1048576: true; the input reads as it did. -/
def csrNoneUptoRow : OpenClaim := { program := "ytmmaoncgfmfbjaa", sum := "83987adb616e4e8a8602fe660dd090c686165cfa841436e060f28542e18aa163", func := "footman/footmanlaw5.CsrNone", spec := "csrNone", apart := false, narrowed := true }
def CsrNoneUptoSaid : Prop := csrNoneUptoRow.holds Try.pinned (OpenSpec.upto csrNoneSpec)

end Rows
end Go.Proofs.Ytmmaoncgfmfbjaa
