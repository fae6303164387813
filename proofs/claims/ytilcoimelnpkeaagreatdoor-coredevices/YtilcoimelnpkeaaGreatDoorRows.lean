/-
  NARROWER THAN 'FOR EVERY INPUT', by the rows' own cells (each row's printed sentence says how): CoreCosts: laid · CoreTimers: laid · CoreDevices: laid · CoreGuards: laid · CoreFaults: laid · CoreJumps: laid.
  DERIVED. THE GIVEN ROWS OF THIS SEAT. 6 by the template 'for every input the law returns true; each argument reads behind the call as it read before'; 0 by the template 'total and deterministic' (their statements: YtilcoimelnpkeaaGreatDoorTotals.lean).
  GIVEN WITH THE SEED: the statements are not yours to turn. If you find one false, say at which input.
  Laid BY PROGRAM, IN A SANDBOX (cutbox-rows.mjs): the forced cells as the released guide's own fill.sh prints them over the translation ae2988846804201e… (all of the seat's roots in one cut). By AI agents, Wed Nov 11 2026. No macro, syntax, notation, axiom, sorry.
-/
import Derived.Test.YtilcoimelnpkeaaGreatDoorChecked
import GoSem.PinnedTables
import GoSem.Claim
import GoSem.ClaimJoined
import GoSem.ClaimMapViews
import Derived.JoinedTies
import Derived.KernelRfl
namespace Go.Proofs.YtilcoimelnpkeaaGreatDoor
/- THE CELL 'sum', in the pinned program and in every row, IS THE sha256 OF THE DUMP (.gsa) THAT YtilcoimelnpkeaaGreatDoorProg.lean LOADS. Nothing in Lean hashes anything: it is a label: what it is worth is what the hold of that sum in a sandbox is worth. -/
noncomputable def Tryz.pinned : Pinned := { name := "ytilcoimelnpkeaagreatdoor", sum := "ae2988846804201ee4f70835ac2283b3fc7ef36fb555bdd009d971856a4bb141", checked := Tryz.checked }
namespace Rows
def none {H : Type} : Left H := { results := [], args := [] }

/- WHAT THE LISTED PACKAGE-LEVEL VARIABLES READ AS WHEN THE CALL BEGINS. Each datum BY PROGRAM (the guide's laid-datum.mjs) off the statement by which the dump's own 'gosem.cut.vars' lays the variable. In a bare row this is a premise. The card (YtilcoimelnpkeaaGreatDoorCards.lean) ties it to the program's text. -/
def laid_unicode_utf8_acceptRanges {H : Type} : DataW H := .agg [.agg [.lit (.int .u8 128), .lit (.int .u8 191)], .agg [.lit (.int .u8 160), .lit (.int .u8 191)], .agg [.lit (.int .u8 128), .lit (.int .u8 159)], .agg [.lit (.int .u8 144), .lit (.int .u8 191)], .agg [.lit (.int .u8 128), .lit (.int .u8 143)], .agg [.lit (.int .u8 0), .lit (.int .u8 0)], .agg [.lit (.int .u8 0), .lit (.int .u8 0)], .agg [.lit (.int .u8 0), .lit (.int .u8 0)], .agg [.lit (.int .u8 0), .lit (.int .u8 0)], .agg [.lit (.int .u8 0), .lit (.int .u8 0)], .agg [.lit (.int .u8 0), .lit (.int .u8 0)], .agg [.lit (.int .u8 0), .lit (.int .u8 0)], .agg [.lit (.int .u8 0), .lit (.int .u8 0)], .agg [.lit (.int .u8 0), .lit (.int .u8 0)], .agg [.lit (.int .u8 0), .lit (.int .u8 0)], .agg [.lit (.int .u8 0), .lit (.int .u8 0)]]
/-- One of Go's own tables, pinned by name: the form's constant. -/
def laid_unicode_utf8_first : DataW Unit := Go.Pinned.utf8First

/-- 'footmanlaw6.CoreCosts': WHATEVER THE INPUT: true; the input reads as it did. -/
def coreCostsSpec : ChangeSpec := { name := "coreCosts", fn := fun _ => fun
  | [d1, d2, d3, d4, d5, d6, d7] => { results := [.lit (.bool true)], args := [d1, d2, d3, d4, d5, d6, d7] }
  | _ => none }
def coreCostsRow : OpenClaim := { program := "ytilcoimelnpkeaagreatdoor", sum := "ae2988846804201ee4f70835ac2283b3fc7ef36fb555bdd009d971856a4bb141", func := "footman/footmanlaw6.CoreCosts", spec := "coreCosts", inPlace := ["internal/bytealg.CountString", "internal/bytealg.IndexByteString", "internal/bytealg.IndexString", "internal/abi.NoEscape", "internal/bytealg.MakeNoZero"], named := ["internal/bytealg.MaxLen", "unicode/utf8.first", "unicode/utf8.acceptRanges"], plainKeys := false, apart := false, laid := [("unicode/utf8.acceptRanges", laid_unicode_utf8_acceptRanges), ("unicode/utf8.first", laid_unicode_utf8_first)] }
def CoreCostsSaid : Prop := coreCostsRow.holds Tryz.pinned (OpenSpec.ofChange coreCostsSpec)

/-- ITS FALSE NEIGHBOUR: 'it returns false'. Refute it at one input. -/
def coreCostsWrong : ChangeSpec := { name := "coreCosts", fn := fun _ => fun
  | [d1, d2, d3, d4, d5, d6, d7] => { results := [.lit (.bool false)], args := [d1, d2, d3, d4, d5, d6, d7] }
  | _ => none }
def CoreCostsWrongFalsely : Prop := coreCostsRow.holds Tryz.pinned (OpenSpec.ofChange coreCostsWrong)

/-- 'footmanlaw6.CoreTimers': WHATEVER THE INPUT: true; the input reads as it did. -/
def coreTimersSpec : ChangeSpec := { name := "coreTimers", fn := fun _ => fun
  | [d1, d2, d3, d4] => { results := [.lit (.bool true)], args := [d1, d2, d3, d4] }
  | _ => none }
def coreTimersRow : OpenClaim := { program := "ytilcoimelnpkeaagreatdoor", sum := "ae2988846804201ee4f70835ac2283b3fc7ef36fb555bdd009d971856a4bb141", func := "footman/footmanlaw6.CoreTimers", spec := "coreTimers", inPlace := ["internal/bytealg.CountString", "internal/bytealg.IndexByteString", "internal/bytealg.IndexString", "internal/abi.NoEscape", "internal/bytealg.MakeNoZero"], named := ["internal/bytealg.MaxLen", "unicode/utf8.first", "unicode/utf8.acceptRanges"], plainKeys := false, apart := false, laid := [("unicode/utf8.acceptRanges", laid_unicode_utf8_acceptRanges), ("unicode/utf8.first", laid_unicode_utf8_first)] }
def CoreTimersSaid : Prop := coreTimersRow.holds Tryz.pinned (OpenSpec.ofChange coreTimersSpec)

/-- ITS FALSE NEIGHBOUR: 'it returns false'. Refute it at one input. -/
def coreTimersWrong : ChangeSpec := { name := "coreTimers", fn := fun _ => fun
  | [d1, d2, d3, d4] => { results := [.lit (.bool false)], args := [d1, d2, d3, d4] }
  | _ => none }
def CoreTimersWrongFalsely : Prop := coreTimersRow.holds Tryz.pinned (OpenSpec.ofChange coreTimersWrong)

/-- 'footmanlaw6.CoreDevices': WHATEVER THE INPUT: true; the input reads as it did. -/
def coreDevicesSpec : ChangeSpec := { name := "coreDevices", fn := fun _ => fun
  | [d1, d2] => { results := [.lit (.bool true)], args := [d1, d2] }
  | _ => none }
def coreDevicesRow : OpenClaim := { program := "ytilcoimelnpkeaagreatdoor", sum := "ae2988846804201ee4f70835ac2283b3fc7ef36fb555bdd009d971856a4bb141", func := "footman/footmanlaw6.CoreDevices", spec := "coreDevices", inPlace := ["internal/bytealg.CountString", "internal/bytealg.IndexByteString", "internal/bytealg.IndexString", "internal/abi.NoEscape", "internal/bytealg.MakeNoZero"], named := ["internal/bytealg.MaxLen", "unicode/utf8.first", "unicode/utf8.acceptRanges"], plainKeys := false, apart := false, laid := [("unicode/utf8.acceptRanges", laid_unicode_utf8_acceptRanges), ("unicode/utf8.first", laid_unicode_utf8_first)] }
def CoreDevicesSaid : Prop := coreDevicesRow.holds Tryz.pinned (OpenSpec.ofChange coreDevicesSpec)

/-- ITS FALSE NEIGHBOUR: 'it returns false'. Refute it at one input. -/
def coreDevicesWrong : ChangeSpec := { name := "coreDevices", fn := fun _ => fun
  | [d1, d2] => { results := [.lit (.bool false)], args := [d1, d2] }
  | _ => none }
def CoreDevicesWrongFalsely : Prop := coreDevicesRow.holds Tryz.pinned (OpenSpec.ofChange coreDevicesWrong)

/-- 'footmanlaw6.CoreGuards': WHATEVER THE INPUT: true; the input reads as it did. -/
def coreGuardsSpec : ChangeSpec := { name := "coreGuards", fn := fun _ => fun
  | [d1, d2, d3, d4, d5] => { results := [.lit (.bool true)], args := [d1, d2, d3, d4, d5] }
  | _ => none }
def coreGuardsRow : OpenClaim := { program := "ytilcoimelnpkeaagreatdoor", sum := "ae2988846804201ee4f70835ac2283b3fc7ef36fb555bdd009d971856a4bb141", func := "footman/footmanlaw6.CoreGuards", spec := "coreGuards", inPlace := ["internal/bytealg.CountString", "internal/bytealg.IndexByteString", "internal/bytealg.IndexString", "internal/abi.NoEscape", "internal/bytealg.MakeNoZero"], named := ["internal/bytealg.MaxLen", "unicode/utf8.first", "unicode/utf8.acceptRanges"], plainKeys := false, apart := false, laid := [("unicode/utf8.acceptRanges", laid_unicode_utf8_acceptRanges), ("unicode/utf8.first", laid_unicode_utf8_first)] }
def CoreGuardsSaid : Prop := coreGuardsRow.holds Tryz.pinned (OpenSpec.ofChange coreGuardsSpec)

/-- ITS FALSE NEIGHBOUR: 'it returns false'. Refute it at one input. -/
def coreGuardsWrong : ChangeSpec := { name := "coreGuards", fn := fun _ => fun
  | [d1, d2, d3, d4, d5] => { results := [.lit (.bool false)], args := [d1, d2, d3, d4, d5] }
  | _ => none }
def CoreGuardsWrongFalsely : Prop := coreGuardsRow.holds Tryz.pinned (OpenSpec.ofChange coreGuardsWrong)

/-- 'footmanlaw6.CoreFaults': WHATEVER THE INPUT: true; the input reads as it did. -/
def coreFaultsSpec : ChangeSpec := { name := "coreFaults", fn := fun _ => fun
  | [d1, d2, d3] => { results := [.lit (.bool true)], args := [d1, d2, d3] }
  | _ => none }
def coreFaultsRow : OpenClaim := { program := "ytilcoimelnpkeaagreatdoor", sum := "ae2988846804201ee4f70835ac2283b3fc7ef36fb555bdd009d971856a4bb141", func := "footman/footmanlaw6.CoreFaults", spec := "coreFaults", inPlace := ["internal/bytealg.CountString", "internal/bytealg.IndexByteString", "internal/bytealg.IndexString", "internal/abi.NoEscape", "internal/bytealg.MakeNoZero"], named := ["internal/bytealg.MaxLen", "unicode/utf8.first", "unicode/utf8.acceptRanges"], plainKeys := false, apart := false, laid := [("unicode/utf8.acceptRanges", laid_unicode_utf8_acceptRanges), ("unicode/utf8.first", laid_unicode_utf8_first)] }
def CoreFaultsSaid : Prop := coreFaultsRow.holds Tryz.pinned (OpenSpec.ofChange coreFaultsSpec)

/-- ITS FALSE NEIGHBOUR: 'it returns false'. Refute it at one input. -/
def coreFaultsWrong : ChangeSpec := { name := "coreFaults", fn := fun _ => fun
  | [d1, d2, d3] => { results := [.lit (.bool false)], args := [d1, d2, d3] }
  | _ => none }
def CoreFaultsWrongFalsely : Prop := coreFaultsRow.holds Tryz.pinned (OpenSpec.ofChange coreFaultsWrong)

/-- 'footmanlaw6.CoreJumps': WHATEVER THE INPUT: true; the input reads as it did. -/
def coreJumpsSpec : ChangeSpec := { name := "coreJumps", fn := fun _ => fun
  | [d1, d2, d3, d4] => { results := [.lit (.bool true)], args := [d1, d2, d3, d4] }
  | _ => none }
def coreJumpsRow : OpenClaim := { program := "ytilcoimelnpkeaagreatdoor", sum := "ae2988846804201ee4f70835ac2283b3fc7ef36fb555bdd009d971856a4bb141", func := "footman/footmanlaw6.CoreJumps", spec := "coreJumps", inPlace := ["internal/bytealg.CountString", "internal/bytealg.IndexByteString", "internal/bytealg.IndexString", "internal/abi.NoEscape", "internal/bytealg.MakeNoZero"], named := ["internal/bytealg.MaxLen", "unicode/utf8.first", "unicode/utf8.acceptRanges"], plainKeys := false, apart := false, laid := [("unicode/utf8.acceptRanges", laid_unicode_utf8_acceptRanges), ("unicode/utf8.first", laid_unicode_utf8_first)] }
def CoreJumpsSaid : Prop := coreJumpsRow.holds Tryz.pinned (OpenSpec.ofChange coreJumpsSpec)

/-- ITS FALSE NEIGHBOUR: 'it returns false'. Refute it at one input. -/
def coreJumpsWrong : ChangeSpec := { name := "coreJumps", fn := fun _ => fun
  | [d1, d2, d3, d4] => { results := [.lit (.bool false)], args := [d1, d2, d3, d4] }
  | _ => none }
def CoreJumpsWrongFalsely : Prop := coreJumpsRow.holds Tryz.pinned (OpenSpec.ofChange coreJumpsWrong)

/- THE SECOND FORM. 'bulk': how many values and letters a reading holds, each counted each time it is reached (what is shared counts as often as it is met; a slice's spare places count too). A statement '..UptoSaid' is the law's where the arguments, and the package variables that the reading takes, are together of bulk at most 1048576: NARROWER than '..Said'. Prove '..Said' where nothing that the law and all that it calls make is longer than what came in: it says more and counts as full. Else prove '..UptoSaid'. A law counts once. -/
mutual
def uptoBulk {H : Type} : DataW H → Nat
  | .lit (.string bytes) => bytes.length + 1
  | .lit _ => 1
  | .nil => 1
  | .ptr d => uptoBulk d + 1
  | .slice elems spare => uptoBulkAll elems + uptoBulkAll spare + 1
  | .agg parts => uptoBulkAll parts + 1
  | .iface _ d => uptoBulk d + 1
  | .map entries => uptoBulkEntries entries + 1
  | .held _ => 1
def uptoBulkAll {H : Type} : List (DataW H) → Nat
  | [] => 0
  | d :: r => uptoBulk d + uptoBulkAll r
def uptoBulkEntries {H : Type} : List (Lit × DataW H) → Nat
  | [] => 0
  | x :: r => uptoBulkEntry x + uptoBulkEntries r
def uptoBulkEntry {H : Type} : Lit × DataW H → Nat
  | (.string bytes, d) => bytes.length + uptoBulk d + 1
  | (_, d) => uptoBulk d + 1
 end
def uptoSmall : (H : Type) → List (DataW H) → Bool := fun _ ds => decide (uptoBulkAll ds ≤ 1048576)
def OpenSpec.upto (s : _root_.Go.ChangeSpec) : _root_.Go.OpenSpec := { _root_.Go.OpenSpec.ofChange s with cond := some uptoSmall }

/-- 'footmanlaw6.CoreCosts', WHERE WHAT IT READS IS OF BULK AT MOST 1048576: true; the input reads as it did. -/
def coreCostsUptoRow : OpenClaim := { program := "ytilcoimelnpkeaagreatdoor", sum := "ae2988846804201ee4f70835ac2283b3fc7ef36fb555bdd009d971856a4bb141", func := "footman/footmanlaw6.CoreCosts", spec := "coreCosts", inPlace := ["internal/bytealg.CountString", "internal/bytealg.IndexByteString", "internal/bytealg.IndexString", "internal/abi.NoEscape", "internal/bytealg.MakeNoZero"], named := ["internal/bytealg.MaxLen", "unicode/utf8.first", "unicode/utf8.acceptRanges"], plainKeys := false, apart := false, laid := [("unicode/utf8.acceptRanges", laid_unicode_utf8_acceptRanges), ("unicode/utf8.first", laid_unicode_utf8_first)], narrowed := true }
def CoreCostsUptoSaid : Prop := coreCostsUptoRow.holds Tryz.pinned (OpenSpec.upto coreCostsSpec)

/-- 'footmanlaw6.CoreTimers', WHERE WHAT IT READS IS OF BULK AT MOST 1048576: true; the input reads as it did. -/
def coreTimersUptoRow : OpenClaim := { program := "ytilcoimelnpkeaagreatdoor", sum := "ae2988846804201ee4f70835ac2283b3fc7ef36fb555bdd009d971856a4bb141", func := "footman/footmanlaw6.CoreTimers", spec := "coreTimers", inPlace := ["internal/bytealg.CountString", "internal/bytealg.IndexByteString", "internal/bytealg.IndexString", "internal/abi.NoEscape", "internal/bytealg.MakeNoZero"], named := ["internal/bytealg.MaxLen", "unicode/utf8.first", "unicode/utf8.acceptRanges"], plainKeys := false, apart := false, laid := [("unicode/utf8.acceptRanges", laid_unicode_utf8_acceptRanges), ("unicode/utf8.first", laid_unicode_utf8_first)], narrowed := true }
def CoreTimersUptoSaid : Prop := coreTimersUptoRow.holds Tryz.pinned (OpenSpec.upto coreTimersSpec)

/-- 'footmanlaw6.CoreDevices', WHERE WHAT IT READS IS OF BULK AT MOST 1048576: true; the input reads as it did. -/
def coreDevicesUptoRow : OpenClaim := { program := "ytilcoimelnpkeaagreatdoor", sum := "ae2988846804201ee4f70835ac2283b3fc7ef36fb555bdd009d971856a4bb141", func := "footman/footmanlaw6.CoreDevices", spec := "coreDevices", inPlace := ["internal/bytealg.CountString", "internal/bytealg.IndexByteString", "internal/bytealg.IndexString", "internal/abi.NoEscape", "internal/bytealg.MakeNoZero"], named := ["internal/bytealg.MaxLen", "unicode/utf8.first", "unicode/utf8.acceptRanges"], plainKeys := false, apart := false, laid := [("unicode/utf8.acceptRanges", laid_unicode_utf8_acceptRanges), ("unicode/utf8.first", laid_unicode_utf8_first)], narrowed := true }
def CoreDevicesUptoSaid : Prop := coreDevicesUptoRow.holds Tryz.pinned (OpenSpec.upto coreDevicesSpec)

/-- 'footmanlaw6.CoreGuards', WHERE WHAT IT READS IS OF BULK AT MOST 1048576: true; the input reads as it did. -/
def coreGuardsUptoRow : OpenClaim := { program := "ytilcoimelnpkeaagreatdoor", sum := "ae2988846804201ee4f70835ac2283b3fc7ef36fb555bdd009d971856a4bb141", func := "footman/footmanlaw6.CoreGuards", spec := "coreGuards", inPlace := ["internal/bytealg.CountString", "internal/bytealg.IndexByteString", "internal/bytealg.IndexString", "internal/abi.NoEscape", "internal/bytealg.MakeNoZero"], named := ["internal/bytealg.MaxLen", "unicode/utf8.first", "unicode/utf8.acceptRanges"], plainKeys := false, apart := false, laid := [("unicode/utf8.acceptRanges", laid_unicode_utf8_acceptRanges), ("unicode/utf8.first", laid_unicode_utf8_first)], narrowed := true }
def CoreGuardsUptoSaid : Prop := coreGuardsUptoRow.holds Tryz.pinned (OpenSpec.upto coreGuardsSpec)

/-- 'footmanlaw6.CoreFaults', WHERE WHAT IT READS IS OF BULK AT MOST 1048576: true; the input reads as it did. -/
def coreFaultsUptoRow : OpenClaim := { program := "ytilcoimelnpkeaagreatdoor", sum := "ae2988846804201ee4f70835ac2283b3fc7ef36fb555bdd009d971856a4bb141", func := "footman/footmanlaw6.CoreFaults", spec := "coreFaults", inPlace := ["internal/bytealg.CountString", "internal/bytealg.IndexByteString", "internal/bytealg.IndexString", "internal/abi.NoEscape", "internal/bytealg.MakeNoZero"], named := ["internal/bytealg.MaxLen", "unicode/utf8.first", "unicode/utf8.acceptRanges"], plainKeys := false, apart := false, laid := [("unicode/utf8.acceptRanges", laid_unicode_utf8_acceptRanges), ("unicode/utf8.first", laid_unicode_utf8_first)], narrowed := true }
def CoreFaultsUptoSaid : Prop := coreFaultsUptoRow.holds Tryz.pinned (OpenSpec.upto coreFaultsSpec)

/-- 'footmanlaw6.CoreJumps', WHERE WHAT IT READS IS OF BULK AT MOST 1048576: true; the input reads as it did. -/
def coreJumpsUptoRow : OpenClaim := { program := "ytilcoimelnpkeaagreatdoor", sum := "ae2988846804201ee4f70835ac2283b3fc7ef36fb555bdd009d971856a4bb141", func := "footman/footmanlaw6.CoreJumps", spec := "coreJumps", inPlace := ["internal/bytealg.CountString", "internal/bytealg.IndexByteString", "internal/bytealg.IndexString", "internal/abi.NoEscape", "internal/bytealg.MakeNoZero"], named := ["internal/bytealg.MaxLen", "unicode/utf8.first", "unicode/utf8.acceptRanges"], plainKeys := false, apart := false, laid := [("unicode/utf8.acceptRanges", laid_unicode_utf8_acceptRanges), ("unicode/utf8.first", laid_unicode_utf8_first)], narrowed := true }
def CoreJumpsUptoSaid : Prop := coreJumpsUptoRow.holds Tryz.pinned (OpenSpec.upto coreJumpsSpec)

end Rows
end Go.Proofs.YtilcoimelnpkeaaGreatDoor
