/-
  NARROWER THAN 'FOR EVERY INPUT', by the rows' own cells (each row's printed sentence says how): CorePrograms: laid · CoreRaw: laid · CoreOne: laid · CoreCosts: laid · CoreTimers: laid · CoreDevices: laid.
  DERIVED. THE GIVEN ROWS OF THIS SEAT. 6 by the template 'for every input the law returns true; each argument reads behind the call as it read before'; 0 by the template 'total and deterministic' (their statements: YthojokcmaodbpaaGreatDoorTotals.lean).
  GIVEN WITH THE SEED: the statements are not yours to turn. If you find one false, say at which input.
  Laid BY PROGRAM, IN A SANDBOX (cutbox-rows.mjs): the forced cells as the released guide's own fill.sh prints them over the translation d6b3791b5273d939… (all of the seat's roots in one cut). By AI agents, Wed Nov 11 2026. No macro, syntax, notation, axiom, sorry.
-/
import Derived.Test.YthojokcmaodbpaaGreatDoorChecked
import GoSem.PinnedTables
import GoSem.Claim
import GoSem.ClaimJoined
import GoSem.ClaimMapViews
import Derived.JoinedTies
import Derived.KernelRfl
namespace Go.Proofs.YthojokcmaodbpaaGreatDoor
/- THE CELL 'sum', in the pinned program and in every row, IS THE sha256 OF THE DUMP (.gsa) THAT YthojokcmaodbpaaGreatDoorProg.lean LOADS. Nothing in Lean hashes anything: it is a label: what it is worth is what the hold of that sum in a sandbox is worth. -/
noncomputable def Tryz.pinned : Pinned := { name := "ythojokcmaodbpaagreatdoor", sum := "d6b3791b5273d939da572cf106b8b36baaac4d1bd779e03317f4c975e37cb9b1", checked := Tryz.checked }
namespace Rows
def none {H : Type} : Left H := { results := [], args := [] }

/- WHAT THE LISTED PACKAGE-LEVEL VARIABLES READ AS WHEN THE CALL BEGINS. Each datum BY PROGRAM (the guide's laid-datum.mjs) off the statement by which the dump's own 'gosem.cut.vars' lays the variable. In a bare row this is a premise. The card (YthojokcmaodbpaaGreatDoorCards.lean) ties it to the program's text. -/
def laid_unicode_utf8_acceptRanges {H : Type} : DataW H := .agg [.agg [.lit (.int .u8 128), .lit (.int .u8 191)], .agg [.lit (.int .u8 160), .lit (.int .u8 191)], .agg [.lit (.int .u8 128), .lit (.int .u8 159)], .agg [.lit (.int .u8 144), .lit (.int .u8 191)], .agg [.lit (.int .u8 128), .lit (.int .u8 143)], .agg [.lit (.int .u8 0), .lit (.int .u8 0)], .agg [.lit (.int .u8 0), .lit (.int .u8 0)], .agg [.lit (.int .u8 0), .lit (.int .u8 0)], .agg [.lit (.int .u8 0), .lit (.int .u8 0)], .agg [.lit (.int .u8 0), .lit (.int .u8 0)], .agg [.lit (.int .u8 0), .lit (.int .u8 0)], .agg [.lit (.int .u8 0), .lit (.int .u8 0)], .agg [.lit (.int .u8 0), .lit (.int .u8 0)], .agg [.lit (.int .u8 0), .lit (.int .u8 0)], .agg [.lit (.int .u8 0), .lit (.int .u8 0)], .agg [.lit (.int .u8 0), .lit (.int .u8 0)]]
/-- One of Go's own tables, pinned by name: the form's constant. -/
def laid_unicode_utf8_first : DataW Unit := Go.Pinned.utf8First

/-- 'footmanlaw6.CorePrograms': WHATEVER THE INPUT: true; the input reads as it did. -/
def coreProgramsSpec : ChangeSpec := { name := "corePrograms", fn := fun _ => fun
  | [d1, d2, d3, d4] => { results := [.lit (.bool true)], args := [d1, d2, d3, d4] }
  | _ => none }
def coreProgramsRow : OpenClaim := { program := "ythojokcmaodbpaagreatdoor", sum := "d6b3791b5273d939da572cf106b8b36baaac4d1bd779e03317f4c975e37cb9b1", func := "footman/footmanlaw6.CorePrograms", spec := "corePrograms", inPlace := ["internal/bytealg.CountString", "internal/bytealg.IndexByteString", "internal/bytealg.IndexString", "internal/abi.NoEscape", "internal/bytealg.MakeNoZero"], named := ["internal/bytealg.MaxLen", "unicode/utf8.first", "unicode/utf8.acceptRanges"], plainKeys := false, apart := false, laid := [("unicode/utf8.acceptRanges", laid_unicode_utf8_acceptRanges), ("unicode/utf8.first", laid_unicode_utf8_first)] }
def CoreProgramsSaid : Prop := coreProgramsRow.holds Tryz.pinned (OpenSpec.ofChange coreProgramsSpec)

/-- ITS FALSE NEIGHBOUR: 'it returns false'. Refute it at one input. -/
def coreProgramsWrong : ChangeSpec := { name := "corePrograms", fn := fun _ => fun
  | [d1, d2, d3, d4] => { results := [.lit (.bool false)], args := [d1, d2, d3, d4] }
  | _ => none }
def CoreProgramsWrongFalsely : Prop := coreProgramsRow.holds Tryz.pinned (OpenSpec.ofChange coreProgramsWrong)

/-- 'footmanlaw6.CoreRaw': WHATEVER THE INPUT: true; the input reads as it did. -/
def coreRawSpec : ChangeSpec := { name := "coreRaw", fn := fun _ => fun
  | [d1, d2, d3] => { results := [.lit (.bool true)], args := [d1, d2, d3] }
  | _ => none }
def coreRawRow : OpenClaim := { program := "ythojokcmaodbpaagreatdoor", sum := "d6b3791b5273d939da572cf106b8b36baaac4d1bd779e03317f4c975e37cb9b1", func := "footman/footmanlaw6.CoreRaw", spec := "coreRaw", inPlace := ["internal/bytealg.CountString", "internal/bytealg.IndexByteString", "internal/bytealg.IndexString", "internal/abi.NoEscape", "internal/bytealg.MakeNoZero"], named := ["internal/bytealg.MaxLen", "unicode/utf8.first", "unicode/utf8.acceptRanges"], plainKeys := false, apart := false, laid := [("unicode/utf8.acceptRanges", laid_unicode_utf8_acceptRanges), ("unicode/utf8.first", laid_unicode_utf8_first)] }
def CoreRawSaid : Prop := coreRawRow.holds Tryz.pinned (OpenSpec.ofChange coreRawSpec)

/-- ITS FALSE NEIGHBOUR: 'it returns false'. Refute it at one input. -/
def coreRawWrong : ChangeSpec := { name := "coreRaw", fn := fun _ => fun
  | [d1, d2, d3] => { results := [.lit (.bool false)], args := [d1, d2, d3] }
  | _ => none }
def CoreRawWrongFalsely : Prop := coreRawRow.holds Tryz.pinned (OpenSpec.ofChange coreRawWrong)

/-- 'footmanlaw6.CoreOne': WHATEVER THE INPUT: true; the input reads as it did. -/
def coreOneSpec : ChangeSpec := { name := "coreOne", fn := fun _ => fun
  | [d1, d2, d3, d4, d5, d6, d7] => { results := [.lit (.bool true)], args := [d1, d2, d3, d4, d5, d6, d7] }
  | _ => none }
def coreOneRow : OpenClaim := { program := "ythojokcmaodbpaagreatdoor", sum := "d6b3791b5273d939da572cf106b8b36baaac4d1bd779e03317f4c975e37cb9b1", func := "footman/footmanlaw6.CoreOne", spec := "coreOne", inPlace := ["internal/bytealg.CountString", "internal/bytealg.IndexByteString", "internal/bytealg.IndexString", "internal/abi.NoEscape", "internal/bytealg.MakeNoZero"], named := ["internal/bytealg.MaxLen", "unicode/utf8.first", "unicode/utf8.acceptRanges"], plainKeys := false, apart := false, laid := [("unicode/utf8.acceptRanges", laid_unicode_utf8_acceptRanges), ("unicode/utf8.first", laid_unicode_utf8_first)] }
def CoreOneSaid : Prop := coreOneRow.holds Tryz.pinned (OpenSpec.ofChange coreOneSpec)

/-- ITS FALSE NEIGHBOUR: 'it returns false'. Refute it at one input. -/
def coreOneWrong : ChangeSpec := { name := "coreOne", fn := fun _ => fun
  | [d1, d2, d3, d4, d5, d6, d7] => { results := [.lit (.bool false)], args := [d1, d2, d3, d4, d5, d6, d7] }
  | _ => none }
def CoreOneWrongFalsely : Prop := coreOneRow.holds Tryz.pinned (OpenSpec.ofChange coreOneWrong)

/-- 'footmanlaw6.CoreCosts': WHATEVER THE INPUT: true; the input reads as it did. -/
def coreCostsSpec : ChangeSpec := { name := "coreCosts", fn := fun _ => fun
  | [d1, d2, d3, d4, d5, d6, d7] => { results := [.lit (.bool true)], args := [d1, d2, d3, d4, d5, d6, d7] }
  | _ => none }
def coreCostsRow : OpenClaim := { program := "ythojokcmaodbpaagreatdoor", sum := "d6b3791b5273d939da572cf106b8b36baaac4d1bd779e03317f4c975e37cb9b1", func := "footman/footmanlaw6.CoreCosts", spec := "coreCosts", inPlace := ["internal/bytealg.CountString", "internal/bytealg.IndexByteString", "internal/bytealg.IndexString", "internal/abi.NoEscape", "internal/bytealg.MakeNoZero"], named := ["internal/bytealg.MaxLen", "unicode/utf8.first", "unicode/utf8.acceptRanges"], plainKeys := false, apart := false, laid := [("unicode/utf8.acceptRanges", laid_unicode_utf8_acceptRanges), ("unicode/utf8.first", laid_unicode_utf8_first)] }
def CoreCostsSaid : Prop := coreCostsRow.holds Tryz.pinned (OpenSpec.ofChange coreCostsSpec)

/-- ITS FALSE NEIGHBOUR: 'it returns false'. Refute it at one input. -/
def coreCostsWrong : ChangeSpec := { name := "coreCosts", fn := fun _ => fun
  | [d1, d2, d3, d4, d5, d6, d7] => { results := [.lit (.bool false)], args := [d1, d2, d3, d4, d5, d6, d7] }
  | _ => none }
def CoreCostsWrongFalsely : Prop := coreCostsRow.holds Tryz.pinned (OpenSpec.ofChange coreCostsWrong)

/-- 'footmanlaw6.CoreTimers': WHATEVER THE INPUT: true; the input reads as it did. -/
def coreTimersSpec : ChangeSpec := { name := "coreTimers", fn := fun _ => fun
  | [d1, d2, d3, d4] => { results := [.lit (.bool true)], args := [d1, d2, d3, d4] }
  | _ => none }
def coreTimersRow : OpenClaim := { program := "ythojokcmaodbpaagreatdoor", sum := "d6b3791b5273d939da572cf106b8b36baaac4d1bd779e03317f4c975e37cb9b1", func := "footman/footmanlaw6.CoreTimers", spec := "coreTimers", inPlace := ["internal/bytealg.CountString", "internal/bytealg.IndexByteString", "internal/bytealg.IndexString", "internal/abi.NoEscape", "internal/bytealg.MakeNoZero"], named := ["internal/bytealg.MaxLen", "unicode/utf8.first", "unicode/utf8.acceptRanges"], plainKeys := false, apart := false, laid := [("unicode/utf8.acceptRanges", laid_unicode_utf8_acceptRanges), ("unicode/utf8.first", laid_unicode_utf8_first)] }
def CoreTimersSaid : Prop := coreTimersRow.holds Tryz.pinned (OpenSpec.ofChange coreTimersSpec)

/-- ITS FALSE NEIGHBOUR: 'it returns false'. Refute it at one input. -/
def coreTimersWrong : ChangeSpec := { name := "coreTimers", fn := fun _ => fun
  | [d1, d2, d3, d4] => { results := [.lit (.bool false)], args := [d1, d2, d3, d4] }
  | _ => none }
def CoreTimersWrongFalsely : Prop := coreTimersRow.holds Tryz.pinned (OpenSpec.ofChange coreTimersWrong)

/-- 'footmanlaw6.CoreDevices': WHATEVER THE INPUT: true; the input reads as it did. -/
def coreDevicesSpec : ChangeSpec := { name := "coreDevices", fn := fun _ => fun
  | [d1, d2] => { results := [.lit (.bool true)], args := [d1, d2] }
  | _ => none }
def coreDevicesRow : OpenClaim := { program := "ythojokcmaodbpaagreatdoor", sum := "d6b3791b5273d939da572cf106b8b36baaac4d1bd779e03317f4c975e37cb9b1", func := "footman/footmanlaw6.CoreDevices", spec := "coreDevices", inPlace := ["internal/bytealg.CountString", "internal/bytealg.IndexByteString", "internal/bytealg.IndexString", "internal/abi.NoEscape", "internal/bytealg.MakeNoZero"], named := ["internal/bytealg.MaxLen", "unicode/utf8.first", "unicode/utf8.acceptRanges"], plainKeys := false, apart := false, laid := [("unicode/utf8.acceptRanges", laid_unicode_utf8_acceptRanges), ("unicode/utf8.first", laid_unicode_utf8_first)] }
def CoreDevicesSaid : Prop := coreDevicesRow.holds Tryz.pinned (OpenSpec.ofChange coreDevicesSpec)

/-- ITS FALSE NEIGHBOUR: 'it returns false'. Refute it at one input. -/
def coreDevicesWrong : ChangeSpec := { name := "coreDevices", fn := fun _ => fun
  | [d1, d2] => { results := [.lit (.bool false)], args := [d1, d2] }
  | _ => none }
def CoreDevicesWrongFalsely : Prop := coreDevicesRow.holds Tryz.pinned (OpenSpec.ofChange coreDevicesWrong)

/- THE SECOND FORM. 'bulk': how many values and letters a reading holds, each counted each time it is reached (what is shared counts as often as it is met; a slice's spare places count too). A statement '..UptoSaid' is the law's where the arguments, and the package variables that the reading takes, are together of bulk at most 1048576: NARROWER than '..Said'. Prove '..Said' where nothing that the law and all that it calls make is longer than what came in: it says more and counts as full. Else prove '..UptoSaid'. A law counts once. -/
mutual
def uptoBulk {H : Type} : DataW H → Nat
  | .lit (.string bytes) => bytes.length + 1
  | .lit _ => 1
  | .nil => 1
  | .ptr d => uptoBulk d + 1
  | .slice elems spare => uptoBulkAll elems + uptoBulkAll spare + 1
  | .agg parts => uptoBulkAll parts + 1
  | .iface _ d => uptoBulk d + 1
  | .map entries => uptoBulkEntries entries + 1
  | .held _ => 1
def uptoBulkAll {H : Type} : List (DataW H) → Nat
  | [] => 0
  | d :: r => uptoBulk d + uptoBulkAll r
def uptoBulkEntries {H : Type} : List (Lit × DataW H) → Nat
  | [] => 0
  | x :: r => uptoBulkEntry x + uptoBulkEntries r
def uptoBulkEntry {H : Type} : Lit × DataW H → Nat
  | (.string bytes, d) => bytes.length + uptoBulk d + 1
  | (_, d) => uptoBulk d + 1
 end
def uptoSmall : (H : Type) → List (DataW H) → Bool := fun _ ds => decide (uptoBulkAll ds ≤ 1048576)
def OpenSpec.upto (s : _root_.Go.ChangeSpec) : _root_.Go.OpenSpec := { _root_.Go.OpenSpec.ofChange s with cond := some uptoSmall }

/-- 'footmanlaw6.CorePrograms', WHERE WHAT IT READS IS OF BULK AT MOST 1048576: true; the input reads as it did. -/
def coreProgramsUptoRow : OpenClaim := { program := "ythojokcmaodbpaagreatdoor", sum := "d6b3791b5273d939da572cf106b8b36baaac4d1bd779e03317f4c975e37cb9b1", func := "footman/footmanlaw6.CorePrograms", spec := "corePrograms", inPlace := ["internal/bytealg.CountString", "internal/bytealg.IndexByteString", "internal/bytealg.IndexString", "internal/abi.NoEscape", "internal/bytealg.MakeNoZero"], named := ["internal/bytealg.MaxLen", "unicode/utf8.first", "unicode/utf8.acceptRanges"], plainKeys := false, apart := false, laid := [("unicode/utf8.acceptRanges", laid_unicode_utf8_acceptRanges), ("unicode/utf8.first", laid_unicode_utf8_first)], narrowed := true }
def CoreProgramsUptoSaid : Prop := coreProgramsUptoRow.holds Tryz.pinned (OpenSpec.upto coreProgramsSpec)

/-- 'footmanlaw6.CoreRaw', WHERE WHAT IT READS IS OF BULK AT MOST 1048576: true; the input reads as it did. -/
def coreRawUptoRow : OpenClaim := { program := "ythojokcmaodbpaagreatdoor", sum := "d6b3791b5273d939da572cf106b8b36baaac4d1bd779e03317f4c975e37cb9b1", func := "footman/footmanlaw6.CoreRaw", spec := "coreRaw", inPlace := ["internal/bytealg.CountString", "internal/bytealg.IndexByteString", "internal/bytealg.IndexString", "internal/abi.NoEscape", "internal/bytealg.MakeNoZero"], named := ["internal/bytealg.MaxLen", "unicode/utf8.first", "unicode/utf8.acceptRanges"], plainKeys := false, apart := false, laid := [("unicode/utf8.acceptRanges", laid_unicode_utf8_acceptRanges), ("unicode/utf8.first", laid_unicode_utf8_first)], narrowed := true }
def CoreRawUptoSaid : Prop := coreRawUptoRow.holds Tryz.pinned (OpenSpec.upto coreRawSpec)

/-- 'footmanlaw6.CoreOne', WHERE WHAT IT READS IS OF BULK AT MOST 1048576: true; the input reads as it did. -/
def coreOneUptoRow : OpenClaim := { program := "ythojokcmaodbpaagreatdoor", sum := "d6b3791b5273d939da572cf106b8b36baaac4d1bd779e03317f4c975e37cb9b1", func := "footman/footmanlaw6.CoreOne", spec := "coreOne", inPlace := ["internal/bytealg.CountString", "internal/bytealg.IndexByteString", "internal/bytealg.IndexString", "internal/abi.NoEscape", "internal/bytealg.MakeNoZero"], named := ["internal/bytealg.MaxLen", "unicode/utf8.first", "unicode/utf8.acceptRanges"], plainKeys := false, apart := false, laid := [("unicode/utf8.acceptRanges", laid_unicode_utf8_acceptRanges), ("unicode/utf8.first", laid_unicode_utf8_first)], narrowed := true }
def CoreOneUptoSaid : Prop := coreOneUptoRow.holds Tryz.pinned (OpenSpec.upto coreOneSpec)

/-- 'footmanlaw6.CoreCosts', WHERE WHAT IT READS IS OF BULK AT MOST 1048576: true; the input reads as it did. -/
def coreCostsUptoRow : OpenClaim := { program := "ythojokcmaodbpaagreatdoor", sum := "d6b3791b5273d939da572cf106b8b36baaac4d1bd779e03317f4c975e37cb9b1", func := "footman/footmanlaw6.CoreCosts", spec := "coreCosts", inPlace := ["internal/bytealg.CountString", "internal/bytealg.IndexByteString", "internal/bytealg.IndexString", "internal/abi.NoEscape", "internal/bytealg.MakeNoZero"], named := ["internal/bytealg.MaxLen", "unicode/utf8.first", "unicode/utf8.acceptRanges"], plainKeys := false, apart := false, laid := [("unicode/utf8.acceptRanges", laid_unicode_utf8_acceptRanges), ("unicode/utf8.first", laid_unicode_utf8_first)], narrowed := true }
def CoreCostsUptoSaid : Prop := coreCostsUptoRow.holds Tryz.pinned (OpenSpec.upto coreCostsSpec)

/-- 'footmanlaw6.CoreTimers', WHERE WHAT IT READS IS OF BULK AT MOST 1048576: true; the input reads as it did. -/
def coreTimersUptoRow : OpenClaim := { program := "ythojokcmaodbpaagreatdoor", sum := "d6b3791b5273d939da572cf106b8b36baaac4d1bd779e03317f4c975e37cb9b1", func := "footman/footmanlaw6.CoreTimers", spec := "coreTimers", inPlace := ["internal/bytealg.CountString", "internal/bytealg.IndexByteString", "internal/bytealg.IndexString", "internal/abi.NoEscape", "internal/bytealg.MakeNoZero"], named := ["internal/bytealg.MaxLen", "unicode/utf8.first", "unicode/utf8.acceptRanges"], plainKeys := false, apart := false, laid := [("unicode/utf8.acceptRanges", laid_unicode_utf8_acceptRanges), ("unicode/utf8.first", laid_unicode_utf8_first)], narrowed := true }
def CoreTimersUptoSaid : Prop := coreTimersUptoRow.holds Tryz.pinned (OpenSpec.upto coreTimersSpec)

/-- 'footmanlaw6.CoreDevices', WHERE WHAT IT READS IS OF BULK AT MOST 1048576: true; the input reads as it did. -/
def coreDevicesUptoRow : OpenClaim := { program := "ythojokcmaodbpaagreatdoor", sum := "d6b3791b5273d939da572cf106b8b36baaac4d1bd779e03317f4c975e37cb9b1", func := "footman/footmanlaw6.CoreDevices", spec := "coreDevices", inPlace := ["internal/bytealg.CountString", "internal/bytealg.IndexByteString", "internal/bytealg.IndexString", "internal/abi.NoEscape", "internal/bytealg.MakeNoZero"], named := ["internal/bytealg.MaxLen", "unicode/utf8.first", "unicode/utf8.acceptRanges"], plainKeys := false, apart := false, laid := [("unicode/utf8.acceptRanges", laid_unicode_utf8_acceptRanges), ("unicode/utf8.first", laid_unicode_utf8_first)], narrowed := true }
def CoreDevicesUptoSaid : Prop := coreDevicesUptoRow.holds Tryz.pinned (OpenSpec.upto coreDevicesSpec)

end Rows
end Go.Proofs.YthojokcmaodbpaaGreatDoor
