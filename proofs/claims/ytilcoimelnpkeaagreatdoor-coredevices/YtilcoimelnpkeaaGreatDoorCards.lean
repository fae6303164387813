/-
  DERIVED. GIVEN WITH THE SEED: THE CARDS: each row of YtilcoimelnpkeaaGreatDoorRows.lean that lists a variable, with what it lists TIED to the program's text (the seventh form; the later family's looks); each row that meets fmt, with fmt's text TOLD by the authors' own Lean function (tested against real Go, not proved from fmt's source: count such statements apart). THE CARD IS WHAT COUNTS. Prove the row's statement (the work); the ties are given (YtilcoimelnpkeaaGreatDoorTie.lean); close each card by the builder's one call (the guide's Derived/Test/ToyasCard.lean, 'card_holds'). Laid BY PROGRAM, IN A SANDBOX (cutbox-door.mjs). By AI agents, Wed Nov 11 2026. No macro, syntax, notation, axiom, sorry.
-/
import Derived.Test.YtilcoimelnpkeaaGreatDoorRows
import GoSem.ClaimSeven
namespace Go.Proofs.YtilcoimelnpkeaaGreatDoor
namespace Rows

/-- THE TIED CARD OF 'footmanlaw6.CoreCosts'. -/
def coreCostsCard : Claim7 := { stood := { row := coreCostsRow, standIns := [], harness := (true, "74550c541738645c62d6e268ab4661624d529072bf7ad76e5e32d802ee6fb10a"), looks := false }, kinds := [], alts := [], laidByText := true, laidKinds := [.data, .pinned], laidTests := true, laidLooks := .later }
def CoreCostsCardSaid : Prop := Claim7.holds Tryz.pinned (.plain (OpenSpec.ofChange coreCostsSpec)) coreCostsCard

/-- THE TIED CARD OF 'footmanlaw6.CoreTimers'. -/
def coreTimersCard : Claim7 := { stood := { row := coreTimersRow, standIns := [], harness := (true, "74550c541738645c62d6e268ab4661624d529072bf7ad76e5e32d802ee6fb10a"), looks := false }, kinds := [], alts := [], laidByText := true, laidKinds := [.data, .pinned], laidTests := true, laidLooks := .later }
def CoreTimersCardSaid : Prop := Claim7.holds Tryz.pinned (.plain (OpenSpec.ofChange coreTimersSpec)) coreTimersCard

/-- THE TIED CARD OF 'footmanlaw6.CoreDevices'. -/
def coreDevicesCard : Claim7 := { stood := { row := coreDevicesRow, standIns := [], harness := (true, "74550c541738645c62d6e268ab4661624d529072bf7ad76e5e32d802ee6fb10a"), looks := false }, kinds := [], alts := [], laidByText := true, laidKinds := [.data, .pinned], laidTests := true, laidLooks := .later }
def CoreDevicesCardSaid : Prop := Claim7.holds Tryz.pinned (.plain (OpenSpec.ofChange coreDevicesSpec)) coreDevicesCard

/-- THE TIED CARD OF 'footmanlaw6.CoreGuards'. -/
def coreGuardsCard : Claim7 := { stood := { row := coreGuardsRow, standIns := [], harness := (true, "74550c541738645c62d6e268ab4661624d529072bf7ad76e5e32d802ee6fb10a"), looks := false }, kinds := [], alts := [], laidByText := true, laidKinds := [.data, .pinned], laidTests := true, laidLooks := .later }
def CoreGuardsCardSaid : Prop := Claim7.holds Tryz.pinned (.plain (OpenSpec.ofChange coreGuardsSpec)) coreGuardsCard

/-- THE TIED CARD OF 'footmanlaw6.CoreFaults'. -/
def coreFaultsCard : Claim7 := { stood := { row := coreFaultsRow, standIns := [], harness := (true, "74550c541738645c62d6e268ab4661624d529072bf7ad76e5e32d802ee6fb10a"), looks := false }, kinds := [], alts := [], laidByText := true, laidKinds := [.data, .pinned], laidTests := true, laidLooks := .later }
def CoreFaultsCardSaid : Prop := Claim7.holds Tryz.pinned (.plain (OpenSpec.ofChange coreFaultsSpec)) coreFaultsCard

/-- THE TIED CARD OF 'footmanlaw6.CoreJumps'. -/
def coreJumpsCard : Claim7 := { stood := { row := coreJumpsRow, standIns := [], harness := (true, "74550c541738645c62d6e268ab4661624d529072bf7ad76e5e32d802ee6fb10a"), looks := false }, kinds := [], alts := [], laidByText := true, laidKinds := [.data, .pinned], laidTests := true, laidLooks := .later }
def CoreJumpsCardSaid : Prop := Claim7.holds Tryz.pinned (.plain (OpenSpec.ofChange coreJumpsSpec)) coreJumpsCard

/-- THE SECOND FORM's CARD OF 'footmanlaw6.CoreCosts'. -/
def coreCostsUptoCard : Claim7 := { stood := { row := coreCostsUptoRow, standIns := [], harness := (true, "74550c541738645c62d6e268ab4661624d529072bf7ad76e5e32d802ee6fb10a"), looks := false }, kinds := [], alts := [], laidByText := true, laidKinds := [.data, .pinned], laidTests := true, laidLooks := .later }
def CoreCostsUptoCardSaid : Prop := Claim7.holds Tryz.pinned (.plain (OpenSpec.upto coreCostsSpec)) coreCostsUptoCard

/-- THE SECOND FORM's CARD OF 'footmanlaw6.CoreTimers'. -/
def coreTimersUptoCard : Claim7 := { stood := { row := coreTimersUptoRow, standIns := [], harness := (true, "74550c541738645c62d6e268ab4661624d529072bf7ad76e5e32d802ee6fb10a"), looks := false }, kinds := [], alts := [], laidByText := true, laidKinds := [.data, .pinned], laidTests := true, laidLooks := .later }
def CoreTimersUptoCardSaid : Prop := Claim7.holds Tryz.pinned (.plain (OpenSpec.upto coreTimersSpec)) coreTimersUptoCard

/-- THE SECOND FORM's CARD OF 'footmanlaw6.CoreDevices'. -/
def coreDevicesUptoCard : Claim7 := { stood := { row := coreDevicesUptoRow, standIns := [], harness := (true, "74550c541738645c62d6e268ab4661624d529072bf7ad76e5e32d802ee6fb10a"), looks := false }, kinds := [], alts := [], laidByText := true, laidKinds := [.data, .pinned], laidTests := true, laidLooks := .later }
def CoreDevicesUptoCardSaid : Prop := Claim7.holds Tryz.pinned (.plain (OpenSpec.upto coreDevicesSpec)) coreDevicesUptoCard

/-- THE SECOND FORM's CARD OF 'footmanlaw6.CoreGuards'. -/
def coreGuardsUptoCard : Claim7 := { stood := { row := coreGuardsUptoRow, standIns := [], harness := (true, "74550c541738645c62d6e268ab4661624d529072bf7ad76e5e32d802ee6fb10a"), looks := false }, kinds := [], alts := [], laidByText := true, laidKinds := [.data, .pinned], laidTests := true, laidLooks := .later }
def CoreGuardsUptoCardSaid : Prop := Claim7.holds Tryz.pinned (.plain (OpenSpec.upto coreGuardsSpec)) coreGuardsUptoCard

/-- THE SECOND FORM's CARD OF 'footmanlaw6.CoreFaults'. -/
def coreFaultsUptoCard : Claim7 := { stood := { row := coreFaultsUptoRow, standIns := [], harness := (true, "74550c541738645c62d6e268ab4661624d529072bf7ad76e5e32d802ee6fb10a"), looks := false }, kinds := [], alts := [], laidByText := true, laidKinds := [.data, .pinned], laidTests := true, laidLooks := .later }
def CoreFaultsUptoCardSaid : Prop := Claim7.holds Tryz.pinned (.plain (OpenSpec.upto coreFaultsSpec)) coreFaultsUptoCard

/-- THE SECOND FORM's CARD OF 'footmanlaw6.CoreJumps'. -/
def coreJumpsUptoCard : Claim7 := { stood := { row := coreJumpsUptoRow, standIns := [], harness := (true, "74550c541738645c62d6e268ab4661624d529072bf7ad76e5e32d802ee6fb10a"), looks := false }, kinds := [], alts := [], laidByText := true, laidKinds := [.data, .pinned], laidTests := true, laidLooks := .later }
def CoreJumpsUptoCardSaid : Prop := Claim7.holds Tryz.pinned (.plain (OpenSpec.upto coreJumpsSpec)) coreJumpsUptoCard
end Rows
end Go.Proofs.YtilcoimelnpkeaaGreatDoor
