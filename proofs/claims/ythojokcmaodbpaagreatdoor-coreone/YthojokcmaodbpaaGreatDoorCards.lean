/-
  DERIVED. GIVEN WITH THE SEED: THE CARDS: each row of YthojokcmaodbpaaGreatDoorRows.lean that lists a variable, with what it lists TIED to the program's text (the seventh form; the later family's looks); each row that meets fmt, with fmt's text TOLD by the authors' own Lean function (tested against real Go, not proved from fmt's source: count such statements apart). THE CARD IS WHAT COUNTS. Prove the row's statement (the work); the ties are given (YthojokcmaodbpaaGreatDoorTie.lean); close each card by the builder's one call (the guide's Derived/Test/ToyasCard.lean, 'card_holds'). Laid BY PROGRAM, IN A SANDBOX (cutbox-door.mjs). By AI agents, Wed Nov 11 2026. No macro, syntax, notation, axiom, sorry.
-/
import Derived.Test.YthojokcmaodbpaaGreatDoorRows
import GoSem.ClaimSeven
namespace Go.Proofs.YthojokcmaodbpaaGreatDoor
namespace Rows

/-- THE TIED CARD OF 'footmanlaw6.CorePrograms'. -/
def coreProgramsCard : Claim7 := { stood := { row := coreProgramsRow, standIns := [], harness := (true, "2da226c2776dda059d56683ace3fb3f87958e518bbc4ace9444fcb24aad7f4d7"), looks := false }, kinds := [], alts := [], laidByText := true, laidKinds := [.data, .pinned], laidTests := true, laidLooks := .later }
def CoreProgramsCardSaid : Prop := Claim7.holds Tryz.pinned (.plain (OpenSpec.ofChange coreProgramsSpec)) coreProgramsCard

/-- THE TIED CARD OF 'footmanlaw6.CoreRaw'. -/
def coreRawCard : Claim7 := { stood := { row := coreRawRow, standIns := [], harness := (true, "2da226c2776dda059d56683ace3fb3f87958e518bbc4ace9444fcb24aad7f4d7"), looks := false }, kinds := [], alts := [], laidByText := true, laidKinds := [.data, .pinned], laidTests := true, laidLooks := .later }
def CoreRawCardSaid : Prop := Claim7.holds Tryz.pinned (.plain (OpenSpec.ofChange coreRawSpec)) coreRawCard

/-- THE TIED CARD OF 'footmanlaw6.CoreOne'. -/
def coreOneCard : Claim7 := { stood := { row := coreOneRow, standIns := [], harness := (true, "2da226c2776dda059d56683ace3fb3f87958e518bbc4ace9444fcb24aad7f4d7"), looks := false }, kinds := [], alts := [], laidByText := true, laidKinds := [.data, .pinned], laidTests := true, laidLooks := .later }
def CoreOneCardSaid : Prop := Claim7.holds Tryz.pinned (.plain (OpenSpec.ofChange coreOneSpec)) coreOneCard

/-- THE TIED CARD OF 'footmanlaw6.CoreCosts'. -/
def coreCostsCard : Claim7 := { stood := { row := coreCostsRow, standIns := [], harness := (true, "2da226c2776dda059d56683ace3fb3f87958e518bbc4ace9444fcb24aad7f4d7"), looks := false }, kinds := [], alts := [], laidByText := true, laidKinds := [.data, .pinned], laidTests := true, laidLooks := .later }
def CoreCostsCardSaid : Prop := Claim7.holds Tryz.pinned (.plain (OpenSpec.ofChange coreCostsSpec)) coreCostsCard

/-- THE TIED CARD OF 'footmanlaw6.CoreTimers'. -/
def coreTimersCard : Claim7 := { stood := { row := coreTimersRow, standIns := [], harness := (true, "2da226c2776dda059d56683ace3fb3f87958e518bbc4ace9444fcb24aad7f4d7"), looks := false }, kinds := [], alts := [], laidByText := true, laidKinds := [.data, .pinned], laidTests := true, laidLooks := .later }
def CoreTimersCardSaid : Prop := Claim7.holds Tryz.pinned (.plain (OpenSpec.ofChange coreTimersSpec)) coreTimersCard

/-- THE TIED CARD OF 'footmanlaw6.CoreDevices'. -/
def coreDevicesCard : Claim7 := { stood := { row := coreDevicesRow, standIns := [], harness := (true, "2da226c2776dda059d56683ace3fb3f87958e518bbc4ace9444fcb24aad7f4d7"), looks := false }, kinds := [], alts := [], laidByText := true, laidKinds := [.data, .pinned], laidTests := true, laidLooks := .later }
def CoreDevicesCardSaid : Prop := Claim7.holds Tryz.pinned (.plain (OpenSpec.ofChange coreDevicesSpec)) coreDevicesCard

/-- THE SECOND FORM's CARD OF 'footmanlaw6.CorePrograms'. -/
def coreProgramsUptoCard : Claim7 := { stood := { row := coreProgramsUptoRow, standIns := [], harness := (true, "2da226c2776dda059d56683ace3fb3f87958e518bbc4ace9444fcb24aad7f4d7"), looks := false }, kinds := [], alts := [], laidByText := true, laidKinds := [.data, .pinned], laidTests := true, laidLooks := .later }
def CoreProgramsUptoCardSaid : Prop := Claim7.holds Tryz.pinned (.plain (OpenSpec.upto coreProgramsSpec)) coreProgramsUptoCard

/-- THE SECOND FORM's CARD OF 'footmanlaw6.CoreRaw'. -/
def coreRawUptoCard : Claim7 := { stood := { row := coreRawUptoRow, standIns := [], harness := (true, "2da226c2776dda059d56683ace3fb3f87958e518bbc4ace9444fcb24aad7f4d7"), looks := false }, kinds := [], alts := [], laidByText := true, laidKinds := [.data, .pinned], laidTests := true, laidLooks := .later }
def CoreRawUptoCardSaid : Prop := Claim7.holds Tryz.pinned (.plain (OpenSpec.upto coreRawSpec)) coreRawUptoCard

/-- THE SECOND FORM's CARD OF 'footmanlaw6.CoreOne'. -/
def coreOneUptoCard : Claim7 := { stood := { row := coreOneUptoRow, standIns := [], harness := (true, "2da226c2776dda059d56683ace3fb3f87958e518bbc4ace9444fcb24aad7f4d7"), looks := false }, kinds := [], alts := [], laidByText := true, laidKinds := [.data, .pinned], laidTests := true, laidLooks := .later }
def CoreOneUptoCardSaid : Prop := Claim7.holds Tryz.pinned (.plain (OpenSpec.upto coreOneSpec)) coreOneUptoCard

/-- THE SECOND FORM's CARD OF 'footmanlaw6.CoreCosts'. -/
def coreCostsUptoCard : Claim7 := { stood := { row := coreCostsUptoRow, standIns := [], harness := (true, "2da226c2776dda059d56683ace3fb3f87958e518bbc4ace9444fcb24aad7f4d7"), looks := false }, kinds := [], alts := [], laidByText := true, laidKinds := [.data, .pinned], laidTests := true, laidLooks := .later }
def CoreCostsUptoCardSaid : Prop := Claim7.holds Tryz.pinned (.plain (OpenSpec.upto coreCostsSpec)) coreCostsUptoCard

/-- THE SECOND FORM's CARD OF 'footmanlaw6.CoreTimers'. -/
def coreTimersUptoCard : Claim7 := { stood := { row := coreTimersUptoRow, standIns := [], harness := (true, "2da226c2776dda059d56683ace3fb3f87958e518bbc4ace9444fcb24aad7f4d7"), looks := false }, kinds := [], alts := [], laidByText := true, laidKinds := [.data, .pinned], laidTests := true, laidLooks := .later }
def CoreTimersUptoCardSaid : Prop := Claim7.holds Tryz.pinned (.plain (OpenSpec.upto coreTimersSpec)) coreTimersUptoCard

/-- THE SECOND FORM's CARD OF 'footmanlaw6.CoreDevices'. -/
def coreDevicesUptoCard : Claim7 := { stood := { row := coreDevicesUptoRow, standIns := [], harness := (true, "2da226c2776dda059d56683ace3fb3f87958e518bbc4ace9444fcb24aad7f4d7"), looks := false }, kinds := [], alts := [], laidByText := true, laidKinds := [.data, .pinned], laidTests := true, laidLooks := .later }
def CoreDevicesUptoCardSaid : Prop := Claim7.holds Tryz.pinned (.plain (OpenSpec.upto coreDevicesSpec)) coreDevicesUptoCard
end Rows
end Go.Proofs.YthojokcmaodbpaaGreatDoor
