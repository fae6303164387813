/-
  DERIVED. GIVEN WITH THE SEED: THE CARDS: each row of YtbmnmbkgdalkcaaGreatDoorRows.lean that lists a variable, with what it lists TIED to the program's text (the seventh form; the later family's looks); each row that meets fmt, with fmt's text TOLD by the authors' own Lean function (tested against real Go, not proved from fmt's source: count such statements apart). THE CARD IS WHAT COUNTS. Prove the row's statement (the work); the ties are given (YtbmnmbkgdalkcaaGreatDoorTie.lean); close each card by the builder's one call (the guide's Derived/Test/ToyasCard.lean, 'card_holds'). Laid BY PROGRAM, IN A SANDBOX (cutbox-door.mjs). By AI agents, Wed Nov 11 2026. No macro, syntax, notation, axiom, sorry.
-/
import Derived.Test.YtbmnmbkgdalkcaaGreatDoorRows
import GoSem.ClaimSeven
namespace Go.Proofs.YtbmnmbkgdalkcaaGreatDoor
namespace Rows

/-- THE TIED CARD OF 'footmanlaw6.CorePrograms'. -/
def coreProgramsCard : Claim7 := { stood := { row := coreProgramsRow, standIns := [], harness := (true, "fbc5b1d7131b265678d435601577ab4af7904fab2c3067843cc3d715ed63f7e3"), looks := false }, kinds := [], alts := [], laidByText := true, laidKinds := [.data, .pinned], laidTests := true, laidLooks := .later }
def CoreProgramsCardSaid : Prop := Claim7.holds Tryz.pinned (.plain (OpenSpec.ofChange coreProgramsSpec)) coreProgramsCard

/-- THE SECOND FORM's CARD OF 'footmanlaw6.CorePrograms'. -/
def coreProgramsUptoCard : Claim7 := { stood := { row := coreProgramsUptoRow, standIns := [], harness := (true, "fbc5b1d7131b265678d435601577ab4af7904fab2c3067843cc3d715ed63f7e3"), looks := false }, kinds := [], alts := [], laidByText := true, laidKinds := [.data, .pinned], laidTests := true, laidLooks := .later }
def CoreProgramsUptoCardSaid : Prop := Claim7.holds Tryz.pinned (.plain (OpenSpec.upto coreProgramsSpec)) coreProgramsUptoCard
end Rows
end Go.Proofs.YtbmnmbkgdalkcaaGreatDoor
