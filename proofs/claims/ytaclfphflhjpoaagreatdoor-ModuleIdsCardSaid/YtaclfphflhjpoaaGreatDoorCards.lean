/-
  DERIVED. GIVEN WITH THE SEED: THE CARDS: each row of YtaclfphflhjpoaaGreatDoorRows.lean that lists a variable, with what it lists TIED to the program's text (the seventh form; the later family's looks); each row that meets fmt, with fmt's text TOLD by the authors' own Lean function (tested against real Go, not proved from fmt's source: count such statements apart). THE CARD IS WHAT COUNTS. Prove the row's statement (the work); the ties are given (YtaclfphflhjpoaaGreatDoorTie.lean); close each card by the builder's one call (the guide's Derived/Test/ToyasCard.lean, 'card_holds'). Laid BY PROGRAM, IN A SANDBOX (cutbox-door.mjs). By AI agents, Wed Nov 11 2026. No macro, syntax, notation, axiom, sorry.
-/
import Derived.Test.YtaclfphflhjpoaaGreatDoorRows
import GoSem.ClaimSeven
namespace Go.Proofs.YtaclfphflhjpoaaGreatDoor
namespace Rows

/-- THE TIED CARD OF 'dobbylaw10.ModuleIds'. -/
def moduleIdsCard : Claim7 := { stood := { row := moduleIdsRow, standIns := [], harness := (true, "9125bfc15bc97d574742246f2f05440c1dde46dd9f220fb8c36f48c342502b8d"), looks := false }, kinds := [], alts := [], laidByText := true, laidKinds := [.data], laidTests := true, laidLooks := .later }
def ModuleIdsCardSaid : Prop := Claim7.holds Tryz.pinned (.plain (OpenSpec.ofChange moduleIdsSpec)) moduleIdsCard

/-- THE SECOND FORM's CARD OF 'dobbylaw10.ModuleIds'. -/
def moduleIdsUptoCard : Claim7 := { stood := { row := moduleIdsUptoRow, standIns := [], harness := (true, "9125bfc15bc97d574742246f2f05440c1dde46dd9f220fb8c36f48c342502b8d"), looks := false }, kinds := [], alts := [], laidByText := true, laidKinds := [.data], laidTests := true, laidLooks := .later }
def ModuleIdsUptoCardSaid : Prop := Claim7.holds Tryz.pinned (.plain (OpenSpec.upto moduleIdsSpec)) moduleIdsUptoCard
end Rows
end Go.Proofs.YtaclfphflhjpoaaGreatDoor
