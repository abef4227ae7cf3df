/-
  DERIVED. GIVEN WITH THE SEED: THE CARDS: each row of YtkipfalolfleaaaGreatDoorRows.lean that lists a variable, with what it lists TIED to the program's text (the seventh form; the later family's looks); each row that meets fmt, with fmt's text TOLD by the authors' own Lean function (tested against real Go, not proved from fmt's source: count such statements apart). THE CARD IS WHAT COUNTS. Prove the row's statement (the work); the ties are given (YtkipfalolfleaaaGreatDoorTie.lean); close each card by the builder's one call (the guide's Derived/Test/ToyasCard.lean, 'card_holds'). Laid BY PROGRAM, IN A SANDBOX (cutbox-door.mjs). By AI agents, Wed Nov 11 2026. No macro, syntax, notation, axiom, sorry.
-/
import Derived.Test.YtkipfalolfleaaaGreatDoorRows
import GoSem.ClaimSeven
namespace Go.Proofs.YtkipfalolfleaaaGreatDoor
namespace Rows

/-- THE TIED CARD OF 'dunnagelaw18.MovesFar'. -/
def movesFarCard : Claim7 := { stood := { row := movesFarRow, standIns := [], harness := (true, "9805e36b00d95eb331121f25c349d55d5817e2f2c3dd423520974d314b569150"), looks := true }, kinds := [], alts := [], laidByText := true, laidKinds := [.handle], laidTests := true, laidLooks := .later }
def MovesFarCardSaid : Prop := Claim7.holds Tryz.pinned (.plain (OpenSpec.ofChange movesFarSpec)) movesFarCard

/-- THE SECOND FORM's CARD OF 'dunnagelaw18.MovesFar'. -/
def movesFarUptoCard : Claim7 := { stood := { row := movesFarUptoRow, standIns := [], harness := (true, "9805e36b00d95eb331121f25c349d55d5817e2f2c3dd423520974d314b569150"), looks := true }, kinds := [], alts := [], laidByText := true, laidKinds := [.handle], laidTests := true, laidLooks := .later }
def MovesFarUptoCardSaid : Prop := Claim7.holds Tryz.pinned (.plain (OpenSpec.upto movesFarSpec)) movesFarUptoCard
end Rows
end Go.Proofs.YtkipfalolfleaaaGreatDoor
