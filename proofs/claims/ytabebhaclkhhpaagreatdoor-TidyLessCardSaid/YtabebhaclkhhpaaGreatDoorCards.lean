/-
  DERIVED. GIVEN WITH THE SEED: THE CARDS: each row of YtabebhaclkhhpaaGreatDoorRows.lean that lists a variable, with what it lists TIED to the program's text (the seventh form; the later family's looks); each row that meets fmt, with fmt's text TOLD by the authors' own Lean function (tested against real Go, not proved from fmt's source: count such statements apart). THE CARD IS WHAT COUNTS. Prove the row's statement (the work); the ties are given (YtabebhaclkhhpaaGreatDoorTie.lean); close each card by the builder's one call (the guide's Derived/Test/ToyasCard.lean, 'card_holds'). Laid BY PROGRAM, IN A SANDBOX (cutbox-door.mjs). By AI agents, Wed Nov 11 2026. No macro, syntax, notation, axiom, sorry.
-/
import Derived.Test.YtabebhaclkhhpaaGreatDoorRows
import GoSem.ClaimSeven
namespace Go.Proofs.YtabebhaclkhhpaaGreatDoor
namespace Rows

/-- THE TIED CARD OF 'dunnagelaw16.TidyLess'. -/
def tidyLessCard : Claim7 := { stood := { row := tidyLessRow, standIns := [], harness := (true, "c6f2a83b19cde4a31e75a0bc591ea9acb8c5351bfe6eb3e512e440ae3143e7e8"), looks := true }, kinds := [], alts := [], laidByText := true, laidKinds := [.handle], laidTests := true, laidLooks := .later }
def TidyLessCardSaid : Prop := Claim7.holds Tryz.pinned (.plain (OpenSpec.ofChange tidyLessSpec)) tidyLessCard

/-- THE SECOND FORM's CARD OF 'dunnagelaw16.TidyLess'. -/
def tidyLessUptoCard : Claim7 := { stood := { row := tidyLessUptoRow, standIns := [], harness := (true, "c6f2a83b19cde4a31e75a0bc591ea9acb8c5351bfe6eb3e512e440ae3143e7e8"), looks := true }, kinds := [], alts := [], laidByText := true, laidKinds := [.handle], laidTests := true, laidLooks := .later }
def TidyLessUptoCardSaid : Prop := Claim7.holds Tryz.pinned (.plain (OpenSpec.upto tidyLessSpec)) tidyLessUptoCard
end Rows
end Go.Proofs.YtabebhaclkhhpaaGreatDoor
