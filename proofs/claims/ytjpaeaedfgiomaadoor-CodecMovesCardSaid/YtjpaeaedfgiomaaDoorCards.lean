/-
  DERIVED. GIVEN WITH THE SEED: THE CARDS: each row of YtjpaeaedfgiomaaDoorRows.lean that lists a variable, with what it lists TIED to the program's text (the seventh form; the later family's looks); each row that meets fmt, with fmt's text TOLD by the authors' own Lean function (tested against real Go, not proved from fmt's source: count such statements apart). THE CARD IS WHAT COUNTS. Prove the row's statement (the work); the ties are given (YtjpaeaedfgiomaaDoorTie.lean); close each card by the builder's one call (the guide's Derived/Test/ToyasCard.lean, 'card_holds'). Laid BY PROGRAM, IN A SANDBOX (cutbox-door.mjs). By AI agents, Wed Nov 11 2026. No macro, syntax, notation, axiom, sorry.
-/
import Derived.Test.YtjpaeaedfgiomaaDoorRows
import GoSem.ClaimSeven
namespace Go.Proofs.YtjpaeaedfgiomaaDoor
namespace Rows

/-- THE TIED CARD OF 'dunnagelaw04.CodecMoves'. -/
def codecMovesCard : Claim7 := { stood := { row := codecMovesRow, standIns := [], harness := (true, "70ccde6db076ca37c9e2e7886ef862ff164c83cff5edc6dcd1ec8e015a000c1c"), looks := true }, kinds := [], alts := [], laidByText := true, laidKinds := [.handle], laidTests := true, laidLooks := .later }
def CodecMovesCardSaid : Prop := Claim7.holds Tryd.pinned (.plain (OpenSpec.ofChange codecMovesSpec)) codecMovesCard

/-- THE SECOND FORM's CARD OF 'dunnagelaw04.CodecMoves'. -/
def codecMovesUptoCard : Claim7 := { stood := { row := codecMovesUptoRow, standIns := [], harness := (true, "70ccde6db076ca37c9e2e7886ef862ff164c83cff5edc6dcd1ec8e015a000c1c"), looks := true }, kinds := [], alts := [], laidByText := true, laidKinds := [.handle], laidTests := true, laidLooks := .later }
def CodecMovesUptoCardSaid : Prop := Claim7.holds Tryd.pinned (.plain (OpenSpec.upto codecMovesSpec)) codecMovesUptoCard
end Rows
end Go.Proofs.YtjpaeaedfgiomaaDoor
