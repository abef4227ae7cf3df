/-
  DERIVED. GIVEN WITH THE SEED: THE CARDS: each row of YtmcpjebcffgboaaDoorRows.lean that lists a variable, with what it lists TIED to the program's text (the seventh form; the later family's looks); each row that meets fmt, with fmt's text TOLD by the authors' own Lean function (tested against real Go, not proved from fmt's source: count such statements apart). THE CARD IS WHAT COUNTS. Prove the row's statement (the work); the ties are given (YtmcpjebcffgboaaDoorTie.lean); close each card by the builder's one call (the guide's Derived/Test/ToyasCard.lean, 'card_holds'). Laid BY PROGRAM, IN A SANDBOX (cutbox-door.mjs). By AI agents, Wed Nov 11 2026. No macro, syntax, notation, axiom, sorry.
-/
import Derived.Test.YtmcpjebcffgboaaDoorRows
import GoSem.ClaimSeven
namespace Go.Proofs.YtmcpjebcffgboaaDoor
namespace Rows

/-- THE TIED CARD OF 'dunnagelaw08.SpreadWhole'. -/
def spreadWholeCard : Claim7 := { stood := { row := spreadWholeRow, standIns := [], harness := (true, "df97e5668cfce99c9aa40a36a3cce52f14f9b3cd3bc841462aff98b910dcf5f9"), looks := true }, kinds := [], alts := [], laidByText := true, laidKinds := [.handle], laidTests := true, laidLooks := .later }
def SpreadWholeCardSaid : Prop := Claim7.holds Tryd.pinned (.plain (OpenSpec.ofChange spreadWholeSpec)) spreadWholeCard

/-- THE TIED CARD OF 'dunnagelaw08.SpreadMoves'. -/
def spreadMovesCard : Claim7 := { stood := { row := spreadMovesRow, standIns := [], harness := (true, "df97e5668cfce99c9aa40a36a3cce52f14f9b3cd3bc841462aff98b910dcf5f9"), looks := true }, kinds := [], alts := [], laidByText := true, laidKinds := [.handle], laidTests := true, laidLooks := .later }
def SpreadMovesCardSaid : Prop := Claim7.holds Tryd.pinned (.plain (OpenSpec.ofChange spreadMovesSpec)) spreadMovesCard

/-- THE SECOND FORM's CARD OF 'dunnagelaw08.SpreadWhole'. -/
def spreadWholeUptoCard : Claim7 := { stood := { row := spreadWholeUptoRow, standIns := [], harness := (true, "df97e5668cfce99c9aa40a36a3cce52f14f9b3cd3bc841462aff98b910dcf5f9"), looks := true }, kinds := [], alts := [], laidByText := true, laidKinds := [.handle], laidTests := true, laidLooks := .later }
def SpreadWholeUptoCardSaid : Prop := Claim7.holds Tryd.pinned (.plain (OpenSpec.upto spreadWholeSpec)) spreadWholeUptoCard

/-- THE SECOND FORM's CARD OF 'dunnagelaw08.SpreadMoves'. -/
def spreadMovesUptoCard : Claim7 := { stood := { row := spreadMovesUptoRow, standIns := [], harness := (true, "df97e5668cfce99c9aa40a36a3cce52f14f9b3cd3bc841462aff98b910dcf5f9"), looks := true }, kinds := [], alts := [], laidByText := true, laidKinds := [.handle], laidTests := true, laidLooks := .later }
def SpreadMovesUptoCardSaid : Prop := Claim7.holds Tryd.pinned (.plain (OpenSpec.upto spreadMovesSpec)) spreadMovesUptoCard
end Rows
end Go.Proofs.YtmcpjebcffgboaaDoor
