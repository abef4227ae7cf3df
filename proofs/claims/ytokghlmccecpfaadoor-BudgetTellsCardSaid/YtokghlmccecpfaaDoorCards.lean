/-
  DERIVED. GIVEN WITH THE SEED: THE CARDS: each row of YtokghlmccecpfaaDoorRows.lean that lists a variable, with what it lists TIED to the program's text (the seventh form; the later family's looks); each row that meets fmt, with fmt's text TOLD by the authors' own Lean function (tested against real Go, not proved from fmt's source: count such statements apart). THE CARD IS WHAT COUNTS. Prove the row's statement (the work); the ties are given (YtokghlmccecpfaaDoorTie.lean); close each card by the builder's one call (the guide's Derived/Test/ToyasCard.lean, 'card_holds'). Laid BY PROGRAM, IN A SANDBOX (cutbox-door.mjs). By AI agents, Wed Nov 11 2026. No macro, syntax, notation, axiom, sorry.
-/
import Derived.Test.YtokghlmccecpfaaDoorRows
import GoSem.ClaimSeven
namespace Go.Proofs.YtokghlmccecpfaaDoor
namespace Rows

/-- THE TIED CARD OF 'dunnagelaw09.BudgetTells'. -/
def budgetTellsCard : Claim7 := { stood := { row := budgetTellsRow, standIns := [], harness := (true, "39b7ffdbd5078cb548027263533419f0b9506d2d556b613b3203cbb733657e9d"), looks := true }, kinds := [], alts := [], laidByText := true, laidKinds := [.handle], laidTests := true, laidLooks := .later }
def BudgetTellsCardSaid : Prop := Claim7.holds Tryd.pinned (.plain (OpenSpec.ofChange budgetTellsSpec)) budgetTellsCard

/-- THE TIED CARD OF 'dunnagelaw09.BudgetMoves'. -/
def budgetMovesCard : Claim7 := { stood := { row := budgetMovesRow, standIns := [], harness := (true, "39b7ffdbd5078cb548027263533419f0b9506d2d556b613b3203cbb733657e9d"), looks := true }, kinds := [], alts := [], laidByText := true, laidKinds := [.handle], laidTests := true, laidLooks := .later }
def BudgetMovesCardSaid : Prop := Claim7.holds Tryd.pinned (.plain (OpenSpec.ofChange budgetMovesSpec)) budgetMovesCard

/-- THE SECOND FORM's CARD OF 'dunnagelaw09.BudgetTells'. -/
def budgetTellsUptoCard : Claim7 := { stood := { row := budgetTellsUptoRow, standIns := [], harness := (true, "39b7ffdbd5078cb548027263533419f0b9506d2d556b613b3203cbb733657e9d"), looks := true }, kinds := [], alts := [], laidByText := true, laidKinds := [.handle], laidTests := true, laidLooks := .later }
def BudgetTellsUptoCardSaid : Prop := Claim7.holds Tryd.pinned (.plain (OpenSpec.upto budgetTellsSpec)) budgetTellsUptoCard

/-- THE SECOND FORM's CARD OF 'dunnagelaw09.BudgetMoves'. -/
def budgetMovesUptoCard : Claim7 := { stood := { row := budgetMovesUptoRow, standIns := [], harness := (true, "39b7ffdbd5078cb548027263533419f0b9506d2d556b613b3203cbb733657e9d"), looks := true }, kinds := [], alts := [], laidByText := true, laidKinds := [.handle], laidTests := true, laidLooks := .later }
def BudgetMovesUptoCardSaid : Prop := Claim7.holds Tryd.pinned (.plain (OpenSpec.upto budgetMovesSpec)) budgetMovesUptoCard
end Rows
end Go.Proofs.YtokghlmccecpfaaDoor
