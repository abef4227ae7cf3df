/-
  DERIVED. GIVEN WITH THE SEED: THE CARDS: each row of YtfdfejihakekeaaDoorRows.lean that lists a variable, with what it lists TIED to the program's text (the seventh form; the later family's looks); each row that meets fmt, with fmt's text TOLD by the authors' own Lean function (tested against real Go, not proved from fmt's source: count such statements apart). THE CARD IS WHAT COUNTS. Prove the row's statement (the work); the ties are given (YtfdfejihakekeaaDoorTie.lean); close each card by the builder's one call (the guide's Derived/Test/ToyasCard.lean, 'card_holds'). Laid BY PROGRAM, IN A SANDBOX (cutbox-door.mjs). By AI agents, Wed Nov 11 2026. No macro, syntax, notation, axiom, sorry.
-/
import Derived.Test.YtfdfejihakekeaaDoorRows
import GoSem.ClaimSeven
namespace Go.Proofs.YtfdfejihakekeaaDoor
namespace Rows

/-- THE TIED CARD OF 'dunnagelaw06.RoomTells'. -/
def roomTellsCard : Claim7 := { stood := { row := roomTellsRow, standIns := [], harness := (true, "0c13becb1dc2fe826367f476dec1c3b96cb6f83fb93196cc4108150781618d01"), looks := true }, kinds := [], alts := [], laidByText := true, laidKinds := [.handle], laidTests := true, laidLooks := .later }
def RoomTellsCardSaid : Prop := Claim7.holds Tryd.pinned (.plain (OpenSpec.ofChange roomTellsSpec)) roomTellsCard

/-- THE TIED CARD OF 'dunnagelaw06.RoomWhole'. -/
def roomWholeCard : Claim7 := { stood := { row := roomWholeRow, standIns := [], harness := (true, "0c13becb1dc2fe826367f476dec1c3b96cb6f83fb93196cc4108150781618d01"), looks := true }, kinds := [], alts := [], laidByText := true, laidKinds := [.handle], laidTests := true, laidLooks := .later }
def RoomWholeCardSaid : Prop := Claim7.holds Tryd.pinned (.plain (OpenSpec.ofChange roomWholeSpec)) roomWholeCard

/-- THE TIED CARD OF 'dunnagelaw06.RoomLess'. -/
def roomLessCard : Claim7 := { stood := { row := roomLessRow, standIns := [], harness := (true, "0c13becb1dc2fe826367f476dec1c3b96cb6f83fb93196cc4108150781618d01"), looks := true }, kinds := [], alts := [], laidByText := true, laidKinds := [.handle], laidTests := true, laidLooks := .later }
def RoomLessCardSaid : Prop := Claim7.holds Tryd.pinned (.plain (OpenSpec.ofChange roomLessSpec)) roomLessCard

/-- THE SECOND FORM's CARD OF 'dunnagelaw06.RoomTells'. -/
def roomTellsUptoCard : Claim7 := { stood := { row := roomTellsUptoRow, standIns := [], harness := (true, "0c13becb1dc2fe826367f476dec1c3b96cb6f83fb93196cc4108150781618d01"), looks := true }, kinds := [], alts := [], laidByText := true, laidKinds := [.handle], laidTests := true, laidLooks := .later }
def RoomTellsUptoCardSaid : Prop := Claim7.holds Tryd.pinned (.plain (OpenSpec.upto roomTellsSpec)) roomTellsUptoCard

/-- THE SECOND FORM's CARD OF 'dunnagelaw06.RoomWhole'. -/
def roomWholeUptoCard : Claim7 := { stood := { row := roomWholeUptoRow, standIns := [], harness := (true, "0c13becb1dc2fe826367f476dec1c3b96cb6f83fb93196cc4108150781618d01"), looks := true }, kinds := [], alts := [], laidByText := true, laidKinds := [.handle], laidTests := true, laidLooks := .later }
def RoomWholeUptoCardSaid : Prop := Claim7.holds Tryd.pinned (.plain (OpenSpec.upto roomWholeSpec)) roomWholeUptoCard

/-- THE SECOND FORM's CARD OF 'dunnagelaw06.RoomLess'. -/
def roomLessUptoCard : Claim7 := { stood := { row := roomLessUptoRow, standIns := [], harness := (true, "0c13becb1dc2fe826367f476dec1c3b96cb6f83fb93196cc4108150781618d01"), looks := true }, kinds := [], alts := [], laidByText := true, laidKinds := [.handle], laidTests := true, laidLooks := .later }
def RoomLessUptoCardSaid : Prop := Claim7.holds Tryd.pinned (.plain (OpenSpec.upto roomLessSpec)) roomLessUptoCard
end Rows
end Go.Proofs.YtfdfejihakekeaaDoor
