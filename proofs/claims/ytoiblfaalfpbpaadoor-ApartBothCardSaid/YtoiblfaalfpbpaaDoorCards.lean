/-
  DERIVED. GIVEN WITH THE SEED: THE CARDS: each row of YtoiblfaalfpbpaaDoorRows.lean that lists a variable, with what it lists TIED to the program's text (the seventh form; the later family's looks); each row that meets fmt, with fmt's text TOLD by the authors' own Lean function (tested against real Go, not proved from fmt's source: count such statements apart). THE CARD IS WHAT COUNTS. Prove the row's statement (the work); the ties are given (YtoiblfaalfpbpaaDoorTie.lean); close each card by the builder's one call (the guide's Derived/Test/ToyasCard.lean, 'card_holds'). Laid BY PROGRAM, IN A SANDBOX (cutbox-door.mjs). By AI agents, Wed Nov 11 2026. No macro, syntax, notation, axiom, sorry.
-/
import Derived.Test.YtoiblfaalfpbpaaDoorRows
import GoSem.ClaimSeven
namespace Go.Proofs.YtoiblfaalfpbpaaDoor
namespace Rows

/-- THE TIED CARD OF 'dunnagelaw07.ApartLess'. -/
def apartLessCard : Claim7 := { stood := { row := apartLessRow, standIns := [], harness := (true, "9394a7e9d82ad54e351858829fe7978e896d41d4f76322fcdcb2582c0caca9d7"), looks := true }, kinds := [], alts := [], laidByText := true, laidKinds := [.handle], laidTests := true, laidLooks := .later }
def ApartLessCardSaid : Prop := Claim7.holds Tryd.pinned (.plain (OpenSpec.ofChange apartLessSpec)) apartLessCard

/-- THE TIED CARD OF 'dunnagelaw07.ApartBoth'. -/
def apartBothCard : Claim7 := { stood := { row := apartBothRow, standIns := [], harness := (true, "9394a7e9d82ad54e351858829fe7978e896d41d4f76322fcdcb2582c0caca9d7"), looks := true }, kinds := [], alts := [], laidByText := true, laidKinds := [.handle], laidTests := true, laidLooks := .later }
def ApartBothCardSaid : Prop := Claim7.holds Tryd.pinned (.plain (OpenSpec.ofChange apartBothSpec)) apartBothCard

/-- THE SECOND FORM's CARD OF 'dunnagelaw07.ApartLess'. -/
def apartLessUptoCard : Claim7 := { stood := { row := apartLessUptoRow, standIns := [], harness := (true, "9394a7e9d82ad54e351858829fe7978e896d41d4f76322fcdcb2582c0caca9d7"), looks := true }, kinds := [], alts := [], laidByText := true, laidKinds := [.handle], laidTests := true, laidLooks := .later }
def ApartLessUptoCardSaid : Prop := Claim7.holds Tryd.pinned (.plain (OpenSpec.upto apartLessSpec)) apartLessUptoCard

/-- THE SECOND FORM's CARD OF 'dunnagelaw07.ApartBoth'. -/
def apartBothUptoCard : Claim7 := { stood := { row := apartBothUptoRow, standIns := [], harness := (true, "9394a7e9d82ad54e351858829fe7978e896d41d4f76322fcdcb2582c0caca9d7"), looks := true }, kinds := [], alts := [], laidByText := true, laidKinds := [.handle], laidTests := true, laidLooks := .later }
def ApartBothUptoCardSaid : Prop := Claim7.holds Tryd.pinned (.plain (OpenSpec.upto apartBothSpec)) apartBothUptoCard
end Rows
end Go.Proofs.YtoiblfaalfpbpaaDoor
