/-
  DERIVED. GIVEN WITH THE SEED: THE CARDS: each row of YthapilknnhlmfaaGreatDoorRows.lean that lists a variable, with what it lists TIED to the program's text (the seventh form; the later family's looks); each row that meets fmt, with fmt's text TOLD by the authors' own Lean function (tested against real Go, not proved from fmt's source: count such statements apart). THE CARD IS WHAT COUNTS. Prove the row's statement (the work); the ties are given (YthapilknnhlmfaaGreatDoorTie.lean); close each card by the builder's one call (the guide's Derived/Test/ToyasCard.lean, 'card_holds'). Laid BY PROGRAM, IN A SANDBOX (cutbox-door.mjs). By AI agents, Wed Nov 11 2026. No macro, syntax, notation, axiom, sorry.
-/
import Derived.Test.YthapilknnhlmfaaGreatDoorRows
import GoSem.ClaimSeven
namespace Go.Proofs.YthapilknnhlmfaaGreatDoor
namespace Rows

/-- THE TIED CARD OF 'dunnagelaw19.SearchTells'. -/
def searchTellsCard : Claim7 := { stood := { row := searchTellsRow, standIns := [], harness := (true, "5acea848bb36bf8d1d651ce2d796a7927b367709ce9f200aa38e38b75db50257"), looks := true }, kinds := [], alts := [], laidByText := true, laidKinds := [.handle], laidTests := true, laidLooks := .later }
def SearchTellsCardSaid : Prop := Claim7.holds Tryz.pinned (.plain (OpenSpec.ofChange searchTellsSpec)) searchTellsCard

/-- THE TIED CARD OF 'dunnagelaw19.SearchEnds'. -/
def searchEndsCard : Claim7 := { stood := { row := searchEndsRow, standIns := [], harness := (true, "5acea848bb36bf8d1d651ce2d796a7927b367709ce9f200aa38e38b75db50257"), looks := true }, kinds := [], alts := [], laidByText := true, laidKinds := [.handle], laidTests := true, laidLooks := .later }
def SearchEndsCardSaid : Prop := Claim7.holds Tryz.pinned (.plain (OpenSpec.ofChange searchEndsSpec)) searchEndsCard

/-- THE TIED CARD OF 'dunnagelaw19.SearchPlans'. -/
def searchPlansCard : Claim7 := { stood := { row := searchPlansRow, standIns := [], harness := (true, "5acea848bb36bf8d1d651ce2d796a7927b367709ce9f200aa38e38b75db50257"), looks := true }, kinds := [], alts := [], laidByText := true, laidKinds := [.handle], laidTests := true, laidLooks := .later }
def SearchPlansCardSaid : Prop := Claim7.holds Tryz.pinned (.plain (OpenSpec.ofChange searchPlansSpec)) searchPlansCard

/-- THE SECOND FORM's CARD OF 'dunnagelaw19.SearchTells'. -/
def searchTellsUptoCard : Claim7 := { stood := { row := searchTellsUptoRow, standIns := [], harness := (true, "5acea848bb36bf8d1d651ce2d796a7927b367709ce9f200aa38e38b75db50257"), looks := true }, kinds := [], alts := [], laidByText := true, laidKinds := [.handle], laidTests := true, laidLooks := .later }
def SearchTellsUptoCardSaid : Prop := Claim7.holds Tryz.pinned (.plain (OpenSpec.upto searchTellsSpec)) searchTellsUptoCard

/-- THE SECOND FORM's CARD OF 'dunnagelaw19.SearchEnds'. -/
def searchEndsUptoCard : Claim7 := { stood := { row := searchEndsUptoRow, standIns := [], harness := (true, "5acea848bb36bf8d1d651ce2d796a7927b367709ce9f200aa38e38b75db50257"), looks := true }, kinds := [], alts := [], laidByText := true, laidKinds := [.handle], laidTests := true, laidLooks := .later }
def SearchEndsUptoCardSaid : Prop := Claim7.holds Tryz.pinned (.plain (OpenSpec.upto searchEndsSpec)) searchEndsUptoCard

/-- THE SECOND FORM's CARD OF 'dunnagelaw19.SearchPlans'. -/
def searchPlansUptoCard : Claim7 := { stood := { row := searchPlansUptoRow, standIns := [], harness := (true, "5acea848bb36bf8d1d651ce2d796a7927b367709ce9f200aa38e38b75db50257"), looks := true }, kinds := [], alts := [], laidByText := true, laidKinds := [.handle], laidTests := true, laidLooks := .later }
def SearchPlansUptoCardSaid : Prop := Claim7.holds Tryz.pinned (.plain (OpenSpec.upto searchPlansSpec)) searchPlansUptoCard
end Rows
end Go.Proofs.YthapilknnhlmfaaGreatDoor
