/-
  DERIVED. GIVEN WITH THE SEED: THE CARDS: each row of YtiinnoahopnkcaaGreatDoorRows.lean that lists a variable, with what it lists TIED to the program's text (the seventh form; the later family's looks); each row that meets fmt, with fmt's text TOLD by the authors' own Lean function (tested against real Go, not proved from fmt's source: count such statements apart). THE CARD IS WHAT COUNTS. Prove the row's statement (the work); the ties are given (YtiinnoahopnkcaaGreatDoorTie.lean); close each card by the builder's one call (the guide's Derived/Test/ToyasCard.lean, 'card_holds'). Laid BY PROGRAM, IN A SANDBOX (cutbox-door.mjs). By AI agents, Wed Nov 11 2026. No macro, syntax, notation, axiom, sorry.
-/
import Derived.Test.YtiinnoahopnkcaaGreatDoorRows
import GoSem.ClaimSeven
namespace Go.Proofs.YtiinnoahopnkcaaGreatDoor
namespace Rows

/-- THE TIED CARD OF 'dunnagelaw12.StepWalks'. -/
def stepWalksCard : Claim7 := { stood := { row := stepWalksRow, standIns := [], harness := (true, "0cfbe4f7c09270d6717b403f0be09b3492c0336700aadde517394004f9c47189"), looks := true }, kinds := [], alts := [], laidByText := true, laidKinds := [.handle], laidTests := true, laidLooks := .later }
def StepWalksCardSaid : Prop := Claim7.holds Tryz.pinned (.plain (OpenSpec.ofChange stepWalksSpec)) stepWalksCard

/-- THE TIED CARD OF 'dunnagelaw12.StepSafe'. -/
def stepSafeCard : Claim7 := { stood := { row := stepSafeRow, standIns := [], harness := (true, "0cfbe4f7c09270d6717b403f0be09b3492c0336700aadde517394004f9c47189"), looks := true }, kinds := [], alts := [], laidByText := true, laidKinds := [.handle], laidTests := true, laidLooks := .later }
def StepSafeCardSaid : Prop := Claim7.holds Tryz.pinned (.plain (OpenSpec.ofChange stepSafeSpec)) stepSafeCard

/-- THE SECOND FORM's CARD OF 'dunnagelaw12.StepWalks'. -/
def stepWalksUptoCard : Claim7 := { stood := { row := stepWalksUptoRow, standIns := [], harness := (true, "0cfbe4f7c09270d6717b403f0be09b3492c0336700aadde517394004f9c47189"), looks := true }, kinds := [], alts := [], laidByText := true, laidKinds := [.handle], laidTests := true, laidLooks := .later }
def StepWalksUptoCardSaid : Prop := Claim7.holds Tryz.pinned (.plain (OpenSpec.upto stepWalksSpec)) stepWalksUptoCard

/-- THE SECOND FORM's CARD OF 'dunnagelaw12.StepSafe'. -/
def stepSafeUptoCard : Claim7 := { stood := { row := stepSafeUptoRow, standIns := [], harness := (true, "0cfbe4f7c09270d6717b403f0be09b3492c0336700aadde517394004f9c47189"), looks := true }, kinds := [], alts := [], laidByText := true, laidKinds := [.handle], laidTests := true, laidLooks := .later }
def StepSafeUptoCardSaid : Prop := Claim7.holds Tryz.pinned (.plain (OpenSpec.upto stepSafeSpec)) stepSafeUptoCard
end Rows
end Go.Proofs.YtiinnoahopnkcaaGreatDoor
