/-
  DERIVED. GIVEN WITH THE SEED: THE CARDS: each row of YtgfleifpblcnfaaGreatDoorRows.lean that lists a variable, with what it lists TIED to the program's text (the seventh form; the later family's looks); each row that meets fmt, with fmt's text TOLD by the authors' own Lean function (tested against real Go, not proved from fmt's source: count such statements apart). THE CARD IS WHAT COUNTS. Prove the row's statement (the work); the ties are given (YtgfleifpblcnfaaGreatDoorTie.lean); close each card by the builder's one call (the guide's Derived/Test/ToyasCard.lean, 'card_holds'). Laid BY PROGRAM, IN A SANDBOX (cutbox-door.mjs). By AI agents, Wed Nov 11 2026. No macro, syntax, notation, axiom, sorry.
-/
import Derived.Test.YtgfleifpblcnfaaGreatDoorRows
import GoSem.ClaimSeven
namespace Go.Proofs.YtgfleifpblcnfaaGreatDoor
namespace Rows

/-- THE TIED CARD OF 'dunnagelaw04.CodecSnapshots'. -/
def codecSnapshotsCard : Claim7 := { stood := { row := codecSnapshotsRow, standIns := [], harness := (true, "da33b3cf211165ee29c2d30194db5749179d89b58d9bd70f5e7068fd7593174e"), looks := true }, kinds := [], alts := [], laidByText := true, laidKinds := [.handle], laidTests := true, laidLooks := .later }
def CodecSnapshotsCardSaid : Prop := Claim7.holds Tryz.pinned (.plain (OpenSpec.ofChange codecSnapshotsSpec)) codecSnapshotsCard

/-- THE TIED CARD OF 'dunnagelaw04.CodecSpecs'. -/
def codecSpecsCard : Claim7 := { stood := { row := codecSpecsRow, standIns := [], harness := (true, "da33b3cf211165ee29c2d30194db5749179d89b58d9bd70f5e7068fd7593174e"), looks := true }, kinds := [], alts := [], laidByText := true, laidKinds := [.handle], laidTests := true, laidLooks := .later }
def CodecSpecsCardSaid : Prop := Claim7.holds Tryz.pinned (.plain (OpenSpec.ofChange codecSpecsSpec)) codecSpecsCard

/-- THE SECOND FORM's CARD OF 'dunnagelaw04.CodecSnapshots'. -/
def codecSnapshotsUptoCard : Claim7 := { stood := { row := codecSnapshotsUptoRow, standIns := [], harness := (true, "da33b3cf211165ee29c2d30194db5749179d89b58d9bd70f5e7068fd7593174e"), looks := true }, kinds := [], alts := [], laidByText := true, laidKinds := [.handle], laidTests := true, laidLooks := .later }
def CodecSnapshotsUptoCardSaid : Prop := Claim7.holds Tryz.pinned (.plain (OpenSpec.upto codecSnapshotsSpec)) codecSnapshotsUptoCard

/-- THE SECOND FORM's CARD OF 'dunnagelaw04.CodecSpecs'. -/
def codecSpecsUptoCard : Claim7 := { stood := { row := codecSpecsUptoRow, standIns := [], harness := (true, "da33b3cf211165ee29c2d30194db5749179d89b58d9bd70f5e7068fd7593174e"), looks := true }, kinds := [], alts := [], laidByText := true, laidKinds := [.handle], laidTests := true, laidLooks := .later }
def CodecSpecsUptoCardSaid : Prop := Claim7.holds Tryz.pinned (.plain (OpenSpec.upto codecSpecsSpec)) codecSpecsUptoCard
end Rows
end Go.Proofs.YtgfleifpblcnfaaGreatDoor
