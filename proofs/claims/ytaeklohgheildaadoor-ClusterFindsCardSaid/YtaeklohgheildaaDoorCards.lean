/-
  DERIVED. GIVEN WITH THE SEED: THE CARDS: each row of YtaeklohgheildaaDoorRows.lean that lists a variable, with what it lists TIED to the program's text (the seventh form; the later family's looks); each row that meets fmt, with fmt's text TOLD by the authors' own Lean function (tested against real Go, not proved from fmt's source: count such statements apart). THE CARD IS WHAT COUNTS. Prove the row's statement (the work); the ties are given (YtaeklohgheildaaDoorTie.lean); close each card by the builder's one call (the guide's Derived/Test/ToyasCard.lean, 'card_holds'). Laid BY PROGRAM, IN A SANDBOX (cutbox-door.mjs). By AI agents, Wed Nov 11 2026. No macro, syntax, notation, axiom, sorry.
-/
import Derived.Test.YtaeklohgheildaaDoorRows
import GoSem.ClaimSeven
namespace Go.Proofs.YtaeklohgheildaaDoor
namespace Rows

/-- THE TIED CARD OF 'dunnagelaw03.ClusterChecks'. -/
def clusterChecksCard : Claim7 := { stood := { row := clusterChecksRow, standIns := [], harness := (true, "5ffc4fef95bb1ba83192c0e588930dd444d85ed6e0ecddcb19b093b7e76cf2d1"), looks := true }, kinds := [], alts := [], laidByText := true, laidKinds := [.handle], laidTests := true, laidLooks := .later }
def ClusterChecksCardSaid : Prop := Claim7.holds Tryd.pinned (.plain (OpenSpec.ofChange clusterChecksSpec)) clusterChecksCard

/-- THE TIED CARD OF 'dunnagelaw03.ClusterFinds'. -/
def clusterFindsCard : Claim7 := { stood := { row := clusterFindsRow, standIns := [], harness := (true, "5ffc4fef95bb1ba83192c0e588930dd444d85ed6e0ecddcb19b093b7e76cf2d1"), looks := true }, kinds := [], alts := [], laidByText := true, laidKinds := [.handle], laidTests := true, laidLooks := .later }
def ClusterFindsCardSaid : Prop := Claim7.holds Tryd.pinned (.plain (OpenSpec.ofChange clusterFindsSpec)) clusterFindsCard

/-- THE TIED CARD OF 'dunnagelaw03.ClusterFewer'. -/
def clusterFewerCard : Claim7 := { stood := { row := clusterFewerRow, standIns := [], harness := (true, "5ffc4fef95bb1ba83192c0e588930dd444d85ed6e0ecddcb19b093b7e76cf2d1"), looks := true }, kinds := [], alts := [], laidByText := true, laidKinds := [.handle], laidTests := true, laidLooks := .later }
def ClusterFewerCardSaid : Prop := Claim7.holds Tryd.pinned (.plain (OpenSpec.ofChange clusterFewerSpec)) clusterFewerCard

/-- THE TIED CARD OF 'dunnagelaw03.ClusterFound'. -/
def clusterFoundCard : Claim7 := { stood := { row := clusterFoundRow, standIns := [], harness := (true, "5ffc4fef95bb1ba83192c0e588930dd444d85ed6e0ecddcb19b093b7e76cf2d1"), looks := true }, kinds := [], alts := [], laidByText := true, laidKinds := [.handle], laidTests := true, laidLooks := .later }
def ClusterFoundCardSaid : Prop := Claim7.holds Tryd.pinned (.plain (OpenSpec.ofChange clusterFoundSpec)) clusterFoundCard

/-- THE SECOND FORM's CARD OF 'dunnagelaw03.ClusterChecks'. -/
def clusterChecksUptoCard : Claim7 := { stood := { row := clusterChecksUptoRow, standIns := [], harness := (true, "5ffc4fef95bb1ba83192c0e588930dd444d85ed6e0ecddcb19b093b7e76cf2d1"), looks := true }, kinds := [], alts := [], laidByText := true, laidKinds := [.handle], laidTests := true, laidLooks := .later }
def ClusterChecksUptoCardSaid : Prop := Claim7.holds Tryd.pinned (.plain (OpenSpec.upto clusterChecksSpec)) clusterChecksUptoCard

/-- THE SECOND FORM's CARD OF 'dunnagelaw03.ClusterFinds'. -/
def clusterFindsUptoCard : Claim7 := { stood := { row := clusterFindsUptoRow, standIns := [], harness := (true, "5ffc4fef95bb1ba83192c0e588930dd444d85ed6e0ecddcb19b093b7e76cf2d1"), looks := true }, kinds := [], alts := [], laidByText := true, laidKinds := [.handle], laidTests := true, laidLooks := .later }
def ClusterFindsUptoCardSaid : Prop := Claim7.holds Tryd.pinned (.plain (OpenSpec.upto clusterFindsSpec)) clusterFindsUptoCard

/-- THE SECOND FORM's CARD OF 'dunnagelaw03.ClusterFewer'. -/
def clusterFewerUptoCard : Claim7 := { stood := { row := clusterFewerUptoRow, standIns := [], harness := (true, "5ffc4fef95bb1ba83192c0e588930dd444d85ed6e0ecddcb19b093b7e76cf2d1"), looks := true }, kinds := [], alts := [], laidByText := true, laidKinds := [.handle], laidTests := true, laidLooks := .later }
def ClusterFewerUptoCardSaid : Prop := Claim7.holds Tryd.pinned (.plain (OpenSpec.upto clusterFewerSpec)) clusterFewerUptoCard

/-- THE SECOND FORM's CARD OF 'dunnagelaw03.ClusterFound'. -/
def clusterFoundUptoCard : Claim7 := { stood := { row := clusterFoundUptoRow, standIns := [], harness := (true, "5ffc4fef95bb1ba83192c0e588930dd444d85ed6e0ecddcb19b093b7e76cf2d1"), looks := true }, kinds := [], alts := [], laidByText := true, laidKinds := [.handle], laidTests := true, laidLooks := .later }
def ClusterFoundUptoCardSaid : Prop := Claim7.holds Tryd.pinned (.plain (OpenSpec.upto clusterFoundSpec)) clusterFoundUptoCard
end Rows
end Go.Proofs.YtaeklohgheildaaDoor
