/-
  DERIVED. GIVEN WITH THE SEED: THE CARDS: each row of YtbhlmbfhmknanaaDoorRows.lean that lists a variable, with what it lists TIED to the program's text (the seventh form; the later family's looks); each row that meets fmt, with fmt's text TOLD by the authors' own Lean function (tested against real Go, not proved from fmt's source: count such statements apart). THE CARD IS WHAT COUNTS. Prove the row's statement (the work); the ties are given (YtbhlmbfhmknanaaDoorTie.lean); close each card by the builder's one call (the guide's Derived/Test/ToyasCard.lean, 'card_holds'). Laid BY PROGRAM, IN A SANDBOX (cutbox-door.mjs). By AI agents, Wed Nov 11 2026. No macro, syntax, notation, axiom, sorry.
-/
import Derived.Test.YtbhlmbfhmknanaaDoorRows
import GoSem.ClaimSeven
namespace Go.Proofs.YtbhlmbfhmknanaaDoor
namespace Rows

/-- THE TIED CARD OF 'dunnagelaw11.SafeFirst'. -/
def safeFirstCard : Claim7 := { stood := { row := safeFirstRow, standIns := [], harness := (true, "826d7ec7b26e9d63508b9a1b6734daba155b8253bb3111857c1a00cd218b8e48"), looks := true }, kinds := [], alts := [], laidByText := true, laidKinds := [.handle], laidTests := true, laidLooks := .later }
def SafeFirstCardSaid : Prop := Claim7.holds Tryd.pinned (.plain (OpenSpec.ofChange safeFirstSpec)) safeFirstCard

/-- THE TIED CARD OF 'dunnagelaw11.SafeMore'. -/
def safeMoreCard : Claim7 := { stood := { row := safeMoreRow, standIns := [], harness := (true, "826d7ec7b26e9d63508b9a1b6734daba155b8253bb3111857c1a00cd218b8e48"), looks := true }, kinds := [], alts := [], laidByText := true, laidKinds := [.handle], laidTests := true, laidLooks := .later }
def SafeMoreCardSaid : Prop := Claim7.holds Tryd.pinned (.plain (OpenSpec.ofChange safeMoreSpec)) safeMoreCard

/-- THE SECOND FORM's CARD OF 'dunnagelaw11.SafeFirst'. -/
def safeFirstUptoCard : Claim7 := { stood := { row := safeFirstUptoRow, standIns := [], harness := (true, "826d7ec7b26e9d63508b9a1b6734daba155b8253bb3111857c1a00cd218b8e48"), looks := true }, kinds := [], alts := [], laidByText := true, laidKinds := [.handle], laidTests := true, laidLooks := .later }
def SafeFirstUptoCardSaid : Prop := Claim7.holds Tryd.pinned (.plain (OpenSpec.upto safeFirstSpec)) safeFirstUptoCard

/-- THE SECOND FORM's CARD OF 'dunnagelaw11.SafeMore'. -/
def safeMoreUptoCard : Claim7 := { stood := { row := safeMoreUptoRow, standIns := [], harness := (true, "826d7ec7b26e9d63508b9a1b6734daba155b8253bb3111857c1a00cd218b8e48"), looks := true }, kinds := [], alts := [], laidByText := true, laidKinds := [.handle], laidTests := true, laidLooks := .later }
def SafeMoreUptoCardSaid : Prop := Claim7.holds Tryd.pinned (.plain (OpenSpec.upto safeMoreSpec)) safeMoreUptoCard
end Rows
end Go.Proofs.YtbhlmbfhmknanaaDoor
