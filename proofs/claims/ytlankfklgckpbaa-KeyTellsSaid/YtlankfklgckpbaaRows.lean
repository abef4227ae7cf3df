/-
  No cell of these rows narrows 'for every input' (looked for: loops, veiled, ifaces, maps, wideKeys, modest, calm, conditions, laid).
  DERIVED. THE GIVEN ROWS OF THIS SEAT. 3 by the template 'for every input the law returns true; each argument reads behind the call as it read before'; 0 by the template 'total and deterministic' (their statements: YtlankfklgckpbaaTotals.lean).
  GIVEN WITH THE SEED: the statements are not yours to turn. If you find one false, say at which input.
  Laid BY PROGRAM, IN A SANDBOX (cutbox-rows.mjs): the forced cells as the released guide's own fill.sh prints them over the translation af2afb738c2fd12d… (all of the seat's roots in one cut). By AI agents, Wed Nov 11 2026. No macro, syntax, notation, axiom, sorry.
-/
import Derived.Test.YtlankfklgckpbaaChecked
import GoSem.Claim
import GoSem.ClaimJoined
import GoSem.ClaimMapViews
import Derived.JoinedTies
import Derived.KernelRfl
namespace Go.Proofs.Ytlankfklgckpbaa
/- THE CELL 'sum', in the pinned program and in every row, IS THE sha256 OF THE DUMP (.gsa) THAT YtlankfklgckpbaaProg.lean LOADS. Nothing in Lean hashes anything: it is a label: what it is worth is what the hold of that sum in a sandbox is worth. -/
noncomputable def Try.pinned : Pinned := { name := "ytlankfklgckpbaa", sum := "af2afb738c2fd12d96c5d4601134615831ddaaa0d3a1f10d95155826571a6864", checked := Try.checked }
namespace Rows
def none {H : Type} : Left H := { results := [], args := [] }

/-- 'dunnagelaw17.KeyTells': WHATEVER THE INPUT: true; the input reads as it did. -/
def keyTellsSpec : ChangeSpec := { name := "keyTells", fn := fun _ => fun
  | [d] => { results := [.lit (.bool true)], args := [d] }
  | _ => none }
def keyTellsRow : OpenClaim := { program := "ytlankfklgckpbaa", sum := "af2afb738c2fd12d96c5d4601134615831ddaaa0d3a1f10d95155826571a6864", func := "dunnage/dunnagelaw17.KeyTells", spec := "keyTells", apart := false }
def KeyTellsSaid : Prop := keyTellsRow.holds Try.pinned (OpenSpec.ofChange keyTellsSpec)

/-- ITS FALSE NEIGHBOUR: 'it returns false'. Refute it at one input. -/
def keyTellsWrong : ChangeSpec := { name := "keyTells", fn := fun _ => fun
  | [d] => { results := [.lit (.bool false)], args := [d] }
  | _ => none }
def KeyTellsWrongFalsely : Prop := keyTellsRow.holds Try.pinned (OpenSpec.ofChange keyTellsWrong)

/-- 'dunnagelaw17.KeyOne': WHATEVER THE INPUT: true; the input reads as it did. -/
def keyOneSpec : ChangeSpec := { name := "keyOne", fn := fun _ => fun
  | [d1, d2] => { results := [.lit (.bool true)], args := [d1, d2] }
  | _ => none }
def keyOneRow : OpenClaim := { program := "ytlankfklgckpbaa", sum := "af2afb738c2fd12d96c5d4601134615831ddaaa0d3a1f10d95155826571a6864", func := "dunnage/dunnagelaw17.KeyOne", spec := "keyOne", apart := false }
def KeyOneSaid : Prop := keyOneRow.holds Try.pinned (OpenSpec.ofChange keyOneSpec)

/-- ITS FALSE NEIGHBOUR: 'it returns false'. Refute it at one input. -/
def keyOneWrong : ChangeSpec := { name := "keyOne", fn := fun _ => fun
  | [d1, d2] => { results := [.lit (.bool false)], args := [d1, d2] }
  | _ => none }
def KeyOneWrongFalsely : Prop := keyOneRow.holds Try.pinned (OpenSpec.ofChange keyOneWrong)

/-- 'dunnagelaw17.KeyLeast': WHATEVER THE INPUT: true; the input reads as it did. -/
def keyLeastSpec : ChangeSpec := { name := "keyLeast", fn := fun _ => fun
  | [d] => { results := [.lit (.bool true)], args := [d] }
  | _ => none }
def keyLeastRow : OpenClaim := { program := "ytlankfklgckpbaa", sum := "af2afb738c2fd12d96c5d4601134615831ddaaa0d3a1f10d95155826571a6864", func := "dunnage/dunnagelaw17.KeyLeast", spec := "keyLeast", apart := false }
def KeyLeastSaid : Prop := keyLeastRow.holds Try.pinned (OpenSpec.ofChange keyLeastSpec)

/-- ITS FALSE NEIGHBOUR: 'it returns false'. Refute it at one input. -/
def keyLeastWrong : ChangeSpec := { name := "keyLeast", fn := fun _ => fun
  | [d] => { results := [.lit (.bool false)], args := [d] }
  | _ => none }
def KeyLeastWrongFalsely : Prop := keyLeastRow.holds Try.pinned (OpenSpec.ofChange keyLeastWrong)

/- THE SECOND FORM. 'bulk': how many values and letters a reading holds, each counted each time it is reached (what is shared counts as often as it is met; a slice's spare places count too). A statement '..UptoSaid' is the law's where the arguments, and the package variables that the reading takes, are together of bulk at most 1048576: NARROWER than '..Said'. Prove '..Said' where nothing that the law and all that it calls make is longer than what came in: it says more and counts as full. Else prove '..UptoSaid'. A law counts once. -/
mutual
def uptoBulk {H : Type} : DataW H → Nat
  | .lit (.string bytes) => bytes.length + 1
  | .lit _ => 1
  | .nil => 1
  | .ptr d => uptoBulk d + 1
  | .slice elems spare => uptoBulkAll elems + uptoBulkAll spare + 1
  | .agg parts => uptoBulkAll parts + 1
  | .iface _ d => uptoBulk d + 1
  | .map entries => uptoBulkEntries entries + 1
  | .held _ => 1
def uptoBulkAll {H : Type} : List (DataW H) → Nat
  | [] => 0
  | d :: r => uptoBulk d + uptoBulkAll r
def uptoBulkEntries {H : Type} : List (Lit × DataW H) → Nat
  | [] => 0
  | x :: r => uptoBulkEntry x + uptoBulkEntries r
def uptoBulkEntry {H : Type} : Lit × DataW H → Nat
  | (.string bytes, d) => bytes.length + uptoBulk d + 1
  | (_, d) => uptoBulk d + 1
 end
def uptoSmall : (H : Type) → List (DataW H) → Bool := fun _ ds => decide (uptoBulkAll ds ≤ 1048576)
def OpenSpec.upto (s : _root_.Go.ChangeSpec) : _root_.Go.OpenSpec := { _root_.Go.OpenSpec.ofChange s with cond := some uptoSmall }

/-- 'dunnagelaw17.KeyTells', WHERE WHAT IT READS IS OF BULK AT MOST 1048576: true; the input reads as it did. -/
def keyTellsUptoRow : OpenClaim := { program := "ytlankfklgckpbaa", sum := "af2afb738c2fd12d96c5d4601134615831ddaaa0d3a1f10d95155826571a6864", func := "dunnage/dunnagelaw17.KeyTells", spec := "keyTells", apart := false, narrowed := true }
def KeyTellsUptoSaid : Prop := keyTellsUptoRow.holds Try.pinned (OpenSpec.upto keyTellsSpec)

/-- 'dunnagelaw17.KeyOne', WHERE WHAT IT READS IS OF BULK AT MOST 1048576: true; the input reads as it did. -/
def keyOneUptoRow : OpenClaim := { program := "ytlankfklgckpbaa", sum := "af2afb738c2fd12d96c5d4601134615831ddaaa0d3a1f10d95155826571a6864", func := "dunnage/dunnagelaw17.KeyOne", spec := "keyOne", apart := false, narrowed := true }
def KeyOneUptoSaid : Prop := keyOneUptoRow.holds Try.pinned (OpenSpec.upto keyOneSpec)

/-- 'dunnagelaw17.KeyLeast', WHERE WHAT IT READS IS OF BULK AT MOST 1048576: true; the input reads as it did. -/
def keyLeastUptoRow : OpenClaim := { program := "ytlankfklgckpbaa", sum := "af2afb738c2fd12d96c5d4601134615831ddaaa0d3a1f10d95155826571a6864", func := "dunnage/dunnagelaw17.KeyLeast", spec := "keyLeast", apart := false, narrowed := true }
def KeyLeastUptoSaid : Prop := keyLeastUptoRow.holds Try.pinned (OpenSpec.upto keyLeastSpec)

end Rows
end Go.Proofs.Ytlankfklgckpbaa
