/- The program's find, at each kind of record: what is common. -/
import Derived.Test.YtaeklohgheildaaDoorDB
namespace Go.Proofs.YtaeklohgheildaaDoor
open Go.RowKit
set_option linter.unusedVariables false

/-- The first one with that Id, true; or a zero one, false. -/
def FindTo {α : Type} (agg : α → Value) (zero : Value) (f : α → Int) (l : List α) (id : Int) (w : World) (e : Ending) (w' : World) : Prop :=
  ((place f id l 0 < 0 ∧ e = .returned (.tuple #[zero, .bool false])) ∨ ∃ (i : Nat) (h : i < l.length), place f id l 0 = i ∧ e = .returned (.tuple #[agg l[i], .bool true])) ∧ Below w.heap.size w w'
def FRel {α : Type} (f : α → Int) (id : Int) (l : List α) (W : World) (B : Nat) (i : Value) (wr : World) : Prop := ∃ k : Nat, k ≤ l.length ∧ i = .int .i64 k ∧ place f id (l.drop k) k = place f id l 0 ∧ Below B W wr
theorem place_found {α : Type} {f : α → Int} {id : Int} {l : List α} {k : Nat} (h : k < l.length) (he : f l[k] = id) (hp : place f id (l.drop k) k = place f id l 0) : place f id l 0 = k := place_here h he hp
end Go.Proofs.YtaeklohgheildaaDoor
