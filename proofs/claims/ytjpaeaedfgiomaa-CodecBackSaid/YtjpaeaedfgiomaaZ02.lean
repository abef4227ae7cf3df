/- Joined texts, part 2: CD CE CF E K Is Told CG DA DB DC. -/
import Derived.Test.YtjpaeaedfgiomaaZ01
import Derived.LaidEql
import Derived.ChangeKeysEq
import Derived.Deep.QuietTactic
import Derived.BigQuiet
import Derived.Test.YtjpaeaedfgiomaaRows
import Derived.WalkKit
import Derived.LaidEqlPtr
import Derived.Stop.Asserts
import Derived.RowKitTokens
import Derived.WalkSpells
import Derived.WalkLawsBesides
import Derived.Lib.Hide
import Derived.Deep.RegionHeld3
import Derived.IntWalk

/- dunnageref03.Check. -/
namespace Go.Proofs.Ytjpaeaedfgiomaa
set_option linter.unusedSimpArgs false
open Go.RowKit
set_option linter.unusedVariables false

theorem box_cells {w wr : World} {x y z : Value} {t : TypeId} (hb : Below (w.heap.size + 1) (w.alloc (.cells #[x, y, z] t)) wr) :
    wr.cell? ⟨w.heap.size, 0, none⟩ = some x ∧ wr.cell? ⟨w.heap.size, 1, none⟩ = some y ∧ wr.cell? ⟨w.heap.size, 2, none⟩ = some z := by
  refine ⟨?_, ?_, ?_⟩
  all_goals
    rw [hb.cell (by show w.heap.size < w.heap.size + 1; omega)]
    simp

theorem firstBad_at {α : Type} {bad : Int → α → Int} {f : α → Int} {l : List α} {la : Int} {k m : Nat} {F : Option (Int × Nat)} (h : k < l.length) {x : α} (hx : l[k] = x) (hf : firstBad bad f la m (l.drop k) = F) :
    (bad la x ≠ 0 → F = some (bad la x, m)) ∧ (bad la x = 0 → firstBad bad f (f x) (m + 1) (l.drop (k + 1)) = F) := by
  rw [List.drop_eq_getElem_cons h, hx, firstBad] at hf
  constructor
  · intro hb; rw [if_pos hb] at hf; exact hf.symm
  · intro hb; rw [if_neg (by simpa using hb)] at hf; exact hf
theorem firstBad_end {α : Type} {bad : Int → α → Int} {f : α → Int} {l : List α} {la : Int} {k m : Nat} {F : Option (Int × Nat)} (h : l.length ≤ k) (hf : firstBad bad f la m (l.drop k) = F) : F = none := by
  rw [List.drop_of_length_le h, firstBad] at hf
  exact hf.symm
theorem check_large {s : SnapD} (h : large s = true) : check s = (3, -1) := by unfold check; rw [if_pos h]
theorem check_node {s : SnapD} (h : ¬ large s = true) {b : Int} {k : Nat} (hf : firstBad nodeBad NodeD.id 0 0 s.nodes = some (b, k)) : check s = (b, (k : Int)) := by unfold check; rw [if_neg h, hf]
theorem check_load {s : SnapD} (h : ¬ large s = true) (h1 : firstBad nodeBad NodeD.id 0 0 s.nodes = none) {b : Int} {k : Nat} (hf : firstBad loadBad LoadD.id 0 s.nodes.length s.loads = some (b, k)) : check s = (b, (k : Int)) := by unfold check; rw [if_neg h, h1, hf]
theorem check_pod {s : SnapD} (h : ¬ large s = true) (h1 : firstBad nodeBad NodeD.id 0 0 s.nodes = none) (h2 : firstBad loadBad LoadD.id 0 s.nodes.length s.loads = none) {b : Int} {k : Nat} (hf : firstBad (podBad s.nodes s.loads) PodD.id 0 (s.nodes.length + s.loads.length) s.pods = some (b, k)) : check s = (b, (k : Int)) := by
  unfold check; rw [if_neg h, h1, h2, hf]
theorem check_fine {s : SnapD} (h : ¬ large s = true) (h1 : firstBad nodeBad NodeD.id 0 0 s.nodes = none) (h2 : firstBad loadBad LoadD.id 0 s.nodes.length s.loads = none) (hf : firstBad (podBad s.nodes s.loads) PodD.id 0 (s.nodes.length + s.loads.length) s.pods = none) : check s = (0, -1) := by
  unfold check; rw [if_neg h, h1, h2, hf]
theorem ret_pair {a b c d : Int} {p : Int × Int} (h : p = (a, b)) (e1 : c = a) (e2 : d = b) : Ending.returned (.tuple #[.int .i64 c, .int .i64 d]) = .returned (.tuple #[.int .i64 p.1, .int .i64 p.2]) := by rw [h, e1, e2]

def NodesRel (s : SnapD) (W : World) (B : Nat) (last at_ i : Value) (wr : World) : Prop :=
  ∃ (k : Nat) (la : Int), k ≤ s.nodes.length ∧ i = .int .i64 k ∧ at_ = .int .i64 k ∧ last = .int .i64 la ∧ firstBad nodeBad NodeD.id la k (s.nodes.drop k) = firstBad nodeBad NodeD.id 0 0 s.nodes ∧ Below B W wr

def LoadsRel (s : SnapD) (W : World) (B : Nat) (last at_ i : Value) (wr : World) : Prop :=
  ∃ (k m : Nat) (la : Int), k ≤ s.loads.length ∧ m = s.nodes.length + k ∧ i = .int .i64 k ∧ at_ = .int .i64 m ∧ last = .int .i64 la ∧ firstBad loadBad LoadD.id la m (s.loads.drop k) = firstBad loadBad LoadD.id 0 s.nodes.length s.loads ∧ Below B W wr
def PodsRel (s : SnapD) (W : World) (B : Nat) (last at_ i : Value) (wr : World) : Prop :=
  ∃ (k m : Nat) (la : Int), k ≤ s.pods.length ∧ m = s.nodes.length + s.loads.length + k ∧ i = .int .i64 k ∧ at_ = .int .i64 m ∧ last = .int .i64 la ∧ firstBad (podBad s.nodes s.loads) PodD.id la m (s.pods.drop k) = firstBad (podBad s.nodes s.loads) PodD.id 0 (s.nodes.length + s.loads.length) s.pods ∧ Below B W wr

end Go.Proofs.Ytjpaeaedfgiomaa

/- '==' and '!=' on amounts. -/
namespace Go.Proofs.Ytjpaeaedfgiomaa
set_option linter.unusedSimpArgs false
open Go.RowKit
set_option linter.unusedVariables false

theorem num_eqIn (d : Nat) (a b : Int) (w : World) : (Op.equalIn (d + 1) 56 (.int .u64 a) (.int .u64 b)).run Try.prog w = .ok (a == b) w := by
  simp [Op.equalIn, run_underlying Try.underlying56]
theorem part_num (cs : Array Value) (j : Nat) (v : Value) (h : cs[j]? = some v) (w : World) : (part 56 cs j).run Try.prog w = .ok v w := by
  have hf : ∀ w : World, (isAgg 56).run Try.prog w = .ok false w := fun _ => by kernel_rfl
  simp [part, hf, h]
theorem vec_eqlIn (d : Nat) (a0 a1 a2 a3 b0 b1 b2 b3 : Int) (w : World) :
    (Op.equalIn (d + 2) 60 (.agg #[.int .u64 a0, .int .u64 a1, .int .u64 a2, .int .u64 a3]) (.agg #[.int .u64 b0, .int .u64 b1, .int .u64 b2, .int .u64 b3])).run Try.prog w
      = .ok (a0 == b0 && (a1 == b1 && (a2 == b2 && a3 == b3))) w := by
  obtain ⟨i, hi⟩ := Option.isSome_iff_exists.1 (show (Try.prog.info? 56).isSome = true by kernel_rfl)
  rw [run_equalIn_array w (d + 1) _ _ Try.underlying60 hi]
  have hc : Try.prog.cellsOf 56 = 1 := by kernel_rfl
  rw [hc, show List.range 4 = [0, 1, 2, 3] from rfl]
  simp only [Op.eqItems, Sem.run_bind, Nat.mul_one]
  rw [part_num #[.int .u64 a0, .int .u64 a1, .int .u64 a2, .int .u64 a3] 0 (.int .u64 a0) rfl]
  simp only [Result.andThen_ok]
  rw [part_num _ 0 (.int .u64 b0) rfl]
  simp only [Result.andThen_ok, num_eqIn]
  cases h0 : a0 == b0
  · simp
  simp only [Bool.not_true, Bool.false_eq_true, if_false, Sem.run_bind, Bool.true_and]
  rw [part_num _ 1 (.int .u64 a1) rfl]
  simp only [Result.andThen_ok]
  rw [part_num _ 1 (.int .u64 b1) rfl]
  simp only [Result.andThen_ok, num_eqIn]
  cases h1 : a1 == b1
  · simp
  simp only [Bool.not_true, Bool.false_eq_true, if_false, Sem.run_bind, Bool.true_and]
  rw [part_num _ 2 (.int .u64 a2) rfl]
  simp only [Result.andThen_ok]
  rw [part_num _ 2 (.int .u64 b2) rfl]
  simp only [Result.andThen_ok, num_eqIn]
  cases h2 : a2 == b2
  · simp
  simp only [Bool.not_true, Bool.false_eq_true, if_false, Sem.run_bind, Bool.true_and]
  rw [part_num _ 3 (.int .u64 a3) rfl]
  simp only [Result.andThen_ok]
  rw [part_num _ 3 (.int .u64 b3) rfl]
  simp only [Result.andThen_ok, num_eqIn]
  cases h3 : a3 == b3 <;> simp
theorem vec_eql (a0 a1 a2 a3 b0 b1 b2 b3 : Int) (w : World) :
    (binOp .eql 60 (.agg #[.int .u64 a0, .int .u64 a1, .int .u64 a2, .int .u64 a3]) (.agg #[.int .u64 b0, .int .u64 b1, .int .u64 b2, .int .u64 b3])).run Try.prog w
      = .ok (.bool (a0 == b0 && (a1 == b1 && (a2 == b2 && a3 == b3)))) w := by
  simp only [binOp]
  simp [Op.equal, Op.maxDepth, vec_eqlIn 9998]
theorem vec_same (a0 a1 a2 a3 : Int) (w : World) :
    (binOp .eql 60 (.agg #[.int .u64 a0, .int .u64 a1, .int .u64 a2, .int .u64 a3]) (.agg #[.int .u64 a0, .int .u64 a1, .int .u64 a2, .int .u64 a3])).run Try.prog w = .ok (.bool true) w := by
  rw [vec_eql]; simp
theorem vec_neq0 (x : V4) (w : World) :
    (binOp .neq 60 (aggV x) (.agg #[.int .u64 0, .int .u64 0, .int .u64 0, .int .u64 0])).run Try.prog w = .ok (.bool (!x.zero)) w := by
  simp only [binOp]
  have e : x.zero = (x.a == 0 && (x.b == 0 && (x.c == 0 && x.d == 0))) := by
    unfold V4.zero
    rw [Bool.eq_iff_iff]
    simp
  rw [e]
  simp [Op.equal, Op.maxDepth, vec_eqlIn 9998]
end Go.Proofs.Ytjpaeaedfgiomaa

/- dunnageref03.Fair. -/
namespace Go.Proofs.Ytjpaeaedfgiomaa
set_option linter.unusedSimpArgs false
open Go.RowKit
set_option linter.unusedVariables false
set_option linter.unusedSimpArgs false

theorem below_draws {B : Nat} {a w : World} (h : Below B a w) (n : Nat) : Below B a (w.drewN n) := ⟨h.os, h.tape, h.output, h.size, h.block⟩
theorem box2_cells {w wr : World} {x y z x' y' z' : Value} {t t' : TypeId} (hb : Below (w.heap.size + 2) ((w.alloc (.cells #[x, y, z] t)).alloc (.cells #[x', y', z'] t')) wr) :
    (wr.cell? ⟨w.heap.size, 0, none⟩ = some x ∧ wr.cell? ⟨w.heap.size, 1, none⟩ = some y ∧ wr.cell? ⟨w.heap.size, 2, none⟩ = some z) ∧
    (wr.cell? ⟨w.heap.size + 1, 0, none⟩ = some x' ∧ wr.cell? ⟨w.heap.size + 1, 1, none⟩ = some y' ∧ wr.cell? ⟨w.heap.size + 1, 2, none⟩ = some z') := by
  refine ⟨⟨?_, ?_, ?_⟩, ?_, ?_, ?_⟩
  all_goals
    rw [hb.cell (by simp)]
    simp
def FairRel (s : SnapD) (x : SpecD) (W : World) (B : Nat) (i : Value) (wr : World) : Prop :=
  ∃ (k : Nat) (fst : Bool) (la : Int), k ≤ x.wants.length ∧ i = .int .i64 k ∧ (k = 0 → fst = true) ∧ (∀ j (hj : j < x.wants.length), k = j + 1 → fst = false ∧ la = x.wants[j].pod) ∧
    firstWant s fst la k (x.wants.drop k) = firstWant s true 0 0 x.wants ∧ Below B W wr
theorem fairRel_next {s : SnapD} {x : SpecD} {W wr : World} {B k : Nat} {wd : WantD} (hk : k < x.wants.length) (hx : x.wants[k] = wd) (h : firstWant s false wd.pod (k + 1) (x.wants.drop (k + 1)) = firstWant s true 0 0 x.wants) (hb : Below B W wr) : FairRel s x W B (.int .i64 ((k : Int) + 1)) wr := by
  refine ⟨k + 1, false, wd.pod, by omega, by simp, fun h => by omega, fun j hj h => ⟨rfl, ?_⟩, h, hb⟩
  obtain rfl : j = k := by omega
  rw [hx]
theorem firstWant_at {s : SnapD} {l : List WantD} {fst : Bool} {la : Int} {k m : Nat} {F : Option (Int × Nat)} (h : k < l.length) {x : WantD} (hx : l[k] = x) (hf : firstWant s fst la m (l.drop k) = F) :
    (wantBad s fst la x ≠ 0 → F = some (wantBad s fst la x, m)) ∧ (wantBad s fst la x = 0 → firstWant s false x.pod (m + 1) (l.drop (k + 1)) = F) := by
  rw [List.drop_eq_getElem_cons h, hx, firstWant] at hf
  constructor
  · intro hb; rw [if_pos hb] at hf; exact hf.symm
  · intro hb; rw [if_neg (by simpa using hb)] at hf; exact hf
theorem fair_bad {s : SnapD} {x : SpecD} (h : (check s).1 ≠ 0) : fair s x = check s := by unfold fair; rw [if_pos h]
theorem fair_large {s : SnapD} {x : SpecD} (h : (check s).1 = 0) (h1 : x.preempts < 0 ∨ 40 < x.preempts ∨ x.shifts < 0 ∨ 40 < x.shifts) : fair s x = (3, -1) := by unfold fair; rw [if_neg (by simpa using h), if_pos h1]
theorem fair_some {s : SnapD} {x : SpecD} (h : (check s).1 = 0) (h1 : ¬ (x.preempts < 0 ∨ 40 < x.preempts ∨ x.shifts < 0 ∨ 40 < x.shifts)) {b : Int} {k : Nat} (hf : firstWant s true 0 0 x.wants = some (b, k)) : fair s x = (b, (k : Int)) := by
  unfold fair; rw [if_neg (by simpa using h), if_neg h1, hf]
theorem fair_fine {s : SnapD} {x : SpecD} (h : (check s).1 = 0) (h1 : ¬ (x.preempts < 0 ∨ 40 < x.preempts ∨ x.shifts < 0 ∨ 40 < x.shifts)) (hf : firstWant s true 0 0 x.wants = none) : fair s x = (0, -1) := by
  unfold fair; rw [if_neg (by simpa using h), if_neg h1, hf]
theorem ret_pair' {p q : Int × Int} (h : p = q) : Ending.returned (.tuple #[.int .i64 q.1, .int .i64 q.2]) = .returned (.tuple #[.int .i64 p.1, .int .i64 p.2]) := by rw [h]

end Go.Proofs.Ytjpaeaedfgiomaa

/- errors.As and errors.Is at the errors that package wire tells: a nil error, and a *api.Spot. -/
namespace Go.Proofs.Ytjpaeaedfgiomaa
set_option linter.unusedSimpArgs false
open Go.RowKit Go.Extern.Stop Go.Stop Go.Extern
set_option linter.unusedVariables false

/-! ### CLOSED FACTS ON THE MODEL's ENTRIES FOR internal/reflectlite, at this program's types: 51: *api.Spot, 53: **api.Spot, 28: error, 73: reflectlite's rtype; 1: how many package-level variables the dump has -/
theorem Try.kindSpot (w : World) : ((ReflectliteType.abiMethod fun t => (fun a : Nat => Value.int IntKind.u8 (a : Int)) <$> Rtype.kind t) #[.pointer (some ⟨0, 133, none⟩)]).run Try.prog w = .ok (.int .u8 22) w := by kernel_rfl

/-! ### THE ENTRIES THAT READ OR WRITE MEMORY: laws with a premise on the cell (after Derived/Lib/ReflectliteSlice.lean's manner: each unfolding a lemma of its own, by rfl) -/
theorem rlm (z : Sem Value) (f : TypeId → Addr → Nat → Nat → Sem Value) (v : Value) :
    ReflectliteValue.method z f #[v] = (do match ← ReflectliteValue.parts v with | none => z | some (t, a, fl) => f t a fl (fl % 32)) := rfl
theorem Try.valueOfSpot (e : Addr) (w : World) : (ReflectliteValue.unpack (.iface 133 (.pointer (some e)))).run Try.prog w
    = .ok (.agg #[.pointer (some ⟨0, 133, none⟩), .pointer (some ⟨w.heap.size, 0, none⟩), .int .u64 150]) (w.alloc (.cells #[.pointer (some e)] 133)) := by kernel_rfl

theorem Try.mkSpot (p : Addr) (w : World) : (ReflectliteValue.mk 133 p ReflectliteValue.flagAddr).run Try.prog w = .ok (.agg #[.pointer (some ⟨0, 133, none⟩), .pointer (some p), .int .u64 406]) w := by kernel_rfl
theorem Try.partsSpotA (a : Addr) (w : World) : (ReflectliteValue.parts (.agg #[.pointer (some ⟨0, 133, none⟩), .pointer (some a), .int .u64 406])).run Try.prog w = .ok (some (133, a, 406)) w := by kernel_rfl
theorem Try.partsSpot (a : Addr) (w : World) : (ReflectliteValue.parts (.agg #[.pointer (some ⟨0, 133, none⟩), .pointer (some a), .int .u64 150])).run Try.prog w = .ok (some (133, a, 150)) w := by kernel_rfl
theorem Try.directSpot (w : World) : (Rtype.directlyAssignable 133 133).run Try.prog w = .ok true w := by kernel_rfl
theorem Try.sizeSpot (w : World) : (sizeOf 133).run Try.prog w = .ok 1 w := by kernel_rfl
/-- (Value).Set: the *api.Spot variable at 'ta' gets what the Value's own variable 'b' holds. -/
theorem Try.setSpot (ta b e : Addr) (old : Value) (W : World) (hb : W.cell? b = some (.pointer (some e))) (ht : W.cell? ta = some old) (hf : W.frozen? ta = false) :
    (ReflectliteValue.set #[.agg #[.pointer (some ⟨0, 133, none⟩), .pointer (some ta), .int .u64 406], .agg #[.pointer (some ⟨0, 133, none⟩), .pointer (some b), .int .u64 150]]).run Try.prog W
      = .ok (.tuple #[]) (W.setCell ta (.pointer (some e))) := by
  show (bind (ReflectliteValue.parts (.agg #[.pointer (some ⟨0, 133, none⟩), .pointer (some ta), .int .u64 406])) fun p => bind (ReflectliteValue.parts (.agg #[.pointer (some ⟨0, 133, none⟩), .pointer (some b), .int .u64 150])) _ : Sem Value).run Try.prog W = _
  simp only [Sem.run_bind, Try.partsSpotA, Try.partsSpot, Result.andThen]
  simp [ReflectliteValue.flagAddr, loadVar, isAgg, underlying, Try.underlying133, hb, Result.andThen, Try.directSpot, storeVar, Value.cells, storeCells, Addr.add]
  rw [run_store Try.prog W ta _ _ (by rfl)]
  simp [ht, hf]

end Go.Proofs.Ytjpaeaedfgiomaa

/- errors.Is of a *api.Spot and its own Code; dunnagelaw00.Is of such an error. -/
namespace Go.Proofs.Ytjpaeaedfgiomaa
set_option linter.unusedSimpArgs false
open Go.RowKit Go.Extern.Stop Go.Stop Go.Extern
set_option linter.unusedVariables false

theorem Try.compCode : (Try.prog.info? 51).map (·.comparable) = some true := by kernel_rfl
theorem Try.compSpot : (Try.prog.info? 133).map (·.comparable) = some true := by kernel_rfl
theorem Try.sizeOfSpot : (Try.prog.info? 135).map (·.size) = some 2 := by kernel_rfl

theorem eql_codes (a : Int) (w : World) : (binOp .eql 35 (.iface 51 (.int .i64 a)) (.iface 51 (.int .i64 a))).run Try.prog w = .ok (.bool true) w := by
  obtain ⟨i, hi, hcmp⟩ := Option.map_eq_some_iff.1 Try.compCode
  have h : ∀ d : Nat, (Op.equalIn (d + 2) 35 (.iface 51 (.int .i64 a)) (.iface 51 (.int .i64 a))).run Try.prog w = .ok true w := fun d => by
    simp [Op.equalIn, run_underlying Try.underlying35, run_underlying Try.underlying51, typeInfo, hi, hcmp]
  simp only [binOp]
  simp [Op.equal, Op.maxDepth, h 9998]
theorem neq_spots (a : Addr) (w : World) : (binOp .neq 35 (.iface 133 (.pointer (some a))) (.iface 133 (.pointer (some a)))).run Try.prog w = .ok (.bool false) w := by
  obtain ⟨i, hi, hcmp⟩ := Option.map_eq_some_iff.1 Try.compSpot
  obtain ⟨j, hj, _⟩ := Option.map_eq_some_iff.1 Try.sizeOfSpot
  simp only [binOp]
  simp [Op.equal, Op.maxDepth, run_equalIn_iface_ptr_same w 9998 a Try.underlying35 Try.underlying133 hi hcmp hj]

end Go.Proofs.Ytjpaeaedfgiomaa

/- errors.As and dunnagelaw00.Is of a Spot: what they tell, and what stays. -/
namespace Go.Proofs.Ytjpaeaedfgiomaa
set_option linter.unusedSimpArgs false
open Go.RowKit
set_option linter.unusedVariables false

end Go.Proofs.Ytjpaeaedfgiomaa

/- dunnagelaw00.Code and Told, at the errors that a layer tells: none, a Code itself, a Spot. -/
namespace Go.Proofs.Ytjpaeaedfgiomaa
set_option linter.unusedSimpArgs false
open Go.RowKit
set_option linter.unusedVariables false

theorem eql_code (a b : Int) (w : World) : (binOp .eql 35 (.iface 51 (.int .i64 a)) (.iface 51 (.int .i64 b))).run Try.prog w = .ok (.bool (a == b)) w := by
  obtain ⟨i, hi, hcmp⟩ := Option.map_eq_some_iff.1 Try.compCode
  have h : ∀ d : Nat, (Op.equalIn (d + 2) 35 (.iface 51 (.int .i64 a)) (.iface 51 (.int .i64 b))).run Try.prog w = .ok (a == b) w := fun d => by
    simp [Op.equalIn, run_underlying Try.underlying35, run_underlying Try.underlying51, typeInfo, hi, hcmp]
  simp only [binOp]
  simp [Op.equal, Op.maxDepth, h 9998]
def CodeRel (c : Int) (x : Value) : Prop := ∃ k : Int, 1 ≤ k ∧ k ≤ c ∧ x = .int .i64 k
end Go.Proofs.Ytjpaeaedfgiomaa

/- What a call of layer 3 that tells an error comes to; the law ClusterChecks, walked, from what its callees come to. -/
namespace Go.Proofs.Ytjpaeaedfgiomaa
set_option linter.unusedSimpArgs false
open Go.RowKit
set_option linter.unusedVariables false

/-- The error's number and its place (-1: itself) as an error: none, a Code itself, or a Spot of the call's own. -/
def ErrIs (p : Int × Int) (B : Nat) (w' : World) (u : Value) : Prop :=
  (p = (0, -1) ∧ u = .nilIface) ∨ (p.2 = -1 ∧ 1 ≤ p.1 ∧ p.1 ≤ 17 ∧ u = .iface 51 (.int .i64 p.1)) ∨
  ∃ k g : Nat, p.2 = k ∧ u = .iface 133 (.pointer (some ⟨g, 0, none⟩)) ∧ B ≤ g ∧ w'.heap[g]? = some (.cells #[.int .i64 (k : Int), .int .i64 p.1] 135 (0, 0))
def ErrTo (p : Int × Int) (w : World) (e : Ending) (w' : World) : Prop := ∃ u, e = .returned u ∧ ErrIs p w.heap.size w' u ∧ Below w.heap.size w w'
abbrev snapV (A1 A2 A3 : Option Addr) (n1 c1 n2 c2 n3 c3 : Nat) : Value := .agg #[.slice A1 n1 c1, .slice A2 n2 c2, .slice A3 n3 c3]
abbrev specV (A4 : Option Addr) (n4 c4 : Nat) (x : SpecD) : Value := .agg #[.slice A4 n4 c4, .int .i64 x.preempts, .int .i64 x.shifts]
theorem ErrIs.below {p : Int × Int} {B : Nat} {w w' : World} {u : Value} (h : ErrIs p B w u) (hb : Below w.heap.size w w') : ErrIs p B w' u := by
  rcases h with h | h | ⟨k, g, h1, h2, h3, h4⟩
  · exact .inl h
  · exact .inr (.inl h)
  · exact .inr (.inr ⟨k, g, h1, h2, h3, (hb.block g (Array.getElem?_eq_some_iff.1 h4).1).trans h4⟩)

end Go.Proofs.Ytjpaeaedfgiomaa

/- The program's small functions of layer 3: within, isCount, cmp.Compare, cmp.Or, spot, the Ids of records. -/
namespace Go.Proofs.Ytjpaeaedfgiomaa
set_option linter.unusedSimpArgs false
open Go.RowKit
set_option linter.unusedVariables false

def inB (n lo hi : Int) : Bool := decide (lo ≤ n ∧ n ≤ hi)
theorem within_any (n lo hi : Int) (w : World) : Calls Try.prog 62 #[.int .i64 n, .int .i64 lo, .int .i64 hi] w fun e w' => e = .returned (.bool (inB n lo hi)) ∧ w = w' := by
  by_cases h1 : lo ≤ n
  · have hd1 : decide (lo ≤ n) = true := decide_eq_true h1
    by_cases h2 : n ≤ hi
    · have HE := Lib.hid (show inB n lo hi = true by simp [inB, h1, h2])
      have hd : decide (n ≤ hi) = true := decide_eq_true h2
      go_enter Try.func62, Try.ntmps62
      go_wp2
      go_ret
      exact ⟨ret_bool HE.out.symm, rfl⟩
    · have HE := Lib.hid (show inB n lo hi = false by simp [inB]; omega)
      have hd : decide (n ≤ hi) = false := decide_eq_false h2
      go_enter Try.func62, Try.ntmps62
      go_wp2
      go_ret
      exact ⟨ret_bool HE.out.symm, rfl⟩
  · have HE := Lib.hid (show inB n lo hi = false by simp [inB]; omega)
    have hd : decide (lo ≤ n) = false := decide_eq_false h1
    go_enter Try.func62, Try.ntmps62
    go_wp2
    go_ret
    exact ⟨ret_bool HE.out.symm, rfl⟩
theorem isCount_any (n : Int) (w : World) : Calls Try.prog 68 #[.int .i64 n] w fun e w' => e = .returned (.bool (countOk n)) ∧ w = w' := by
  have HE := Lib.hid (show inB n 0 100 = countOk n from rfl)
  go_enter Try.func68, Try.ntmps68
  go_wp2_with fail
  refine (within_any _ _ _ _).mono ?_
  rintro e w' ⟨rfl, rfl⟩
  go_wp2
  go_ret
  exact ⟨ret_bool HE.out, rfl⟩
theorem isNaN_any (n : Int) (w : World) : Calls Try.prog 80 #[.int .i64 n] w fun e w' => e = .returned (.bool false) ∧ w = w' := by
  have hd : (n != n) = false := by simp
  go_enter Try.func80, Try.ntmps80
  go_wp2
  go_ret
  exact ⟨rfl, rfl⟩
def cmpI (a b : Int) : Int := if a < b then -1 else if b < a then 1 else 0
theorem compare_any (a b : Int) (w : World) : Calls Try.prog 79 #[.int .i64 a, .int .i64 b] w fun e w' => e = .returned (.int .i64 (cmpI a b)) ∧ w = w' := by
  by_cases h1 : a < b
  · have HE := Lib.hid (show cmpI a b = -1 by simp [cmpI, h1])
    go_enter Try.func79, Try.ntmps79
    go_wp2_with (go_at_call 80; refine (isNaN_any _ _).mono ?_; rintro e w' ⟨rfl, rfl⟩)
    go_ret
    exact ⟨ret_int HE.out.symm, rfl⟩
  · by_cases h2 : b < a
    · have HE := Lib.hid (show cmpI a b = 1 by simp [cmpI, h1, h2])
      go_enter Try.func79, Try.ntmps79
      go_wp2_with (go_at_call 80; refine (isNaN_any _ _).mono ?_; rintro e w' ⟨rfl, rfl⟩)
      go_ret
      exact ⟨ret_int HE.out.symm, rfl⟩
    · have HE := Lib.hid (show cmpI a b = 0 by simp [cmpI, h1, h2])
      go_enter Try.func79, Try.ntmps79
      go_wp2_with (go_at_call 80; refine (isNaN_any _ _).mono ?_; rintro e w' ⟨rfl, rfl⟩)
      go_ret
      exact ⟨ret_int HE.out.symm, rfl⟩
def orI (a b : Int) : Int := if a = 0 then b else a
theorem or_any (a b : Int) (g : Nat) (w : World) (h0 : w.cell? ⟨g, 0, none⟩ = some (.int .i64 a)) (h1 : w.cell? ⟨g, 1, none⟩ = some (.int .i64 b)) :
    Calls Try.prog 63 #[.slice (some ⟨g, 0, none⟩) 2 2] w fun e w' => e = .returned (.int .i64 (orI a b)) ∧ w = w' := by
  by_cases ha : a = 0
  · subst ha
    by_cases hb : b = 0
    · subst hb
      go_enter Try.func63, Try.ntmps63
      go_wp2
      refine wp_loop_rounds 3 ?_
      rw [rounds_succ]
      go_wp2
      rw [rounds_succ]
      go_wp2
      rw [rounds_succ]
      go_wp2
      go_ret
      exact ⟨rfl, rfl⟩
    · have hm : (b != 0) = true := by simpa using hb
      have HE := Lib.hid (show orI 0 b = b from rfl)
      clear hb
      go_enter Try.func63, Try.ntmps63
      go_wp2
      refine wp_loop_rounds 3 ?_
      rw [rounds_succ]
      go_wp2
      rw [rounds_succ]
      go_wp2
      go_ret
      exact ⟨ret_int HE.out.symm, rfl⟩
  · have hm : (a != 0) = true := by simpa using ha
    have HE := Lib.hid (show orI a b = a by simp [orI, ha])
    clear ha
    go_enter Try.func63, Try.ntmps63
    go_wp2
    refine wp_loop_rounds 3 ?_
    rw [rounds_succ]
    go_wp2
    go_ret
    exact ⟨ret_int HE.out.symm, rfl⟩
theorem spot_any (p c : Int) (w : World) : Calls Try.prog 65 #[.int .i64 p, .int .i64 c] w fun e w' => e = .returned (.iface 133 (.pointer (some ⟨w.heap.size, 0, none⟩))) ∧ w' = w.alloc (.cells #[.int .i64 p, .int .i64 c] 135) := by
  go_enter Try.func65, Try.ntmps65
  go_wp2
  go_ret
  exact ⟨rfl, rfl⟩

abbrev aggN (x : NodeD) : Value := .agg #[.int .i64 x.id, .int .i64 x.zone, .int .u64 x.cap.a, .int .u64 x.cap.b, .int .u64 x.cap.c, .int .u64 x.cap.d, .int .u64 x.held.a, .int .u64 x.held.b, .int .u64 x.held.c, .int .u64 x.held.d]
theorem idN_any (x : NodeD) (w : World) : Calls Try.prog 46 #[aggN x] w fun e w' => e = .returned (.int .i64 x.id) ∧ Below w.heap.size w w' := by
  go_enter Try.func46, Try.ntmps46
  go_wp2
  go_ret
  exact ⟨rfl, (Below.refl _ _).alloc (Nat.le_refl _) _⟩

abbrev aggL (x : LoadD) : Value := .agg #[.int .i64 x.id, .bool x.apart, .int .i64 x.skew, .int .i64 x.min, .int .i64 x.max]
theorem idL_any (x : LoadD) (w : World) : Calls Try.prog 49 #[aggL x] w fun e w' => e = .returned (.int .i64 x.id) ∧ Below w.heap.size w w' := by
  go_enter Try.func49, Try.ntmps49
  go_wp2
  go_ret
  exact ⟨rfl, (Below.refl _ _).alloc (Nat.le_refl _) _⟩

abbrev aggP (x : PodD) : Value := .agg #[.int .i64 x.id, .int .i64 x.load, .int .i64 x.prio, .int .u64 x.req.a, .int .u64 x.req.b, .int .u64 x.req.c, .int .u64 x.req.d, .int .i64 x.node]
theorem idP_any (x : PodD) (w : World) : Calls Try.prog 52 #[aggP x] w fun e w' => e = .returned (.int .i64 x.id) ∧ Below w.heap.size w w' := by
  go_enter Try.func52, Try.ntmps52
  go_wp2
  go_ret
  exact ⟨rfl, (Below.refl _ _).alloc (Nat.le_refl _) _⟩

abbrev aggW (x : WantD) : Value := .agg #[.int .i64 x.pod, .int .u64 x.req.a, .int .u64 x.req.b, .int .u64 x.req.c, .int .u64 x.req.d, .bool x.stay]
theorem fits_below (w : World) (o o' : Obj) (n : Nat) : Below w.heap.size w (((w.alloc o).alloc o').drewN n) := let k := below_two w o o'; ⟨k.os, k.tape, k.output, k.size, k.block⟩
theorem fits_below2 (w : World) (o o' : Obj) (n m : Nat) : Below w.heap.size w ((((w.alloc o).alloc o').drewN n).drewN m) := let k := fits_below w o o' n; ⟨k.os, k.tape, k.output, k.size, k.block⟩
set_option maxHeartbeats 1600000 in
/-- vec.Fits. -/
theorem fits_any (x y : V4) (w : World) : Calls Try.prog 66 #[aggV x, aggV y] w fun e w' => e = .returned (.bool (x.le y)) ∧ Below w.heap.size w w' := by

  by_cases h0 : x.a ≤ y.a
  · have d0 : decide (y.a < x.a) = false := decide_eq_false (by omega)
    by_cases h1 : x.b ≤ y.b
    · have d1 : decide (y.b < x.b) = false := decide_eq_false (by omega)
      by_cases h2 : x.c ≤ y.c
      · have d2 : decide (y.c < x.c) = false := decide_eq_false (by omega)
        by_cases h3 : x.d ≤ y.d
        · have d3 : decide (y.d < x.d) = false := decide_eq_false (by omega)
          have HE := Lib.hid (show x.le y = true by simp [V4.le, h0, h1, h2, h3])
          go_enter Try.func66, Try.ntmps66
          go_wp2
          refine wp_loop_rounds 5 ?_
          rw [rounds_succ]
          go_wp2
          go_quiet (fail)
          go_wp2
          rw [rounds_succ]
          go_wp2
          go_quiet (fail)
          go_wp2
          rw [rounds_succ]
          go_wp2
          go_quiet (fail)
          go_wp2
          rw [rounds_succ]
          go_wp2
          go_quiet (fail)
          go_wp2
          rw [rounds_succ]
          go_wp2
          go_ret
          refine ⟨ret_bool HE.out.symm, ?_⟩
          first | exact fits_below _ _ _ _ | exact fits_below2 _ _ _ _ _
        · have d3 : decide (y.d < x.d) = true := decide_eq_true (by omega)
          have HE := Lib.hid (show x.le y = false by simp [V4.le, h3])
          go_enter Try.func66, Try.ntmps66
          go_wp2
          refine wp_loop_rounds 5 ?_
          rw [rounds_succ]
          go_wp2
          go_quiet (fail)
          go_wp2
          rw [rounds_succ]
          go_wp2
          go_quiet (fail)
          go_wp2
          rw [rounds_succ]
          go_wp2
          go_quiet (fail)
          go_wp2
          rw [rounds_succ]
          go_wp2
          go_quiet (fail)
          go_wp2
          go_ret
          refine ⟨ret_bool HE.out.symm, ?_⟩
          first | exact fits_below _ _ _ _ | exact fits_below2 _ _ _ _ _
      · have d2 : decide (y.c < x.c) = true := decide_eq_true (by omega)
        have HE := Lib.hid (show x.le y = false by simp [V4.le, h2])
        go_enter Try.func66, Try.ntmps66
        go_wp2
        refine wp_loop_rounds 5 ?_
        rw [rounds_succ]
        go_wp2
        go_quiet (fail)
        go_wp2
        rw [rounds_succ]
        go_wp2
        go_quiet (fail)
        go_wp2
        rw [rounds_succ]
        go_wp2
        go_quiet (fail)
        go_wp2
        go_ret
        refine ⟨ret_bool HE.out.symm, ?_⟩
        first | exact fits_below _ _ _ _ | exact fits_below2 _ _ _ _ _
    · have d1 : decide (y.b < x.b) = true := decide_eq_true (by omega)
      have HE := Lib.hid (show x.le y = false by simp [V4.le, h1])
      go_enter Try.func66, Try.ntmps66
      go_wp2
      refine wp_loop_rounds 5 ?_
      rw [rounds_succ]
      go_wp2
      go_quiet (fail)
      go_wp2
      rw [rounds_succ]
      go_wp2
      go_quiet (fail)
      go_wp2
      go_ret
      refine ⟨ret_bool HE.out.symm, ?_⟩
      first | exact fits_below _ _ _ _ | exact fits_below2 _ _ _ _ _
  · have d0 : decide (y.a < x.a) = true := decide_eq_true (by omega)
    have HE := Lib.hid (show x.le y = false by simp [V4.le, h0])
    go_enter Try.func66, Try.ntmps66
    go_wp2
    refine wp_loop_rounds 5 ?_
    rw [rounds_succ]
    go_wp2
    go_quiet (fail)
    go_wp2
    go_ret
    refine ⟨ret_bool HE.out.symm, ?_⟩
    first | exact fits_below _ _ _ _ | exact fits_below2 _ _ _ _ _

end Go.Proofs.Ytjpaeaedfgiomaa

/- The program's orderFault and idFault, at each kind of record. -/
namespace Go.Proofs.Ytjpaeaedfgiomaa
set_option linter.unusedSimpArgs false
open Go.RowKit
set_option linter.unusedVariables false

/-- What a region with loads and calls keeps: all blocks that there were are as they were. -/
def Keeps (W : World) (w' : World) : Prop := (∀ b o, b < W.heap.size → w'.cell? ⟨b, o, none⟩ = W.cell? ⟨b, o, none⟩) ∧ Below W.heap.size W w'
theorem Keeps.of {W v : World} (k : Below W.heap.size W v) : Keeps W v := ⟨fun b o h => k.cell (p := ⟨b, o, none⟩) h, k⟩
theorem Keeps.step {W v v' : World} (h : Keeps W v) (hb : Below v.heap.size v v') : Keeps W v' := Keeps.of (h.2.trans (hb.mono h.2.size))
theorem Keeps.alloc {W v : World} (h : Keeps W v) (o : Obj) : Keeps W (v.alloc o) := Keeps.of (h.2.alloc h.2.size o)

/-- What is amiss with an Id beside the one ahead. -/
def ordI (last n : Int) : Int := if n = last then 5 else if n < last then 1 else 0
def idI (order n : Int) : Int := if order = 0 then (if inB n 1 2147483647 = true then 0 else 1) else order

set_option maxHeartbeats 1600000 in
theorem orderN_first (A : Option Addr) (n c : Nat) (f : Value) (w : World) :
    Calls Try.prog 74 #[.slice A n c, .int .i64 0, f] w fun e w' => e = .returned (.int .i64 0) ∧ w = w' := by
  go_enter Try.func74, Try.ntmps74
  go_wp2
  go_ret
  exact ⟨rfl, rfl⟩
set_option maxHeartbeats 3200000 in
set_option maxRecDepth 100000 in
theorem orderN_next (l : List NodeD) (j : Nat) (A : Option Addr) (n c : Nat) (w : World) (hn : n = l.length) (hl : n ≤ 1000) (hj : j + 1 < l.length) (hr : Recs 10 cellsN w w.heap.size A l) :
    Calls Try.prog 74 #[.slice A n c, .int .i64 ((j : Int) + 1), .func (.func 46) #[] #[]] w fun e w' => e = .returned (.int .i64 (ordI l[j].id l[j + 1].id)) ∧ Below w.heap.size w w' := by
  obtain ⟨b, o, rfl, hb, he⟩ := hr.at hj
  obtain ⟨b', o', h1, _, hf⟩ := hr.at (show j < l.length by omega)
  injection h1 with h1
  injection h1 with h1 h2 _
  subst h1 h2
  generalize l[j + 1] = x at *
  generalize l[j] = y at *
  have e0 : w.cell? ⟨b, o + (j + 1) * 10, none⟩ = some (.int .i64 x.id) := he 0 _ rfl
  have e1 : w.cell? ⟨b, o + (j + 1) * 10 + 1, none⟩ = some (.int .i64 x.zone) := he 1 _ rfl
  have e2 : w.cell? ⟨b, o + (j + 1) * 10 + 2, none⟩ = some (.int .u64 x.cap.a) := he 2 _ rfl
  have e3 : w.cell? ⟨b, o + (j + 1) * 10 + 3, none⟩ = some (.int .u64 x.cap.b) := he 3 _ rfl
  have e4 : w.cell? ⟨b, o + (j + 1) * 10 + 4, none⟩ = some (.int .u64 x.cap.c) := he 4 _ rfl
  have e5 : w.cell? ⟨b, o + (j + 1) * 10 + 5, none⟩ = some (.int .u64 x.cap.d) := he 5 _ rfl
  have e6 : w.cell? ⟨b, o + (j + 1) * 10 + 6, none⟩ = some (.int .u64 x.held.a) := he 6 _ rfl
  have e7 : w.cell? ⟨b, o + (j + 1) * 10 + 7, none⟩ = some (.int .u64 x.held.b) := he 7 _ rfl
  have e8 : w.cell? ⟨b, o + (j + 1) * 10 + 8, none⟩ = some (.int .u64 x.held.c) := he 8 _ rfl
  have e9 : w.cell? ⟨b, o + (j + 1) * 10 + 9, none⟩ = some (.int .u64 x.held.d) := he 9 _ rfl
  have f0 : w.cell? ⟨b, o + j * 10, none⟩ = some (.int .i64 y.id) := hf 0 _ rfl
  have f1 : w.cell? ⟨b, o + j * 10 + 1, none⟩ = some (.int .i64 y.zone) := hf 1 _ rfl
  have f2 : w.cell? ⟨b, o + j * 10 + 2, none⟩ = some (.int .u64 y.cap.a) := hf 2 _ rfl
  have f3 : w.cell? ⟨b, o + j * 10 + 3, none⟩ = some (.int .u64 y.cap.b) := hf 3 _ rfl
  have f4 : w.cell? ⟨b, o + j * 10 + 4, none⟩ = some (.int .u64 y.cap.c) := hf 4 _ rfl
  have f5 : w.cell? ⟨b, o + j * 10 + 5, none⟩ = some (.int .u64 y.cap.d) := hf 5 _ rfl
  have f6 : w.cell? ⟨b, o + j * 10 + 6, none⟩ = some (.int .u64 y.held.a) := hf 6 _ rfl
  have f7 : w.cell? ⟨b, o + j * 10 + 7, none⟩ = some (.int .u64 y.held.b) := hf 7 _ rfl
  have f8 : w.cell? ⟨b, o + j * 10 + 8, none⟩ = some (.int .u64 y.held.c) := hf 8 _ rfl
  have f9 : w.cell? ⟨b, o + j * 10 + 9, none⟩ = some (.int .u64 y.held.d) := hf 9 _ rfl
  have hjn : (j : Int) + 1 < (n : Int) := by omega
  have hj1 : (j : Int) < (n : Int) := by omega
  have hj0 : (0 : Int) ≤ (j : Int) := by omega
  have hj2 : (0 : Int) ≤ (j : Int) + 1 := by omega
  have hjk : (j : Int) + 1 ≤ 1000 := by omega
  have hjz : ((j : Int) + 1 == 0) = false := by rw [beq_eq_false_iff_ne]; omega
  have s1 : IntKind.i64.wrap ((j : Int) + 1 - 1) = (j : Int) := by rw [IntWalk.i64_in _ (by omega)]; omega
  have s2 : IntKind.i64.wrap (j : Int) = (j : Int) := IntWalk.i64_in _ (by omega)
  have s3 : ((j : Int) + 1).toNat = j + 1 := by omega
  clear he hf hn hr hj
  by_cases hlt : x.id < y.id
  · have HE := Lib.hid (show ordI y.id x.id = 1 by unfold ordI; rw [if_neg (by omega), if_pos hlt])
    have HC : cmpI x.id y.id = -1 := by unfold cmpI; rw [if_pos hlt]
    go_enter Try.func74, Try.ntmps74
    go_wp2
    go_region_held3 (fun w' => (∀ b o, b < w.heap.size → w'.cell? ⟨b, o, none⟩ = w.cell? ⟨b, o, none⟩) ∧ Below w.heap.size w w')
      (first | (with_reducible assumption) | exact Keeps.of (Below.drew (Below.refl _ _)) | exact Keeps.step (by assumption) (by assumption))
      (first
        | (go_at_call 46; first
            | ((with_reducible refine (idN_any x _).mono ?_); rintro e w' ⟨rfl, hb⟩)
            | ((with_reducible refine (idN_any y _).mono ?_); rintro e w' ⟨rfl, hb⟩))
        | (go_at_call 79; (with_reducible refine (compare_any _ _ _).mono ?_); rintro e w' ⟨rfl, rfl⟩))
    clear s1 s2 s3
    go_wp2
    go_ret
    exact ⟨ret_int HE.out.symm, (by assumption : Keeps w _).2⟩
  · by_cases heq : x.id = y.id
    · have HE := Lib.hid (show ordI y.id x.id = 5 by unfold ordI; rw [if_pos heq])
      have HC : cmpI x.id y.id = 0 := by unfold cmpI; rw [if_neg hlt, if_neg (by omega)]
      clear heq
      go_enter Try.func74, Try.ntmps74
      go_wp2
      go_region_held3 (fun w' => (∀ b o, b < w.heap.size → w'.cell? ⟨b, o, none⟩ = w.cell? ⟨b, o, none⟩) ∧ Below w.heap.size w w')
        (first | (with_reducible assumption) | exact Keeps.of (Below.drew (Below.refl _ _)) | exact Keeps.step (by assumption) (by assumption))
        (first
          | (go_at_call 46; first
              | ((with_reducible refine (idN_any x _).mono ?_); rintro e w' ⟨rfl, hb⟩)
              | ((with_reducible refine (idN_any y _).mono ?_); rintro e w' ⟨rfl, hb⟩))
          | (go_at_call 79; (with_reducible refine (compare_any _ _ _).mono ?_); rintro e w' ⟨rfl, rfl⟩))
      clear s1 s2 s3
      go_wp2
      go_ret
      exact ⟨ret_int HE.out.symm, (by assumption : Keeps w _).2⟩
    · have HE := Lib.hid (show ordI y.id x.id = 0 by unfold ordI; rw [if_neg heq, if_neg hlt])
      have HC : cmpI x.id y.id = 1 := by unfold cmpI; rw [if_neg hlt, if_pos (by omega)]
      go_enter Try.func74, Try.ntmps74
      go_wp2
      go_region_held3 (fun w' => (∀ b o, b < w.heap.size → w'.cell? ⟨b, o, none⟩ = w.cell? ⟨b, o, none⟩) ∧ Below w.heap.size w w')
        (first | (with_reducible assumption) | exact Keeps.of (Below.drew (Below.refl _ _)) | exact Keeps.step (by assumption) (by assumption))
        (first
          | (go_at_call 46; first
              | ((with_reducible refine (idN_any x _).mono ?_); rintro e w' ⟨rfl, hb⟩)
              | ((with_reducible refine (idN_any y _).mono ?_); rintro e w' ⟨rfl, hb⟩))
          | (go_at_call 79; (with_reducible refine (compare_any _ _ _).mono ?_); rintro e w' ⟨rfl, rfl⟩))
      clear s1 s2 s3
      go_wp2
      go_ret
      exact ⟨ret_int HE.out.symm, (by assumption : Keeps w _).2⟩

set_option maxHeartbeats 1600000 in
theorem orderL_first (A : Option Addr) (n c : Nat) (f : Value) (w : World) :
    Calls Try.prog 75 #[.slice A n c, .int .i64 0, f] w fun e w' => e = .returned (.int .i64 0) ∧ w = w' := by
  go_enter Try.func75, Try.ntmps75
  go_wp2
  go_ret
  exact ⟨rfl, rfl⟩
set_option maxHeartbeats 3200000 in
set_option maxRecDepth 100000 in
theorem orderL_next (l : List LoadD) (j : Nat) (A : Option Addr) (n c : Nat) (w : World) (hn : n = l.length) (hl : n ≤ 1000) (hj : j + 1 < l.length) (hr : Recs 5 cellsL w w.heap.size A l) :
    Calls Try.prog 75 #[.slice A n c, .int .i64 ((j : Int) + 1), .func (.func 49) #[] #[]] w fun e w' => e = .returned (.int .i64 (ordI l[j].id l[j + 1].id)) ∧ Below w.heap.size w w' := by
  obtain ⟨b, o, rfl, hb, he⟩ := hr.at hj
  obtain ⟨b', o', h1, _, hf⟩ := hr.at (show j < l.length by omega)
  injection h1 with h1
  injection h1 with h1 h2 _
  subst h1 h2
  generalize l[j + 1] = x at *
  generalize l[j] = y at *
  have e0 : w.cell? ⟨b, o + (j + 1) * 5, none⟩ = some (.int .i64 x.id) := he 0 _ rfl
  have e1 : w.cell? ⟨b, o + (j + 1) * 5 + 1, none⟩ = some (.bool x.apart) := he 1 _ rfl
  have e2 : w.cell? ⟨b, o + (j + 1) * 5 + 2, none⟩ = some (.int .i64 x.skew) := he 2 _ rfl
  have e3 : w.cell? ⟨b, o + (j + 1) * 5 + 3, none⟩ = some (.int .i64 x.min) := he 3 _ rfl
  have e4 : w.cell? ⟨b, o + (j + 1) * 5 + 4, none⟩ = some (.int .i64 x.max) := he 4 _ rfl
  have f0 : w.cell? ⟨b, o + j * 5, none⟩ = some (.int .i64 y.id) := hf 0 _ rfl
  have f1 : w.cell? ⟨b, o + j * 5 + 1, none⟩ = some (.bool y.apart) := hf 1 _ rfl
  have f2 : w.cell? ⟨b, o + j * 5 + 2, none⟩ = some (.int .i64 y.skew) := hf 2 _ rfl
  have f3 : w.cell? ⟨b, o + j * 5 + 3, none⟩ = some (.int .i64 y.min) := hf 3 _ rfl
  have f4 : w.cell? ⟨b, o + j * 5 + 4, none⟩ = some (.int .i64 y.max) := hf 4 _ rfl
  have hjn : (j : Int) + 1 < (n : Int) := by omega
  have hj1 : (j : Int) < (n : Int) := by omega
  have hj0 : (0 : Int) ≤ (j : Int) := by omega
  have hj2 : (0 : Int) ≤ (j : Int) + 1 := by omega
  have hjk : (j : Int) + 1 ≤ 1000 := by omega
  have hjz : ((j : Int) + 1 == 0) = false := by rw [beq_eq_false_iff_ne]; omega
  have s1 : IntKind.i64.wrap ((j : Int) + 1 - 1) = (j : Int) := by rw [IntWalk.i64_in _ (by omega)]; omega
  have s2 : IntKind.i64.wrap (j : Int) = (j : Int) := IntWalk.i64_in _ (by omega)
  have s3 : ((j : Int) + 1).toNat = j + 1 := by omega
  clear he hf hn hr hj
  by_cases hlt : x.id < y.id
  · have HE := Lib.hid (show ordI y.id x.id = 1 by unfold ordI; rw [if_neg (by omega), if_pos hlt])
    have HC : cmpI x.id y.id = -1 := by unfold cmpI; rw [if_pos hlt]
    go_enter Try.func75, Try.ntmps75
    go_wp2
    go_region_held3 (fun w' => (∀ b o, b < w.heap.size → w'.cell? ⟨b, o, none⟩ = w.cell? ⟨b, o, none⟩) ∧ Below w.heap.size w w')
      (first | (with_reducible assumption) | exact Keeps.of (Below.drew (Below.refl _ _)) | exact Keeps.step (by assumption) (by assumption))
      (first
        | (go_at_call 49; first
            | ((with_reducible refine (idL_any x _).mono ?_); rintro e w' ⟨rfl, hb⟩)
            | ((with_reducible refine (idL_any y _).mono ?_); rintro e w' ⟨rfl, hb⟩))
        | (go_at_call 79; (with_reducible refine (compare_any _ _ _).mono ?_); rintro e w' ⟨rfl, rfl⟩))
    clear s1 s2 s3
    go_wp2
    go_ret
    exact ⟨ret_int HE.out.symm, (by assumption : Keeps w _).2⟩
  · by_cases heq : x.id = y.id
    · have HE := Lib.hid (show ordI y.id x.id = 5 by unfold ordI; rw [if_pos heq])
      have HC : cmpI x.id y.id = 0 := by unfold cmpI; rw [if_neg hlt, if_neg (by omega)]
      clear heq
      go_enter Try.func75, Try.ntmps75
      go_wp2
      go_region_held3 (fun w' => (∀ b o, b < w.heap.size → w'.cell? ⟨b, o, none⟩ = w.cell? ⟨b, o, none⟩) ∧ Below w.heap.size w w')
        (first | (with_reducible assumption) | exact Keeps.of (Below.drew (Below.refl _ _)) | exact Keeps.step (by assumption) (by assumption))
        (first
          | (go_at_call 49; first
              | ((with_reducible refine (idL_any x _).mono ?_); rintro e w' ⟨rfl, hb⟩)
              | ((with_reducible refine (idL_any y _).mono ?_); rintro e w' ⟨rfl, hb⟩))
          | (go_at_call 79; (with_reducible refine (compare_any _ _ _).mono ?_); rintro e w' ⟨rfl, rfl⟩))
      clear s1 s2 s3
      go_wp2
      go_ret
      exact ⟨ret_int HE.out.symm, (by assumption : Keeps w _).2⟩
    · have HE := Lib.hid (show ordI y.id x.id = 0 by unfold ordI; rw [if_neg heq, if_neg hlt])
      have HC : cmpI x.id y.id = 1 := by unfold cmpI; rw [if_neg hlt, if_pos (by omega)]
      go_enter Try.func75, Try.ntmps75
      go_wp2
      go_region_held3 (fun w' => (∀ b o, b < w.heap.size → w'.cell? ⟨b, o, none⟩ = w.cell? ⟨b, o, none⟩) ∧ Below w.heap.size w w')
        (first | (with_reducible assumption) | exact Keeps.of (Below.drew (Below.refl _ _)) | exact Keeps.step (by assumption) (by assumption))
        (first
          | (go_at_call 49; first
              | ((with_reducible refine (idL_any x _).mono ?_); rintro e w' ⟨rfl, hb⟩)
              | ((with_reducible refine (idL_any y _).mono ?_); rintro e w' ⟨rfl, hb⟩))
          | (go_at_call 79; (with_reducible refine (compare_any _ _ _).mono ?_); rintro e w' ⟨rfl, rfl⟩))
      clear s1 s2 s3
      go_wp2
      go_ret
      exact ⟨ret_int HE.out.symm, (by assumption : Keeps w _).2⟩

set_option maxHeartbeats 1600000 in
theorem orderP_first (A : Option Addr) (n c : Nat) (f : Value) (w : World) :
    Calls Try.prog 76 #[.slice A n c, .int .i64 0, f] w fun e w' => e = .returned (.int .i64 0) ∧ w = w' := by
  go_enter Try.func76, Try.ntmps76
  go_wp2
  go_ret
  exact ⟨rfl, rfl⟩
set_option maxHeartbeats 3200000 in
set_option maxRecDepth 100000 in
theorem orderP_next (l : List PodD) (j : Nat) (A : Option Addr) (n c : Nat) (w : World) (hn : n = l.length) (hl : n ≤ 1000) (hj : j + 1 < l.length) (hr : Recs 8 cellsP w w.heap.size A l) :
    Calls Try.prog 76 #[.slice A n c, .int .i64 ((j : Int) + 1), .func (.func 52) #[] #[]] w fun e w' => e = .returned (.int .i64 (ordI l[j].id l[j + 1].id)) ∧ Below w.heap.size w w' := by
  obtain ⟨b, o, rfl, hb, he⟩ := hr.at hj
  obtain ⟨b', o', h1, _, hf⟩ := hr.at (show j < l.length by omega)
  injection h1 with h1
  injection h1 with h1 h2 _
  subst h1 h2
  generalize l[j + 1] = x at *
  generalize l[j] = y at *
  have e0 : w.cell? ⟨b, o + (j + 1) * 8, none⟩ = some (.int .i64 x.id) := he 0 _ rfl
  have e1 : w.cell? ⟨b, o + (j + 1) * 8 + 1, none⟩ = some (.int .i64 x.load) := he 1 _ rfl
  have e2 : w.cell? ⟨b, o + (j + 1) * 8 + 2, none⟩ = some (.int .i64 x.prio) := he 2 _ rfl
  have e3 : w.cell? ⟨b, o + (j + 1) * 8 + 3, none⟩ = some (.int .u64 x.req.a) := he 3 _ rfl
  have e4 : w.cell? ⟨b, o + (j + 1) * 8 + 4, none⟩ = some (.int .u64 x.req.b) := he 4 _ rfl
  have e5 : w.cell? ⟨b, o + (j + 1) * 8 + 5, none⟩ = some (.int .u64 x.req.c) := he 5 _ rfl
  have e6 : w.cell? ⟨b, o + (j + 1) * 8 + 6, none⟩ = some (.int .u64 x.req.d) := he 6 _ rfl
  have e7 : w.cell? ⟨b, o + (j + 1) * 8 + 7, none⟩ = some (.int .i64 x.node) := he 7 _ rfl
  have f0 : w.cell? ⟨b, o + j * 8, none⟩ = some (.int .i64 y.id) := hf 0 _ rfl
  have f1 : w.cell? ⟨b, o + j * 8 + 1, none⟩ = some (.int .i64 y.load) := hf 1 _ rfl
  have f2 : w.cell? ⟨b, o + j * 8 + 2, none⟩ = some (.int .i64 y.prio) := hf 2 _ rfl
  have f3 : w.cell? ⟨b, o + j * 8 + 3, none⟩ = some (.int .u64 y.req.a) := hf 3 _ rfl
  have f4 : w.cell? ⟨b, o + j * 8 + 4, none⟩ = some (.int .u64 y.req.b) := hf 4 _ rfl
  have f5 : w.cell? ⟨b, o + j * 8 + 5, none⟩ = some (.int .u64 y.req.c) := hf 5 _ rfl
  have f6 : w.cell? ⟨b, o + j * 8 + 6, none⟩ = some (.int .u64 y.req.d) := hf 6 _ rfl
  have f7 : w.cell? ⟨b, o + j * 8 + 7, none⟩ = some (.int .i64 y.node) := hf 7 _ rfl
  have hjn : (j : Int) + 1 < (n : Int) := by omega
  have hj1 : (j : Int) < (n : Int) := by omega
  have hj0 : (0 : Int) ≤ (j : Int) := by omega
  have hj2 : (0 : Int) ≤ (j : Int) + 1 := by omega
  have hjk : (j : Int) + 1 ≤ 1000 := by omega
  have hjz : ((j : Int) + 1 == 0) = false := by rw [beq_eq_false_iff_ne]; omega
  have s1 : IntKind.i64.wrap ((j : Int) + 1 - 1) = (j : Int) := by rw [IntWalk.i64_in _ (by omega)]; omega
  have s2 : IntKind.i64.wrap (j : Int) = (j : Int) := IntWalk.i64_in _ (by omega)
  have s3 : ((j : Int) + 1).toNat = j + 1 := by omega
  clear he hf hn hr hj
  by_cases hlt : x.id < y.id
  · have HE := Lib.hid (show ordI y.id x.id = 1 by unfold ordI; rw [if_neg (by omega), if_pos hlt])
    have HC : cmpI x.id y.id = -1 := by unfold cmpI; rw [if_pos hlt]
    go_enter Try.func76, Try.ntmps76
    go_wp2
    go_region_held3 (fun w' => (∀ b o, b < w.heap.size → w'.cell? ⟨b, o, none⟩ = w.cell? ⟨b, o, none⟩) ∧ Below w.heap.size w w')
      (first | (with_reducible assumption) | exact Keeps.of (Below.drew (Below.refl _ _)) | exact Keeps.step (by assumption) (by assumption))
      (first
        | (go_at_call 52; first
            | ((with_reducible refine (idP_any x _).mono ?_); rintro e w' ⟨rfl, hb⟩)
            | ((with_reducible refine (idP_any y _).mono ?_); rintro e w' ⟨rfl, hb⟩))
        | (go_at_call 79; (with_reducible refine (compare_any _ _ _).mono ?_); rintro e w' ⟨rfl, rfl⟩))
    clear s1 s2 s3
    go_wp2
    go_ret
    exact ⟨ret_int HE.out.symm, (by assumption : Keeps w _).2⟩
  · by_cases heq : x.id = y.id
    · have HE := Lib.hid (show ordI y.id x.id = 5 by unfold ordI; rw [if_pos heq])
      have HC : cmpI x.id y.id = 0 := by unfold cmpI; rw [if_neg hlt, if_neg (by omega)]
      clear heq
      go_enter Try.func76, Try.ntmps76
      go_wp2
      go_region_held3 (fun w' => (∀ b o, b < w.heap.size → w'.cell? ⟨b, o, none⟩ = w.cell? ⟨b, o, none⟩) ∧ Below w.heap.size w w')
        (first | (with_reducible assumption) | exact Keeps.of (Below.drew (Below.refl _ _)) | exact Keeps.step (by assumption) (by assumption))
        (first
          | (go_at_call 52; first
              | ((with_reducible refine (idP_any x _).mono ?_); rintro e w' ⟨rfl, hb⟩)
              | ((with_reducible refine (idP_any y _).mono ?_); rintro e w' ⟨rfl, hb⟩))
          | (go_at_call 79; (with_reducible refine (compare_any _ _ _).mono ?_); rintro e w' ⟨rfl, rfl⟩))
      clear s1 s2 s3
      go_wp2
      go_ret
      exact ⟨ret_int HE.out.symm, (by assumption : Keeps w _).2⟩
    · have HE := Lib.hid (show ordI y.id x.id = 0 by unfold ordI; rw [if_neg heq, if_neg hlt])
      have HC : cmpI x.id y.id = 1 := by unfold cmpI; rw [if_neg hlt, if_pos (by omega)]
      go_enter Try.func76, Try.ntmps76
      go_wp2
      go_region_held3 (fun w' => (∀ b o, b < w.heap.size → w'.cell? ⟨b, o, none⟩ = w.cell? ⟨b, o, none⟩) ∧ Below w.heap.size w w')
        (first | (with_reducible assumption) | exact Keeps.of (Below.drew (Below.refl _ _)) | exact Keeps.step (by assumption) (by assumption))
        (first
          | (go_at_call 52; first
              | ((with_reducible refine (idP_any x _).mono ?_); rintro e w' ⟨rfl, hb⟩)
              | ((with_reducible refine (idP_any y _).mono ?_); rintro e w' ⟨rfl, hb⟩))
          | (go_at_call 79; (with_reducible refine (compare_any _ _ _).mono ?_); rintro e w' ⟨rfl, rfl⟩))
      clear s1 s2 s3
      go_wp2
      go_ret
      exact ⟨ret_int HE.out.symm, (by assumption : Keeps w _).2⟩

end Go.Proofs.Ytjpaeaedfgiomaa

namespace Go.Proofs.Ytjpaeaedfgiomaa
set_option linter.unusedSimpArgs false
open Go.RowKit
set_option linter.unusedVariables false

/-- What is amiss with the Id at a place beside the one ahead. -/
def ordAt {α : Type} (f : α → Int) (l : List α) : Nat → Int
  | 0 => 0
  | j + 1 => match l[j]?, l[j + 1]? with
    | some y, some x => ordI (f y) (f x)
    | _, _ => 0
theorem ordAt_next {α : Type} {f : α → Int} {l : List α} {j : Nat} (h : j + 1 < l.length) : ordAt f l (j + 1) = ordI (f l[j]) (f l[j + 1]) := by
  simp [ordAt, List.getElem?_eq_getElem h, List.getElem?_eq_getElem (show j < l.length by omega)]

theorem orderN_any (l : List NodeD) (k : Nat) (A : Option Addr) (n c : Nat) (w : World) (hn : n = l.length) (hl : n ≤ 1000) (hk : k < l.length) (hr : Recs 10 cellsN w w.heap.size A l) :
    Calls Try.prog 74 #[.slice A n c, .int .i64 (k : Int), .func (.func 46) #[] #[]] w fun e w' => e = .returned (.int .i64 (ordAt NodeD.id l k)) ∧ Below w.heap.size w w' := by
  cases k with
  | zero => exact (orderN_first A n c _ w).mono fun e w' ⟨h1, h2⟩ => ⟨h1, h2 ▸ Below.refl _ _⟩
  | succ j =>
    rw [ordAt_next hk]
    exact orderN_next l j A n c w hn hl hk hr

theorem orderL_any (l : List LoadD) (k : Nat) (A : Option Addr) (n c : Nat) (w : World) (hn : n = l.length) (hl : n ≤ 1000) (hk : k < l.length) (hr : Recs 5 cellsL w w.heap.size A l) :
    Calls Try.prog 75 #[.slice A n c, .int .i64 (k : Int), .func (.func 49) #[] #[]] w fun e w' => e = .returned (.int .i64 (ordAt LoadD.id l k)) ∧ Below w.heap.size w w' := by
  cases k with
  | zero => exact (orderL_first A n c _ w).mono fun e w' ⟨h1, h2⟩ => ⟨h1, h2 ▸ Below.refl _ _⟩
  | succ j =>
    rw [ordAt_next hk]
    exact orderL_next l j A n c w hn hl hk hr

theorem orderP_any (l : List PodD) (k : Nat) (A : Option Addr) (n c : Nat) (w : World) (hn : n = l.length) (hl : n ≤ 1000) (hk : k < l.length) (hr : Recs 8 cellsP w w.heap.size A l) :
    Calls Try.prog 76 #[.slice A n c, .int .i64 (k : Int), .func (.func 52) #[] #[]] w fun e w' => e = .returned (.int .i64 (ordAt PodD.id l k)) ∧ Below w.heap.size w w' := by
  cases k with
  | zero => exact (orderP_first A n c _ w).mono fun e w' ⟨h1, h2⟩ => ⟨h1, h2 ▸ Below.refl _ _⟩
  | succ j =>
    rw [ordAt_next hk]
    exact orderP_next l j A n c w hn hl hk hr

set_option maxHeartbeats 1600000 in
theorem idFaultN_any (l : List NodeD) (k : Nat) (A : Option Addr) (n c : Nat) (w : World) (hn : n = l.length) (hl : n ≤ 1000) (hk : k < l.length) (hr : Recs 10 cellsN w w.heap.size A l) :
    Calls Try.prog 64 #[.slice A n c, .int .i64 (k : Int), .func (.func 46) #[] #[]] w fun e w' => e = .returned (.int .i64 (idI (ordAt NodeD.id l k) l[k].id)) ∧ Below w.heap.size w w' := by
  have HO := Lib.hid (orderN_any l k A n c w hn hl hk hr)
  obtain ⟨b, o, rfl, hb, he⟩ := hr.at hk
  have hkn : (k : Int) < (n : Int) := by omega
  have hk0 : (0 : Int) ≤ (k : Int) := by omega
  generalize l[k] = x at *
  generalize ordAt NodeD.id l k = q at *
  have HEE := Lib.hid he
  clear he hn hr hk
  go_enter Try.func64, Try.ntmps64
  go_wp2_with fail
  refine HO.out.mono ?_
  rintro e w1 ⟨rfl, hb1⟩
  by_cases hq : q = 0
  · obtain rfl := hq
    have e0 : w1.cell? ⟨b, o + k * 10, none⟩ = some (.int .i64 x.id) := (hb1.cell (p := ⟨b, o + k * 10, none⟩) hb).trans (HEE.out 0 _ rfl)
    have e1 : w1.cell? ⟨b, o + k * 10 + 1, none⟩ = some (.int .i64 x.zone) := (hb1.cell (p := ⟨b, o + k * 10 + 1, none⟩) hb).trans (HEE.out 1 _ rfl)
    have e2 : w1.cell? ⟨b, o + k * 10 + 2, none⟩ = some (.int .u64 x.cap.a) := (hb1.cell (p := ⟨b, o + k * 10 + 2, none⟩) hb).trans (HEE.out 2 _ rfl)
    have e3 : w1.cell? ⟨b, o + k * 10 + 3, none⟩ = some (.int .u64 x.cap.b) := (hb1.cell (p := ⟨b, o + k * 10 + 3, none⟩) hb).trans (HEE.out 3 _ rfl)
    have e4 : w1.cell? ⟨b, o + k * 10 + 4, none⟩ = some (.int .u64 x.cap.c) := (hb1.cell (p := ⟨b, o + k * 10 + 4, none⟩) hb).trans (HEE.out 4 _ rfl)
    have e5 : w1.cell? ⟨b, o + k * 10 + 5, none⟩ = some (.int .u64 x.cap.d) := (hb1.cell (p := ⟨b, o + k * 10 + 5, none⟩) hb).trans (HEE.out 5 _ rfl)
    have e6 : w1.cell? ⟨b, o + k * 10 + 6, none⟩ = some (.int .u64 x.held.a) := (hb1.cell (p := ⟨b, o + k * 10 + 6, none⟩) hb).trans (HEE.out 6 _ rfl)
    have e7 : w1.cell? ⟨b, o + k * 10 + 7, none⟩ = some (.int .u64 x.held.b) := (hb1.cell (p := ⟨b, o + k * 10 + 7, none⟩) hb).trans (HEE.out 7 _ rfl)
    have e8 : w1.cell? ⟨b, o + k * 10 + 8, none⟩ = some (.int .u64 x.held.c) := (hb1.cell (p := ⟨b, o + k * 10 + 8, none⟩) hb).trans (HEE.out 8 _ rfl)
    have e9 : w1.cell? ⟨b, o + k * 10 + 9, none⟩ = some (.int .u64 x.held.d) := (hb1.cell (p := ⟨b, o + k * 10 + 9, none⟩) hb).trans (HEE.out 9 _ rfl)
    go_wp2_with fail
    refine (idN_any x _).mono ?_
    rintro e w2 ⟨rfl, hb2⟩
    have kk : Below w.heap.size w w2 := hb1.trans (hb2.mono hb1.size)
    go_wp2_with fail
    refine (within_any _ _ _ _).mono ?_
    rintro e w2 ⟨rfl, rfl⟩
    by_cases hi : inB x.id 1 2147483647 = true
    · have HE := Lib.hid (show idI 0 x.id = 0 by simp [idI, hi])
      go_wp2
      go_ret
      exact ⟨ret_int HE.out.symm, kk⟩
    · have hi' : inB x.id 1 2147483647 = false := by simpa using hi
      have HE := Lib.hid (show idI 0 x.id = 1 by simp [idI, hi'])
      clear hi
      go_wp2
      go_ret
      exact ⟨ret_int HE.out.symm, kk⟩
  · have hm : (q != 0) = true := by simpa using hq
    have HE := Lib.hid (show idI q x.id = q by simp [idI, hq])
    clear hq
    go_wp2
    go_ret
    exact ⟨ret_int HE.out.symm, hb1⟩

set_option maxHeartbeats 1600000 in
theorem idFaultL_any (l : List LoadD) (k : Nat) (A : Option Addr) (n c : Nat) (w : World) (hn : n = l.length) (hl : n ≤ 1000) (hk : k < l.length) (hr : Recs 5 cellsL w w.heap.size A l) :
    Calls Try.prog 67 #[.slice A n c, .int .i64 (k : Int), .func (.func 49) #[] #[]] w fun e w' => e = .returned (.int .i64 (idI (ordAt LoadD.id l k) l[k].id)) ∧ Below w.heap.size w w' := by
  have HO := Lib.hid (orderL_any l k A n c w hn hl hk hr)
  obtain ⟨b, o, rfl, hb, he⟩ := hr.at hk
  have hkn : (k : Int) < (n : Int) := by omega
  have hk0 : (0 : Int) ≤ (k : Int) := by omega
  generalize l[k] = x at *
  generalize ordAt LoadD.id l k = q at *
  have HEE := Lib.hid he
  clear he hn hr hk
  go_enter Try.func67, Try.ntmps67
  go_wp2_with fail
  refine HO.out.mono ?_
  rintro e w1 ⟨rfl, hb1⟩
  by_cases hq : q = 0
  · obtain rfl := hq
    have e0 : w1.cell? ⟨b, o + k * 5, none⟩ = some (.int .i64 x.id) := (hb1.cell (p := ⟨b, o + k * 5, none⟩) hb).trans (HEE.out 0 _ rfl)
    have e1 : w1.cell? ⟨b, o + k * 5 + 1, none⟩ = some (.bool x.apart) := (hb1.cell (p := ⟨b, o + k * 5 + 1, none⟩) hb).trans (HEE.out 1 _ rfl)
    have e2 : w1.cell? ⟨b, o + k * 5 + 2, none⟩ = some (.int .i64 x.skew) := (hb1.cell (p := ⟨b, o + k * 5 + 2, none⟩) hb).trans (HEE.out 2 _ rfl)
    have e3 : w1.cell? ⟨b, o + k * 5 + 3, none⟩ = some (.int .i64 x.min) := (hb1.cell (p := ⟨b, o + k * 5 + 3, none⟩) hb).trans (HEE.out 3 _ rfl)
    have e4 : w1.cell? ⟨b, o + k * 5 + 4, none⟩ = some (.int .i64 x.max) := (hb1.cell (p := ⟨b, o + k * 5 + 4, none⟩) hb).trans (HEE.out 4 _ rfl)
    go_wp2_with fail
    refine (idL_any x _).mono ?_
    rintro e w2 ⟨rfl, hb2⟩
    have kk : Below w.heap.size w w2 := hb1.trans (hb2.mono hb1.size)
    go_wp2_with fail
    refine (within_any _ _ _ _).mono ?_
    rintro e w2 ⟨rfl, rfl⟩
    by_cases hi : inB x.id 1 2147483647 = true
    · have HE := Lib.hid (show idI 0 x.id = 0 by simp [idI, hi])
      go_wp2
      go_ret
      exact ⟨ret_int HE.out.symm, kk⟩
    · have hi' : inB x.id 1 2147483647 = false := by simpa using hi
      have HE := Lib.hid (show idI 0 x.id = 1 by simp [idI, hi'])
      clear hi
      go_wp2
      go_ret
      exact ⟨ret_int HE.out.symm, kk⟩
  · have hm : (q != 0) = true := by simpa using hq
    have HE := Lib.hid (show idI q x.id = q by simp [idI, hq])
    clear hq
    go_wp2
    go_ret
    exact ⟨ret_int HE.out.symm, hb1⟩

set_option maxHeartbeats 1600000 in
theorem idFaultP_any (l : List PodD) (k : Nat) (A : Option Addr) (n c : Nat) (w : World) (hn : n = l.length) (hl : n ≤ 1000) (hk : k < l.length) (hr : Recs 8 cellsP w w.heap.size A l) :
    Calls Try.prog 69 #[.slice A n c, .int .i64 (k : Int), .func (.func 52) #[] #[]] w fun e w' => e = .returned (.int .i64 (idI (ordAt PodD.id l k) l[k].id)) ∧ Below w.heap.size w w' := by
  have HO := Lib.hid (orderP_any l k A n c w hn hl hk hr)
  obtain ⟨b, o, rfl, hb, he⟩ := hr.at hk
  have hkn : (k : Int) < (n : Int) := by omega
  have hk0 : (0 : Int) ≤ (k : Int) := by omega
  generalize l[k] = x at *
  generalize ordAt PodD.id l k = q at *
  have HEE := Lib.hid he
  clear he hn hr hk
  go_enter Try.func69, Try.ntmps69
  go_wp2_with fail
  refine HO.out.mono ?_
  rintro e w1 ⟨rfl, hb1⟩
  by_cases hq : q = 0
  · obtain rfl := hq
    have e0 : w1.cell? ⟨b, o + k * 8, none⟩ = some (.int .i64 x.id) := (hb1.cell (p := ⟨b, o + k * 8, none⟩) hb).trans (HEE.out 0 _ rfl)
    have e1 : w1.cell? ⟨b, o + k * 8 + 1, none⟩ = some (.int .i64 x.load) := (hb1.cell (p := ⟨b, o + k * 8 + 1, none⟩) hb).trans (HEE.out 1 _ rfl)
    have e2 : w1.cell? ⟨b, o + k * 8 + 2, none⟩ = some (.int .i64 x.prio) := (hb1.cell (p := ⟨b, o + k * 8 + 2, none⟩) hb).trans (HEE.out 2 _ rfl)
    have e3 : w1.cell? ⟨b, o + k * 8 + 3, none⟩ = some (.int .u64 x.req.a) := (hb1.cell (p := ⟨b, o + k * 8 + 3, none⟩) hb).trans (HEE.out 3 _ rfl)
    have e4 : w1.cell? ⟨b, o + k * 8 + 4, none⟩ = some (.int .u64 x.req.b) := (hb1.cell (p := ⟨b, o + k * 8 + 4, none⟩) hb).trans (HEE.out 4 _ rfl)
    have e5 : w1.cell? ⟨b, o + k * 8 + 5, none⟩ = some (.int .u64 x.req.c) := (hb1.cell (p := ⟨b, o + k * 8 + 5, none⟩) hb).trans (HEE.out 5 _ rfl)
    have e6 : w1.cell? ⟨b, o + k * 8 + 6, none⟩ = some (.int .u64 x.req.d) := (hb1.cell (p := ⟨b, o + k * 8 + 6, none⟩) hb).trans (HEE.out 6 _ rfl)
    have e7 : w1.cell? ⟨b, o + k * 8 + 7, none⟩ = some (.int .i64 x.node) := (hb1.cell (p := ⟨b, o + k * 8 + 7, none⟩) hb).trans (HEE.out 7 _ rfl)
    go_wp2_with fail
    refine (idP_any x _).mono ?_
    rintro e w2 ⟨rfl, hb2⟩
    have kk : Below w.heap.size w w2 := hb1.trans (hb2.mono hb1.size)
    go_wp2_with fail
    refine (within_any _ _ _ _).mono ?_
    rintro e w2 ⟨rfl, rfl⟩
    by_cases hi : inB x.id 1 2147483647 = true
    · have HE := Lib.hid (show idI 0 x.id = 0 by simp [idI, hi])
      go_wp2
      go_ret
      exact ⟨ret_int HE.out.symm, kk⟩
    · have hi' : inB x.id 1 2147483647 = false := by simpa using hi
      have HE := Lib.hid (show idI 0 x.id = 1 by simp [idI, hi'])
      clear hi
      go_wp2
      go_ret
      exact ⟨ret_int HE.out.symm, kk⟩
  · have hm : (q != 0) = true := by simpa using hq
    have HE := Lib.hid (show idI q x.id = q by simp [idI, hq])
    clear hq
    go_wp2
    go_ret
    exact ⟨ret_int HE.out.symm, hb1⟩

end Go.Proofs.Ytjpaeaedfgiomaa
