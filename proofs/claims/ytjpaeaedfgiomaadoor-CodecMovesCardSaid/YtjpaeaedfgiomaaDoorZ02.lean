/- Joined texts, part 2: CD CE CF E K Is Told CG DA. -/
import Derived.Test.YtjpaeaedfgiomaaDoorZ01
import Derived.LaidEql
import Derived.ChangeKeysEq
import Derived.Deep.QuietTactic
import Derived.BigQuiet
import Derived.Test.YtjpaeaedfgiomaaDoorRows
import Derived.WalkKit
import Derived.LaidEqlPtr
import Derived.Stop.Asserts
import Derived.RowKitTokens
import Derived.WalkSpells
import Derived.WalkLawsBesides
import Derived.Lib.Hide
import Derived.Deep.RegionHeld3

/- dunnageref03.Check. -/
namespace Go.Proofs.YtjpaeaedfgiomaaDoor
set_option linter.unusedSimpArgs false
open Go.RowKit
set_option linter.unusedVariables false

theorem box_cells {w wr : World} {x y z : Value} {t : TypeId} (hb : Below (w.heap.size + 1) (w.alloc (.cells #[x, y, z] t)) wr) :
    wr.cell? ⟨w.heap.size, 0, none⟩ = some x ∧ wr.cell? ⟨w.heap.size, 1, none⟩ = some y ∧ wr.cell? ⟨w.heap.size, 2, none⟩ = some z := by
  refine ⟨?_, ?_, ?_⟩
  all_goals
    rw [hb.cell (by show w.heap.size < w.heap.size + 1; omega)]
    simp

theorem firstBad_at {α : Type} {bad : Int → α → Int} {f : α → Int} {l : List α} {la : Int} {k m : Nat} {F : Option (Int × Nat)} (h : k < l.length) {x : α} (hx : l[k] = x) (hf : firstBad bad f la m (l.drop k) = F) :
    (bad la x ≠ 0 → F = some (bad la x, m)) ∧ (bad la x = 0 → firstBad bad f (f x) (m + 1) (l.drop (k + 1)) = F) := by
  rw [List.drop_eq_getElem_cons h, hx, firstBad] at hf
  constructor
  · intro hb; rw [if_pos hb] at hf; exact hf.symm
  · intro hb; rw [if_neg (by simpa using hb)] at hf; exact hf
theorem firstBad_end {α : Type} {bad : Int → α → Int} {f : α → Int} {l : List α} {la : Int} {k m : Nat} {F : Option (Int × Nat)} (h : l.length ≤ k) (hf : firstBad bad f la m (l.drop k) = F) : F = none := by
  rw [List.drop_of_length_le h, firstBad] at hf
  exact hf.symm
theorem check_large {s : SnapD} (h : large s = true) : check s = (3, -1) := by unfold check; rw [if_pos h]
theorem check_node {s : SnapD} (h : ¬ large s = true) {b : Int} {k : Nat} (hf : firstBad nodeBad NodeD.id 0 0 s.nodes = some (b, k)) : check s = (b, (k : Int)) := by unfold check; rw [if_neg h, hf]
theorem check_load {s : SnapD} (h : ¬ large s = true) (h1 : firstBad nodeBad NodeD.id 0 0 s.nodes = none) {b : Int} {k : Nat} (hf : firstBad loadBad LoadD.id 0 s.nodes.length s.loads = some (b, k)) : check s = (b, (k : Int)) := by unfold check; rw [if_neg h, h1, hf]
theorem check_pod {s : SnapD} (h : ¬ large s = true) (h1 : firstBad nodeBad NodeD.id 0 0 s.nodes = none) (h2 : firstBad loadBad LoadD.id 0 s.nodes.length s.loads = none) {b : Int} {k : Nat} (hf : firstBad (podBad s.nodes s.loads) PodD.id 0 (s.nodes.length + s.loads.length) s.pods = some (b, k)) : check s = (b, (k : Int)) := by
  unfold check; rw [if_neg h, h1, h2, hf]
theorem check_fine {s : SnapD} (h : ¬ large s = true) (h1 : firstBad nodeBad NodeD.id 0 0 s.nodes = none) (h2 : firstBad loadBad LoadD.id 0 s.nodes.length s.loads = none) (hf : firstBad (podBad s.nodes s.loads) PodD.id 0 (s.nodes.length + s.loads.length) s.pods = none) : check s = (0, -1) := by
  unfold check; rw [if_neg h, h1, h2, hf]
theorem ret_pair {a b c d : Int} {p : Int × Int} (h : p = (a, b)) (e1 : c = a) (e2 : d = b) : Ending.returned (.tuple #[.int .i64 c, .int .i64 d]) = .returned (.tuple #[.int .i64 p.1, .int .i64 p.2]) := by rw [h, e1, e2]

def NodesRel (s : SnapD) (W : World) (B : Nat) (last at_ i : Value) (wr : World) : Prop :=
  ∃ (k : Nat) (la : Int), k ≤ s.nodes.length ∧ i = .int .i64 k ∧ at_ = .int .i64 k ∧ last = .int .i64 la ∧ firstBad nodeBad NodeD.id la k (s.nodes.drop k) = firstBad nodeBad NodeD.id 0 0 s.nodes ∧ Below B W wr

def LoadsRel (s : SnapD) (W : World) (B : Nat) (last at_ i : Value) (wr : World) : Prop :=
  ∃ (k m : Nat) (la : Int), k ≤ s.loads.length ∧ m = s.nodes.length + k ∧ i = .int .i64 k ∧ at_ = .int .i64 m ∧ last = .int .i64 la ∧ firstBad loadBad LoadD.id la m (s.loads.drop k) = firstBad loadBad LoadD.id 0 s.nodes.length s.loads ∧ Below B W wr
def PodsRel (s : SnapD) (W : World) (B : Nat) (last at_ i : Value) (wr : World) : Prop :=
  ∃ (k m : Nat) (la : Int), k ≤ s.pods.length ∧ m = s.nodes.length + s.loads.length + k ∧ i = .int .i64 k ∧ at_ = .int .i64 m ∧ last = .int .i64 la ∧ firstBad (podBad s.nodes s.loads) PodD.id la m (s.pods.drop k) = firstBad (podBad s.nodes s.loads) PodD.id 0 (s.nodes.length + s.loads.length) s.pods ∧ Below B W wr

end Go.Proofs.YtjpaeaedfgiomaaDoor

/- '==' and '!=' on amounts. -/
namespace Go.Proofs.YtjpaeaedfgiomaaDoor
set_option linter.unusedSimpArgs false
open Go.RowKit
set_option linter.unusedVariables false

theorem num_eqIn (d : Nat) (a b : Int) (w : World) : (Op.equalIn (d + 1) 52 (.int .u64 a) (.int .u64 b)).run Tryd.prog w = .ok (a == b) w := by
  simp [Op.equalIn, run_underlying Tryd.underlying52]
theorem part_num (cs : Array Value) (j : Nat) (v : Value) (h : cs[j]? = some v) (w : World) : (part 52 cs j).run Tryd.prog w = .ok v w := by
  have hf : ∀ w : World, (isAgg 52).run Tryd.prog w = .ok false w := fun _ => by kernel_rfl
  simp [part, hf, h]
theorem vec_eqlIn (d : Nat) (a0 a1 a2 a3 b0 b1 b2 b3 : Int) (w : World) :
    (Op.equalIn (d + 2) 72 (.agg #[.int .u64 a0, .int .u64 a1, .int .u64 a2, .int .u64 a3]) (.agg #[.int .u64 b0, .int .u64 b1, .int .u64 b2, .int .u64 b3])).run Tryd.prog w
      = .ok (a0 == b0 && (a1 == b1 && (a2 == b2 && a3 == b3))) w := by
  obtain ⟨i, hi⟩ := Option.isSome_iff_exists.1 (show (Tryd.prog.info? 52).isSome = true by kernel_rfl)
  rw [run_equalIn_array w (d + 1) _ _ Tryd.underlying72 hi]
  have hc : Tryd.prog.cellsOf 52 = 1 := by kernel_rfl
  rw [hc, show List.range 4 = [0, 1, 2, 3] from rfl]
  simp only [Op.eqItems, Sem.run_bind, Nat.mul_one]
  rw [part_num #[.int .u64 a0, .int .u64 a1, .int .u64 a2, .int .u64 a3] 0 (.int .u64 a0) rfl]
  simp only [Result.andThen_ok]
  rw [part_num _ 0 (.int .u64 b0) rfl]
  simp only [Result.andThen_ok, num_eqIn]
  cases h0 : a0 == b0
  · simp
  simp only [Bool.not_true, Bool.false_eq_true, if_false, Sem.run_bind, Bool.true_and]
  rw [part_num _ 1 (.int .u64 a1) rfl]
  simp only [Result.andThen_ok]
  rw [part_num _ 1 (.int .u64 b1) rfl]
  simp only [Result.andThen_ok, num_eqIn]
  cases h1 : a1 == b1
  · simp
  simp only [Bool.not_true, Bool.false_eq_true, if_false, Sem.run_bind, Bool.true_and]
  rw [part_num _ 2 (.int .u64 a2) rfl]
  simp only [Result.andThen_ok]
  rw [part_num _ 2 (.int .u64 b2) rfl]
  simp only [Result.andThen_ok, num_eqIn]
  cases h2 : a2 == b2
  · simp
  simp only [Bool.not_true, Bool.false_eq_true, if_false, Sem.run_bind, Bool.true_and]
  rw [part_num _ 3 (.int .u64 a3) rfl]
  simp only [Result.andThen_ok]
  rw [part_num _ 3 (.int .u64 b3) rfl]
  simp only [Result.andThen_ok, num_eqIn]
  cases h3 : a3 == b3 <;> simp
theorem vec_eql (a0 a1 a2 a3 b0 b1 b2 b3 : Int) (w : World) :
    (binOp .eql 72 (.agg #[.int .u64 a0, .int .u64 a1, .int .u64 a2, .int .u64 a3]) (.agg #[.int .u64 b0, .int .u64 b1, .int .u64 b2, .int .u64 b3])).run Tryd.prog w
      = .ok (.bool (a0 == b0 && (a1 == b1 && (a2 == b2 && a3 == b3)))) w := by
  simp only [binOp]
  simp [Op.equal, Op.maxDepth, vec_eqlIn 9998]
theorem vec_same (a0 a1 a2 a3 : Int) (w : World) :
    (binOp .eql 72 (.agg #[.int .u64 a0, .int .u64 a1, .int .u64 a2, .int .u64 a3]) (.agg #[.int .u64 a0, .int .u64 a1, .int .u64 a2, .int .u64 a3])).run Tryd.prog w = .ok (.bool true) w := by
  rw [vec_eql]; simp
theorem vec_neq0 (x : V4) (w : World) :
    (binOp .neq 72 (aggV x) (.agg #[.int .u64 0, .int .u64 0, .int .u64 0, .int .u64 0])).run Tryd.prog w = .ok (.bool (!x.zero)) w := by
  simp only [binOp]
  have e : x.zero = (x.a == 0 && (x.b == 0 && (x.c == 0 && x.d == 0))) := by
    unfold V4.zero
    rw [Bool.eq_iff_iff]
    simp
  rw [e]
  simp [Op.equal, Op.maxDepth, vec_eqlIn 9998]
end Go.Proofs.YtjpaeaedfgiomaaDoor

/- dunnageref03.Fair. -/
namespace Go.Proofs.YtjpaeaedfgiomaaDoor
set_option linter.unusedSimpArgs false
open Go.RowKit
set_option linter.unusedVariables false
set_option linter.unusedSimpArgs false

theorem below_draws {B : Nat} {a w : World} (h : Below B a w) (n : Nat) : Below B a (w.drewN n) := ⟨h.os, h.tape, h.output, h.size, h.block⟩
theorem box2_cells {w wr : World} {x y z x' y' z' : Value} {t t' : TypeId} (hb : Below (w.heap.size + 2) ((w.alloc (.cells #[x, y, z] t)).alloc (.cells #[x', y', z'] t')) wr) :
    (wr.cell? ⟨w.heap.size, 0, none⟩ = some x ∧ wr.cell? ⟨w.heap.size, 1, none⟩ = some y ∧ wr.cell? ⟨w.heap.size, 2, none⟩ = some z) ∧
    (wr.cell? ⟨w.heap.size + 1, 0, none⟩ = some x' ∧ wr.cell? ⟨w.heap.size + 1, 1, none⟩ = some y' ∧ wr.cell? ⟨w.heap.size + 1, 2, none⟩ = some z') := by
  refine ⟨⟨?_, ?_, ?_⟩, ?_, ?_, ?_⟩
  all_goals
    rw [hb.cell (by simp)]
    simp
def FairRel (s : SnapD) (x : SpecD) (W : World) (B : Nat) (i : Value) (wr : World) : Prop :=
  ∃ (k : Nat) (fst : Bool) (la : Int), k ≤ x.wants.length ∧ i = .int .i64 k ∧ (k = 0 → fst = true) ∧ (∀ j (hj : j < x.wants.length), k = j + 1 → fst = false ∧ la = x.wants[j].pod) ∧
    firstWant s fst la k (x.wants.drop k) = firstWant s true 0 0 x.wants ∧ Below B W wr
theorem fairRel_next {s : SnapD} {x : SpecD} {W wr : World} {B k : Nat} {wd : WantD} (hk : k < x.wants.length) (hx : x.wants[k] = wd) (h : firstWant s false wd.pod (k + 1) (x.wants.drop (k + 1)) = firstWant s true 0 0 x.wants) (hb : Below B W wr) : FairRel s x W B (.int .i64 ((k : Int) + 1)) wr := by
  refine ⟨k + 1, false, wd.pod, by omega, by simp, fun h => by omega, fun j hj h => ⟨rfl, ?_⟩, h, hb⟩
  obtain rfl : j = k := by omega
  rw [hx]
theorem firstWant_at {s : SnapD} {l : List WantD} {fst : Bool} {la : Int} {k m : Nat} {F : Option (Int × Nat)} (h : k < l.length) {x : WantD} (hx : l[k] = x) (hf : firstWant s fst la m (l.drop k) = F) :
    (wantBad s fst la x ≠ 0 → F = some (wantBad s fst la x, m)) ∧ (wantBad s fst la x = 0 → firstWant s false x.pod (m + 1) (l.drop (k + 1)) = F) := by
  rw [List.drop_eq_getElem_cons h, hx, firstWant] at hf
  constructor
  · intro hb; rw [if_pos hb] at hf; exact hf.symm
  · intro hb; rw [if_neg (by simpa using hb)] at hf; exact hf
theorem fair_bad {s : SnapD} {x : SpecD} (h : (check s).1 ≠ 0) : fair s x = check s := by unfold fair; rw [if_pos h]
theorem fair_large {s : SnapD} {x : SpecD} (h : (check s).1 = 0) (h1 : x.preempts < 0 ∨ 40 < x.preempts ∨ x.shifts < 0 ∨ 40 < x.shifts) : fair s x = (3, -1) := by unfold fair; rw [if_neg (by simpa using h), if_pos h1]
theorem fair_some {s : SnapD} {x : SpecD} (h : (check s).1 = 0) (h1 : ¬ (x.preempts < 0 ∨ 40 < x.preempts ∨ x.shifts < 0 ∨ 40 < x.shifts)) {b : Int} {k : Nat} (hf : firstWant s true 0 0 x.wants = some (b, k)) : fair s x = (b, (k : Int)) := by
  unfold fair; rw [if_neg (by simpa using h), if_neg h1, hf]
theorem fair_fine {s : SnapD} {x : SpecD} (h : (check s).1 = 0) (h1 : ¬ (x.preempts < 0 ∨ 40 < x.preempts ∨ x.shifts < 0 ∨ 40 < x.shifts)) (hf : firstWant s true 0 0 x.wants = none) : fair s x = (0, -1) := by
  unfold fair; rw [if_neg (by simpa using h), if_neg h1, hf]
theorem ret_pair' {p q : Int × Int} (h : p = q) : Ending.returned (.tuple #[.int .i64 q.1, .int .i64 q.2]) = .returned (.tuple #[.int .i64 p.1, .int .i64 p.2]) := by rw [h]

end Go.Proofs.YtjpaeaedfgiomaaDoor

/- errors.As and errors.Is at the errors that package wire tells: a nil error, and a *api.Spot. -/
namespace Go.Proofs.YtjpaeaedfgiomaaDoor
set_option linter.unusedSimpArgs false
open Go.RowKit Go.Extern.Stop Go.Stop Go.Extern
set_option linter.unusedVariables false

/-- errors.As(nil, target). -/
theorem as_nil (t : Value) (w : World) :
    Calls Tryd.prog 42 #[.nilIface, t] w fun e w' => e = .returned (.bool false) ∧ w' = w := by
  go_enter Tryd.func42, Tryd.ntmps42
  go_wp2
  go_ret
  exact ⟨rfl, rfl⟩

/-! ### CLOSED FACTS ON THE MODEL's ENTRIES FOR internal/reflectlite, at this program's types: 51: *api.Spot, 53: **api.Spot, 28: error, 73: reflectlite's rtype; 1: how many package-level variables the dump has -/
theorem Tryd.valueOfPSpot (t : Addr) (w : World) : (ReflectliteValue.unpack (.iface 98 (.pointer (some t)))).run Tryd.prog w
    = .ok (.agg #[.pointer (some ⟨1, 98, none⟩), .pointer (some ⟨w.heap.size, 0, none⟩), .int .u64 150]) (w.alloc (.cells #[.pointer (some t)] 98)) := by kernel_rfl
theorem Tryd.typePSpot (a : Addr) (w : World) : (ReflectliteValue.methodAny (ReflectliteValue.valueError "reflectlite.Value.Type" 0) (fun t _ _ _ => ReflectliteType.toType t) #[.agg #[.pointer (some ⟨1, 98, none⟩), .pointer (some a), .int .u64 150]]).run Tryd.prog w
    = .ok (.iface 143 (.agg #[.pointer (some ⟨1, 98, none⟩)])) w := by kernel_rfl
theorem Tryd.methodKind (h : Value) (w : World) : (Go.method 291 143 (.agg #[h]) "Kind").run Tryd.prog w = .ok (98, h) w := by kernel_rfl
theorem Tryd.kindPSpot (w : World) : ((ReflectliteType.abiMethod fun t => (fun a : Nat => Value.int IntKind.u8 (a : Int)) <$> Rtype.kind t) #[.pointer (some ⟨1, 98, none⟩)]).run Tryd.prog w = .ok (.int .u8 22) w := by kernel_rfl
theorem Tryd.kindSpot (w : World) : ((ReflectliteType.abiMethod fun t => (fun a : Nat => Value.int IntKind.u8 (a : Int)) <$> Rtype.kind t) #[.pointer (some ⟨1, 96, none⟩)]).run Tryd.prog w = .ok (.int .u8 22) w := by kernel_rfl

/-! ### THE ENTRIES THAT READ OR WRITE MEMORY: laws with a premise on the cell (after Derived/Lib/ReflectliteSlice.lean's manner: each unfolding a lemma of its own, by rfl) -/
theorem rlm (z : Sem Value) (f : TypeId → Addr → Nat → Nat → Sem Value) (v : Value) :
    ReflectliteValue.method z f #[v] = (do match ← ReflectliteValue.parts v with | none => z | some (t, a, fl) => f t a fl (fl % 32)) := rfl
theorem Tryd.partsPSpot (a : Addr) (w : World) : (ReflectliteValue.parts (.agg #[.pointer (some ⟨1, 98, none⟩), .pointer (some a), .int .u64 150])).run Tryd.prog w = .ok (some (98, a, 150)) w := by kernel_rfl
/-- (Value).IsNil at the Value of a **api.Spot that is not nil. -/
theorem Tryd.isNilPSpot (a p : Addr) (W : World) (ha : W.cell? a = some (.pointer (some p))) :
    (ReflectliteValue.method (ReflectliteValue.valueError "reflectlite.Value.IsNil" 0) ReflectliteValue.isNil #[.agg #[.pointer (some ⟨1, 98, none⟩), .pointer (some a), .int .u64 150]]).run Tryd.prog W = .ok (.bool false) W := by
  rw [rlm]
  simp only [Sem.run_bind, Tryd.partsPSpot, Result.andThen]
  simp [ReflectliteValue.isNil, loadVar, isAgg, underlying, Tryd.underlying98, ha, Result.andThen]

theorem Tryd.methodElem (h : Value) (w : World) : (Go.method 291 143 (.agg #[h]) "Elem").run Tryd.prog w = .ok (110, .agg #[h]) w := by kernel_rfl
theorem Tryd.methodImplements (h : Value) (w : World) : (Go.method 291 143 (.agg #[h]) "Implements").run Tryd.prog w = .ok (111, .agg #[h]) w := by kernel_rfl
theorem Tryd.methodAssignableTo (h : Value) (w : World) : (Go.method 291 143 (.agg #[h]) "AssignableTo").run Tryd.prog w = .ok (108, .agg #[h]) w := by kernel_rfl
theorem Tryd.elemPSpot (w : World) : (ReflectliteType.method ReflectliteType.elem #[.agg #[.pointer (some ⟨1, 98, none⟩)]]).run Tryd.prog w = .ok (.iface 143 (.agg #[.pointer (some ⟨1, 96, none⟩)])) w := by kernel_rfl
theorem Tryd.implementsSpot (w : World) : (ReflectliteType.relation "Implements" ReflectliteType.implements_ #[.agg #[.pointer (some ⟨1, 96, none⟩)], .iface 143 (.agg #[.pointer (some ⟨1, 26, none⟩)])]).run Tryd.prog w = .ok (.bool true) w := by kernel_rfl
theorem Tryd.typeOfSpot (v : Value) (w : World) : (ReflectliteType.typeOf #[.iface 96 v]).run Tryd.prog w = .ok (.iface 143 (.agg #[.pointer (some ⟨1, 96, none⟩)])) w := by kernel_rfl
theorem Tryd.assignableSpot (w : World) : (ReflectliteType.relation "AssignableTo" ReflectliteType.assignableTo #[.agg #[.pointer (some ⟨1, 96, none⟩)], .iface 143 (.agg #[.pointer (some ⟨1, 96, none⟩)])]).run Tryd.prog w = .ok (.bool true) w := by kernel_rfl
theorem Tryd.valueOfSpot (e : Addr) (w : World) : (ReflectliteValue.unpack (.iface 96 (.pointer (some e)))).run Tryd.prog w
    = .ok (.agg #[.pointer (some ⟨1, 96, none⟩), .pointer (some ⟨w.heap.size, 0, none⟩), .int .u64 150]) (w.alloc (.cells #[.pointer (some e)] 96)) := by kernel_rfl

theorem Tryd.elemOfPSpot (w : World) : (Rtype.elem? 98).run Tryd.prog w = .ok (some 96) w := by kernel_rfl
theorem Tryd.mkSpot (p : Addr) (w : World) : (ReflectliteValue.mk 96 p ReflectliteValue.flagAddr).run Tryd.prog w = .ok (.agg #[.pointer (some ⟨1, 96, none⟩), .pointer (some p), .int .u64 406]) w := by kernel_rfl
/-- (Value).Elem at the Value of a **api.Spot that is not nil: the Value of the *api.Spot variable that it points to, addressable. -/
theorem Tryd.elemVPSpot (a p : Addr) (W : World) (ha : W.cell? a = some (.pointer (some p))) :
    (ReflectliteValue.method (ReflectliteValue.valueError "reflectlite.Value.Elem" 0) ReflectliteValue.elem #[.agg #[.pointer (some ⟨1, 98, none⟩), .pointer (some a), .int .u64 150]]).run Tryd.prog W
      = .ok (.agg #[.pointer (some ⟨1, 96, none⟩), .pointer (some p), .int .u64 406]) W := by
  rw [rlm]
  simp only [Sem.run_bind, Tryd.partsPSpot, Result.andThen]
  simp [ReflectliteValue.elem, loadVar, isAgg, underlying, Tryd.underlying98, ha, Result.andThen, Tryd.elemOfPSpot, Tryd.mkSpot]
theorem Tryd.partsSpotA (a : Addr) (w : World) : (ReflectliteValue.parts (.agg #[.pointer (some ⟨1, 96, none⟩), .pointer (some a), .int .u64 406])).run Tryd.prog w = .ok (some (96, a, 406)) w := by kernel_rfl
theorem Tryd.partsSpot (a : Addr) (w : World) : (ReflectliteValue.parts (.agg #[.pointer (some ⟨1, 96, none⟩), .pointer (some a), .int .u64 150])).run Tryd.prog w = .ok (some (96, a, 150)) w := by kernel_rfl
theorem Tryd.directSpot (w : World) : (Rtype.directlyAssignable 96 96).run Tryd.prog w = .ok true w := by kernel_rfl
theorem Tryd.sizeSpot (w : World) : (sizeOf 96).run Tryd.prog w = .ok 1 w := by kernel_rfl
/-- (Value).Set: the *api.Spot variable at 'ta' gets what the Value's own variable 'b' holds. -/
theorem Tryd.setSpot (ta b e : Addr) (old : Value) (W : World) (hb : W.cell? b = some (.pointer (some e))) (ht : W.cell? ta = some old) (hf : W.frozen? ta = false) :
    (ReflectliteValue.set #[.agg #[.pointer (some ⟨1, 96, none⟩), .pointer (some ta), .int .u64 406], .agg #[.pointer (some ⟨1, 96, none⟩), .pointer (some b), .int .u64 150]]).run Tryd.prog W
      = .ok (.tuple #[]) (W.setCell ta (.pointer (some e))) := by
  show (bind (ReflectliteValue.parts (.agg #[.pointer (some ⟨1, 96, none⟩), .pointer (some ta), .int .u64 406])) fun p => bind (ReflectliteValue.parts (.agg #[.pointer (some ⟨1, 96, none⟩), .pointer (some b), .int .u64 150])) _ : Sem Value).run Tryd.prog W = _
  simp only [Sem.run_bind, Tryd.partsSpotA, Tryd.partsSpot, Result.andThen]
  simp [ReflectliteValue.flagAddr, loadVar, isAgg, underlying, Tryd.underlying96, hb, Result.andThen, Tryd.directSpot, storeVar, Value.cells, storeCells, Addr.add]
  rw [run_store Tryd.prog W ta _ _ (by rfl)]
  simp [ht, hf]

set_option maxHeartbeats 4000000 in
theorem as_hit (e t : Addr) (old : Value) (w : World) (hg : w.cell? ⟨0, 0, none⟩ = some (.iface 143 (.agg #[.pointer (some ⟨1, 26, none⟩)]))) (ht0 : w.cell? t = some old) (hf0 : w.frozen? t = false) :
    Calls Tryd.prog 42 #[.iface 96 (.pointer (some e)), .iface 98 (.pointer (some t))] w fun ev w' => ev = .returned (.bool true) ∧ w' = ((((w.alloc (.cells #[.pointer (some t)] 98)).alloc (.cells #[.pointer (some ⟨1, 98, none⟩), .pointer (some ⟨w.heap.size, 0, none⟩), .int .u64 150] 120)).alloc (.cells #[.pointer (some ⟨1, 98, none⟩), .pointer (some ⟨w.heap.size, 0, none⟩), .int .u64 150] 120)).alloc (.cells #[.pointer (some e)] 96)).setCell t (.pointer (some e)) := by
  have h6 := @run_callFunc_extern Tryd.prog 59 _ (fun args => ReflectliteValue.unpack (args.getD 0 (.tuple #[]))) Tryd.func59 (by kernel_rfl) (by kernel_rfl) (by kernel_rfl) (by kernel_rfl)
  have h7 := @run_callFunc_extern Tryd.prog 60 _ (ReflectliteValue.methodAny (ReflectliteValue.valueError "reflectlite.Value.Type" 0) (fun t _ _ _ => ReflectliteType.toType t)) Tryd.func60 (by kernel_rfl) (by kernel_rfl) (by kernel_rfl) (by kernel_rfl)
  have h8 := @run_callFunc_extern Tryd.prog 61 _ (ReflectliteValue.method (ReflectliteValue.valueError "reflectlite.Value.IsNil" 0) ReflectliteValue.isNil) Tryd.func61 (by kernel_rfl) (by kernel_rfl) (by kernel_rfl) (by kernel_rfl)
  have h27 := @run_callFunc_extern Tryd.prog 98 _ (ReflectliteType.abiMethod fun t => do pure (.int .u8 (← Rtype.kind t))) Tryd.func98 (by kernel_rfl) (by kernel_rfl) (by kernel_rfl) (by kernel_rfl)
  have h37 := @run_callFunc_extern Tryd.prog 110 _ (ReflectliteType.method ReflectliteType.elem) Tryd.func110 (by kernel_rfl) (by kernel_rfl) (by kernel_rfl) (by kernel_rfl)
  have h38 := @run_callFunc_extern Tryd.prog 111 _ (ReflectliteType.relation "Implements" ReflectliteType.implements_) Tryd.func111 (by kernel_rfl) (by kernel_rfl) (by kernel_rfl) (by kernel_rfl)
  have h10 := @run_callFunc_extern Tryd.prog 63 _ ReflectliteType.typeOf Tryd.func63 (by kernel_rfl) (by kernel_rfl) (by kernel_rfl) (by kernel_rfl)
  have h35 := @run_callFunc_extern Tryd.prog 108 _ (ReflectliteType.relation "AssignableTo" ReflectliteType.assignableTo) Tryd.func108 (by kernel_rfl) (by kernel_rfl) (by kernel_rfl) (by kernel_rfl)
  have h11 := @run_callFunc_extern Tryd.prog 75 _ (ReflectliteValue.method (ReflectliteValue.valueError "reflectlite.Value.Elem" 0) ReflectliteValue.elem) Tryd.func75 (by kernel_rfl) (by kernel_rfl) (by kernel_rfl) (by kernel_rfl)
  have h12 := @run_callFunc_extern Tryd.prog 76 _ ReflectliteValue.set Tryd.func76 (by kernel_rfl) (by kernel_rfl) (by kernel_rfl) (by kernel_rfl)
  have tO := Tryd.typeOfSpot
  have mA := Tryd.methodAssignableTo
  have a25 := Tryd.assignableSpot
  have v25 := Tryd.valueOfSpot
  have f6 := Tryd.valueOfPSpot
  have f7 := Tryd.typePSpot
  have mK := Tryd.methodKind
  have mE := Tryd.methodElem
  have mI := Tryd.methodImplements
  have k27 := Tryd.kindPSpot
  have k25 := Tryd.kindSpot
  have e27 := Tryd.elemPSpot
  have i25 := Tryd.implementsSpot
  have n8 := Tryd.isNilPSpot ⟨w.heap.size, 0, none⟩ t ((w.alloc (.cells #[.pointer (some t)] 98)).alloc (.cells #[.pointer (some ⟨1, 98, none⟩), .pointer (some ⟨w.heap.size, 0, none⟩), .int .u64 150] 120)) (by simp)
  have hlt : 0 < w.heap.size := by
    rcases Nat.eq_zero_or_pos w.heap.size with h0 | h
    · simp [World.cell?, h0] at hg
    · exact h
  have hg2 : ((w.alloc (.cells #[.pointer (some t)] 98)).alloc (.cells #[.pointer (some ⟨1, 98, none⟩), .pointer (some ⟨w.heap.size, 0, none⟩), .int .u64 150] 120)).cell? ⟨0, 0, none⟩ = some (.iface 143 (.agg #[.pointer (some ⟨1, 26, none⟩)])) := by
    rw [World.cell?_alloc_lt _ _ ⟨0, 0, none⟩ (by simp), World.cell?_alloc_lt _ _ ⟨0, 0, none⟩ hlt]; exact hg
  have htl : t.block < w.heap.size := by
    rcases Nat.lt_or_ge t.block w.heap.size with h | h
    · exact h
    · simp [World.cell?, Array.getElem?_eq_none h] at ht0
  have el := Tryd.elemVPSpot ⟨w.heap.size, 0, none⟩ t (((w.alloc (.cells #[.pointer (some t)] 98)).alloc (.cells #[.pointer (some ⟨1, 98, none⟩), .pointer (some ⟨w.heap.size, 0, none⟩), .int .u64 150] 120)).alloc (.cells #[.pointer (some ⟨1, 98, none⟩), .pointer (some ⟨w.heap.size, 0, none⟩), .int .u64 150] 120)) (by rw [World.cell?_alloc_lt _ _ ⟨w.heap.size, 0, none⟩ (by simp; omega)]; simp)
  have st := Tryd.setSpot t ⟨w.heap.size + 1 + 1 + 1, 0, none⟩ e old ((((w.alloc (.cells #[.pointer (some t)] 98)).alloc (.cells #[.pointer (some ⟨1, 98, none⟩), .pointer (some ⟨w.heap.size, 0, none⟩), .int .u64 150] 120)).alloc (.cells #[.pointer (some ⟨1, 98, none⟩), .pointer (some ⟨w.heap.size, 0, none⟩), .int .u64 150] 120)).alloc (.cells #[.pointer (some e)] 96))
    (by rw [World.cell?_alloc_at _ _ _ _ (by simp)]; rfl)
    (by rw [World.cell?_alloc_lt _ _ t (by simp; omega), World.cell?_alloc_lt _ _ t (by simp; omega), World.cell?_alloc_lt _ _ t (by simp; omega), World.cell?_alloc_lt _ _ t htl]; exact ht0)
    (by rw [World.frozen?_alloc_old _ _ t (by simp; omega), World.frozen?_alloc_old _ _ t (by simp; omega), World.frozen?_alloc_old _ _ t (by simp; omega), World.frozen?_alloc_old _ _ t (Nat.ne_of_lt htl)]; exact hf0)
  go_enter Tryd.func42, Tryd.ntmps42
  go_wp2
  refine wp_loop_rounds 1 ?_
  rw [rounds_succ]
  go_wp2
  go_ret
  exact ⟨rfl, rfl⟩
end Go.Proofs.YtjpaeaedfgiomaaDoor

/- errors.Is of a *api.Spot and its own Code; dunnagelaw00.Is of such an error. -/
namespace Go.Proofs.YtjpaeaedfgiomaaDoor
set_option linter.unusedSimpArgs false
open Go.RowKit Go.Extern.Stop Go.Stop Go.Extern
set_option linter.unusedVariables false

theorem Tryd.typeOfCode (v : Value) (w : World) : (ReflectliteType.typeOf #[.iface 33 v]).run Tryd.prog w = .ok (.iface 143 (.agg #[.pointer (some ⟨1, 33, none⟩)])) w := by kernel_rfl
theorem Tryd.comparableCode (w : World) : (callFunc 109 #[.agg #[.pointer (some ⟨1, 33, none⟩)]]).run Tryd.prog w = .ok (.value (.bool true)) w := by kernel_rfl
theorem Tryd.methodComparable (v : Value) (w : World) : (Go.method 291 143 v "Comparable").run Tryd.prog w = .ok (109, v) w := by kernel_rfl
theorem Tryd.noIsSpot (v : Value) (xT : TypeId) (w : World) : (Instr.typeAssert (.iface 96 v) xT 155 true).run Tryd.prog w = .ok (.tuple #[.nilIface, .bool false]) w := run_typeAssert_lacksB Tryd.underlying155 (by kernel_rfl) (by kernel_rfl) v xT w
theorem Tryd.hasUnwrapSpot (v : Value) (xT : TypeId) (w : World) : (Instr.typeAssert (.iface 96 v) xT 150 true).run Tryd.prog w = .ok (.tuple #[.iface 96 v, .bool true]) w := run_typeAssert_hasB Tryd.underlying150 (by kernel_rfl) v xT w
theorem Tryd.methodUnwrap (v : Value) (w : World) : (Go.method 291 96 v "Unwrap").run Tryd.prog w = .ok (103, v) w := by kernel_rfl
theorem Tryd.compCode : (Tryd.prog.info? 33).map (·.comparable) = some true := by kernel_rfl
theorem Tryd.compSpot : (Tryd.prog.info? 96).map (·.comparable) = some true := by kernel_rfl
theorem Tryd.sizeOfSpot : (Tryd.prog.info? 101).map (·.size) = some 2 := by kernel_rfl

theorem eql_codes (a : Int) (w : World) : (binOp .eql 26 (.iface 33 (.int .i64 a)) (.iface 33 (.int .i64 a))).run Tryd.prog w = .ok (.bool true) w := by
  obtain ⟨i, hi, hcmp⟩ := Option.map_eq_some_iff.1 Tryd.compCode
  have h : ∀ d : Nat, (Op.equalIn (d + 2) 26 (.iface 33 (.int .i64 a)) (.iface 33 (.int .i64 a))).run Tryd.prog w = .ok true w := fun d => by
    simp [Op.equalIn, run_underlying Tryd.underlying26, run_underlying Tryd.underlying33, typeInfo, hi, hcmp]
  simp only [binOp]
  simp [Op.equal, Op.maxDepth, h 9998]
theorem neq_spots (a : Addr) (w : World) : (binOp .neq 26 (.iface 96 (.pointer (some a))) (.iface 96 (.pointer (some a)))).run Tryd.prog w = .ok (.bool false) w := by
  obtain ⟨i, hi, hcmp⟩ := Option.map_eq_some_iff.1 Tryd.compSpot
  obtain ⟨j, hj, _⟩ := Option.map_eq_some_iff.1 Tryd.sizeOfSpot
  simp only [binOp]
  simp [Op.equal, Op.maxDepth, run_equalIn_iface_ptr_same w 9998 a Tryd.underlying26 Tryd.underlying96 hi hcmp hj]

theorem unwrap_any (g : Nat) (k : Int) (w : World) (h : w.cell? ⟨g, 1, none⟩ = some (.int .i64 k)) : Calls Tryd.prog 103 #[.pointer (some ⟨g, 0, none⟩)] w fun e w' => e = .returned (.iface 33 (.int .i64 k)) ∧ w = w' := by
  go_enter Tryd.func103, Tryd.ntmps103
  go_wp2
  go_ret
  exact ⟨rfl, rfl⟩

set_option maxHeartbeats 4000000 in
theorem is_code (g : Nat) (k : Int) (w : World) (h : w.cell? ⟨g, 1, none⟩ = some (.int .i64 k)) :
    Calls Tryd.prog 43 #[.iface 96 (.pointer (some ⟨g, 0, none⟩)), .iface 33 (.int .i64 k)] w fun e w' => e = .returned (.bool true) ∧ w = w' := by
  have h28 := @run_callFunc_extern Tryd.prog 63 _ ReflectliteType.typeOf Tryd.func63 (by kernel_rfl) (by kernel_rfl) (by kernel_rfl) (by kernel_rfl)
  have tT := Tryd.typeOfCode
  have cT := Tryd.comparableCode
  have mR := Tryd.methodComparable
  have nE := Tryd.noIsSpot
  have uW := Tryd.hasUnwrapSpot
  have mU := Tryd.methodUnwrap
  have heq := eql_codes k w
  have hty := run_eql_iface_types (P := Tryd.prog) 96 33 (.pointer (some ⟨g, 0, none⟩)) (.int .i64 k) Tryd.underlying26 (by decide) w
  go_enter Tryd.func43, Tryd.ntmps43
  go_wp2
  refine wp_loop_rounds 2 ?_
  rw [rounds_succ]
  go_wp2
  rw [rounds_succ]
  go_wp2
  go_ret
  exact ⟨rfl, rfl⟩
end Go.Proofs.YtjpaeaedfgiomaaDoor

/- errors.As and dunnagelaw00.Is of a Spot: what they tell, and what stays. -/
namespace Go.Proofs.YtjpaeaedfgiomaaDoor
set_option linter.unusedSimpArgs false
open Go.RowKit
set_option linter.unusedVariables false

/-- errors.As of a Spot: the target points to it; nothing below the target's block has turned. -/
theorem as_told (e : Addr) (B : Nat) (old : Value) (w : World) (hg : w.cell? ⟨0, 0, none⟩ = some (.iface 143 (.agg #[.pointer (some ⟨1, 26, none⟩)]))) (ht0 : w.cell? ⟨B, 0, none⟩ = some old) (hf0 : w.frozen? ⟨B, 0, none⟩ = false) :
    Calls Tryd.prog 42 #[.iface 96 (.pointer (some e)), .iface 98 (.pointer (some ⟨B, 0, none⟩))] w fun ev w' => ev = .returned (.bool true) ∧ w'.cell? ⟨B, 0, none⟩ = some (.pointer (some e)) ∧ Below B w w' := by
  have htl : B < w.heap.size := World.block_lt_of_cell? w ⟨B, 0, none⟩ ht0
  refine (as_hit e ⟨B, 0, none⟩ old w hg ht0 hf0).mono ?_
  rintro ev w' ⟨h1, h2⟩
  subst h2
  have hold : ((((w.alloc (.cells #[.pointer (some ⟨B, 0, none⟩)] 98)).alloc (.cells #[.pointer (some ⟨1, 98, none⟩), .pointer (some ⟨w.heap.size, 0, none⟩), .int .u64 150] 120)).alloc (.cells #[.pointer (some ⟨1, 98, none⟩), .pointer (some ⟨w.heap.size, 0, none⟩), .int .u64 150] 120)).alloc (.cells #[.pointer (some e)] 96)).cell? ⟨B, 0, none⟩ = some old := by
    rw [World.cell?_alloc_lt _ _ ⟨B, 0, none⟩ (by simp; omega), World.cell?_alloc_lt _ _ ⟨B, 0, none⟩ (by simp; omega), World.cell?_alloc_lt _ _ ⟨B, 0, none⟩ (by simp; omega), World.cell?_alloc_lt _ _ ⟨B, 0, none⟩ htl]; exact ht0
  refine ⟨h1, World.cell?_setCell_same _ _ _ hold, ?_⟩
  · exact (((((Below.refl B w).alloc (by omega) _).alloc (by simp; omega) _).alloc (by simp; omega) _).alloc (by simp; omega) _).setCell (p := ⟨B, 0, none⟩) (Nat.le_refl _) _

set_option maxHeartbeats 800000 in
/-- dunnagelaw00.Is of a Spot itself, at its place, with its Code. -/
theorem Is_yes (g : Nat) (p k : Int) (w : World) (hg : w.cell? ⟨0, 0, none⟩ = some (.iface 143 (.agg #[.pointer (some ⟨1, 26, none⟩)]))) (hb : w.heap[g]? = some (.cells #[.int .i64 p, .int .i64 k] 101 (0, 0))) :
    Calls Tryd.prog 29 #[.iface 96 (.pointer (some ⟨g, 0, none⟩)), .int .i64 p, .int .i64 k] w fun e w' => e = .returned (.bool true) ∧ Below w.heap.size w w' := by
  have hgl : g < w.heap.size := (Array.getElem?_eq_some_iff.1 hb).1
  have h0l : 0 < w.heap.size := by omega
  have hgA : (w.alloc (.cells #[.pointer none] 96)).cell? ⟨0, 0, none⟩ = some (.iface 143 (.agg #[.pointer (some ⟨1, 26, none⟩)])) := by rw [World.cell?_alloc_lt _ _ ⟨0, 0, none⟩ h0l]; exact hg
  have htA : (w.alloc (.cells #[.pointer none] 96)).cell? ⟨w.heap.size, 0, none⟩ = some (.pointer none) := by simp
  have hfA : (w.alloc (.cells #[.pointer none] 96)).frozen? ⟨w.heap.size, 0, none⟩ = false := by simp
  have hne := neq_spots ⟨g, 0, none⟩
  have HB := Lib.hid hb
  have HG := Lib.hid hgA
  have HT := Lib.hid htA
  have HF := Lib.hid hfA
  clear hb hg hgA htA hfA
  go_enter Tryd.func29, Tryd.ntmps29
  go_wp2_with fail
  refine (as_told ⟨g, 0, none⟩ w.heap.size (.pointer none) _ HG.out HT.out HF.out).mono ?_
  rintro e w1 ⟨rfl, hcs, hb1⟩
  have hbw : Below w.heap.size w w1 := ((Below.refl _ w).alloc (Nat.le_refl _) _).trans hb1
  have hc0 : w1.cell? ⟨g, 0, none⟩ = some (.int .i64 p) := by rw [hbw.cell (p := ⟨g, 0, none⟩) hgl]; simp [World.cell?, HB.out]
  have hc1 : w1.cell? ⟨g, 1, none⟩ = some (.int .i64 k) := by rw [hbw.cell (p := ⟨g, 1, none⟩) hgl]; simp [World.cell?, HB.out]
  go_wp2_with fail
  refine (is_code g k _ hc1).mono ?_
  rintro e w1 ⟨rfl, rfl⟩
  go_wp2
  go_ret
  exact ⟨rfl, hbw⟩

end Go.Proofs.YtjpaeaedfgiomaaDoor

/- dunnagelaw00.Code and Told, at the errors that a layer tells: none, a Code itself, a Spot. -/
namespace Go.Proofs.YtjpaeaedfgiomaaDoor
set_option linter.unusedSimpArgs false
open Go.RowKit
set_option linter.unusedVariables false

theorem eql_code (a b : Int) (w : World) : (binOp .eql 26 (.iface 33 (.int .i64 a)) (.iface 33 (.int .i64 b))).run Tryd.prog w = .ok (.bool (a == b)) w := by
  obtain ⟨i, hi, hcmp⟩ := Option.map_eq_some_iff.1 Tryd.compCode
  have h : ∀ d : Nat, (Op.equalIn (d + 2) 26 (.iface 33 (.int .i64 a)) (.iface 33 (.int .i64 b))).run Tryd.prog w = .ok (a == b) w := fun d => by
    simp [Op.equalIn, run_underlying Tryd.underlying26, run_underlying Tryd.underlying33, typeInfo, hi, hcmp]
  simp only [binOp]
  simp [Op.equal, Op.maxDepth, h 9998]
def CodeRel (c : Int) (x : Value) : Prop := ∃ k : Int, 1 ≤ k ∧ k ≤ c ∧ x = .int .i64 k
theorem code_any (c : Int) (h1 : 1 ≤ c) (h2 : c ≤ 17) (w : World) : Calls Tryd.prog 28 #[.iface 33 (.int .i64 c)] w fun e w' => e = .returned (.int .i64 c) ∧ w = w' := by
  have heq := eql_code
  go_enter Tryd.func28, Tryd.ntmps28
  go_wp2
  go_loop [3] (CodeRel c) (fun x => (17 - intOf x).toNat)
  case atStart => exact ⟨1, by omega, h1, rfl⟩
  case round =>
    obtain ⟨k, hk1, hk2, rfl⟩ := hrel
    by_cases hc : c = k
    · subst hc
      go_wp2
      go_ret
      exact ⟨rfl, rfl⟩
    · have hb : (c == k) = false := by simpa using hc
      go_wp2
      go_round
      case rel => exact ⟨k + 1, by omega, by omega, rfl⟩
      case measure => simp [intOf]; omega
theorem code_nil (w : World) : Calls Tryd.prog 28 #[.nilIface] w fun e w' => e = .returned (.int .i64 0) ∧ w = w' := by
  go_enter Tryd.func28, Tryd.ntmps28
  go_wp2
  go_ret
  exact ⟨rfl, rfl⟩

/-- dunnagelaw00.Told of a Code itself. -/
theorem told_self (c : Int) (h1 : 1 ≤ c) (h2 : c ≤ 17) (w : World) : Calls Tryd.prog 10 #[.iface 33 (.int .i64 c), .int .i64 c, .int .i64 (-1)] w fun e w' => e = .returned (.bool true) ∧ w = w' := by
  go_enter Tryd.func10, Tryd.ntmps10
  go_wp2_with fail
  refine (code_any c h1 h2 _).mono ?_
  rintro e w1 ⟨rfl, rfl⟩
  go_wp2
  go_ret
  exact ⟨rfl, rfl⟩
theorem told_nil (w : World) : Calls Tryd.prog 10 #[.nilIface, .int .i64 0, .int .i64 (-1)] w fun e w' => e = .returned (.bool true) ∧ w = w' := by
  go_enter Tryd.func10, Tryd.ntmps10
  go_wp2_with fail
  refine (code_nil _).mono ?_
  rintro e w1 ⟨rfl, rfl⟩
  go_wp2
  go_ret
  exact ⟨rfl, rfl⟩
theorem told_spot (g : Nat) (p : Nat) (c : Int) (w : World) (hg : w.cell? ⟨0, 0, none⟩ = some (.iface 143 (.agg #[.pointer (some ⟨1, 26, none⟩)]))) (hb : w.heap[g]? = some (.cells #[.int .i64 (p : Int), .int .i64 c] 101 (0, 0))) :
    Calls Tryd.prog 10 #[.iface 96 (.pointer (some ⟨g, 0, none⟩)), .int .i64 c, .int .i64 (p : Int)] w fun e w' => e = .returned (.bool true) ∧ Below w.heap.size w w' := by
  have HB := Lib.hid hb
  have HG := Lib.hid hg
  clear hb hg
  go_enter Tryd.func10, Tryd.ntmps10
  go_wp2_with fail
  refine (Is_yes g p c _ HG.out HB.out).mono ?_
  rintro e w1 ⟨rfl, hb1⟩
  go_wp2
  go_ret
  exact ⟨rfl, hb1⟩
end Go.Proofs.YtjpaeaedfgiomaaDoor

/- What a call of layer 3 that tells an error comes to; the law ClusterChecks, walked, from what its callees come to. -/
namespace Go.Proofs.YtjpaeaedfgiomaaDoor
set_option linter.unusedSimpArgs false
open Go.RowKit
set_option linter.unusedVariables false

/-- The error's number and its place (-1: itself) as an error: none, a Code itself, or a Spot of the call's own. -/
def ErrIs (p : Int × Int) (B : Nat) (w' : World) (u : Value) : Prop :=
  (p = (0, -1) ∧ u = .nilIface) ∨ (p.2 = -1 ∧ 1 ≤ p.1 ∧ p.1 ≤ 17 ∧ u = .iface 33 (.int .i64 p.1)) ∨
  ∃ k g : Nat, p.2 = k ∧ u = .iface 96 (.pointer (some ⟨g, 0, none⟩)) ∧ B ≤ g ∧ w'.heap[g]? = some (.cells #[.int .i64 (k : Int), .int .i64 p.1] 101 (0, 0))
def ErrTo (p : Int × Int) (w : World) (e : Ending) (w' : World) : Prop := ∃ u, e = .returned u ∧ ErrIs p w.heap.size w' u ∧ Below w.heap.size w w'
abbrev Laid (w : World) : Prop := w.cell? ⟨0, 0, none⟩ = some (.iface 143 (.agg #[.pointer (some ⟨1, 26, none⟩)]))
theorem Laid.below {w w' : World} {B : Nat} (h : Laid w) (hb : Below B w w') (hB : w.heap.size ≤ B) : Laid w' :=
  (hb.cell (p := ⟨0, 0, none⟩) (Nat.lt_of_lt_of_le (World.block_lt_of_cell? w _ h) hB)).trans h

theorem told_any (p : Int × Int) (B : Nat) (u : Value) (w : World) (hg : Laid w) (hu : ErrIs p B w u) :
    Calls Tryd.prog 10 #[u, .int .i64 p.1, .int .i64 p.2] w fun e w' => e = .returned (.bool true) ∧ Below w.heap.size w w' := by
  obtain ⟨a, b⟩ := p
  rcases hu with ⟨h1, rfl⟩ | ⟨h1, h2, h3, rfl⟩ | ⟨k, g, h1, rfl, _, h4⟩
  · injection h1 with h1 h2
    subst h1 h2
    exact (told_nil w).mono fun _ _ ⟨h1, h2⟩ => ⟨h1, h2 ▸ Below.refl _ _⟩
  · simp only at h1 h2 h3
    subst h1
    exact (told_self a h2 h3 w).mono fun _ _ ⟨h1, h2⟩ => ⟨h1, h2 ▸ Below.refl _ _⟩
  · simp only at h1 h4
    subst h1
    exact told_spot g k a w hg h4

abbrev snapV (A1 A2 A3 : Option Addr) (n1 c1 n2 c2 n3 c3 : Nat) : Value := .agg #[.slice A1 n1 c1, .slice A2 n2 c2, .slice A3 n3 c3]
abbrev specV (A4 : Option Addr) (n4 c4 : Nat) (x : SpecD) : Value := .agg #[.slice A4 n4 c4, .int .i64 x.preempts, .int .i64 x.shifts]
theorem ErrIs.below {p : Int × Int} {B : Nat} {w w' : World} {u : Value} (h : ErrIs p B w u) (hb : Below w.heap.size w w') : ErrIs p B w' u := by
  rcases h with h | h | ⟨k, g, h1, h2, h3, h4⟩
  · exact .inl h
  · exact .inr (.inl h)
  · exact .inr (.inr ⟨k, g, h1, h2, h3, (hb.block g (Array.getElem?_eq_some_iff.1 h4).1).trans h4⟩)

end Go.Proofs.YtjpaeaedfgiomaaDoor

namespace Go.Proofs.YtjpaeaedfgiomaaDoor
set_option linter.unusedSimpArgs false
open Go.RowKit
set_option linter.unusedVariables false

def inB (n lo hi : Int) : Bool := decide (lo ≤ n ∧ n ≤ hi)
theorem within_any (n lo hi : Int) (w : World) : Calls Tryd.prog 65 #[.int .i64 n, .int .i64 lo, .int .i64 hi] w fun e w' => e = .returned (.bool (inB n lo hi)) ∧ w = w' := by
  by_cases h1 : lo ≤ n
  · have hd1 : decide (lo ≤ n) = true := decide_eq_true h1
    by_cases h2 : n ≤ hi
    · have HE := Lib.hid (show inB n lo hi = true by simp [inB, h1, h2])
      have hd : decide (n ≤ hi) = true := decide_eq_true h2
      go_enter Tryd.func65, Tryd.ntmps65
      go_wp2
      go_ret
      exact ⟨ret_bool HE.out.symm, rfl⟩
    · have HE := Lib.hid (show inB n lo hi = false by simp [inB]; omega)
      have hd : decide (n ≤ hi) = false := decide_eq_false h2
      go_enter Tryd.func65, Tryd.ntmps65
      go_wp2
      go_ret
      exact ⟨ret_bool HE.out.symm, rfl⟩
  · have HE := Lib.hid (show inB n lo hi = false by simp [inB]; omega)
    have hd : decide (lo ≤ n) = false := decide_eq_false h1
    go_enter Tryd.func65, Tryd.ntmps65
    go_wp2
    go_ret
    exact ⟨ret_bool HE.out.symm, rfl⟩
theorem isCount_any (n : Int) (w : World) : Calls Tryd.prog 71 #[.int .i64 n] w fun e w' => e = .returned (.bool (countOk n)) ∧ w = w' := by
  have HE := Lib.hid (show inB n 0 100 = countOk n from rfl)
  go_enter Tryd.func71, Tryd.ntmps71
  go_wp2_with fail
  refine (within_any _ _ _ _).mono ?_
  rintro e w' ⟨rfl, rfl⟩
  go_wp2
  go_ret
  exact ⟨ret_bool HE.out, rfl⟩
theorem isNaN_any (n : Int) (w : World) : Calls Tryd.prog 83 #[.int .i64 n] w fun e w' => e = .returned (.bool false) ∧ w = w' := by
  have hd : (n != n) = false := by simp
  go_enter Tryd.func83, Tryd.ntmps83
  go_wp2
  go_ret
  exact ⟨rfl, rfl⟩
def cmpI (a b : Int) : Int := if a < b then -1 else if b < a then 1 else 0
theorem compare_any (a b : Int) (w : World) : Calls Tryd.prog 82 #[.int .i64 a, .int .i64 b] w fun e w' => e = .returned (.int .i64 (cmpI a b)) ∧ w = w' := by
  by_cases h1 : a < b
  · have HE := Lib.hid (show cmpI a b = -1 by simp [cmpI, h1])
    go_enter Tryd.func82, Tryd.ntmps82
    go_wp2_with (go_at_call 83; refine (isNaN_any _ _).mono ?_; rintro e w' ⟨rfl, rfl⟩)
    go_ret
    exact ⟨ret_int HE.out.symm, rfl⟩
  · by_cases h2 : b < a
    · have HE := Lib.hid (show cmpI a b = 1 by simp [cmpI, h1, h2])
      go_enter Tryd.func82, Tryd.ntmps82
      go_wp2_with (go_at_call 83; refine (isNaN_any _ _).mono ?_; rintro e w' ⟨rfl, rfl⟩)
      go_ret
      exact ⟨ret_int HE.out.symm, rfl⟩
    · have HE := Lib.hid (show cmpI a b = 0 by simp [cmpI, h1, h2])
      go_enter Tryd.func82, Tryd.ntmps82
      go_wp2_with (go_at_call 83; refine (isNaN_any _ _).mono ?_; rintro e w' ⟨rfl, rfl⟩)
      go_ret
      exact ⟨ret_int HE.out.symm, rfl⟩
def orI (a b : Int) : Int := if a = 0 then b else a
theorem or_any (a b : Int) (g : Nat) (w : World) (h0 : w.cell? ⟨g, 0, none⟩ = some (.int .i64 a)) (h1 : w.cell? ⟨g, 1, none⟩ = some (.int .i64 b)) :
    Calls Tryd.prog 66 #[.slice (some ⟨g, 0, none⟩) 2 2] w fun e w' => e = .returned (.int .i64 (orI a b)) ∧ w = w' := by
  by_cases ha : a = 0
  · subst ha
    by_cases hb : b = 0
    · subst hb
      go_enter Tryd.func66, Tryd.ntmps66
      go_wp2
      refine wp_loop_rounds 3 ?_
      rw [rounds_succ]
      go_wp2
      rw [rounds_succ]
      go_wp2
      rw [rounds_succ]
      go_wp2
      go_ret
      exact ⟨rfl, rfl⟩
    · have hm : (b != 0) = true := by simpa using hb
      have HE := Lib.hid (show orI 0 b = b from rfl)
      clear hb
      go_enter Tryd.func66, Tryd.ntmps66
      go_wp2
      refine wp_loop_rounds 3 ?_
      rw [rounds_succ]
      go_wp2
      rw [rounds_succ]
      go_wp2
      go_ret
      exact ⟨ret_int HE.out.symm, rfl⟩
  · have hm : (a != 0) = true := by simpa using ha
    have HE := Lib.hid (show orI a b = a by simp [orI, ha])
    clear ha
    go_enter Tryd.func66, Tryd.ntmps66
    go_wp2
    refine wp_loop_rounds 3 ?_
    rw [rounds_succ]
    go_wp2
    go_ret
    exact ⟨ret_int HE.out.symm, rfl⟩
theorem spot_any (p c : Int) (w : World) : Calls Tryd.prog 68 #[.int .i64 p, .int .i64 c] w fun e w' => e = .returned (.iface 96 (.pointer (some ⟨w.heap.size, 0, none⟩))) ∧ w' = w.alloc (.cells #[.int .i64 p, .int .i64 c] 101) := by
  go_enter Tryd.func68, Tryd.ntmps68
  go_wp2
  go_ret
  exact ⟨rfl, rfl⟩

abbrev aggN (x : NodeD) : Value := .agg #[.int .i64 x.id, .int .i64 x.zone, .int .u64 x.cap.a, .int .u64 x.cap.b, .int .u64 x.cap.c, .int .u64 x.cap.d, .int .u64 x.held.a, .int .u64 x.held.b, .int .u64 x.held.c, .int .u64 x.held.d]
theorem idN_any (x : NodeD) (w : World) : Calls Tryd.prog 48 #[aggN x] w fun e w' => e = .returned (.int .i64 x.id) ∧ Below w.heap.size w w' := by
  go_enter Tryd.func48, Tryd.ntmps48
  go_wp2
  go_ret
  exact ⟨rfl, (Below.refl _ _).alloc (Nat.le_refl _) _⟩

abbrev aggL (x : LoadD) : Value := .agg #[.int .i64 x.id, .bool x.apart, .int .i64 x.skew, .int .i64 x.min, .int .i64 x.max]
theorem idL_any (x : LoadD) (w : World) : Calls Tryd.prog 51 #[aggL x] w fun e w' => e = .returned (.int .i64 x.id) ∧ Below w.heap.size w w' := by
  go_enter Tryd.func51, Tryd.ntmps51
  go_wp2
  go_ret
  exact ⟨rfl, (Below.refl _ _).alloc (Nat.le_refl _) _⟩

abbrev aggP (x : PodD) : Value := .agg #[.int .i64 x.id, .int .i64 x.load, .int .i64 x.prio, .int .u64 x.req.a, .int .u64 x.req.b, .int .u64 x.req.c, .int .u64 x.req.d, .int .i64 x.node]
theorem idP_any (x : PodD) (w : World) : Calls Tryd.prog 54 #[aggP x] w fun e w' => e = .returned (.int .i64 x.id) ∧ Below w.heap.size w w' := by
  go_enter Tryd.func54, Tryd.ntmps54
  go_wp2
  go_ret
  exact ⟨rfl, (Below.refl _ _).alloc (Nat.le_refl _) _⟩

abbrev aggW (x : WantD) : Value := .agg #[.int .i64 x.pod, .int .u64 x.req.a, .int .u64 x.req.b, .int .u64 x.req.c, .int .u64 x.req.d, .bool x.stay]
theorem fits_below (w : World) (o o' : Obj) (n : Nat) : Below w.heap.size w (((w.alloc o).alloc o').drewN n) := let k := below_two w o o'; ⟨k.os, k.tape, k.output, k.size, k.block⟩
theorem fits_below2 (w : World) (o o' : Obj) (n m : Nat) : Below w.heap.size w ((((w.alloc o).alloc o').drewN n).drewN m) := let k := fits_below w o o' n; ⟨k.os, k.tape, k.output, k.size, k.block⟩
set_option maxHeartbeats 1600000 in
/-- vec.Fits. -/
theorem fits_any (x y : V4) (w : World) : Calls Tryd.prog 69 #[aggV x, aggV y] w fun e w' => e = .returned (.bool (x.le y)) ∧ Below w.heap.size w w' := by

  by_cases h0 : x.a ≤ y.a
  · have d0 : decide (y.a < x.a) = false := decide_eq_false (by omega)
    by_cases h1 : x.b ≤ y.b
    · have d1 : decide (y.b < x.b) = false := decide_eq_false (by omega)
      by_cases h2 : x.c ≤ y.c
      · have d2 : decide (y.c < x.c) = false := decide_eq_false (by omega)
        by_cases h3 : x.d ≤ y.d
        · have d3 : decide (y.d < x.d) = false := decide_eq_false (by omega)
          have HE := Lib.hid (show x.le y = true by simp [V4.le, h0, h1, h2, h3])
          go_enter Tryd.func69, Tryd.ntmps69
          go_wp2
          refine wp_loop_rounds 5 ?_
          rw [rounds_succ]
          go_wp2
          go_quiet (fail)
          go_wp2
          rw [rounds_succ]
          go_wp2
          go_quiet (fail)
          go_wp2
          rw [rounds_succ]
          go_wp2
          go_quiet (fail)
          go_wp2
          rw [rounds_succ]
          go_wp2
          go_quiet (fail)
          go_wp2
          rw [rounds_succ]
          go_wp2
          go_ret
          refine ⟨ret_bool HE.out.symm, ?_⟩
          first | exact fits_below _ _ _ _ | exact fits_below2 _ _ _ _ _
        · have d3 : decide (y.d < x.d) = true := decide_eq_true (by omega)
          have HE := Lib.hid (show x.le y = false by simp [V4.le, h3])
          go_enter Tryd.func69, Tryd.ntmps69
          go_wp2
          refine wp_loop_rounds 5 ?_
          rw [rounds_succ]
          go_wp2
          go_quiet (fail)
          go_wp2
          rw [rounds_succ]
          go_wp2
          go_quiet (fail)
          go_wp2
          rw [rounds_succ]
          go_wp2
          go_quiet (fail)
          go_wp2
          rw [rounds_succ]
          go_wp2
          go_quiet (fail)
          go_wp2
          go_ret
          refine ⟨ret_bool HE.out.symm, ?_⟩
          first | exact fits_below _ _ _ _ | exact fits_below2 _ _ _ _ _
      · have d2 : decide (y.c < x.c) = true := decide_eq_true (by omega)
        have HE := Lib.hid (show x.le y = false by simp [V4.le, h2])
        go_enter Tryd.func69, Tryd.ntmps69
        go_wp2
        refine wp_loop_rounds 5 ?_
        rw [rounds_succ]
        go_wp2
        go_quiet (fail)
        go_wp2
        rw [rounds_succ]
        go_wp2
        go_quiet (fail)
        go_wp2
        rw [rounds_succ]
        go_wp2
        go_quiet (fail)
        go_wp2
        go_ret
        refine ⟨ret_bool HE.out.symm, ?_⟩
        first | exact fits_below _ _ _ _ | exact fits_below2 _ _ _ _ _
    · have d1 : decide (y.b < x.b) = true := decide_eq_true (by omega)
      have HE := Lib.hid (show x.le y = false by simp [V4.le, h1])
      go_enter Tryd.func69, Tryd.ntmps69
      go_wp2
      refine wp_loop_rounds 5 ?_
      rw [rounds_succ]
      go_wp2
      go_quiet (fail)
      go_wp2
      rw [rounds_succ]
      go_wp2
      go_quiet (fail)
      go_wp2
      go_ret
      refine ⟨ret_bool HE.out.symm, ?_⟩
      first | exact fits_below _ _ _ _ | exact fits_below2 _ _ _ _ _
  · have d0 : decide (y.a < x.a) = true := decide_eq_true (by omega)
    have HE := Lib.hid (show x.le y = false by simp [V4.le, h0])
    go_enter Tryd.func69, Tryd.ntmps69
    go_wp2
    refine wp_loop_rounds 5 ?_
    rw [rounds_succ]
    go_wp2
    go_quiet (fail)
    go_wp2
    go_ret
    refine ⟨ret_bool HE.out.symm, ?_⟩
    first | exact fits_below _ _ _ _ | exact fits_below2 _ _ _ _ _

end Go.Proofs.YtjpaeaedfgiomaaDoor
