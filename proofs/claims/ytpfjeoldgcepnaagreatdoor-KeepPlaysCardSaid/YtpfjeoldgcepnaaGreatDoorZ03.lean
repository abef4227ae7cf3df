/- Joined texts, part 3: E K Is Told CG DA RO FM MC UA UO YO XO. -/
import Derived.Test.YtpfjeoldgcepnaaGreatDoorRows
import Derived.WalkKit
import Derived.LaidEql
import Derived.LaidEqlPtr
import Derived.Stop.Asserts
import Derived.RowKitTokens
import Derived.WalkSpells
import Derived.WalkLawsBesides
import Derived.Lib.Hide
import Derived.Test.YtpfjeoldgcepnaaGreatDoorZ02
import Derived.Test.YtpfjeoldgcepnaaGreatDoorZ01
import Derived.Deep.QuietTactic
import Derived.BigQuiet
import Derived.Deep.RegionHeld3
import Derived.ChangeSame
import Derived.ChangeVars
import Derived.JoinedOf
import Derived.RowKit
import Derived.Carry
import Derived.ChangeSlices

/- errors.As and errors.Is at the errors that package wire tells: a nil error, and a *api.Spot. -/
namespace Go.Proofs.YtpfjeoldgcepnaaGreatDoor
set_option linter.unusedSimpArgs false
open Go.RowKit Go.Extern.Stop Go.Stop Go.Extern
set_option linter.unusedVariables false

/-! ### CLOSED FACTS ON THE MODEL's ENTRIES FOR internal/reflectlite, at this program's types: 51: *api.Spot, 53: **api.Spot, 28: error, 73: reflectlite's rtype; 1: how many package-level variables the dump has -/
theorem Tryz.valueOfPSpot (t : Addr) (w : World) : (ReflectliteValue.unpack (.iface 131 (.pointer (some t)))).run Tryz.prog w
    = .ok (.agg #[.pointer (some ⟨1, 131, none⟩), .pointer (some ⟨w.heap.size, 0, none⟩), .int .u64 150]) (w.alloc (.cells #[.pointer (some t)] 131)) := by kernel_rfl
theorem Tryz.typePSpot (a : Addr) (w : World) : (ReflectliteValue.methodAny (ReflectliteValue.valueError "reflectlite.Value.Type" 0) (fun t _ _ _ => ReflectliteType.toType t) #[.agg #[.pointer (some ⟨1, 131, none⟩), .pointer (some a), .int .u64 150]]).run Tryz.prog w
    = .ok (.iface 201 (.agg #[.pointer (some ⟨1, 131, none⟩)])) w := by kernel_rfl
theorem Tryz.methodKind (h : Value) (w : World) : (Go.method 389 201 (.agg #[h]) "Kind").run Tryz.prog w = .ok (206, h) w := by kernel_rfl
theorem Tryz.kindPSpot (w : World) : ((ReflectliteType.abiMethod fun t => (fun a : Nat => Value.int IntKind.u8 (a : Int)) <$> Rtype.kind t) #[.pointer (some ⟨1, 131, none⟩)]).run Tryz.prog w = .ok (.int .u8 22) w := by kernel_rfl
theorem Tryz.kindSpot (w : World) : ((ReflectliteType.abiMethod fun t => (fun a : Nat => Value.int IntKind.u8 (a : Int)) <$> Rtype.kind t) #[.pointer (some ⟨1, 129, none⟩)]).run Tryz.prog w = .ok (.int .u8 22) w := by kernel_rfl

/-! ### THE ENTRIES THAT READ OR WRITE MEMORY: laws with a premise on the cell (after Derived/Lib/ReflectliteSlice.lean's manner: each unfolding a lemma of its own, by rfl) -/
theorem rlm (z : Sem Value) (f : TypeId → Addr → Nat → Nat → Sem Value) (v : Value) :
    ReflectliteValue.method z f #[v] = (do match ← ReflectliteValue.parts v with | none => z | some (t, a, fl) => f t a fl (fl % 32)) := rfl
theorem Tryz.partsPSpot (a : Addr) (w : World) : (ReflectliteValue.parts (.agg #[.pointer (some ⟨1, 131, none⟩), .pointer (some a), .int .u64 150])).run Tryz.prog w = .ok (some (131, a, 150)) w := by kernel_rfl
/-- (Value).IsNil at the Value of a **api.Spot that is not nil. -/
theorem Tryz.isNilPSpot (a p : Addr) (W : World) (ha : W.cell? a = some (.pointer (some p))) :
    (ReflectliteValue.method (ReflectliteValue.valueError "reflectlite.Value.IsNil" 0) ReflectliteValue.isNil #[.agg #[.pointer (some ⟨1, 131, none⟩), .pointer (some a), .int .u64 150]]).run Tryz.prog W = .ok (.bool false) W := by
  rw [rlm]
  simp only [Sem.run_bind, Tryz.partsPSpot, Result.andThen]
  simp [ReflectliteValue.isNil, loadVar, isAgg, underlying, Tryz.underlying131, ha, Result.andThen]

theorem Tryz.methodElem (h : Value) (w : World) : (Go.method 389 201 (.agg #[h]) "Elem").run Tryz.prog w = .ok (218, .agg #[h]) w := by kernel_rfl
theorem Tryz.methodImplements (h : Value) (w : World) : (Go.method 389 201 (.agg #[h]) "Implements").run Tryz.prog w = .ok (219, .agg #[h]) w := by kernel_rfl
theorem Tryz.methodAssignableTo (h : Value) (w : World) : (Go.method 389 201 (.agg #[h]) "AssignableTo").run Tryz.prog w = .ok (216, .agg #[h]) w := by kernel_rfl
theorem Tryz.elemPSpot (w : World) : (ReflectliteType.method ReflectliteType.elem #[.agg #[.pointer (some ⟨1, 131, none⟩)]]).run Tryz.prog w = .ok (.iface 201 (.agg #[.pointer (some ⟨1, 129, none⟩)])) w := by kernel_rfl
theorem Tryz.implementsSpot (w : World) : (ReflectliteType.relation "Implements" ReflectliteType.implements_ #[.agg #[.pointer (some ⟨1, 129, none⟩)], .iface 201 (.agg #[.pointer (some ⟨1, 35, none⟩)])]).run Tryz.prog w = .ok (.bool true) w := by kernel_rfl
theorem Tryz.typeOfSpot (v : Value) (w : World) : (ReflectliteType.typeOf #[.iface 129 v]).run Tryz.prog w = .ok (.iface 201 (.agg #[.pointer (some ⟨1, 129, none⟩)])) w := by kernel_rfl
theorem Tryz.assignableSpot (w : World) : (ReflectliteType.relation "AssignableTo" ReflectliteType.assignableTo #[.agg #[.pointer (some ⟨1, 129, none⟩)], .iface 201 (.agg #[.pointer (some ⟨1, 129, none⟩)])]).run Tryz.prog w = .ok (.bool true) w := by kernel_rfl
theorem Tryz.valueOfSpot (e : Addr) (w : World) : (ReflectliteValue.unpack (.iface 129 (.pointer (some e)))).run Tryz.prog w
    = .ok (.agg #[.pointer (some ⟨1, 129, none⟩), .pointer (some ⟨w.heap.size, 0, none⟩), .int .u64 150]) (w.alloc (.cells #[.pointer (some e)] 129)) := by kernel_rfl

theorem Tryz.elemOfPSpot (w : World) : (Rtype.elem? 131).run Tryz.prog w = .ok (some 129) w := by kernel_rfl
theorem Tryz.mkSpot (p : Addr) (w : World) : (ReflectliteValue.mk 129 p ReflectliteValue.flagAddr).run Tryz.prog w = .ok (.agg #[.pointer (some ⟨1, 129, none⟩), .pointer (some p), .int .u64 406]) w := by kernel_rfl
/-- (Value).Elem at the Value of a **api.Spot that is not nil: the Value of the *api.Spot variable that it points to, addressable. -/
theorem Tryz.elemVPSpot (a p : Addr) (W : World) (ha : W.cell? a = some (.pointer (some p))) :
    (ReflectliteValue.method (ReflectliteValue.valueError "reflectlite.Value.Elem" 0) ReflectliteValue.elem #[.agg #[.pointer (some ⟨1, 131, none⟩), .pointer (some a), .int .u64 150]]).run Tryz.prog W
      = .ok (.agg #[.pointer (some ⟨1, 129, none⟩), .pointer (some p), .int .u64 406]) W := by
  rw [rlm]
  simp only [Sem.run_bind, Tryz.partsPSpot, Result.andThen]
  simp [ReflectliteValue.elem, loadVar, isAgg, underlying, Tryz.underlying131, ha, Result.andThen, Tryz.elemOfPSpot, Tryz.mkSpot]
theorem Tryz.partsSpotA (a : Addr) (w : World) : (ReflectliteValue.parts (.agg #[.pointer (some ⟨1, 129, none⟩), .pointer (some a), .int .u64 406])).run Tryz.prog w = .ok (some (129, a, 406)) w := by kernel_rfl
theorem Tryz.partsSpot (a : Addr) (w : World) : (ReflectliteValue.parts (.agg #[.pointer (some ⟨1, 129, none⟩), .pointer (some a), .int .u64 150])).run Tryz.prog w = .ok (some (129, a, 150)) w := by kernel_rfl
theorem Tryz.directSpot (w : World) : (Rtype.directlyAssignable 129 129).run Tryz.prog w = .ok true w := by kernel_rfl
/-- (Value).Set: the *api.Spot variable at 'ta' gets what the Value's own variable 'b' holds. -/
theorem Tryz.setSpot (ta b e : Addr) (old : Value) (W : World) (hb : W.cell? b = some (.pointer (some e))) (ht : W.cell? ta = some old) (hf : W.frozen? ta = false) :
    (ReflectliteValue.set #[.agg #[.pointer (some ⟨1, 129, none⟩), .pointer (some ta), .int .u64 406], .agg #[.pointer (some ⟨1, 129, none⟩), .pointer (some b), .int .u64 150]]).run Tryz.prog W
      = .ok (.tuple #[]) (W.setCell ta (.pointer (some e))) := by
  show (bind (ReflectliteValue.parts (.agg #[.pointer (some ⟨1, 129, none⟩), .pointer (some ta), .int .u64 406])) fun p => bind (ReflectliteValue.parts (.agg #[.pointer (some ⟨1, 129, none⟩), .pointer (some b), .int .u64 150])) _ : Sem Value).run Tryz.prog W = _
  simp only [Sem.run_bind, Tryz.partsSpotA, Tryz.partsSpot, Result.andThen]
  simp [ReflectliteValue.flagAddr, loadVar, isAgg, underlying, Tryz.underlying129, hb, Result.andThen, Tryz.directSpot, storeVar, Value.cells, storeCells, Addr.add]
  rw [run_store Tryz.prog W ta _ _ (by rfl)]
  simp [ht, hf]

set_option maxHeartbeats 4000000 in
theorem as_hit (e t : Addr) (old : Value) (w : World) (hg : w.cell? ⟨0, 0, none⟩ = some (.iface 201 (.agg #[.pointer (some ⟨1, 35, none⟩)]))) (ht0 : w.cell? t = some old) (hf0 : w.frozen? t = false) :
    Calls Tryz.prog 71 #[.iface 129 (.pointer (some e)), .iface 131 (.pointer (some t))] w fun ev w' => ev = .returned (.bool true) ∧ w' = ((((w.alloc (.cells #[.pointer (some t)] 131)).alloc (.cells #[.pointer (some ⟨1, 131, none⟩), .pointer (some ⟨w.heap.size, 0, none⟩), .int .u64 150] 176)).alloc (.cells #[.pointer (some ⟨1, 131, none⟩), .pointer (some ⟨w.heap.size, 0, none⟩), .int .u64 150] 176)).alloc (.cells #[.pointer (some e)] 129)).setCell t (.pointer (some e)) := by
  have h6 := @run_callFunc_extern Tryz.prog 110 _ (fun args => ReflectliteValue.unpack (args.getD 0 (.tuple #[]))) Tryz.func110 (by kernel_rfl) (by kernel_rfl) (by kernel_rfl) (by kernel_rfl)
  have h7 := @run_callFunc_extern Tryz.prog 111 _ (ReflectliteValue.methodAny (ReflectliteValue.valueError "reflectlite.Value.Type" 0) (fun t _ _ _ => ReflectliteType.toType t)) Tryz.func111 (by kernel_rfl) (by kernel_rfl) (by kernel_rfl) (by kernel_rfl)
  have h8 := @run_callFunc_extern Tryz.prog 112 _ (ReflectliteValue.method (ReflectliteValue.valueError "reflectlite.Value.IsNil" 0) ReflectliteValue.isNil) Tryz.func112 (by kernel_rfl) (by kernel_rfl) (by kernel_rfl) (by kernel_rfl)
  have h27 := @run_callFunc_extern Tryz.prog 206 _ (ReflectliteType.abiMethod fun t => do pure (.int .u8 (← Rtype.kind t))) Tryz.func206 (by kernel_rfl) (by kernel_rfl) (by kernel_rfl) (by kernel_rfl)
  have h37 := @run_callFunc_extern Tryz.prog 218 _ (ReflectliteType.method ReflectliteType.elem) Tryz.func218 (by kernel_rfl) (by kernel_rfl) (by kernel_rfl) (by kernel_rfl)
  have h38 := @run_callFunc_extern Tryz.prog 219 _ (ReflectliteType.relation "Implements" ReflectliteType.implements_) Tryz.func219 (by kernel_rfl) (by kernel_rfl) (by kernel_rfl) (by kernel_rfl)
  have h10 := @run_callFunc_extern Tryz.prog 114 _ ReflectliteType.typeOf Tryz.func114 (by kernel_rfl) (by kernel_rfl) (by kernel_rfl) (by kernel_rfl)
  have h35 := @run_callFunc_extern Tryz.prog 216 _ (ReflectliteType.relation "AssignableTo" ReflectliteType.assignableTo) Tryz.func216 (by kernel_rfl) (by kernel_rfl) (by kernel_rfl) (by kernel_rfl)
  have h11 := @run_callFunc_extern Tryz.prog 132 _ (ReflectliteValue.method (ReflectliteValue.valueError "reflectlite.Value.Elem" 0) ReflectliteValue.elem) Tryz.func132 (by kernel_rfl) (by kernel_rfl) (by kernel_rfl) (by kernel_rfl)
  have h12 := @run_callFunc_extern Tryz.prog 133 _ ReflectliteValue.set Tryz.func133 (by kernel_rfl) (by kernel_rfl) (by kernel_rfl) (by kernel_rfl)
  have tO := Tryz.typeOfSpot
  have mA := Tryz.methodAssignableTo
  have a25 := Tryz.assignableSpot
  have v25 := Tryz.valueOfSpot
  have f6 := Tryz.valueOfPSpot
  have f7 := Tryz.typePSpot
  have mK := Tryz.methodKind
  have mE := Tryz.methodElem
  have mI := Tryz.methodImplements
  have k27 := Tryz.kindPSpot
  have k25 := Tryz.kindSpot
  have e27 := Tryz.elemPSpot
  have i25 := Tryz.implementsSpot
  have n8 := Tryz.isNilPSpot ⟨w.heap.size, 0, none⟩ t ((w.alloc (.cells #[.pointer (some t)] 131)).alloc (.cells #[.pointer (some ⟨1, 131, none⟩), .pointer (some ⟨w.heap.size, 0, none⟩), .int .u64 150] 176)) (by simp)
  have hlt : 0 < w.heap.size := by
    rcases Nat.eq_zero_or_pos w.heap.size with h0 | h
    · simp [World.cell?, h0] at hg
    · exact h
  have hg2 : ((w.alloc (.cells #[.pointer (some t)] 131)).alloc (.cells #[.pointer (some ⟨1, 131, none⟩), .pointer (some ⟨w.heap.size, 0, none⟩), .int .u64 150] 176)).cell? ⟨0, 0, none⟩ = some (.iface 201 (.agg #[.pointer (some ⟨1, 35, none⟩)])) := by
    rw [World.cell?_alloc_lt _ _ ⟨0, 0, none⟩ (by simp), World.cell?_alloc_lt _ _ ⟨0, 0, none⟩ hlt]; exact hg
  have htl : t.block < w.heap.size := by
    rcases Nat.lt_or_ge t.block w.heap.size with h | h
    · exact h
    · simp [World.cell?, Array.getElem?_eq_none h] at ht0
  have el := Tryz.elemVPSpot ⟨w.heap.size, 0, none⟩ t (((w.alloc (.cells #[.pointer (some t)] 131)).alloc (.cells #[.pointer (some ⟨1, 131, none⟩), .pointer (some ⟨w.heap.size, 0, none⟩), .int .u64 150] 176)).alloc (.cells #[.pointer (some ⟨1, 131, none⟩), .pointer (some ⟨w.heap.size, 0, none⟩), .int .u64 150] 176)) (by rw [World.cell?_alloc_lt _ _ ⟨w.heap.size, 0, none⟩ (by simp; omega)]; simp)
  have st := Tryz.setSpot t ⟨w.heap.size + 1 + 1 + 1, 0, none⟩ e old ((((w.alloc (.cells #[.pointer (some t)] 131)).alloc (.cells #[.pointer (some ⟨1, 131, none⟩), .pointer (some ⟨w.heap.size, 0, none⟩), .int .u64 150] 176)).alloc (.cells #[.pointer (some ⟨1, 131, none⟩), .pointer (some ⟨w.heap.size, 0, none⟩), .int .u64 150] 176)).alloc (.cells #[.pointer (some e)] 129))
    (by rw [World.cell?_alloc_at _ _ _ _ (by simp)]; rfl)
    (by rw [World.cell?_alloc_lt _ _ t (by simp; omega), World.cell?_alloc_lt _ _ t (by simp; omega), World.cell?_alloc_lt _ _ t (by simp; omega), World.cell?_alloc_lt _ _ t htl]; exact ht0)
    (by rw [World.frozen?_alloc_old _ _ t (by simp; omega), World.frozen?_alloc_old _ _ t (by simp; omega), World.frozen?_alloc_old _ _ t (by simp; omega), World.frozen?_alloc_old _ _ t (Nat.ne_of_lt htl)]; exact hf0)
  go_enter Tryz.func71, Tryz.ntmps71
  go_wp2
  refine wp_loop_rounds 1 ?_
  rw [rounds_succ]
  go_wp2
  go_ret
  exact ⟨rfl, rfl⟩
end Go.Proofs.YtpfjeoldgcepnaaGreatDoor

/- errors.Is of a *api.Spot and its own Code; dunnagelaw00.Is of such an error. -/
namespace Go.Proofs.YtpfjeoldgcepnaaGreatDoor
set_option linter.unusedSimpArgs false
open Go.RowKit Go.Extern.Stop Go.Stop Go.Extern
set_option linter.unusedVariables false

theorem Tryz.typeOfCode (v : Value) (w : World) : (ReflectliteType.typeOf #[.iface 98 v]).run Tryz.prog w = .ok (.iface 201 (.agg #[.pointer (some ⟨1, 98, none⟩)])) w := by kernel_rfl
theorem Tryz.comparableCode (w : World) : (callFunc 217 #[.agg #[.pointer (some ⟨1, 98, none⟩)]]).run Tryz.prog w = .ok (.value (.bool true)) w := by kernel_rfl
theorem Tryz.methodComparable (v : Value) (w : World) : (Go.method 389 201 v "Comparable").run Tryz.prog w = .ok (217, v) w := by kernel_rfl
theorem Tryz.noIsSpot (v : Value) (xT : TypeId) (w : World) : (Instr.typeAssert (.iface 129 v) xT 212 true).run Tryz.prog w = .ok (.tuple #[.nilIface, .bool false]) w := run_typeAssert_lacksB Tryz.underlying212 (by kernel_rfl) (by kernel_rfl) v xT w
theorem Tryz.hasUnwrapSpot (v : Value) (xT : TypeId) (w : World) : (Instr.typeAssert (.iface 129 v) xT 208 true).run Tryz.prog w = .ok (.tuple #[.iface 129 v, .bool true]) w := run_typeAssert_hasB Tryz.underlying208 (by kernel_rfl) v xT w
theorem Tryz.methodUnwrap (v : Value) (w : World) : (Go.method 389 129 v "Unwrap").run Tryz.prog w = .ok (211, v) w := by kernel_rfl
theorem Tryz.compCode : (Tryz.prog.info? 98).map (·.comparable) = some true := by kernel_rfl
theorem Tryz.compSpot : (Tryz.prog.info? 129).map (·.comparable) = some true := by kernel_rfl
theorem Tryz.sizeOfSpot : (Tryz.prog.info? 134).map (·.size) = some 2 := by kernel_rfl

theorem eql_codes (a : Int) (w : World) : (binOp .eql 35 (.iface 98 (.int .i64 a)) (.iface 98 (.int .i64 a))).run Tryz.prog w = .ok (.bool true) w := by
  obtain ⟨i, hi, hcmp⟩ := Option.map_eq_some_iff.1 Tryz.compCode
  have h : ∀ d : Nat, (Op.equalIn (d + 2) 35 (.iface 98 (.int .i64 a)) (.iface 98 (.int .i64 a))).run Tryz.prog w = .ok true w := fun d => by
    simp [Op.equalIn, run_underlying Tryz.underlying35, run_underlying Tryz.underlying98, typeInfo, hi, hcmp]
  simp only [binOp]
  simp [Op.equal, Op.maxDepth, h 9998]
theorem neq_spots (a : Addr) (w : World) : (binOp .neq 35 (.iface 129 (.pointer (some a))) (.iface 129 (.pointer (some a)))).run Tryz.prog w = .ok (.bool false) w := by
  obtain ⟨i, hi, hcmp⟩ := Option.map_eq_some_iff.1 Tryz.compSpot
  obtain ⟨j, hj, _⟩ := Option.map_eq_some_iff.1 Tryz.sizeOfSpot
  simp only [binOp]
  simp [Op.equal, Op.maxDepth, run_equalIn_iface_ptr_same w 9998 a Tryz.underlying35 Tryz.underlying129 hi hcmp hj]

set_option maxHeartbeats 4000000 in
theorem is_code (g : Nat) (k : Int) (w : World) (h : w.cell? ⟨g, 1, none⟩ = some (.int .i64 k)) :
    Calls Tryz.prog 72 #[.iface 129 (.pointer (some ⟨g, 0, none⟩)), .iface 98 (.int .i64 k)] w fun e w' => e = .returned (.bool true) ∧ w = w' := by
  have h28 := @run_callFunc_extern Tryz.prog 114 _ ReflectliteType.typeOf Tryz.func114 (by kernel_rfl) (by kernel_rfl) (by kernel_rfl) (by kernel_rfl)
  have tT := Tryz.typeOfCode
  have cT := Tryz.comparableCode
  have mR := Tryz.methodComparable
  have nE := Tryz.noIsSpot
  have uW := Tryz.hasUnwrapSpot
  have mU := Tryz.methodUnwrap
  have heq := eql_codes k w
  have hty := run_eql_iface_types (P := Tryz.prog) 129 98 (.pointer (some ⟨g, 0, none⟩)) (.int .i64 k) Tryz.underlying35 (by decide) w
  go_enter Tryz.func72, Tryz.ntmps72
  go_wp2
  refine wp_loop_rounds 2 ?_
  rw [rounds_succ]
  go_wp2
  rw [rounds_succ]
  go_wp2
  go_ret
  exact ⟨rfl, rfl⟩
end Go.Proofs.YtpfjeoldgcepnaaGreatDoor

/- errors.As and dunnagelaw00.Is of a Spot: what they tell, and what stays. -/
namespace Go.Proofs.YtpfjeoldgcepnaaGreatDoor
set_option linter.unusedSimpArgs false
open Go.RowKit
set_option linter.unusedVariables false

/-- errors.As of a Spot: the target points to it; nothing below the target's block has turned. -/
theorem as_told (e : Addr) (B : Nat) (old : Value) (w : World) (hg : w.cell? ⟨0, 0, none⟩ = some (.iface 201 (.agg #[.pointer (some ⟨1, 35, none⟩)]))) (ht0 : w.cell? ⟨B, 0, none⟩ = some old) (hf0 : w.frozen? ⟨B, 0, none⟩ = false) :
    Calls Tryz.prog 71 #[.iface 129 (.pointer (some e)), .iface 131 (.pointer (some ⟨B, 0, none⟩))] w fun ev w' => ev = .returned (.bool true) ∧ w'.cell? ⟨B, 0, none⟩ = some (.pointer (some e)) ∧ Below B w w' := by
  have htl : B < w.heap.size := World.block_lt_of_cell? w ⟨B, 0, none⟩ ht0
  refine (as_hit e ⟨B, 0, none⟩ old w hg ht0 hf0).mono ?_
  rintro ev w' ⟨h1, h2⟩
  subst h2
  have hold : ((((w.alloc (.cells #[.pointer (some ⟨B, 0, none⟩)] 131)).alloc (.cells #[.pointer (some ⟨1, 131, none⟩), .pointer (some ⟨w.heap.size, 0, none⟩), .int .u64 150] 176)).alloc (.cells #[.pointer (some ⟨1, 131, none⟩), .pointer (some ⟨w.heap.size, 0, none⟩), .int .u64 150] 176)).alloc (.cells #[.pointer (some e)] 129)).cell? ⟨B, 0, none⟩ = some old := by
    rw [World.cell?_alloc_lt _ _ ⟨B, 0, none⟩ (by simp; omega), World.cell?_alloc_lt _ _ ⟨B, 0, none⟩ (by simp; omega), World.cell?_alloc_lt _ _ ⟨B, 0, none⟩ (by simp; omega), World.cell?_alloc_lt _ _ ⟨B, 0, none⟩ htl]; exact ht0
  refine ⟨h1, World.cell?_setCell_same _ _ _ hold, ?_⟩
  · exact (((((Below.refl B w).alloc (by omega) _).alloc (by simp; omega) _).alloc (by simp; omega) _).alloc (by simp; omega) _).setCell (p := ⟨B, 0, none⟩) (Nat.le_refl _) _

set_option maxHeartbeats 800000 in
/-- dunnagelaw00.Is of a Spot itself, at its place, with its Code. -/
theorem Is_yes (g : Nat) (p k : Int) (w : World) (hg : w.cell? ⟨0, 0, none⟩ = some (.iface 201 (.agg #[.pointer (some ⟨1, 35, none⟩)]))) (hb : w.heap[g]? = some (.cells #[.int .i64 p, .int .i64 k] 134 (0, 0))) :
    Calls Tryz.prog 35 #[.iface 129 (.pointer (some ⟨g, 0, none⟩)), .int .i64 p, .int .i64 k] w fun e w' => e = .returned (.bool true) ∧ Below w.heap.size w w' := by
  have hgl : g < w.heap.size := (Array.getElem?_eq_some_iff.1 hb).1
  have h0l : 0 < w.heap.size := by omega
  have hgA : (w.alloc (.cells #[.pointer none] 129)).cell? ⟨0, 0, none⟩ = some (.iface 201 (.agg #[.pointer (some ⟨1, 35, none⟩)])) := by rw [World.cell?_alloc_lt _ _ ⟨0, 0, none⟩ h0l]; exact hg
  have htA : (w.alloc (.cells #[.pointer none] 129)).cell? ⟨w.heap.size, 0, none⟩ = some (.pointer none) := by simp
  have hfA : (w.alloc (.cells #[.pointer none] 129)).frozen? ⟨w.heap.size, 0, none⟩ = false := by simp
  have hne := neq_spots ⟨g, 0, none⟩
  have HB := Lib.hid hb
  have HG := Lib.hid hgA
  have HT := Lib.hid htA
  have HF := Lib.hid hfA
  clear hb hg hgA htA hfA
  go_enter Tryz.func35, Tryz.ntmps35
  go_wp2_with fail
  refine (as_told ⟨g, 0, none⟩ w.heap.size (.pointer none) _ HG.out HT.out HF.out).mono ?_
  rintro e w1 ⟨rfl, hcs, hb1⟩
  have hbw : Below w.heap.size w w1 := ((Below.refl _ w).alloc (Nat.le_refl _) _).trans hb1
  have hc0 : w1.cell? ⟨g, 0, none⟩ = some (.int .i64 p) := by rw [hbw.cell (p := ⟨g, 0, none⟩) hgl]; simp [World.cell?, HB.out]
  have hc1 : w1.cell? ⟨g, 1, none⟩ = some (.int .i64 k) := by rw [hbw.cell (p := ⟨g, 1, none⟩) hgl]; simp [World.cell?, HB.out]
  go_wp2_with fail
  refine (is_code g k _ hc1).mono ?_
  rintro e w1 ⟨rfl, rfl⟩
  go_wp2
  go_ret
  exact ⟨rfl, hbw⟩

end Go.Proofs.YtpfjeoldgcepnaaGreatDoor

/- dunnagelaw00.Code and Told, at the errors that a layer tells: none, a Code itself, a Spot. -/
namespace Go.Proofs.YtpfjeoldgcepnaaGreatDoor
set_option linter.unusedSimpArgs false
open Go.RowKit
set_option linter.unusedVariables false

theorem eql_code (a b : Int) (w : World) : (binOp .eql 35 (.iface 98 (.int .i64 a)) (.iface 98 (.int .i64 b))).run Tryz.prog w = .ok (.bool (a == b)) w := by
  obtain ⟨i, hi, hcmp⟩ := Option.map_eq_some_iff.1 Tryz.compCode
  have h : ∀ d : Nat, (Op.equalIn (d + 2) 35 (.iface 98 (.int .i64 a)) (.iface 98 (.int .i64 b))).run Tryz.prog w = .ok (a == b) w := fun d => by
    simp [Op.equalIn, run_underlying Tryz.underlying35, run_underlying Tryz.underlying98, typeInfo, hi, hcmp]
  simp only [binOp]
  simp [Op.equal, Op.maxDepth, h 9998]
def CodeRel (c : Int) (x : Value) : Prop := ∃ k : Int, 1 ≤ k ∧ k ≤ c ∧ x = .int .i64 k
theorem code_any (c : Int) (h1 : 1 ≤ c) (h2 : c ≤ 17) (w : World) : Calls Tryz.prog 12 #[.iface 98 (.int .i64 c)] w fun e w' => e = .returned (.int .i64 c) ∧ w = w' := by
  have heq := eql_code
  go_enter Tryz.func12, Tryz.ntmps12
  go_wp2
  go_loop [3] (CodeRel c) (fun x => (17 - intOf x).toNat)
  case atStart => exact ⟨1, by omega, h1, rfl⟩
  case round =>
    obtain ⟨k, hk1, hk2, rfl⟩ := hrel
    by_cases hc : c = k
    · subst hc
      go_wp2
      go_ret
      exact ⟨rfl, rfl⟩
    · have hb : (c == k) = false := by simpa using hc
      go_wp2
      go_round
      case rel => exact ⟨k + 1, by omega, by omega, rfl⟩
      case measure => simp [intOf]; omega
theorem code_nil (w : World) : Calls Tryz.prog 12 #[.nilIface] w fun e w' => e = .returned (.int .i64 0) ∧ w = w' := by
  go_enter Tryz.func12, Tryz.ntmps12
  go_wp2
  go_ret
  exact ⟨rfl, rfl⟩

/-- dunnagelaw00.Told of a Code itself. -/
theorem told_self (c : Int) (h1 : 1 ≤ c) (h2 : c ≤ 17) (w : World) : Calls Tryz.prog 9 #[.iface 98 (.int .i64 c), .int .i64 c, .int .i64 (-1)] w fun e w' => e = .returned (.bool true) ∧ w = w' := by
  go_enter Tryz.func9, Tryz.ntmps9
  go_wp2_with fail
  refine (code_any c h1 h2 _).mono ?_
  rintro e w1 ⟨rfl, rfl⟩
  go_wp2
  go_ret
  exact ⟨rfl, rfl⟩
theorem told_nil (w : World) : Calls Tryz.prog 9 #[.nilIface, .int .i64 0, .int .i64 (-1)] w fun e w' => e = .returned (.bool true) ∧ w = w' := by
  go_enter Tryz.func9, Tryz.ntmps9
  go_wp2_with fail
  refine (code_nil _).mono ?_
  rintro e w1 ⟨rfl, rfl⟩
  go_wp2
  go_ret
  exact ⟨rfl, rfl⟩
theorem told_spot (g : Nat) (p : Nat) (c : Int) (w : World) (hg : w.cell? ⟨0, 0, none⟩ = some (.iface 201 (.agg #[.pointer (some ⟨1, 35, none⟩)]))) (hb : w.heap[g]? = some (.cells #[.int .i64 (p : Int), .int .i64 c] 134 (0, 0))) :
    Calls Tryz.prog 9 #[.iface 129 (.pointer (some ⟨g, 0, none⟩)), .int .i64 c, .int .i64 (p : Int)] w fun e w' => e = .returned (.bool true) ∧ Below w.heap.size w w' := by
  have HB := Lib.hid hb
  have HG := Lib.hid hg
  clear hb hg
  go_enter Tryz.func9, Tryz.ntmps9
  go_wp2_with fail
  refine (Is_yes g p c _ HG.out HB.out).mono ?_
  rintro e w1 ⟨rfl, hb1⟩
  go_wp2
  go_ret
  exact ⟨rfl, hb1⟩
end Go.Proofs.YtpfjeoldgcepnaaGreatDoor

/- What a call of layer 3 that tells an error comes to; the law ClusterChecks, walked, from what its callees come to. -/
namespace Go.Proofs.YtpfjeoldgcepnaaGreatDoor
set_option linter.unusedSimpArgs false
open Go.RowKit
set_option linter.unusedVariables false

/-- The error's number and its place (-1: itself) as an error: none, a Code itself, or a Spot of the call's own. -/
def ErrIs (p : Int × Int) (B : Nat) (w' : World) (u : Value) : Prop :=
  (p = (0, -1) ∧ u = .nilIface) ∨ (p.2 = -1 ∧ 1 ≤ p.1 ∧ p.1 ≤ 17 ∧ u = .iface 98 (.int .i64 p.1)) ∨
  ∃ k g : Nat, p.2 = k ∧ u = .iface 129 (.pointer (some ⟨g, 0, none⟩)) ∧ B ≤ g ∧ w'.heap[g]? = some (.cells #[.int .i64 (k : Int), .int .i64 p.1] 134 (0, 0))
def ErrTo (p : Int × Int) (w : World) (e : Ending) (w' : World) : Prop := ∃ u, e = .returned u ∧ ErrIs p w.heap.size w' u ∧ Below w.heap.size w w'
abbrev Laid (w : World) : Prop := w.cell? ⟨0, 0, none⟩ = some (.iface 201 (.agg #[.pointer (some ⟨1, 35, none⟩)]))
theorem Laid.below {w w' : World} {B : Nat} (h : Laid w) (hb : Below B w w') (hB : w.heap.size ≤ B) : Laid w' :=
  (hb.cell (p := ⟨0, 0, none⟩) (Nat.lt_of_lt_of_le (World.block_lt_of_cell? w _ h) hB)).trans h

theorem told_any (p : Int × Int) (B : Nat) (u : Value) (w : World) (hg : Laid w) (hu : ErrIs p B w u) :
    Calls Tryz.prog 9 #[u, .int .i64 p.1, .int .i64 p.2] w fun e w' => e = .returned (.bool true) ∧ Below w.heap.size w w' := by
  obtain ⟨a, b⟩ := p
  rcases hu with ⟨h1, rfl⟩ | ⟨h1, h2, h3, rfl⟩ | ⟨k, g, h1, rfl, _, h4⟩
  · injection h1 with h1 h2
    subst h1 h2
    exact (told_nil w).mono fun _ _ ⟨h1, h2⟩ => ⟨h1, h2 ▸ Below.refl _ _⟩
  · simp only at h1 h2 h3
    subst h1
    exact (told_self a h2 h3 w).mono fun _ _ ⟨h1, h2⟩ => ⟨h1, h2 ▸ Below.refl _ _⟩
  · simp only at h1 h4
    subst h1
    exact told_spot g k a w hg h4

abbrev snapV (A1 A2 A3 : Option Addr) (n1 c1 n2 c2 n3 c3 : Nat) : Value := .agg #[.slice A1 n1 c1, .slice A2 n2 c2, .slice A3 n3 c3]
abbrev specV (A4 : Option Addr) (n4 c4 : Nat) (x : SpecD) : Value := .agg #[.slice A4 n4 c4, .int .i64 x.preempts, .int .i64 x.shifts]
theorem ErrIs.below {p : Int × Int} {B : Nat} {w w' : World} {u : Value} (h : ErrIs p B w u) (hb : Below w.heap.size w w') : ErrIs p B w' u := by
  rcases h with h | h | ⟨k, g, h1, h2, h3, h4⟩
  · exact .inl h
  · exact .inr (.inl h)
  · exact .inr (.inr ⟨k, g, h1, h2, h3, (hb.block g (Array.getElem?_eq_some_iff.1 h4).1).trans h4⟩)

end Go.Proofs.YtpfjeoldgcepnaaGreatDoor

/- The program's small functions of layer 3: within, isCount, cmp.Compare, cmp.Or, spot, the Ids of records. -/
namespace Go.Proofs.YtpfjeoldgcepnaaGreatDoor
set_option linter.unusedSimpArgs false
open Go.RowKit
set_option linter.unusedVariables false

def inB (n lo hi : Int) : Bool := decide (lo ≤ n ∧ n ≤ hi)
theorem within_any (n lo hi : Int) (w : World) : Calls Tryz.prog 54 #[.int .i64 n, .int .i64 lo, .int .i64 hi] w fun e w' => e = .returned (.bool (inB n lo hi)) ∧ w = w' := by
  by_cases h1 : lo ≤ n
  · have hd1 : decide (lo ≤ n) = true := decide_eq_true h1
    by_cases h2 : n ≤ hi
    · have HE := Lib.hid (show inB n lo hi = true by simp [inB, h1, h2])
      have hd : decide (n ≤ hi) = true := decide_eq_true h2
      go_enter Tryz.func54, Tryz.ntmps54
      go_wp2
      go_ret
      exact ⟨ret_bool HE.out.symm, rfl⟩
    · have HE := Lib.hid (show inB n lo hi = false by simp [inB]; omega)
      have hd : decide (n ≤ hi) = false := decide_eq_false h2
      go_enter Tryz.func54, Tryz.ntmps54
      go_wp2
      go_ret
      exact ⟨ret_bool HE.out.symm, rfl⟩
  · have HE := Lib.hid (show inB n lo hi = false by simp [inB]; omega)
    have hd : decide (lo ≤ n) = false := decide_eq_false h1
    go_enter Tryz.func54, Tryz.ntmps54
    go_wp2
    go_ret
    exact ⟨ret_bool HE.out.symm, rfl⟩
theorem isCount_any (n : Int) (w : World) : Calls Tryz.prog 126 #[.int .i64 n] w fun e w' => e = .returned (.bool (countOk n)) ∧ w = w' := by
  have HE := Lib.hid (show inB n 0 100 = countOk n from rfl)
  go_enter Tryz.func126, Tryz.ntmps126
  go_wp2_with fail
  refine (within_any _ _ _ _).mono ?_
  rintro e w' ⟨rfl, rfl⟩
  go_wp2
  go_ret
  exact ⟨ret_bool HE.out, rfl⟩
theorem isNaN_any (n : Int) (w : World) : Calls Tryz.prog 129 #[.int .i64 n] w fun e w' => e = .returned (.bool false) ∧ w = w' := by
  have hd : (n != n) = false := by simp
  go_enter Tryz.func129, Tryz.ntmps129
  go_wp2
  go_ret
  exact ⟨rfl, rfl⟩
def cmpI (a b : Int) : Int := if a < b then -1 else if b < a then 1 else 0
theorem compare_any (a b : Int) (w : World) : Calls Tryz.prog 103 #[.int .i64 a, .int .i64 b] w fun e w' => e = .returned (.int .i64 (cmpI a b)) ∧ w = w' := by
  by_cases h1 : a < b
  · have HE := Lib.hid (show cmpI a b = -1 by simp [cmpI, h1])
    go_enter Tryz.func103, Tryz.ntmps103
    go_wp2_with (go_at_call 129; refine (isNaN_any _ _).mono ?_; rintro e w' ⟨rfl, rfl⟩)
    go_ret
    exact ⟨ret_int HE.out.symm, rfl⟩
  · by_cases h2 : b < a
    · have HE := Lib.hid (show cmpI a b = 1 by simp [cmpI, h1, h2])
      go_enter Tryz.func103, Tryz.ntmps103
      go_wp2_with (go_at_call 129; refine (isNaN_any _ _).mono ?_; rintro e w' ⟨rfl, rfl⟩)
      go_ret
      exact ⟨ret_int HE.out.symm, rfl⟩
    · have HE := Lib.hid (show cmpI a b = 0 by simp [cmpI, h1, h2])
      go_enter Tryz.func103, Tryz.ntmps103
      go_wp2_with (go_at_call 129; refine (isNaN_any _ _).mono ?_; rintro e w' ⟨rfl, rfl⟩)
      go_ret
      exact ⟨ret_int HE.out.symm, rfl⟩
def orI (a b : Int) : Int := if a = 0 then b else a
theorem or_any (a b : Int) (g : Nat) (w : World) (h0 : w.cell? ⟨g, 0, none⟩ = some (.int .i64 a)) (h1 : w.cell? ⟨g, 1, none⟩ = some (.int .i64 b)) :
    Calls Tryz.prog 55 #[.slice (some ⟨g, 0, none⟩) 2 2] w fun e w' => e = .returned (.int .i64 (orI a b)) ∧ w = w' := by
  by_cases ha : a = 0
  · subst ha
    by_cases hb : b = 0
    · subst hb
      go_enter Tryz.func55, Tryz.ntmps55
      go_wp2
      refine wp_loop_rounds 3 ?_
      rw [rounds_succ]
      go_wp2
      rw [rounds_succ]
      go_wp2
      rw [rounds_succ]
      go_wp2
      go_ret
      exact ⟨rfl, rfl⟩
    · have hm : (b != 0) = true := by simpa using hb
      have HE := Lib.hid (show orI 0 b = b from rfl)
      clear hb
      go_enter Tryz.func55, Tryz.ntmps55
      go_wp2
      refine wp_loop_rounds 3 ?_
      rw [rounds_succ]
      go_wp2
      rw [rounds_succ]
      go_wp2
      go_ret
      exact ⟨ret_int HE.out.symm, rfl⟩
  · have hm : (a != 0) = true := by simpa using ha
    have HE := Lib.hid (show orI a b = a by simp [orI, ha])
    clear ha
    go_enter Tryz.func55, Tryz.ntmps55
    go_wp2
    refine wp_loop_rounds 3 ?_
    rw [rounds_succ]
    go_wp2
    go_ret
    exact ⟨ret_int HE.out.symm, rfl⟩
theorem spot_any (p c : Int) (w : World) : Calls Tryz.prog 59 #[.int .i64 p, .int .i64 c] w fun e w' => e = .returned (.iface 129 (.pointer (some ⟨w.heap.size, 0, none⟩))) ∧ w' = w.alloc (.cells #[.int .i64 p, .int .i64 c] 134) := by
  go_enter Tryz.func59, Tryz.ntmps59
  go_wp2
  go_ret
  exact ⟨rfl, rfl⟩

abbrev aggN (x : NodeD) : Value := .agg #[.int .i64 x.id, .int .i64 x.zone, .int .u64 x.cap.a, .int .u64 x.cap.b, .int .u64 x.cap.c, .int .u64 x.cap.d, .int .u64 x.held.a, .int .u64 x.held.b, .int .u64 x.held.c, .int .u64 x.held.d]
theorem idN_any (x : NodeD) (w : World) : Calls Tryz.prog 88 #[aggN x] w fun e w' => e = .returned (.int .i64 x.id) ∧ Below w.heap.size w w' := by
  go_enter Tryz.func88, Tryz.ntmps88
  go_wp2
  go_ret
  exact ⟨rfl, (Below.refl _ _).alloc (Nat.le_refl _) _⟩

abbrev aggL (x : LoadD) : Value := .agg #[.int .i64 x.id, .bool x.apart, .int .i64 x.skew, .int .i64 x.min, .int .i64 x.max]
theorem idL_any (x : LoadD) (w : World) : Calls Tryz.prog 97 #[aggL x] w fun e w' => e = .returned (.int .i64 x.id) ∧ Below w.heap.size w w' := by
  go_enter Tryz.func97, Tryz.ntmps97
  go_wp2
  go_ret
  exact ⟨rfl, (Below.refl _ _).alloc (Nat.le_refl _) _⟩

abbrev aggP (x : PodD) : Value := .agg #[.int .i64 x.id, .int .i64 x.load, .int .i64 x.prio, .int .u64 x.req.a, .int .u64 x.req.b, .int .u64 x.req.c, .int .u64 x.req.d, .int .i64 x.node]
theorem idP_any (x : PodD) (w : World) : Calls Tryz.prog 100 #[aggP x] w fun e w' => e = .returned (.int .i64 x.id) ∧ Below w.heap.size w w' := by
  go_enter Tryz.func100, Tryz.ntmps100
  go_wp2
  go_ret
  exact ⟨rfl, (Below.refl _ _).alloc (Nat.le_refl _) _⟩

abbrev aggW (x : WantD) : Value := .agg #[.int .i64 x.pod, .int .u64 x.req.a, .int .u64 x.req.b, .int .u64 x.req.c, .int .u64 x.req.d, .bool x.stay]
theorem idW_any (x : WantD) (w : World) : Calls Tryz.prog 57 #[aggW x] w fun e w' => e = .returned (.int .i64 x.pod) ∧ Below w.heap.size w w' := by
  go_enter Tryz.func57, Tryz.ntmps57
  go_wp2
  go_ret
  exact ⟨rfl, (Below.refl _ _).alloc (Nat.le_refl _) _⟩

theorem fits_below (w : World) (o o' : Obj) (n : Nat) : Below w.heap.size w (((w.alloc o).alloc o').drewN n) := let k := below_two w o o'; ⟨k.os, k.tape, k.output, k.size, k.block⟩
theorem fits_below2 (w : World) (o o' : Obj) (n m : Nat) : Below w.heap.size w ((((w.alloc o).alloc o').drewN n).drewN m) := let k := fits_below w o o' n; ⟨k.os, k.tape, k.output, k.size, k.block⟩
set_option maxHeartbeats 1600000 in
/-- vec.Fits. -/
theorem fits_any (x y : V4) (w : World) : Calls Tryz.prog 63 #[aggV x, aggV y] w fun e w' => e = .returned (.bool (x.le y)) ∧ Below w.heap.size w w' := by

  by_cases h0 : x.a ≤ y.a
  · have d0 : decide (y.a < x.a) = false := decide_eq_false (by omega)
    by_cases h1 : x.b ≤ y.b
    · have d1 : decide (y.b < x.b) = false := decide_eq_false (by omega)
      by_cases h2 : x.c ≤ y.c
      · have d2 : decide (y.c < x.c) = false := decide_eq_false (by omega)
        by_cases h3 : x.d ≤ y.d
        · have d3 : decide (y.d < x.d) = false := decide_eq_false (by omega)
          have HE := Lib.hid (show x.le y = true by simp [V4.le, h0, h1, h2, h3])
          go_enter Tryz.func63, Tryz.ntmps63
          go_wp2
          refine wp_loop_rounds 5 ?_
          rw [rounds_succ]
          go_wp2
          go_quiet (fail)
          go_wp2
          rw [rounds_succ]
          go_wp2
          go_quiet (fail)
          go_wp2
          rw [rounds_succ]
          go_wp2
          go_quiet (fail)
          go_wp2
          rw [rounds_succ]
          go_wp2
          go_quiet (fail)
          go_wp2
          rw [rounds_succ]
          go_wp2
          go_ret
          refine ⟨ret_bool HE.out.symm, ?_⟩
          first | exact fits_below _ _ _ _ | exact fits_below2 _ _ _ _ _
        · have d3 : decide (y.d < x.d) = true := decide_eq_true (by omega)
          have HE := Lib.hid (show x.le y = false by simp [V4.le, h3])
          go_enter Tryz.func63, Tryz.ntmps63
          go_wp2
          refine wp_loop_rounds 5 ?_
          rw [rounds_succ]
          go_wp2
          go_quiet (fail)
          go_wp2
          rw [rounds_succ]
          go_wp2
          go_quiet (fail)
          go_wp2
          rw [rounds_succ]
          go_wp2
          go_quiet (fail)
          go_wp2
          rw [rounds_succ]
          go_wp2
          go_quiet (fail)
          go_wp2
          go_ret
          refine ⟨ret_bool HE.out.symm, ?_⟩
          first | exact fits_below _ _ _ _ | exact fits_below2 _ _ _ _ _
      · have d2 : decide (y.c < x.c) = true := decide_eq_true (by omega)
        have HE := Lib.hid (show x.le y = false by simp [V4.le, h2])
        go_enter Tryz.func63, Tryz.ntmps63
        go_wp2
        refine wp_loop_rounds 5 ?_
        rw [rounds_succ]
        go_wp2
        go_quiet (fail)
        go_wp2
        rw [rounds_succ]
        go_wp2
        go_quiet (fail)
        go_wp2
        rw [rounds_succ]
        go_wp2
        go_quiet (fail)
        go_wp2
        go_ret
        refine ⟨ret_bool HE.out.symm, ?_⟩
        first | exact fits_below _ _ _ _ | exact fits_below2 _ _ _ _ _
    · have d1 : decide (y.b < x.b) = true := decide_eq_true (by omega)
      have HE := Lib.hid (show x.le y = false by simp [V4.le, h1])
      go_enter Tryz.func63, Tryz.ntmps63
      go_wp2
      refine wp_loop_rounds 5 ?_
      rw [rounds_succ]
      go_wp2
      go_quiet (fail)
      go_wp2
      rw [rounds_succ]
      go_wp2
      go_quiet (fail)
      go_wp2
      go_ret
      refine ⟨ret_bool HE.out.symm, ?_⟩
      first | exact fits_below _ _ _ _ | exact fits_below2 _ _ _ _ _
  · have d0 : decide (y.a < x.a) = true := decide_eq_true (by omega)
    have HE := Lib.hid (show x.le y = false by simp [V4.le, h0])
    go_enter Tryz.func63, Tryz.ntmps63
    go_wp2
    refine wp_loop_rounds 5 ?_
    rw [rounds_succ]
    go_wp2
    go_quiet (fail)
    go_wp2
    go_ret
    refine ⟨ret_bool HE.out.symm, ?_⟩
    first | exact fits_below _ _ _ _ | exact fits_below2 _ _ _ _ _

end Go.Proofs.YtpfjeoldgcepnaaGreatDoor

/- Records in a row of the call's own read as these records. -/
namespace Go.Proofs.YtpfjeoldgcepnaaGreatDoor
set_option linter.unusedSimpArgs false
open Go.RowKit
set_option linter.unusedVariables false

theorem flatMap_get {α : Type} {size : Nat} {cells : α → List Value} (hc : ∀ x, (cells x).length = size) : ∀ {xs : List α} {i j : Nat} (hi : i < xs.length), j < size → (xs.flatMap cells)[i * size + j]? = (cells xs[i])[j]?
  | [], i, j, hi, _ => by simp at hi
  | x :: r, 0, j, _, hj => by
    rw [List.flatMap_cons, Nat.zero_mul, Nat.zero_add, List.getElem?_append_left (by rw [hc]; exact hj)]; rfl
  | x :: r, i + 1, j, hi, hj => by
    rw [List.flatMap_cons, List.getElem?_append_right (by rw [hc, Nat.add_one_mul]; omega), hc]
    have e : (i + 1) * size + j - size = i * size + j := by rw [Nat.add_one_mul]; omega
    rw [e, flatMap_get hc (xs := r) (by simpa using hi) hj]; rfl
theorem recs_of_own {α : Type} {size : Nat} {cells : α → List Value} (hc : ∀ x, (cells x).length = size) {w : World} {B n : Nat} {e : TypeId} {v : Value} {xs : List α} (hn : n = xs.length) (h : w.ownsRow B e size v n (xs.flatMap cells)) :
    ∃ A c, v = .slice A n c ∧ n ≤ c ∧ c ≤ maxLen ∧ (A = none → c = 0) ∧ Recs size cells w w.heap.size A xs := by
  subst hn
  have hcs := fun g hg => h.cells (g := g) hg
  rcases h.2 with ⟨hv, h0⟩ | ⟨g, cap, cur, hv, hb, hg, hnc, hm, _⟩
  · exact ⟨none, 0, by rw [hv, h0], by omega, by decide, fun _ => rfl, .inl (List.eq_nil_of_length_eq_zero h0)⟩
  · refine ⟨_, cap, hv, hnc, hm, (by intro h; cases h), .inr ⟨g, 0, rfl, (Array.getElem?_eq_some_iff.1 hg).1, fun i hi j u hu => ?_⟩⟩
    have hj : j < size := by have := (List.getElem?_eq_some_iff.1 hu).1; rw [hc] at this; exact this
    have := hcs g (by rw [hv]; rfl) (i * size + j) u (by rw [flatMap_get hc hi hj]; exact hu)
    rw [Addr.add_lit] at this
    simpa using this
/-- Records as they are told: a slice that reads as these. -/
def Out {α : Type} (size : Nat) (cells : α → List Value) (w : World) (xs : List α) (A : Option Addr) (c : Nat) : Prop := xs.length ≤ c ∧ c ≤ maxLen ∧ (A = none → c = 0) ∧ Recs size cells w w.heap.size A xs
theorem Out.nil {α : Type} {size : Nat} {cells : α → List Value} {w : World} {xs : List α} (h : xs = []) : Out size cells w xs none 0 := ⟨by rw [h]; exact Nat.le_refl _, by decide, fun _ => rfl, .inl h⟩
theorem out_of_own {α : Type} {size : Nat} {cells : α → List Value} (hc : ∀ x, (cells x).length = size) {w : World} {B n c : Nat} {e : TypeId} {A : Option Addr} {xs : List α} (hn : n = xs.length) (h : w.ownsRow B e size (.slice A n c) n (xs.flatMap cells)) : Out size cells w xs A c := by
  obtain ⟨A', c', e1, p1, p2, p3, p4⟩ := recs_of_own hc hn h
  injection e1 with e1 _ e2
  subst e1 e2 hn
  exact ⟨p1, p2, p3, p4⟩
theorem Out.recs {α : Type} {size : Nat} {cells : α → List Value} {w : World} {xs : List α} {A : Option Addr} {c : Nat} (h : Out size cells w xs A c) : Recs size cells w w.heap.size A xs := h.2.2.2
end Go.Proofs.YtpfjeoldgcepnaaGreatDoor

/- Plain mathematics of layer 4: records as numbers, one behind the other, and back; no program stands in it. -/
namespace Go.Proofs.YtpfjeoldgcepnaaGreatDoor
set_option linter.unusedSimpArgs false

structure MoveD where
  kind : Int
  pod : Int
  node : Int
  over : Int

/-- A kind of record: how many numbers it has, what they are, and back; which numbers may be one's. -/
structure Kind (α : Type) where
  size : Nat
  nums : α → List Int
  get : List Int → α
  ok : List Int → Bool
  len : ∀ x, (nums x).length = size
  back : ∀ x, get (nums x) = x
  once : ∀ c, c.length = size → ok c = true → nums (get c) = c

section
variable {α : Type} (K : Kind α)
def fine : Nat → List Int → Bool
  | 0, _ => true
  | n + 1, l => K.ok (l.take K.size) && fine n (l.drop K.size)
end

end Go.Proofs.YtpfjeoldgcepnaaGreatDoor

/- The cells of a move. -/
namespace Go.Proofs.YtpfjeoldgcepnaaGreatDoor
set_option linter.unusedSimpArgs false

abbrev aggM (x : MoveD) : Value := .agg #[.int .i64 x.kind, .int .i64 x.pod, .int .i64 x.node, .int .i64 x.over]
def cellsM (x : MoveD) : List Value := [.int .i64 x.kind, .int .i64 x.pod, .int .i64 x.node, .int .i64 x.over]
end Go.Proofs.YtpfjeoldgcepnaaGreatDoor

/- Plain mathematics of states; '!=' of any two pods. -/
namespace Go.Proofs.YtpfjeoldgcepnaaGreatDoor
set_option linter.unusedSimpArgs false
open Go.RowKit
set_option linter.unusedVariables false

structure StateD where
  pods : List PodD
  preempts : Int
  shifts : Int
def vecEq (x y : V4) : Bool := x.a == y.a && (x.b == y.b && (x.c == y.c && x.d == y.d))
def podEq (x y : PodD) : Bool := x.id == y.id && (x.load == y.load && (x.prio == y.prio && (vecEq x.req y.req && x.node == y.node)))
theorem vecEq_self (x : V4) : vecEq x x = true := by simp [vecEq]
theorem podEq_self (x : PodD) : podEq x x = true := by simp [podEq, vecEq_self]
theorem vecEq_iff {x y : V4} : vecEq x y = true ↔ x = y := by
  cases x; cases y; simp [vecEq]
theorem podEq_iff {x y : PodD} : podEq x y = true ↔ x = y := by
  cases x; cases y; simp [podEq, vecEq_iff]
/-- Are two lists of pods alike? -/
def podsEq : List PodD → List PodD → Bool
  | [], [] => true
  | x :: r, y :: s => podEq x y && podsEq r s
  | _, _ => false
theorem podsEq_self : ∀ l : List PodD, podsEq l l = true
  | [] => rfl
  | x :: r => by simp [podsEq, podEq_self, podsEq_self r]
theorem podsEq_iff : ∀ {l m : List PodD}, podsEq l m = true ↔ l = m
  | [], [] => by simp [podsEq]
  | [], _ :: _ => by simp [podsEq]
  | _ :: _, [] => by simp [podsEq]
  | x :: r, y :: s => by simp [podsEq, podEq_iff, podsEq_iff (l := r) (m := s)]
theorem podsEq_len : ∀ {l m : List PodD}, l.length ≠ m.length → podsEq l m = false := fun {l m} h => by
  cases e : podsEq l m with
  | false => rfl
  | true => exact absurd (congrArg List.length (podsEq_iff.1 e)) h
def stateEq (t u : StateD) : Bool := podsEq t.pods u.pods && (t.preempts == u.preempts && t.shifts == u.shifts)
theorem stateEq_self (t : StateD) : stateEq t t = true := by simp [stateEq, podsEq_self]
theorem podsEq_at {l m : List PodD} {k : Nat} {b : Bool} (h : k < l.length) (h' : k < m.length) {x y : PodD} (hx : l[k] = x) (hy : m[k] = y) (hp : podsEq (l.drop k) (m.drop k) = b) :
    (podEq x y = false → b = false) ∧ (podEq x y = true → podsEq (l.drop (k + 1)) (m.drop (k + 1)) = b) := by
  rw [List.drop_eq_getElem_cons h, List.drop_eq_getElem_cons h', hx, hy, podsEq] at hp
  constructor
  · intro e; rw [e] at hp; exact hp.symm
  · intro e; rw [e, Bool.true_and] at hp; exact hp
theorem podsEq_end {l m : List PodD} {k : Nat} {b : Bool} (h : l.length ≤ k) (h' : m.length ≤ k) (hp : podsEq (l.drop k) (m.drop k) = b) : b = true := by
  rw [List.drop_of_length_le h, List.drop_of_length_le h'] at hp
  exact hp.symm
/-- The first pod of an Id. -/
def podAt (id : Int) : List PodD → Option PodD
  | [] => none
  | x :: r => if x.id = id then some x else podAt id r
theorem podAt_none {id : Int} : ∀ {l : List PodD} {k : Int}, 0 ≤ k → (podAt id l = none ↔ place PodD.id id l k < 0)
  | [], k, _ => by simp [podAt, place]
  | x :: r, k, hk => by
    by_cases h : x.id = id
    · simp [podAt, place, h]; omega
    · simp only [podAt, place, if_neg h]; exact podAt_none (by omega)
theorem place_or {α : Type} {f : α → Int} {id : Int} : ∀ (r : List α) (k : Int), 0 ≤ k → place f id r k < 0 ∨ k ≤ place f id r k
  | [], _, _ => by simp [place]
  | x :: r, k, hk => by
    simp only [place]
    split
    · right; omega
    · rcases place_or r (k + 1) (by omega) with h | h
      · exact .inl h
      · exact .inr (by omega)
theorem podAt_some {id : Int} : ∀ {l : List PodD} {k : Int} {i : Nat} (hi : i < l.length), place PodD.id id l k = k + i → 0 ≤ k → podAt id l = some l[i]
  | [], _, _, hi, _, _ => by simp at hi
  | x :: r, k, i, hi, h, hk => by
    by_cases hx : x.id = id
    · simp only [place, if_pos hx] at h
      obtain rfl : i = 0 := by omega
      simp [podAt, hx]
    · simp only [place, if_neg hx] at h
      cases i with
      | zero =>
        have := (place_neg (f := PodD.id) (id := id) (l := r) (k := k + 1) (by omega))
        have h2 := place_ge (f := PodD.id) (id := id) (l := r) (k := k + 1) (by omega)
        have h3 : place PodD.id id r (k + 1) < 0 ∨ k + 1 ≤ place PodD.id id r (k + 1) := place_or r (k + 1) (by omega)
        omega
      | succ i =>
        simp only [podAt, if_neg hx, List.getElem_cons_succ]
        exact podAt_some (by simpa using hi) (by rw [h]; omega) (by omega)
theorem eqFields_cons {d : Nat} {xs ys : Array Value} {f : Field} {fs : List Field} {a b : Value} {c : Bool} {w : World} (hn : f.name ≠ "_") (ha : (part f.type xs f.offset).run Tryz.prog w = .ok a w) (hb : (part f.type ys f.offset).run Tryz.prog w = .ok b w) (he : (Op.equalIn d f.type a b).run Tryz.prog w = .ok c w) {r : Bool} (hr : (Op.eqFields d xs ys fs).run Tryz.prog w = .ok r w) :
    (Op.eqFields d xs ys (f :: fs)).run Tryz.prog w = .ok (c && r) w := by
  cases c <;> simp [Op.eqFields, hn, ha, hb, he, hr]
theorem int_eqIn2 (d : Nat) (a b : Int) (w : World) : (Op.equalIn (d + 1) 3 (.int .i64 a) (.int .i64 b)).run Tryz.prog w = .ok (a == b) w := by
  simp [Op.equalIn, run_underlying Tryz.underlying3]
set_option maxRecDepth 100000 in
theorem pod_eqIn (x y : PodD) (w : World) : (Op.equalIn 10000 79 (aggP x) (aggP y)).run Tryz.prog w = .ok (podEq x y) w := by
  have hf : (Tryz.prog.fieldsOf 79).toList = [(⟨"Id", 3, 0, false, "", "", 0⟩ : Field), (⟨"Load", 3, 1, false, "", "", 8⟩ : Field), (⟨"Prio", 3, 2, false, "", "", 16⟩ : Field), (⟨"Req", 59, 3, false, "", "", 24⟩ : Field), (⟨"Node", 3, 7, false, "", "", 56⟩ : Field)] := by kernel_rfl
  rw [run_equalIn_struct w 9999 79 _ _ (by kernel_rfl) (by kernel_rfl), hf]
  clear hf
  refine (eqFields_cons (a := .int .i64 x.id) (b := .int .i64 y.id) (by decide) (part_int _ 0 _ rfl w) (part_int _ 0 _ rfl w) (int_eqIn2 9998 _ _ w) ?_).trans rfl
  refine (eqFields_cons (a := .int .i64 x.load) (b := .int .i64 y.load) (by decide) (part_int _ 1 _ rfl w) (part_int _ 1 _ rfl w) (int_eqIn2 9998 _ _ w) ?_)
  refine (eqFields_cons (a := .int .i64 x.prio) (b := .int .i64 y.prio) (by decide) (part_int _ 2 _ rfl w) (part_int _ 2 _ rfl w) (int_eqIn2 9998 _ _ w) ?_)
  refine (eqFields_cons (a := .agg #[.int .u64 x.req.a, .int .u64 x.req.b, .int .u64 x.req.c, .int .u64 x.req.d]) (b := .agg #[.int .u64 y.req.a, .int .u64 y.req.b, .int .u64 y.req.c, .int .u64 y.req.d]) (by decide) (part_vec _ 3 _ _ _ _ rfl w) (part_vec _ 3 _ _ _ _ rfl w) (vec_eqlIn 9997 _ _ _ _ _ _ _ _ w) ?_)
  refine (eqFields_cons (a := .int .i64 x.node) (b := .int .i64 y.node) (r := true) (by decide) (part_int _ 7 _ rfl w) (part_int _ 7 _ rfl w) (int_eqIn2 9998 _ _ w) ?_).trans (by rw [Bool.and_true])
  simp [Op.eqFields]
set_option maxRecDepth 100000 in
theorem pod_neq (x y : PodD) (w : World) : (binOp .neq 79 (aggP x) (aggP y)).run Tryz.prog w = .ok (.bool (!podEq x y)) w := by
  rw [run_neq_struct, pod_eqIn]
  rfl
theorem vec_neq (x y : V4) (w : World) : (binOp .neq 59 (aggV x) (aggV y)).run Tryz.prog w = .ok (.bool (!vecEq x y)) w := by
  simp only [binOp]
  simp [Op.equal, Op.maxDepth, vec_eqlIn 9998, vecEq]
theorem vec_is (x y : V4) (w : World) : (binOp .eql 59 (aggV x) (aggV y)).run Tryz.prog w = .ok (.bool (vecEq x y)) w := vec_eql _ _ _ _ _ _ _ _ w
end Go.Proofs.YtpfjeoldgcepnaaGreatDoor

/- How a state is read as data; five arguments. -/
namespace Go.Proofs.YtpfjeoldgcepnaaGreatDoor
set_option linter.unusedSimpArgs false
open Go.ChangeShapes Go.WideShapes Go.ChangeAt Go.RowKit

section
variable {H : Type} {enc : TypeId × Value → H} {w : World} {base : Nat} {sp : Nat → Bool} {held : Bool}
end
section
variable {H : Type} {enc : TypeId × Value → H} {P : Program} {w : World} {base : Nat} {spare : Nat → Bool} {held : Bool}
end
end Go.Proofs.YtpfjeoldgcepnaaGreatDoor

/- How a move is read as data. -/
namespace Go.Proofs.YtpfjeoldgcepnaaGreatDoor
set_option linter.unusedSimpArgs false
open Go.ChangeShapes Go.WideShapes Go.ChangeAt Go.RowKit

theorem Tryz.cellsMv : Tryz.prog.cellsOf 48 = 4 := by kernel_rfl
section
variable {H : Type} {enc : TypeId × Value → H} {w : World} {base : Nat} {sp : Nat → Bool} {held : Bool}
end
end Go.Proofs.YtpfjeoldgcepnaaGreatDoor

namespace Go.Proofs.YtpfjeoldgcepnaaGreatDoor
set_option linter.unusedSimpArgs false
open Go.ChangeShapes Go.WideShapes Go.ChangeAt Go.RowKit

theorem list4_mv {α : Type} (l : List α) (h : l.length = 4) : ∃ c0 c1 c2 c3, l = [c0, c1, c2, c3] := by
  match l, h with
  | [c0, c1, c2, c3], _ => exact ⟨c0, c1, c2, c3, rfl⟩
section
variable {H : Type} {enc : TypeId × Value → H} {w : World} {base : Nat} {sp : Nat → Bool} {held : Bool}
set_option maxRecDepth 100000 in
theorem move_ofV {n : Nat} {cs : List Value} {x : DataW H × List MemPlace} (hl : cs.length = 4) (h : DataW.trod enc Tryz.prog w base sp held n 48 cs = some x) : ∃ a : MoveD, cs = cellsM a ∧ True := by
  obtain ⟨xs, m, rfl, _, _, hxl, hf⟩ := DataW.trod_struct Tryz.underlying48 h
  obtain ⟨c0, c1, c2, c3, rfl⟩ := list4_mv cs hl
  have h0 : DataW.trod enc Tryz.prog w base sp held m 3 (([c0, c1, c2, c3].drop 0).take (Tryz.prog.cellsOf 3)) = xs[0]? := hf 0 _ rfl
  rw [Tryz.cells3, show ([c0, c1, c2, c3].drop 0).take 1 = [c0] from rfl] at h0
  have h1 : DataW.trod enc Tryz.prog w base sp held m 3 (([c0, c1, c2, c3].drop 1).take (Tryz.prog.cellsOf 3)) = xs[1]? := hf 1 _ rfl
  rw [Tryz.cells3, show ([c0, c1, c2, c3].drop 1).take 1 = [c1] from rfl] at h1
  have h2 : DataW.trod enc Tryz.prog w base sp held m 3 (([c0, c1, c2, c3].drop 2).take (Tryz.prog.cellsOf 3)) = xs[2]? := hf 2 _ rfl
  rw [Tryz.cells3, show ([c0, c1, c2, c3].drop 2).take 1 = [c2] from rfl] at h2
  have h3 : DataW.trod enc Tryz.prog w base sp held m 3 (([c0, c1, c2, c3].drop 3).take (Tryz.prog.cellsOf 3)) = xs[3]? := hf 3 _ rfl
  rw [Tryz.cells3, show ([c0, c1, c2, c3].drop 3).take 1 = [c3] from rfl] at h3
  obtain ⟨k0, rfl, _⟩ := int_of (some_at hxl (by decide)) h0
  obtain ⟨k1, rfl, _⟩ := int_of (some_at hxl (by decide)) h1
  obtain ⟨k2, rfl, _⟩ := int_of (some_at hxl (by decide)) h2
  obtain ⟨k3, rfl, _⟩ := int_of (some_at hxl (by decide)) h3
  exact ⟨⟨k0, k1, k2, k3⟩, rfl, trivial⟩
end
end Go.Proofs.YtpfjeoldgcepnaaGreatDoor
