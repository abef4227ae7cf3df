/- errors.Is of a *api.Spot and its own Code; dunnagelaw00.Is of such an error. -/
import Derived.Test.YtglblaeplibjmaaDoorE
import Derived.Lib.Hide
namespace Go.Proofs.YtglblaeplibjmaaDoor
open Go.RowKit Go.Extern.Stop Go.Stop Go.Extern
set_option linter.unusedVariables false

theorem Tryd.typeOfCode (v : Value) (w : World) : (ReflectliteType.typeOf #[.iface 34 v]).run Tryd.prog w = .ok (.iface 73 (.agg #[.pointer (some ⟨1, 34, none⟩)])) w := by kernel_rfl
theorem Tryd.comparableCode (w : World) : (callFunc 57 #[.agg #[.pointer (some ⟨1, 34, none⟩)]]).run Tryd.prog w = .ok (.value (.bool true)) w := by kernel_rfl
theorem Tryd.methodComparable (v : Value) (w : World) : (Go.method 218 73 v "Comparable").run Tryd.prog w = .ok (57, v) w := by kernel_rfl
theorem Tryd.noIsSpot (v : Value) (xT : TypeId) (w : World) : (Instr.typeAssert (.iface 51 v) xT 85 true).run Tryd.prog w = .ok (.tuple #[.nilIface, .bool false]) w := run_typeAssert_lacksB Tryd.underlying85 (by kernel_rfl) (by kernel_rfl) v xT w
theorem Tryd.hasUnwrapSpot (v : Value) (xT : TypeId) (w : World) : (Instr.typeAssert (.iface 51 v) xT 80 true).run Tryd.prog w = .ok (.tuple #[.iface 51 v, .bool true]) w := run_typeAssert_hasB Tryd.underlying80 (by kernel_rfl) v xT w
theorem Tryd.methodUnwrap (v : Value) (w : World) : (Go.method 218 51 v "Unwrap").run Tryd.prog w = .ok (51, v) w := by kernel_rfl
theorem Tryd.compCode : (Tryd.prog.info? 34).map (·.comparable) = some true := by kernel_rfl
theorem Tryd.compSpot : (Tryd.prog.info? 51).map (·.comparable) = some true := by kernel_rfl
theorem Tryd.sizeOfSpot : (Tryd.prog.info? 56).map (·.size) = some 2 := by kernel_rfl

theorem eql_codes (a : Int) (w : World) : (binOp .eql 28 (.iface 34 (.int .i64 a)) (.iface 34 (.int .i64 a))).run Tryd.prog w = .ok (.bool true) w := by
  obtain ⟨i, hi, hcmp⟩ := Option.map_eq_some_iff.1 Tryd.compCode
  have h : ∀ d : Nat, (Op.equalIn (d + 2) 28 (.iface 34 (.int .i64 a)) (.iface 34 (.int .i64 a))).run Tryd.prog w = .ok true w := fun d => by
    simp [Op.equalIn, run_underlying Tryd.underlying28, run_underlying Tryd.underlying34, typeInfo, hi, hcmp]
  simp only [binOp]
  simp [Op.equal, Op.maxDepth, h 9998]
theorem neq_spots (a : Addr) (w : World) : (binOp .neq 28 (.iface 51 (.pointer (some a))) (.iface 51 (.pointer (some a)))).run Tryd.prog w = .ok (.bool false) w := by
  obtain ⟨i, hi, hcmp⟩ := Option.map_eq_some_iff.1 Tryd.compSpot
  obtain ⟨j, hj, _⟩ := Option.map_eq_some_iff.1 Tryd.sizeOfSpot
  simp only [binOp]
  simp [Op.equal, Op.maxDepth, run_equalIn_iface_ptr_same w 9998 a Tryd.underlying28 Tryd.underlying51 hi hcmp hj]

theorem unwrap_any (g : Nat) (k : Int) (w : World) (h : w.cell? ⟨g, 1, none⟩ = some (.int .i64 k)) : Calls Tryd.prog 51 #[.pointer (some ⟨g, 0, none⟩)] w fun e w' => e = .returned (.iface 34 (.int .i64 k)) ∧ w = w' := by
  go_enter Tryd.func51, Tryd.ntmps51
  go_wp2
  go_ret
  exact ⟨rfl, rfl⟩

set_option maxHeartbeats 4000000 in
theorem is_code (g : Nat) (k : Int) (w : World) (h : w.cell? ⟨g, 1, none⟩ = some (.int .i64 k)) :
    Calls Tryd.prog 23 #[.iface 51 (.pointer (some ⟨g, 0, none⟩)), .iface 34 (.int .i64 k)] w fun e w' => e = .returned (.bool true) ∧ w = w' := by
  have h28 := @run_callFunc_extern Tryd.prog 28 _ ReflectliteType.typeOf Tryd.func28 (by kernel_rfl) (by kernel_rfl) (by kernel_rfl) (by kernel_rfl)
  have tT := Tryd.typeOfCode
  have cT := Tryd.comparableCode
  have mR := Tryd.methodComparable
  have nE := Tryd.noIsSpot
  have uW := Tryd.hasUnwrapSpot
  have mU := Tryd.methodUnwrap
  have heq := eql_codes k w
  have hty := run_eql_iface_types (P := Tryd.prog) 51 34 (.pointer (some ⟨g, 0, none⟩)) (.int .i64 k) Tryd.underlying28 (by decide) w
  go_enter Tryd.func23, Tryd.ntmps23
  go_wp2
  refine wp_loop_rounds 2 ?_
  rw [rounds_succ]
  go_wp2
  rw [rounds_succ]
  go_wp2
  go_ret
  exact ⟨rfl, rfl⟩
end Go.Proofs.YtglblaeplibjmaaDoor
