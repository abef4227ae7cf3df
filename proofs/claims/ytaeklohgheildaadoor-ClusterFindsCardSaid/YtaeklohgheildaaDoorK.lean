/- errors.Is of a *api.Spot and its own Code; dunnagelaw00.Is of such an error. -/
import Derived.Test.YtaeklohgheildaaDoorE
import Derived.Lib.Hide
namespace Go.Proofs.YtaeklohgheildaaDoor
open Go.RowKit Go.Extern.Stop Go.Stop Go.Extern
set_option linter.unusedVariables false

theorem Tryd.typeOfCode (v : Value) (w : World) : (ReflectliteType.typeOf #[.iface 62 v]).run Tryd.prog w = .ok (.iface 133 (.agg #[.pointer (some ⟨1, 62, none⟩)])) w := by kernel_rfl
theorem Tryd.comparableCode (w : World) : (callFunc 115 #[.agg #[.pointer (some ⟨1, 62, none⟩)]]).run Tryd.prog w = .ok (.value (.bool true)) w := by kernel_rfl
theorem Tryd.methodComparable (v : Value) (w : World) : (Go.method 285 133 v "Comparable").run Tryd.prog w = .ok (115, v) w := by kernel_rfl
theorem Tryd.noIsSpot (v : Value) (xT : TypeId) (w : World) : (Instr.typeAssert (.iface 91 v) xT 145 true).run Tryd.prog w = .ok (.tuple #[.nilIface, .bool false]) w := run_typeAssert_lacksB Tryd.underlying145 (by kernel_rfl) (by kernel_rfl) v xT w
theorem Tryd.hasUnwrapSpot (v : Value) (xT : TypeId) (w : World) : (Instr.typeAssert (.iface 91 v) xT 140 true).run Tryd.prog w = .ok (.tuple #[.iface 91 v, .bool true]) w := run_typeAssert_hasB Tryd.underlying140 (by kernel_rfl) v xT w
theorem Tryd.methodUnwrap (v : Value) (w : World) : (Go.method 285 91 v "Unwrap").run Tryd.prog w = .ok (109, v) w := by kernel_rfl
theorem Tryd.compCode : (Tryd.prog.info? 62).map (·.comparable) = some true := by kernel_rfl
theorem Tryd.compSpot : (Tryd.prog.info? 91).map (·.comparable) = some true := by kernel_rfl
theorem Tryd.sizeOfSpot : (Tryd.prog.info? 96).map (·.size) = some 2 := by kernel_rfl

theorem eql_codes (a : Int) (w : World) : (binOp .eql 37 (.iface 62 (.int .i64 a)) (.iface 62 (.int .i64 a))).run Tryd.prog w = .ok (.bool true) w := by
  obtain ⟨i, hi, hcmp⟩ := Option.map_eq_some_iff.1 Tryd.compCode
  have h : ∀ d : Nat, (Op.equalIn (d + 2) 37 (.iface 62 (.int .i64 a)) (.iface 62 (.int .i64 a))).run Tryd.prog w = .ok true w := fun d => by
    simp [Op.equalIn, run_underlying Tryd.underlying37, run_underlying Tryd.underlying62, typeInfo, hi, hcmp]
  simp only [binOp]
  simp [Op.equal, Op.maxDepth, h 9998]
theorem neq_spots (a : Addr) (w : World) : (binOp .neq 37 (.iface 91 (.pointer (some a))) (.iface 91 (.pointer (some a)))).run Tryd.prog w = .ok (.bool false) w := by
  obtain ⟨i, hi, hcmp⟩ := Option.map_eq_some_iff.1 Tryd.compSpot
  obtain ⟨j, hj, _⟩ := Option.map_eq_some_iff.1 Tryd.sizeOfSpot
  simp only [binOp]
  simp [Op.equal, Op.maxDepth, run_equalIn_iface_ptr_same w 9998 a Tryd.underlying37 Tryd.underlying91 hi hcmp hj]

theorem unwrap_any (g : Nat) (k : Int) (w : World) (h : w.cell? ⟨g, 1, none⟩ = some (.int .i64 k)) : Calls Tryd.prog 109 #[.pointer (some ⟨g, 0, none⟩)] w fun e w' => e = .returned (.iface 62 (.int .i64 k)) ∧ w = w' := by
  go_enter Tryd.func109, Tryd.ntmps109
  go_wp2
  go_ret
  exact ⟨rfl, rfl⟩

set_option maxHeartbeats 4000000 in
theorem is_code (g : Nat) (k : Int) (w : World) (h : w.cell? ⟨g, 1, none⟩ = some (.int .i64 k)) :
    Calls Tryd.prog 51 #[.iface 91 (.pointer (some ⟨g, 0, none⟩)), .iface 62 (.int .i64 k)] w fun e w' => e = .returned (.bool true) ∧ w = w' := by
  have h28 := @run_callFunc_extern Tryd.prog 65 _ ReflectliteType.typeOf Tryd.func65 (by kernel_rfl) (by kernel_rfl) (by kernel_rfl) (by kernel_rfl)
  have tT := Tryd.typeOfCode
  have cT := Tryd.comparableCode
  have mR := Tryd.methodComparable
  have nE := Tryd.noIsSpot
  have uW := Tryd.hasUnwrapSpot
  have mU := Tryd.methodUnwrap
  have heq := eql_codes k w
  have hty := run_eql_iface_types (P := Tryd.prog) 91 62 (.pointer (some ⟨g, 0, none⟩)) (.int .i64 k) Tryd.underlying37 (by decide) w
  go_enter Tryd.func51, Tryd.ntmps51
  go_wp2
  refine wp_loop_rounds 2 ?_
  rw [rounds_succ]
  go_wp2
  rw [rounds_succ]
  go_wp2
  go_ret
  exact ⟨rfl, rfl⟩
end Go.Proofs.YtaeklohgheildaaDoor
