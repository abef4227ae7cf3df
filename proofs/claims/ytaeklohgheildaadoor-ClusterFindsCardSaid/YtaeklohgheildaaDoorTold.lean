/- dunnagelaw00.Code and Told, at the errors that a layer tells: none, a Code itself, a Spot. -/
import Derived.Test.YtaeklohgheildaaDoorIs
namespace Go.Proofs.YtaeklohgheildaaDoor
open Go.RowKit
set_option linter.unusedVariables false

theorem eql_code (a b : Int) (w : World) : (binOp .eql 37 (.iface 62 (.int .i64 a)) (.iface 62 (.int .i64 b))).run Tryd.prog w = .ok (.bool (a == b)) w := by
  obtain ⟨i, hi, hcmp⟩ := Option.map_eq_some_iff.1 Tryd.compCode
  have h : ∀ d : Nat, (Op.equalIn (d + 2) 37 (.iface 62 (.int .i64 a)) (.iface 62 (.int .i64 b))).run Tryd.prog w = .ok (a == b) w := fun d => by
    simp [Op.equalIn, run_underlying Tryd.underlying37, run_underlying Tryd.underlying62, typeInfo, hi, hcmp]
  simp only [binOp]
  simp [Op.equal, Op.maxDepth, h 9998]
def CodeRel (c : Int) (x : Value) : Prop := ∃ k : Int, 1 ≤ k ∧ k ≤ c ∧ x = .int .i64 k
theorem code_any (c : Int) (h1 : 1 ≤ c) (h2 : c ≤ 17) (w : World) : Calls Tryd.prog 27 #[.iface 62 (.int .i64 c)] w fun e w' => e = .returned (.int .i64 c) ∧ w = w' := by
  have heq := eql_code
  go_enter Tryd.func27, Tryd.ntmps27
  go_wp2
  go_loop [3] (CodeRel c) (fun x => (17 - intOf x).toNat)
  case atStart => exact ⟨1, by omega, h1, rfl⟩
  case round =>
    obtain ⟨k, hk1, hk2, rfl⟩ := hrel
    by_cases hc : c = k
    · subst hc
      go_wp2
      go_ret
      exact ⟨rfl, rfl⟩
    · have hb : (c == k) = false := by simpa using hc
      go_wp2
      go_round
      case rel => exact ⟨k + 1, by omega, by omega, rfl⟩
      case measure => simp [intOf]; omega
theorem code_nil (w : World) : Calls Tryd.prog 27 #[.nilIface] w fun e w' => e = .returned (.int .i64 0) ∧ w = w' := by
  go_enter Tryd.func27, Tryd.ntmps27
  go_wp2
  go_ret
  exact ⟨rfl, rfl⟩

/-- dunnagelaw00.Told of a Code itself. -/
theorem told_self (c : Int) (h1 : 1 ≤ c) (h2 : c ≤ 17) (w : World) : Calls Tryd.prog 11 #[.iface 62 (.int .i64 c), .int .i64 c, .int .i64 (-1)] w fun e w' => e = .returned (.bool true) ∧ w = w' := by
  go_enter Tryd.func11, Tryd.ntmps11
  go_wp2_with fail
  refine (code_any c h1 h2 _).mono ?_
  rintro e w1 ⟨rfl, rfl⟩
  go_wp2
  go_ret
  exact ⟨rfl, rfl⟩
theorem told_nil (w : World) : Calls Tryd.prog 11 #[.nilIface, .int .i64 0, .int .i64 (-1)] w fun e w' => e = .returned (.bool true) ∧ w = w' := by
  go_enter Tryd.func11, Tryd.ntmps11
  go_wp2_with fail
  refine (code_nil _).mono ?_
  rintro e w1 ⟨rfl, rfl⟩
  go_wp2
  go_ret
  exact ⟨rfl, rfl⟩
theorem told_spot (g : Nat) (p : Nat) (c : Int) (w : World) (hg : w.cell? ⟨0, 0, none⟩ = some (.iface 133 (.agg #[.pointer (some ⟨1, 37, none⟩)]))) (hb : w.heap[g]? = some (.cells #[.int .i64 (p : Int), .int .i64 c] 96 (0, 0))) :
    Calls Tryd.prog 11 #[.iface 91 (.pointer (some ⟨g, 0, none⟩)), .int .i64 c, .int .i64 (p : Int)] w fun e w' => e = .returned (.bool true) ∧ Below w.heap.size w w' := by
  have HB := Lib.hid hb
  have HG := Lib.hid hg
  clear hb hg
  go_enter Tryd.func11, Tryd.ntmps11
  go_wp2_with fail
  refine (Is_yes g p c _ HG.out HB.out).mono ?_
  rintro e w1 ⟨rfl, hb1⟩
  go_wp2
  go_ret
  exact ⟨rfl, hb1⟩
end Go.Proofs.YtaeklohgheildaaDoor
