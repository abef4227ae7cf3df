/- Equations of '==' on amounts and errors; 'held' and 'up'. -/
import Derived.Test.YtcmlbbingmnigaaVecB
import Derived.LaidEql
import Derived.ChangeKeysEq
namespace Go.Proofs.Ytcmlbbingmnigaa
open Go.RowKit
set_option linter.unusedVariables false

theorem num_eqIn (d : Nat) (a b : Int) (w : World) : (Op.equalIn (d + 1) 22 (.int .u64 a) (.int .u64 b)).run Try.prog w = .ok (a == b) w := by
  simp [Op.equalIn, run_underlying Try.underlying22]
theorem part_num (cs : Array Value) (j : Nat) (v : Value) (h : cs[j]? = some v) (w : World) : (part 22 cs j).run Try.prog w = .ok v w := by
  have hf : ∀ w : World, (isAgg 22).run Try.prog w = .ok false w := fun _ => by kernel_rfl
  simp [part, hf, h]
theorem vec_eqlIn (d : Nat) (a0 a1 a2 a3 b0 b1 b2 b3 : Int) (w : World) :
    (Op.equalIn (d + 2) 24 (.agg #[.int .u64 a0, .int .u64 a1, .int .u64 a2, .int .u64 a3]) (.agg #[.int .u64 b0, .int .u64 b1, .int .u64 b2, .int .u64 b3])).run Try.prog w
      = .ok (a0 == b0 && (a1 == b1 && (a2 == b2 && a3 == b3))) w := by
  obtain ⟨i, hi⟩ := Option.isSome_iff_exists.1 (show (Try.prog.info? 22).isSome = true by kernel_rfl)
  rw [run_equalIn_array w (d + 1) _ _ Try.underlying24 hi]
  have hc : Try.prog.cellsOf 22 = 1 := by kernel_rfl
  rw [hc, show List.range 4 = [0, 1, 2, 3] from rfl]
  simp only [Op.eqItems, Sem.run_bind, Nat.mul_one]
  rw [part_num #[.int .u64 a0, .int .u64 a1, .int .u64 a2, .int .u64 a3] 0 (.int .u64 a0) rfl]
  simp only [Result.andThen_ok]
  rw [part_num _ 0 (.int .u64 b0) rfl]
  simp only [Result.andThen_ok, num_eqIn]
  cases h0 : a0 == b0
  · simp
  simp only [Bool.not_true, Bool.false_eq_true, if_false, Sem.run_bind, Bool.true_and]
  rw [part_num _ 1 (.int .u64 a1) rfl]
  simp only [Result.andThen_ok]
  rw [part_num _ 1 (.int .u64 b1) rfl]
  simp only [Result.andThen_ok, num_eqIn]
  cases h1 : a1 == b1
  · simp
  simp only [Bool.not_true, Bool.false_eq_true, if_false, Sem.run_bind, Bool.true_and]
  rw [part_num _ 2 (.int .u64 a2) rfl]
  simp only [Result.andThen_ok]
  rw [part_num _ 2 (.int .u64 b2) rfl]
  simp only [Result.andThen_ok, num_eqIn]
  cases h2 : a2 == b2
  · simp
  simp only [Bool.not_true, Bool.false_eq_true, if_false, Sem.run_bind, Bool.true_and]
  rw [part_num _ 3 (.int .u64 a3) rfl]
  simp only [Result.andThen_ok]
  rw [part_num _ 3 (.int .u64 b3) rfl]
  simp only [Result.andThen_ok, num_eqIn]
  cases h3 : a3 == b3 <;> simp
theorem vec_eql (a0 a1 a2 a3 b0 b1 b2 b3 : Int) (w : World) :
    (binOp .eql 24 (.agg #[.int .u64 a0, .int .u64 a1, .int .u64 a2, .int .u64 a3]) (.agg #[.int .u64 b0, .int .u64 b1, .int .u64 b2, .int .u64 b3])).run Try.prog w
      = .ok (.bool (a0 == b0 && (a1 == b1 && (a2 == b2 && a3 == b3)))) w := by
  simp only [binOp]
  simp [Op.equal, Op.maxDepth, vec_eqlIn 9998]
theorem vec_same (a0 a1 a2 a3 : Int) (w : World) :
    (binOp .eql 24 (.agg #[.int .u64 a0, .int .u64 a1, .int .u64 a2, .int .u64 a3]) (.agg #[.int .u64 a0, .int .u64 a1, .int .u64 a2, .int .u64 a3])).run Try.prog w = .ok (.bool true) w := by
  rw [vec_eql]; simp
theorem err_eqIn (d : Nat) (a b : Int) (w : World) : (Op.equalIn (d + 2) 27 (.iface 43 (.int .i64 a)) (.iface 43 (.int .i64 b))).run Try.prog w = .ok (a == b) w := by
  obtain ⟨i, hi⟩ := Option.isSome_iff_exists.1 (show (Try.prog.info? 43).isSome = true by kernel_rfl)
  have hc : i.comparable = true := by
    have : (Try.prog.info? 43).map (·.comparable) = some true := by kernel_rfl
    rw [hi] at this; simpa using this
  simp [Op.equalIn, run_underlying Try.underlying27, run_underlying Try.underlying43, typeInfo, hi, hc]
theorem err_eql (a b : Int) (w : World) : (binOp .eql 27 (.iface 43 (.int .i64 a)) (.iface 43 (.int .i64 b))).run Try.prog w = .ok (.bool (a == b)) w := by
  simp only [binOp]
  simp [Op.equal, Op.maxDepth, err_eqIn 9998]
theorem err_neq (a b : Int) (w : World) : (binOp .neq 27 (.iface 43 (.int .i64 a)) (.iface 43 (.int .i64 b))).run Try.prog w = .ok (.bool (a != b)) w := by
  simp only [binOp]
  simp [Op.equal, Op.maxDepth, err_eqIn 9998, bne]

set_option maxHeartbeats 400000 in
theorem held_yes (a0 a1 a2 a3 : Int) (w : World) :
    Calls Try.prog 15 #[.agg #[.int .u64 a0, .int .u64 a1, .int .u64 a2, .int .u64 a3], .nilIface, .agg #[.int .u64 a0, .int .u64 a1, .int .u64 a2, .int .u64 a3], .bool true] w fun e w' => e = .returned (.bool true) ∧ Below w.heap.size w w' := by
  have hv := vec_same a0 a1 a2 a3
  go_enter Try.func15, Try.ntmps15
  go_wp2
  go_ret
  refine ⟨rfl, ?_⟩
  repeat (first | with_reducible exact Below.refl _ _ | with_reducible refine Below.setCell ?_ ?_ _ | with_reducible refine below_drewN ?_ _ | with_reducible refine Below.alloc ?_ ?_ _)
  all_goals first | (simp; done) | (simp; omega)
set_option maxHeartbeats 400000 in
theorem held_no (a0 a1 a2 a3 : Int) (w : World) :
    Calls Try.prog 15 #[.agg #[.int .u64 0, .int .u64 0, .int .u64 0, .int .u64 0], .iface 43 (.int .i64 8), .agg #[.int .u64 a0, .int .u64 a1, .int .u64 a2, .int .u64 a3], .bool false] w fun e w' => e = .returned (.bool true) ∧ Below w.heap.size w w' := by
  have hv := vec_same 0 0 0 0
  have he := err_eql 8 8
  go_enter Try.func15, Try.ntmps15
  go_wp2
  go_ret
  refine ⟨rfl, ?_⟩
  repeat (first | with_reducible exact Below.refl _ _ | with_reducible refine Below.setCell ?_ ?_ _ | with_reducible refine below_drewN ?_ _ | with_reducible refine Below.alloc ?_ ?_ _)
  all_goals first | (simp; done) | (simp; omega)
set_option maxHeartbeats 1000000 in
theorem up_any (w : World) :
    Calls Try.prog 9 #[] w fun e w' => e = .returned (.bool true) ∧ Below w.heap.size w w' := by
  have hv := vec_same 2 3 4 5
  have he := err_eql 8 8
  go_enter Try.func9, Try.ntmps9
  go_wp2_with fail
  refine (add_ok 1 2 3 4 1 1 1 1 (by omega) (by omega) (by omega) (by omega) (by omega) (by omega) (by omega) (by omega) (by omega) (by omega) (by omega) (by omega) (by omega) (by omega) (by omega) (by omega) (by omega) (by omega) (by omega) (by omega) _).mono ?_
  rintro e w1 ⟨rfl, hb1⟩
  go_wp2_with fail
  refine (add_over 0 18446744073709551615 0 0 0 1 0 0 (by omega) (by omega) (by omega) (by omega) (by omega) (by omega) (by omega) (by omega) (by omega) (by omega) (by omega) (by omega) (by omega) (by omega) (by omega) (by omega) (by omega) _).mono ?_
  rintro e w2 ⟨rfl, hb2⟩
  have hs := hb2.size
  obtain ⟨hc, hf⟩ := bcell hb2
  have hz : w1.heap.size < w2.heap.size := by simp at hs; omega
  go_wp2
  go_ret
  refine ⟨rfl, ?_⟩
  have hs1 := hb1.size
  have h2 : Below w.heap.size w w2 := ((hb1.alloc hs1 _).trans (hb2.mono (by simp; omega)))
  repeat (first | with_reducible exact h2 | with_reducible refine Below.setCell ?_ ?_ _ | with_reducible refine below_drewN ?_ _ | with_reducible refine Below.alloc ?_ ?_ _)
  all_goals first | (simp; done) | (simp; omega) | omega
end Go.Proofs.Ytcmlbbingmnigaa
