/- The reference's Add. -/
import Derived.Test.YtcmlbbingmnigaaVecA
namespace Go.Proofs.Ytcmlbbingmnigaa
open Go.RowKit
set_option linter.unusedVariables false

set_option maxHeartbeats 1000000 in
theorem radd_o0 (a0 a1 a2 a3 b0 b1 b2 b3 : Int) (p0 : 0 ≤ a0) (p1 : 0 ≤ a1) (p2 : 0 ≤ a2) (p3 : 0 ≤ a3) (q0 : 0 ≤ b0) (q1 : 0 ≤ b1) (q2 : 0 ≤ b2) (q3 : 0 ≤ b3) (pm0 : a0 < 18446744073709551616) (pm1 : a1 < 18446744073709551616) (pm2 : a2 < 18446744073709551616) (pm3 : a3 < 18446744073709551616) (qm0 : b0 < 18446744073709551616) (qm1 : b1 < 18446744073709551616) (qm2 : b2 < 18446744073709551616) (qm3 : b3 < 18446744073709551616)  (h0 : 18446744073709551616 ≤ a0 + b0) (w : World) :
    Calls Try.prog 12 #[.agg #[.int .u64 a0, .int .u64 a1, .int .u64 a2, .int .u64 a3], .agg #[.int .u64 b0, .int .u64 b1, .int .u64 b2, .int .u64 b3]] w fun e w' =>
      e = .returned (.tuple #[.agg #[.int .u64 0, .int .u64 0, .int .u64 0, .int .u64 0], .bool false]) ∧ Below w.heap.size w w' := by
  go_enter Try.func12, Try.ntmps12
  go_wp2
  refine wp_loop_rounds 5 ?_
  rw [rounds_succ]
  go_wp2
  go_quiet ((go_at_call 24; first | exact quiet_left0 (one_over a0 b0 p0 q0 pm0 qm0 h0 _) | exact quiet_left1 (one_over a0 b0 p0 q0 pm0 qm0 h0 _)))
  go_wp2
  refine bodyPost_ret (v := .tuple #[.agg #[.int .u64 0, .int .u64 0, .int .u64 0, .int .u64 0], .bool false]) ?_ rfl ?_
  · simp [results, Try.results12, go_sem]
  · refine ⟨rfl, ?_⟩
    repeat (first | with_reducible exact Below.refl _ _ | with_reducible refine Below.setCell ?_ ?_ _ | with_reducible refine below_drewN ?_ _ | with_reducible refine Below.alloc ?_ ?_ _)
    all_goals first | (simp; done) | (simp; omega)
set_option maxHeartbeats 1000000 in
theorem radd_o1 (a0 a1 a2 a3 b0 b1 b2 b3 : Int) (p0 : 0 ≤ a0) (p1 : 0 ≤ a1) (p2 : 0 ≤ a2) (p3 : 0 ≤ a3) (q0 : 0 ≤ b0) (q1 : 0 ≤ b1) (q2 : 0 ≤ b2) (q3 : 0 ≤ b3) (pm0 : a0 < 18446744073709551616) (pm1 : a1 < 18446744073709551616) (pm2 : a2 < 18446744073709551616) (pm3 : a3 < 18446744073709551616) (qm0 : b0 < 18446744073709551616) (qm1 : b1 < 18446744073709551616) (qm2 : b2 < 18446744073709551616) (qm3 : b3 < 18446744073709551616) (h0 : a0 + b0 < 18446744073709551616) (h1 : 18446744073709551616 ≤ a1 + b1) (w : World) :
    Calls Try.prog 12 #[.agg #[.int .u64 a0, .int .u64 a1, .int .u64 a2, .int .u64 a3], .agg #[.int .u64 b0, .int .u64 b1, .int .u64 b2, .int .u64 b3]] w fun e w' =>
      e = .returned (.tuple #[.agg #[.int .u64 0, .int .u64 0, .int .u64 0, .int .u64 0], .bool false]) ∧ Below w.heap.size w w' := by
  go_enter Try.func12, Try.ntmps12
  go_wp2
  refine wp_loop_rounds 5 ?_
  rw [rounds_succ]
  go_wp2
  go_quiet ((go_at_call 24; first | exact quiet_left0 (one_ok a0 b0 p0 q0 h0 _) | exact quiet_left1 (one_ok a0 b0 p0 q0 h0 _)))
  go_wp2
  rw [rounds_succ]
  go_wp2
  go_quiet ((go_at_call 24; first | exact quiet_left0 (one_over a1 b1 p1 q1 pm1 qm1 h1 _) | exact quiet_left1 (one_over a1 b1 p1 q1 pm1 qm1 h1 _)))
  go_wp2
  refine bodyPost_ret (v := .tuple #[.agg #[.int .u64 0, .int .u64 0, .int .u64 0, .int .u64 0], .bool false]) ?_ rfl ?_
  · simp [results, Try.results12, go_sem]
  · refine ⟨rfl, ?_⟩
    repeat (first | with_reducible exact Below.refl _ _ | with_reducible refine Below.setCell ?_ ?_ _ | with_reducible refine below_drewN ?_ _ | with_reducible refine Below.alloc ?_ ?_ _)
    all_goals first | (simp; done) | (simp; omega)
set_option maxHeartbeats 1000000 in
theorem radd_o2 (a0 a1 a2 a3 b0 b1 b2 b3 : Int) (p0 : 0 ≤ a0) (p1 : 0 ≤ a1) (p2 : 0 ≤ a2) (p3 : 0 ≤ a3) (q0 : 0 ≤ b0) (q1 : 0 ≤ b1) (q2 : 0 ≤ b2) (q3 : 0 ≤ b3) (pm0 : a0 < 18446744073709551616) (pm1 : a1 < 18446744073709551616) (pm2 : a2 < 18446744073709551616) (pm3 : a3 < 18446744073709551616) (qm0 : b0 < 18446744073709551616) (qm1 : b1 < 18446744073709551616) (qm2 : b2 < 18446744073709551616) (qm3 : b3 < 18446744073709551616) (h0 : a0 + b0 < 18446744073709551616) (h1 : a1 + b1 < 18446744073709551616) (h2 : 18446744073709551616 ≤ a2 + b2) (w : World) :
    Calls Try.prog 12 #[.agg #[.int .u64 a0, .int .u64 a1, .int .u64 a2, .int .u64 a3], .agg #[.int .u64 b0, .int .u64 b1, .int .u64 b2, .int .u64 b3]] w fun e w' =>
      e = .returned (.tuple #[.agg #[.int .u64 0, .int .u64 0, .int .u64 0, .int .u64 0], .bool false]) ∧ Below w.heap.size w w' := by
  go_enter Try.func12, Try.ntmps12
  go_wp2
  refine wp_loop_rounds 5 ?_
  rw [rounds_succ]
  go_wp2
  go_quiet ((go_at_call 24; first | exact quiet_left0 (one_ok a0 b0 p0 q0 h0 _) | exact quiet_left1 (one_ok a0 b0 p0 q0 h0 _)))
  go_wp2
  rw [rounds_succ]
  go_wp2
  go_quiet ((go_at_call 24; first | exact quiet_left0 (one_ok a1 b1 p1 q1 h1 _) | exact quiet_left1 (one_ok a1 b1 p1 q1 h1 _)))
  go_wp2
  rw [rounds_succ]
  go_wp2
  go_quiet ((go_at_call 24; first | exact quiet_left0 (one_over a2 b2 p2 q2 pm2 qm2 h2 _) | exact quiet_left1 (one_over a2 b2 p2 q2 pm2 qm2 h2 _)))
  go_wp2
  refine bodyPost_ret (v := .tuple #[.agg #[.int .u64 0, .int .u64 0, .int .u64 0, .int .u64 0], .bool false]) ?_ rfl ?_
  · simp [results, Try.results12, go_sem]
  · refine ⟨rfl, ?_⟩
    repeat (first | with_reducible exact Below.refl _ _ | with_reducible refine Below.setCell ?_ ?_ _ | with_reducible refine below_drewN ?_ _ | with_reducible refine Below.alloc ?_ ?_ _)
    all_goals first | (simp; done) | (simp; omega)
set_option maxHeartbeats 1000000 in
theorem radd_o3 (a0 a1 a2 a3 b0 b1 b2 b3 : Int) (p0 : 0 ≤ a0) (p1 : 0 ≤ a1) (p2 : 0 ≤ a2) (p3 : 0 ≤ a3) (q0 : 0 ≤ b0) (q1 : 0 ≤ b1) (q2 : 0 ≤ b2) (q3 : 0 ≤ b3) (pm0 : a0 < 18446744073709551616) (pm1 : a1 < 18446744073709551616) (pm2 : a2 < 18446744073709551616) (pm3 : a3 < 18446744073709551616) (qm0 : b0 < 18446744073709551616) (qm1 : b1 < 18446744073709551616) (qm2 : b2 < 18446744073709551616) (qm3 : b3 < 18446744073709551616) (h0 : a0 + b0 < 18446744073709551616) (h1 : a1 + b1 < 18446744073709551616) (h2 : a2 + b2 < 18446744073709551616) (h3 : 18446744073709551616 ≤ a3 + b3) (w : World) :
    Calls Try.prog 12 #[.agg #[.int .u64 a0, .int .u64 a1, .int .u64 a2, .int .u64 a3], .agg #[.int .u64 b0, .int .u64 b1, .int .u64 b2, .int .u64 b3]] w fun e w' =>
      e = .returned (.tuple #[.agg #[.int .u64 0, .int .u64 0, .int .u64 0, .int .u64 0], .bool false]) ∧ Below w.heap.size w w' := by
  go_enter Try.func12, Try.ntmps12
  go_wp2
  refine wp_loop_rounds 5 ?_
  rw [rounds_succ]
  go_wp2
  go_quiet ((go_at_call 24; first | exact quiet_left0 (one_ok a0 b0 p0 q0 h0 _) | exact quiet_left1 (one_ok a0 b0 p0 q0 h0 _)))
  go_wp2
  rw [rounds_succ]
  go_wp2
  go_quiet ((go_at_call 24; first | exact quiet_left0 (one_ok a1 b1 p1 q1 h1 _) | exact quiet_left1 (one_ok a1 b1 p1 q1 h1 _)))
  go_wp2
  rw [rounds_succ]
  go_wp2
  go_quiet ((go_at_call 24; first | exact quiet_left0 (one_ok a2 b2 p2 q2 h2 _) | exact quiet_left1 (one_ok a2 b2 p2 q2 h2 _)))
  go_wp2
  rw [rounds_succ]
  go_wp2
  go_quiet ((go_at_call 24; first | exact quiet_left0 (one_over a3 b3 p3 q3 pm3 qm3 h3 _) | exact quiet_left1 (one_over a3 b3 p3 q3 pm3 qm3 h3 _)))
  go_wp2
  refine bodyPost_ret (v := .tuple #[.agg #[.int .u64 0, .int .u64 0, .int .u64 0, .int .u64 0], .bool false]) ?_ rfl ?_
  · simp [results, Try.results12, go_sem]
  · refine ⟨rfl, ?_⟩
    repeat (first | with_reducible exact Below.refl _ _ | with_reducible refine Below.setCell ?_ ?_ _ | with_reducible refine below_drewN ?_ _ | with_reducible refine Below.alloc ?_ ?_ _)
    all_goals first | (simp; done) | (simp; omega)
set_option maxHeartbeats 1000000 in
theorem radd_ok (a0 a1 a2 a3 b0 b1 b2 b3 : Int) (p0 : 0 ≤ a0) (p1 : 0 ≤ a1) (p2 : 0 ≤ a2) (p3 : 0 ≤ a3) (q0 : 0 ≤ b0) (q1 : 0 ≤ b1) (q2 : 0 ≤ b2) (q3 : 0 ≤ b3) (pm0 : a0 < 18446744073709551616) (pm1 : a1 < 18446744073709551616) (pm2 : a2 < 18446744073709551616) (pm3 : a3 < 18446744073709551616) (qm0 : b0 < 18446744073709551616) (qm1 : b1 < 18446744073709551616) (qm2 : b2 < 18446744073709551616) (qm3 : b3 < 18446744073709551616) (h0 : a0 + b0 < 18446744073709551616) (h1 : a1 + b1 < 18446744073709551616) (h2 : a2 + b2 < 18446744073709551616) (h3 : a3 + b3 < 18446744073709551616) (w : World) :
    Calls Try.prog 12 #[.agg #[.int .u64 a0, .int .u64 a1, .int .u64 a2, .int .u64 a3], .agg #[.int .u64 b0, .int .u64 b1, .int .u64 b2, .int .u64 b3]] w fun e w' =>
      e = .returned (.tuple #[.agg #[.int .u64 (a0 + b0), .int .u64 (a1 + b1), .int .u64 (a2 + b2), .int .u64 (a3 + b3)], .bool true]) ∧ Below w.heap.size w w' := by
  go_enter Try.func12, Try.ntmps12
  go_wp2
  refine wp_loop_rounds 5 ?_
  rw [rounds_succ]
  go_wp2
  go_quiet ((go_at_call 24; first | exact quiet_left0 (one_ok a0 b0 p0 q0 h0 _) | exact quiet_left1 (one_ok a0 b0 p0 q0 h0 _)))
  go_wp2
  rw [rounds_succ]
  go_wp2
  go_quiet ((go_at_call 24; first | exact quiet_left0 (one_ok a1 b1 p1 q1 h1 _) | exact quiet_left1 (one_ok a1 b1 p1 q1 h1 _)))
  go_wp2
  rw [rounds_succ]
  go_wp2
  go_quiet ((go_at_call 24; first | exact quiet_left0 (one_ok a2 b2 p2 q2 h2 _) | exact quiet_left1 (one_ok a2 b2 p2 q2 h2 _)))
  go_wp2
  rw [rounds_succ]
  go_wp2
  go_quiet ((go_at_call 24; first | exact quiet_left0 (one_ok a3 b3 p3 q3 h3 _) | exact quiet_left1 (one_ok a3 b3 p3 q3 h3 _)))
  go_wp2
  rw [rounds_succ]
  go_wp2
  refine bodyPost_ret (v := .tuple #[.agg #[.int .u64 (a0 + b0), .int .u64 (a1 + b1), .int .u64 (a2 + b2), .int .u64 (a3 + b3)], .bool true]) ?_ rfl ?_
  · simp [results, Try.results12, go_sem]
  · refine ⟨rfl, ?_⟩
    repeat (first | with_reducible exact Below.refl _ _ | with_reducible refine Below.setCell ?_ ?_ _ | with_reducible refine below_drewN ?_ _ | with_reducible refine Below.alloc ?_ ?_ _)
    all_goals first | (simp; done) | (simp; omega)
theorem radd_over (a0 a1 a2 a3 b0 b1 b2 b3 : Int) (p0 : 0 ≤ a0) (p1 : 0 ≤ a1) (p2 : 0 ≤ a2) (p3 : 0 ≤ a3) (q0 : 0 ≤ b0) (q1 : 0 ≤ b1) (q2 : 0 ≤ b2) (q3 : 0 ≤ b3) (pm0 : a0 < 18446744073709551616) (pm1 : a1 < 18446744073709551616) (pm2 : a2 < 18446744073709551616) (pm3 : a3 < 18446744073709551616) (qm0 : b0 < 18446744073709551616) (qm1 : b1 < 18446744073709551616) (qm2 : b2 < 18446744073709551616) (qm3 : b3 < 18446744073709551616) (h : ¬ (a0 + b0 < 18446744073709551616 ∧ a1 + b1 < 18446744073709551616 ∧ a2 + b2 < 18446744073709551616 ∧ a3 + b3 < 18446744073709551616)) (w : World) :
    Calls Try.prog 12 #[.agg #[.int .u64 a0, .int .u64 a1, .int .u64 a2, .int .u64 a3], .agg #[.int .u64 b0, .int .u64 b1, .int .u64 b2, .int .u64 b3]] w fun e w' =>
      e = .returned (.tuple #[.agg #[.int .u64 0, .int .u64 0, .int .u64 0, .int .u64 0], .bool false]) ∧ Below w.heap.size w w' := by
  by_cases h0 : a0 + b0 < 18446744073709551616
  rotate_left
  · exact radd_o0 a0 a1 a2 a3 b0 b1 b2 b3 p0 p1 p2 p3 q0 q1 q2 q3 pm0 pm1 pm2 pm3 qm0 qm1 qm2 qm3  (by omega) w
  by_cases h1 : a1 + b1 < 18446744073709551616
  rotate_left
  · exact radd_o1 a0 a1 a2 a3 b0 b1 b2 b3 p0 p1 p2 p3 q0 q1 q2 q3 pm0 pm1 pm2 pm3 qm0 qm1 qm2 qm3 h0 (by omega) w
  by_cases h2 : a2 + b2 < 18446744073709551616
  rotate_left
  · exact radd_o2 a0 a1 a2 a3 b0 b1 b2 b3 p0 p1 p2 p3 q0 q1 q2 q3 pm0 pm1 pm2 pm3 qm0 qm1 qm2 qm3 h0 h1 (by omega) w
  by_cases h3 : a3 + b3 < 18446744073709551616
  rotate_left
  · exact radd_o3 a0 a1 a2 a3 b0 b1 b2 b3 p0 p1 p2 p3 q0 q1 q2 q3 pm0 pm1 pm2 pm3 qm0 qm1 qm2 qm3 h0 h1 h2 (by omega) w
  exact absurd ⟨h0, h1, h2, h3⟩ h
end Go.Proofs.Ytcmlbbingmnigaa
