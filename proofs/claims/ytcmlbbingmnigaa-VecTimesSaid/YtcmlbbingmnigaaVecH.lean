/- The reference's Times. -/
import Derived.Test.YtcmlbbingmnigaaVecF
namespace Go.Proofs.Ytcmlbbingmnigaa
open Go.RowKit
set_option linter.unusedVariables false

set_option maxHeartbeats 1000000 in
theorem rtimes_o0 (a0 a1 a2 a3 n : Int) (p0 : 0 ≤ a0) (p1 : 0 ≤ a1) (p2 : 0 ≤ a2) (p3 : 0 ≤ a3) (pm0 : a0 < 18446744073709551616) (pm1 : a1 < 18446744073709551616) (pm2 : a2 < 18446744073709551616) (pm3 : a3 < 18446744073709551616) (q : 0 ≤ n) (qm : n < 18446744073709551616)  (h0 : 18446744073709551616 ≤ a0 * n) (w : World) :
    Calls Try.prog 19 #[.agg #[.int .u64 a0, .int .u64 a1, .int .u64 a2, .int .u64 a3], .int .u64 n] w fun e w' =>
      e = .returned (.tuple #[.agg #[.int .u64 0, .int .u64 0, .int .u64 0, .int .u64 0], .bool false]) ∧ Below w.heap.size w w' := by
  have m0 : 0 ≤ a0 * n := Int.mul_nonneg p0 q
  have m1 : 0 ≤ a1 * n := Int.mul_nonneg p1 q
  have m2 : 0 ≤ a2 * n := Int.mul_nonneg p2 q
  have m3 : 0 ≤ a3 * n := Int.mul_nonneg p3 q
  go_enter Try.func19, Try.ntmps19
  go_wp2
  refine wp_loop_rounds 5 ?_
  rw [rounds_succ]
  go_wp2_with fail
  refine (times_over a0 n p0 q pm0 qm h0 _).mono ?_; rintro e w' ⟨rfl, rfl⟩
  go_wp2
  refine bodyPost_ret (v := .tuple #[.agg #[.int .u64 0, .int .u64 0, .int .u64 0, .int .u64 0], .bool false]) ?_ rfl ?_
  · simp [results, Try.results19, go_sem]
  · refine ⟨rfl, ?_⟩
    repeat (first | with_reducible exact Below.refl _ _ | with_reducible refine Below.setCell ?_ ?_ _ | with_reducible refine below_drewN ?_ _ | with_reducible refine Below.alloc ?_ ?_ _)
    all_goals first | (simp; done) | (simp; omega)
set_option maxHeartbeats 1000000 in
theorem rtimes_o1 (a0 a1 a2 a3 n : Int) (p0 : 0 ≤ a0) (p1 : 0 ≤ a1) (p2 : 0 ≤ a2) (p3 : 0 ≤ a3) (pm0 : a0 < 18446744073709551616) (pm1 : a1 < 18446744073709551616) (pm2 : a2 < 18446744073709551616) (pm3 : a3 < 18446744073709551616) (q : 0 ≤ n) (qm : n < 18446744073709551616) (h0 : a0 * n < 18446744073709551616) (h1 : 18446744073709551616 ≤ a1 * n) (w : World) :
    Calls Try.prog 19 #[.agg #[.int .u64 a0, .int .u64 a1, .int .u64 a2, .int .u64 a3], .int .u64 n] w fun e w' =>
      e = .returned (.tuple #[.agg #[.int .u64 0, .int .u64 0, .int .u64 0, .int .u64 0], .bool false]) ∧ Below w.heap.size w w' := by
  have m0 : 0 ≤ a0 * n := Int.mul_nonneg p0 q
  have m1 : 0 ≤ a1 * n := Int.mul_nonneg p1 q
  have m2 : 0 ≤ a2 * n := Int.mul_nonneg p2 q
  have m3 : 0 ≤ a3 * n := Int.mul_nonneg p3 q
  go_enter Try.func19, Try.ntmps19
  go_wp2
  refine wp_loop_rounds 5 ?_
  rw [rounds_succ]
  go_wp2_with fail
  refine (times_ok a0 n p0 q pm0 qm h0 _).mono ?_; rintro e w' ⟨rfl, rfl⟩
  go_wp2
  rw [rounds_succ]
  go_wp2_with fail
  refine (times_over a1 n p1 q pm1 qm h1 _).mono ?_; rintro e w' ⟨rfl, rfl⟩
  go_wp2
  refine bodyPost_ret (v := .tuple #[.agg #[.int .u64 0, .int .u64 0, .int .u64 0, .int .u64 0], .bool false]) ?_ rfl ?_
  · simp [results, Try.results19, go_sem]
  · refine ⟨rfl, ?_⟩
    repeat (first | with_reducible exact Below.refl _ _ | with_reducible refine Below.setCell ?_ ?_ _ | with_reducible refine below_drewN ?_ _ | with_reducible refine Below.alloc ?_ ?_ _)
    all_goals first | (simp; done) | (simp; omega)
set_option maxHeartbeats 1000000 in
theorem rtimes_o2 (a0 a1 a2 a3 n : Int) (p0 : 0 ≤ a0) (p1 : 0 ≤ a1) (p2 : 0 ≤ a2) (p3 : 0 ≤ a3) (pm0 : a0 < 18446744073709551616) (pm1 : a1 < 18446744073709551616) (pm2 : a2 < 18446744073709551616) (pm3 : a3 < 18446744073709551616) (q : 0 ≤ n) (qm : n < 18446744073709551616) (h0 : a0 * n < 18446744073709551616) (h1 : a1 * n < 18446744073709551616) (h2 : 18446744073709551616 ≤ a2 * n) (w : World) :
    Calls Try.prog 19 #[.agg #[.int .u64 a0, .int .u64 a1, .int .u64 a2, .int .u64 a3], .int .u64 n] w fun e w' =>
      e = .returned (.tuple #[.agg #[.int .u64 0, .int .u64 0, .int .u64 0, .int .u64 0], .bool false]) ∧ Below w.heap.size w w' := by
  have m0 : 0 ≤ a0 * n := Int.mul_nonneg p0 q
  have m1 : 0 ≤ a1 * n := Int.mul_nonneg p1 q
  have m2 : 0 ≤ a2 * n := Int.mul_nonneg p2 q
  have m3 : 0 ≤ a3 * n := Int.mul_nonneg p3 q
  go_enter Try.func19, Try.ntmps19
  go_wp2
  refine wp_loop_rounds 5 ?_
  rw [rounds_succ]
  go_wp2_with fail
  refine (times_ok a0 n p0 q pm0 qm h0 _).mono ?_; rintro e w' ⟨rfl, rfl⟩
  go_wp2
  rw [rounds_succ]
  go_wp2_with fail
  refine (times_ok a1 n p1 q pm1 qm h1 _).mono ?_; rintro e w' ⟨rfl, rfl⟩
  go_wp2
  rw [rounds_succ]
  go_wp2_with fail
  refine (times_over a2 n p2 q pm2 qm h2 _).mono ?_; rintro e w' ⟨rfl, rfl⟩
  go_wp2
  refine bodyPost_ret (v := .tuple #[.agg #[.int .u64 0, .int .u64 0, .int .u64 0, .int .u64 0], .bool false]) ?_ rfl ?_
  · simp [results, Try.results19, go_sem]
  · refine ⟨rfl, ?_⟩
    repeat (first | with_reducible exact Below.refl _ _ | with_reducible refine Below.setCell ?_ ?_ _ | with_reducible refine below_drewN ?_ _ | with_reducible refine Below.alloc ?_ ?_ _)
    all_goals first | (simp; done) | (simp; omega)
set_option maxHeartbeats 1000000 in
theorem rtimes_o3 (a0 a1 a2 a3 n : Int) (p0 : 0 ≤ a0) (p1 : 0 ≤ a1) (p2 : 0 ≤ a2) (p3 : 0 ≤ a3) (pm0 : a0 < 18446744073709551616) (pm1 : a1 < 18446744073709551616) (pm2 : a2 < 18446744073709551616) (pm3 : a3 < 18446744073709551616) (q : 0 ≤ n) (qm : n < 18446744073709551616) (h0 : a0 * n < 18446744073709551616) (h1 : a1 * n < 18446744073709551616) (h2 : a2 * n < 18446744073709551616) (h3 : 18446744073709551616 ≤ a3 * n) (w : World) :
    Calls Try.prog 19 #[.agg #[.int .u64 a0, .int .u64 a1, .int .u64 a2, .int .u64 a3], .int .u64 n] w fun e w' =>
      e = .returned (.tuple #[.agg #[.int .u64 0, .int .u64 0, .int .u64 0, .int .u64 0], .bool false]) ∧ Below w.heap.size w w' := by
  have m0 : 0 ≤ a0 * n := Int.mul_nonneg p0 q
  have m1 : 0 ≤ a1 * n := Int.mul_nonneg p1 q
  have m2 : 0 ≤ a2 * n := Int.mul_nonneg p2 q
  have m3 : 0 ≤ a3 * n := Int.mul_nonneg p3 q
  go_enter Try.func19, Try.ntmps19
  go_wp2
  refine wp_loop_rounds 5 ?_
  rw [rounds_succ]
  go_wp2_with fail
  refine (times_ok a0 n p0 q pm0 qm h0 _).mono ?_; rintro e w' ⟨rfl, rfl⟩
  go_wp2
  rw [rounds_succ]
  go_wp2_with fail
  refine (times_ok a1 n p1 q pm1 qm h1 _).mono ?_; rintro e w' ⟨rfl, rfl⟩
  go_wp2
  rw [rounds_succ]
  go_wp2_with fail
  refine (times_ok a2 n p2 q pm2 qm h2 _).mono ?_; rintro e w' ⟨rfl, rfl⟩
  go_wp2
  rw [rounds_succ]
  go_wp2_with fail
  refine (times_over a3 n p3 q pm3 qm h3 _).mono ?_; rintro e w' ⟨rfl, rfl⟩
  go_wp2
  refine bodyPost_ret (v := .tuple #[.agg #[.int .u64 0, .int .u64 0, .int .u64 0, .int .u64 0], .bool false]) ?_ rfl ?_
  · simp [results, Try.results19, go_sem]
  · refine ⟨rfl, ?_⟩
    repeat (first | with_reducible exact Below.refl _ _ | with_reducible refine Below.setCell ?_ ?_ _ | with_reducible refine below_drewN ?_ _ | with_reducible refine Below.alloc ?_ ?_ _)
    all_goals first | (simp; done) | (simp; omega)
set_option maxHeartbeats 1000000 in
theorem rtimes_ok (a0 a1 a2 a3 n : Int) (p0 : 0 ≤ a0) (p1 : 0 ≤ a1) (p2 : 0 ≤ a2) (p3 : 0 ≤ a3) (pm0 : a0 < 18446744073709551616) (pm1 : a1 < 18446744073709551616) (pm2 : a2 < 18446744073709551616) (pm3 : a3 < 18446744073709551616) (q : 0 ≤ n) (qm : n < 18446744073709551616) (h0 : a0 * n < 18446744073709551616) (h1 : a1 * n < 18446744073709551616) (h2 : a2 * n < 18446744073709551616) (h3 : a3 * n < 18446744073709551616) (w : World) :
    Calls Try.prog 19 #[.agg #[.int .u64 a0, .int .u64 a1, .int .u64 a2, .int .u64 a3], .int .u64 n] w fun e w' =>
      e = .returned (.tuple #[.agg #[.int .u64 (a0 * n), .int .u64 (a1 * n), .int .u64 (a2 * n), .int .u64 (a3 * n)], .bool true]) ∧ Below w.heap.size w w' := by
  have m0 : 0 ≤ a0 * n := Int.mul_nonneg p0 q
  have m1 : 0 ≤ a1 * n := Int.mul_nonneg p1 q
  have m2 : 0 ≤ a2 * n := Int.mul_nonneg p2 q
  have m3 : 0 ≤ a3 * n := Int.mul_nonneg p3 q
  go_enter Try.func19, Try.ntmps19
  go_wp2
  refine wp_loop_rounds 5 ?_
  rw [rounds_succ]
  go_wp2_with fail
  refine (times_ok a0 n p0 q pm0 qm h0 _).mono ?_; rintro e w' ⟨rfl, rfl⟩
  go_wp2
  rw [rounds_succ]
  go_wp2_with fail
  refine (times_ok a1 n p1 q pm1 qm h1 _).mono ?_; rintro e w' ⟨rfl, rfl⟩
  go_wp2
  rw [rounds_succ]
  go_wp2_with fail
  refine (times_ok a2 n p2 q pm2 qm h2 _).mono ?_; rintro e w' ⟨rfl, rfl⟩
  go_wp2
  rw [rounds_succ]
  go_wp2_with fail
  refine (times_ok a3 n p3 q pm3 qm h3 _).mono ?_; rintro e w' ⟨rfl, rfl⟩
  go_wp2
  rw [rounds_succ]
  go_wp2
  refine bodyPost_ret (v := .tuple #[.agg #[.int .u64 (a0 * n), .int .u64 (a1 * n), .int .u64 (a2 * n), .int .u64 (a3 * n)], .bool true]) ?_ rfl ?_
  · simp [results, Try.results19, go_sem]
  · refine ⟨rfl, ?_⟩
    repeat (first | with_reducible exact Below.refl _ _ | with_reducible refine Below.setCell ?_ ?_ _ | with_reducible refine below_drewN ?_ _ | with_reducible refine Below.alloc ?_ ?_ _)
    all_goals first | (simp; done) | (simp; omega)
theorem rtimes_over (a0 a1 a2 a3 n : Int) (p0 : 0 ≤ a0) (p1 : 0 ≤ a1) (p2 : 0 ≤ a2) (p3 : 0 ≤ a3) (pm0 : a0 < 18446744073709551616) (pm1 : a1 < 18446744073709551616) (pm2 : a2 < 18446744073709551616) (pm3 : a3 < 18446744073709551616) (q : 0 ≤ n) (qm : n < 18446744073709551616)  (h : ¬ (a0 * n < 18446744073709551616 ∧ a1 * n < 18446744073709551616 ∧ a2 * n < 18446744073709551616 ∧ a3 * n < 18446744073709551616)) (w : World) :
    Calls Try.prog 19 #[.agg #[.int .u64 a0, .int .u64 a1, .int .u64 a2, .int .u64 a3], .int .u64 n] w fun e w' =>
      e = .returned (.tuple #[.agg #[.int .u64 0, .int .u64 0, .int .u64 0, .int .u64 0], .bool false]) ∧ Below w.heap.size w w' := by
  by_cases h0 : a0 * n < 18446744073709551616
  rotate_left
  · exact rtimes_o0 a0 a1 a2 a3 n p0 p1 p2 p3 pm0 pm1 pm2 pm3 q qm  (by omega) w
  by_cases h1 : a1 * n < 18446744073709551616
  rotate_left
  · exact rtimes_o1 a0 a1 a2 a3 n p0 p1 p2 p3 pm0 pm1 pm2 pm3 q qm h0 (by omega) w
  by_cases h2 : a2 * n < 18446744073709551616
  rotate_left
  · exact rtimes_o2 a0 a1 a2 a3 n p0 p1 p2 p3 pm0 pm1 pm2 pm3 q qm h0 h1 (by omega) w
  by_cases h3 : a3 * n < 18446744073709551616
  rotate_left
  · exact rtimes_o3 a0 a1 a2 a3 n p0 p1 p2 p3 pm0 pm1 pm2 pm3 q qm h0 h1 h2 (by omega) w
  exact absurd ⟨h0, h1, h2, h3⟩ h
end Go.Proofs.Ytcmlbbingmnigaa
