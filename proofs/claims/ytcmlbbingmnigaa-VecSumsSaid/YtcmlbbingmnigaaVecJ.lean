/- The reference's Sub. -/
import Derived.Test.YtcmlbbingmnigaaVecI
namespace Go.Proofs.Ytcmlbbingmnigaa
open Go.RowKit
set_option linter.unusedVariables false

set_option maxHeartbeats 1000000 in
theorem rsub_ok (a0 a1 a2 a3 b0 b1 b2 b3 : Int) (p0 : 0 ≤ a0) (p1 : 0 ≤ a1) (p2 : 0 ≤ a2) (p3 : 0 ≤ a3) (q0 : 0 ≤ b0) (q1 : 0 ≤ b1) (q2 : 0 ≤ b2) (q3 : 0 ≤ b3) (pm0 : a0 < 18446744073709551616) (pm1 : a1 < 18446744073709551616) (pm2 : a2 < 18446744073709551616) (pm3 : a3 < 18446744073709551616) (qm0 : b0 < 18446744073709551616) (qm1 : b1 < 18446744073709551616) (qm2 : b2 < 18446744073709551616) (qm3 : b3 < 18446744073709551616) (h0 : b0 ≤ a0) (h1 : b1 ≤ a1) (h2 : b2 ≤ a2) (h3 : b3 ≤ a3) (w : World) :
    Calls Try.prog 13 #[.agg #[.int .u64 a0, .int .u64 a1, .int .u64 a2, .int .u64 a3], .agg #[.int .u64 b0, .int .u64 b1, .int .u64 b2, .int .u64 b3]] w fun e w' =>
      e = .returned (.tuple #[.agg #[.int .u64 (a0 - b0), .int .u64 (a1 - b1), .int .u64 (a2 - b2), .int .u64 (a3 - b3)], .bool true]) ∧ Below w.heap.size w w' := by
  go_enter Try.func13, Try.ntmps13
  go_wp2_with fail
  refine (rfits_t b0 b1 b2 b3 a0 a1 a2 a3 h0 h1 h2 h3 _).mono ?_
  rintro e w1 ⟨rfl, hb1⟩
  have hs1 := hb1.size
  obtain ⟨hc1, hf1⟩ := bcell hb1
  have hz1 : w.heap.size + 1 + 1 < w1.heap.size := by simp at hs1; omega
  go_wp2
  have k1 : Below w.heap.size w w1 := ((((Below.refl _ w).alloc (Nat.le_refl _) _).alloc (by simp) _).alloc (by simp; omega) _).trans (hb1.mono (by simp; omega))
  refine bodyPost_ret (v := .tuple #[.agg #[.int .u64 (a0 - b0), .int .u64 (a1 - b1), .int .u64 (a2 - b2), .int .u64 (a3 - b3)], .bool true]) ?_ rfl ?_
  · simp [results, Try.results13, go_sem, hc1]
  · refine ⟨rfl, ?_⟩
    repeat (first | with_reducible exact k1 | with_reducible refine Below.setCell ?_ ?_ _ | with_reducible refine below_drewN ?_ _ | with_reducible refine Below.alloc ?_ ?_ _)
    all_goals first | (simp; done) | (simp; omega)
set_option maxHeartbeats 1000000 in
theorem rsub_over (a0 a1 a2 a3 b0 b1 b2 b3 : Int) (p0 : 0 ≤ a0) (p1 : 0 ≤ a1) (p2 : 0 ≤ a2) (p3 : 0 ≤ a3) (q0 : 0 ≤ b0) (q1 : 0 ≤ b1) (q2 : 0 ≤ b2) (q3 : 0 ≤ b3) (pm0 : a0 < 18446744073709551616) (pm1 : a1 < 18446744073709551616) (pm2 : a2 < 18446744073709551616) (pm3 : a3 < 18446744073709551616) (qm0 : b0 < 18446744073709551616) (qm1 : b1 < 18446744073709551616) (qm2 : b2 < 18446744073709551616) (qm3 : b3 < 18446744073709551616) (h : Hid (¬ (b0 ≤ a0 ∧ b1 ≤ a1 ∧ b2 ≤ a2 ∧ b3 ≤ a3))) (w : World) :
    Calls Try.prog 13 #[.agg #[.int .u64 a0, .int .u64 a1, .int .u64 a2, .int .u64 a3], .agg #[.int .u64 b0, .int .u64 b1, .int .u64 b2, .int .u64 b3]] w fun e w' =>
      e = .returned (.tuple #[.agg #[.int .u64 0, .int .u64 0, .int .u64 0, .int .u64 0], .bool false]) ∧ Below w.heap.size w w' := by
  go_enter Try.func13, Try.ntmps13
  go_wp2_with fail
  refine (rfits_f b0 b1 b2 b3 a0 a1 a2 a3 h.out _).mono ?_
  rintro e w1 ⟨rfl, hb1⟩
  have hs1 := hb1.size
  obtain ⟨hc1, hf1⟩ := bcell hb1
  have hz1 : w.heap.size + 1 + 1 < w1.heap.size := by simp at hs1; omega
  go_wp2
  have k1 : Below w.heap.size w w1 := ((((Below.refl _ w).alloc (Nat.le_refl _) _).alloc (by simp) _).alloc (by simp; omega) _).trans (hb1.mono (by simp; omega))
  refine bodyPost_ret (v := .tuple #[.agg #[.int .u64 0, .int .u64 0, .int .u64 0, .int .u64 0], .bool false]) ?_ rfl ?_
  · simp [results, Try.results13, go_sem, hc1]
  · refine ⟨rfl, ?_⟩
    repeat (first | with_reducible exact k1 | with_reducible refine Below.setCell ?_ ?_ _ | with_reducible refine below_drewN ?_ _ | with_reducible refine Below.alloc ?_ ?_ _)
    all_goals first | (simp; done) | (simp; omega)
end Go.Proofs.Ytcmlbbingmnigaa
