/- vec.Fits and the reference's. -/
import Derived.Test.YtcmlbbingmnigaaVecA
namespace Go.Proofs.Ytcmlbbingmnigaa
open Go.RowKit
set_option linter.unusedVariables false

set_option maxHeartbeats 1000000 in
theorem vfits_o0 (a0 a1 a2 a3 b0 b1 b2 b3 : Int)  (h0 : b0 < a0) (w : World) :
    Calls Try.prog 16 #[.agg #[.int .u64 a0, .int .u64 a1, .int .u64 a2, .int .u64 a3], .agg #[.int .u64 b0, .int .u64 b1, .int .u64 b2, .int .u64 b3]] w fun e w' =>
      e = .returned (.bool false) ∧ Below w.heap.size w w' := by
  go_enter Try.func16, Try.ntmps16
  go_wp2
  refine wp_loop_rounds 5 ?_
  rw [rounds_succ]
  go_wp2
  go_quiet (fail)
  go_wp2
  go_ret
  refine ⟨rfl, ?_⟩
  repeat (first | with_reducible exact Below.refl _ _ | with_reducible refine Below.setCell ?_ ?_ _ | with_reducible refine below_drewN ?_ _ | with_reducible refine Below.alloc ?_ ?_ _)
  all_goals first | (simp; done) | (simp; omega)
set_option maxHeartbeats 1000000 in
theorem vfits_o1 (a0 a1 a2 a3 b0 b1 b2 b3 : Int) (h0 : a0 ≤ b0) (h1 : b1 < a1) (w : World) :
    Calls Try.prog 16 #[.agg #[.int .u64 a0, .int .u64 a1, .int .u64 a2, .int .u64 a3], .agg #[.int .u64 b0, .int .u64 b1, .int .u64 b2, .int .u64 b3]] w fun e w' =>
      e = .returned (.bool false) ∧ Below w.heap.size w w' := by
  go_enter Try.func16, Try.ntmps16
  go_wp2
  refine wp_loop_rounds 5 ?_
  rw [rounds_succ]
  go_wp2
  go_quiet (fail)
  go_wp2
  rw [rounds_succ]
  go_wp2
  go_quiet (fail)
  go_wp2
  go_ret
  refine ⟨rfl, ?_⟩
  repeat (first | with_reducible exact Below.refl _ _ | with_reducible refine Below.setCell ?_ ?_ _ | with_reducible refine below_drewN ?_ _ | with_reducible refine Below.alloc ?_ ?_ _)
  all_goals first | (simp; done) | (simp; omega)
set_option maxHeartbeats 1000000 in
theorem vfits_o2 (a0 a1 a2 a3 b0 b1 b2 b3 : Int) (h0 : a0 ≤ b0) (h1 : a1 ≤ b1) (h2 : b2 < a2) (w : World) :
    Calls Try.prog 16 #[.agg #[.int .u64 a0, .int .u64 a1, .int .u64 a2, .int .u64 a3], .agg #[.int .u64 b0, .int .u64 b1, .int .u64 b2, .int .u64 b3]] w fun e w' =>
      e = .returned (.bool false) ∧ Below w.heap.size w w' := by
  go_enter Try.func16, Try.ntmps16
  go_wp2
  refine wp_loop_rounds 5 ?_
  rw [rounds_succ]
  go_wp2
  go_quiet (fail)
  go_wp2
  rw [rounds_succ]
  go_wp2
  go_quiet (fail)
  go_wp2
  rw [rounds_succ]
  go_wp2
  go_quiet (fail)
  go_wp2
  go_ret
  refine ⟨rfl, ?_⟩
  repeat (first | with_reducible exact Below.refl _ _ | with_reducible refine Below.setCell ?_ ?_ _ | with_reducible refine below_drewN ?_ _ | with_reducible refine Below.alloc ?_ ?_ _)
  all_goals first | (simp; done) | (simp; omega)
set_option maxHeartbeats 1000000 in
theorem vfits_o3 (a0 a1 a2 a3 b0 b1 b2 b3 : Int) (h0 : a0 ≤ b0) (h1 : a1 ≤ b1) (h2 : a2 ≤ b2) (h3 : b3 < a3) (w : World) :
    Calls Try.prog 16 #[.agg #[.int .u64 a0, .int .u64 a1, .int .u64 a2, .int .u64 a3], .agg #[.int .u64 b0, .int .u64 b1, .int .u64 b2, .int .u64 b3]] w fun e w' =>
      e = .returned (.bool false) ∧ Below w.heap.size w w' := by
  go_enter Try.func16, Try.ntmps16
  go_wp2
  refine wp_loop_rounds 5 ?_
  rw [rounds_succ]
  go_wp2
  go_quiet (fail)
  go_wp2
  rw [rounds_succ]
  go_wp2
  go_quiet (fail)
  go_wp2
  rw [rounds_succ]
  go_wp2
  go_quiet (fail)
  go_wp2
  rw [rounds_succ]
  go_wp2
  go_quiet (fail)
  go_wp2
  go_ret
  refine ⟨rfl, ?_⟩
  repeat (first | with_reducible exact Below.refl _ _ | with_reducible refine Below.setCell ?_ ?_ _ | with_reducible refine below_drewN ?_ _ | with_reducible refine Below.alloc ?_ ?_ _)
  all_goals first | (simp; done) | (simp; omega)
set_option maxHeartbeats 1000000 in
theorem vfits_t (a0 a1 a2 a3 b0 b1 b2 b3 : Int) (h0 : a0 ≤ b0) (h1 : a1 ≤ b1) (h2 : a2 ≤ b2) (h3 : a3 ≤ b3) (w : World) :
    Calls Try.prog 16 #[.agg #[.int .u64 a0, .int .u64 a1, .int .u64 a2, .int .u64 a3], .agg #[.int .u64 b0, .int .u64 b1, .int .u64 b2, .int .u64 b3]] w fun e w' =>
      e = .returned (.bool true) ∧ Below w.heap.size w w' := by
  go_enter Try.func16, Try.ntmps16
  go_wp2
  refine wp_loop_rounds 5 ?_
  rw [rounds_succ]
  go_wp2
  go_quiet (fail)
  go_wp2
  rw [rounds_succ]
  go_wp2
  go_quiet (fail)
  go_wp2
  rw [rounds_succ]
  go_wp2
  go_quiet (fail)
  go_wp2
  rw [rounds_succ]
  go_wp2
  go_quiet (fail)
  go_wp2
  rw [rounds_succ]
  go_wp2
  go_ret
  refine ⟨rfl, ?_⟩
  repeat (first | with_reducible exact Below.refl _ _ | with_reducible refine Below.setCell ?_ ?_ _ | with_reducible refine below_drewN ?_ _ | with_reducible refine Below.alloc ?_ ?_ _)
  all_goals first | (simp; done) | (simp; omega)
theorem vfits_f (a0 a1 a2 a3 b0 b1 b2 b3 : Int) (h : ¬ (a0 ≤ b0 ∧ a1 ≤ b1 ∧ a2 ≤ b2 ∧ a3 ≤ b3)) (w : World) :
    Calls Try.prog 16 #[.agg #[.int .u64 a0, .int .u64 a1, .int .u64 a2, .int .u64 a3], .agg #[.int .u64 b0, .int .u64 b1, .int .u64 b2, .int .u64 b3]] w fun e w' =>
      e = .returned (.bool false) ∧ Below w.heap.size w w' := by
  by_cases h0 : a0 ≤ b0
  rotate_left
  · exact vfits_o0 a0 a1 a2 a3 b0 b1 b2 b3  (by omega) w
  by_cases h1 : a1 ≤ b1
  rotate_left
  · exact vfits_o1 a0 a1 a2 a3 b0 b1 b2 b3 h0 (by omega) w
  by_cases h2 : a2 ≤ b2
  rotate_left
  · exact vfits_o2 a0 a1 a2 a3 b0 b1 b2 b3 h0 h1 (by omega) w
  by_cases h3 : a3 ≤ b3
  rotate_left
  · exact vfits_o3 a0 a1 a2 a3 b0 b1 b2 b3 h0 h1 h2 (by omega) w
  exact absurd ⟨h0, h1, h2, h3⟩ h
set_option maxHeartbeats 1000000 in
theorem rfits_o0 (a0 a1 a2 a3 b0 b1 b2 b3 : Int)  (h0 : b0 < a0) (w : World) :
    Calls Try.prog 17 #[.agg #[.int .u64 a0, .int .u64 a1, .int .u64 a2, .int .u64 a3], .agg #[.int .u64 b0, .int .u64 b1, .int .u64 b2, .int .u64 b3]] w fun e w' =>
      e = .returned (.bool false) ∧ Below w.heap.size w w' := by
  have hd : decide (a0 ≤ b0) = false := by simpa using h0
  go_enter Try.func17, Try.ntmps17
  go_wp2
  go_ret
  refine ⟨rfl, ?_⟩
  repeat (first | with_reducible exact Below.refl _ _ | with_reducible refine Below.setCell ?_ ?_ _ | with_reducible refine below_drewN ?_ _ | with_reducible refine Below.alloc ?_ ?_ _)
  all_goals first | (simp; done) | (simp; omega)
set_option maxHeartbeats 1000000 in
theorem rfits_o1 (a0 a1 a2 a3 b0 b1 b2 b3 : Int) (h0 : a0 ≤ b0) (h1 : b1 < a1) (w : World) :
    Calls Try.prog 17 #[.agg #[.int .u64 a0, .int .u64 a1, .int .u64 a2, .int .u64 a3], .agg #[.int .u64 b0, .int .u64 b1, .int .u64 b2, .int .u64 b3]] w fun e w' =>
      e = .returned (.bool false) ∧ Below w.heap.size w w' := by
  have hd : decide (a1 ≤ b1) = false := by simpa using h1
  go_enter Try.func17, Try.ntmps17
  go_wp2
  go_ret
  refine ⟨rfl, ?_⟩
  repeat (first | with_reducible exact Below.refl _ _ | with_reducible refine Below.setCell ?_ ?_ _ | with_reducible refine below_drewN ?_ _ | with_reducible refine Below.alloc ?_ ?_ _)
  all_goals first | (simp; done) | (simp; omega)
set_option maxHeartbeats 1000000 in
theorem rfits_o2 (a0 a1 a2 a3 b0 b1 b2 b3 : Int) (h0 : a0 ≤ b0) (h1 : a1 ≤ b1) (h2 : b2 < a2) (w : World) :
    Calls Try.prog 17 #[.agg #[.int .u64 a0, .int .u64 a1, .int .u64 a2, .int .u64 a3], .agg #[.int .u64 b0, .int .u64 b1, .int .u64 b2, .int .u64 b3]] w fun e w' =>
      e = .returned (.bool false) ∧ Below w.heap.size w w' := by
  have hd : decide (a2 ≤ b2) = false := by simpa using h2
  go_enter Try.func17, Try.ntmps17
  go_wp2
  go_ret
  refine ⟨rfl, ?_⟩
  repeat (first | with_reducible exact Below.refl _ _ | with_reducible refine Below.setCell ?_ ?_ _ | with_reducible refine below_drewN ?_ _ | with_reducible refine Below.alloc ?_ ?_ _)
  all_goals first | (simp; done) | (simp; omega)
set_option maxHeartbeats 1000000 in
theorem rfits_o3 (a0 a1 a2 a3 b0 b1 b2 b3 : Int) (h0 : a0 ≤ b0) (h1 : a1 ≤ b1) (h2 : a2 ≤ b2) (h3 : b3 < a3) (w : World) :
    Calls Try.prog 17 #[.agg #[.int .u64 a0, .int .u64 a1, .int .u64 a2, .int .u64 a3], .agg #[.int .u64 b0, .int .u64 b1, .int .u64 b2, .int .u64 b3]] w fun e w' =>
      e = .returned (.bool false) ∧ Below w.heap.size w w' := by
  have hd : decide (a3 ≤ b3) = false := by simpa using h3
  go_enter Try.func17, Try.ntmps17
  go_wp2
  go_ret
  refine ⟨rfl, ?_⟩
  repeat (first | with_reducible exact Below.refl _ _ | with_reducible refine Below.setCell ?_ ?_ _ | with_reducible refine below_drewN ?_ _ | with_reducible refine Below.alloc ?_ ?_ _)
  all_goals first | (simp; done) | (simp; omega)
set_option maxHeartbeats 1000000 in
theorem rfits_t (a0 a1 a2 a3 b0 b1 b2 b3 : Int) (h0 : a0 ≤ b0) (h1 : a1 ≤ b1) (h2 : a2 ≤ b2) (h3 : a3 ≤ b3) (w : World) :
    Calls Try.prog 17 #[.agg #[.int .u64 a0, .int .u64 a1, .int .u64 a2, .int .u64 a3], .agg #[.int .u64 b0, .int .u64 b1, .int .u64 b2, .int .u64 b3]] w fun e w' =>
      e = .returned (.bool true) ∧ Below w.heap.size w w' := by
  go_enter Try.func17, Try.ntmps17
  go_wp2
  go_ret
  refine ⟨rfl, ?_⟩
  repeat (first | with_reducible exact Below.refl _ _ | with_reducible refine Below.setCell ?_ ?_ _ | with_reducible refine below_drewN ?_ _ | with_reducible refine Below.alloc ?_ ?_ _)
  all_goals first | (simp; done) | (simp; omega)
theorem rfits_f (a0 a1 a2 a3 b0 b1 b2 b3 : Int) (h : ¬ (a0 ≤ b0 ∧ a1 ≤ b1 ∧ a2 ≤ b2 ∧ a3 ≤ b3)) (w : World) :
    Calls Try.prog 17 #[.agg #[.int .u64 a0, .int .u64 a1, .int .u64 a2, .int .u64 a3], .agg #[.int .u64 b0, .int .u64 b1, .int .u64 b2, .int .u64 b3]] w fun e w' =>
      e = .returned (.bool false) ∧ Below w.heap.size w w' := by
  by_cases h0 : a0 ≤ b0
  rotate_left
  · exact rfits_o0 a0 a1 a2 a3 b0 b1 b2 b3  (by omega) w
  by_cases h1 : a1 ≤ b1
  rotate_left
  · exact rfits_o1 a0 a1 a2 a3 b0 b1 b2 b3 h0 (by omega) w
  by_cases h2 : a2 ≤ b2
  rotate_left
  · exact rfits_o2 a0 a1 a2 a3 b0 b1 b2 b3 h0 h1 (by omega) w
  by_cases h3 : a3 ≤ b3
  rotate_left
  · exact rfits_o3 a0 a1 a2 a3 b0 b1 b2 b3 h0 h1 h2 (by omega) w
  exact absurd ⟨h0, h1, h2, h3⟩ h
end Go.Proofs.Ytcmlbbingmnigaa
