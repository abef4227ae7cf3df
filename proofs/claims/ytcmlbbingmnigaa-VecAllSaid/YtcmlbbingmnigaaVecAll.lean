/- The law VecAll, walked. -/
import Derived.Test.YtcmlbbingmnigaaVecM
import Derived.Test.YtcmlbbingmnigaaVecE
namespace Go.Proofs.Ytcmlbbingmnigaa
open Go.RowKit
set_option linter.unusedVariables false

set_option maxHeartbeats 400000 in
theorem vsum_nil (w : World) : Calls Try.prog 20 #[.slice none 0 0] w fun e w' => e = .returned (.tuple #[.agg #[.int .u64 0, .int .u64 0, .int .u64 0, .int .u64 0], .nilIface]) ∧ Below w.heap.size w w' := by
  go_enter Try.func20, Try.ntmps20
  go_wp2
  refine wp_loop_rounds 1 ?_
  rw [rounds_succ]
  go_wp2
  refine bodyPost_ret (v := .tuple #[.agg #[.int .u64 0, .int .u64 0, .int .u64 0, .int .u64 0], .nilIface]) ?_ rfl ?_
  · simp [results, Try.results20, go_sem]
  · refine ⟨rfl, ?_⟩
    repeat (first | with_reducible exact Below.refl _ _ | with_reducible refine Below.setCell ?_ ?_ _ | with_reducible refine Below.alloc ?_ ?_ _)
    all_goals first | (simp; done) | (simp; omega) | omega
set_option maxHeartbeats 400000 in
theorem rsum_nil (w : World) : Calls Try.prog 21 #[.slice none 0 0] w fun e w' => e = .returned (.tuple #[.agg #[.int .u64 0, .int .u64 0, .int .u64 0, .int .u64 0], .bool true]) ∧ Below w.heap.size w w' := by
  go_enter Try.func21, Try.ntmps21
  go_wp2
  refine wp_loop_rounds 1 ?_
  rw [rounds_succ]
  go_wp2
  refine bodyPost_ret (v := .tuple #[.agg #[.int .u64 0, .int .u64 0, .int .u64 0, .int .u64 0], .bool true]) ?_ rfl ?_
  · simp [results, Try.results21, go_sem]
  · refine ⟨rfl, ?_⟩
    repeat (first | with_reducible exact Below.refl _ _ | with_reducible refine Below.setCell ?_ ?_ _ | with_reducible refine Below.alloc ?_ ?_ _)
    all_goals first | (simp; done) | (simp; omega) | omega

/-- The law from what its callees come to, at a slice of at most 500 amounts, nil or not. -/
theorem vecAll_in (sl : Value) (s0 s1 s2 s3 x0 x1 x2 x3 : Int) (se : Value) (xb : Bool) (n : Nat) (hn : n ≤ 500) (w : World)
    (hl : ∀ w : World, (Builtin.len_ #[38] 3 #[sl]).run Try.prog w = .ok (.int .i64 n) w)
    (hs : ∀ v : World, Below w.heap.size w v → Calls Try.prog 20 #[sl] v fun e w' => e = .returned (.tuple #[.agg #[.int .u64 s0, .int .u64 s1, .int .u64 s2, .int .u64 s3], se]) ∧ Below v.heap.size v w')
    (hx : ∀ v : World, Below w.heap.size w v → Calls Try.prog 21 #[sl] v fun e w' => e = .returned (.tuple #[.agg #[.int .u64 x0, .int .u64 x1, .int .u64 x2, .int .u64 x3], .bool xb]) ∧ Below v.heap.size v w')
    (h1 : ∀ v : World, Calls Try.prog 15 #[.agg #[.int .u64 s0, .int .u64 s1, .int .u64 s2, .int .u64 s3], se, .agg #[.int .u64 x0, .int .u64 x1, .int .u64 x2, .int .u64 x3], .bool xb] v fun e w' => e = .returned (.bool true) ∧ Below v.heap.size v w') :
    Calls Try.prog 5 #[sl] w fun e w' => e = .returned (.bool true) ∧ Below w.heap.size w w' := by
  have hn' : ¬ (500 : Int) < (n : Int) := by omega
  have Hs := Lib.hid hs
  have Hx := Lib.hid hx
  have H1 := Lib.hid h1
  clear hs hx h1
  go_enter Try.func5, Try.ntmps5
  go_wp2_with fail
  refine (up_any _).mono ?_
  rintro e w1 ⟨rfl, hb1⟩
  go_wp2_with fail
  refine (Hs.out _ hb1).mono ?_
  rintro e w2 ⟨rfl, hb2⟩
  have z1 := hb1.size
  have z2 := hb2.size
  have k2 : Below w.heap.size w w2 := hb1.trans (hb2.mono (by omega))
  have k2a : Below w.heap.size w (w2.alloc (.cells #[.int .u64 s0, .int .u64 s1, .int .u64 s2, .int .u64 s3] 24)) := k2.alloc (by omega) _
  go_wp2_with fail
  refine (Hx.out _ k2a).mono ?_
  rintro e w3 ⟨rfl, hb3⟩
  have z3 := hb3.size
  obtain ⟨hc3, hf3⟩ := bcell hb3
  have hz3 : w2.heap.size < w3.heap.size := by simp at z3; omega
  go_wp2_with fail
  refine (H1.out _).mono ?_
  rintro e w4 ⟨rfl, hb4⟩
  go_wp2
  go_ret
  refine ⟨rfl, ?_⟩
  have k3 : Below w.heap.size w w3 := k2a.trans (hb3.mono (by simp; omega))
  exact (k3.alloc (by omega) _).trans (hb4.mono (by simp; omega))
theorem vecAll_long (sl : Value) (n : Nat) (hn : 500 < n) (hm : n ≤ 9223372036854775807) (w : World)
    (hl : ∀ w : World, (Builtin.len_ #[38] 3 #[sl]).run Try.prog w = .ok (.int .i64 n) w) :
    Calls Try.prog 5 #[sl] w fun e w' => e = .returned (.bool true) ∧ Below w.heap.size w w' := by
  have hn' : (500 : Int) < (n : Int) := by omega
  go_enter Try.func5, Try.ntmps5
  go_wp2_with fail
  refine (up_any _).mono ?_
  rintro e w1 ⟨rfl, hb1⟩
  go_wp2
  go_ret
  exact ⟨rfl, hb1⟩
end Go.Proofs.Ytcmlbbingmnigaa
