/- The law VecTimes: for every amounts a and every number n the call returns true, and both arguments read afterwards as they read before. No condition. -/
import Derived.Test.YtcmlbbingmnigaaVecE
import Derived.Test.YtcmlbbingmnigaaVecG
import Derived.Test.YtcmlbbingmnigaaVecH
import Derived.ProofKit
import Derived.Laws.IdiomArrays
namespace Go.Proofs.Ytcmlbbingmnigaa
open Go.RowKit
set_option linter.unusedVariables false

set_option maxHeartbeats 1000000 in
theorem vecTimes_ok (a0 a1 a2 a3 n : Int) (p0 : 0 ≤ a0) (p1 : 0 ≤ a1) (p2 : 0 ≤ a2) (p3 : 0 ≤ a3) (pm0 : a0 < 18446744073709551616) (pm1 : a1 < 18446744073709551616) (pm2 : a2 < 18446744073709551616) (pm3 : a3 < 18446744073709551616) (q : 0 ≤ n) (qm : n < 18446744073709551616) (h0 : a0 * n < 18446744073709551616) (h1 : a1 * n < 18446744073709551616) (h2 : a2 * n < 18446744073709551616) (h3 : a3 * n < 18446744073709551616) (w : World) :
    Calls Try.prog 4 #[.agg #[.int .u64 a0, .int .u64 a1, .int .u64 a2, .int .u64 a3], .int .u64 n] w fun e w' => e = .returned (.bool true) ∧ Below w.heap.size w w' := by
  go_enter Try.func4, Try.ntmps4
  go_wp2_with fail
  refine (up_any _).mono ?_
  rintro e w1 ⟨rfl, hb1⟩
  have hs1 := hb1.size
  obtain ⟨hc1, hf1⟩ := bcell hb1
  have hz1 : w.heap.size < w1.heap.size := by simp at hs1; omega
  go_wp2_with fail
  refine (vtimes_ok a0 a1 a2 a3 n p0 p1 p2 p3 pm0 pm1 pm2 pm3 q qm h0 h1 h2 h3 _).mono ?_
  rintro e w2 ⟨rfl, hb2⟩
  have hs2 := hb2.size
  obtain ⟨hc2, hf2⟩ := bcell hb2
  have hz2 : w.heap.size < w2.heap.size := by omega
  go_wp2_with fail
  refine (rtimes_ok a0 a1 a2 a3 n p0 p1 p2 p3 pm0 pm1 pm2 pm3 q qm h0 h1 h2 h3 _).mono ?_
  rintro e w3 ⟨rfl, hb3⟩
  have hs3 := hb3.size
  obtain ⟨hc3, hf3⟩ := bcell hb3
  have hz3 : w2.heap.size < w3.heap.size := by simp at hs3; omega
  go_wp2_with fail
  refine (held_yes (a0 * n) (a1 * n) (a2 * n) (a3 * n) _).mono ?_
  rintro e w4 ⟨rfl, hb4⟩
  go_wp2
  go_ret
  refine ⟨rfl, ?_⟩
  have k1 : Below w.heap.size w w1 := ((Below.refl _ w).alloc (Nat.le_refl _) _).trans (hb1.mono (by simp))
  have k2 : Below w.heap.size w w2 := k1.trans (hb2.mono (by omega))
  have k3 : Below w.heap.size w w3 := (k2.alloc (by omega) _).trans (hb3.mono (by simp; omega))
  exact (k3.alloc (by omega) _).trans (hb4.mono (by simp; omega))
set_option maxHeartbeats 1000000 in
theorem vecTimes_over (a0 a1 a2 a3 n : Int) (p0 : 0 ≤ a0) (p1 : 0 ≤ a1) (p2 : 0 ≤ a2) (p3 : 0 ≤ a3) (pm0 : a0 < 18446744073709551616) (pm1 : a1 < 18446744073709551616) (pm2 : a2 < 18446744073709551616) (pm3 : a3 < 18446744073709551616) (q : 0 ≤ n) (qm : n < 18446744073709551616) (h : ¬ (a0 * n < 18446744073709551616 ∧ a1 * n < 18446744073709551616 ∧ a2 * n < 18446744073709551616 ∧ a3 * n < 18446744073709551616)) (w : World) :
    Calls Try.prog 4 #[.agg #[.int .u64 a0, .int .u64 a1, .int .u64 a2, .int .u64 a3], .int .u64 n] w fun e w' => e = .returned (.bool true) ∧ Below w.heap.size w w' := by
  have hh := Lib.hid h
  clear h
  go_enter Try.func4, Try.ntmps4
  go_wp2_with fail
  refine (up_any _).mono ?_
  rintro e w1 ⟨rfl, hb1⟩
  have hs1 := hb1.size
  obtain ⟨hc1, hf1⟩ := bcell hb1
  have hz1 : w.heap.size < w1.heap.size := by simp at hs1; omega
  go_wp2_with fail
  refine (vtimes_over a0 a1 a2 a3 n p0 p1 p2 p3 pm0 pm1 pm2 pm3 q qm hh.out _).mono ?_
  rintro e w2 ⟨rfl, hb2⟩
  have hs2 := hb2.size
  obtain ⟨hc2, hf2⟩ := bcell hb2
  have hz2 : w.heap.size < w2.heap.size := by omega
  go_wp2_with fail
  refine (rtimes_over a0 a1 a2 a3 n p0 p1 p2 p3 pm0 pm1 pm2 pm3 q qm hh.out _).mono ?_
  rintro e w3 ⟨rfl, hb3⟩
  have hs3 := hb3.size
  obtain ⟨hc3, hf3⟩ := bcell hb3
  have hz3 : w2.heap.size < w3.heap.size := by simp at hs3; omega
  go_wp2_with fail
  refine (held_no 0 0 0 0 _).mono ?_
  rintro e w4 ⟨rfl, hb4⟩
  go_wp2
  go_ret
  refine ⟨rfl, ?_⟩
  have k1 : Below w.heap.size w w1 := ((Below.refl _ w).alloc (Nat.le_refl _) _).trans (hb1.mono (by simp))
  have k2 : Below w.heap.size w w2 := k1.trans (hb2.mono (by omega))
  have k3 : Below w.heap.size w w3 := (k2.alloc (by omega) _).trans (hb3.mono (by simp; omega))
  exact (k3.alloc (by omega) _).trans (hb4.mono (by simp; omega))
theorem vecTimes_walk (a0 a1 a2 a3 n : Int) (p0 : 0 ≤ a0) (p1 : 0 ≤ a1) (p2 : 0 ≤ a2) (p3 : 0 ≤ a3) (pm0 : a0 < 18446744073709551616) (pm1 : a1 < 18446744073709551616) (pm2 : a2 < 18446744073709551616) (pm3 : a3 < 18446744073709551616) (q : 0 ≤ n) (qm : n < 18446744073709551616) (w : World) :
    Calls Try.prog 4 #[.agg #[.int .u64 a0, .int .u64 a1, .int .u64 a2, .int .u64 a3], .int .u64 n] w fun e w' => e = .returned (.bool true) ∧ Below w.heap.size w w' := by
  by_cases h : a0 * n < 18446744073709551616 ∧ a1 * n < 18446744073709551616 ∧ a2 * n < 18446744073709551616 ∧ a3 * n < 18446744073709551616
  · exact vecTimes_ok a0 a1 a2 a3 n p0 p1 p2 p3 pm0 pm1 pm2 pm3 q qm h.1 h.2.1 h.2.2.1 h.2.2.2 w
  · exact vecTimes_over a0 a1 a2 a3 n p0 p1 p2 p3 pm0 pm1 pm2 pm3 q qm h w
end Go.Proofs.Ytcmlbbingmnigaa
