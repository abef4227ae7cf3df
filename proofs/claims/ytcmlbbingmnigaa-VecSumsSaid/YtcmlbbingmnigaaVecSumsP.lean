/- The law VecSums: for any two amounts the call returns true, and both arguments read afterwards as they read before. There is no condition. -/
import Derived.Test.YtcmlbbingmnigaaVecSums
import Derived.Test.YtcmlbbingmnigaaVecR
namespace Go.Proofs.Ytcmlbbingmnigaa
open Go.ChangeShapes Go.WideShapes Go.ChangeAt Go.RowKit

theorem add_pair (a0 a1 a2 a3 b0 b1 b2 b3 : Int) (p0 : 0 ≤ a0) (p1 : 0 ≤ a1) (p2 : 0 ≤ a2) (p3 : 0 ≤ a3) (q0 : 0 ≤ b0) (q1 : 0 ≤ b1) (q2 : 0 ≤ b2) (q3 : 0 ≤ b3) (pm0 : a0 < 18446744073709551616) (pm1 : a1 < 18446744073709551616) (pm2 : a2 < 18446744073709551616) (pm3 : a3 < 18446744073709551616) (qm0 : b0 < 18446744073709551616) (qm1 : b1 < 18446744073709551616) (qm2 : b2 < 18446744073709551616) (qm3 : b3 < 18446744073709551616) :
    ∃ (s0 s1 s2 s3 x0 x1 x2 x3 : Int) (se : Value) (xb : Bool), CallsTo 10 #[.agg #[.int .u64 a0, .int .u64 a1, .int .u64 a2, .int .u64 a3], .agg #[.int .u64 b0, .int .u64 b1, .int .u64 b2, .int .u64 b3]] (.tuple #[.agg #[.int .u64 s0, .int .u64 s1, .int .u64 s2, .int .u64 s3], se]) ∧ CallsTo 12 #[.agg #[.int .u64 a0, .int .u64 a1, .int .u64 a2, .int .u64 a3], .agg #[.int .u64 b0, .int .u64 b1, .int .u64 b2, .int .u64 b3]] (.tuple #[.agg #[.int .u64 x0, .int .u64 x1, .int .u64 x2, .int .u64 x3], .bool xb]) ∧
      CallsTo 15 #[.agg #[.int .u64 s0, .int .u64 s1, .int .u64 s2, .int .u64 s3], se, .agg #[.int .u64 x0, .int .u64 x1, .int .u64 x2, .int .u64 x3], .bool xb] (.bool true) := by
  by_cases h : a0 + b0 < 18446744073709551616 ∧ a1 + b1 < 18446744073709551616 ∧ a2 + b2 < 18446744073709551616 ∧ a3 + b3 < 18446744073709551616
  · exact ⟨_, _, _, _, _, _, _, _, _, _, fun w => add_ok a0 a1 a2 a3 b0 b1 b2 b3 p0 p1 p2 p3 q0 q1 q2 q3 pm0 pm1 pm2 pm3 qm0 qm1 qm2 qm3 h.1 h.2.1 h.2.2.1 h.2.2.2 w, fun w => radd_ok a0 a1 a2 a3 b0 b1 b2 b3 p0 p1 p2 p3 q0 q1 q2 q3 pm0 pm1 pm2 pm3 qm0 qm1 qm2 qm3 h.1 h.2.1 h.2.2.1 h.2.2.2 w, fun w => held_yes _ _ _ _ w⟩
  · exact ⟨_, _, _, _, _, _, _, _, _, _, fun w => add_over a0 a1 a2 a3 b0 b1 b2 b3 p0 p1 p2 p3 q0 q1 q2 q3 pm0 pm1 pm2 pm3 qm0 qm1 qm2 qm3 h w, fun w => radd_over a0 a1 a2 a3 b0 b1 b2 b3 p0 p1 p2 p3 q0 q1 q2 q3 pm0 pm1 pm2 pm3 qm0 qm1 qm2 qm3 h w, fun w => held_no _ _ _ _ w⟩
theorem sub_pair (a0 a1 a2 a3 b0 b1 b2 b3 : Int) (p0 : 0 ≤ a0) (p1 : 0 ≤ a1) (p2 : 0 ≤ a2) (p3 : 0 ≤ a3) (q0 : 0 ≤ b0) (q1 : 0 ≤ b1) (q2 : 0 ≤ b2) (q3 : 0 ≤ b3) (pm0 : a0 < 18446744073709551616) (pm1 : a1 < 18446744073709551616) (pm2 : a2 < 18446744073709551616) (pm3 : a3 < 18446744073709551616) (qm0 : b0 < 18446744073709551616) (qm1 : b1 < 18446744073709551616) (qm2 : b2 < 18446744073709551616) (qm3 : b3 < 18446744073709551616) :
    ∃ (s0 s1 s2 s3 x0 x1 x2 x3 : Int) (se : Value) (xb : Bool), CallsTo 11 #[.agg #[.int .u64 a0, .int .u64 a1, .int .u64 a2, .int .u64 a3], .agg #[.int .u64 b0, .int .u64 b1, .int .u64 b2, .int .u64 b3]] (.tuple #[.agg #[.int .u64 s0, .int .u64 s1, .int .u64 s2, .int .u64 s3], se]) ∧ CallsTo 13 #[.agg #[.int .u64 a0, .int .u64 a1, .int .u64 a2, .int .u64 a3], .agg #[.int .u64 b0, .int .u64 b1, .int .u64 b2, .int .u64 b3]] (.tuple #[.agg #[.int .u64 x0, .int .u64 x1, .int .u64 x2, .int .u64 x3], .bool xb]) ∧
      CallsTo 15 #[.agg #[.int .u64 s0, .int .u64 s1, .int .u64 s2, .int .u64 s3], se, .agg #[.int .u64 x0, .int .u64 x1, .int .u64 x2, .int .u64 x3], .bool xb] (.bool true) := by
  by_cases h : b0 ≤ a0 ∧ b1 ≤ a1 ∧ b2 ≤ a2 ∧ b3 ≤ a3
  · exact ⟨_, _, _, _, _, _, _, _, _, _, fun w => sub_ok a0 a1 a2 a3 b0 b1 b2 b3 p0 p1 p2 p3 q0 q1 q2 q3 pm0 pm1 pm2 pm3 qm0 qm1 qm2 qm3 h.1 h.2.1 h.2.2.1 h.2.2.2 w, fun w => rsub_ok a0 a1 a2 a3 b0 b1 b2 b3 p0 p1 p2 p3 q0 q1 q2 q3 pm0 pm1 pm2 pm3 qm0 qm1 qm2 qm3 h.1 h.2.1 h.2.2.1 h.2.2.2 w, fun w => held_yes _ _ _ _ w⟩
  · exact ⟨_, _, _, _, _, _, _, _, _, _, fun w => sub_over a0 a1 a2 a3 b0 b1 b2 b3 p0 p1 p2 p3 q0 q1 q2 q3 pm0 pm1 pm2 pm3 qm0 qm1 qm2 qm3 h w, fun w => rsub_over a0 a1 a2 a3 b0 b1 b2 b3 p0 p1 p2 p3 q0 q1 q2 q3 pm0 pm1 pm2 pm3 qm0 qm1 qm2 qm3 h w, fun w => held_no _ _ _ _ w⟩
theorem fits_pair (a0 a1 a2 a3 b0 b1 b2 b3 : Int) : ∃ fb : Bool, CallsTo 16 #[.agg #[.int .u64 a0, .int .u64 a1, .int .u64 a2, .int .u64 a3], .agg #[.int .u64 b0, .int .u64 b1, .int .u64 b2, .int .u64 b3]] (.bool fb) ∧ CallsTo 17 #[.agg #[.int .u64 a0, .int .u64 a1, .int .u64 a2, .int .u64 a3], .agg #[.int .u64 b0, .int .u64 b1, .int .u64 b2, .int .u64 b3]] (.bool fb) := by
  by_cases h : a0 ≤ b0 ∧ a1 ≤ b1 ∧ a2 ≤ b2 ∧ a3 ≤ b3
  · exact ⟨true, fun w => vfits_t _ _ _ _ _ _ _ _ h.1 h.2.1 h.2.2.1 h.2.2.2 w, fun w => rfits_t _ _ _ _ _ _ _ _ h.1 h.2.1 h.2.2.1 h.2.2.2 w⟩
  · exact ⟨false, fun w => vfits_f _ _ _ _ _ _ _ _ h w, fun w => rfits_f _ _ _ _ _ _ _ _ h w⟩
theorem vecSums_walk (a0 a1 a2 a3 b0 b1 b2 b3 : Int) (p0 : 0 ≤ a0) (p1 : 0 ≤ a1) (p2 : 0 ≤ a2) (p3 : 0 ≤ a3) (q0 : 0 ≤ b0) (q1 : 0 ≤ b1) (q2 : 0 ≤ b2) (q3 : 0 ≤ b3) (pm0 : a0 < 18446744073709551616) (pm1 : a1 < 18446744073709551616) (pm2 : a2 < 18446744073709551616) (pm3 : a3 < 18446744073709551616) (qm0 : b0 < 18446744073709551616) (qm1 : b1 < 18446744073709551616) (qm2 : b2 < 18446744073709551616) (qm3 : b3 < 18446744073709551616) (w : World) :
    Calls Try.prog 3 #[.agg #[.int .u64 a0, .int .u64 a1, .int .u64 a2, .int .u64 a3], .agg #[.int .u64 b0, .int .u64 b1, .int .u64 b2, .int .u64 b3]] w fun e w' => e = .returned (.bool true) ∧ Below w.heap.size w w' := by
  obtain ⟨s0, s1, s2, s3, x0, x1, x2, x3, se, xb, hs, hx, h1⟩ := add_pair a0 a1 a2 a3 b0 b1 b2 b3 p0 p1 p2 p3 q0 q1 q2 q3 pm0 pm1 pm2 pm3 qm0 qm1 qm2 qm3
  obtain ⟨d0, d1, d2, d3, y0, y1, y2, y3, de, yb, hd, hy, h2⟩ := sub_pair a0 a1 a2 a3 b0 b1 b2 b3 p0 p1 p2 p3 q0 q1 q2 q3 pm0 pm1 pm2 pm3 qm0 qm1 qm2 qm3
  obtain ⟨fb, h3, h4⟩ := fits_pair a0 a1 a2 a3 b0 b1 b2 b3
  exact vecSums_in a0 a1 a2 a3 b0 b1 b2 b3 s0 s1 s2 s3 d0 d1 d2 d3 x0 x1 x2 x3 y0 y1 y2 y3 _ _ _ _ se de xb yb fb hs hd hx hy (fun w => max_any a0 a1 a2 a3 b0 b1 b2 b3 _ _ _ _ rfl rfl rfl rfl w) h1 h2 h3 h4 rfl rfl rfl rfl w

set_option maxHeartbeats 400000 in
set_option maxRecDepth 100000 in
theorem vecSums_lifted (os : Os) (started : os.Started) (H : Type) (enc : TypeId × Value → H) :
    ReturnsInHanded {} Try.checked os 3 .any (Rows.vecSumsSpec.pre6 enc Try.prog Try.f3 Rows.vecSumsRow.domain false) (Rows.vecSumsSpec.post enc Try.prog Try.f3 false true false false) := by
  refine returnsInHanded_of_change (C := Try.checked) Try.own started (by kernel_rfl) Try.func3
    (ChangeSpec.witness6 (enc := enc) (C := Try.checked) false ⟨#[], #[.agg #[.int .u64 0, .int .u64 0, .int .u64 0, .int .u64 0], .agg #[.int .u64 0, .int .u64 0, .int .u64 0, .int .u64 0]], []⟩ 8 (by kernel_rfl) (by kernel_rfl) (by kernel_rfl) (by kernel_rfl)) ?_
  intro W base args ds gs before hval0 hW _ _
  have hval : ∀ (j : Nat) t v, Try.f3.params[j]? = some t → args[j]? = some v → Value.okWide Try.prog W .any base t v := hval0
  have hW' := hW
  obtain ⟨p, q, hA0, hV, rfl, _, _⟩ := hW
  have hA : DataW.TrodAll enc Try.prog W 0 (fun _ => true) true Try.f3.params.toList args.toList ds p := hA0
  rw [Try.params3] at hA hval
  obtain ⟨v0, v1, d0, d1, p0, p1, rfl, rfl, rfl, h0, h1⟩ := trodAll_two hA
  obtain ⟨rfl, rfl⟩ := trodVars_none hV
  obtain ⟨a0, a1, a2, a3, rfl, rfl, rfl, w0, w1, w2, w3⟩ := open_vec (hval 0 24 v0 rfl rfl) h0
  obtain ⟨b0, b1, b2, b3, rfl, rfl, rfl, y0, y1, y2, y3⟩ := open_vec (hval 1 24 v1 rfl rfl) h1
  clear hA0 hval0
  simp only [List.append_nil] at hW'
  refine (vecSums_walk a0 a1 a2 a3 b0 b1 b2 b3 (wf_u64 w0).1 (wf_u64 w1).1 (wf_u64 w2).1 (wf_u64 w3).1 (wf_u64 y0).1 (wf_u64 y1).1 (wf_u64 y2).1 (wf_u64 y3).1 (wf_u64 w0).2 (wf_u64 w1).2 (wf_u64 w2).2 (wf_u64 w3).2 (wf_u64 y0).2 (wf_u64 y1).2 (wf_u64 y2).2 (wf_u64 y3).2 W).mono fun e W' ⟨he, hb⟩ => ?_
  subst he
  exact ⟨_, rfl, _, _, _, [], [], [], hW', trodAll_mk1 (shut_bool Try.underlying4 true), trodAll_mk2 (shut_vec w0 w1 w2 w3) (shut_vec y0 y1 y2 y3), rfl, hb.frame _, fun h => by cases h⟩

theorem vecSums_holds : Rows.VecSumsSaid :=
  OpenClaim.holds_of_wide 3 Try.f3 rfl rfl rfl rfl rfl rfl rfl ⟨rfl, rfl, rfl, rfl, rfl⟩ rfl rfl rfl rfl rfl (by kernel_rfl) Try.func3 (by kernel_rfl)
    (of_decide_eq_true (by kernel_rfl)) (by unfold Func.isWrapper; first | (rw [if_pos (by decide +kernel)]; kernel_rfl) | (rw [if_neg (by decide +kernel)]; exact ⟨rfl, rfl⟩))
    (fun os started H enc _ => vecSums_lifted os started H enc)
end Go.Proofs.Ytcmlbbingmnigaa
