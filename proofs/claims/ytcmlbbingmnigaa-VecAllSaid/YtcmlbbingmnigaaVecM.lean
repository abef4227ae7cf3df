/- The reference's Sum. -/
import Derived.Test.YtcmlbbingmnigaaVecL
import Derived.Test.YtcmlbbingmnigaaVecD
import Derived.Deep.RegionWith
namespace Go.Proofs.Ytcmlbbingmnigaa
open Go.RowKit
set_option linter.unusedVariables false

def RSumRel (w : World) (n : Nat) (x0 x1 x2 x3 : Nat → Int) (ok i : Value) (wr : World) : Prop :=
  ∃ k : Nat, k ≤ n ∧ i = .int .i64 k ∧ Below w.heap.size w wr ∧ w.heap.size + 1 < wr.heap.size ∧ Row4 wr w.heap.size (.int .u64 0) (.int .u64 0) (.int .u64 0) (.int .u64 0) ∧
    ((ok = .bool true ∧ Fine x0 x1 x2 x3 k ∧ Row4 wr (w.heap.size + 1) (.int .u64 (psum x0 k)) (.int .u64 (psum x1 k)) (.int .u64 (psum x2 k)) (.int .u64 (psum x3 k))) ∨
     (ok = .bool false ∧ ¬ Fine x0 x1 x2 x3 n ∧ Row4 wr (w.heap.size + 1) (.int .u64 0) (.int .u64 0) (.int .u64 0) (.int .u64 0)))

set_option maxHeartbeats 1000000 in
theorem rsum_any (a : Addr) (n cap : Nat) (x0 x1 x2 x3 : Nat → Int) (w : World) (hn : n ≤ 500) (hv : VecsAt w a n x0 x1 x2 x3) (hx : Nums x0 x1 x2 x3 n) :
    Calls Try.prog 21 #[.slice (some a) n cap] w fun e w' => SumEnds x0 x1 x2 x3 n (.bool true) (.bool false) e ∧ Below w.heap.size w w' := by
  go_enter Try.func21, Try.ntmps21
  go_wp2
  go_loopw [5, 6] (fun ok i wr => RSumRel w n x0 x1 x2 x3 ok i wr) (fun _ i _ => n - (intOf i).toNat)
  case atStart =>
    refine ⟨0, Nat.zero_le _, rfl, ((Below.refl _ w).alloc (Nat.le_refl _) _).alloc (by simp) _, by simp, ?_, .inl ⟨rfl, ?_, ?_⟩⟩
    · exact ⟨by simp, by simp, by simp, by simp, by simp, by simp, by simp, by simp⟩
    · simp [Fine, psum]
    · exact ⟨by simp [psum], by simp [psum], by simp [psum], by simp [psum], by simp, by simp, by simp, by simp⟩
  case round =>
    obtain ⟨k, hk, rfl, hb, hz, r0, ⟨rfl, hfine, r1⟩ | ⟨rfl, hbad, r1⟩⟩ := hrel
    · by_cases hlt : k < n
      · obtain ⟨e0, e1, e2, e3⟩ : wr.cell? (a.add (k * 4)) = some (.int .u64 (x0 k)) ∧ wr.cell? ⟨(a.add (k * 4)).block, (a.add (k * 4)).off + 1, none⟩ = some (.int .u64 (x1 k)) ∧ wr.cell? ⟨(a.add (k * 4)).block, (a.add (k * 4)).off + 2, none⟩ = some (.int .u64 (x2 k)) ∧ wr.cell? ⟨(a.add (k * 4)).block, (a.add (k * 4)).off + 3, none⟩ = some (.int .u64 (x3 k)) := by
          have h := hv.below hb (Nat.le_refl _)
          exact ⟨h.c0 k hlt, h.c1 k hlt, h.c2 k hlt, h.c3 k hlt⟩
        obtain ⟨t0, t1, t2, t3, v0, v1, v2, v3⟩ := r1
        have hz0 : w.heap.size < wr.heap.size := by omega
        obtain ⟨⟨y0, z0⟩, ⟨y1, z1⟩, ⟨y2, z2⟩, ⟨y3, z3⟩⟩ := hx k hlt
        have p0 := psum_nonneg (x := x0) (n := n) (fun i hi => (hx i hi).1.1) k hk
        have p1 := psum_nonneg (x := x1) (n := n) (fun i hi => (hx i hi).2.1.1) k hk
        have p2 := psum_nonneg (x := x2) (n := n) (fun i hi => (hx i hi).2.2.1.1) k hk
        have p3 := psum_nonneg (x := x3) (n := n) (fun i hi => (hx i hi).2.2.2.1) k hk
        obtain ⟨m0, m1, m2, m3⟩ : psum x0 k < 18446744073709551616 ∧ psum x1 k < 18446744073709551616 ∧ psum x2 k < 18446744073709551616 ∧ psum x3 k < 18446744073709551616 := id hfine
        by_cases hf : Fine x0 x1 x2 x3 (k + 1)
        · obtain ⟨n0, n1, n2, n3⟩ : psum x0 k + x0 k < 18446744073709551616 ∧ psum x1 k + x1 k < 18446744073709551616 ∧ psum x2 k + x2 k < 18446744073709551616 ∧ psum x3 k + x3 k < 18446744073709551616 := id hf
          go_wp2
          go_region_with (go_at_call 12; refine (radd_ok _ _ _ _ _ _ _ _ p0 p1 p2 p3 y0 y1 y2 y3 m0 m1 m2 m3 z0 z1 z2 z3 n0 n1 n2 n3 _).mono ?_; rintro e w1 ⟨rfl, hb1⟩; have hs1 := hb1.size; have hzz : w.heap.size + 1 < w1.heap.size := Nat.lt_of_lt_of_le hz hs1; obtain ⟨g0, g1, g2, g3, h0, h1, h2, h3⟩ := (Row4.drew ⟨t0, t1, t2, t3, v0, v1, v2, v3⟩).below hb1 hz)
          all_goals
            go_wp2
            go_roundw
            case rel =>
              refine ⟨k + 1, by omega, by go_num, ?_, ?_, ?_, .inl ⟨rfl, hf, ?_⟩⟩
              · have k1 : Below w.heap.size w w1 := (Below.drew hb).trans (hb1.mono (by show w.heap.size ≤ wr.heap.size; omega))
                repeat (first | with_reducible exact k1 | with_reducible refine Below.setCell ?_ ?_ _ | with_reducible refine below_drewN ?_ _ | with_reducible refine Below.drew ?_ | with_reducible refine Below.alloc ?_ ?_ _)
                all_goals first | (simp; done) | (simp; omega) | omega
              · simp; omega
              · have q0 := (Row4.drew r0).below hb1 hz0
                repeat (first | with_reducible exact q0 | with_reducible refine Row4.far ?_ ?_ _ | with_reducible refine Row4.alloc ?_ ?_ _)
                all_goals first | (simp; done) | (simp; omega) | omega
              · exact Row4.store ⟨g0, g1, g2, g3, h0, h1, h2, h3⟩ _ _ _ _
            case measure => simp [intOf]; omega
        · go_wp2
          go_region_with (go_at_call 12; refine (radd_over _ _ _ _ _ _ _ _ p0 p1 p2 p3 y0 y1 y2 y3 m0 m1 m2 m3 z0 z1 z2 z3 hf _).mono ?_; rintro e w1 ⟨rfl, hb1⟩; have hs1 := hb1.size; have hzz : w.heap.size + 1 < w1.heap.size := Nat.lt_of_lt_of_le hz hs1; obtain ⟨g0, g1, g2, g3, h0, h1, h2, h3⟩ := (Row4.drew ⟨t0, t1, t2, t3, v0, v1, v2, v3⟩).below hb1 hz)
          all_goals
            go_wp2
            go_roundw
            case rel =>
              refine ⟨k + 1, by omega, by go_num, ?_, ?_, ?_, .inr ⟨rfl, fun h => hf (h.le hx (by omega)), ?_⟩⟩
              · have k1 : Below w.heap.size w w1 := (Below.drew hb).trans (hb1.mono (by show w.heap.size ≤ wr.heap.size; omega))
                repeat (first | with_reducible exact k1 | with_reducible refine Below.setCell ?_ ?_ _ | with_reducible refine below_drewN ?_ _ | with_reducible refine Below.drew ?_ | with_reducible refine Below.alloc ?_ ?_ _)
                all_goals first | (simp; done) | (simp; omega) | omega
              · simp; omega
              · have q0 := (Row4.drew r0).below hb1 hz0
                repeat (first | with_reducible exact q0 | with_reducible refine Row4.far ?_ ?_ _ | with_reducible refine Row4.alloc ?_ ?_ _)
                all_goals first | (simp; done) | (simp; omega) | omega
              · exact Row4.store ⟨g0, g1, g2, g3, h0, h1, h2, h3⟩ _ _ _ _
            case measure => simp [intOf]; omega
      · obtain rfl : n = k := by omega
        obtain ⟨t0, t1, t2, t3, _, _, _, _⟩ := r1
        obtain ⟨g0, g1, g2, g3, v0, v1, v2, v3⟩ := r0
        go_wp2
        refine bodyPost_ret (v := .tuple #[.agg #[.int .u64 (psum x0 n), .int .u64 (psum x1 n), .int .u64 (psum x2 n), .int .u64 (psum x3 n)], .bool true]) ?_ rfl ?_
        · simp [results, Try.results21, go_sem, g0, g1, g2, g3]
        · refine ⟨.inl ⟨hfine, rfl⟩, ?_⟩
          repeat (first | with_reducible exact hb | with_reducible refine Below.setCell ?_ ?_ _ | with_reducible refine Below.alloc ?_ ?_ _)
          all_goals first | (simp; done) | (simp; omega) | omega
    · obtain ⟨t0, t1, t2, t3, _, _, _, _⟩ := r1
      obtain ⟨g0, g1, g2, g3, v0, v1, v2, v3⟩ := r0
      by_cases hlt : k < n
      all_goals
        go_wp2
        refine bodyPost_ret (v := .tuple #[.agg #[.int .u64 0, .int .u64 0, .int .u64 0, .int .u64 0], .bool false]) ?_ rfl ?_
        · simp [results, Try.results21, go_sem, g0, g1, g2, g3]
        · refine ⟨.inr ⟨hbad, rfl⟩, ?_⟩
          repeat (first | with_reducible exact hb | with_reducible refine Below.setCell ?_ ?_ _ | with_reducible refine Below.alloc ?_ ?_ _)
          all_goals first | (simp; done) | (simp; omega) | omega
end Go.Proofs.Ytcmlbbingmnigaa
