/- The law VecSums, walked. -/
import Derived.Test.YtcmlbbingmnigaaVecE
import Derived.Test.YtcmlbbingmnigaaVecC
import Derived.Test.YtcmlbbingmnigaaVecD
import Derived.Test.YtcmlbbingmnigaaVecJ
import Derived.Test.YtcmlbbingmnigaaVecK
import Derived.Deep.RegionHeld3
namespace Go.Proofs.Ytcmlbbingmnigaa
open Go.RowKit
set_option linter.unusedVariables false

def CallsTo (f : FuncId) (args : Array Value) (v : Value) : Prop := ∀ w : World, Calls Try.prog f args w fun e w' => e = .returned v ∧ Below w.heap.size w w'

theorem CallsTo.run {f : FuncId} {args : Array Value} {v : Value} (h : CallsTo f args v) (w : World) : Calls Try.prog f args w fun e w' => e = .returned v ∧ Below w.heap.size w w' := h w
/-- What a region with loads and calls keeps: all blocks below B are as they were. -/
def KeepS (W : World) (w' : World) : Prop := (∀ b o, b < W.heap.size → w'.cell? ⟨b, o, none⟩ = W.cell? ⟨b, o, none⟩) ∧ Below W.heap.size W w'
theorem keepS_step {W v v' : World} (h : KeepS W v) (hb : Below v.heap.size v v') : KeepS W v' := by
  have k : Below W.heap.size W v' := h.2.trans (hb.mono h.2.size)
  exact ⟨(bcell k).1, k⟩
theorem keepS_of {W v : World} (k : Below W.heap.size W v) : KeepS W v := ⟨(bcell k).1, k⟩
theorem pick_max {m a b : Int} (g : m = if a < b then b else a) : (decide (m < a) = false ∧ decide (m < b) = false) ∧ ((m != a) = false ∨ ((m != a) = true ∧ (m != b) = false)) := by
  by_cases h : a < b
  · rw [if_pos h] at g
    subst g
    refine ⟨⟨by simp; omega, by simp⟩, .inr ⟨by rw [bne_iff_ne]; omega, by simp⟩⟩
  · rw [if_neg h] at g
    subst g
    exact ⟨⟨by simp, by simp; omega⟩, .inl (by simp)⟩
set_option maxHeartbeats 2000000 in
theorem vecSums_in (a0 a1 a2 a3 b0 b1 b2 b3 s0 s1 s2 s3 d0 d1 d2 d3 x0 x1 x2 x3 y0 y1 y2 y3 m0 m1 m2 m3 : Int) (se de : Value) (xb yb fb : Bool)
    (hs : CallsTo 10 #[.agg #[.int .u64 a0, .int .u64 a1, .int .u64 a2, .int .u64 a3], .agg #[.int .u64 b0, .int .u64 b1, .int .u64 b2, .int .u64 b3]] (.tuple #[.agg #[.int .u64 s0, .int .u64 s1, .int .u64 s2, .int .u64 s3], se]))
    (hd : CallsTo 11 #[.agg #[.int .u64 a0, .int .u64 a1, .int .u64 a2, .int .u64 a3], .agg #[.int .u64 b0, .int .u64 b1, .int .u64 b2, .int .u64 b3]] (.tuple #[.agg #[.int .u64 d0, .int .u64 d1, .int .u64 d2, .int .u64 d3], de]))
    (hxx : CallsTo 12 #[.agg #[.int .u64 a0, .int .u64 a1, .int .u64 a2, .int .u64 a3], .agg #[.int .u64 b0, .int .u64 b1, .int .u64 b2, .int .u64 b3]] (.tuple #[.agg #[.int .u64 x0, .int .u64 x1, .int .u64 x2, .int .u64 x3], .bool xb]))
    (hyy : CallsTo 13 #[.agg #[.int .u64 a0, .int .u64 a1, .int .u64 a2, .int .u64 a3], .agg #[.int .u64 b0, .int .u64 b1, .int .u64 b2, .int .u64 b3]] (.tuple #[.agg #[.int .u64 y0, .int .u64 y1, .int .u64 y2, .int .u64 y3], .bool yb]))
    (hm : CallsTo 14 #[.agg #[.int .u64 a0, .int .u64 a1, .int .u64 a2, .int .u64 a3], .agg #[.int .u64 b0, .int .u64 b1, .int .u64 b2, .int .u64 b3]] (.agg #[.int .u64 m0, .int .u64 m1, .int .u64 m2, .int .u64 m3]))
    (h1 : CallsTo 15 #[.agg #[.int .u64 s0, .int .u64 s1, .int .u64 s2, .int .u64 s3], se, .agg #[.int .u64 x0, .int .u64 x1, .int .u64 x2, .int .u64 x3], .bool xb] (.bool true))
    (h2 : CallsTo 15 #[.agg #[.int .u64 d0, .int .u64 d1, .int .u64 d2, .int .u64 d3], de, .agg #[.int .u64 y0, .int .u64 y1, .int .u64 y2, .int .u64 y3], .bool yb] (.bool true))
    (h3 : CallsTo 16 #[.agg #[.int .u64 a0, .int .u64 a1, .int .u64 a2, .int .u64 a3], .agg #[.int .u64 b0, .int .u64 b1, .int .u64 b2, .int .u64 b3]] (.bool fb))
    (h4 : CallsTo 17 #[.agg #[.int .u64 a0, .int .u64 a1, .int .u64 a2, .int .u64 a3], .agg #[.int .u64 b0, .int .u64 b1, .int .u64 b2, .int .u64 b3]] (.bool fb))
    (g0 : m0 = if a0 < b0 then b0 else a0) (g1 : m1 = if a1 < b1 then b1 else a1) (g2 : m2 = if a2 < b2 then b2 else a2) (g3 : m3 = if a3 < b3 then b3 else a3)
    (w : World) :
    Calls Try.prog 3 #[.agg #[.int .u64 a0, .int .u64 a1, .int .u64 a2, .int .u64 a3], .agg #[.int .u64 b0, .int .u64 b1, .int .u64 b2, .int .u64 b3]] w fun e w' => e = .returned (.bool true) ∧ Below w.heap.size w w' := by
  have c0 : (decide (m0 < a0) = false ∧ decide (m0 < b0) = false) ∧ ((m0 != a0) = false ∨ ((m0 != a0) = true ∧ (m0 != b0) = false)) := pick_max g0
  have c1 : (decide (m1 < a1) = false ∧ decide (m1 < b1) = false) ∧ ((m1 != a1) = false ∨ ((m1 != a1) = true ∧ (m1 != b1) = false)) := pick_max g1
  have c2 : (decide (m2 < a2) = false ∧ decide (m2 < b2) = false) ∧ ((m2 != a2) = false ∨ ((m2 != a2) = true ∧ (m2 != b2) = false)) := pick_max g2
  have c3 : (decide (m3 < a3) = false ∧ decide (m3 < b3) = false) ∧ ((m3 != a3) = false ∨ ((m3 != a3) = true ∧ (m3 != b3) = false)) := pick_max g3
  clear g0 g1 g2 g3
  have C0 := Lib.hid c0
  have C1 := Lib.hid c1
  have C2 := Lib.hid c2
  have C3 := Lib.hid c3
  clear c0 c1 c2 c3
  go_enter Try.func3, Try.ntmps3
  go_wp2_with fail
  refine (up_any _).mono ?_
  rintro e w1 ⟨rfl, hb1⟩
  have z1 := hb1.size
  obtain ⟨hc1, hf1⟩ := bcell hb1
  have hz1 : w.heap.size + 1 < w1.heap.size := by simp at z1; omega
  have hy1 : w.heap.size < w1.heap.size := by omega
  go_wp2_with fail
  refine (hs.run _).mono ?_
  rintro e w2 ⟨rfl, hb2⟩
  have z2 := hb2.size
  obtain ⟨hc2, hf2⟩ := bcell hb2
  have hz2 : w.heap.size + 1 < w2.heap.size := by omega
  have hy2 : w.heap.size < w2.heap.size := by omega
  go_wp2_with fail
  refine (hd.run _).mono ?_
  rintro e w3 ⟨rfl, hb3⟩
  have z3 := hb3.size
  obtain ⟨hc3, hf3⟩ := bcell hb3
  have hz3 : w2.heap.size < w3.heap.size := by simp at z3; omega
  have hy3 : w.heap.size < w3.heap.size := by omega
  have hx3 : w.heap.size + 1 < w3.heap.size := by omega
  go_wp2_with fail
  refine (hxx.run _).mono ?_
  rintro e w4 ⟨rfl, hb4⟩
  have z4 := hb4.size
  obtain ⟨hc4, hf4⟩ := bcell hb4
  have hz4 : w3.heap.size < w4.heap.size := by simp at z4; omega
  have hz42 : w2.heap.size < w4.heap.size := by omega
  have hy4 : w.heap.size < w4.heap.size := by omega
  have hx4 : w.heap.size + 1 < w4.heap.size := by omega
  go_wp2_with fail
  refine (hyy.run _).mono ?_
  rintro e w5 ⟨rfl, hb5⟩
  have z5 := hb5.size
  obtain ⟨hc5, hf5⟩ := bcell hb5
  have hz5 : w4.heap.size < w5.heap.size := by simp at z5; omega
  have hz52 : w2.heap.size < w5.heap.size := by omega
  have hz53 : w3.heap.size < w5.heap.size := by omega
  have hy5 : w.heap.size < w5.heap.size := by omega
  have hx5 : w.heap.size + 1 < w5.heap.size := by omega
  go_wp2_with fail
  refine (hm.run _).mono ?_
  rintro e w6 ⟨rfl, hb6⟩
  have z6 := hb6.size
  obtain ⟨hc6, hf6⟩ := bcell hb6
  have hz6 : w5.heap.size < w6.heap.size := by simp at z6; omega
  have hz62 : w2.heap.size < w6.heap.size := by omega
  have hz63 : w3.heap.size < w6.heap.size := by omega
  have hz64 : w4.heap.size < w6.heap.size := by omega
  have hy6 : w.heap.size < w6.heap.size := by omega
  have hx6 : w.heap.size + 1 < w6.heap.size := by omega
  go_wp2
  go_loopw [15] (fun i wr => ∃ k n : Nat, k ≤ 4 ∧ i = .int .i64 k ∧ wr = (w6.alloc (.cells #[.int .u64 m0, .int .u64 m1, .int .u64 m2, .int .u64 m3] 24)).drewN n) (fun i _ => 4 - (intOf i).toNat)
  case atStart => exact ⟨0, 0, by omega, rfl, rfl⟩
  case round =>
    obtain ⟨k, n, hk, rfl, rfl⟩ := hrel
    have hk5 : k = 0 ∨ k = 1 ∨ k = 2 ∨ k = 3 ∨ k = 4 := by omega
    rcases hk5 with rfl | rfl | rfl | rfl | rfl
    · obtain ⟨⟨u1, u2⟩, u3 | ⟨u3, u4⟩⟩ := C0.out
      all_goals
        go_wp2
        go_quiet (fail)
        go_wp2
        go_roundw
        case rel => exact ⟨1, _, by omega, rfl, rfl⟩
        case measure => simp [intOf]
    · obtain ⟨⟨u1, u2⟩, u3 | ⟨u3, u4⟩⟩ := C1.out
      all_goals
        go_wp2
        go_quiet (fail)
        go_wp2
        go_roundw
        case rel => exact ⟨2, _, by omega, rfl, rfl⟩
        case measure => simp [intOf]
    · obtain ⟨⟨u1, u2⟩, u3 | ⟨u3, u4⟩⟩ := C2.out
      all_goals
        go_wp2
        go_quiet (fail)
        go_wp2
        go_roundw
        case rel => exact ⟨3, _, by omega, rfl, rfl⟩
        case measure => simp [intOf]
    · obtain ⟨⟨u1, u2⟩, u3 | ⟨u3, u4⟩⟩ := C3.out
      all_goals
        go_wp2
        go_quiet (fail)
        go_wp2
        go_roundw
        case rel => exact ⟨4, _, by omega, rfl, rfl⟩
        case measure => simp [intOf]
    · go_wp2
      have k0 : Below w6.heap.size w6 ((w6.alloc (.cells #[.int .u64 m0, .int .u64 m1, .int .u64 m2, .int .u64 m3] 24)).drewN n) := below_drewN ((Below.refl _ w6).alloc (Nat.le_refl _) _) n
      have K0 := Lib.hid k0
      clear k0
      go_region_held3 (fun w' => (∀ b o, b < w6.heap.size → w'.cell? ⟨b, o, none⟩ = w6.cell? ⟨b, o, none⟩) ∧ Below w6.heap.size w6 w')
        (first | exact keepS_of (Below.drew K0.out) | exact keepS_step (by assumption) (by assumption))
        (first
          | (go_at_call 15; first
              | ((with_reducible refine (h1.run _).mono ?_); rintro e w' ⟨rfl, hb⟩)
              | ((with_reducible refine (h2.run _).mono ?_); rintro e w' ⟨rfl, hb⟩))
          | (go_at_call 16; (with_reducible refine (h3.run _).mono ?_); rintro e w' ⟨rfl, hb⟩)
          | (go_at_call 17; (with_reducible refine (h4.run _).mono ?_); rintro e w' ⟨rfl, hb⟩))
      go_wp2
      go_ret
      refine ⟨rfl, ?_⟩
      have k1 : Below w.heap.size w w1 := (((Below.refl _ w).alloc (Nat.le_refl _) _).alloc (by simp) _).trans (hb1.mono (by simp; omega))
      have k2 : Below w.heap.size w w2 := k1.trans (hb2.mono (by omega))
      have k3 : Below w.heap.size w w3 := (k2.alloc (by omega) _).trans (hb3.mono (by simp; omega))
      have k4 : Below w.heap.size w w4 := (k3.alloc (by omega) _).trans (hb4.mono (by simp; omega))
      have k5 : Below w.heap.size w w5 := (k4.alloc (by omega) _).trans (hb5.mono (by simp; omega))
      have k6 : Below w.heap.size w w6 := (k5.alloc (by omega) _).trans (hb6.mono (by simp; omega))
      exact k6.trans ((by assumption : KeepS w6 _).2.mono (by omega))
end Go.Proofs.Ytcmlbbingmnigaa
