/- Joined texts, part 6: VecL VecM WV WL FN FO HA WU WR. -/
import Derived.Test.YtkipfalolfleaaaGreatDoorZ05
import Derived.Deep.Slices
import Derived.Deep.RegionWith
import Derived.Test.YtkipfalolfleaaaGreatDoorZ02
import Derived.Test.YtkipfalolfleaaaGreatDoorZ01
import Derived.Test.YtkipfalolfleaaaGreatDoorZ04
import Derived.Deep.AppendLies
import Derived.Deep.RegionHeld3
import Derived.Deep.CutRange
import Derived.Test.YtkipfalolfleaaaGreatDoorZ03

/- Rows of four cells; how amounts lie in a slice; vec.Sum. -/
namespace Go.Proofs.YtkipfalolfleaaaGreatDoor
set_option linter.unusedSimpArgs false
open Go.RowKit
set_option linter.unusedVariables false

/-- A block whose four cells are known and may be written. -/
structure Row4 (w : World) (b : Nat) (u0 u1 u2 u3 : Value) : Prop where
  c0 : w.cell? ⟨b, 0, none⟩ = some u0
  c1 : w.cell? ⟨b, 1, none⟩ = some u1
  c2 : w.cell? ⟨b, 2, none⟩ = some u2
  c3 : w.cell? ⟨b, 3, none⟩ = some u3
  f0 : w.frozen? ⟨b, 0, none⟩ = false
  f1 : w.frozen? ⟨b, 1, none⟩ = false
  f2 : w.frozen? ⟨b, 2, none⟩ = false
  f3 : w.frozen? ⟨b, 3, none⟩ = false
theorem Row4.below {w w' : World} {b B : Nat} {u0 u1 u2 u3 : Value} (h : Row4 w b u0 u1 u2 u3) (hb : Below B w w') (hB : b < B) : Row4 w' b u0 u1 u2 u3 :=
  ⟨(hb.cell hB).trans h.c0, (hb.cell hB).trans h.c1, (hb.cell hB).trans h.c2, (hb.cell hB).trans h.c3, (hb.frozen hB).trans h.f0, (hb.frozen hB).trans h.f1, (hb.frozen hB).trans h.f2, (hb.frozen hB).trans h.f3⟩
theorem Row4.alloc {w : World} {b : Nat} {u0 u1 u2 u3 : Value} (h : Row4 w b u0 u1 u2 u3) (hB : b < w.heap.size) (o : Obj) : Row4 (w.alloc o) b u0 u1 u2 u3 :=
  h.below (B := w.heap.size) ((Below.refl _ w).alloc (Nat.le_refl _) o) hB
theorem Row4.drewN {w : World} {b : Nat} {u0 u1 u2 u3 : Value} (h : Row4 w b u0 u1 u2 u3) (n : Nat) : Row4 (w.drewN n) b u0 u1 u2 u3 := ⟨h.c0, h.c1, h.c2, h.c3, h.f0, h.f1, h.f2, h.f3⟩
theorem Row4.drew {w : World} {b : Nat} {u0 u1 u2 u3 : Value} (h : Row4 w b u0 u1 u2 u3) : Row4 w.drew b u0 u1 u2 u3 := ⟨h.c0, h.c1, h.c2, h.c3, h.f0, h.f1, h.f2, h.f3⟩
theorem Row4.far {w : World} {b : Nat} {u0 u1 u2 u3 : Value} (h : Row4 w b u0 u1 u2 u3) {p : Addr} (hp : p.block ≠ b) (v : Value) : Row4 (w.setCell p v) b u0 u1 u2 u3 := by
  have hc : ∀ o, (w.setCell p v).cell? ⟨b, o, none⟩ = w.cell? ⟨b, o, none⟩ := fun o => World.cell?_of_block (Below.heap_setCell w p v b (Ne.symm hp))
  have hf : ∀ o, (w.setCell p v).frozen? ⟨b, o, none⟩ = w.frozen? ⟨b, o, none⟩ := fun o => World.frozen?_of_block (Below.heap_setCell w p v b (Ne.symm hp))
  exact ⟨(hc _).trans h.c0, (hc _).trans h.c1, (hc _).trans h.c2, (hc _).trans h.c3, (hf _).trans h.f0, (hf _).trans h.f1, (hf _).trans h.f2, (hf _).trans h.f3⟩
theorem Row4.store {w : World} {b : Nat} {u0 u1 u2 u3 : Value} (h : Row4 w b u0 u1 u2 u3) (v0 v1 v2 v3 : Value) :
    Row4 ((((w.setCell ⟨b, 0, none⟩ v0).setCell ⟨b, 1, none⟩ v1).setCell ⟨b, 2, none⟩ v2).setCell ⟨b, 3, none⟩ v3) b v0 v1 v2 v3 := by
  have n01 : (⟨b, 0, none⟩ : Addr) ≠ ⟨b, 1, none⟩ := by simp
  have n02 : (⟨b, 0, none⟩ : Addr) ≠ ⟨b, 2, none⟩ := by simp
  have n03 : (⟨b, 0, none⟩ : Addr) ≠ ⟨b, 3, none⟩ := by simp
  have n12 : (⟨b, 1, none⟩ : Addr) ≠ ⟨b, 2, none⟩ := by simp
  have n13 : (⟨b, 1, none⟩ : Addr) ≠ ⟨b, 3, none⟩ := by simp
  have n23 : (⟨b, 2, none⟩ : Addr) ≠ ⟨b, 3, none⟩ := by simp
  have hf : ∀ (w : World) (p a : Addr) (v : Value), (w.setCell p v).frozen? a = w.frozen? a := fun w p a v => by simp
  refine ⟨?_, ?_, ?_, ?_, by rw [hf, hf, hf, hf]; exact h.f0, by rw [hf, hf, hf, hf]; exact h.f1, by rw [hf, hf, hf, hf]; exact h.f2, by rw [hf, hf, hf, hf]; exact h.f3⟩
  · rw [World.cell?_setCell_other _ _ _ _ n03.symm, World.cell?_setCell_other _ _ _ _ n02.symm, World.cell?_setCell_other _ _ _ _ n01.symm]
    exact World.cell?_setCell_same _ _ _ h.c0
  · rw [World.cell?_setCell_other _ _ _ _ n13.symm, World.cell?_setCell_other _ _ _ _ n12.symm]
    exact World.cell?_setCell_same _ _ _ ((World.cell?_setCell_other _ _ _ _ n01).trans h.c1)
  · rw [World.cell?_setCell_other _ _ _ _ n23.symm]
    exact World.cell?_setCell_same _ _ _ ((World.cell?_setCell_other _ _ _ _ n12).trans ((World.cell?_setCell_other _ _ _ _ n02).trans h.c2))
  · exact World.cell?_setCell_same _ _ _ ((World.cell?_setCell_other _ _ _ _ n23).trans ((World.cell?_setCell_other _ _ _ _ n13).trans ((World.cell?_setCell_other _ _ _ _ n03).trans h.c3)))

def psum (x : Nat → Int) : Nat → Int
  | 0 => 0
  | k + 1 => psum x k + x k
theorem psum_nonneg {x : Nat → Int} {n : Nat} (h : ∀ i, i < n → 0 ≤ x i) : ∀ k, k ≤ n → 0 ≤ psum x k
  | 0, _ => Int.le_refl _
  | k + 1, hk => by have := psum_nonneg h k (by omega); have := h k (by omega); simp only [psum]; omega
theorem psum_mono {x : Nat → Int} {n : Nat} (h : ∀ i, i < n → 0 ≤ x i) (k : Nat) : ∀ d, k + d ≤ n → psum x k ≤ psum x (k + d)
  | 0, _ => Int.le_refl _
  | d + 1, hk => by have := psum_mono h k d (by omega); have := h (k + d) (by omega); show psum x k ≤ psum x (k + d) + x (k + d); omega

/-- The amounts of a slice: n rows of four numbers from a on. -/
structure VecsAt (w : World) (a : Addr) (n : Nat) (x0 x1 x2 x3 : Nat → Int) : Prop where
  lt : 0 < n → a.block < w.heap.size
  c0 : ∀ i, i < n → w.cell? (a.add (i * 4)) = some (.int .u64 (x0 i))
  c1 : ∀ i, i < n → w.cell? ⟨(a.add (i * 4)).block, (a.add (i * 4)).off + 1, none⟩ = some (.int .u64 (x1 i))
  c2 : ∀ i, i < n → w.cell? ⟨(a.add (i * 4)).block, (a.add (i * 4)).off + 2, none⟩ = some (.int .u64 (x2 i))
  c3 : ∀ i, i < n → w.cell? ⟨(a.add (i * 4)).block, (a.add (i * 4)).off + 3, none⟩ = some (.int .u64 (x3 i))
theorem add_block (a : Addr) (n : Nat) : (a.add n).block = a.block := by unfold Addr.add; split <;> rfl
theorem VecsAt.below {w w' : World} {a : Addr} {n B : Nat} {x0 x1 x2 x3 : Nat → Int} (h : VecsAt w a n x0 x1 x2 x3) (hb : Below B w w') (hB : w.heap.size ≤ B) : VecsAt w' a n x0 x1 x2 x3 :=
  ⟨fun h0 => Nat.lt_of_lt_of_le (h.lt h0) hb.size, fun i hi => (hb.cell (by rw [add_block]; exact Nat.lt_of_lt_of_le (h.lt (by omega)) hB)).trans (h.c0 i hi), fun i hi => (hb.cell (by show (a.add (i * 4)).block < B; rw [add_block]; exact Nat.lt_of_lt_of_le (h.lt (by omega)) hB)).trans (h.c1 i hi), fun i hi => (hb.cell (by show (a.add (i * 4)).block < B; rw [add_block]; exact Nat.lt_of_lt_of_le (h.lt (by omega)) hB)).trans (h.c2 i hi), fun i hi => (hb.cell (by show (a.add (i * 4)).block < B; rw [add_block]; exact Nat.lt_of_lt_of_le (h.lt (by omega)) hB)).trans (h.c3 i hi)⟩

/-- All four sums fit. -/
def Fine (x0 x1 x2 x3 : Nat → Int) (n : Nat) : Prop := psum x0 n < 18446744073709551616 ∧ psum x1 n < 18446744073709551616 ∧ psum x2 n < 18446744073709551616 ∧ psum x3 n < 18446744073709551616
/-- Each number of the n amounts is one of 64 bits. -/
def Nums4 (x0 x1 x2 x3 : Nat → Int) (n : Nat) : Prop := ∀ i, i < n → (0 ≤ x0 i ∧ x0 i < 18446744073709551616) ∧ (0 ≤ x1 i ∧ x1 i < 18446744073709551616) ∧ (0 ≤ x2 i ∧ x2 i < 18446744073709551616) ∧ (0 ≤ x3 i ∧ x3 i < 18446744073709551616)
theorem Fine.le {x0 x1 x2 x3 : Nat → Int} {n k : Nat} (hx : Nums4 x0 x1 x2 x3 n) (h : Fine x0 x1 x2 x3 n) (hk : k ≤ n) : Fine x0 x1 x2 x3 k := by
  have m0 := psum_mono (x := x0) (n := n) (fun i hi => (hx i hi).1.1) k (n - k) (by omega)
  have m1 := psum_mono (x := x1) (n := n) (fun i hi => (hx i hi).2.1.1) k (n - k) (by omega)
  have m2 := psum_mono (x := x2) (n := n) (fun i hi => (hx i hi).2.2.1.1) k (n - k) (by omega)
  have m3 := psum_mono (x := x3) (n := n) (fun i hi => (hx i hi).2.2.2.1) k (n - k) (by omega)
  rw [show k + (n - k) = n by omega] at m0 m1 m2 m3
  unfold Fine at *
  omega
/-- What a sum of all comes to: 'good' with the sums, or 'bad' with zeroes. -/
def SumEnds (x0 x1 x2 x3 : Nat → Int) (n : Nat) (good bad : Value) (e : Ending) : Prop :=
  (Fine x0 x1 x2 x3 n ∧ e = .returned (.tuple #[.agg #[.int .u64 (psum x0 n), .int .u64 (psum x1 n), .int .u64 (psum x2 n), .int .u64 (psum x3 n)], good])) ∨
  (¬ Fine x0 x1 x2 x3 n ∧ e = .returned (.tuple #[.agg #[.int .u64 0, .int .u64 0, .int .u64 0, .int .u64 0], bad]))

set_option maxHeartbeats 1000000 in
theorem vsum_any (A : Option Addr) (a : Addr) (n cap : Nat) (x0 x1 x2 x3 : Nat → Int) (w : World) (hA : 0 < n → A = some a) (hn : n ≤ 500) (hv : VecsAt w a n x0 x1 x2 x3) (hx : Nums4 x0 x1 x2 x3 n) :
    Calls Tryz.prog 99 #[.slice A n cap] w fun e w' => SumEnds x0 x1 x2 x3 n .nilIface (.iface 67 (.int .i64 8)) e ∧ Below w.heap.size w w' := by
  have HA := Lib.hid hA
  clear hA
  go_enter Tryz.func99, Tryz.ntmps99
  go_wp2
  go_loopw [11] (fun i wr => ∃ k : Nat, k ≤ n ∧ i = .int .i64 k ∧ Below w.heap.size w wr ∧ w.heap.size + 1 < wr.heap.size ∧ Fine x0 x1 x2 x3 k ∧
      Row4 wr w.heap.size (.int .u64 0) (.int .u64 0) (.int .u64 0) (.int .u64 0) ∧ Row4 wr (w.heap.size + 1) (.int .u64 (psum x0 k)) (.int .u64 (psum x1 k)) (.int .u64 (psum x2 k)) (.int .u64 (psum x3 k))) (fun i _ => n - (intOf i).toNat)
  case atStart =>
    refine ⟨0, Nat.zero_le _, rfl, ((Below.refl _ w).alloc (Nat.le_refl _) _).alloc (by simp) _, by simp, ?_, ?_, ?_⟩
    · simp [Fine, psum]
    · exact ⟨by simp, by simp, by simp, by simp, by simp, by simp, by simp, by simp⟩
    · exact ⟨by simp [psum], by simp [psum], by simp [psum], by simp [psum], by simp, by simp, by simp, by simp⟩
  case round =>
    obtain ⟨k, hk, rfl, hb, hz, hfine, r0, r1⟩ := hrel
    by_cases hlt : k < n
    · obtain rfl := HA.out (by omega)
      obtain ⟨e0, e1, e2, e3⟩ : wr.cell? (a.add (k * 4)) = some (.int .u64 (x0 k)) ∧ wr.cell? ⟨(a.add (k * 4)).block, (a.add (k * 4)).off + 1, none⟩ = some (.int .u64 (x1 k)) ∧ wr.cell? ⟨(a.add (k * 4)).block, (a.add (k * 4)).off + 2, none⟩ = some (.int .u64 (x2 k)) ∧ wr.cell? ⟨(a.add (k * 4)).block, (a.add (k * 4)).off + 3, none⟩ = some (.int .u64 (x3 k)) := by
        have h := hv.below hb (Nat.le_refl _)
        exact ⟨h.c0 k hlt, h.c1 k hlt, h.c2 k hlt, h.c3 k hlt⟩
      have t0 := r1.c0
      have t1 := r1.c1
      have t2 := r1.c2
      have t3 := r1.c3
      have hz0 : w.heap.size < wr.heap.size := by omega
      obtain ⟨⟨y0, z0⟩, ⟨y1, z1⟩, ⟨y2, z2⟩, ⟨y3, z3⟩⟩ := hx k hlt
      have p0 := psum_nonneg (x := x0) (n := n) (fun i hi => (hx i hi).1.1) k hk
      have p1 := psum_nonneg (x := x1) (n := n) (fun i hi => (hx i hi).2.1.1) k hk
      have p2 := psum_nonneg (x := x2) (n := n) (fun i hi => (hx i hi).2.2.1.1) k hk
      have p3 := psum_nonneg (x := x3) (n := n) (fun i hi => (hx i hi).2.2.2.1) k hk
      obtain ⟨m0, m1, m2, m3⟩ : psum x0 k < 18446744073709551616 ∧ psum x1 k < 18446744073709551616 ∧ psum x2 k < 18446744073709551616 ∧ psum x3 k < 18446744073709551616 := id hfine
      by_cases hf : Fine x0 x1 x2 x3 (k + 1)
      · obtain ⟨n0, n1, n2, n3⟩ : psum x0 k + x0 k < 18446744073709551616 ∧ psum x1 k + x1 k < 18446744073709551616 ∧ psum x2 k + x2 k < 18446744073709551616 ∧ psum x3 k + x3 k < 18446744073709551616 := id hf
        go_wp2_with fail
        refine (add_ok _ _ _ _ _ _ _ _ p0 p1 p2 p3 y0 y1 y2 y3 m0 m1 m2 m3 z0 z1 z2 z3 n0 n1 n2 n3 _).mono ?_
        rintro e w1 ⟨rfl, hb1⟩
        have hs1 := hb1.size
        have hzz : w.heap.size + 1 < w1.heap.size := by simp at hs1; omega
        have q1 := (r1.alloc hz (.cells #[.int .u64 (x0 k), .int .u64 (x1 k), .int .u64 (x2 k), .int .u64 (x3 k)] 38)).below hb1 (by simp; omega)
        have q0 := (r0.alloc hz0 (.cells #[.int .u64 (x0 k), .int .u64 (x1 k), .int .u64 (x2 k), .int .u64 (x3 k)] 38)).below hb1 (by simp; omega)
        obtain ⟨g0, g1, g2, g3, v0, v1, v2, v3⟩ := q1
        have q1 : Row4 w1 (w.heap.size + 1) (.int .u64 (psum x0 k)) (.int .u64 (psum x1 k)) (.int .u64 (psum x2 k)) (.int .u64 (psum x3 k)) := ⟨g0, g1, g2, g3, v0, v1, v2, v3⟩
        go_wp2
        go_roundw
        case rel =>
          refine ⟨k + 1, by omega, by go_num, ?_, ?_, hf, ?_, ?_⟩
          · have k1 : Below w.heap.size w w1 := (hb.alloc (by omega) _).trans (hb1.mono (by simp; omega))
            repeat (first | with_reducible exact k1 | with_reducible refine Below.setCell ?_ ?_ _ | with_reducible refine Below.alloc ?_ ?_ _)
            all_goals first | (simp; done) | (simp; omega) | omega
          · simp; omega
          · repeat (first | with_reducible exact q0 | with_reducible refine Row4.far ?_ ?_ _ | with_reducible refine Row4.alloc ?_ ?_ _)
            all_goals first | (simp; done) | (simp; omega) | omega
          · refine Row4.alloc (Row4.store q1 _ _ _ _) ?_ _
            simp; omega
        case measure => simp [intOf]; omega
      · go_wp2_with fail
        refine (add_over _ _ _ _ _ _ _ _ p0 p1 p2 p3 y0 y1 y2 y3 m0 m1 m2 m3 z0 z1 z2 z3 hf _).mono ?_
        rintro e w1 ⟨rfl, hb1⟩
        have hs1 := hb1.size
        have hzz : w.heap.size + 1 < w1.heap.size := by simp at hs1; omega
        have hzy : w.heap.size < w1.heap.size := by omega
        obtain ⟨g0, g1, g2, g3, v0, v1, v2, v3⟩ := (r0.alloc hz0 (.cells #[.int .u64 (x0 k), .int .u64 (x1 k), .int .u64 (x2 k), .int .u64 (x3 k)] 38)).below hb1 (by simp; omega)
        obtain ⟨l0, l1, l2, l3, _, _, _, _⟩ := Row4.alloc (Row4.store ⟨g0, g1, g2, g3, v0, v1, v2, v3⟩ (.int .u64 0) (.int .u64 0) (.int .u64 0) (.int .u64 0)) (by simp; omega) (.cells #[.int .u64 0, .int .u64 0, .int .u64 0, .int .u64 0] 38)
        go_wp2
        refine bodyPost_ret (v := .tuple #[.agg #[.int .u64 0, .int .u64 0, .int .u64 0, .int .u64 0], .iface 67 (.int .i64 8)]) ?_ rfl ?_
        · simp [results, Tryz.results99, go_sem, l0, l1, l2, l3]
        · refine ⟨.inr ⟨fun h => hf (h.le hx (by omega)), rfl⟩, ?_⟩
          have k1 : Below w.heap.size w w1 := (hb.alloc (by omega) _).trans (hb1.mono (by simp; omega))
          repeat (first | with_reducible exact k1 | with_reducible refine Below.setCell ?_ ?_ _ | with_reducible refine Below.alloc ?_ ?_ _)
          all_goals first | (simp; done) | (simp; omega) | omega
    · obtain rfl : n = k := by omega
      obtain ⟨t0, t1, t2, t3, _, _, _, _⟩ := r1
      obtain ⟨g0, g1, g2, g3, v0, v1, v2, v3⟩ := r0
      go_wp2
      refine bodyPost_ret (v := .tuple #[.agg #[.int .u64 (psum x0 n), .int .u64 (psum x1 n), .int .u64 (psum x2 n), .int .u64 (psum x3 n)], .nilIface]) ?_ rfl ?_
      · simp [results, Tryz.results99, go_sem, g0, g1, g2, g3]
      · refine ⟨.inl ⟨hfine, rfl⟩, ?_⟩
        repeat (first | with_reducible exact hb | with_reducible refine Below.setCell ?_ ?_ _ | with_reducible refine Below.alloc ?_ ?_ _)
        all_goals first | (simp; done) | (simp; omega) | omega
end Go.Proofs.YtkipfalolfleaaaGreatDoor

/- The reference's Sum. -/
namespace Go.Proofs.YtkipfalolfleaaaGreatDoor
set_option linter.unusedSimpArgs false
open Go.RowKit
set_option linter.unusedVariables false

end Go.Proofs.YtkipfalolfleaaaGreatDoor

/- Sums and differences of amounts, the program's and the reference's, as contracts over amounts. -/
namespace Go.Proofs.YtkipfalolfleaaaGreatDoor
set_option linter.unusedSimpArgs false
open Go.RowKit
set_option linter.unusedVariables false

abbrev zeroV : Value := .agg #[.int .u64 0, .int .u64 0, .int .u64 0, .int .u64 0]
theorem sub_none4 {x y : V4} (h : subV x y = none) : ¬ (y.a ≤ x.a ∧ y.b ≤ x.b ∧ y.c ≤ x.c ∧ y.d ≤ x.d) := by
  unfold subV at h
  split at h
  · cases h
  · rename_i hs
    simp only [V4.le] at hs
    exact fun h => hs (decide_eq_true h)
theorem vSub_some {x y z : V4} (hx : x.Ok) (hy : y.Ok) (h : subV x y = some z) (w : World) :
    Calls Tryz.prog 100 #[aggV x, aggV y] w fun e w' => e = .returned (.tuple #[aggV z, .nilIface]) ∧ Below w.heap.size w w' := by
  obtain ⟨rfl, hs⟩ := sub_le h
  simp only [V4.le] at hs
  obtain ⟨h0, h1, h2, h3⟩ := of_decide_eq_true hs
  obtain ⟨⟨p0, m0⟩, ⟨p1, m1⟩, ⟨p2, m2⟩, ⟨p3, m3⟩⟩ := hx
  obtain ⟨⟨q0, n0⟩, ⟨q1, n1⟩, ⟨q2, n2⟩, ⟨q3, n3⟩⟩ := hy
  exact sub_ok _ _ _ _ _ _ _ _ p0 p1 p2 p3 q0 q1 q2 q3 m0 m1 m2 m3 n0 n1 n2 n3 h0 h1 h2 h3 w
theorem vSub_none {x y : V4} (hx : x.Ok) (hy : y.Ok) (h : subV x y = none) (w : World) :
    Calls Tryz.prog 100 #[aggV x, aggV y] w fun e w' => e = .returned (.tuple #[zeroV, .iface 67 (.int .i64 8)]) ∧ Below w.heap.size w w' := by
  obtain ⟨⟨p0, m0⟩, ⟨p1, m1⟩, ⟨p2, m2⟩, ⟨p3, m3⟩⟩ := hx
  obtain ⟨⟨q0, n0⟩, ⟨q1, n1⟩, ⟨q2, n2⟩, ⟨q3, n3⟩⟩ := hy
  exact sub_over _ _ _ _ _ _ _ _ p0 p1 p2 p3 q0 q1 q2 q3 m0 m1 m2 m3 n0 n1 n2 n3 (sub_none4 h) w

/-! Sums of a list of amounts. -/
def atV (l : List V4) (i : Nat) : V4 := (l[i]?).getD .zer
theorem atV_of {l : List V4} {i : Nat} (h : i < l.length) : atV l i = l[i] := by simp [atV, List.getElem?_eq_getElem h]
theorem psum_tot (l : List V4) : ∀ k, k ≤ l.length → psum (fun i => (atV l i).a) k = (totV (l.take k)).a ∧ psum (fun i => (atV l i).b) k = (totV (l.take k)).b ∧ psum (fun i => (atV l i).c) k = (totV (l.take k)).c ∧ psum (fun i => (atV l i).d) k = (totV (l.take k)).d
  | 0, _ => by simp [psum, totV, V4.zer]
  | k + 1, h => by
    obtain ⟨h0, h1, h2, h3⟩ := psum_tot l k (by omega)
    rw [List.take_succ_eq_append_getElem (by omega), tot_append]
    simp only [psum, h0, h1, h2, h3, atV_of (show k < l.length by omega)]
    simp [V4.add, totV, V4.zer]
theorem vecs_at {l : List V4} {w : World} {b o : Nat} (hb : b < w.heap.size) (h : ∀ i (h : i < l.length) j u, (cellsV l[i])[j]? = some u → w.cell? ⟨b, o + i * 4 + j, none⟩ = some u) :
    VecsAt w ⟨b, o, none⟩ l.length (fun i => (atV l i).a) (fun i => (atV l i).b) (fun i => (atV l i).c) (fun i => (atV l i).d) := by
  refine ⟨fun _ => hb, fun i hi => ?_, fun i hi => ?_, fun i hi => ?_, fun i hi => ?_⟩
  all_goals
    rw [Addr.add_lit]
    simp only [atV_of hi]
  · exact h i hi 0 _ rfl
  · exact h i hi 1 _ rfl
  · exact h i hi 2 _ rfl
  · exact h i hi 3 _ rfl
theorem nums_at {l : List V4} (ho : ∀ x ∈ l, x.Ok) : Nums4 (fun i => (atV l i).a) (fun i => (atV l i).b) (fun i => (atV l i).c) (fun i => (atV l i).d) l.length := by
  intro i hi
  simp only [atV_of hi]
  exact ho _ (List.getElem_mem hi)
theorem recs_vecs {l : List V4} {A : Option Addr} {w : World} {B : Nat} (hB : B ≤ w.heap.size) (hr : Recs 4 cellsV w B A l) : ∃ a, (0 < l.length → A = some a) ∧ VecsAt w a l.length (fun i => (atV l i).a) (fun i => (atV l i).b) (fun i => (atV l i).c) (fun i => (atV l i).d) := by
  rcases hr with rfl | ⟨b, o, rfl, hb, h⟩
  · exact ⟨⟨0, 0, none⟩, fun h => by simp at h, ⟨fun h => by simp at h, fun i hi => by simp at hi, fun i hi => by simp at hi, fun i hi => by simp at hi, fun i hi => by simp at hi⟩⟩
  · exact ⟨_, fun _ => rfl, vecs_at (by omega) h⟩
theorem sum_ends {l : List V4} {good bad : Value} {e : Ending} (h : SumEnds (fun i => (atV l i).a) (fun i => (atV l i).b) (fun i => (atV l i).c) (fun i => (atV l i).d) l.length good bad e) :
    (∃ u, sumV l = some u ∧ e = .returned (.tuple #[aggV u, good])) ∨ (sumV l = none ∧ e = .returned (.tuple #[zeroV, bad])) := by
  obtain ⟨h0, h1, h2, h3⟩ := psum_tot l l.length (Nat.le_refl _)
  rw [List.take_of_length_le (Nat.le_refl _)] at h0 h1 h2 h3
  unfold SumEnds Fine at h
  rw [h0, h1, h2, h3] at h
  rcases h with ⟨hf, rfl⟩ | ⟨hf, rfl⟩
  · refine .inl ⟨totV l, ?_, rfl⟩
    unfold sumV
    rw [if_pos (show (totV l).small = true from decide_eq_true hf)]
  · refine .inr ⟨?_, rfl⟩
    unfold sumV
    rw [if_neg]
    intro h
    exact hf (of_decide_eq_true h)
theorem vSum_some {l : List V4} {u : V4} (ho : ∀ x ∈ l, x.Ok) (h : sumV l = some u) (A : Option Addr) (n c : Nat) (w : World) (hn : n = l.length) (hl : n ≤ 500) (hr : Recs 4 cellsV w w.heap.size A l) :
    Calls Tryz.prog 99 #[.slice A n c] w fun e w' => e = .returned (.tuple #[aggV u, .nilIface]) ∧ Below w.heap.size w w' := by
  subst hn
  obtain ⟨a, hA, hv⟩ := recs_vecs (Nat.le_refl _) hr
  refine (vsum_any A a l.length c _ _ _ _ w hA hl hv (nums_at ho)).mono ?_
  rintro e w1 ⟨he, hb⟩
  rcases sum_ends he with ⟨u', h', rfl⟩ | ⟨h', _⟩
  · obtain rfl := Option.some.inj (h.symm.trans h'); exact ⟨rfl, hb⟩
  · rw [h] at h'; cases h'
theorem vSum_none {l : List V4} (ho : ∀ x ∈ l, x.Ok) (h : sumV l = none) (A : Option Addr) (n c : Nat) (w : World) (hn : n = l.length) (hl : n ≤ 500) (hr : Recs 4 cellsV w w.heap.size A l) :
    Calls Tryz.prog 99 #[.slice A n c] w fun e w' => e = .returned (.tuple #[zeroV, .iface 67 (.int .i64 8)]) ∧ Below w.heap.size w w' := by
  subst hn
  obtain ⟨a, hA, hv⟩ := recs_vecs (Nat.le_refl _) hr
  refine (vsum_any A a l.length c _ _ _ _ w hA hl hv (nums_at ho)).mono ?_
  rintro e w1 ⟨he, hb⟩
  rcases sum_ends he with ⟨u', h', rfl⟩ | ⟨_, rfl⟩
  · rw [h] at h'; cases h'
  · exact ⟨rfl, hb⟩
end Go.Proofs.YtkipfalolfleaaaGreatDoor

/- What a node has left beside a use: the program's left. -/
namespace Go.Proofs.YtkipfalolfleaaaGreatDoor
set_option linter.unusedSimpArgs false
open Go.RowKit
set_option linter.unusedVariables false

/-- Three boxes of the call's own. -/
structure T3 (a b c : List Value) (w V : World) : Prop where
  one : Bf V w.heap.size a
  two : Bf V (w.heap.size + 1) b
  three : Bf V (w.heap.size + 2) c
  below : Below w.heap.size w V
section
variable {a b c : List Value} {w V V' : World}
theorem T3.keep (h : T3 a b c w V) (hb : Below V.heap.size V V') : T3 a b c w V' :=
  ⟨h.one.below hb h.one.lt, h.two.below hb h.two.lt, h.three.below hb h.three.lt, h.below.trans (hb.mono h.below.size)⟩
theorem T3.alloc (h : T3 a b c w V) (o : Obj) : T3 a b c w (V.alloc o) := h.keep ((Below.refl _ V).alloc (Nat.le_refl _) o)
theorem T3.drew (h : T3 a b c w V) : T3 a b c w V.drew := h.keep (Below.refl _ V).drew
theorem T3.new (w : World) (a b c : List Value) (t1 t2 t3 : TypeId) : T3 a b c w (((w.alloc (.cells a.toArray t1)).alloc (.cells b.toArray t2)).alloc (.cells c.toArray t3)) :=
  ⟨((Bf.new w a t1 rfl).alloc _).alloc _, (Bf.new (w.alloc (.cells a.toArray t1)) b t2 (b := w.heap.size + 1) (by simp)).alloc _,
    Bf.new ((w.alloc (.cells a.toArray t1)).alloc (.cells b.toArray t2)) c t3 (b := w.heap.size + 2) (by simp), ((((Below.refl _ w).alloc (Nat.le_refl _) _).alloc (by simp) _).alloc (by simp; omega) _)⟩
theorem Bf.cells4 {b : Nat} {x : V4} (h : Bf V b (cellsV x)) : V.cell? ⟨b, 0, none⟩ = some (.int .u64 x.a) ∧ V.cell? ⟨b, 1, none⟩ = some (.int .u64 x.b) ∧ V.cell? ⟨b, 2, none⟩ = some (.int .u64 x.c) ∧ V.cell? ⟨b, 3, none⟩ = some (.int .u64 x.d) ∧ b < V.heap.size :=
  ⟨h.cell 0 _ rfl, h.cell 1 _ rfl, h.cell 2 _ rfl, h.cell 3 _ rfl, h.lt⟩
theorem Bf.zero4 {b : Nat} (h : Bf V b (cellsV .zer)) : (V.cell? ⟨b, 0, none⟩ = some (.int .u64 0) ∧ V.cell? ⟨b, 1, none⟩ = some (.int .u64 0) ∧ V.cell? ⟨b, 2, none⟩ = some (.int .u64 0) ∧ V.cell? ⟨b, 3, none⟩ = some (.int .u64 0)) ∧ b < V.heap.size :=
  ⟨⟨h.cell 0 _ rfl, h.cell 1 _ rfl, h.cell 2 _ rfl, h.cell 3 _ rfl⟩, h.lt⟩
theorem Bf.free4 {b : Nat} {l : List Value} (h : Bf V b l) : V.frozen? ⟨b, 0, none⟩ = false ∧ V.frozen? ⟨b, 1, none⟩ = false ∧ V.frozen? ⟨b, 2, none⟩ = false ∧ V.frozen? ⟨b, 3, none⟩ = false :=
  ⟨h.frozen 0, h.frozen 1, h.frozen 2, h.frozen 3⟩
theorem Bf.cells3 {b : Nat} {x0 x1 x2 : Value} (h : Bf V b [x0, x1, x2]) : V.cell? ⟨b, 0, none⟩ = some x0 ∧ V.cell? ⟨b, 1, none⟩ = some x1 ∧ V.cell? ⟨b, 2, none⟩ = some x2 ∧ b < V.heap.size :=
  ⟨h.cell 0 _ rfl, h.cell 1 _ rfl, h.cell 2 _ rfl, h.lt⟩
end
set_option maxHeartbeats 3200000 in
set_option maxRecDepth 100000 in
theorem leftW_some {n : NodeD} {u r : V4} (hn : n.Ok) (hu : u.Ok) (h : leftD n u = some r) (w : World) :
    Calls Tryz.prog 88 #[aggN n, aggV u] w fun e w' => e = .returned (.tuple #[aggV r, .nilIface]) ∧ Below w.heap.size w w' := by
  rcases hf : subV n.cap n.held with _ | f
  · rw [left_none hf] at h; cases h
  rw [left_some hf] at h
  have HU := Lib.hid hu
  have HFO := Lib.hid (sub_ok4 hn.2.2.1 hn.2.2.2 hf)
  have HC := Lib.hid (fun w => vSub_some hn.2.2.1 hn.2.2.2 hf w)
  have HD := Lib.hid (fun w => vSub_some HFO.out hu h w)
  have T0 := T3.new w (cellsN n) (cellsV u) (cellsV .zer) 49 38 38
  clear hn hu h hf
  go_enter Tryz.func88, Tryz.ntmps88
  go_wp2_with fail
  refine (HC.out _).mono ?_
  rintro e w1 ⟨rfl, hb1⟩
  have T1 := T0.keep hb1
  clear hb1 T0
  obtain ⟨a0, a1, a2, a3, a4⟩ := T1.two.cells4
  have hz1 : w.heap.size + 2 < w1.heap.size := T1.three.lt
  go_wp2_with fail
  refine (HD.out _).mono ?_
  rintro e w2 ⟨rfl, hb2⟩
  have T2 := (T1.alloc _).keep hb2
  clear hb2 T1 a0 a1 a2 a3 a4 hz1
  obtain ⟨⟨g0, g1, g2, g3⟩, g4⟩ := T2.three.zero4
  obtain ⟨f0, f1, f2, f3⟩ := T2.three.free4
  have kw2 := T2.below
  clear T2
  go_wp2
  refine bodyPost_ret (v := .tuple #[aggV r, .nilIface]) ?_ rfl ?_
  · simp [results, Tryz.results88, go_sem, *]
  · refine ⟨rfl, ?_⟩
    repeat (first | with_reducible exact kw2 | with_reducible refine Below.setCell ?_ ?_ _ | with_reducible refine Below.alloc ?_ ?_ _)
    all_goals first | (show w.heap.size ≤ w.heap.size + 2; omega) | (simp; omega) | omega
set_option maxHeartbeats 3200000 in
set_option maxRecDepth 100000 in
theorem leftW_none {n : NodeD} {u : V4} (hn : n.Ok) (hu : u.Ok) (h : leftD n u = none) (w : World) :
    Calls Tryz.prog 88 #[aggN n, aggV u] w fun e w' => e = .returned (.tuple #[zeroV, .iface 67 (.int .i64 9)]) ∧ Below w.heap.size w w' := by
  have T0 := T3.new w (cellsN n) (cellsV u) (cellsV .zer) 49 38 38
  rcases hf : subV n.cap n.held with _ | f
  · have HC := Lib.hid (fun w => vSub_none hn.2.2.1 hn.2.2.2 hf w)
    clear hn hu h hf
    go_enter Tryz.func88, Tryz.ntmps88
    go_wp2_with fail
    refine (HC.out _).mono ?_
    rintro e w1 ⟨rfl, hb1⟩
    have T2 := T0.keep hb1
    clear hb1 T0
    obtain ⟨⟨g0, g1, g2, g3⟩, g4⟩ := T2.three.zero4
    obtain ⟨f0, f1, f2, f3⟩ := T2.three.free4
    have kw2 := T2.below
    clear T2
    go_wp2
    refine bodyPost_ret (v := .tuple #[zeroV, .iface 67 (.int .i64 9)]) ?_ rfl ?_
    · simp [results, Tryz.results88, go_sem, *]
    · refine ⟨rfl, ?_⟩
      repeat (first | with_reducible exact kw2 | with_reducible refine Below.setCell ?_ ?_ _ | with_reducible refine Below.alloc ?_ ?_ _)
      all_goals first | (show w.heap.size ≤ w.heap.size + 2; omega) | (simp; omega) | omega
  rw [left_some hf] at h
  have HU := Lib.hid hu
  have HFO := Lib.hid (sub_ok4 hn.2.2.1 hn.2.2.2 hf)
  have HC := Lib.hid (fun w => vSub_some hn.2.2.1 hn.2.2.2 hf w)
  have HD := Lib.hid (fun w => vSub_none HFO.out hu h w)
  clear hn hu h hf
  go_enter Tryz.func88, Tryz.ntmps88
  go_wp2_with fail
  refine (HC.out _).mono ?_
  rintro e w1 ⟨rfl, hb1⟩
  have T1 := T0.keep hb1
  clear hb1 T0
  obtain ⟨a0, a1, a2, a3, a4⟩ := T1.two.cells4
  have hz1 : w.heap.size + 2 < w1.heap.size := T1.three.lt
  go_wp2_with fail
  refine (HD.out _).mono ?_
  rintro e w2 ⟨rfl, hb2⟩
  have T2 := (T1.alloc _).keep hb2
  clear hb2 T1 a0 a1 a2 a3 a4 hz1
  obtain ⟨⟨g0, g1, g2, g3⟩, g4⟩ := T2.three.zero4
  obtain ⟨f0, f1, f2, f3⟩ := T2.three.free4
  have kw2 := T2.below
  clear T2
  go_wp2
  refine bodyPost_ret (v := .tuple #[zeroV, .iface 67 (.int .i64 9)]) ?_ rfl ?_
  · simp [results, Tryz.results88, go_sem, *]
  · refine ⟨rfl, ?_⟩
    repeat (first | with_reducible exact kw2 | with_reducible refine Below.setCell ?_ ?_ _ | with_reducible refine Below.alloc ?_ ?_ _)
    all_goals first | (show w.heap.size ≤ w.heap.size + 2; omega) | (simp; omega) | omega
end Go.Proofs.YtkipfalolfleaaaGreatDoor

/- Plain mathematics of layer 4: what numbers are read as, and that what was written is read as it was, and what is read is written as it was; no program stands in it. -/
namespace Go.Proofs.YtkipfalolfleaaaGreatDoor
set_option linter.unusedSimpArgs false

end Go.Proofs.YtkipfalolfleaaaGreatDoor

/- Plain mathematics of layer 4: specs and moves as numbers, written and read; no program stands in it. -/
namespace Go.Proofs.YtkipfalolfleaaaGreatDoor
set_option linter.unusedSimpArgs false

end Go.Proofs.YtkipfalolfleaaaGreatDoor

/- Words for the reference's codec: an append that leaves all other blocks, a box that stays, a row that a literal makes. -/
namespace Go.Proofs.YtkipfalolfleaaaGreatDoor
set_option linter.unusedSimpArgs false
open Go.RowKit
set_option linter.unusedVariables false

/-- A box that holds these cells. -/
def Bx (w : World) (b : Nat) (cs : List Value) : Prop := b < w.heap.size ∧ ∀ j (h : j < cs.length), w.cell? ⟨b, j, none⟩ = some cs[j]
theorem Bx.at {w : World} {b : Nat} {cs : List Value} (h : Bx w b cs) (j : Nat) (v : Value) (hv : cs[j]? = some v) : w.cell? ⟨b, j, none⟩ = some v := by
  obtain ⟨hj, rfl⟩ := List.getElem?_eq_some_iff.1 hv
  exact h.2 j hj
theorem Bx.below {w w' : World} {b B : Nat} {cs : List Value} (h : Bx w b cs) (hb : Below B w w') (hB : b < B) : Bx w' b cs :=
  ⟨Nat.lt_of_lt_of_le h.1 hb.size, fun j hj => (hb.cell (p := ⟨b, j, none⟩) hB).trans (h.2 j hj)⟩
theorem Bx.grown {w w' : World} {b : Nat} {row : Option Nat} {cs : List Value} (h : Bx w b cs) (hg : w.grownBy w' row) (hr : some b ≠ row) : Bx w' b cs :=
  ⟨Nat.lt_of_lt_of_le h.1 hg.size, fun j hj => hg.cell (h.2 j hj) hr⟩
theorem Bx.alloc {w : World} {b : Nat} {cs : List Value} (h : Bx w b cs) (o : Obj) : Bx (w.alloc o) b cs :=
  ⟨by have := h.1; simp; omega, fun j hj => by rw [World.cell?_alloc_lt _ _ _ h.1]; exact h.2 j hj⟩
theorem Bx.new (w : World) (cs : List Value) (t : TypeId) : Bx (w.alloc (.cells cs.toArray t)) w.heap.size cs :=
  ⟨by simp, fun j hj => by simp [List.getElem?_eq_getElem hj]⟩
section
variable {ops : Array Oper} {rest : List Oper} {o : Oper} {a : Act} {Q : Exit → Act → World → Prop} {wr : World}
end
/-- One box of the world is as it was. -/
def SameBox (W : World) (b : Nat) (v : World) : Prop := (∀ o, v.cell? ⟨b, o, none⟩ = W.cell? ⟨b, o, none⟩) ∧ W.heap.size ≤ v.heap.size
theorem SameBox.refl (W : World) (b : Nat) : SameBox W b W := ⟨fun _ => rfl, Nat.le_refl _⟩
theorem SameBox.drew {W v : World} {b : Nat} (h : SameBox W b v) : SameBox W b v.drew := h
theorem SameBox.alloc {W v : World} {b : Nat} (h : SameBox W b v) (hb : b < W.heap.size) (o : Obj) : SameBox W b (v.alloc o) :=
  ⟨fun o' => by rw [World.cell?_alloc_lt _ _ _ (Nat.lt_of_lt_of_le hb h.2)]; exact h.1 o', by have := h.2; simp; omega⟩
theorem SameBox.far {W v v' : World} {b : Nat} {row : Option Nat} (h : SameBox W b v) (hf : ∀ b o', some b ≠ row → b < v.heap.size → v'.cell? ⟨b, o', none⟩ = v.cell? ⟨b, o', none⟩ ∧ v'.frozen? ⟨b, o', none⟩ = v.frozen? ⟨b, o', none⟩) (hs : v.heap.size ≤ v'.heap.size) (hne : some b ≠ row) (hb : b < W.heap.size) : SameBox W b v' :=
  ⟨fun o' => (hf b o' hne (Nat.lt_of_lt_of_le hb h.2)).1.trans (h.1 o'), Nat.le_trans h.2 hs⟩
end Go.Proofs.YtkipfalolfleaaaGreatDoor

/- The use of a node: the program's and the reference's. -/
namespace Go.Proofs.YtkipfalolfleaaaGreatDoor
set_option linter.unusedSimpArgs false
open Go.RowKit
set_option linter.unusedVariables false

theorem infoVec : (Tryz.prog.info? 38).map (fun i => (i.zero, i.size, i.bytes)) = some (some (.agg #[.int .u64 0, .int .u64 0, .int .u64 0, .int .u64 0]), 4, 32) := by kernel_rfl
theorem underVecs : Tryz.prog.underlying 165 = some (.slice 38) := by kernel_rfl
theorem oneVec (x : V4) : ∀ u ∈ cellsV x, u.oneCell' = true := by
  intro u hu; simp only [cellsV, List.mem_cons, List.not_mem_nil, or_false] at hu
  rcases hu with rfl | rfl | rfl | rfl <;> rfl
theorem lenVec (x : V4) : (cellsV x).length = 4 := rfl
section
variable {ops : Array Oper} {rest : List Oper} {o : Oper} {a : Act} {Q : Exit → Act → World → Prop} {wr : World}
/-- append of one record of a literal to a row of the call's own. -/
theorem wpList_pushR (t e : TypeId) (z : Value) (size bytes : Nat) (ht : Tryz.prog.underlying t = some (.slice e)) (hinfo : (Tryz.prog.info? e).map (fun i => (i.zero, i.size, i.bytes)) = some (some z, size, bytes)) (hz : z.cells.size = size) (hsz : 0 < size) (hby : bytes ≤ 1000)
    (hgd : o.guard = none) (s x : Operand) (ho : o.op = .call { callee := .builtin .append, args := #[s, x], argTypes := #[t, t] })
    (B : Nat) (v : Value) (n : Nat) (xs cs : List Value) (hcs : cs.length = size) (hu : ∀ u ∈ cs, u.oneCell' = true) (hown : wr.ownsRow B e size v n xs) (hB : B ≤ wr.heap.size) (hl : n ≤ 2000000)
    (hs : a.eval s = v) (hx : a.eval x = .slice (some ⟨wr.heap.size, 0, none⟩) 1 1)
    (h : ∀ v' w', w'.ownsRow B e size v' (n + 1) (xs ++ cs) → Below B wr w' → B ≤ w'.heap.size → wpList Tryz.prog ops Q rest (a.put o.dst v') w') :
    wpList Tryz.prog ops Q (o :: rest) a (wr.alloc (.cells cs.toArray e)) := by
  obtain ⟨i0, hi, hz0, hz1, hz2⟩ : ∃ i, Tryz.prog.info? e = some i ∧ i.zero = some z ∧ i.size = size ∧ i.bytes = bytes := by
    cases hi : Tryz.prog.info? e with
    | none => rw [hi] at hinfo; cases hinfo
    | some i =>
      rw [hi] at hinfo
      have h := Option.some.inj hinfo
      simp only [Prod.mk.injEq] at h
      exact ⟨i, rfl, h.1, h.2.1, h.2.2⟩
  refine wpList_append_own _ hgd s x t ho B e i0 z size bytes ht hi hz0 hz1 hz2 hz hsz v n xs hs (hown.alloc _) ⟨wr.heap.size, 0, none⟩ 1 1 cs hx (by omega) ?_ hu ?_ ?_ ?_ ?_
  · intro j y hy
    have := cell_of_row (wr.alloc (.cells cs.toArray e)) wr.heap.size j cs.toArray e (0, 0) (heap_alloc_new wr _)
    rw [Addr.add_lit, Nat.zero_add, this]
    simpa using hy
  · unfold maxLen; omega
  · have : (n + 1) * bytes ≤ (n + 1) * 1000 := Nat.mul_le_mul_left _ hby
    omega
  · simp; omega
  · intro v' w' h1 h2 _
    exact h v' w' h1 (((Below.refl B wr).alloc hB _).grown h2 (by simp; omega) (fun j hj => (hown.lt j hj).1)) (by have := h2.size; simp at this; omega)
end
theorem two_head (w : World) (v0 v1 v2 : Value) (t t' : TypeId) : Row4 ((w.alloc (.cells #[v0, v1, v2] t)).alloc (.cells #[.int .u64 0, .int .u64 0, .int .u64 0, .int .u64 0] t')) (w.heap.size + 1) (.int .u64 0) (.int .u64 0) (.int .u64 0) (.int .u64 0) :=
  ⟨by simp, by simp, by simp, by simp, by simp, by simp, by simp, by simp⟩
theorem own_reqs {B m : Nat} {e : TypeId} {w1 : World} {v : Value} {xs ys : List V4} {x : V4} (hm : m = xs.length) (h : w1.ownsRow B e 4 v (m + 1) (xs.flatMap cellsV ++ cellsV x)) (he : ys = xs ++ [x]) : w1.ownsRow B e 4 v (m + 1) (ys.flatMap cellsV) ∧ m + 1 = ys.length := by
  subst he hm; simpa using h

def UseRel (l : List PodD) (node : Int) (W : World) (B : Nat) (v i : Value) (wr : World) : Prop :=
  ∃ k m : Nat, k ≤ l.length ∧ i = .int .i64 k ∧ m = (reqsAt node (l.take k)).length ∧ wr.ownsRow B 38 4 v m ((reqsAt node (l.take k)).flatMap cellsV) ∧ Below B W wr
theorem makeVecs (w : World) : (Instr.makeSlice 165 (.int .i64 0) (.int .i64 12)).run Tryz.prog w = .ok (.slice (some ⟨w.heap.size, 0, none⟩) 0 12) (w.alloc (.cells (Array.replicate 48 (Value.int .u64 0)) 38)) := by kernel_rfl
set_option maxHeartbeats 3200000 in
set_option maxRecDepth 100000 in
theorem roomUse_walk (l : List PodD) (node : Int) (ho : ∀ p ∈ l, p.Ok) (A : Option Addr) (n c : Nat) (v1 v2 z e8 : Value) (w : World) (hn : n = l.length) (hl : n ≤ 400) (hr : Recs 8 cellsP w w.heap.size A l)
    (hsum : ∀ (A' : Option Addr) (n' c' : Nat) (w' : World), n' = (reqsAt node l).length → n' ≤ 500 → Recs 4 cellsV w' w'.heap.size A' (reqsAt node l) →
      Calls Tryz.prog 99 #[.slice A' n' c'] w' fun e w'' => ∃ u : V4, z = aggV u ∧ e = .returned (.tuple #[aggV u, e8]) ∧ Below w'.heap.size w' w'') :
    Calls Tryz.prog 87 #[.agg #[.slice A n c, v1, v2], .int .i64 node] w fun e w' => e = .returned (.tuple #[z, e8]) ∧ Below w.heap.size w w' := by
  have HR := Lib.hid hr
  have HN := Lib.hid hn
  have HS := Lib.hid hsum
  have b00 := below_two w (.cells #[.slice A n c, v1, v2] 31) (.cells #[.int .u64 0, .int .u64 0, .int .u64 0, .int .u64 0] 38)
  have hmk := makeVecs
  have HT := Lib.hid (two_head w (.slice A n c) v1 v2 31 38)
  have HM := Lib.hid (World.ownsRow_made (base := w.heap.size + 2) (e := 38) (size := 4) ((w.alloc (.cells #[.slice A n c, v1, v2] 31)).alloc (.cells #[.int .u64 0, .int .u64 0, .int .u64 0, .int .u64 0] 38)) (Array.replicate 48 (Value.int .u64 0)) 12 (by simp) (by decide) (by simp))
  clear hr hn hsum ho
  go_enter Tryz.func87, Tryz.ntmps87
  go_wp2
  go_loopw [6, 13] (UseRel l node ((w.alloc (.cells #[.slice A n c, v1, v2] 31)).alloc (.cells #[.int .u64 0, .int .u64 0, .int .u64 0, .int .u64 0] 38)) (w.heap.size + 2)) (fun _ i _ => n - (intOf i).toNat)
  case atStart => exact ⟨0, 0, by omega, rfl, rfl, by simpa [reqsAt] using HM.out, (Below.refl _ _).alloc (by simp) _⟩
  case round =>
    obtain ⟨k, m, hk, rfl, hm, hown, hbr⟩ := hrel
    have HMM := Lib.hid hm
    have HOW := Lib.hid hown
    have hz := hbr.size
    have hz2 : w.heap.size + 2 ≤ wr.heap.size := by simpa using hz
    have kwr := b00.trans (hbr.mono (by omega))
    clear hm hown hz hmk
    by_cases hlt : k < n
    · have hkl : k < l.length := by have := HN.out; omega
      obtain ⟨b, o, rfl, hb, he⟩ := HR.out.at hkl
      generalize hx : l[k] = y at *
      have HXX := Lib.hid (reqs_take (node := node) hkl hx)
      clear hx
      have e0 : wr.cell? ⟨b, o + k * 8, none⟩ = some (.int .i64 y.id) := (kwr.cell (p := ⟨b, o + k * 8, none⟩) hb).trans (he 0 _ rfl)
      have e1 : wr.cell? ⟨b, o + k * 8 + 1, none⟩ = some (.int .i64 y.load) := (kwr.cell (p := ⟨b, o + k * 8 + 1, none⟩) hb).trans (he 1 _ rfl)
      have e2 : wr.cell? ⟨b, o + k * 8 + 2, none⟩ = some (.int .i64 y.prio) := (kwr.cell (p := ⟨b, o + k * 8 + 2, none⟩) hb).trans (he 2 _ rfl)
      have e3 : wr.cell? ⟨b, o + k * 8 + 3, none⟩ = some (.int .u64 y.req.a) := (kwr.cell (p := ⟨b, o + k * 8 + 3, none⟩) hb).trans (he 3 _ rfl)
      have e4 : wr.cell? ⟨b, o + k * 8 + 4, none⟩ = some (.int .u64 y.req.b) := (kwr.cell (p := ⟨b, o + k * 8 + 4, none⟩) hb).trans (he 4 _ rfl)
      have e5 : wr.cell? ⟨b, o + k * 8 + 5, none⟩ = some (.int .u64 y.req.c) := (kwr.cell (p := ⟨b, o + k * 8 + 5, none⟩) hb).trans (he 5 _ rfl)
      have e6 : wr.cell? ⟨b, o + k * 8 + 6, none⟩ = some (.int .u64 y.req.d) := (kwr.cell (p := ⟨b, o + k * 8 + 6, none⟩) hb).trans (he 6 _ rfl)
      have e7 : wr.cell? ⟨b, o + k * 8 + 7, none⟩ = some (.int .i64 y.node) := (kwr.cell (p := ⟨b, o + k * 8 + 7, none⟩) hb).trans (he 7 _ rfl)
      have hbw : b < wr.heap.size := by omega
      have HL : Hid (m ≤ 2000000) := by
        have h1 := reqs_len node (l.take k)
        have h2 := HMM.out
        have h3 := List.length_take_le k l
        have h4 := HN.out
        show _ ≤ _
        rw [List.length_take] at h1
        omega
      clear he
      by_cases hy : y.node = node
      · have hd : (y.node == node) = true := by simp [hy]
        have HE := Lib.hid (HXX.out.1 hy)
        have d3 : (wr.alloc (.cells #[.int .i64 y.id, .int .i64 y.load, .int .i64 y.prio, .int .u64 y.req.a, .int .u64 y.req.b, .int .u64 y.req.c, .int .u64 y.req.d, .int .i64 y.node] 55)).cell? ⟨wr.heap.size, 3, none⟩ = some (.int .u64 y.req.a) := by simp
        have d4 : (wr.alloc (.cells #[.int .i64 y.id, .int .i64 y.load, .int .i64 y.prio, .int .u64 y.req.a, .int .u64 y.req.b, .int .u64 y.req.c, .int .u64 y.req.d, .int .i64 y.node] 55)).cell? ⟨wr.heap.size, 4, none⟩ = some (.int .u64 y.req.b) := by simp
        have d5 : (wr.alloc (.cells #[.int .i64 y.id, .int .i64 y.load, .int .i64 y.prio, .int .u64 y.req.a, .int .u64 y.req.b, .int .u64 y.req.c, .int .u64 y.req.d, .int .i64 y.node] 55)).cell? ⟨wr.heap.size, 5, none⟩ = some (.int .u64 y.req.c) := by simp
        have d6 : (wr.alloc (.cells #[.int .i64 y.id, .int .i64 y.load, .int .i64 y.prio, .int .u64 y.req.a, .int .u64 y.req.b, .int .u64 y.req.c, .int .u64 y.req.d, .int .i64 y.node] 55)).cell? ⟨wr.heap.size, 6, none⟩ = some (.int .u64 y.req.d) := by simp
        have d7 : (wr.alloc (.cells #[.int .i64 y.id, .int .i64 y.load, .int .i64 y.prio, .int .u64 y.req.a, .int .u64 y.req.b, .int .u64 y.req.c, .int .u64 y.req.d, .int .i64 y.node] 55)).cell? ⟨wr.heap.size, 7, none⟩ = some (.int .i64 y.node) := by simp
        have hbl : wr.heap.size < (wr.alloc (.cells #[.int .i64 y.id, .int .i64 y.load, .int .i64 y.prio, .int .u64 y.req.a, .int .u64 y.req.b, .int .u64 y.req.c, .int .u64 y.req.d, .int .i64 y.node] 55)).heap.size := by simp
        have HOWN := Lib.hid (HOW.out.alloc (.cells #[.int .i64 y.id, .int .i64 y.load, .int .i64 y.prio, .int .u64 y.req.a, .int .u64 y.req.b, .int .u64 y.req.c, .int .u64 y.req.d, .int .i64 y.node] 55))
        have HBW := Lib.hid (hbr.alloc (by omega) (.cells #[.int .i64 y.id, .int .i64 y.load, .int .i64 y.prio, .int .u64 y.req.a, .int .u64 y.req.b, .int .u64 y.req.c, .int .u64 y.req.d, .int .i64 y.node] 55))
        clear hy
        go_upto_region 6 with fail
        generalize (wr.alloc (.cells #[.int .i64 y.id, .int .i64 y.load, .int .i64 y.prio, .int .u64 y.req.a, .int .u64 y.req.b, .int .u64 y.req.c, .int .u64 y.req.d, .int .i64 y.node] 55)) = W at *
        have HZW : Hid (w.heap.size + 2 ≤ W.heap.size) := by have h1 := hbl; show _ ≤ _; omega
        go_wp2_with (at_builtin; refine wpList_pushR 165 38 (.agg #[.int .u64 0, .int .u64 0, .int .u64 0, .int .u64 0]) 4 32 underVecs infoVec rfl (by decide) (by decide) rfl (.tmp 21) (.tmp 24) rfl (w.heap.size + 2) _ m _ (cellsV y.req) rfl (oneVec _) HOWN.out HZW.out HL.out rfl rfl ?_; intro v' w2 hown2 hb2 hB2)
        have HO2 := Lib.hid (own_reqs HMM.out hown2 HE.out)
        clear hown2
        go_wp2
        go_roundw
        case rel => exact ⟨k + 1, m + 1, by omega, by go_num, HO2.out.2, (by have h := HO2.out.1; exact h), HBW.out.trans hb2⟩
        case measure => simp [intOf]; omega
      · have hd : (y.node == node) = false := by simp [hy]
        have HE := Lib.hid (HXX.out.2 hy)
        clear hy
        go_wp2
        go_roundw
        case rel => exact ⟨k + 1, m, by omega, by go_num, by rw [HE.out]; exact HMM.out, by rw [HE.out]; exact HOW.out.alloc _, hbr.alloc (by omega) _⟩
        case measure => simp [intOf]; omega
    · have htk : l.take k = l := List.take_of_length_le (by have := HN.out; omega)
      have hm' := HMM.out
      have how := HOW.out
      rw [htk] at hm' how
      obtain ⟨A', c', rfl, hc1, hc2, hc3, hrec⟩ := recs_of_own lenVec hm' how
      have HRE := Lib.hid hrec
      have HMM' := Lib.hid hm'
      have HLL : Hid (m ≤ 500) := by
        have h1 := reqs_len node l
        have h4 := HN.out
        have h5 := HMM'.out
        show _ ≤ _
        omega
      have hr4 := HT.out.below hbr (by simp)
      obtain ⟨g0, g1, g2, g3, f0, f1, f2, f3⟩ := hr4
      have hwl : w.heap.size + 1 < wr.heap.size := by omega
      clear how hm' htk hrec
      go_wp2_with fail
      refine (HS.out A' m c' _ HMM'.out HLL.out HRE.out).mono ?_
      rintro e w1 ⟨u, hu, rfl, hb1⟩
      have HU := Lib.hid hu
      clear hu
      have g0 : w1.cell? ⟨w.heap.size + 1, 0, none⟩ = some (.int .u64 0) := (hb1.cell (p := ⟨w.heap.size + 1, 0, none⟩) hwl).trans g0
      have g1 : w1.cell? ⟨w.heap.size + 1, 1, none⟩ = some (.int .u64 0) := (hb1.cell (p := ⟨w.heap.size + 1, 1, none⟩) hwl).trans g1
      have g2 : w1.cell? ⟨w.heap.size + 1, 2, none⟩ = some (.int .u64 0) := (hb1.cell (p := ⟨w.heap.size + 1, 2, none⟩) hwl).trans g2
      have g3 : w1.cell? ⟨w.heap.size + 1, 3, none⟩ = some (.int .u64 0) := (hb1.cell (p := ⟨w.heap.size + 1, 3, none⟩) hwl).trans g3
      have f0 : w1.frozen? ⟨w.heap.size + 1, 0, none⟩ = false := (hb1.frozen (p := ⟨w.heap.size + 1, 0, none⟩) hwl).trans f0
      have f1 : w1.frozen? ⟨w.heap.size + 1, 1, none⟩ = false := (hb1.frozen (p := ⟨w.heap.size + 1, 1, none⟩) hwl).trans f1
      have f2 : w1.frozen? ⟨w.heap.size + 1, 2, none⟩ = false := (hb1.frozen (p := ⟨w.heap.size + 1, 2, none⟩) hwl).trans f2
      have f3 : w1.frozen? ⟨w.heap.size + 1, 3, none⟩ = false := (hb1.frozen (p := ⟨w.heap.size + 1, 3, none⟩) hwl).trans f3
      have kw1 : Below w.heap.size w w1 := kwr.trans (hb1.mono (by omega))
      go_wp2
      refine bodyPost_ret (v := .tuple #[aggV u, e8]) ?_ rfl ?_
      · simp [results, Tryz.results87, go_sem, *]
      · refine ⟨by rw [HU.out], ?_⟩
        repeat (first | with_reducible exact kw1 | with_reducible refine Below.setCell ?_ ?_ _)
        all_goals (show w.heap.size ≤ w.heap.size + 1; omega)
theorem roomUse_some {l : List PodD} {node : Int} {u : V4} (ho : ∀ p ∈ l, p.Ok) (h : useD l node = some u) (A : Option Addr) (n c : Nat) (v1 v2 : Value) (w : World) (hn : n = l.length) (hl : n ≤ 400) (hr : Recs 8 cellsP w w.heap.size A l) :
    Calls Tryz.prog 87 #[.agg #[.slice A n c, v1, v2], .int .i64 node] w fun e w' => e = .returned (.tuple #[aggV u, .nilIface]) ∧ Below w.heap.size w w' :=
  roomUse_walk l node ho A n c v1 v2 (aggV u) .nilIface w hn hl hr fun A' n' c' w' h1 h2 h3 => (vSum_some (reqs_ok ho) h A' n' c' w' h1 h2 h3).mono fun e w'' ⟨he, hb⟩ => ⟨u, rfl, he, hb⟩
theorem roomUse_none {l : List PodD} {node : Int} (ho : ∀ p ∈ l, p.Ok) (h : useD l node = none) (A : Option Addr) (n c : Nat) (v1 v2 : Value) (w : World) (hn : n = l.length) (hl : n ≤ 400) (hr : Recs 8 cellsP w w.heap.size A l) :
    Calls Tryz.prog 87 #[.agg #[.slice A n c, v1, v2], .int .i64 node] w fun e w' => e = .returned (.tuple #[zeroV, .iface 67 (.int .i64 8)]) ∧ Below w.heap.size w w' :=
  roomUse_walk l node ho A n c v1 v2 zeroV _ w hn hl hr fun A' n' c' w' h1 h2 h3 => (vSum_none (reqs_ok ho) h A' n' c' w' h1 h2 h3).mono fun e w'' ⟨he, hb⟩ => ⟨.zer, rfl, he, hb⟩
end Go.Proofs.YtkipfalolfleaaaGreatDoor

namespace Go.Proofs.YtkipfalolfleaaaGreatDoor
set_option linter.unusedSimpArgs false
open Go.RowKit
set_option linter.unusedVariables false

section
variable {V : World}
theorem Bf.cells10 {b : Nat} {x : NodeD} (h : Bf V b (cellsN x)) : (V.cell? ⟨b, 0, none⟩ = some (.int .i64 x.id) ∧ V.cell? ⟨b, 1, none⟩ = some (.int .i64 x.zone) ∧ V.cell? ⟨b, 2, none⟩ = some (.int .u64 x.cap.a) ∧ V.cell? ⟨b, 3, none⟩ = some (.int .u64 x.cap.b) ∧ V.cell? ⟨b, 4, none⟩ = some (.int .u64 x.cap.c) ∧ V.cell? ⟨b, 5, none⟩ = some (.int .u64 x.cap.d)) ∧
    V.cell? ⟨b, 6, none⟩ = some (.int .u64 x.held.a) ∧ V.cell? ⟨b, 7, none⟩ = some (.int .u64 x.held.b) ∧ V.cell? ⟨b, 8, none⟩ = some (.int .u64 x.held.c) ∧ V.cell? ⟨b, 9, none⟩ = some (.int .u64 x.held.d) ∧ b < V.heap.size :=
  ⟨⟨h.cell 0 _ rfl, h.cell 1 _ rfl, h.cell 2 _ rfl, h.cell 3 _ rfl, h.cell 4 _ rfl, h.cell 5 _ rfl⟩, h.cell 6 _ rfl, h.cell 7 _ rfl, h.cell 8 _ rfl, h.cell 9 _ rfl, h.lt⟩
end
theorem rest_ret {p : V4 × Int} {a : Value} {b : Value} (q : V4 × Int) (h : p = q) (ha : a = aggV q.1) (hb : b = codeV q.2) : Ending.returned (.tuple #[a, b]) = .returned (.tuple #[aggV p.1, codeV p.2]) := by subst h ha hb; rfl

set_option maxHeartbeats 6400000 in
set_option maxRecDepth 100000 in
theorem roomRest_any (ns : List NodeD) (l : List PodD) (id : Int) (hno : ∀ x ∈ ns, x.Ok) (hlo : ∀ p ∈ l, p.Ok) (A1 A4 : Option Addr) (n1 c1 n4 c4 : Nat) (s2 s3 v1 v2 : Value) (w : World)
    (hn1 : n1 = ns.length) (hl1 : n1 ≤ 400) (hr1 : Recs 10 cellsN w w.heap.size A1 ns) (hn4 : n4 = l.length) (hl4 : n4 ≤ 400) (hr4 : Recs 8 cellsP w w.heap.size A4 l) :
    Calls Tryz.prog 68 #[.agg #[.slice A1 n1 c1, s2, s3], .agg #[.slice A4 n4 c4, v1, v2], .int .i64 id] w fun e w' => e = .returned (.tuple #[aggV (restD ns l id).1, codeV (restD ns l id).2]) ∧ Below w.heap.size w w' := by
  have HR1 := Lib.hid hr1
  have HR4 := Lib.hid hr4
  have HN1 := Lib.hid hn1
  have HN4 := Lib.hid hn4
  have HNO := Lib.hid hno
  have HLO := Lib.hid hlo
  have T0 := T3.new w [.slice A1 n1 c1, s2, s3] [.slice A4 n4 c4, v1, v2] (cellsV .zer) 26 31 38
  have HF := Lib.hid (fun W (h1 : Recs 10 cellsN W W.heap.size A1 ns) => node_any ns id A1 n1 c1 s2 s3 W hn1 (by omega) h1)
  clear hr1 hr4 hn1 hn4 hno hlo
  go_enter Tryz.func68, Tryz.ntmps68
  go_wp2_with fail
  refine (HF.out _ ((HR1.out.below T0.below (Nat.le_refl _)).more T0.below.size)).mono ?_
  rintro e w1 ⟨hh, hb1⟩
  have T1 := T0.keep hb1
  clear hb1 T0 HF
  obtain ⟨a0, a1, a2, a3⟩ := T1.two.cells3
  obtain ⟨⟨g0, g1, g2, g3⟩, g4⟩ := T1.three.zero4
  obtain ⟨f0, f1, f2, f3⟩ := T1.three.free4
  have hwl1 : w.heap.size + 1 < w1.heap.size := T1.two.lt
  rcases hh with ⟨hp, rfl⟩ | ⟨i, hi, hp, rfl⟩
  · have HE := Lib.hid (rest_none (l := l) (nodeAt_no (k := 0) (Int.le_refl _) hp))
    have kw2 := T1.below
    clear hp T1
    go_wp2
    refine bodyPost_ret (v := .tuple #[zeroV, .iface 67 (.int .i64 4)]) ?_ rfl ?_
    · simp [results, Tryz.results68, go_sem, *]
    · refine ⟨rest_ret _ HE.out rfl rfl, ?_⟩
      repeat (first | with_reducible exact kw2 | with_reducible refine Below.setCell ?_ ?_ _ | with_reducible refine Below.alloc ?_ ?_ _)
      all_goals first | (show w.heap.size ≤ w.heap.size + 2; omega) | (simp; omega) | omega
  · have HP := Lib.hid (nodeAt_yes (k := 0) hi (Int.le_refl _) (by rw [hp]; omega))
    have HX := Lib.hid (HNO.out _ (List.getElem_mem hi))
    generalize hx : ns[i] = x at *
    clear hp hx
    have NB := Bf.new w1 (cellsN x) 49 rfl
    rcases hu : useD l id with _ | u
    · have HC := Lib.hid (fun W (h1 : Recs 8 cellsP W W.heap.size A4 l) => roomUse_none HLO.out hu A4 n4 c4 v1 v2 W HN4.out hl4 h1)
      have HE := Lib.hid (rest_over HP.out hu)
      clear hu NB
      have T1a := T1.alloc (.cells (cellsN x).toArray 49)
      have HRR := Lib.hid ((HR4.out.below T1a.below (Nat.le_refl _)).more T1a.below.size)
      have HT := Lib.hid T1a
      clear T1a T1
      go_wp2_with fail
      refine (HC.out _ HRR.out).mono ?_
      rintro e w2 ⟨rfl, hb2⟩
      have T2 := HT.out.keep hb2
      clear hb2 HT HRR a0 a1 a2 a3 g0 g1 g2 g3 g4 f0 f1 f2 f3 hwl1
      obtain ⟨⟨g0, g1, g2, g3⟩, g4⟩ := T2.three.zero4
      obtain ⟨f0, f1, f2, f3⟩ := T2.three.free4
      have kw2 := T2.below
      clear T2
      go_wp2
      refine bodyPost_ret (v := .tuple #[zeroV, .iface 67 (.int .i64 8)]) ?_ rfl ?_
      · simp [results, Tryz.results68, go_sem, *]
      · refine ⟨rest_ret _ HE.out rfl rfl, ?_⟩
        repeat (first | with_reducible exact kw2 | with_reducible refine Below.setCell ?_ ?_ _ | with_reducible refine Below.alloc ?_ ?_ _)
        all_goals first | (show w.heap.size ≤ w.heap.size + 2; omega) | (simp; omega) | omega
    · have HC := Lib.hid (fun W (h1 : Recs 8 cellsP W W.heap.size A4 l) => roomUse_some HLO.out hu A4 n4 c4 v1 v2 W HN4.out hl4 h1)
      have HUO := Lib.hid (use_ok HLO.out hu)
      have HL : Hid (∀ W, Calls Tryz.prog 88 #[aggN x, aggV u] W fun e w' => e = .returned (.tuple #[aggV (restD ns l id).1, codeV (restD ns l id).2]) ∧ Below W.heap.size W w') := by
        intro W
        rcases hl : leftD x u with _ | r
        · rw [rest_room HP.out hu hl]; exact leftW_none HX.out HUO.out hl W
        · rw [rest_some HP.out hu hl]; exact leftW_some HX.out HUO.out hl W
      generalize hz : (restD ns l id) = z at *
      obtain ⟨r, code⟩ := z
      have HZ := Lib.hid hz
      clear hu hz
      have T1a := T1.alloc (.cells (cellsN x).toArray 49)
      have HRR := Lib.hid ((HR4.out.below T1a.below (Nat.le_refl _)).more T1a.below.size)
      have HT := Lib.hid T1a
      have HNB := Lib.hid NB
      clear T1a T1 NB
      go_wp2_with fail
      refine (HC.out _ HRR.out).mono ?_
      rintro e w2 ⟨rfl, hb2⟩
      have T2 := HT.out.keep hb2
      have N2 := HNB.out.below hb2 HNB.out.lt
      clear hb2 HT HNB HRR a0 a1 a2 a3 g0 g1 g2 g3 g4 f0 f1 f2 f3 hwl1
      obtain ⟨⟨n0, n1', n2, n3, n4', n5⟩, n6, n7, n8, n9, n10⟩ := N2.cells10
      go_wp2_with fail
      refine (HL.out _).mono ?_
      rintro e w3 ⟨rfl, hb3⟩
      have T3' := (T2.alloc _).keep hb3
      clear hb3 T2 N2 n0 n1' n2 n3 n4' n5 n6 n7 n8 n9 n10
      obtain ⟨⟨g0, g1, g2, g3⟩, g4⟩ := T3'.three.zero4
      obtain ⟨f0, f1, f2, f3⟩ := T3'.three.free4
      have kw2 := T3'.below
      clear T3'
      go_wp2
      refine bodyPost_ret (v := .tuple #[aggV r, codeV code]) ?_ rfl ?_
      · simp [results, Tryz.results68, go_sem, *]
      · refine ⟨by rw [HZ.out], ?_⟩
        repeat (first | with_reducible exact kw2 | with_reducible refine Below.setCell ?_ ?_ _ | with_reducible refine Below.alloc ?_ ?_ _)
        all_goals first | (show w.heap.size ≤ w.heap.size + 2; omega) | (simp; omega) | omega
end Go.Proofs.YtkipfalolfleaaaGreatDoor
