/- Joined texts, part 10: VecL VecM WV WL FN FO. -/
import Derived.Test.YtiinnoahopnkcaaGreatDoorZ09
import Derived.Deep.Slices
import Derived.Deep.RegionWith
import Derived.Test.YtiinnoahopnkcaaGreatDoorZ05
import Derived.Test.YtiinnoahopnkcaaGreatDoorZ01
import Derived.Test.YtiinnoahopnkcaaGreatDoorZ08
import Derived.Test.YtiinnoahopnkcaaGreatDoorZ03
import Derived.Test.YtiinnoahopnkcaaGreatDoorZ04

/- Rows of four cells; how amounts lie in a slice; vec.Sum. -/
namespace Go.Proofs.YtiinnoahopnkcaaGreatDoor
set_option linter.unusedSimpArgs false
open Go.RowKit
set_option linter.unusedVariables false

/-- A block whose four cells are known and may be written. -/
structure Row4 (w : World) (b : Nat) (u0 u1 u2 u3 : Value) : Prop where
  c0 : w.cell? ⟨b, 0, none⟩ = some u0
  c1 : w.cell? ⟨b, 1, none⟩ = some u1
  c2 : w.cell? ⟨b, 2, none⟩ = some u2
  c3 : w.cell? ⟨b, 3, none⟩ = some u3
  f0 : w.frozen? ⟨b, 0, none⟩ = false
  f1 : w.frozen? ⟨b, 1, none⟩ = false
  f2 : w.frozen? ⟨b, 2, none⟩ = false
  f3 : w.frozen? ⟨b, 3, none⟩ = false
theorem Row4.below {w w' : World} {b B : Nat} {u0 u1 u2 u3 : Value} (h : Row4 w b u0 u1 u2 u3) (hb : Below B w w') (hB : b < B) : Row4 w' b u0 u1 u2 u3 :=
  ⟨(hb.cell hB).trans h.c0, (hb.cell hB).trans h.c1, (hb.cell hB).trans h.c2, (hb.cell hB).trans h.c3, (hb.frozen hB).trans h.f0, (hb.frozen hB).trans h.f1, (hb.frozen hB).trans h.f2, (hb.frozen hB).trans h.f3⟩
theorem Row4.alloc {w : World} {b : Nat} {u0 u1 u2 u3 : Value} (h : Row4 w b u0 u1 u2 u3) (hB : b < w.heap.size) (o : Obj) : Row4 (w.alloc o) b u0 u1 u2 u3 :=
  h.below (B := w.heap.size) ((Below.refl _ w).alloc (Nat.le_refl _) o) hB
theorem Row4.drewN {w : World} {b : Nat} {u0 u1 u2 u3 : Value} (h : Row4 w b u0 u1 u2 u3) (n : Nat) : Row4 (w.drewN n) b u0 u1 u2 u3 := ⟨h.c0, h.c1, h.c2, h.c3, h.f0, h.f1, h.f2, h.f3⟩
theorem Row4.drew {w : World} {b : Nat} {u0 u1 u2 u3 : Value} (h : Row4 w b u0 u1 u2 u3) : Row4 w.drew b u0 u1 u2 u3 := ⟨h.c0, h.c1, h.c2, h.c3, h.f0, h.f1, h.f2, h.f3⟩
theorem Row4.far {w : World} {b : Nat} {u0 u1 u2 u3 : Value} (h : Row4 w b u0 u1 u2 u3) {p : Addr} (hp : p.block ≠ b) (v : Value) : Row4 (w.setCell p v) b u0 u1 u2 u3 := by
  have hc : ∀ o, (w.setCell p v).cell? ⟨b, o, none⟩ = w.cell? ⟨b, o, none⟩ := fun o => World.cell?_of_block (Below.heap_setCell w p v b (Ne.symm hp))
  have hf : ∀ o, (w.setCell p v).frozen? ⟨b, o, none⟩ = w.frozen? ⟨b, o, none⟩ := fun o => World.frozen?_of_block (Below.heap_setCell w p v b (Ne.symm hp))
  exact ⟨(hc _).trans h.c0, (hc _).trans h.c1, (hc _).trans h.c2, (hc _).trans h.c3, (hf _).trans h.f0, (hf _).trans h.f1, (hf _).trans h.f2, (hf _).trans h.f3⟩
theorem Row4.store {w : World} {b : Nat} {u0 u1 u2 u3 : Value} (h : Row4 w b u0 u1 u2 u3) (v0 v1 v2 v3 : Value) :
    Row4 ((((w.setCell ⟨b, 0, none⟩ v0).setCell ⟨b, 1, none⟩ v1).setCell ⟨b, 2, none⟩ v2).setCell ⟨b, 3, none⟩ v3) b v0 v1 v2 v3 := by
  have n01 : (⟨b, 0, none⟩ : Addr) ≠ ⟨b, 1, none⟩ := by simp
  have n02 : (⟨b, 0, none⟩ : Addr) ≠ ⟨b, 2, none⟩ := by simp
  have n03 : (⟨b, 0, none⟩ : Addr) ≠ ⟨b, 3, none⟩ := by simp
  have n12 : (⟨b, 1, none⟩ : Addr) ≠ ⟨b, 2, none⟩ := by simp
  have n13 : (⟨b, 1, none⟩ : Addr) ≠ ⟨b, 3, none⟩ := by simp
  have n23 : (⟨b, 2, none⟩ : Addr) ≠ ⟨b, 3, none⟩ := by simp
  have hf : ∀ (w : World) (p a : Addr) (v : Value), (w.setCell p v).frozen? a = w.frozen? a := fun w p a v => by simp
  refine ⟨?_, ?_, ?_, ?_, by rw [hf, hf, hf, hf]; exact h.f0, by rw [hf, hf, hf, hf]; exact h.f1, by rw [hf, hf, hf, hf]; exact h.f2, by rw [hf, hf, hf, hf]; exact h.f3⟩
  · rw [World.cell?_setCell_other _ _ _ _ n03.symm, World.cell?_setCell_other _ _ _ _ n02.symm, World.cell?_setCell_other _ _ _ _ n01.symm]
    exact World.cell?_setCell_same _ _ _ h.c0
  · rw [World.cell?_setCell_other _ _ _ _ n13.symm, World.cell?_setCell_other _ _ _ _ n12.symm]
    exact World.cell?_setCell_same _ _ _ ((World.cell?_setCell_other _ _ _ _ n01).trans h.c1)
  · rw [World.cell?_setCell_other _ _ _ _ n23.symm]
    exact World.cell?_setCell_same _ _ _ ((World.cell?_setCell_other _ _ _ _ n12).trans ((World.cell?_setCell_other _ _ _ _ n02).trans h.c2))
  · exact World.cell?_setCell_same _ _ _ ((World.cell?_setCell_other _ _ _ _ n23).trans ((World.cell?_setCell_other _ _ _ _ n13).trans ((World.cell?_setCell_other _ _ _ _ n03).trans h.c3)))

def psum (x : Nat → Int) : Nat → Int
  | 0 => 0
  | k + 1 => psum x k + x k
theorem psum_nonneg {x : Nat → Int} {n : Nat} (h : ∀ i, i < n → 0 ≤ x i) : ∀ k, k ≤ n → 0 ≤ psum x k
  | 0, _ => Int.le_refl _
  | k + 1, hk => by have := psum_nonneg h k (by omega); have := h k (by omega); simp only [psum]; omega
theorem psum_mono {x : Nat → Int} {n : Nat} (h : ∀ i, i < n → 0 ≤ x i) (k : Nat) : ∀ d, k + d ≤ n → psum x k ≤ psum x (k + d)
  | 0, _ => Int.le_refl _
  | d + 1, hk => by have := psum_mono h k d (by omega); have := h (k + d) (by omega); show psum x k ≤ psum x (k + d) + x (k + d); omega

/-- The amounts of a slice: n rows of four numbers from a on. -/
structure VecsAt (w : World) (a : Addr) (n : Nat) (x0 x1 x2 x3 : Nat → Int) : Prop where
  lt : 0 < n → a.block < w.heap.size
  c0 : ∀ i, i < n → w.cell? (a.add (i * 4)) = some (.int .u64 (x0 i))
  c1 : ∀ i, i < n → w.cell? ⟨(a.add (i * 4)).block, (a.add (i * 4)).off + 1, none⟩ = some (.int .u64 (x1 i))
  c2 : ∀ i, i < n → w.cell? ⟨(a.add (i * 4)).block, (a.add (i * 4)).off + 2, none⟩ = some (.int .u64 (x2 i))
  c3 : ∀ i, i < n → w.cell? ⟨(a.add (i * 4)).block, (a.add (i * 4)).off + 3, none⟩ = some (.int .u64 (x3 i))
theorem add_block (a : Addr) (n : Nat) : (a.add n).block = a.block := by unfold Addr.add; split <;> rfl
theorem VecsAt.below {w w' : World} {a : Addr} {n B : Nat} {x0 x1 x2 x3 : Nat → Int} (h : VecsAt w a n x0 x1 x2 x3) (hb : Below B w w') (hB : w.heap.size ≤ B) : VecsAt w' a n x0 x1 x2 x3 :=
  ⟨fun h0 => Nat.lt_of_lt_of_le (h.lt h0) hb.size, fun i hi => (hb.cell (by rw [add_block]; exact Nat.lt_of_lt_of_le (h.lt (by omega)) hB)).trans (h.c0 i hi), fun i hi => (hb.cell (by show (a.add (i * 4)).block < B; rw [add_block]; exact Nat.lt_of_lt_of_le (h.lt (by omega)) hB)).trans (h.c1 i hi), fun i hi => (hb.cell (by show (a.add (i * 4)).block < B; rw [add_block]; exact Nat.lt_of_lt_of_le (h.lt (by omega)) hB)).trans (h.c2 i hi), fun i hi => (hb.cell (by show (a.add (i * 4)).block < B; rw [add_block]; exact Nat.lt_of_lt_of_le (h.lt (by omega)) hB)).trans (h.c3 i hi)⟩

/-- All four sums fit. -/
def Fine (x0 x1 x2 x3 : Nat → Int) (n : Nat) : Prop := psum x0 n < 18446744073709551616 ∧ psum x1 n < 18446744073709551616 ∧ psum x2 n < 18446744073709551616 ∧ psum x3 n < 18446744073709551616
/-- Each number of the n amounts is one of 64 bits. -/
def Nums4 (x0 x1 x2 x3 : Nat → Int) (n : Nat) : Prop := ∀ i, i < n → (0 ≤ x0 i ∧ x0 i < 18446744073709551616) ∧ (0 ≤ x1 i ∧ x1 i < 18446744073709551616) ∧ (0 ≤ x2 i ∧ x2 i < 18446744073709551616) ∧ (0 ≤ x3 i ∧ x3 i < 18446744073709551616)
theorem Fine.le {x0 x1 x2 x3 : Nat → Int} {n k : Nat} (hx : Nums4 x0 x1 x2 x3 n) (h : Fine x0 x1 x2 x3 n) (hk : k ≤ n) : Fine x0 x1 x2 x3 k := by
  have m0 := psum_mono (x := x0) (n := n) (fun i hi => (hx i hi).1.1) k (n - k) (by omega)
  have m1 := psum_mono (x := x1) (n := n) (fun i hi => (hx i hi).2.1.1) k (n - k) (by omega)
  have m2 := psum_mono (x := x2) (n := n) (fun i hi => (hx i hi).2.2.1.1) k (n - k) (by omega)
  have m3 := psum_mono (x := x3) (n := n) (fun i hi => (hx i hi).2.2.2.1) k (n - k) (by omega)
  rw [show k + (n - k) = n by omega] at m0 m1 m2 m3
  unfold Fine at *
  omega
/-- What a sum of all comes to: 'good' with the sums, or 'bad' with zeroes. -/
def SumEnds (x0 x1 x2 x3 : Nat → Int) (n : Nat) (good bad : Value) (e : Ending) : Prop :=
  (Fine x0 x1 x2 x3 n ∧ e = .returned (.tuple #[.agg #[.int .u64 (psum x0 n), .int .u64 (psum x1 n), .int .u64 (psum x2 n), .int .u64 (psum x3 n)], good])) ∨
  (¬ Fine x0 x1 x2 x3 n ∧ e = .returned (.tuple #[.agg #[.int .u64 0, .int .u64 0, .int .u64 0, .int .u64 0], bad]))

set_option maxHeartbeats 1000000 in
theorem vsum_any (A : Option Addr) (a : Addr) (n cap : Nat) (x0 x1 x2 x3 : Nat → Int) (w : World) (hA : 0 < n → A = some a) (hn : n ≤ 500) (hv : VecsAt w a n x0 x1 x2 x3) (hx : Nums4 x0 x1 x2 x3 n) :
    Calls Tryz.prog 135 #[.slice A n cap] w fun e w' => SumEnds x0 x1 x2 x3 n .nilIface (.iface 54 (.int .i64 8)) e ∧ Below w.heap.size w w' := by
  have HA := Lib.hid hA
  clear hA
  go_enter Tryz.func135, Tryz.ntmps135
  go_wp2
  go_loopw [11] (fun i wr => ∃ k : Nat, k ≤ n ∧ i = .int .i64 k ∧ Below w.heap.size w wr ∧ w.heap.size + 1 < wr.heap.size ∧ Fine x0 x1 x2 x3 k ∧
      Row4 wr w.heap.size (.int .u64 0) (.int .u64 0) (.int .u64 0) (.int .u64 0) ∧ Row4 wr (w.heap.size + 1) (.int .u64 (psum x0 k)) (.int .u64 (psum x1 k)) (.int .u64 (psum x2 k)) (.int .u64 (psum x3 k))) (fun i _ => n - (intOf i).toNat)
  case atStart =>
    refine ⟨0, Nat.zero_le _, rfl, ((Below.refl _ w).alloc (Nat.le_refl _) _).alloc (by simp) _, by simp, ?_, ?_, ?_⟩
    · simp [Fine, psum]
    · exact ⟨by simp, by simp, by simp, by simp, by simp, by simp, by simp, by simp⟩
    · exact ⟨by simp [psum], by simp [psum], by simp [psum], by simp [psum], by simp, by simp, by simp, by simp⟩
  case round =>
    obtain ⟨k, hk, rfl, hb, hz, hfine, r0, r1⟩ := hrel
    by_cases hlt : k < n
    · obtain rfl := HA.out (by omega)
      obtain ⟨e0, e1, e2, e3⟩ : wr.cell? (a.add (k * 4)) = some (.int .u64 (x0 k)) ∧ wr.cell? ⟨(a.add (k * 4)).block, (a.add (k * 4)).off + 1, none⟩ = some (.int .u64 (x1 k)) ∧ wr.cell? ⟨(a.add (k * 4)).block, (a.add (k * 4)).off + 2, none⟩ = some (.int .u64 (x2 k)) ∧ wr.cell? ⟨(a.add (k * 4)).block, (a.add (k * 4)).off + 3, none⟩ = some (.int .u64 (x3 k)) := by
        have h := hv.below hb (Nat.le_refl _)
        exact ⟨h.c0 k hlt, h.c1 k hlt, h.c2 k hlt, h.c3 k hlt⟩
      have t0 := r1.c0
      have t1 := r1.c1
      have t2 := r1.c2
      have t3 := r1.c3
      have hz0 : w.heap.size < wr.heap.size := by omega
      obtain ⟨⟨y0, z0⟩, ⟨y1, z1⟩, ⟨y2, z2⟩, ⟨y3, z3⟩⟩ := hx k hlt
      have p0 := psum_nonneg (x := x0) (n := n) (fun i hi => (hx i hi).1.1) k hk
      have p1 := psum_nonneg (x := x1) (n := n) (fun i hi => (hx i hi).2.1.1) k hk
      have p2 := psum_nonneg (x := x2) (n := n) (fun i hi => (hx i hi).2.2.1.1) k hk
      have p3 := psum_nonneg (x := x3) (n := n) (fun i hi => (hx i hi).2.2.2.1) k hk
      obtain ⟨m0, m1, m2, m3⟩ : psum x0 k < 18446744073709551616 ∧ psum x1 k < 18446744073709551616 ∧ psum x2 k < 18446744073709551616 ∧ psum x3 k < 18446744073709551616 := id hfine
      by_cases hf : Fine x0 x1 x2 x3 (k + 1)
      · obtain ⟨n0, n1, n2, n3⟩ : psum x0 k + x0 k < 18446744073709551616 ∧ psum x1 k + x1 k < 18446744073709551616 ∧ psum x2 k + x2 k < 18446744073709551616 ∧ psum x3 k + x3 k < 18446744073709551616 := id hf
        go_wp2_with fail
        refine (add_ok _ _ _ _ _ _ _ _ p0 p1 p2 p3 y0 y1 y2 y3 m0 m1 m2 m3 z0 z1 z2 z3 n0 n1 n2 n3 _).mono ?_
        rintro e w1 ⟨rfl, hb1⟩
        have hs1 := hb1.size
        have hzz : w.heap.size + 1 < w1.heap.size := by simp at hs1; omega
        have q1 := (r1.alloc hz (.cells #[.int .u64 (x0 k), .int .u64 (x1 k), .int .u64 (x2 k), .int .u64 (x3 k)] 51)).below hb1 (by simp; omega)
        have q0 := (r0.alloc hz0 (.cells #[.int .u64 (x0 k), .int .u64 (x1 k), .int .u64 (x2 k), .int .u64 (x3 k)] 51)).below hb1 (by simp; omega)
        obtain ⟨g0, g1, g2, g3, v0, v1, v2, v3⟩ := q1
        have q1 : Row4 w1 (w.heap.size + 1) (.int .u64 (psum x0 k)) (.int .u64 (psum x1 k)) (.int .u64 (psum x2 k)) (.int .u64 (psum x3 k)) := ⟨g0, g1, g2, g3, v0, v1, v2, v3⟩
        go_wp2
        go_roundw
        case rel =>
          refine ⟨k + 1, by omega, by go_num, ?_, ?_, hf, ?_, ?_⟩
          · have k1 : Below w.heap.size w w1 := (hb.alloc (by omega) _).trans (hb1.mono (by simp; omega))
            repeat (first | with_reducible exact k1 | with_reducible refine Below.setCell ?_ ?_ _ | with_reducible refine Below.alloc ?_ ?_ _)
            all_goals first | (simp; done) | (simp; omega) | omega
          · simp; omega
          · repeat (first | with_reducible exact q0 | with_reducible refine Row4.far ?_ ?_ _ | with_reducible refine Row4.alloc ?_ ?_ _)
            all_goals first | (simp; done) | (simp; omega) | omega
          · refine Row4.alloc (Row4.store q1 _ _ _ _) ?_ _
            simp; omega
        case measure => simp [intOf]; omega
      · go_wp2_with fail
        refine (add_over _ _ _ _ _ _ _ _ p0 p1 p2 p3 y0 y1 y2 y3 m0 m1 m2 m3 z0 z1 z2 z3 hf _).mono ?_
        rintro e w1 ⟨rfl, hb1⟩
        have hs1 := hb1.size
        have hzz : w.heap.size + 1 < w1.heap.size := by simp at hs1; omega
        have hzy : w.heap.size < w1.heap.size := by omega
        obtain ⟨g0, g1, g2, g3, v0, v1, v2, v3⟩ := (r0.alloc hz0 (.cells #[.int .u64 (x0 k), .int .u64 (x1 k), .int .u64 (x2 k), .int .u64 (x3 k)] 51)).below hb1 (by simp; omega)
        obtain ⟨l0, l1, l2, l3, _, _, _, _⟩ := Row4.alloc (Row4.store ⟨g0, g1, g2, g3, v0, v1, v2, v3⟩ (.int .u64 0) (.int .u64 0) (.int .u64 0) (.int .u64 0)) (by simp; omega) (.cells #[.int .u64 0, .int .u64 0, .int .u64 0, .int .u64 0] 51)
        go_wp2
        refine bodyPost_ret (v := .tuple #[.agg #[.int .u64 0, .int .u64 0, .int .u64 0, .int .u64 0], .iface 54 (.int .i64 8)]) ?_ rfl ?_
        · simp [results, Tryz.results135, go_sem, l0, l1, l2, l3]
        · refine ⟨.inr ⟨fun h => hf (h.le hx (by omega)), rfl⟩, ?_⟩
          have k1 : Below w.heap.size w w1 := (hb.alloc (by omega) _).trans (hb1.mono (by simp; omega))
          repeat (first | with_reducible exact k1 | with_reducible refine Below.setCell ?_ ?_ _ | with_reducible refine Below.alloc ?_ ?_ _)
          all_goals first | (simp; done) | (simp; omega) | omega
    · obtain rfl : n = k := by omega
      obtain ⟨t0, t1, t2, t3, _, _, _, _⟩ := r1
      obtain ⟨g0, g1, g2, g3, v0, v1, v2, v3⟩ := r0
      go_wp2
      refine bodyPost_ret (v := .tuple #[.agg #[.int .u64 (psum x0 n), .int .u64 (psum x1 n), .int .u64 (psum x2 n), .int .u64 (psum x3 n)], .nilIface]) ?_ rfl ?_
      · simp [results, Tryz.results135, go_sem, g0, g1, g2, g3]
      · refine ⟨.inl ⟨hfine, rfl⟩, ?_⟩
        repeat (first | with_reducible exact hb | with_reducible refine Below.setCell ?_ ?_ _ | with_reducible refine Below.alloc ?_ ?_ _)
        all_goals first | (simp; done) | (simp; omega) | omega
end Go.Proofs.YtiinnoahopnkcaaGreatDoor

/- The reference's Sum. -/
namespace Go.Proofs.YtiinnoahopnkcaaGreatDoor
set_option linter.unusedSimpArgs false
open Go.RowKit
set_option linter.unusedVariables false

def RSumRel (w : World) (n : Nat) (x0 x1 x2 x3 : Nat → Int) (ok i : Value) (wr : World) : Prop :=
  ∃ k : Nat, k ≤ n ∧ i = .int .i64 k ∧ Below w.heap.size w wr ∧ w.heap.size + 1 < wr.heap.size ∧ Row4 wr w.heap.size (.int .u64 0) (.int .u64 0) (.int .u64 0) (.int .u64 0) ∧
    ((ok = .bool true ∧ Fine x0 x1 x2 x3 k ∧ Row4 wr (w.heap.size + 1) (.int .u64 (psum x0 k)) (.int .u64 (psum x1 k)) (.int .u64 (psum x2 k)) (.int .u64 (psum x3 k))) ∨
     (ok = .bool false ∧ ¬ Fine x0 x1 x2 x3 n ∧ Row4 wr (w.heap.size + 1) (.int .u64 0) (.int .u64 0) (.int .u64 0) (.int .u64 0)))

set_option maxHeartbeats 1000000 in
theorem rsum_any (A : Option Addr) (a : Addr) (n cap : Nat) (x0 x1 x2 x3 : Nat → Int) (w : World) (hA : 0 < n → A = some a) (hn : n ≤ 500) (hv : VecsAt w a n x0 x1 x2 x3) (hx : Nums4 x0 x1 x2 x3 n) :
    Calls Tryz.prog 125 #[.slice A n cap] w fun e w' => SumEnds x0 x1 x2 x3 n (.bool true) (.bool false) e ∧ Below w.heap.size w w' := by
  have HA := Lib.hid hA
  clear hA
  go_enter Tryz.func125, Tryz.ntmps125
  go_wp2
  go_loopw [5, 6] (fun ok i wr => RSumRel w n x0 x1 x2 x3 ok i wr) (fun _ i _ => n - (intOf i).toNat)
  case atStart =>
    refine ⟨0, Nat.zero_le _, rfl, ((Below.refl _ w).alloc (Nat.le_refl _) _).alloc (by simp) _, by simp, ?_, .inl ⟨rfl, ?_, ?_⟩⟩
    · exact ⟨by simp, by simp, by simp, by simp, by simp, by simp, by simp, by simp⟩
    · simp [Fine, psum]
    · exact ⟨by simp [psum], by simp [psum], by simp [psum], by simp [psum], by simp, by simp, by simp, by simp⟩
  case round =>
    obtain ⟨k, hk, rfl, hb, hz, r0, ⟨rfl, hfine, r1⟩ | ⟨rfl, hbad, r1⟩⟩ := hrel
    · by_cases hlt : k < n
      · obtain rfl := HA.out (by omega)
        obtain ⟨e0, e1, e2, e3⟩ : wr.cell? (a.add (k * 4)) = some (.int .u64 (x0 k)) ∧ wr.cell? ⟨(a.add (k * 4)).block, (a.add (k * 4)).off + 1, none⟩ = some (.int .u64 (x1 k)) ∧ wr.cell? ⟨(a.add (k * 4)).block, (a.add (k * 4)).off + 2, none⟩ = some (.int .u64 (x2 k)) ∧ wr.cell? ⟨(a.add (k * 4)).block, (a.add (k * 4)).off + 3, none⟩ = some (.int .u64 (x3 k)) := by
          have h := hv.below hb (Nat.le_refl _)
          exact ⟨h.c0 k hlt, h.c1 k hlt, h.c2 k hlt, h.c3 k hlt⟩
        obtain ⟨t0, t1, t2, t3, v0, v1, v2, v3⟩ := r1
        have hz0 : w.heap.size < wr.heap.size := by omega
        obtain ⟨⟨y0, z0⟩, ⟨y1, z1⟩, ⟨y2, z2⟩, ⟨y3, z3⟩⟩ := hx k hlt
        have p0 := psum_nonneg (x := x0) (n := n) (fun i hi => (hx i hi).1.1) k hk
        have p1 := psum_nonneg (x := x1) (n := n) (fun i hi => (hx i hi).2.1.1) k hk
        have p2 := psum_nonneg (x := x2) (n := n) (fun i hi => (hx i hi).2.2.1.1) k hk
        have p3 := psum_nonneg (x := x3) (n := n) (fun i hi => (hx i hi).2.2.2.1) k hk
        obtain ⟨m0, m1, m2, m3⟩ : psum x0 k < 18446744073709551616 ∧ psum x1 k < 18446744073709551616 ∧ psum x2 k < 18446744073709551616 ∧ psum x3 k < 18446744073709551616 := id hfine
        by_cases hf : Fine x0 x1 x2 x3 (k + 1)
        · obtain ⟨n0, n1, n2, n3⟩ : psum x0 k + x0 k < 18446744073709551616 ∧ psum x1 k + x1 k < 18446744073709551616 ∧ psum x2 k + x2 k < 18446744073709551616 ∧ psum x3 k + x3 k < 18446744073709551616 := id hf
          go_wp2
          go_region_with (go_at_call 134; refine (radd_ok _ _ _ _ _ _ _ _ p0 p1 p2 p3 y0 y1 y2 y3 m0 m1 m2 m3 z0 z1 z2 z3 n0 n1 n2 n3 _).mono ?_; rintro e w1 ⟨rfl, hb1⟩; have hs1 := hb1.size; have hzz : w.heap.size + 1 < w1.heap.size := Nat.lt_of_lt_of_le hz hs1; obtain ⟨g0, g1, g2, g3, h0, h1, h2, h3⟩ := (Row4.drew ⟨t0, t1, t2, t3, v0, v1, v2, v3⟩).below hb1 hz)
          all_goals
            go_wp2
            go_roundw
            case rel =>
              refine ⟨k + 1, by omega, by go_num, ?_, ?_, ?_, .inl ⟨rfl, hf, ?_⟩⟩
              · have k1 : Below w.heap.size w w1 := (Below.drew hb).trans (hb1.mono (by show w.heap.size ≤ wr.heap.size; omega))
                repeat (first | with_reducible exact k1 | with_reducible refine Below.setCell ?_ ?_ _ | with_reducible refine below_drewN ?_ _ | with_reducible refine Below.drew ?_ | with_reducible refine Below.alloc ?_ ?_ _)
                all_goals first | (simp; done) | (simp; omega) | omega
              · simp; omega
              · have q0 := (Row4.drew r0).below hb1 hz0
                repeat (first | with_reducible exact q0 | with_reducible refine Row4.far ?_ ?_ _ | with_reducible refine Row4.alloc ?_ ?_ _)
                all_goals first | (simp; done) | (simp; omega) | omega
              · exact Row4.store ⟨g0, g1, g2, g3, h0, h1, h2, h3⟩ _ _ _ _
            case measure => simp [intOf]; omega
        · go_wp2
          go_region_with (go_at_call 134; refine (radd_over _ _ _ _ _ _ _ _ p0 p1 p2 p3 y0 y1 y2 y3 m0 m1 m2 m3 z0 z1 z2 z3 hf _).mono ?_; rintro e w1 ⟨rfl, hb1⟩; have hs1 := hb1.size; have hzz : w.heap.size + 1 < w1.heap.size := Nat.lt_of_lt_of_le hz hs1; obtain ⟨g0, g1, g2, g3, h0, h1, h2, h3⟩ := (Row4.drew ⟨t0, t1, t2, t3, v0, v1, v2, v3⟩).below hb1 hz)
          all_goals
            go_wp2
            go_roundw
            case rel =>
              refine ⟨k + 1, by omega, by go_num, ?_, ?_, ?_, .inr ⟨rfl, fun h => hf (h.le hx (by omega)), ?_⟩⟩
              · have k1 : Below w.heap.size w w1 := (Below.drew hb).trans (hb1.mono (by show w.heap.size ≤ wr.heap.size; omega))
                repeat (first | with_reducible exact k1 | with_reducible refine Below.setCell ?_ ?_ _ | with_reducible refine below_drewN ?_ _ | with_reducible refine Below.drew ?_ | with_reducible refine Below.alloc ?_ ?_ _)
                all_goals first | (simp; done) | (simp; omega) | omega
              · simp; omega
              · have q0 := (Row4.drew r0).below hb1 hz0
                repeat (first | with_reducible exact q0 | with_reducible refine Row4.far ?_ ?_ _ | with_reducible refine Row4.alloc ?_ ?_ _)
                all_goals first | (simp; done) | (simp; omega) | omega
              · exact Row4.store ⟨g0, g1, g2, g3, h0, h1, h2, h3⟩ _ _ _ _
            case measure => simp [intOf]; omega
      · obtain rfl : n = k := by omega
        obtain ⟨t0, t1, t2, t3, _, _, _, _⟩ := r1
        obtain ⟨g0, g1, g2, g3, v0, v1, v2, v3⟩ := r0
        go_wp2
        refine bodyPost_ret (v := .tuple #[.agg #[.int .u64 (psum x0 n), .int .u64 (psum x1 n), .int .u64 (psum x2 n), .int .u64 (psum x3 n)], .bool true]) ?_ rfl ?_
        · simp [results, Tryz.results125, go_sem, g0, g1, g2, g3]
        · refine ⟨.inl ⟨hfine, rfl⟩, ?_⟩
          repeat (first | with_reducible exact hb | with_reducible refine Below.setCell ?_ ?_ _ | with_reducible refine Below.alloc ?_ ?_ _)
          all_goals first | (simp; done) | (simp; omega) | omega
    · obtain ⟨t0, t1, t2, t3, _, _, _, _⟩ := r1
      obtain ⟨g0, g1, g2, g3, v0, v1, v2, v3⟩ := r0
      by_cases hlt : k < n
      all_goals
        go_wp2
        refine bodyPost_ret (v := .tuple #[.agg #[.int .u64 0, .int .u64 0, .int .u64 0, .int .u64 0], .bool false]) ?_ rfl ?_
        · simp [results, Tryz.results125, go_sem, g0, g1, g2, g3]
        · refine ⟨.inr ⟨hbad, rfl⟩, ?_⟩
          repeat (first | with_reducible exact hb | with_reducible refine Below.setCell ?_ ?_ _ | with_reducible refine Below.alloc ?_ ?_ _)
          all_goals first | (simp; done) | (simp; omega) | omega
end Go.Proofs.YtiinnoahopnkcaaGreatDoor

/- Sums and differences of amounts, the program's and the reference's, as contracts over amounts. -/
namespace Go.Proofs.YtiinnoahopnkcaaGreatDoor
set_option linter.unusedSimpArgs false
open Go.RowKit
set_option linter.unusedVariables false

abbrev zeroV : Value := .agg #[.int .u64 0, .int .u64 0, .int .u64 0, .int .u64 0]
theorem add_none4 {x y : V4} (h : addV x y = none) : ¬ (x.a + y.a < 18446744073709551616 ∧ x.b + y.b < 18446744073709551616 ∧ x.c + y.c < 18446744073709551616 ∧ x.d + y.d < 18446744073709551616) := by
  unfold addV at h
  split at h
  · cases h
  · rename_i hs
    simp only [V4.small, V4.add] at hs
    exact fun h => hs (decide_eq_true h)
theorem sub_none4 {x y : V4} (h : subV x y = none) : ¬ (y.a ≤ x.a ∧ y.b ≤ x.b ∧ y.c ≤ x.c ∧ y.d ≤ x.d) := by
  unfold subV at h
  split at h
  · cases h
  · rename_i hs
    simp only [V4.le] at hs
    exact fun h => hs (decide_eq_true h)
theorem vAdd_some {x y z : V4} (hx : x.Ok) (hy : y.Ok) (h : addV x y = some z) (w : World) :
    Calls Tryz.prog 142 #[aggV x, aggV y] w fun e w' => e = .returned (.tuple #[aggV z, .nilIface]) ∧ Below w.heap.size w w' := by
  obtain ⟨rfl, hs⟩ := add_small h
  simp only [V4.small, V4.add] at hs
  obtain ⟨h0, h1, h2, h3⟩ := of_decide_eq_true hs
  obtain ⟨⟨p0, m0⟩, ⟨p1, m1⟩, ⟨p2, m2⟩, ⟨p3, m3⟩⟩ := hx
  obtain ⟨⟨q0, n0⟩, ⟨q1, n1⟩, ⟨q2, n2⟩, ⟨q3, n3⟩⟩ := hy
  exact add_ok _ _ _ _ _ _ _ _ p0 p1 p2 p3 q0 q1 q2 q3 m0 m1 m2 m3 n0 n1 n2 n3 h0 h1 h2 h3 w
theorem vAdd_none {x y : V4} (hx : x.Ok) (hy : y.Ok) (h : addV x y = none) (w : World) :
    Calls Tryz.prog 142 #[aggV x, aggV y] w fun e w' => e = .returned (.tuple #[zeroV, .iface 54 (.int .i64 8)]) ∧ Below w.heap.size w w' := by
  obtain ⟨⟨p0, m0⟩, ⟨p1, m1⟩, ⟨p2, m2⟩, ⟨p3, m3⟩⟩ := hx
  obtain ⟨⟨q0, n0⟩, ⟨q1, n1⟩, ⟨q2, n2⟩, ⟨q3, n3⟩⟩ := hy
  exact add_over _ _ _ _ _ _ _ _ p0 p1 p2 p3 q0 q1 q2 q3 m0 m1 m2 m3 n0 n1 n2 n3 (add_none4 h) w
theorem vSub_some {x y z : V4} (hx : x.Ok) (hy : y.Ok) (h : subV x y = some z) (w : World) :
    Calls Tryz.prog 136 #[aggV x, aggV y] w fun e w' => e = .returned (.tuple #[aggV z, .nilIface]) ∧ Below w.heap.size w w' := by
  obtain ⟨rfl, hs⟩ := sub_le h
  simp only [V4.le] at hs
  obtain ⟨h0, h1, h2, h3⟩ := of_decide_eq_true hs
  obtain ⟨⟨p0, m0⟩, ⟨p1, m1⟩, ⟨p2, m2⟩, ⟨p3, m3⟩⟩ := hx
  obtain ⟨⟨q0, n0⟩, ⟨q1, n1⟩, ⟨q2, n2⟩, ⟨q3, n3⟩⟩ := hy
  exact sub_ok _ _ _ _ _ _ _ _ p0 p1 p2 p3 q0 q1 q2 q3 m0 m1 m2 m3 n0 n1 n2 n3 h0 h1 h2 h3 w
theorem vSub_none {x y : V4} (hx : x.Ok) (hy : y.Ok) (h : subV x y = none) (w : World) :
    Calls Tryz.prog 136 #[aggV x, aggV y] w fun e w' => e = .returned (.tuple #[zeroV, .iface 54 (.int .i64 8)]) ∧ Below w.heap.size w w' := by
  obtain ⟨⟨p0, m0⟩, ⟨p1, m1⟩, ⟨p2, m2⟩, ⟨p3, m3⟩⟩ := hx
  obtain ⟨⟨q0, n0⟩, ⟨q1, n1⟩, ⟨q2, n2⟩, ⟨q3, n3⟩⟩ := hy
  exact sub_over _ _ _ _ _ _ _ _ p0 p1 p2 p3 q0 q1 q2 q3 m0 m1 m2 m3 n0 n1 n2 n3 (sub_none4 h) w

/-- The reference's Sub. -/
theorem rSub_some {x y z : V4} (hx : x.Ok) (hy : y.Ok) (h : subV x y = some z) (w : World) :
    Calls Tryz.prog 106 #[aggV x, aggV y] w fun e w' => e = .returned (.tuple #[aggV z, .bool true]) ∧ Below w.heap.size w w' := by
  obtain ⟨rfl, hs⟩ := sub_le h
  have hs' := hs
  simp only [V4.le] at hs
  obtain ⟨h0, h1, h2, h3⟩ := of_decide_eq_true hs
  obtain ⟨⟨p0, m0⟩, ⟨p1, m1⟩, ⟨p2, m2⟩, ⟨p3, m3⟩⟩ := hx
  obtain ⟨⟨q0, n0⟩, ⟨q1, n1⟩, ⟨q2, n2⟩, ⟨q3, n3⟩⟩ := hy
  obtain ⟨x0, x1, x2, x3⟩ := x
  obtain ⟨y0, y1, y2, y3⟩ := y
  have HF := fun w => (rFits_any ⟨y0, y1, y2, y3⟩ ⟨x0, x1, x2, x3⟩ w)
  rw [hs'] at HF
  simp only [V4.sub] at *
  clear hs hs' h
  have HQ := Lib.hid HF
  clear HF
  go_enter Tryz.func106, Tryz.ntmps106
  go_wp2_with fail
  refine (HQ.out _).mono ?_
  rintro e w1 ⟨rfl, hb1⟩
  have hs1 := hb1.size
  obtain ⟨hc1, hf1⟩ := bcell hb1
  have hz1 : w.heap.size + 1 + 1 < w1.heap.size := by simp at hs1; omega
  go_wp2
  have k1 : Below w.heap.size w w1 := ((((Below.refl _ w).alloc (Nat.le_refl _) _).alloc (by simp) _).alloc (by simp; omega) _).trans (hb1.mono (by simp; omega))
  refine bodyPost_ret (v := .tuple #[.agg #[.int .u64 (x0 - y0), .int .u64 (x1 - y1), .int .u64 (x2 - y2), .int .u64 (x3 - y3)], .bool true]) ?_ rfl ?_
  · simp [results, Tryz.results106, go_sem, hc1]
  · refine ⟨rfl, ?_⟩
    repeat (first | with_reducible exact k1 | with_reducible refine Below.setCell ?_ ?_ _ | with_reducible refine below_drewN ?_ _ | with_reducible refine Below.alloc ?_ ?_ _)
    all_goals first | (simp; done) | (simp; omega)
theorem rSub_none {x y : V4} (h : subV x y = none) (w : World) :
    Calls Tryz.prog 106 #[aggV x, aggV y] w fun e w' => e = .returned (.tuple #[zeroV, .bool false]) ∧ Below w.heap.size w w' := by
  have hs' : y.le x = false := by
    have := sub_none4 h
    rw [V4.le, decide_eq_false this]
  have HF := fun w => (rFits_any y x w)
  rw [hs'] at HF
  have HQ := Lib.hid HF
  clear HF h hs'
  go_enter Tryz.func106, Tryz.ntmps106
  go_wp2_with fail
  refine (HQ.out _).mono ?_
  rintro e w1 ⟨rfl, hb1⟩
  have hs1 := hb1.size
  obtain ⟨hc1, hf1⟩ := bcell hb1
  have hz1 : w.heap.size + 1 + 1 < w1.heap.size := by simp at hs1; omega
  go_wp2
  have k1 : Below w.heap.size w w1 := ((((Below.refl _ w).alloc (Nat.le_refl _) _).alloc (by simp) _).alloc (by simp; omega) _).trans (hb1.mono (by simp; omega))
  refine bodyPost_ret (v := .tuple #[.agg #[.int .u64 0, .int .u64 0, .int .u64 0, .int .u64 0], .bool false]) ?_ rfl ?_
  · simp [results, Tryz.results106, go_sem, hc1]
  · refine ⟨rfl, ?_⟩
    repeat (first | with_reducible exact k1 | with_reducible refine Below.setCell ?_ ?_ _ | with_reducible refine below_drewN ?_ _ | with_reducible refine Below.alloc ?_ ?_ _)
    all_goals first | (simp; done) | (simp; omega)

/-! Sums of a list of amounts. -/
def atV (l : List V4) (i : Nat) : V4 := (l[i]?).getD .zer
theorem atV_of {l : List V4} {i : Nat} (h : i < l.length) : atV l i = l[i] := by simp [atV, List.getElem?_eq_getElem h]
theorem psum_tot (l : List V4) : ∀ k, k ≤ l.length → psum (fun i => (atV l i).a) k = (totV (l.take k)).a ∧ psum (fun i => (atV l i).b) k = (totV (l.take k)).b ∧ psum (fun i => (atV l i).c) k = (totV (l.take k)).c ∧ psum (fun i => (atV l i).d) k = (totV (l.take k)).d
  | 0, _ => by simp [psum, totV, V4.zer]
  | k + 1, h => by
    obtain ⟨h0, h1, h2, h3⟩ := psum_tot l k (by omega)
    rw [List.take_succ_eq_append_getElem (by omega), tot_append]
    simp only [psum, h0, h1, h2, h3, atV_of (show k < l.length by omega)]
    simp [V4.add, totV, V4.zer]
theorem vecs_at {l : List V4} {w : World} {b o : Nat} (hb : b < w.heap.size) (h : ∀ i (h : i < l.length) j u, (cellsV l[i])[j]? = some u → w.cell? ⟨b, o + i * 4 + j, none⟩ = some u) :
    VecsAt w ⟨b, o, none⟩ l.length (fun i => (atV l i).a) (fun i => (atV l i).b) (fun i => (atV l i).c) (fun i => (atV l i).d) := by
  refine ⟨fun _ => hb, fun i hi => ?_, fun i hi => ?_, fun i hi => ?_, fun i hi => ?_⟩
  all_goals
    rw [Addr.add_lit]
    simp only [atV_of hi]
  · exact h i hi 0 _ rfl
  · exact h i hi 1 _ rfl
  · exact h i hi 2 _ rfl
  · exact h i hi 3 _ rfl
theorem nums_at {l : List V4} (ho : ∀ x ∈ l, x.Ok) : Nums4 (fun i => (atV l i).a) (fun i => (atV l i).b) (fun i => (atV l i).c) (fun i => (atV l i).d) l.length := by
  intro i hi
  simp only [atV_of hi]
  exact ho _ (List.getElem_mem hi)
theorem recs_vecs {l : List V4} {A : Option Addr} {w : World} {B : Nat} (hB : B ≤ w.heap.size) (hr : Recs 4 cellsV w B A l) : ∃ a, (0 < l.length → A = some a) ∧ VecsAt w a l.length (fun i => (atV l i).a) (fun i => (atV l i).b) (fun i => (atV l i).c) (fun i => (atV l i).d) := by
  rcases hr with rfl | ⟨b, o, rfl, hb, h⟩
  · exact ⟨⟨0, 0, none⟩, fun h => by simp at h, ⟨fun h => by simp at h, fun i hi => by simp at hi, fun i hi => by simp at hi, fun i hi => by simp at hi, fun i hi => by simp at hi⟩⟩
  · exact ⟨_, fun _ => rfl, vecs_at (by omega) h⟩
theorem sum_ends {l : List V4} {good bad : Value} {e : Ending} (h : SumEnds (fun i => (atV l i).a) (fun i => (atV l i).b) (fun i => (atV l i).c) (fun i => (atV l i).d) l.length good bad e) :
    (∃ u, sumV l = some u ∧ e = .returned (.tuple #[aggV u, good])) ∨ (sumV l = none ∧ e = .returned (.tuple #[zeroV, bad])) := by
  obtain ⟨h0, h1, h2, h3⟩ := psum_tot l l.length (Nat.le_refl _)
  rw [List.take_of_length_le (Nat.le_refl _)] at h0 h1 h2 h3
  unfold SumEnds Fine at h
  rw [h0, h1, h2, h3] at h
  rcases h with ⟨hf, rfl⟩ | ⟨hf, rfl⟩
  · refine .inl ⟨totV l, ?_, rfl⟩
    unfold sumV
    rw [if_pos (show (totV l).small = true from decide_eq_true hf)]
  · refine .inr ⟨?_, rfl⟩
    unfold sumV
    rw [if_neg]
    intro h
    exact hf (of_decide_eq_true h)
theorem vSum_some {l : List V4} {u : V4} (ho : ∀ x ∈ l, x.Ok) (h : sumV l = some u) (A : Option Addr) (n c : Nat) (w : World) (hn : n = l.length) (hl : n ≤ 500) (hr : Recs 4 cellsV w w.heap.size A l) :
    Calls Tryz.prog 135 #[.slice A n c] w fun e w' => e = .returned (.tuple #[aggV u, .nilIface]) ∧ Below w.heap.size w w' := by
  subst hn
  obtain ⟨a, hA, hv⟩ := recs_vecs (Nat.le_refl _) hr
  refine (vsum_any A a l.length c _ _ _ _ w hA hl hv (nums_at ho)).mono ?_
  rintro e w1 ⟨he, hb⟩
  rcases sum_ends he with ⟨u', h', rfl⟩ | ⟨h', _⟩
  · obtain rfl := Option.some.inj (h.symm.trans h'); exact ⟨rfl, hb⟩
  · rw [h] at h'; cases h'
theorem vSum_none {l : List V4} (ho : ∀ x ∈ l, x.Ok) (h : sumV l = none) (A : Option Addr) (n c : Nat) (w : World) (hn : n = l.length) (hl : n ≤ 500) (hr : Recs 4 cellsV w w.heap.size A l) :
    Calls Tryz.prog 135 #[.slice A n c] w fun e w' => e = .returned (.tuple #[zeroV, .iface 54 (.int .i64 8)]) ∧ Below w.heap.size w w' := by
  subst hn
  obtain ⟨a, hA, hv⟩ := recs_vecs (Nat.le_refl _) hr
  refine (vsum_any A a l.length c _ _ _ _ w hA hl hv (nums_at ho)).mono ?_
  rintro e w1 ⟨he, hb⟩
  rcases sum_ends he with ⟨u', h', rfl⟩ | ⟨_, rfl⟩
  · rw [h] at h'; cases h'
  · exact ⟨rfl, hb⟩
theorem rSum_some {l : List V4} {u : V4} (ho : ∀ x ∈ l, x.Ok) (h : sumV l = some u) (A : Option Addr) (n c : Nat) (w : World) (hn : n = l.length) (hl : n ≤ 500) (hr : Recs 4 cellsV w w.heap.size A l) :
    Calls Tryz.prog 125 #[.slice A n c] w fun e w' => e = .returned (.tuple #[aggV u, .bool true]) ∧ Below w.heap.size w w' := by
  subst hn
  obtain ⟨a, hA, hv⟩ := recs_vecs (Nat.le_refl _) hr
  refine (rsum_any A a l.length c _ _ _ _ w hA hl hv (nums_at ho)).mono ?_
  rintro e w1 ⟨he, hb⟩
  rcases sum_ends he with ⟨u', h', rfl⟩ | ⟨h', _⟩
  · obtain rfl := Option.some.inj (h.symm.trans h'); exact ⟨rfl, hb⟩
  · rw [h] at h'; cases h'
theorem rSum_none {l : List V4} (ho : ∀ x ∈ l, x.Ok) (h : sumV l = none) (A : Option Addr) (n c : Nat) (w : World) (hn : n = l.length) (hl : n ≤ 500) (hr : Recs 4 cellsV w w.heap.size A l) :
    Calls Tryz.prog 125 #[.slice A n c] w fun e w' => e = .returned (.tuple #[zeroV, .bool false]) ∧ Below w.heap.size w w' := by
  subst hn
  obtain ⟨a, hA, hv⟩ := recs_vecs (Nat.le_refl _) hr
  refine (rsum_any A a l.length c _ _ _ _ w hA hl hv (nums_at ho)).mono ?_
  rintro e w1 ⟨he, hb⟩
  rcases sum_ends he with ⟨u', h', rfl⟩ | ⟨_, rfl⟩
  · rw [h] at h'; cases h'
  · exact ⟨rfl, hb⟩
end Go.Proofs.YtiinnoahopnkcaaGreatDoor

/- What a node has left beside a use: the program's left. -/
namespace Go.Proofs.YtiinnoahopnkcaaGreatDoor
set_option linter.unusedSimpArgs false
open Go.RowKit
set_option linter.unusedVariables false

/-- Three boxes of the call's own. -/
structure T3 (a b c : List Value) (w V : World) : Prop where
  one : Bf V w.heap.size a
  two : Bf V (w.heap.size + 1) b
  three : Bf V (w.heap.size + 2) c
  below : Below w.heap.size w V
section
variable {a b c : List Value} {w V V' : World}
theorem T3.keep (h : T3 a b c w V) (hb : Below V.heap.size V V') : T3 a b c w V' :=
  ⟨h.one.below hb h.one.lt, h.two.below hb h.two.lt, h.three.below hb h.three.lt, h.below.trans (hb.mono h.below.size)⟩
theorem T3.alloc (h : T3 a b c w V) (o : Obj) : T3 a b c w (V.alloc o) := h.keep ((Below.refl _ V).alloc (Nat.le_refl _) o)
theorem T3.drew (h : T3 a b c w V) : T3 a b c w V.drew := h.keep (Below.refl _ V).drew
theorem T3.new (w : World) (a b c : List Value) (t1 t2 t3 : TypeId) : T3 a b c w (((w.alloc (.cells a.toArray t1)).alloc (.cells b.toArray t2)).alloc (.cells c.toArray t3)) :=
  ⟨((Bf.new w a t1 rfl).alloc _).alloc _, (Bf.new (w.alloc (.cells a.toArray t1)) b t2 (b := w.heap.size + 1) (by simp)).alloc _,
    Bf.new ((w.alloc (.cells a.toArray t1)).alloc (.cells b.toArray t2)) c t3 (b := w.heap.size + 2) (by simp), ((((Below.refl _ w).alloc (Nat.le_refl _) _).alloc (by simp) _).alloc (by simp; omega) _)⟩
theorem Bf.cells4 {b : Nat} {x : V4} (h : Bf V b (cellsV x)) : V.cell? ⟨b, 0, none⟩ = some (.int .u64 x.a) ∧ V.cell? ⟨b, 1, none⟩ = some (.int .u64 x.b) ∧ V.cell? ⟨b, 2, none⟩ = some (.int .u64 x.c) ∧ V.cell? ⟨b, 3, none⟩ = some (.int .u64 x.d) ∧ b < V.heap.size :=
  ⟨h.cell 0 _ rfl, h.cell 1 _ rfl, h.cell 2 _ rfl, h.cell 3 _ rfl, h.lt⟩
theorem Bf.zero4 {b : Nat} (h : Bf V b (cellsV .zer)) : (V.cell? ⟨b, 0, none⟩ = some (.int .u64 0) ∧ V.cell? ⟨b, 1, none⟩ = some (.int .u64 0) ∧ V.cell? ⟨b, 2, none⟩ = some (.int .u64 0) ∧ V.cell? ⟨b, 3, none⟩ = some (.int .u64 0)) ∧ b < V.heap.size :=
  ⟨⟨h.cell 0 _ rfl, h.cell 1 _ rfl, h.cell 2 _ rfl, h.cell 3 _ rfl⟩, h.lt⟩
theorem Bf.free4 {b : Nat} {l : List Value} (h : Bf V b l) : V.frozen? ⟨b, 0, none⟩ = false ∧ V.frozen? ⟨b, 1, none⟩ = false ∧ V.frozen? ⟨b, 2, none⟩ = false ∧ V.frozen? ⟨b, 3, none⟩ = false :=
  ⟨h.frozen 0, h.frozen 1, h.frozen 2, h.frozen 3⟩
theorem Bf.cells3 {b : Nat} {x0 x1 x2 : Value} (h : Bf V b [x0, x1, x2]) : V.cell? ⟨b, 0, none⟩ = some x0 ∧ V.cell? ⟨b, 1, none⟩ = some x1 ∧ V.cell? ⟨b, 2, none⟩ = some x2 ∧ b < V.heap.size :=
  ⟨h.cell 0 _ rfl, h.cell 1 _ rfl, h.cell 2 _ rfl, h.lt⟩
end
theorem zer_agg : aggV V4.zer = zeroV := rfl

set_option maxHeartbeats 3200000 in
set_option maxRecDepth 100000 in
theorem leftW_some {n : NodeD} {u r : V4} (hn : n.Ok) (hu : u.Ok) (h : leftD n u = some r) (w : World) :
    Calls Tryz.prog 127 #[aggN n, aggV u] w fun e w' => e = .returned (.tuple #[aggV r, .nilIface]) ∧ Below w.heap.size w w' := by
  rcases hf : subV n.cap n.held with _ | f
  · rw [left_none hf] at h; cases h
  rw [left_some hf] at h
  have HU := Lib.hid hu
  have HFO := Lib.hid (sub_ok4 hn.2.2.1 hn.2.2.2 hf)
  have HC := Lib.hid (fun w => vSub_some hn.2.2.1 hn.2.2.2 hf w)
  have HD := Lib.hid (fun w => vSub_some HFO.out hu h w)
  have T0 := T3.new w (cellsN n) (cellsV u) (cellsV .zer) 53 51 51
  clear hn hu h hf
  go_enter Tryz.func127, Tryz.ntmps127
  go_wp2_with fail
  refine (HC.out _).mono ?_
  rintro e w1 ⟨rfl, hb1⟩
  have T1 := T0.keep hb1
  clear hb1 T0
  obtain ⟨a0, a1, a2, a3, a4⟩ := T1.two.cells4
  have hz1 : w.heap.size + 2 < w1.heap.size := T1.three.lt
  go_wp2_with fail
  refine (HD.out _).mono ?_
  rintro e w2 ⟨rfl, hb2⟩
  have T2 := (T1.alloc _).keep hb2
  clear hb2 T1 a0 a1 a2 a3 a4 hz1
  obtain ⟨⟨g0, g1, g2, g3⟩, g4⟩ := T2.three.zero4
  obtain ⟨f0, f1, f2, f3⟩ := T2.three.free4
  have kw2 := T2.below
  clear T2
  go_wp2
  refine bodyPost_ret (v := .tuple #[aggV r, .nilIface]) ?_ rfl ?_
  · simp [results, Tryz.results127, go_sem, *]
  · refine ⟨rfl, ?_⟩
    repeat (first | with_reducible exact kw2 | with_reducible refine Below.setCell ?_ ?_ _ | with_reducible refine Below.alloc ?_ ?_ _)
    all_goals first | (show w.heap.size ≤ w.heap.size + 2; omega) | (simp; omega) | omega
set_option maxHeartbeats 3200000 in
set_option maxRecDepth 100000 in
theorem leftW_none {n : NodeD} {u : V4} (hn : n.Ok) (hu : u.Ok) (h : leftD n u = none) (w : World) :
    Calls Tryz.prog 127 #[aggN n, aggV u] w fun e w' => e = .returned (.tuple #[zeroV, .iface 54 (.int .i64 9)]) ∧ Below w.heap.size w w' := by
  have T0 := T3.new w (cellsN n) (cellsV u) (cellsV .zer) 53 51 51
  rcases hf : subV n.cap n.held with _ | f
  · have HC := Lib.hid (fun w => vSub_none hn.2.2.1 hn.2.2.2 hf w)
    clear hn hu h hf
    go_enter Tryz.func127, Tryz.ntmps127
    go_wp2_with fail
    refine (HC.out _).mono ?_
    rintro e w1 ⟨rfl, hb1⟩
    have T2 := T0.keep hb1
    clear hb1 T0
    obtain ⟨⟨g0, g1, g2, g3⟩, g4⟩ := T2.three.zero4
    obtain ⟨f0, f1, f2, f3⟩ := T2.three.free4
    have kw2 := T2.below
    clear T2
    go_wp2
    refine bodyPost_ret (v := .tuple #[zeroV, .iface 54 (.int .i64 9)]) ?_ rfl ?_
    · simp [results, Tryz.results127, go_sem, *]
    · refine ⟨rfl, ?_⟩
      repeat (first | with_reducible exact kw2 | with_reducible refine Below.setCell ?_ ?_ _ | with_reducible refine Below.alloc ?_ ?_ _)
      all_goals first | (show w.heap.size ≤ w.heap.size + 2; omega) | (simp; omega) | omega
  rw [left_some hf] at h
  have HU := Lib.hid hu
  have HFO := Lib.hid (sub_ok4 hn.2.2.1 hn.2.2.2 hf)
  have HC := Lib.hid (fun w => vSub_some hn.2.2.1 hn.2.2.2 hf w)
  have HD := Lib.hid (fun w => vSub_none HFO.out hu h w)
  clear hn hu h hf
  go_enter Tryz.func127, Tryz.ntmps127
  go_wp2_with fail
  refine (HC.out _).mono ?_
  rintro e w1 ⟨rfl, hb1⟩
  have T1 := T0.keep hb1
  clear hb1 T0
  obtain ⟨a0, a1, a2, a3, a4⟩ := T1.two.cells4
  have hz1 : w.heap.size + 2 < w1.heap.size := T1.three.lt
  go_wp2_with fail
  refine (HD.out _).mono ?_
  rintro e w2 ⟨rfl, hb2⟩
  have T2 := (T1.alloc _).keep hb2
  clear hb2 T1 a0 a1 a2 a3 a4 hz1
  obtain ⟨⟨g0, g1, g2, g3⟩, g4⟩ := T2.three.zero4
  obtain ⟨f0, f1, f2, f3⟩ := T2.three.free4
  have kw2 := T2.below
  clear T2
  go_wp2
  refine bodyPost_ret (v := .tuple #[zeroV, .iface 54 (.int .i64 9)]) ?_ rfl ?_
  · simp [results, Tryz.results127, go_sem, *]
  · refine ⟨rfl, ?_⟩
    repeat (first | with_reducible exact kw2 | with_reducible refine Below.setCell ?_ ?_ _ | with_reducible refine Below.alloc ?_ ?_ _)
    all_goals first | (show w.heap.size ≤ w.heap.size + 2; omega) | (simp; omega) | omega
end Go.Proofs.YtiinnoahopnkcaaGreatDoor

/- Plain mathematics of layer 4: what numbers are read as, and that what was written is read as it was, and what is read is written as it was; no program stands in it. -/
namespace Go.Proofs.YtiinnoahopnkcaaGreatDoor
set_option linter.unusedSimpArgs false

theorem fine_flat {α : Type} (K : Kind α) : ∀ (xs : List α) (rest : List Int), (∀ x ∈ xs, K.ok (K.nums x) = true) → fine K xs.length (xs.flatMap K.nums ++ rest) = true
  | [], _, _ => rfl
  | x :: r, rest, h => by
    have e : (x :: r).flatMap K.nums ++ rest = K.nums x ++ (r.flatMap K.nums ++ rest) := by simp
    show fine K (r.length + 1) _ = _
    rw [e, fine, List.take_left' (K.len x), List.drop_left' (K.len x), h x (by simp), fine_flat K r rest fun y hy => h y (by simp [hy])]
    rfl
theorem firstBad_each {α : Type} {bad : Int → α → Int} {f : α → Int} : ∀ {l : List α} {last : Int} {k : Nat}, firstBad bad f last k l = none → ∀ x ∈ l, ∃ la, bad la x = 0
  | [], _, _, _, x, hx => by simp at hx
  | y :: r, last, k, h, x, hx => by
    simp only [firstBad] at h
    split at h
    · cases h
    · rename_i h0
      rcases List.mem_cons.1 hx with rfl | hx
      · exact ⟨last, by simpa using h0⟩
      · exact firstBad_each h x hx
theorem small_of {n : Int} (h : n ≤ 2147483647) : smallN n = true := by simp [smallN, h]
theorem node_ok {la : Int} {x : NodeD} (h : nodeBad la x = 0) : 1 ≤ x.id ∧ x.id ≤ 2147483647 ∧ 1 ≤ x.zone ∧ x.zone ≤ 8 := by
  unfold nodeBad at h
  split at h
  · cases h
  · rename_i h1
    have h2 := idBad_ok h
    refine ⟨h2.1, h2.2.1, ?_, ?_⟩
    · by_cases e : x.zone < 1
      · exact absurd ⟨h, .inl e⟩ h1
      · omega
    · by_cases e : 8 < x.zone
      · exact absurd ⟨h, .inr (.inl e)⟩ h1
      · omega
theorem count_of {n : Int} (h : countOk n = true) : 0 ≤ n ∧ n ≤ 100 := by simpa [countOk] using h
theorem load_ok {la : Int} {x : LoadD} (h : loadBad la x = 0) : 1 ≤ x.id ∧ x.id ≤ 2147483647 ∧ (0 ≤ x.skew ∧ x.skew ≤ 100) ∧ (0 ≤ x.min ∧ x.min ≤ 100) ∧ (0 ≤ x.max ∧ x.max ≤ 100) := by
  unfold loadBad at h
  split at h
  · cases h
  · rename_i h1
    have h2 := idBad_ok h
    refine ⟨h2.1, h2.2.1, count_of ?_, count_of ?_, count_of ?_⟩
    · cases e : countOk x.skew
      · exact absurd ⟨h, .inl e⟩ h1
      · rfl
    · cases e : countOk x.min
      · exact absurd ⟨h, .inr (.inl e)⟩ h1
      · rfl
    · cases e : countOk x.max
      · exact absurd ⟨h, .inr (.inr (.inl e))⟩ h1
      · rfl
theorem pod_ok {nodes : List NodeD} {loads : List LoadD} {la : Int} {x : PodD} (h : podBad nodes loads la x = 0) : 1 ≤ x.id ∧ x.id ≤ 2147483647 ∧ (0 ≤ x.prio ∧ x.prio ≤ 100) ∧ (∃ l ∈ loads, l.id = x.load) ∧ (x.node = 0 ∨ ∃ n ∈ nodes, n.id = x.node) := by
  unfold podBad at h
  split at h
  · rename_i h1; exact absurd h h1
  · rename_i h1
    have h2 := idBad_ok (by simpa using h1)
    split at h
    · cases h
    · rename_i h3
      split at h
      · cases h
      · rename_i h4
        refine ⟨h2.1, h2.2.1, count_of (by simpa using h3), ?_, ?_⟩
        · have : ¬ place LoadD.id x.load loads 0 < 0 := fun e => h4 (.inl e)
          rw [place_neg (by omega)] at this
          simpa using this
        · by_cases e : x.node = 0
          · exact .inl e
          · have : ¬ place NodeD.id x.node nodes 0 < 0 := fun q => h4 (.inr ⟨e, q⟩)
            rw [place_neg (by omega)] at this
            exact .inr (by simpa using this)
theorem nums_fine {s : SnapD} (h : (check s).1 = 0) : snapFine s.nodes.length s.loads.length s.pods.length ((snapNums s).drop 3) = true := by
  obtain ⟨_, h1, h2, h3⟩ := check_ok.1 h
  have n1 := firstBad_each h1
  have n2 := firstBad_each h2
  have n3 := firstBad_each h3
  obtain ⟨n, l, p⟩ := s
  simp only at n1 n2 n3
  have e : (snapNums ⟨n, l, p⟩).drop 3 = n.flatMap nodeK.nums ++ (l.flatMap loadK.nums ++ p.flatMap podK.nums) := rfl
  have g1 : (n.flatMap nodeK.nums).length = n.length * 10 := flat_length nodeK n
  have g2 : (l.flatMap loadK.nums).length = l.length * 5 := flat_length loadK l
  have f1 : ∀ x ∈ n, nodeK.ok (nodeK.nums x) = true := fun x hx => by
    obtain ⟨la, hb⟩ := n1 x hx
    have := node_ok hb
    simp [nodeK, smallN]; omega
  have f2 : ∀ x ∈ l, loadK.ok (loadK.nums x) = true := fun x hx => by
    obtain ⟨la, hb⟩ := n2 x hx
    have := load_ok hb
    have ht : bitN (truthN x.apart) = true := by cases x.apart <;> rfl
    simp [loadK, smallN, ht]; omega
  have f3 : ∀ x ∈ p, podK.ok (podK.nums x) = true := fun x hx => by
    obtain ⟨la, hb⟩ := n3 x hx
    obtain ⟨a1, a2, a3, ⟨y, hy, ey⟩, a5⟩ := pod_ok hb
    obtain ⟨lb, hlb⟩ := n2 y hy
    have := load_ok hlb
    have hn : x.node ≤ 2147483647 := by
      rcases a5 with a5 | ⟨z, hz, ez⟩
      · omega
      · obtain ⟨lc, hlc⟩ := n1 z hz
        have := node_ok hlc
        omega
    simp [podK, smallN]; omega
  rw [e]
  simp only [snapFine]
  have q1 := fine_flat nodeK n (l.flatMap loadK.nums ++ p.flatMap podK.nums) f1
  have q2 := fine_flat loadK l (p.flatMap podK.nums) f2
  have q3 := fine_flat podK p [] f3
  rw [List.append_nil] at q3
  rw [q1, List.drop_left' g1, q2, ← List.drop_drop, List.drop_left' g1, List.drop_left' g2, q3]
  rfl

abbrev noSnap : SnapD := ⟨[], [], []⟩
/-- What numbers are read as: a snapshot, or an error's number and its place (-1: itself). -/
def rdSnap (l : List Int) : SnapD × Int × Int :=
  if l.length < 3 then (noSnap, 2, -1)
  else if 8 < l.getD 0 0 ∨ 8 < l.getD 1 0 ∨ 12 < l.getD 2 0 then (noSnap, 3, -1)
  else if l.length ≠ 3 + 10 * (l.getD 0 0).toNat + 5 * (l.getD 1 0).toNat + 8 * (l.getD 2 0).toNat then (noSnap, 2, -1)
  else if snapFine (l.getD 0 0).toNat (l.getD 1 0).toNat (l.getD 2 0).toNat (l.drop 3) = false then (noSnap, 2, -1)
  else if (check (snapOf (l.getD 0 0).toNat (l.getD 1 0).toNat (l.getD 2 0).toNat (l.drop 3))).1 ≠ 0 then (noSnap, check (snapOf (l.getD 0 0).toNat (l.getD 1 0).toNat (l.getD 2 0).toNat (l.drop 3)))
  else (snapOf (l.getD 0 0).toNat (l.getD 1 0).toNat (l.getD 2 0).toNat (l.drop 3), 0, -1)
theorem snapNums_length (s : SnapD) : (snapNums s).length = 3 + 10 * s.nodes.length + 5 * s.loads.length + 8 * s.pods.length := by
  have g1 : (s.nodes.flatMap nodeK.nums).length = s.nodes.length * 10 := flat_length nodeK _
  have g2 : (s.loads.flatMap loadK.nums).length = s.loads.length * 5 := flat_length loadK _
  have g3 : (s.pods.flatMap podK.nums).length = s.pods.length * 8 := flat_length podK _
  simp only [snapNums, List.length_append, g1, g2, g3, List.length_cons, List.length_nil]
  omega
/-- What was written is read as it was. -/
theorem rd_back {s : SnapD} (h : (check s).1 = 0) : rdSnap (snapNums s) = (s, 0, -1) := by
  have hl := snapNums_length s
  have hb := snap_back s
  have hf := nums_fine h
  have hg := (check_ok.1 h).1
  have e0 : (snapNums s).getD 0 0 = (s.nodes.length : Int) := rfl
  have e1 : (snapNums s).getD 1 0 = (s.loads.length : Int) := rfl
  have e2 : (snapNums s).getD 2 0 = (s.pods.length : Int) := rfl
  have hg' : ¬ (s.nodes.length = 0 ∨ 8 < s.nodes.length ∨ 8 < s.loads.length ∨ 12 < s.pods.length) := by simpa only [large, decide_eq_false_iff_not] using hg
  unfold rdSnap
  rw [e0, e1, e2]
  simp only [Int.toNat_natCast]
  rw [hb, hf, if_neg (by omega), if_neg (by omega), if_neg (by omega), if_neg (by decide), if_neg (by simpa using h)]
/-- What is read is written as it was. -/
theorem rd_once {l : List Int} (hp : ∀ x ∈ l, 0 ≤ x) {s : SnapD} (h : rdSnap l = (s, 0, -1)) : snapNums s = l ∧ (check s).1 = 0 := by
  unfold rdSnap at h
  split at h
  · simp at h
  · rename_i h1
    split at h
    · simp at h
    · rename_i h2
      split at h
      · simp at h
      · rename_i h3
        split at h
        · simp at h
        · rename_i h4
          split at h
          · rename_i h5
            have : (check (snapOf (l.getD 0 0).toNat (l.getD 1 0).toNat (l.getD 2 0).toNat (l.drop 3))).1 = 0 := by
              have := congrArg (fun q => q.2.1) h
              exact this
            exact absurd this h5
          · rename_i h5
            have hs : snapOf (l.getD 0 0).toNat (l.getD 1 0).toNat (l.getD 2 0).toNat (l.drop 3) = s := congrArg (fun q => q.1) h
            match l, h1, hp, h3, h4, h5, hs with
            | a :: b :: c :: r, _, hp, h3, h4, h5, hs =>
              have pa := hp a (by simp)
              have pb := hp b (by simp)
              have pc := hp c (by simp)
              simp only [List.getD_cons_zero, List.getD_cons_succ, List.drop_succ_cons, List.drop_zero, List.length_cons, ne_eq, Decidable.not_not, Bool.not_eq_false] at h3 h4 h5 hs
              rw [← hs]
              refine ⟨?_, h5⟩
              rw [snap_once (by omega) h4, Int.toNat_of_nonneg pa, Int.toNat_of_nonneg pb, Int.toNat_of_nonneg pc]
              rfl
            | [], h1, _, _, _, _, _ => simp at h1
            | [_], h1, _, _, _, _, _ => simp at h1
            | [_, _], h1, _, _, _, _, _ => simp at h1
end Go.Proofs.YtiinnoahopnkcaaGreatDoor

namespace Go.Proofs.YtiinnoahopnkcaaGreatDoor
set_option linter.unusedSimpArgs false

def inId (n : Int) : Bool := decide (0 ≤ n ∧ n ≤ 2147483647)
theorem inId_iff {n : Int} : inId n = true ↔ 0 ≤ n ∧ n ≤ 2147483647 := by simp [inId]
/-- May a spec be written? May moves? -/
def specOk (x : SpecD) : Bool := decide (x.wants.length ≤ 12) && (inId x.preempts && (inId x.shifts && x.wants.all fun y => inId y.pod))
def moveOk (m : MoveD) : Bool := inId m.kind && (inId m.pod && (inId m.node && inId m.over))
def movesOk (m : List MoveD) : Bool := decide (m.length ≤ 40) && m.all moveOk

abbrev noSpec : SpecD := ⟨[], 0, 0⟩
def rdSpec (l : List Int) : SpecD × Int × Int :=
  if l.length < 3 then (noSpec, 2, -1)
  else if 12 < l.getD 0 0 then (noSpec, 3, -1)
  else if l.length ≠ 3 + 6 * (l.getD 0 0).toNat then (noSpec, 2, -1)
  else if (smallN (l.getD 1 0) && (smallN (l.getD 2 0) && fine wantK (l.getD 0 0).toNat (l.drop 3))) = false then (noSpec, 2, -1)
  else (⟨parse wantK (l.getD 0 0).toNat (l.drop 3), l.getD 1 0, l.getD 2 0⟩, 0, -1)
def rdMoves (l : List Int) : List MoveD × Int × Int :=
  if l.length < 1 then ([], 2, -1)
  else if 40 < l.getD 0 0 then ([], 3, -1)
  else if l.length ≠ 1 + 4 * (l.getD 0 0).toNat then ([], 2, -1)
  else if fine moveK (l.getD 0 0).toNat (l.drop 1) = false then ([], 2, -1)
  else (parse moveK (l.getD 0 0).toNat (l.drop 1), 0, -1)
theorem rd_spec_back {x : SpecD} (h : specOk x = true) : rdSpec (specNums x) = (x, 0, -1) := by
  simp only [specOk, Bool.and_eq_true, decide_eq_true_eq, inId_iff, List.all_eq_true] at h
  obtain ⟨h1, h2, h3, h4⟩ := h
  have g1 : (x.wants.flatMap wantK.nums).length = x.wants.length * 6 := flat_length wantK _
  have hl : (specNums x).length = 3 + 6 * x.wants.length := by
    simp only [specNums, List.length_append, g1, List.length_cons, List.length_nil]; omega
  have hf : fine wantK x.wants.length ((specNums x).drop 3) = true := by
    have := fine_flat wantK x.wants [] fun y hy => by
      have := h4 y hy
      have ht : bitN (truthN y.stay) = true := by cases y.stay <;> rfl
      simp [wantK, smallN, ht]; omega
    rw [List.append_nil] at this
    exact this
  have hb := spec_back x
  have e0 : (specNums x).getD 0 0 = (x.wants.length : Int) := rfl
  have e1 : (specNums x).getD 1 0 = x.preempts := rfl
  have e2 : (specNums x).getD 2 0 = x.shifts := rfl
  unfold rdSpec
  rw [e0, e1, e2]
  simp only [Int.toNat_natCast]
  rw [hb, hf, small_of h2.2, small_of h3.2, if_neg (by omega), if_neg (by omega), if_neg (by omega), if_neg (by decide)]
theorem rd_spec_once {l : List Int} (hp : ∀ x ∈ l, 0 ≤ x) {x : SpecD} (h : rdSpec l = (x, 0, -1)) : specNums x = l ∧ specOk x = true := by
  unfold rdSpec at h
  split at h
  · simp at h
  · rename_i h1
    split at h
    · simp at h
    · rename_i h2
      split at h
      · simp at h
      · rename_i h3
        split at h
        · simp at h
        · rename_i h4
          have hs : (⟨parse wantK (l.getD 0 0).toNat (l.drop 3), l.getD 1 0, l.getD 2 0⟩ : SpecD) = x := congrArg (fun q => q.1) h
          match l, h1, hp, h2, h3, h4, hs with
          | a :: b :: c :: r, _, hp, h2, h3, h4, hs =>
            have pa := hp a (by simp)
            have pb := hp b (by simp)
            have pc := hp c (by simp)
            simp only [List.getD_cons_zero, List.getD_cons_succ, List.drop_succ_cons, List.drop_zero, List.length_cons, ne_eq, Decidable.not_not, Bool.not_eq_false, Bool.and_eq_true] at h2 h3 h4 hs
            obtain ⟨s1, s2, s3⟩ := h4
            rw [← hs]
            refine ⟨?_, ?_⟩
            · rw [spec_once (by omega) s3, Int.toNat_of_nonneg pa]; rfl
            · have q1 : b ≤ 2147483647 := by simpa [smallN] using s1
              have q2 : c ≤ 2147483647 := by simpa [smallN] using s2
              simp only [specOk, Bool.and_eq_true, decide_eq_true_eq, inId_iff, List.all_eq_true, parse_length]
              refine ⟨by omega, ⟨pb, q1⟩, ⟨pc, q2⟩, fun y hy => ?_⟩
              obtain ⟨i, hi, rfl⟩ := List.mem_iff_getElem.1 hy
              have hi' : i < a.toNat := by rw [parse_length] at hi; exact hi
              have hfi := (fine_iff wantK _ _).1 s3 i hi'
              rw [parse_get wantK _ _ i hi']
              have s6 : wantK.size = 6 := rfl
              have hlen : ((r.drop (i * wantK.size)).take wantK.size).length = 6 := by rw [s6]; simp only [List.length_take, List.length_drop]; omega
              have hall : ∀ z ∈ (r.drop (i * wantK.size)).take wantK.size, 0 ≤ z := fun z hz => hp z (by
                have := List.mem_of_mem_drop (List.mem_of_mem_take hz)
                simp [this])
              obtain ⟨z0, z1, z2, z3, z4, z5, ez⟩ := take_6 hlen
              rw [ez] at hfi hall ⊢
              have k0 := hall z0 (by simp)
              simp [wantK, smallN] at hfi ⊢
              omega
          | [], h1, _, _, _, _, _ => simp at h1
          | [_], h1, _, _, _, _, _ => simp at h1
          | [_, _], h1, _, _, _, _, _ => simp at h1
theorem rd_move_back {m : List MoveD} (h : movesOk m = true) : rdMoves (moveNums m) = (m, 0, -1) := by
  simp only [movesOk, moveOk, Bool.and_eq_true, decide_eq_true_eq, inId_iff, List.all_eq_true] at h
  obtain ⟨h1, h4⟩ := h
  have g1 : (m.flatMap moveK.nums).length = m.length * 4 := flat_length moveK _
  have hl : (moveNums m).length = 1 + 4 * m.length := by simp only [moveNums, List.length_cons, g1]; omega
  have hf : fine moveK m.length ((moveNums m).drop 1) = true := by
    have := fine_flat moveK m [] fun y hy => by
      have := h4 y hy
      simp [moveK, smallN]; omega
    rw [List.append_nil] at this
    exact this
  have hb := move_back m
  have e0 : (moveNums m).getD 0 0 = (m.length : Int) := rfl
  unfold rdMoves
  rw [e0]
  simp only [Int.toNat_natCast]
  rw [hb, hf, if_neg (by omega), if_neg (by omega), if_neg (by omega), if_neg (by decide)]
theorem rd_move_once {l : List Int} (hp : ∀ x ∈ l, 0 ≤ x) {m : List MoveD} (h : rdMoves l = (m, 0, -1)) : moveNums m = l ∧ movesOk m = true := by
  unfold rdMoves at h
  split at h
  · simp at h
  · rename_i h1
    split at h
    · simp at h
    · rename_i h2
      split at h
      · simp at h
      · rename_i h3
        split at h
        · simp at h
        · rename_i h4
          have hs : parse moveK (l.getD 0 0).toNat (l.drop 1) = m := congrArg (fun q => q.1) h
          match l, h1, hp, h2, h3, h4, hs with
          | a :: r, _, hp, h2, h3, h4, hs =>
            have pa := hp a (by simp)
            simp only [List.getD_cons_zero, List.drop_succ_cons, List.drop_zero, List.length_cons, ne_eq, Decidable.not_not, Bool.not_eq_false] at h2 h3 h4 hs
            rw [← hs]
            refine ⟨?_, ?_⟩
            · rw [move_once (by omega) h4, Int.toNat_of_nonneg pa]
            · simp only [movesOk, moveOk, Bool.and_eq_true, decide_eq_true_eq, inId_iff, List.all_eq_true, parse_length]
              refine ⟨by omega, fun y hy => ?_⟩
              obtain ⟨i, hi, rfl⟩ := List.mem_iff_getElem.1 hy
              have hi' : i < a.toNat := by rw [parse_length] at hi; exact hi
              have hfi := (fine_iff moveK _ _).1 h4 i hi'
              rw [parse_get moveK _ _ i hi']
              have s4 : moveK.size = 4 := rfl
              have hlen : ((r.drop (i * moveK.size)).take moveK.size).length = 4 := by rw [s4]; simp only [List.length_take, List.length_drop]; omega
              have hall : ∀ z ∈ (r.drop (i * moveK.size)).take moveK.size, 0 ≤ z := fun z hz => hp z (by
                have := List.mem_of_mem_drop (List.mem_of_mem_take hz)
                simp [this])
              obtain ⟨z0, z1, z2, z3, ez⟩ := take_4 hlen
              rw [ez] at hfi hall ⊢
              have k0 := hall z0 (by simp)
              have k1 := hall z1 (by simp)
              have k2 := hall z2 (by simp)
              have k3 := hall z3 (by simp)
              simp [moveK, smallN] at hfi ⊢
              omega
          | [], h1, _, _, _, _, _ => simp at h1
end Go.Proofs.YtiinnoahopnkcaaGreatDoor
