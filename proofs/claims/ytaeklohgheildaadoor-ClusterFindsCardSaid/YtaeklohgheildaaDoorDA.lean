/- The program's small functions of layer 3: within, isCount, cmp.Compare, cmp.Or, spot, the Ids of records. -/
import Derived.Test.YtaeklohgheildaaDoorCC
import Derived.Test.YtaeklohgheildaaDoorCG
import Derived.Deep.QuietTactic
import Derived.BigQuiet
import Derived.Deep.RegionHeld3
namespace Go.Proofs.YtaeklohgheildaaDoor
open Go.RowKit
set_option linter.unusedVariables false

def inB (n lo hi : Int) : Bool := decide (lo ≤ n ∧ n ≤ hi)
theorem within_any (n lo hi : Int) (w : World) : Calls Tryd.prog 39 #[.int .i64 n, .int .i64 lo, .int .i64 hi] w fun e w' => e = .returned (.bool (inB n lo hi)) ∧ w = w' := by
  by_cases h1 : lo ≤ n
  · have hd1 : decide (lo ≤ n) = true := decide_eq_true h1
    by_cases h2 : n ≤ hi
    · have HE := Lib.hid (show inB n lo hi = true by simp [inB, h1, h2])
      have hd : decide (n ≤ hi) = true := decide_eq_true h2
      go_enter Tryd.func39, Tryd.ntmps39
      go_wp2
      go_ret
      exact ⟨ret_bool HE.out.symm, rfl⟩
    · have HE := Lib.hid (show inB n lo hi = false by simp [inB]; omega)
      have hd : decide (n ≤ hi) = false := decide_eq_false h2
      go_enter Tryd.func39, Tryd.ntmps39
      go_wp2
      go_ret
      exact ⟨ret_bool HE.out.symm, rfl⟩
  · have HE := Lib.hid (show inB n lo hi = false by simp [inB]; omega)
    have hd : decide (lo ≤ n) = false := decide_eq_false h1
    go_enter Tryd.func39, Tryd.ntmps39
    go_wp2
    go_ret
    exact ⟨ret_bool HE.out.symm, rfl⟩
theorem isCount_any (n : Int) (w : World) : Calls Tryd.prog 55 #[.int .i64 n] w fun e w' => e = .returned (.bool (countOk n)) ∧ w = w' := by
  have HE := Lib.hid (show inB n 0 100 = countOk n from rfl)
  go_enter Tryd.func55, Tryd.ntmps55
  go_wp2_with fail
  refine (within_any _ _ _ _).mono ?_
  rintro e w' ⟨rfl, rfl⟩
  go_wp2
  go_ret
  exact ⟨ret_bool HE.out, rfl⟩
theorem isNaN_any (n : Int) (w : World) : Calls Tryd.prog 70 #[.int .i64 n] w fun e w' => e = .returned (.bool false) ∧ w = w' := by
  have hd : (n != n) = false := by simp
  go_enter Tryd.func70, Tryd.ntmps70
  go_wp2
  go_ret
  exact ⟨rfl, rfl⟩
def cmpI (a b : Int) : Int := if a < b then -1 else if b < a then 1 else 0
theorem compare_any (a b : Int) (w : World) : Calls Tryd.prog 57 #[.int .i64 a, .int .i64 b] w fun e w' => e = .returned (.int .i64 (cmpI a b)) ∧ w = w' := by
  by_cases h1 : a < b
  · have HE := Lib.hid (show cmpI a b = -1 by simp [cmpI, h1])
    go_enter Tryd.func57, Tryd.ntmps57
    go_wp2_with (go_at_call 70; refine (isNaN_any _ _).mono ?_; rintro e w' ⟨rfl, rfl⟩)
    go_ret
    exact ⟨ret_int HE.out.symm, rfl⟩
  · by_cases h2 : b < a
    · have HE := Lib.hid (show cmpI a b = 1 by simp [cmpI, h1, h2])
      go_enter Tryd.func57, Tryd.ntmps57
      go_wp2_with (go_at_call 70; refine (isNaN_any _ _).mono ?_; rintro e w' ⟨rfl, rfl⟩)
      go_ret
      exact ⟨ret_int HE.out.symm, rfl⟩
    · have HE := Lib.hid (show cmpI a b = 0 by simp [cmpI, h1, h2])
      go_enter Tryd.func57, Tryd.ntmps57
      go_wp2_with (go_at_call 70; refine (isNaN_any _ _).mono ?_; rintro e w' ⟨rfl, rfl⟩)
      go_ret
      exact ⟨ret_int HE.out.symm, rfl⟩
def orI (a b : Int) : Int := if a = 0 then b else a
theorem or_any (a b : Int) (g : Nat) (w : World) (h0 : w.cell? ⟨g, 0, none⟩ = some (.int .i64 a)) (h1 : w.cell? ⟨g, 1, none⟩ = some (.int .i64 b)) :
    Calls Tryd.prog 40 #[.slice (some ⟨g, 0, none⟩) 2 2] w fun e w' => e = .returned (.int .i64 (orI a b)) ∧ w = w' := by
  by_cases ha : a = 0
  · subst ha
    by_cases hb : b = 0
    · subst hb
      go_enter Tryd.func40, Tryd.ntmps40
      go_wp2
      refine wp_loop_rounds 3 ?_
      rw [rounds_succ]
      go_wp2
      rw [rounds_succ]
      go_wp2
      rw [rounds_succ]
      go_wp2
      go_ret
      exact ⟨rfl, rfl⟩
    · have hm : (b != 0) = true := by simpa using hb
      have HE := Lib.hid (show orI 0 b = b from rfl)
      clear hb
      go_enter Tryd.func40, Tryd.ntmps40
      go_wp2
      refine wp_loop_rounds 3 ?_
      rw [rounds_succ]
      go_wp2
      rw [rounds_succ]
      go_wp2
      go_ret
      exact ⟨ret_int HE.out.symm, rfl⟩
  · have hm : (a != 0) = true := by simpa using ha
    have HE := Lib.hid (show orI a b = a by simp [orI, ha])
    clear ha
    go_enter Tryd.func40, Tryd.ntmps40
    go_wp2
    refine wp_loop_rounds 3 ?_
    rw [rounds_succ]
    go_wp2
    go_ret
    exact ⟨ret_int HE.out.symm, rfl⟩
theorem spot_any (p c : Int) (w : World) : Calls Tryd.prog 44 #[.int .i64 p, .int .i64 c] w fun e w' => e = .returned (.iface 91 (.pointer (some ⟨w.heap.size, 0, none⟩))) ∧ w' = w.alloc (.cells #[.int .i64 p, .int .i64 c] 96) := by
  go_enter Tryd.func44, Tryd.ntmps44
  go_wp2
  go_ret
  exact ⟨rfl, rfl⟩

abbrev aggN (x : NodeD) : Value := .agg #[.int .i64 x.id, .int .i64 x.zone, .int .u64 x.cap.a, .int .u64 x.cap.b, .int .u64 x.cap.c, .int .u64 x.cap.d, .int .u64 x.held.a, .int .u64 x.held.b, .int .u64 x.held.c, .int .u64 x.held.d]
theorem idN_any (x : NodeD) (w : World) : Calls Tryd.prog 30 #[aggN x] w fun e w' => e = .returned (.int .i64 x.id) ∧ Below w.heap.size w w' := by
  go_enter Tryd.func30, Tryd.ntmps30
  go_wp2
  go_ret
  exact ⟨rfl, (Below.refl _ _).alloc (Nat.le_refl _) _⟩

abbrev aggL (x : LoadD) : Value := .agg #[.int .i64 x.id, .bool x.apart, .int .i64 x.skew, .int .i64 x.min, .int .i64 x.max]
theorem idL_any (x : LoadD) (w : World) : Calls Tryd.prog 33 #[aggL x] w fun e w' => e = .returned (.int .i64 x.id) ∧ Below w.heap.size w w' := by
  go_enter Tryd.func33, Tryd.ntmps33
  go_wp2
  go_ret
  exact ⟨rfl, (Below.refl _ _).alloc (Nat.le_refl _) _⟩

abbrev aggP (x : PodD) : Value := .agg #[.int .i64 x.id, .int .i64 x.load, .int .i64 x.prio, .int .u64 x.req.a, .int .u64 x.req.b, .int .u64 x.req.c, .int .u64 x.req.d, .int .i64 x.node]
theorem idP_any (x : PodD) (w : World) : Calls Tryd.prog 36 #[aggP x] w fun e w' => e = .returned (.int .i64 x.id) ∧ Below w.heap.size w w' := by
  go_enter Tryd.func36, Tryd.ntmps36
  go_wp2
  go_ret
  exact ⟨rfl, (Below.refl _ _).alloc (Nat.le_refl _) _⟩

abbrev aggW (x : WantD) : Value := .agg #[.int .i64 x.pod, .int .u64 x.req.a, .int .u64 x.req.b, .int .u64 x.req.c, .int .u64 x.req.d, .bool x.stay]
theorem idW_any (x : WantD) (w : World) : Calls Tryd.prog 42 #[aggW x] w fun e w' => e = .returned (.int .i64 x.pod) ∧ Below w.heap.size w w' := by
  go_enter Tryd.func42, Tryd.ntmps42
  go_wp2
  go_ret
  exact ⟨rfl, (Below.refl _ _).alloc (Nat.le_refl _) _⟩

theorem fits_below (w : World) (o o' : Obj) (n : Nat) : Below w.heap.size w (((w.alloc o).alloc o').drewN n) := let k := below_two w o o'; ⟨k.os, k.tape, k.output, k.size, k.block⟩
theorem fits_below2 (w : World) (o o' : Obj) (n m : Nat) : Below w.heap.size w ((((w.alloc o).alloc o').drewN n).drewN m) := let k := fits_below w o o' n; ⟨k.os, k.tape, k.output, k.size, k.block⟩
set_option maxHeartbeats 1600000 in
/-- vec.Fits. -/
theorem fits_any (x y : V4) (w : World) : Calls Tryd.prog 53 #[aggV x, aggV y] w fun e w' => e = .returned (.bool (x.le y)) ∧ Below w.heap.size w w' := by

  by_cases h0 : x.a ≤ y.a
  · have d0 : decide (y.a < x.a) = false := decide_eq_false (by omega)
    by_cases h1 : x.b ≤ y.b
    · have d1 : decide (y.b < x.b) = false := decide_eq_false (by omega)
      by_cases h2 : x.c ≤ y.c
      · have d2 : decide (y.c < x.c) = false := decide_eq_false (by omega)
        by_cases h3 : x.d ≤ y.d
        · have d3 : decide (y.d < x.d) = false := decide_eq_false (by omega)
          have HE := Lib.hid (show x.le y = true by simp [V4.le, h0, h1, h2, h3])
          go_enter Tryd.func53, Tryd.ntmps53
          go_wp2
          refine wp_loop_rounds 5 ?_
          rw [rounds_succ]
          go_wp2
          go_quiet (fail)
          go_wp2
          rw [rounds_succ]
          go_wp2
          go_quiet (fail)
          go_wp2
          rw [rounds_succ]
          go_wp2
          go_quiet (fail)
          go_wp2
          rw [rounds_succ]
          go_wp2
          go_quiet (fail)
          go_wp2
          rw [rounds_succ]
          go_wp2
          go_ret
          refine ⟨ret_bool HE.out.symm, ?_⟩
          first | exact fits_below _ _ _ _ | exact fits_below2 _ _ _ _ _
        · have d3 : decide (y.d < x.d) = true := decide_eq_true (by omega)
          have HE := Lib.hid (show x.le y = false by simp [V4.le, h3])
          go_enter Tryd.func53, Tryd.ntmps53
          go_wp2
          refine wp_loop_rounds 5 ?_
          rw [rounds_succ]
          go_wp2
          go_quiet (fail)
          go_wp2
          rw [rounds_succ]
          go_wp2
          go_quiet (fail)
          go_wp2
          rw [rounds_succ]
          go_wp2
          go_quiet (fail)
          go_wp2
          rw [rounds_succ]
          go_wp2
          go_quiet (fail)
          go_wp2
          go_ret
          refine ⟨ret_bool HE.out.symm, ?_⟩
          first | exact fits_below _ _ _ _ | exact fits_below2 _ _ _ _ _
      · have d2 : decide (y.c < x.c) = true := decide_eq_true (by omega)
        have HE := Lib.hid (show x.le y = false by simp [V4.le, h2])
        go_enter Tryd.func53, Tryd.ntmps53
        go_wp2
        refine wp_loop_rounds 5 ?_
        rw [rounds_succ]
        go_wp2
        go_quiet (fail)
        go_wp2
        rw [rounds_succ]
        go_wp2
        go_quiet (fail)
        go_wp2
        rw [rounds_succ]
        go_wp2
        go_quiet (fail)
        go_wp2
        go_ret
        refine ⟨ret_bool HE.out.symm, ?_⟩
        first | exact fits_below _ _ _ _ | exact fits_below2 _ _ _ _ _
    · have d1 : decide (y.b < x.b) = true := decide_eq_true (by omega)
      have HE := Lib.hid (show x.le y = false by simp [V4.le, h1])
      go_enter Tryd.func53, Tryd.ntmps53
      go_wp2
      refine wp_loop_rounds 5 ?_
      rw [rounds_succ]
      go_wp2
      go_quiet (fail)
      go_wp2
      rw [rounds_succ]
      go_wp2
      go_quiet (fail)
      go_wp2
      go_ret
      refine ⟨ret_bool HE.out.symm, ?_⟩
      first | exact fits_below _ _ _ _ | exact fits_below2 _ _ _ _ _
  · have d0 : decide (y.a < x.a) = true := decide_eq_true (by omega)
    have HE := Lib.hid (show x.le y = false by simp [V4.le, h0])
    go_enter Tryd.func53, Tryd.ntmps53
    go_wp2
    refine wp_loop_rounds 5 ?_
    rw [rounds_succ]
    go_wp2
    go_quiet (fail)
    go_wp2
    go_ret
    refine ⟨ret_bool HE.out.symm, ?_⟩
    first | exact fits_below _ _ _ _ | exact fits_below2 _ _ _ _ _

end Go.Proofs.YtaeklohgheildaaDoor
