/- dunnageref01.Fits, dunnagelaw00.Code and Told. -/
import Derived.Test.YtaeklohgheildaaDoorCB
namespace Go.Proofs.YtaeklohgheildaaDoor
open Go.RowKit
set_option linter.unusedVariables false

abbrev aggV (x : V4) : Value := .agg #[.int .u64 x.a, .int .u64 x.b, .int .u64 x.c, .int .u64 x.d]
theorem below_two (w : World) (o o' : Obj) : Below w.heap.size w ((w.alloc o).alloc o') := ((Below.refl _ _).alloc (Nat.le_refl _) o).alloc (by simp) o'
set_option maxHeartbeats 1600000 in
theorem rFits_any (x y : V4) (w : World) : Calls Tryd.prog 24 #[aggV x, aggV y] w fun e w' => e = .returned (.bool (x.le y)) ∧ Below w.heap.size w w' := by
  by_cases h0 : x.a ≤ y.a
  · by_cases h1 : x.b ≤ y.b
    · by_cases h2 : x.c ≤ y.c
      · by_cases h3 : x.d ≤ y.d
        · have HE := Lib.hid (show x.le y = true by simp [V4.le, h0, h1, h2, h3])
          have hd : decide (x.d ≤ y.d) = true := decide_eq_true h3
          go_enter Tryd.func24, Tryd.ntmps24
          go_wp2
          go_ret
          exact ⟨ret_bool HE.out.symm, below_two _ _ _⟩
        · have HE := Lib.hid (show x.le y = false by simp [V4.le, h3])
          have hd : decide (x.d ≤ y.d) = false := decide_eq_false h3
          go_enter Tryd.func24, Tryd.ntmps24
          go_wp2
          go_ret
          exact ⟨ret_bool HE.out.symm, below_two _ _ _⟩
      · have HE := Lib.hid (show x.le y = false by simp [V4.le, h2])
        have hd : decide (x.c ≤ y.c) = false := decide_eq_false h2
        go_enter Tryd.func24, Tryd.ntmps24
        go_wp2
        go_ret
        exact ⟨ret_bool HE.out.symm, below_two _ _ _⟩
    · have HE := Lib.hid (show x.le y = false by simp [V4.le, h1])
      have hd : decide (x.b ≤ y.b) = false := decide_eq_false h1
      go_enter Tryd.func24, Tryd.ntmps24
      go_wp2
      go_ret
      exact ⟨ret_bool HE.out.symm, below_two _ _ _⟩
  · have HE := Lib.hid (show x.le y = false by simp [V4.le, h0])
    have hd : decide (x.a ≤ y.a) = false := decide_eq_false h0
    go_enter Tryd.func24, Tryd.ntmps24
    go_wp2
    go_ret
    exact ⟨ret_bool HE.out.symm, below_two _ _ _⟩
end Go.Proofs.YtaeklohgheildaaDoor
