/- The statements of layer 3 where there are too many, or a number is out of bounds: they answer their head. -/
import Derived.Test.YtaeklohgheildaaDoorDJ
namespace Go.Proofs.YtaeklohgheildaaDoor
open Go.RowKit
set_option linter.unusedVariables false

set_option maxHeartbeats 1600000 in
set_option maxRecDepth 100000 in
theorem clusterChecks_long (x : SpecD) (A1 A2 A3 A4 : Option Addr) (n1 c1 n2 c2 n3 c3 n4 c4 : Nat) (w : World) (hg : Laid w) (h : 40 < n1 ∨ 40 < n2 ∨ 40 < n3 ∨ 40 < n4) :
    Calls Tryd.prog 3 #[snapV A1 A2 A3 n1 c1 n2 c2 n3 c3, specV A4 n4 c4 x] w fun e w' => e = .returned (.bool true) ∧ Below w.heap.size w w' := by
  have HG := Lib.hid hg
  clear hg
  have b00 := below_two w (.cells #[.slice A1 n1 c1, .slice A2 n2 c2, .slice A3 n3 c3] 26) (.cells #[.slice A4 n4 c4, .int .i64 x.preempts, .int .i64 x.shifts] 29)
  have HG0 := Lib.hid (HG.out.below b00 (Nat.le_refl _))
  go_enter Tryd.func3, Tryd.ntmps3
  go_wp2_with fail
  refine (up_any check_holds _ HG0.out).mono ?_
  rintro e w1 ⟨rfl, hb1⟩
  have k1 : Below (w.heap.size + 2) ((w.alloc (.cells #[.slice A1 n1 c1, .slice A2 n2 c2, .slice A3 n3 c3] 26)).alloc (.cells #[.slice A4 n4 c4, .int .i64 x.preempts, .int .i64 x.shifts] 29)) w1 := hb1.mono (by simp)
  obtain ⟨⟨b0, b1, b2⟩, b3, b4, b5⟩ := box2_cells k1
  have hz1 : w.heap.size + 2 ≤ w1.heap.size := by have := k1.size; simpa using this
  go_wp2_with fail
  refine (few_any _ _ _ _ _ _ _ _ _ _).mono ?_
  rintro e w2 ⟨rfl, hb2⟩
  have k2 := k1.trans (hb2.mono (show w.heap.size + 2 ≤ w1.heap.size by omega))
  obtain ⟨⟨d0, d1, d2⟩, d3, d4, d5⟩ := box2_cells k2
  have kw2 : Below w.heap.size w w2 := b00.trans (k2.mono (by omega))
  clear b0 b1 b2 b3 b4 b5
  by_cases hf : n1 ≤ 40 ∧ n2 ≤ 40 ∧ n3 ≤ 40
  · have hd : decide (n1 ≤ 40 ∧ n2 ≤ 40 ∧ n3 ≤ 40) = true := decide_eq_true hf
    have h4 : 40 < n4 := by omega
    have d4' : decide ((40 : Int) < (n4 : Int)) = true := decide_eq_true (by omega)
    clear hf h
    go_wp2
    go_ret
    exact ⟨rfl, kw2⟩
  · have hd : decide (n1 ≤ 40 ∧ n2 ≤ 40 ∧ n3 ≤ 40) = false := decide_eq_false hf
    clear hf h
    go_wp2
    go_ret
    exact ⟨rfl, kw2⟩
set_option maxHeartbeats 1600000 in
set_option maxRecDepth 100000 in
theorem clusterFinds_long (x : SpecD) (A1 A2 A3 A4 : Option Addr) (n1 c1 n2 c2 n3 c3 n4 c4 : Nat) (id : Int) (w : World) (hg : Laid w) (h : 40 < n1 ∨ 40 < n2 ∨ 40 < n3 ∨ 40 < n4) :
    Calls Tryd.prog 4 #[snapV A1 A2 A3 n1 c1 n2 c2 n3 c3, specV A4 n4 c4 x, .int .i64 id] w fun e w' => e = .returned (.bool true) ∧ Below w.heap.size w w' := by
  have HG := Lib.hid hg
  clear hg
  have b00 := below_two w (.cells #[.slice A1 n1 c1, .slice A2 n2 c2, .slice A3 n3 c3] 26) (.cells #[.slice A4 n4 c4, .int .i64 x.preempts, .int .i64 x.shifts] 29)
  have HG0 := Lib.hid (HG.out.below b00 (Nat.le_refl _))
  go_enter Tryd.func4, Tryd.ntmps4
  go_wp2_with fail
  refine (up_any check_holds _ HG0.out).mono ?_
  rintro e w1 ⟨rfl, hb1⟩
  have k1 : Below (w.heap.size + 2) ((w.alloc (.cells #[.slice A1 n1 c1, .slice A2 n2 c2, .slice A3 n3 c3] 26)).alloc (.cells #[.slice A4 n4 c4, .int .i64 x.preempts, .int .i64 x.shifts] 29)) w1 := hb1.mono (by simp)
  obtain ⟨⟨b0, b1, b2⟩, b3, b4, b5⟩ := box2_cells k1
  have hz1 : w.heap.size + 2 ≤ w1.heap.size := by have := k1.size; simpa using this
  go_wp2_with fail
  refine (few_any _ _ _ _ _ _ _ _ _ _).mono ?_
  rintro e w2 ⟨rfl, hb2⟩
  have k2 := k1.trans (hb2.mono (show w.heap.size + 2 ≤ w1.heap.size by omega))
  obtain ⟨⟨d0, d1, d2⟩, d3, d4, d5⟩ := box2_cells k2
  have kw2 : Below w.heap.size w w2 := b00.trans (k2.mono (by omega))
  clear b0 b1 b2 b3 b4 b5
  by_cases hf : n1 ≤ 40 ∧ n2 ≤ 40 ∧ n3 ≤ 40
  · have hd : decide (n1 ≤ 40 ∧ n2 ≤ 40 ∧ n3 ≤ 40) = true := decide_eq_true hf
    have h4 : 40 < n4 := by omega
    have d4' : decide ((40 : Int) < (n4 : Int)) = true := decide_eq_true (by omega)
    clear hf h
    go_wp2
    go_ret
    exact ⟨rfl, kw2⟩
  · have hd : decide (n1 ≤ 40 ∧ n2 ≤ 40 ∧ n3 ≤ 40) = false := decide_eq_false hf
    clear hf h
    go_wp2
    go_ret
    exact ⟨rfl, kw2⟩
set_option maxHeartbeats 1600000 in
theorem clusterFewer_long (A1 A2 A3 : Option Addr) (n1 c1 n2 c2 n3 c3 : Nat) (n : Int) (w : World) (hg : Laid w) (h : 40 < n1 ∨ 40 < n2 ∨ 40 < n3 ∨ n < 0 ∨ (n3 : Int) < n) :
    Calls Tryd.prog 5 #[snapV A1 A2 A3 n1 c1 n2 c2 n3 c3, .int .i64 n] w fun e w' => e = .returned (.bool true) ∧ Below w.heap.size w w' := by
  have HG := Lib.hid hg
  clear hg
  have b00 : Below w.heap.size w (w.alloc (.cells #[.slice A1 n1 c1, .slice A2 n2 c2, .slice A3 n3 c3] 26)) := (Below.refl _ w).alloc (Nat.le_refl _) _
  have HG0 := Lib.hid (HG.out.below b00 (Nat.le_refl _))
  go_enter Tryd.func5, Tryd.ntmps5
  go_wp2_with fail
  refine (up_any check_holds _ HG0.out).mono ?_
  rintro e w1 ⟨rfl, hb1⟩
  have k1 : Below (w.heap.size + 1) (w.alloc (.cells #[.slice A1 n1 c1, .slice A2 n2 c2, .slice A3 n3 c3] 26)) w1 := hb1.mono (by simp)
  obtain ⟨b0, b1, b2⟩ := box_cells k1
  have hz1 : w.heap.size + 1 ≤ w1.heap.size := by have := k1.size; simpa using this
  go_wp2_with fail
  refine (few_any _ _ _ _ _ _ _ _ _ _).mono ?_
  rintro e w2 ⟨rfl, hb2⟩
  have k2 := k1.trans (hb2.mono (show w.heap.size + 1 ≤ w1.heap.size by omega))
  obtain ⟨d0, d1, d2⟩ := box_cells k2
  have kw2 : Below w.heap.size w w2 := b00.trans (k2.mono (by omega))
  clear b0 b1 b2
  by_cases hf : n1 ≤ 40 ∧ n2 ≤ 40 ∧ n3 ≤ 40
  · have hd : decide (n1 ≤ 40 ∧ n2 ≤ 40 ∧ n3 ≤ 40) = true := decide_eq_true hf
    by_cases h1 : n < 0
    · have e1 : decide (n < 0) = true := decide_eq_true h1
      clear hf h
      go_wp2
      go_ret
      exact ⟨rfl, kw2⟩
    · have e1 : decide (n < 0) = false := decide_eq_false h1
      have e2 : decide ((n3 : Int) < n) = true := decide_eq_true (by omega)
      clear hf h
      go_wp2
      go_ret
      exact ⟨rfl, kw2⟩
  · have hd : decide (n1 ≤ 40 ∧ n2 ≤ 40 ∧ n3 ≤ 40) = false := decide_eq_false hf
    clear hf h
    go_wp2
    go_ret
    exact ⟨rfl, kw2⟩
set_option maxHeartbeats 1600000 in
set_option maxRecDepth 100000 in
theorem clusterFound_long (A1 A2 A3 : Option Addr) (n1 c1 n2 c2 n3 c3 : Nat) (w : World) (hg : Laid w) (h : 40 < n1 ∨ 40 < n2 ∨ 40 < n3) :
    Calls Tryd.prog 6 #[snapV A1 A2 A3 n1 c1 n2 c2 n3 c3] w fun e w' => e = .returned (.bool true) ∧ Below w.heap.size w w' := by
  have HG := Lib.hid hg
  clear hg
  have b00 : Below w.heap.size w (w.alloc (.cells #[.slice A1 n1 c1, .slice A2 n2 c2, .slice A3 n3 c3] 26)) := (Below.refl _ w).alloc (Nat.le_refl _) _
  have HG0 := Lib.hid (HG.out.below b00 (Nat.le_refl _))
  go_enter Tryd.func6, Tryd.ntmps6
  go_wp2_with fail
  refine (up_any check_holds _ HG0.out).mono ?_
  rintro e w1 ⟨rfl, hb1⟩
  have k1 : Below (w.heap.size + 1) (w.alloc (.cells #[.slice A1 n1 c1, .slice A2 n2 c2, .slice A3 n3 c3] 26)) w1 := hb1.mono (by simp)
  obtain ⟨b0, b1, b2⟩ := box_cells k1
  have hz1 : w.heap.size + 1 ≤ w1.heap.size := by have := k1.size; simpa using this
  go_wp2_with fail
  refine (few_any _ _ _ _ _ _ _ _ _ _).mono ?_
  rintro e w2 ⟨rfl, hb2⟩
  have k2 := k1.trans (hb2.mono (show w.heap.size + 1 ≤ w1.heap.size by omega))
  obtain ⟨d0, d1, d2⟩ := box_cells k2
  have kw2 : Below w.heap.size w w2 := b00.trans (k2.mono (by omega))
  clear b0 b1 b2
  have hd : decide (n1 ≤ 40 ∧ n2 ≤ 40 ∧ n3 ≤ 40) = false := decide_eq_false (by omega)
  clear h
  go_wp2
  go_ret
  exact ⟨rfl, kw2⟩
end Go.Proofs.YtaeklohgheildaaDoor
