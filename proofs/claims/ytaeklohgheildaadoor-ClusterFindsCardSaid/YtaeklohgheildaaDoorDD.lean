/- The program's nodeFault and loadFault. -/
import Derived.Test.YtaeklohgheildaaDoorDA
namespace Go.Proofs.YtaeklohgheildaaDoor
open Go.RowKit
set_option linter.unusedVariables false

def nodeF (x : NodeD) : Int := if inB x.zone 1 8 = true ∧ x.held.le x.cap = true then 0 else 1
def loadF (x : LoadD) : Int := if countOk x.skew = true ∧ countOk x.min = true ∧ countOk x.max = true ∧ x.min ≤ x.max then 0 else 1

set_option maxHeartbeats 1600000 in
theorem nodeFault_any (x : NodeD) (w : World) : Calls Tryd.prog 31 #[aggN x] w fun e w' => e = .returned (.int .i64 (nodeF x)) ∧ Below w.heap.size w w' := by
  have b00 : Below w.heap.size w (w.alloc (.cells #[.int .i64 x.id, .int .i64 x.zone, .int .u64 x.cap.a, .int .u64 x.cap.b, .int .u64 x.cap.c, .int .u64 x.cap.d, .int .u64 x.held.a, .int .u64 x.held.b, .int .u64 x.held.c, .int .u64 x.held.d] 45)) := (Below.refl _ _).alloc (Nat.le_refl _) _
  go_enter Tryd.func31, Tryd.ntmps31
  go_wp2_with fail
  refine (within_any _ _ _ _).mono ?_
  rintro e w' ⟨rfl, rfl⟩
  by_cases h1 : inB x.zone 1 8 = true
  · go_wp2_with fail
    refine (fits_any x.held x.cap _).mono ?_
    rintro e w2 ⟨rfl, hb2⟩
    have kk : Below w.heap.size w w2 := b00.trans (hb2.mono (by simp))
    by_cases h2 : x.held.le x.cap = true
    · have HE := Lib.hid (show nodeF x = 0 by simp [nodeF, h1, h2])
      go_wp2
      go_ret
      exact ⟨ret_int HE.out.symm, kk⟩
    · have h2' : x.held.le x.cap = false := by simpa using h2
      have HE := Lib.hid (show nodeF x = 1 by simp [nodeF, h2'])
      clear h2
      go_wp2
      go_ret
      exact ⟨ret_int HE.out.symm, kk⟩
  · have h1' : inB x.zone 1 8 = false := by simpa using h1
    have HE := Lib.hid (show nodeF x = 1 by simp [nodeF, h1'])
    clear h1
    go_wp2
    go_ret
    exact ⟨ret_int HE.out.symm, b00⟩

set_option maxHeartbeats 1600000 in
theorem loadFault_any (x : LoadD) (w : World) : Calls Tryd.prog 34 #[aggL x] w fun e w' => e = .returned (.int .i64 (loadF x)) ∧ Below w.heap.size w w' := by
  have b00 : Below w.heap.size w (w.alloc (.cells #[.int .i64 x.id, .bool x.apart, .int .i64 x.skew, .int .i64 x.min, .int .i64 x.max] 49)) := (Below.refl _ _).alloc (Nat.le_refl _) _
  go_enter Tryd.func34, Tryd.ntmps34
  go_wp2_with fail
  refine (isCount_any _ _).mono ?_
  rintro e w' ⟨rfl, rfl⟩
  by_cases h1 : countOk x.skew = true
  · go_wp2_with fail
    refine (isCount_any _ _).mono ?_
    rintro e w' ⟨rfl, rfl⟩
    by_cases h2 : countOk x.min = true
    · go_wp2_with fail
      refine (isCount_any _ _).mono ?_
      rintro e w' ⟨rfl, rfl⟩
      by_cases h3 : countOk x.max = true
      · by_cases h4 : x.max < x.min
        · have HE := Lib.hid (show loadF x = 1 by unfold loadF; rw [if_neg (by omega)])
          have hd : decide (x.max < x.min) = true := decide_eq_true h4
          go_wp2
          go_ret
          exact ⟨ret_int HE.out.symm, b00⟩
        · have HE := Lib.hid (show loadF x = 0 by unfold loadF; rw [if_pos ⟨h1, h2, h3, by omega⟩])
          have hd : decide (x.max < x.min) = false := decide_eq_false h4
          go_wp2
          go_ret
          exact ⟨ret_int HE.out.symm, b00⟩
      · have h3' : countOk x.max = false := by simpa using h3
        have HE := Lib.hid (show loadF x = 1 by simp [loadF, h3'])
        clear h3
        go_wp2
        go_ret
        exact ⟨ret_int HE.out.symm, b00⟩
    · have h2' : countOk x.min = false := by simpa using h2
      have HE := Lib.hid (show loadF x = 1 by simp [loadF, h2'])
      clear h2
      go_wp2
      go_ret
      exact ⟨ret_int HE.out.symm, b00⟩
  · have h1' : countOk x.skew = false := by simpa using h1
    have HE := Lib.hid (show loadF x = 1 by simp [loadF, h1'])
    clear h1
    go_wp2
    go_ret
    exact ⟨ret_int HE.out.symm, b00⟩
end Go.Proofs.YtaeklohgheildaaDoor
