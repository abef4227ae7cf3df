/- Joined texts, part 23: XM. -/
import Derived.Test.YtiinnoahopnkcaaGreatDoorZ22
import Derived.Test.YtiinnoahopnkcaaGreatDoorZ03

namespace Go.Proofs.YtiinnoahopnkcaaGreatDoor
set_option linter.unusedSimpArgs false
open Go.RowKit
set_option linter.unusedVariables false

theorem walkD_R {s : SnapD} {x : SpecD} {l : List MoveD} (h : (fair s x).1 = 0) : walkD s x l = ((walkR s x l).1, (walkR s x l).2.1, ((walkR s x l).2.2, -1)) := by
  by_cases h2 : codeS s.nodes s.loads x (firstD s) = 0
  · rw [walkD_yes h h2, walkR_yes h2]
  · rw [walkD_no2 h h2, walkR_no h2]

set_option maxHeartbeats 12800000 in
set_option maxRecDepth 100000 in
theorem stepWalks_in (s : SnapD) (x : SpecD) (l : List MoveD) (hs : s.Ok) (hx : ∀ a ∈ x.wants, a.Ok) (hi1 : I64 x.preempts) (hi2 : I64 x.shifts) (A1 A2 A3 A5 A6 : Option Addr) (n1 c1 n2 c2 n3 c3 n5 c5 n6 c6 : Nat) (w : World) (hg : Laid w)
    (h1 : n1 = s.nodes.length ∧ n1 ≤ c1 ∧ c1 ≤ maxLen) (h2 : n2 = s.loads.length ∧ n2 ≤ c2 ∧ c2 ≤ maxLen) (h3 : n3 = s.pods.length ∧ n3 ≤ c3 ∧ c3 ≤ maxLen ∧ (A3 = none → c3 = 0)) (h5 : n5 = x.wants.length ∧ n5 ≤ c5 ∧ c5 ≤ maxLen) (h6 : n6 = l.length ∧ n6 ≤ c6 ∧ c6 ≤ maxLen)
    (hr1 : Recs 10 cellsN w w.heap.size A1 s.nodes) (hr2 : Recs 5 cellsL w w.heap.size A2 s.loads) (hr3 : Recs 8 cellsP w w.heap.size A3 s.pods) (hr5 : Recs 6 cellsW w w.heap.size A5 x.wants) (hr6 : Recs 4 cellsM w w.heap.size A6 l) :
    Calls Tryz.prog 3 #[.agg #[.slice A1 n1 c1, .slice A2 n2 c2, .slice A3 n3 c3], .agg #[.slice A5 n5 c5, .int .i64 x.preempts, .int .i64 x.shifts], .slice A6 n6 c6] w fun e w' => e = .returned (.bool true) ∧ Below w.heap.size w w' := by
  have T0 := T2.new w [.slice A1 n1 c1, .slice A2 n2 c2, .slice A3 n3 c3] [.slice A5 n5 c5, .int .i64 x.preempts, .int .i64 x.shifts] 26 29
  have HUP := Lib.hid (up12_any _ (Laid.below hg T0.below (Nat.le_refl _)))
  have HS : Hid (n1 ≤ 40 → n2 ≤ 40 → n3 ≤ 40 → n5 ≤ 40 → WalkArgs s x A1 A2 A3 A5 n1 c1 n2 c2 n3 c3 n5 c5 w) := fun l1 l2 l3 l5 =>
    ⟨hg, hs, hx, hi1, hi2, ⟨h1.1, l1, h1.2.1, h1.2.2⟩, ⟨h2.1, l2, h2.2.1, h2.2.2⟩, ⟨h3.1, l3, h3.2.1, h3.2.2.1, h3.2.2.2⟩, ⟨h5.1, l5, h5.2.1, h5.2.2⟩, hr1, hr2, hr3, hr5⟩
  have HG := Lib.hid hg
  have HR6 := Lib.hid hr6
  have HN6 := Lib.hid h6.1
  have HT0 := Lib.hid T0
  clear hg hs hx hi1 hi2 h1 h2 h3 h5 h6 hr1 hr2 hr3 hr5 hr6 T0
  go_enter Tryz.func3, Tryz.ntmps3
  go_wp2_with fail
  refine HUP.out.mono ?_
  rintro e w1 ⟨rfl, hb1⟩
  have T1 := HT0.out.keep hb1
  have HT1 := Lib.hid T1
  clear hb1 HT0 HUP
  obtain ⟨a0, a1, a2, a3⟩ := T1.one.cells3
  obtain ⟨b0, b1, b2, b3⟩ := T1.two.cells3
  clear T1
  go_wp2_with fail
  refine (few_any _ _ _ _ _ _ _ _ _ _).mono ?_
  rintro e w2 ⟨rfl, hb2⟩
  have T2' := HT1.out.keep hb2
  have HK2 := Lib.hid T2'.below
  have HT2 := Lib.hid T2'
  clear hb2 HT1 a0 a1 a2 a3 b0 b1 b2 b3
  obtain ⟨a0, a1, a2, a3⟩ := T2'.one.cells3
  obtain ⟨b0, b1, b2, b3⟩ := T2'.two.cells3
  clear T2'
  by_cases hfw : n1 ≤ 40 ∧ n2 ≤ 40 ∧ n3 ≤ 40
  case neg =>
    have hfew : decide (n1 ≤ 40 ∧ n2 ≤ 40 ∧ n3 ≤ 40) = false := decide_eq_false hfw
    rw [hfew]
    clear hfew hfw
    go_wp2
    go_ret
    exact ⟨rfl, HK2.out⟩
  have hfew : decide (n1 ≤ 40 ∧ n2 ≤ 40 ∧ n3 ≤ 40) = true := decide_eq_true hfw
  rw [hfew]
  obtain ⟨hl1, hl2, hl3⟩ := hfw
  clear hfew
  by_cases q1 : (40 : Int) < (n5 : Int)
  · have d1 : decide ((40 : Int) < (n5 : Int)) = true := decide_eq_true q1
    clear q1
    go_wp2
    go_ret
    exact ⟨rfl, HK2.out⟩
  have e1 : decide ((40 : Int) < (n5 : Int)) = false := decide_eq_false q1
  by_cases q2 : (60 : Int) < (n6 : Int)
  · have d2 : decide ((60 : Int) < (n6 : Int)) = true := decide_eq_true q2
    clear q1 q2
    go_wp2
    go_ret
    exact ⟨rfl, HK2.out⟩
  have e2 : decide ((60 : Int) < (n6 : Int)) = false := decide_eq_false q2
  have hl6 : n6 ≤ 60 := by omega
  have HA := Lib.hid (HS.out hl1 hl2 hl3 (by omega))
  have HW1 : Hid (∀ V, Below w.heap.size w V → Calls Tryz.prog 7 #[.agg #[.slice A1 n1 c1, .slice A2 n2 c2, .slice A3 n3 c3], .agg #[.slice A5 n5 c5, .int .i64 x.preempts, .int .i64 x.shifts], .slice A6 n6 c6] V (WalkTo (walkD s x l) V)) := fun V hV =>
    stepWalk_any s x l A1 A2 A3 A5 A6 n1 c1 n2 c2 n3 c3 n5 c5 n6 c6 V (HA.out.at hV) HN6.out (by omega) ((HR6.out.below hV (Nat.le_refl _)).more hV.size)
  have HW2 : Hid (∀ V, Below w.heap.size w V → Calls Tryz.prog 11 #[.agg #[.slice A1 n1 c1, .slice A2 n2 c2, .slice A3 n3 c3], .agg #[.slice A5 n5 c5, .int .i64 x.preempts, .int .i64 x.shifts], .slice A6 n6 c6] V (RWalkTo (walkR s x l) V)) := fun V hV =>
    rWalk11_any s x l A1 A2 A3 A5 A6 n1 c1 n2 c2 n3 c3 n5 c5 n6 c6 V (HA.out.at hV) HN6.out (by omega) ((HR6.out.below hV (Nat.le_refl _)).more hV.size)
  have HFR : Hid (∀ V, Below w.heap.size w V → Calls Tryz.prog 8 #[.agg #[.slice A1 n1 c1, .slice A2 n2 c2, .slice A3 n3 c3], .agg #[.slice A5 n5 c5, .int .i64 x.preempts, .int .i64 x.shifts]] V fun e w' => e = .returned (.tuple #[.int .i64 (fair s x).1, .int .i64 (fair s x).2]) ∧ Below V.heap.size V w') := fun V hV => by
    have k := HA.out.at hV
    exact rFair_any s x A1 A2 A3 A5 n1 c1 n2 c2 n3 c3 n5 c5 V.heap.size V k.s1.1 k.s2.1 k.s3.1 k.s5.1 k.s1.2.1 k.s2.2.1 k.s3.2.1 k.s5.2.1 (Nat.le_refl _) k.r1 k.r2 k.r3 k.r5
  have HLEN : Hid ((walkR s x l).1.pods.length ≤ 40) := by
    have k := HA.out
    have h3 := k.s3.1
    have h4 := k.s3.2.1
    by_cases h2 : codeS s.nodes s.loads x (firstD s) = 0
    · rw [walkR_yes h2]
      have := (walk_ok (ls := s.loads) k.ok.1 k.wo l 0 (firstD s) k.ok.2.2).2
      show (walkK s.nodes s.loads x l 0 (firstD s)).1.pods.length ≤ 40
      rw [this]; show s.pods.length ≤ 40; omega
    · rw [walkR_no h2]; exact Nat.zero_le _
  have HD1 := Lib.hid (walkD_no1 (s := s) (x := x) (l := l))
  have HD2 := Lib.hid (walkD_R (s := s) (x := x) (l := l))
  generalize walkD s x l = z at *
  generalize walkR s x l = y at *
  generalize fair s x = p at *
  generalize x.preempts = x1 at *
  generalize x.shifts = x2 at *
  obtain ⟨zt, zm, zp⟩ := z
  clear q1 q2 HS HA
  go_wp2_with fail
  refine (HW1.out _ HK2.out).mono ?_
  rintro e w3 ⟨A7, c7, u, rfl, ho, hfr, hu, hb3⟩
  have k3 : Below w3.heap.size w3 (w3.alloc (.cells #[.slice A7 zt.pods.length c7, .int .i64 zt.preempts, .int .i64 zt.shifts] 34)) := (Below.refl _ w3).alloc (Nat.le_refl _) _
  have B3 : Bf (w3.alloc (.cells #[.slice A7 zt.pods.length c7, .int .i64 zt.preempts, .int .i64 zt.shifts] 34)) w3.heap.size [.slice A7 zt.pods.length c7, .int .i64 zt.preempts, .int .i64 zt.shifts] := Bf.new w3 _ _ rfl
  have T3' := (HT2.out.keep hb3).keep k3
  have HU3 := Lib.hid (hu.below k3)
  have HO3 := Lib.hid (ho.later k3)
  clear hu hb3 k3 ho hfr HT2 HK2 a0 a1 a2 a3 b0 b1 b2 b3 e1 e2 HW1
  obtain ⟨a0, a1, a2, a3⟩ := T3'.one.cells3
  obtain ⟨b0, b1, b2, b3⟩ := T3'.two.cells3
  go_upto_region 6 with fail
  generalize (w3.alloc (.cells #[.slice A7 zt.pods.length c7, .int .i64 zt.preempts, .int .i64 zt.shifts] 34)) = W at *
  generalize w3.heap.size = g at *
  have HT3 := Lib.hid T3'
  have HB3 := Lib.hid B3
  have HFF := HFR.out W T3'.below
  clear T3' B3 HFR
  go_wp2_with fail
  refine HFF.mono ?_
  rintro e w4 ⟨rfl, hb4⟩
  have T4 := HT3.out.keep hb4
  have HT4 := Lib.hid T4
  have HB4 := Lib.hid (HB3.out.below hb4 HB3.out.lt)
  have HU4 := Lib.hid (HU3.out.below hb4)
  have HO4 := Lib.hid (HO3.out.later hb4)
  clear HFF hb4 HT3 HB3 HU3 HO3 a0 a1 a2 a3 b0 b1 b2 b3
  obtain ⟨a0, a1, a2, a3⟩ := T4.one.cells3
  obtain ⟨b0, b1, b2, b3⟩ := T4.two.cells3
  obtain ⟨f0, f1, f2, f3⟩ := HB4.out.cells3
  clear T4
  by_cases h0 : p.1 = 0
  case neg =>
    have hz := HD1.out h0
    injection hz with hz1 hz2
    injection hz2 with hz2 hz3
    subst hz1 hz2 hz3
    have hd : (zp.1 != 0) = true := by simp [h0]
    have HTO := Lib.hid (told_any zp _ u w4 (Laid.below HG.out HT4.out.below (Nat.le_refl _)) HU4.out)
    clear h0 HW2 HD1 HD2 HLEN
    go_wp2_with fail
    refine HTO.out.mono ?_
    rintro e w5 ⟨rfl, hb5⟩
    have HK5 := Lib.hid (HT4.out.keep hb5).below
    have HB5 := Lib.hid (HB4.out.below hb5 HB4.out.lt)
    have HO5 := Lib.hid (HO4.out.later hb5)
    clear hb5 HTO HT4 HB4 HU4 HO4 a0 a1 a2 a3 b0 b1 b2 b3 f0 f1 f2 f3
    obtain ⟨f0, f1, f2, f3⟩ := HB5.out.cells3
    have HSA := Lib.hid (rSame05_any noState noState A7 none 0 c7 0 0 w5 rfl (by decide) rfl (by decide) HO5.out.2.2.2 Recs.nil)
    have HSE : Hid (stateEq noState noState = true) := stateEq_self _
    rw [HSE.out] at HSA
    go_wp2_with fail
    refine HSA.out.mono ?_
    rintro e w6 ⟨rfl, hb6⟩
    have HK6 := Lib.hid (HK5.out.trans (hb6.mono HK5.out.size))
    clear hb6 HSA f0 f1 f2 f3
    go_wp2
    go_ret
    exact ⟨rfl, HK6.out⟩
  have hd : (p.1 != 0) = false := by simp [h0]
  have hz := HD2.out h0
  injection hz with hz1 hz2
  injection hz2 with hz2 hz3
  subst hz1 hz2 hz3
  obtain ⟨yt, ym, yc⟩ := y
  try dsimp only at HLEN HO4 HB4 HU4 f0 f1 f2 f3
  have HRW := Lib.hid (HW2.out w4 HT4.out.below)
  have HLL := Lib.hid HLEN.out
  clear h0 HW2 HD1 HD2
  go_wp2_with fail
  refine HRW.out.mono ?_
  rintro e w5 ⟨_, rfl, A9, c9, rfl, ho9, hfr9, hb9⟩
  try dsimp only at ho9
  have k5 : Below w5.heap.size w5 (w5.alloc (.cells #[.slice A9 yt.pods.length c9, .int .i64 yt.preempts, .int .i64 yt.shifts] 34)) := (Below.refl _ w5).alloc (Nat.le_refl _) _
  have B5 : Bf (w5.alloc (.cells #[.slice A9 yt.pods.length c9, .int .i64 yt.preempts, .int .i64 yt.shifts] 34)) w5.heap.size [.slice A9 yt.pods.length c9, .int .i64 yt.preempts, .int .i64 yt.shifts] := Bf.new w5 _ _ rfl
  have HK5 := Lib.hid ((HT4.out.keep hb9).keep k5).below
  have HB5 := Lib.hid ((HB4.out.below hb9 HB4.out.lt).below k5 (HB4.out.below hb9 HB4.out.lt).lt)
  have HU5 := Lib.hid ((HU4.out.below hb9).below k5)
  have HO5 := Lib.hid ((HO4.out.later hb9).later k5)
  have HQ5 := Lib.hid (ho9.later k5)
  go_upto_region 10 with fail
  generalize (w5.alloc (.cells #[.slice A9 yt.pods.length c9, .int .i64 yt.preempts, .int .i64 yt.shifts] 34)) = V at *
  generalize w5.heap.size = h at B5 ⊢
  have HC1 := Lib.hid (ofCode_any (yc, -1) rfl u V (errIs_of HU5.out rfl))
  have HSA := Lib.hid (rSame05_any yt yt A7 A9 yt.pods.length c7 yt.pods.length c9 V rfl (by have := HLL.out; omega) rfl (by have := HLL.out; omega) HO5.out.2.2.2 HQ5.out.2.2.2)
  rw [stateEq_self] at HSA
  have hcc : (yc == yc) = true := by simp
  have hmm : ((ym : Int) == (ym : Int)) = true := by simp
  clear hb9 k5 ho9 hfr9 HT4 HB4 HU4 HO4 HRW a0 a1 a2 a3 b0 b1 b2 b3 f0 f1 f2 f3
  obtain ⟨f0, f1, f2, f3⟩ := HB5.out.cells3
  obtain ⟨q0, q1, q2, q3⟩ := B5.cells3
  clear B5
  go_wp2_with fail
  refine HC1.out.mono ?_
  rintro e w6 ⟨rfl, rfl⟩
  go_wp2_with fail
  refine HSA.out.mono ?_
  rintro e w7 ⟨rfl, hb7⟩
  have HK7 := Lib.hid (HK5.out.trans (hb7.mono HK5.out.size))
  clear hb7 HSA HC1 f0 f1 f2 f3 q0 q1 q2 q3
  go_wp2
  go_ret
  exact ⟨rfl, HK7.out⟩
end Go.Proofs.YtiinnoahopnkcaaGreatDoor
