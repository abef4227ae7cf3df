/- Joined texts, part 16: QI. -/
import Derived.Test.YtabebhaclkhhpaaGreatDoorZ15
import Derived.Test.YtabebhaclkhhpaaGreatDoorZ02
import Derived.Deep.RegionHeld3
import Derived.Deep.QuietTactic
import Derived.BigQuiet
import Derived.IntWalk
import Derived.Deep.CutRange

namespace Go.Proofs.YtabebhaclkhhpaaGreatDoor
set_option linter.unusedSimpArgs false
open Go.RowKit
set_option linter.unusedVariables false

theorem fewQ {n1 n2 n3 n4 n5 : Nat} (h : few05 n1 n2 n3 n4 n5 = true) : n1 ≤ 40 ∧ n2 ≤ 40 ∧ n3 ≤ 40 ∧ n4 ≤ 40 ∧ n5 ≤ 40 := by
  simp [few05] at h
  omega
theorem T3.drawsQ {a b c : List Value} {w V : World} (h : T3 a b c w V) (q : Nat) : T3 a b c w (V.drewN q) := h.keep (below_draws (Below.refl _ _) q)
theorem rises_oneQ (l : List PodD) : RisesP (l.take 1) := by
  unfold RisesP
  cases l with
  | nil => simp
  | cons x r => simp
def RiseRelQ (l : List PodD) (a b c : List Value) (w : World) (i : Value) (wr : World) : Prop := ∃ k : Nat, 1 ≤ k ∧ (k ≤ l.length ∨ k = 1) ∧ i = .int .i64 k ∧ RisesP (l.take k) ∧ T3 a b c w wr
theorem TidyArgs.on {ns : List NodeD} {ls : List LoadD} {x : SpecD} {t u : StateD} {A1 A2 A4 A5 A : Option Addr} {n1 n2 n4 c4 n5 c : Nat} {w V : World} (k : TidyArgs ns ls x t A1 A2 A4 A5 n1 n2 n4 c4 n5 w) (hV : Below w.heap.size w V) (ho : Out 8 cellsP V u.pods A c) (hok : ∀ p ∈ u.pods, p.Ok) (hl : u.pods.length = t.pods.length) :
    TidyArgs ns ls x u A1 A2 A A5 n1 n2 u.pods.length c n5 V := by
  have k0 := k.at hV
  exact ⟨⟨k0.a.g, k0.a.no, hok, k0.a.e1, k0.a.l1, k0.a.r1, k0.a.e2, k0.a.l2, k0.a.r2, rfl, by rw [hl, ← k0.a.e4]; exact k0.a.l4, ho.1, ho.recs⟩, ho.2.2.1, k0.e5, k0.l5, k0.r5, k0.xo⟩
theorem code_of_ok {ns : List NodeD} {ls : List LoadD} {x : SpecD} {t : StateD} (h : okP (whyP (fiveP ns ls t.pods x.preempts x.shifts t.preempts t.shifts)) = true) : codeS ns ls x t = 0 := by
  rw [told8_ok (told8_why _ _ _ _ _ _ _)] at h
  simpa [codeS] using h
/-- A state that is gone on from; its box is at g. -/
structure NowS (V : World) (g : Nat) (u : StateD) (A : Option Addr) (c : Nat) : Prop where
  box : Bf V g [.slice A u.pods.length c, .int .i64 u.preempts, .int .i64 u.shifts]
  out : Out 8 cellsP V u.pods A c
  off : u.pods = [] ∨ ∀ a, A = some a → a.block ≠ g
/-- What stands while the moves are gone through: wT is the world behind Tidy, g the box. -/
def LessRel (ns : List NodeD) (ls : List LoadD) (x : SpecD) (z : StateD × List MoveD) (N len : Nat) (a b c : List Value) (w wT : World) (g : Nat) (v i : Value) (wr : World) : Prop :=
  ∃ (k q : Nat) (u : StateD) (A : Option Addr) (cu : Nat), k ≤ z.2.length ∧ i = .int .i64 k ∧ v = .int .i64 (q : Nat) ∧ (usedN ns u.pods).length = q ∧ tidyD ns ls x (N - k) u = (z.1, z.2.drop k) ∧ RisesP u.pods ∧ (∀ p ∈ u.pods, p.Ok) ∧ u.pods.length = len ∧
    T3 a b c w wr ∧ Below wT.heap.size wT wr ∧ NowS wr g u A cu

set_option maxHeartbeats 25600000 in
set_option maxRecDepth 100000 in
theorem tidyLess_in (s : SnapD) (x : SpecD) (t : StateD) (most : Int) (hs : s.Ok) (hx : ∀ a ∈ x.wants, a.Ok) (hi1 : I64 x.preempts) (hi2 : I64 x.shifts) (hlo : ∀ p ∈ t.pods, p.Ok) (A1 A2 A3 A4 A5 : Option Addr) (n1 c1 n2 c2 n3 c3 n4 c4 n5 c5 : Nat) (w : World) (hg : Laid w)
    (h1 : n1 = s.nodes.length ∧ n1 ≤ c1 ∧ c1 ≤ maxLen) (h2 : n2 = s.loads.length ∧ n2 ≤ c2 ∧ c2 ≤ maxLen) (h3 : n3 = s.pods.length ∧ n3 ≤ c3 ∧ c3 ≤ maxLen ∧ (A3 = none → c3 = 0)) (h4 : n4 = x.wants.length ∧ n4 ≤ c4 ∧ c4 ≤ maxLen) (h5 : n5 = t.pods.length ∧ n5 ≤ c5 ∧ c5 ≤ maxLen ∧ (A5 = none → c5 = 0))
    (hr1 : Recs 10 cellsN w w.heap.size A1 s.nodes) (hr2 : Recs 5 cellsL w w.heap.size A2 s.loads) (hr3 : Recs 8 cellsP w w.heap.size A3 s.pods) (hr4 : Recs 6 cellsW w w.heap.size A4 x.wants) (hr5 : Recs 8 cellsP w w.heap.size A5 t.pods) :
    Calls Tryz.prog 3 #[.agg #[.slice A1 n1 c1, .slice A2 n2 c2, .slice A3 n3 c3], .agg #[.slice A4 n4 c4, .int .i64 x.preempts, .int .i64 x.shifts], .agg #[.slice A5 n5 c5, .int .i64 t.preempts, .int .i64 t.shifts], .int .i64 most] w fun e w' => e = .returned (.bool true) ∧ Below w.heap.size w w' := by
  have T0 := T3.new w [.slice A1 n1 c1, .slice A2 n2 c2, .slice A3 n3 c3] [.slice A4 n4 c4, .int .i64 x.preempts, .int .i64 x.shifts] [.slice A5 n5 c5, .int .i64 t.preempts, .int .i64 t.shifts] 26 29 31
  have HUP := Lib.hid (up16_any _ (Laid.below hg T0.below (Nat.le_refl _)))
  have HWA : Hid (n1 ≤ 40 → n2 ≤ 40 → n3 ≤ 40 → n4 ≤ 40 → WalkArgs s x A1 A2 A3 A4 n1 c1 n2 c2 n3 c3 n4 c4 w) := fun l1 l2 l3 l4 =>
    ⟨hg, hs, hx, hi1, hi2, ⟨h1.1, l1, h1.2.1, h1.2.2⟩, ⟨h2.1, l2, h2.2.1, h2.2.2⟩, ⟨h3.1, l3, h3.2.1, h3.2.2.1, h3.2.2.2⟩, ⟨h4.1, l4, h4.2.1, h4.2.2⟩, hr1, hr2, hr3, hr4⟩
  have HTA : Hid (n1 ≤ 40 → n2 ≤ 40 → n4 ≤ 40 → n5 ≤ 40 → TidyArgs s.nodes s.loads x t A1 A2 A5 A4 n1 n2 n5 c5 n4 w) := fun l1 l2 l4 l5 =>
    ⟨⟨hg, hs.1, hlo, h1.1, by omega, hr1, h2.1, by omega, hr2, h5.1, by omega, h5.2.1, hr5⟩, h5.2.2.2, h4.1, by omega, hr4, hx⟩
  have HN5 := Lib.hid h5.1
  have HR5 := Lib.hid hr5
  have HO5 : Hid (Out 8 cellsP w t.pods A5 c5) := ⟨by rw [← h5.1]; exact h5.2.1, h5.2.2.1, h5.2.2.2, hr5⟩
  have hm5 : c5 ≤ 9223372036854775807 := by have := h5.2.2.1; unfold maxLen at this; omega
  have hc5 := h5.2.1
  clear hs hx hi1 hi2 hlo hg h1 h2 h3 h4 h5 hr1 hr2 hr3 hr4 hr5
  go_enter Tryz.func3, Tryz.ntmps3
  go_wp2_with fail
  refine HUP.out.mono ?_
  rintro e w1 ⟨rfl, hb1⟩
  have T1 := T0.keep hb1
  clear hb1 T0 HUP
  obtain ⟨a0, a1, a2, a3⟩ := T1.one.cells3
  obtain ⟨b0, b1, b2, b3⟩ := T1.two.cells3
  obtain ⟨d0, d1, d2, d3⟩ := T1.three.cells3
  go_wp2_with fail
  refine (few05_any _ _ _ _ _ _ _ _ _ _ _ _ _ _ _ _ _ _ _ _).mono ?_
  rintro e w2 ⟨rfl, hb2⟩
  have T2' := T1.keep hb2
  have HT2 := Lib.hid T2'
  have HK2 := Lib.hid T2'.below
  clear hb2 T1 a0 a1 a2 a3 b0 b1 b2 b3 d0 d1 d2 d3
  cases hfw : few05 n1 n2 n3 n4 n5 with
  | false =>
    clear T2' hfw
    go_wp2
    go_ret
    exact ⟨rfl, HK2.out⟩
  | true =>
    obtain ⟨hl1, hl2, hl3, hl4, hl5⟩ := fewQ hfw
    clear hfw
    obtain ⟨d0, d1, d2, d3⟩ := T2'.three.cells3
    by_cases q1 : 60 < most
    · have e1 : decide (60 < most) = true := decide_eq_true q1
      clear q1 T2'
      go_wp2
      go_ret
      exact ⟨rfl, HK2.out⟩
    have e1 : decide (60 < most) = false := decide_eq_false q1
    by_cases q2 : 1000000 < t.shifts
    · have e2 : decide (1000000 < t.shifts) = true := decide_eq_true q2
      clear q1 q2 T2'
      go_wp2
      go_ret
      exact ⟨rfl, HK2.out⟩
    have e2 : decide (1000000 < t.shifts) = false := decide_eq_false q2
    have HMO := Lib.hid q1
    have HFA := Lib.hid ((HWA.out hl1 hl2 hl3 hl4).at HK2.out).fair
    have HA := Lib.hid (HTA.out hl1 hl2 hl4 hl5)
    obtain ⟨a0, a1, a2, a3⟩ := T2'.one.cells3
    obtain ⟨b0, b1, b2, b3⟩ := T2'.two.cells3
    clear q1 q2 T2' HWA HTA
    go_wp2_with fail
    refine HFA.out.mono ?_
    rintro e w3 ⟨u, rfl, hu, hb3⟩
    have T3' := HT2.out.keep hb3
    have HT3 := Lib.hid T3'
    have HK3 := Lib.hid T3'.below
    clear hb3 HT2 HK2 HFA a0 a1 a2 a3 b0 b1 b2 b3 d0 d1 d2 d3
    obtain ⟨d0, d1, d2, d3⟩ := T3'.three.cells3
    clear T3'
    cases hok : okP (fair s x) with
    | false =>
      obtain ⟨ty, v, rfl⟩ := errIs_iface hu hok
      clear hu hok
      go_wp2
      go_ret
      exact ⟨rfl, HK3.out⟩
    | true =>
      have hn := hu.nil hok
      subst hn
      clear hu hok
      by_cases q3 : (14 : Int) < (n5 : Int)
      · have e3 : decide ((14 : Int) < (n5 : Int)) = true := decide_eq_true q3
        clear q3
        go_wp2
        go_ret
        exact ⟨rfl, HK3.out⟩
      have e3 : decide ((14 : Int) < (n5 : Int)) = false := decide_eq_false q3
      have hn14 : n5 ≤ 14 := by omega
      clear q3
      go_wp2
      clear d0 d1 d2 d3 e1 e2 e3
      go_loopw [11] (RiseRelQ t.pods [.slice A1 n1 c1, .slice A2 n2 c2, .slice A3 n3 c3] [.slice A4 n4 c4, .int .i64 x.preempts, .int .i64 x.shifts] [.slice A5 n5 c5, .int .i64 t.preempts, .int .i64 t.shifts] w) (fun i _ => n5 - (intOf i).toNat)
      case atStart => exact ⟨1, by omega, .inr rfl, rfl, rises_oneQ _, HT3.out⟩
      case round =>
        obtain ⟨k, hk1, hk2, rfl, hri, T1⟩ := hrel
        have HT1 := Lib.hid T1
        have HRI := Lib.hid hri
        obtain ⟨d0, d1, d2, d3⟩ := T1.three.cells3
        clear hri HT3 HK3
        by_cases hlt : k < n5
        · have hkl : k < t.pods.length := by have := HN5.out; omega
          obtain ⟨b, o, rfl, hb, he⟩ := HR5.out.at hkl
          have kwr := T1.below
          generalize hx : t.pods[k] = x1 at *
          have HX := Lib.hid hx
          have e0 : wr.cell? ⟨b, o + k * 8, none⟩ = some (.int .i64 x1.id) := (kwr.cell (p := ⟨b, o + k * 8, none⟩) hb).trans (he 0 _ rfl)
          have hbw : b < wr.heap.size := Nat.lt_of_lt_of_le hb kwr.size
          clear he hx
          obtain ⟨j, rfl⟩ : ∃ j, k = j + 1 := ⟨k - 1, by omega⟩
          have hjl : j < t.pods.length := by omega
          obtain ⟨b', o', h1, _, hf⟩ := HR5.out.at hjl
          injection h1 with h1
          injection h1 with h1 h2 _
          subst h1 h2
          generalize hy : t.pods[j] = y at *
          have HY := Lib.hid hy
          have f0 : wr.cell? ⟨b, o + j * 8, none⟩ = some (.int .i64 y.id) := (kwr.cell (p := ⟨b, o + j * 8, none⟩) hb).trans (hf 0 _ rfl)
          have hj0 : (0 : Int) ≤ (j : Int) := by omega
          have hj1 : (0 : Int) ≤ (j : Int) + 1 := by omega
          have hjn : (j : Int) < (n5 : Int) := by omega
          have hjn1 : (j : Int) + 1 < (n5 : Int) := by omega
          have s1 : IntKind.i64.wrap ((j : Int) + 1 - 1) = (j : Int) := by rw [IntWalk.i64_in _ (by omega)]; omega
          have s2 : IntKind.i64.wrap (j : Int) = (j : Int) := IntWalk.i64_in _ (by omega)
          have s3 : ((j : Int) + 1).toNat = j + 1 := by omega
          have s4 : IntKind.i64.wrap ((j : Int) + 1 + 1) = (j : Int) + 1 + 1 := IntWalk.i64_in _ (by omega)
          clear hf hy T1 hk1 hk2
          by_cases h2 : x1.id ≤ y.id
          · have hd2 : decide (x1.id ≤ y.id) = true := decide_eq_true h2
            clear h2
            go_wp2
            go_quiet (fail)
            go_wp2
            go_ret
            exact ⟨rfl, below_draws kwr _⟩
          · have hd2 : decide (x1.id ≤ y.id) = false := decide_eq_false h2
            have HS : Hid (RisesP (t.pods.take (j + 1 + 1))) := rises_take HRI.out hkl (fun _ _ => by show t.pods[j].id < _; rw [HX.out, HY.out]; omega)
            clear h2
            go_wp2
            go_quiet (fail)
            go_wp2
            go_roundw
            case rel => exact ⟨j + 1 + 1, by omega, .inl (by have := HN5.out; omega), by go_num, HS.out, HT1.out.drawsQ _⟩
            case measure => simp [intOf]; omega
        · have hlk : t.pods.length ≤ k := by have := HN5.out; omega
          have HRS : Hid (RisesP t.pods) := by
            have h := HRI.out
            rw [List.take_of_length_le hlk] at h
            exact h
          clear hlk HRI hk1 hk2
          have kwr := T1.below
          obtain ⟨N, hN⟩ : ∃ N, (min most 8).toNat = N := ⟨_, rfl⟩
          have hti := tidy_any s.nodes s.loads x t most (by have := HMO.out; omega) A1 A2 A3 A5 A4 n1 c1 n2 c2 n3 c3 n5 c5 n4 c4 wr (HA.out.at kwr)
          have hzo := tidy_ok (ls := s.loads) HA.out.a.no HA.out.xo N t HA.out.a.lo
          rw [hN] at hti
          obtain ⟨z, hz⟩ : ∃ z, tidyD s.nodes s.loads x N t = z := ⟨_, rfl⟩
          rw [hz] at hti hzo
          have HTI := Lib.hid hti
          have HZO := Lib.hid hzo
          have HZ := Lib.hid hz
          have HZL : Hid (z.2.length ≤ 8) := by
            have h1 := tidy_len (ns := s.nodes) (ls := s.loads) (x := x) N t
            rw [hz] at h1
            show _ ≤ _
            omega
          obtain ⟨a0, a1, a2, a3⟩ := T1.one.cells3
          obtain ⟨b0, b1, b2, b3⟩ := T1.two.cells3
          clear hti hzo hz hN T1 kwr
          go_wp2_with fail
          refine HTI.out.mono ?_
          rintro e w4 ⟨A, c, Am, cm, rfl, ho, hm, hb4⟩
          have k5 : Below w4.heap.size w4 (w4.alloc (.cells #[.slice A z.1.pods.length c, .int .i64 z.1.preempts, .int .i64 z.1.shifts] 31)) := (Below.refl _ _).alloc (Nat.le_refl _) _
          have T5 := (HT1.out.keep hb4).keep k5
          have HT5 := Lib.hid T5
          have HO5' := Lib.hid (ho.later k5)
          have HM5 := Lib.hid (hm.later k5)
          have HBU := Lib.hid (Bf.new w4 [.slice A z.1.pods.length c, .int .i64 z.1.preempts, .int .i64 z.1.shifts] 31 rfl)
          have ka := HA.out.at T5.below
          have HUS := Lib.hid (tidyUsed_any s.nodes t.pods A1 A5 n1 c1 n5 c5 (.slice A2 n2 c2) (.slice A3 n3 c3) (.int .i64 t.preempts) (.int .i64 t.shifts) _ ka.a.e1 ka.a.l1 ka.a.r1 ka.a.e4 ka.a.l4 ka.a.r4)
          clear ho hm hb4 k5 ka HTI HT1 a0 a1 a2 a3 b0 b1 b2 b3 d0 d1 d2 d3
          obtain ⟨a0, a1, a2, a3⟩ := T5.one.cells3
          obtain ⟨d0, d1, d2, d3⟩ := T5.three.cells3
          clear T5
          obtain ⟨q0, hq0⟩ : ∃ q, (usedN s.nodes t.pods).length = q := ⟨_, rfl⟩
          rw [hq0] at HUS
          have HQ0 := Lib.hid hq0
          clear hq0
          go_wp2_with fail
          refine HUS.out.mono ?_
          rintro e w6 ⟨rfl, hb6⟩
          have HT6 := Lib.hid (HT5.out.keep hb6)
          have HO6 := Lib.hid (HO5'.out.later hb6)
          have HM6 := Lib.hid (HM5.out.later hb6)
          have HB6 := Lib.hid (HBU.out.below hb6 HBU.out.lt)
          clear hb6 HUS HT5 HO5' HM5 HBU a0 a1 a2 a3 d0 d1 d2 d3
          obtain ⟨d0, d1, d2, d3⟩ := HT6.out.three.cells3
          go_wp2
          clear d0 d1 d2 d3
          generalize w4.heap.size = gU at *
          have k7 : Below w6.heap.size w6 (w6.alloc (.cells #[.slice A5 n5 c5, .int .i64 t.preempts, .int .i64 t.shifts] 31)) := (Below.refl _ _).alloc (Nat.le_refl _) _
          have HST : Hid (LessRel s.nodes s.loads x z N t.pods.length [.slice A1 n1 c1, .slice A2 n2 c2, .slice A3 n3 c3] [.slice A4 n4 c4, .int .i64 x.preempts, .int .i64 x.shifts] [.slice A5 n5 c5, .int .i64 t.preempts, .int .i64 t.shifts] w w6 w6.heap.size (.int .i64 (q0 : Nat)) (.int .i64 0) (w6.alloc (.cells #[.slice A5 n5 c5, .int .i64 t.preempts, .int .i64 t.shifts] 31))) := by
            refine ⟨0, q0, t, A5, c5, Nat.zero_le _, rfl, rfl, HQ0.out, HZ.out, HRS.out, HA.out.a.lo, rfl, HT6.out.keep k7, k7, ⟨by rw [← HN5.out]; exact Bf.new w6 _ _ rfl, HO5.out.later (HT6.out.keep k7).below, ?_⟩⟩
            rcases HO5.out.recs with h0 | ⟨b, o, h1, h2, _⟩
            · exact .inl h0
            · refine .inr fun p hp e => ?_
              rw [h1] at hp
              injection hp with hp
              subst hp
              have := HT6.out.below.size
              simp at e
              omega
          clear k7
          go_loopw [14, 16] (LessRel s.nodes s.loads x z N t.pods.length [.slice A1 n1 c1, .slice A2 n2 c2, .slice A3 n3 c3] [.slice A4 n4 c4, .int .i64 x.preempts, .int .i64 x.shifts] [.slice A5 n5 c5, .int .i64 t.preempts, .int .i64 t.shifts] w w6 w6.heap.size) (fun _ i _ => z.2.length - (intOf i).toNat)
          case atStart => exact HST.out
          case round =>
            obtain ⟨k, q, u, Au, cu, hk, rfl, rfl, hq, htd, hri, huo, hul, T8, hbT, hNow⟩ := hrel
            clear HST
            by_cases hkl : k < z.2.length
            · obtain ⟨m, hm⟩ : ∃ m, z.2[k] = m := ⟨_, rfl⟩
              rw [List.drop_eq_getElem_cons hkl, hm] at htd
              obtain ⟨j, u', hNk, hfi, htd'⟩ := tidy_step htd
              obtain ⟨hdo, hless, hri'⟩ := first_less hri hfi
              obtain ⟨huo', hul', _⟩ := first_ok HA.out.a.no HA.out.xo huo hfi
              obtain ⟨q', hq'⟩ : ∃ q', (usedN s.nodes u'.pods).length = q' := ⟨_, rfl⟩
              have hqq : q = q' + 1 := by omega
              have hq14 : q' ≤ 400 := by
                have h1 := used_len s.nodes u'.pods
                have h2 := HN5.out
                omega
              obtain ⟨b, o, rfl, hb, he⟩ := (HM6.out.later hbT).recs.at hkl
              rw [hm] at he
              have m0 : wr.cell? ⟨b, o + k * 4, none⟩ = some (.int .i64 m.kind) := he 0 _ rfl
              have m1 : wr.cell? ⟨b, o + k * 4 + 1, none⟩ = some (.int .i64 m.pod) := he 1 _ rfl
              have m2 : wr.cell? ⟨b, o + k * 4 + 2, none⟩ = some (.int .i64 m.node) := he 2 _ rfl
              have m3 : wr.cell? ⟨b, o + k * 4 + 3, none⟩ = some (.int .i64 m.over) := he 3 _ rfl
              have HDO : Hid (∀ V, Keeps wr V → Calls Tryz.prog 9 #[.agg #[.slice A1 n1 c1, .slice A2 n2 c2, .slice A3 n3 c3], .agg #[.slice A4 n4 c4, .int .i64 x.preempts, .int .i64 x.shifts], .agg #[.slice Au u.pods.length cu, .int .i64 u.preempts, .int .i64 u.shifts], .agg #[.int .i64 m.kind, .int .i64 m.pod, .int .i64 m.node, .int .i64 m.over]] V
                  fun e w' => ∃ A8 c8, e = .returned (.tuple #[stateV A8 u'.pods.length c8 u'.preempts u'.shifts, .nilIface]) ∧ Out 8 cellsP w' u'.pods A8 c8 ∧ (∀ a, A8 = some a → V.heap.size ≤ a.block) ∧ Below V.heap.size V w') := fun V hV => by
                have kk := HA.out.on (T8.below.trans (hV.2.mono T8.below.size)) (hNow.out.later hV.2) huo hul
                have h := stepDo_any s.nodes s.loads x u m A1 A2 A3 Au A4 n1 c1 n2 c2 n3 c3 u.pods.length cu n4 c4 V kk.a kk.h04 kk.e5 kk.l5 kk.r5 kk.xo
                rw [hdo] at h
                exact h.mono fun e w' hd => do_good rfl hd
              have HREL : Hid (tidyD s.nodes s.loads x (N - (k + 1)) u' = (z.1, z.2.drop (k + 1)) ∧ RisesP u'.pods ∧ (∀ p ∈ u'.pods, p.Ok) ∧ u'.pods.length = t.pods.length) := ⟨by rw [show N - (k + 1) = j by omega]; exact htd', hri', huo', hul'.trans hul⟩
              have HQ' := Lib.hid hq'
              have HT8 := Lib.hid T8
              have HBT := Lib.hid hbT
              have HNB := Lib.hid hNow.box
              have hk0 : (0 : Int) ≤ (k : Int) := by omega
              have hkm : (k : Int) < (z.2.length : Int) := by omega
              obtain ⟨a0, a1, a2, a3⟩ := T8.one.cells3
              obtain ⟨b0, b1, b2, b3⟩ := T8.two.cells3
              obtain ⟨e0, e1, e2, e3⟩ := hNow.box.cells3
              have hgN : w6.heap.size < wr.heap.size := hNow.box.lt
              clear htd htd' hfi hdo hless hri hri' huo huo' hul hul' hq' hq he hm hNk T8 hbT hNow
              subst hqq
              generalize hml : z.2.length = ml at *
              have HML := Lib.hid hml
              have hml8 : ml ≤ 8 := by have := HZL.out; omega
              clear hml
              go_upto_region 16 with fail
              go_region_held3 (fun w' => (∀ b o, b < wr.heap.size → w'.cell? ⟨b, o, none⟩ = wr.cell? ⟨b, o, none⟩) ∧ Below wr.heap.size wr w')
                (first | (with_reducible assumption) | (show Keeps wr _; with_reducible (repeat (first | exact Keeps.refl _ | refine Keeps.drew ?_ | refine Keeps.set ?_ (by first | (simp; done) | (simp; omega) | omega) _ | refine Keeps.alloc ?_ _ | refine Keeps.step ?_ (by assumption)))))
                (first | (go_at_call 9; refine (HDO.out _ (by assumption)).mono ?_; rintro e w' ⟨A8, c8, rfl, ho8, hfr8, hb8⟩; obtain ⟨hcx, hfx⟩ := old_cells hb8))
              · rename_i hK
                have k8 : Below w'.heap.size w' (w'.alloc (.cells #[.slice A8 u'.pods.length c8, .int .i64 u'.preempts, .int .i64 u'.shifts] 31)) := (Below.refl _ _).alloc (Nat.le_refl _) _
                have BV : Bf (w'.alloc (.cells #[.slice A8 u'.pods.length c8, .int .i64 u'.preempts, .int .i64 u'.shifts] 31)) w'.heap.size [.slice A8 u'.pods.length c8, .int .i64 u'.preempts, .int .i64 u'.shifts] := Bf.new w' _ _ rfl
                have OV := ho8.later k8
                have KV := hK.2
                have hgh : w6.heap.size ≠ w'.heap.size := by have h1 := hb8.size; simp at h1; omega
                have hoff : ∀ a, A8 = some a → a.block ≠ w6.heap.size := fun a ha => by have h1 := hfr8 a ha; simp at h1; omega
                generalize hV : w'.alloc (.cells #[.slice A8 u'.pods.length c8, .int .i64 u'.preempts, .int .i64 u'.shifts] 31) = V at *
                generalize hh : w'.heap.size = h at BV hgh ⊢
                clear hK hV hh hcx hfx hb8 k8 ho8 hfr8
                have TV := HT8.out.keep KV
                have HTV := Lib.hid TV
                have HBTV := Lib.hid (HBT.out.trans (KV.mono HBT.out.size))
                have HNV := Lib.hid (HNB.out.below KV HNB.out.lt)
                have HOV := Lib.hid OV
                have HBV := Lib.hid BV
                have HOF := Lib.hid hoff
                have kv := HA.out.at TV.below
                have HUV := Lib.hid (tidyUsed_any s.nodes u'.pods A1 A8 n1 c1 u'.pods.length c8 (.slice A2 n2 c2) (.slice A3 n3 c3) (.int .i64 u'.preempts) (.int .i64 u'.shifts) V kv.a.e1 kv.a.l1 kv.a.r1 rfl (by rw [HREL.out.2.2.2]; have := HN5.out; omega) OV.recs)
                rw [HQ'.out] at HUV
                clear kv OV hoff KV HT8 HBT HNB HDO a0 a1 a2 a3 b0 b1 b2 b3 e0 e1 e2 e3 m0 m1 m2 m3
                obtain ⟨a0, a1, a2, a3⟩ := TV.one.cells3
                obtain ⟨y0, y1, y2, y3⟩ := BV.cells3
                have s1 : IntKind.i64.wrap ((q' : Int) + 1 - 1) = (q' : Int) := by rw [IntWalk.i64_in _ (by omega)]; omega
                clear TV BV
                go_wp2_with fail
                refine HUV.out.mono ?_
                rintro e w9 ⟨rfl, hb9⟩
                have B9 := HBV.out.below hb9 HBV.out.lt
                have N9 := HNV.out.below hb9 HNV.out.lt
                have HT9 := Lib.hid (HTV.out.keep hb9)
                have HBT9 := Lib.hid (HBTV.out.trans (hb9.mono HBTV.out.size))
                have HO9 := Lib.hid (HOV.out.later hb9)
                have HN9 := Lib.hid N9
                clear hb9 HUV HTV HBTV HNV HOV HBV a0 a1 a2 a3 y0 y1 y2 y3
                obtain ⟨y0, y1, y2, y3⟩ := B9.cells3
                obtain ⟨e0, e1, e2, e3⟩ := N9.cells3
                have z0 := N9.frozen 0
                have z1 := N9.frozen 1
                have z2 := N9.frozen 2
                clear B9 N9
                go_wp2
                go_roundw
                case rel =>
                  have hw6 : w.heap.size + 3 ≤ w6.heap.size := by have := HT6.out.three.lt; omega
                  refine ⟨k + 1, q', u', A8, c8, by have := HML.out; omega, by go_num, rfl, HQ'.out, HREL.out.1, HREL.out.2.1, HREL.out.2.2.1, HREL.out.2.2.2, ((HT9.out.past (by exact hw6) _).past (by exact hw6) _).past (by exact hw6) _, ((HBT9.out.setCell (Nat.le_refl _) _).setCell (Nat.le_refl _) _).setCell (Nat.le_refl _) _, ⟨?_, ?_, .inr HOF.out⟩⟩
                  · exact ((HN9.out.set 0 _).set 1 _).set 2 _
                  · exact HO9.out.put3 HOF.out
                case measure => have := HML.out; simp [intOf]; omega
              · rename_i hK
                have BV := Bf.laterS (W := wr) (by with_reducible (repeat (first | exact Bf.new _ _ _ (by first | rfl | (simp; done)) | refine Bf.drew ?_ | refine Bf.alloc ?_ _))) hb8 (x := .slice A8 u'.pods.length c8) (y := .int .i64 u'.preempts) (z := .int .i64 u'.shifts)
                have OV := ho8.put3 (g := wr.heap.size) (fun a ha => by have h1 := hfr8 a ha; simp at h1; omega) (x := .slice A8 u'.pods.length c8) (y := .int .i64 u'.preempts) (z := .int .i64 u'.shifts)
                have KV := hK.2
                have hgh : w6.heap.size ≠ wr.heap.size := by omega
                have hoff : ∀ a, A8 = some a → a.block ≠ w6.heap.size := fun a ha => by have h1 := hfr8 a ha; simp at h1; omega
                generalize hV : ((w'.setCell ⟨wr.heap.size, 0, none⟩ (.slice A8 u'.pods.length c8)).setCell ⟨wr.heap.size, 1, none⟩ (.int .i64 u'.preempts)).setCell ⟨wr.heap.size, 2, none⟩ (.int .i64 u'.shifts) = V at *
                generalize hh : wr.heap.size = h at BV hgh ⊢
                clear hK hV hh hcx hfx hb8 ho8 hfr8
                have TV := HT8.out.keep KV
                have HTV := Lib.hid TV
                have HBTV := Lib.hid (HBT.out.trans (KV.mono HBT.out.size))
                have HNV := Lib.hid (HNB.out.below KV HNB.out.lt)
                have HOV := Lib.hid OV
                have HBV := Lib.hid BV
                have HOF := Lib.hid hoff
                have kv := HA.out.at TV.below
                have HUV := Lib.hid (tidyUsed_any s.nodes u'.pods A1 A8 n1 c1 u'.pods.length c8 (.slice A2 n2 c2) (.slice A3 n3 c3) (.int .i64 u'.preempts) (.int .i64 u'.shifts) V kv.a.e1 kv.a.l1 kv.a.r1 rfl (by rw [HREL.out.2.2.2]; have := HN5.out; omega) OV.recs)
                rw [HQ'.out] at HUV
                clear kv OV hoff KV HT8 HBT HNB HDO a0 a1 a2 a3 b0 b1 b2 b3 e0 e1 e2 e3 m0 m1 m2 m3
                obtain ⟨a0, a1, a2, a3⟩ := TV.one.cells3
                obtain ⟨y0, y1, y2, y3⟩ := BV.cells3
                have s1 : IntKind.i64.wrap ((q' : Int) + 1 - 1) = (q' : Int) := by rw [IntWalk.i64_in _ (by omega)]; omega
                clear TV BV
                go_wp2_with fail
                refine HUV.out.mono ?_
                rintro e w9 ⟨rfl, hb9⟩
                have B9 := HBV.out.below hb9 HBV.out.lt
                have N9 := HNV.out.below hb9 HNV.out.lt
                have HT9 := Lib.hid (HTV.out.keep hb9)
                have HBT9 := Lib.hid (HBTV.out.trans (hb9.mono HBTV.out.size))
                have HO9 := Lib.hid (HOV.out.later hb9)
                have HN9 := Lib.hid N9
                clear hb9 HUV HTV HBTV HNV HOV HBV a0 a1 a2 a3 y0 y1 y2 y3
                obtain ⟨y0, y1, y2, y3⟩ := B9.cells3
                obtain ⟨e0, e1, e2, e3⟩ := N9.cells3
                have z0 := N9.frozen 0
                have z1 := N9.frozen 1
                have z2 := N9.frozen 2
                clear B9 N9
                go_wp2
                go_roundw
                case rel =>
                  have hw6 : w.heap.size + 3 ≤ w6.heap.size := by have := HT6.out.three.lt; omega
                  refine ⟨k + 1, q', u', A8, c8, by have := HML.out; omega, by go_num, rfl, HQ'.out, HREL.out.1, HREL.out.2.1, HREL.out.2.2.1, HREL.out.2.2.2, ((HT9.out.past (by exact hw6) _).past (by exact hw6) _).past (by exact hw6) _, ((HBT9.out.setCell (Nat.le_refl _) _).setCell (Nat.le_refl _) _).setCell (Nat.le_refl _) _, ⟨?_, ?_, .inr HOF.out⟩⟩
                  · exact ((HN9.out.set 0 _).set 1 _).set 2 _
                  · exact HO9.out.put3 HOF.out
                case measure => have := HML.out; simp [intOf]; omega
            · have hkE : k = z.2.length := by omega
              have hzu : z.1 = u := by
                rw [hkE, List.drop_length] at htd
                exact tidy_end htd
              have hse : stateEq u z.1 = true := by rw [hzu]; exact stateEq_self u
              have HSM := Lib.hid (rSame05_any u z.1 Au A u.pods.length cu z.1.pods.length c wr rfl (by rw [hul]; have := HN5.out; omega) rfl (by rw [HZO.out.2.1]; have := HN5.out; omega) hNow.out.recs (HO6.out.later hbT).recs)
              rw [hse] at HSM
              have HIT : Hid (∀ V, Below w.heap.size w V → Calls Tryz.prog 11 #[.agg #[.slice A1 n1 c1, .slice A2 n2 c2, .slice A3 n3 c3], .agg #[.slice A4 n4 c4, .int .i64 x.preempts, .int .i64 x.shifts], .agg #[.slice A5 n5 c5, .int .i64 t.preempts, .int .i64 t.shifts]] V fun e w' => e = .returned (.bool (okP (whyP (fiveP s.nodes s.loads t.pods x.preempts x.shifts t.preempts t.shifts)))) ∧ Below V.heap.size V w') := fun V hV =>
                safeIs_any s.nodes s.loads t.pods x.preempts x.shifts t.preempts t.shifts A1 A2 A3 A5 A4 n1 c1 n2 c2 n3 c3 n5 c5 n4 c4 V (HA.out.at hV).a
              have HIU : Hid (∀ V, Below w.heap.size w V → Below w6.heap.size w6 V → codeS s.nodes s.loads x t = 0 → Calls Tryz.prog 11 #[.agg #[.slice A1 n1 c1, .slice A2 n2 c2, .slice A3 n3 c3], .agg #[.slice A4 n4 c4, .int .i64 x.preempts, .int .i64 x.shifts], .agg #[.slice A z.1.pods.length c, .int .i64 z.1.preempts, .int .i64 z.1.shifts]] V fun e w' => e = .returned (.bool true) ∧ Below V.heap.size V w') := fun V hV hV6 h0 => by
                have h := safeIs_any s.nodes s.loads z.1.pods x.preempts x.shifts z.1.preempts z.1.shifts A1 A2 A3 A A4 n1 c1 n2 c2 n3 c3 z.1.pods.length c n4 c4 V (HA.out.on hV (HO6.out.later hV6) HZO.out.1 HZO.out.2.1).a
                rw [code_ok (HZO.out.2.2 h0)] at h
                exact h
              have HT8 := Lib.hid T8
              have HBT := Lib.hid hbT
              obtain ⟨e0, e1, e2, e3⟩ := hNow.box.cells3
              obtain ⟨f0, f1, f2, f3⟩ := (HB6.out.below hbT HB6.out.lt).cells3
              clear htd hri huo hul hq hzu hse hkE T8 hbT hNow hk
              go_wp2_with fail
              refine HSM.out.mono ?_
              rintro e w9 ⟨rfl, hb9⟩
              have T9 := HT8.out.keep hb9
              have HT9 := Lib.hid T9
              have HBT9 := Lib.hid (HBT.out.trans (hb9.mono HBT.out.size))
              have HIT9 := Lib.hid (HIT.out _ T9.below)
              clear hb9 HSM HIT HT8 HBT e0 e1 e2 e3 f0 f1 f2 f3
              obtain ⟨a0, a1, a2, a3⟩ := T9.one.cells3
              obtain ⟨b0, b1, b2, b3⟩ := T9.two.cells3
              obtain ⟨d0, d1, d2, d3⟩ := T9.three.cells3
              clear T9
              go_wp2_with fail
              refine HIT9.out.mono ?_
              rintro e w10 ⟨rfl, hb10⟩
              have T10 := HT9.out.keep hb10
              have HBT10 := Lib.hid (HBT9.out.trans (hb10.mono HBT9.out.size))
              have HK10 := Lib.hid T10.below
              clear hb10 HIT9 HT9 HBT9 a0 a1 a2 a3 b0 b1 b2 b3 d0 d1 d2 d3
              obtain ⟨a0, a1, a2, a3⟩ := T10.one.cells3
              obtain ⟨b0, b1, b2, b3⟩ := T10.two.cells3
              obtain ⟨f0, f1, f2, f3⟩ := (HB6.out.below HBT10.out HB6.out.lt).cells3
              clear T10
              cases hok : okP (whyP (fiveP s.nodes s.loads t.pods x.preempts x.shifts t.preempts t.shifts)) with
              | false =>
                go_wp2
                go_ret
                exact ⟨rfl, HK10.out⟩
              | true =>
                have HI10 := Lib.hid (HIU.out _ HK10.out HBT10.out (code_of_ok hok))
                clear hok
                go_wp2_with fail
                refine HI10.out.mono ?_
                rintro e w11 ⟨rfl, hb11⟩
                have kw := HK10.out.trans (hb11.mono HK10.out.size)
                clear hb11 a0 a1 a2 a3 b0 b1 b2 b3 f0 f1 f2 f3
                go_wp2
                go_ret
                exact ⟨rfl, kw⟩
end Go.Proofs.YtabebhaclkhhpaaGreatDoor
