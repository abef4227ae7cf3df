/- Joined texts, part 18: XE. -/
import Derived.Test.YtiinnoahopnkcaaGreatDoorZ17
import Derived.Deep.CutRange

namespace Go.Proofs.YtiinnoahopnkcaaGreatDoor
set_option linter.unusedSimpArgs false
open Go.RowKit
set_option linter.unusedVariables false

/-- What a walk says, and a walk of fewer moves. -/
theorem walkD_fewer (s : SnapD) (x : SpecD) (l : List MoveD) (i : Nat) (hi : i ≤ l.length) (hs : s.Ok) (hx : ∀ a ∈ x.wants, a.Ok) :
    (i = 0 → (walkD s x (l.take i)).2.1 = 0) ∧ (¬ ((walkD s x l).2.1 = 0 ∧ okP (walkD s x l).2.2 = false) →
      codeS s.nodes s.loads x (walkD s x (l.take i)).1 = 0 ∧ (∀ p ∈ (walkD s x (l.take i)).1.pods, p.Ok) ∧ (walkD s x (l.take i)).1.pods.length = s.pods.length ∧
      (i ≤ (walkD s x l).2.1 → (walkD s x (l.take i)).2.1 = i ∧ (walkD s x (l.take i)).2.2 = (0, -1)) ∧
      ((walkD s x l).2.1 < i → (walkD s x (l.take i)).2 = (walkD s x l).2 ∧ (walkD s x l).2.2.2 = -1 ∧ 0 ≤ (walkD s x l).2.2.1 ∧ (walkD s x l).2.2.1 ≤ 15)) := by
  by_cases h1 : (fair s x).1 = 0
  · by_cases h2 : codeS s.nodes s.loads x (firstD s) = 0
    · rw [walkD_yes h1 h2, walkD_yes h1 h2]
      obtain ⟨f1, f2⟩ := walk_fewer (ns := s.nodes) (ls := s.loads) (x := x) l 0 i (firstD s) hi
      obtain ⟨o1, o2⟩ := walk_ok (ls := s.loads) hs.1 hx (l.take i) 0 (firstD s) hs.2.2
      obtain ⟨v1, v2, v3, v4, v5⟩ := walk_vals (ns := s.nodes) (ls := s.loads) (x := x) l 0 (firstD s)
      refine ⟨fun e => ?_, fun _ => ⟨walk_safe _ _ _ h2, o1, o2, fun h => ?_, fun h => ?_⟩⟩
      · subst e
        rfl
      · have := f1 (by simpa using h)
        dsimp only
        rw [this]
        simp
      · have := f2 (by simpa using h)
        dsimp only
        rw [this]
        exact ⟨rfl, rfl, v3, v4⟩
    · rw [walkD_no2 h1 h2, walkD_no2 h1 h2]
      refine ⟨fun _ => rfl, fun h => absurd ⟨rfl, ?_⟩ h⟩
      simp [okP, h2]
  · rw [walkD_no1 h1, walkD_no1 h1]
    refine ⟨fun _ => rfl, fun h => absurd ⟨rfl, ?_⟩ h⟩
    simp [okP, h1]
theorem Bf.laterS {W v w' : World} (h0 : Bf v W.heap.size [.slice none 0 0, .int .i64 0, .int .i64 0]) (hb : Below v.heap.size v w') {x y z : Value} :
    Bf (((w'.setCell ⟨W.heap.size, 0, none⟩ x).setCell ⟨W.heap.size, 1, none⟩ y).setCell ⟨W.heap.size, 2, none⟩ z) W.heap.size [x, y, z] :=
  ((((h0.below hb h0.lt).set 0 x).set 1 y).set 2 z)
theorem Out.put3 {l : List PodD} {w : World} {A : Option Addr} {c g : Nat} (h : Out 8 cellsP w l A c) (hp : ∀ a, A = some a → a.block ≠ g) {x y z : Value} : Out 8 cellsP (((w.setCell ⟨g, 0, none⟩ x).setCell ⟨g, 1, none⟩ y).setCell ⟨g, 2, none⟩ z) l A c :=
  ((h.set (p := ⟨g, 0, none⟩) hp x).set (p := ⟨g, 1, none⟩) hp y).set (p := ⟨g, 2, none⟩) hp z
theorem ErrIs.put3 {p : Int × Int} {B g : Nat} {w : World} {u : Value} (h : ErrIs p B w u) (hq : g < B) {x y z : Value} : ErrIs p B (((w.setCell ⟨g, 0, none⟩ x).setCell ⟨g, 1, none⟩ y).setCell ⟨g, 2, none⟩ z) u :=
  ((h.put (q := ⟨g, 0, none⟩) hq x).put (q := ⟨g, 1, none⟩) hq y).put (q := ⟨g, 2, none⟩) hq z
theorem errIs_of {p : Int × Int} {B : Nat} {w : World} {u : Value} (h : ErrIs p B w u) (h2 : p.2 = -1) : (p = (0, -1) ∧ u = .nilIface) ∨ (1 ≤ p.1 ∧ p.1 ≤ 17 ∧ u = .iface 54 (.int .i64 p.1)) := by
  rcases h with h | ⟨_, h3, h4, h5⟩ | ⟨k, g, h, _⟩
  · exact .inl h
  · exact .inr ⟨h3, h4, h5⟩
  · omega
theorem code_ok {ns : List NodeD} {ls : List LoadD} {x : SpecD} {t : StateD} (h : codeS ns ls x t = 0) : okP (whyP (fiveP ns ls t.pods x.preempts x.shifts t.preempts t.shifts)) = true := by
  rw [told8_ok (told8_why _ _ _ _ _ _ _)]
  have h2 : (whyP (fiveP ns ls t.pods x.preempts x.shifts t.preempts t.shifts)).1 = 0 := h
  rw [h2]; rfl

set_option maxHeartbeats 12800000 in
set_option maxRecDepth 100000 in
theorem stepSafe_in (s : SnapD) (x : SpecD) (l : List MoveD) (id : Int) (hs : s.Ok) (hx : ∀ a ∈ x.wants, a.Ok) (hi1 : I64 x.preempts) (hi2 : I64 x.shifts) (A1 A2 A3 A5 A6 : Option Addr) (n1 c1 n2 c2 n3 c3 n5 c5 n6 c6 : Nat) (w : World) (hg : Laid w)
    (h1 : n1 = s.nodes.length ∧ n1 ≤ c1 ∧ c1 ≤ maxLen) (h2 : n2 = s.loads.length ∧ n2 ≤ c2 ∧ c2 ≤ maxLen) (h3 : n3 = s.pods.length ∧ n3 ≤ c3 ∧ c3 ≤ maxLen ∧ (A3 = none → c3 = 0)) (h5 : n5 = x.wants.length ∧ n5 ≤ c5 ∧ c5 ≤ maxLen) (h6 : n6 = l.length ∧ n6 ≤ c6 ∧ c6 ≤ maxLen)
    (hr1 : Recs 10 cellsN w w.heap.size A1 s.nodes) (hr2 : Recs 5 cellsL w w.heap.size A2 s.loads) (hr3 : Recs 8 cellsP w w.heap.size A3 s.pods) (hr5 : Recs 6 cellsW w w.heap.size A5 x.wants) (hr6 : Recs 4 cellsM w w.heap.size A6 l) :
    Calls Tryz.prog 4 #[.agg #[.slice A1 n1 c1, .slice A2 n2 c2, .slice A3 n3 c3], .agg #[.slice A5 n5 c5, .int .i64 x.preempts, .int .i64 x.shifts], .slice A6 n6 c6, .int .i64 id] w fun e w' => e = .returned (.bool true) ∧ Below w.heap.size w w' := by
  have T0 := T2.new w [.slice A1 n1 c1, .slice A2 n2 c2, .slice A3 n3 c3] [.slice A5 n5 c5, .int .i64 x.preempts, .int .i64 x.shifts] 26 29
  have HUP := Lib.hid (up12_any _ (Laid.below hg T0.below (Nat.le_refl _)))
  have HS : Hid (n1 ≤ 40 → n2 ≤ 40 → n3 ≤ 40 → n5 ≤ 40 → WalkArgs s x A1 A2 A3 A5 n1 c1 n2 c2 n3 c3 n5 c5 w) := fun l1 l2 l3 l5 =>
    ⟨hg, hs, hx, hi1, hi2, ⟨h1.1, l1, h1.2.1, h1.2.2⟩, ⟨h2.1, l2, h2.2.1, h2.2.2⟩, ⟨h3.1, l3, h3.2.1, h3.2.2.1, h3.2.2.2⟩, ⟨h5.1, l5, h5.2.1, h5.2.2⟩, hr1, hr2, hr3, hr5⟩
  have HR6 := Lib.hid hr6
  have HN6 := Lib.hid h6.1
  have HMA := Lib.hid (fun i hi => walkD_fewer s x l i hi hs hx)
  have hc6 := h6.2.1
  have hm6 : c6 ≤ 9223372036854775807 := by have := h6.2.2; unfold maxLen at this; omega
  have HT0 := Lib.hid T0
  clear hg hs hx hi1 hi2 h1 h2 h3 h5 h6 hr1 hr2 hr3 hr5 hr6 T0
  have HX : Hid (∀ t : StateD, codeS s.nodes s.loads x t = 0 → okP (whyP (fiveP s.nodes s.loads t.pods x.preempts x.shifts t.preempts t.shifts)) = true) := fun t h => code_ok h
  go_enter Tryz.func4, Tryz.ntmps4
  go_wp2_with fail
  refine HUP.out.mono ?_
  rintro e w1 ⟨rfl, hb1⟩
  have T1 := HT0.out.keep hb1
  have HT1 := Lib.hid T1
  clear hb1 HT0 HUP
  obtain ⟨a0, a1, a2, a3⟩ := T1.one.cells3
  obtain ⟨b0, b1, b2, b3⟩ := T1.two.cells3
  clear T1
  go_wp2_with fail
  refine (few_any _ _ _ _ _ _ _ _ _ _).mono ?_
  rintro e w2 ⟨rfl, hb2⟩
  have T2' := HT1.out.keep hb2
  have HK2 := Lib.hid T2'.below
  have HT2 := Lib.hid T2'
  clear hb2 HT1 a0 a1 a2 a3 b0 b1 b2 b3
  obtain ⟨a0, a1, a2, a3⟩ := T2'.one.cells3
  obtain ⟨b0, b1, b2, b3⟩ := T2'.two.cells3
  clear T2'
  by_cases hfw : n1 ≤ 40 ∧ n2 ≤ 40 ∧ n3 ≤ 40
  case neg =>
    have hfew : decide (n1 ≤ 40 ∧ n2 ≤ 40 ∧ n3 ≤ 40) = false := decide_eq_false hfw
    rw [hfew]
    clear hfew hfw
    go_wp2
    go_ret
    exact ⟨rfl, HK2.out⟩
  have hfew : decide (n1 ≤ 40 ∧ n2 ≤ 40 ∧ n3 ≤ 40) = true := decide_eq_true hfw
  rw [hfew]
  obtain ⟨hl1, hl2, hl3⟩ := hfw
  clear hfew
  by_cases q1 : (40 : Int) < (n5 : Int)
  · have d1 : decide ((40 : Int) < (n5 : Int)) = true := decide_eq_true q1
    clear q1
    go_wp2
    go_ret
    exact ⟨rfl, HK2.out⟩
  have e1 : decide ((40 : Int) < (n5 : Int)) = false := decide_eq_false q1
  by_cases q2 : (60 : Int) < (n6 : Int)
  · have d2 : decide ((60 : Int) < (n6 : Int)) = true := decide_eq_true q2
    clear q1 q2
    go_wp2
    go_ret
    exact ⟨rfl, HK2.out⟩
  have e2 : decide ((60 : Int) < (n6 : Int)) = false := decide_eq_false q2
  by_cases q3 : id < 0
  · have d3 : decide (id < 0) = true := decide_eq_true q3
    clear q1 q2 q3
    go_wp2
    go_ret
    exact ⟨rfl, HK2.out⟩
  have e3 : decide (id < 0) = false := decide_eq_false q3
  by_cases q4 : (n6 : Int) < id
  · have d4 : decide ((n6 : Int) < id) = true := decide_eq_true q4
    clear q1 q2 q3 q4
    go_wp2
    go_ret
    exact ⟨rfl, HK2.out⟩
  have e4 : decide ((n6 : Int) < id) = false := decide_eq_false q4
  obtain ⟨i, rfl⟩ : ∃ i : Nat, id = i := ⟨id.toNat, by omega⟩
  have hin : i ≤ n6 := by omega
  have hl6 : n6 ≤ 60 := by omega
  have HA := Lib.hid (HS.out hl1 hl2 hl3 (by omega))
  have HW1 : Hid (∀ V, Below w.heap.size w V → Calls Tryz.prog 7 #[.agg #[.slice A1 n1 c1, .slice A2 n2 c2, .slice A3 n3 c3], .agg #[.slice A5 n5 c5, .int .i64 x.preempts, .int .i64 x.shifts], .slice A6 n6 c6] V (WalkTo (walkD s x l) V)) := fun V hV =>
    stepWalk_any s x l A1 A2 A3 A5 A6 n1 c1 n2 c2 n3 c3 n5 c5 n6 c6 V (HA.out.at hV) HN6.out (by omega) ((HR6.out.below hV (Nat.le_refl _)).more hV.size)
  have HW2 : Hid (∀ V, Below w.heap.size w V → Calls Tryz.prog 7 #[.agg #[.slice A1 n1 c1, .slice A2 n2 c2, .slice A3 n3 c3], .agg #[.slice A5 n5 c5, .int .i64 x.preempts, .int .i64 x.shifts], .slice A6 i c6] V (WalkTo (walkD s x (l.take i)) V)) := fun V hV =>
    stepWalk_any s x (l.take i) A1 A2 A3 A5 A6 n1 c1 n2 c2 n3 c3 n5 c5 i c6 V (HA.out.at hV) (by have := HN6.out; simp; omega) (by omega) (((HR6.out.below hV (Nat.le_refl _)).more hV.size).take i)
  have HIS : Hid (∀ (t : StateD) V A c, Below w.heap.size w V → Out 8 cellsP V t.pods A c → codeS s.nodes s.loads x t = 0 → (∀ p ∈ t.pods, p.Ok) → t.pods.length = s.pods.length → Calls Tryz.prog 13 #[.agg #[.slice A1 n1 c1, .slice A2 n2 c2, .slice A3 n3 c3], .agg #[.slice A5 n5 c5, .int .i64 x.preempts, .int .i64 x.shifts], .agg #[.slice A t.pods.length c, .int .i64 t.preempts, .int .i64 t.shifts]] V
      fun e w' => e = .returned (.bool true) ∧ Below V.heap.size V w') := fun t V A c hV hO h0 hok hlen => by
    have h := safeIs_any s.nodes s.loads t.pods x.preempts x.shifts t.preempts t.shifts A1 A2 A3 A A5 n1 c1 n2 c2 n3 c3 _ c n5 c5 V ((HA.out.at hV).safe hO hok hlen)
    rw [HX.out t h0] at h
    exact h
  obtain ⟨hz0, hzz⟩ := HMA.out i (by have := HN6.out; omega)
  have HZ0 := Lib.hid hz0
  have HZZ := Lib.hid hzz
  generalize walkD s x l = z at *
  generalize walkD s x (l.take i) = y at *
  generalize x.preempts = x1 at *
  generalize x.shifts = x2 at *
  obtain ⟨zt, zm, zp⟩ := z
  obtain ⟨yt, ym, yp⟩ := y
  dsimp only [WalkTo] at HW1 HW2 HZ0 HZZ
  clear q1 q2 q3 q4 HS HMA HX hz0 hzz HA
  go_wp2_with fail
  refine (HW1.out _ HK2.out).mono ?_
  rintro e w3 ⟨A7, c7, u, rfl, ho, hfr, hu, hb3⟩
  have k3 : Below w3.heap.size w3 (w3.alloc (.cells #[.slice A7 zt.pods.length c7, .int .i64 zt.preempts, .int .i64 zt.shifts] 34)) := (Below.refl _ w3).alloc (Nat.le_refl _) _
  have T3' := (HT2.out.keep hb3).keep k3
  have hu3 := hu.below k3
  clear hu hb3 k3 ho hfr HT2 HK2 a0 a1 a2 a3 b0 b1 b2 b3 e1 e2 e3 e4
  obtain ⟨a0, a1, a2, a3⟩ := T3'.one.cells3
  obtain ⟨b0, b1, b2, b3⟩ := T3'.two.cells3
  go_upto_region 6 with fail
  generalize (w3.alloc (.cells #[.slice A7 zt.pods.length c7, .int .i64 zt.preempts, .int .i64 zt.shifts] 34)) = W at *
  have HU3 := Lib.hid hu3
  have HT3 := Lib.hid T3'
  have HW2' := Lib.hid (fun V (hV : Keeps W V) => HW2.out V (T3'.below.trans (hV.2.mono T3'.below.size)))
  have hi0 : (0 : Int) ≤ (i : Int) := by omega
  have hic : (i : Int) ≤ (c6 : Int) := by omega
  have hin' : (i : Int) ≤ (n6 : Int) := by omega
  clear hu3 T3' HW1 HW2
  go_region_held3 (fun w' => (∀ b o, b < W.heap.size → w'.cell? ⟨b, o, none⟩ = W.cell? ⟨b, o, none⟩) ∧ Below W.heap.size W w')
    (first | (with_reducible assumption) | (show Keeps W _; with_reducible (repeat (first | exact Keeps.refl _ | refine Keeps.drew ?_ | refine Keeps.set ?_ (by first | (simp; done) | (simp; omega) | omega) _ | refine Keeps.alloc ?_ _ | refine Keeps.step ?_ (by assumption)))))
    (first | (go_at_call 7; refine (HW2'.out _ (by assumption)).mono ?_; rintro e w' ⟨A8, c8, u8, rfl, ho8, hfr8, hu8, hb8⟩; obtain ⟨hcx, hfx⟩ := old_cells hb8))
  rename_i hK
  have k8 : Below w'.heap.size w' (w'.alloc (.cells #[.slice A8 yt.pods.length c8, .int .i64 yt.preempts, .int .i64 yt.shifts] 34)) := (Below.refl _ w').alloc (Nat.le_refl _) _
  have BV : Bf (w'.alloc (.cells #[.slice A8 yt.pods.length c8, .int .i64 yt.preempts, .int .i64 yt.shifts] 34)) w'.heap.size [.slice A8 yt.pods.length c8, .int .i64 yt.preempts, .int .i64 yt.shifts] := Bf.new w' _ _ rfl
  have OV := ho8.later k8
  have UV := hu8.below k8
  have KV := hK.2
  generalize hV : w'.alloc (.cells #[.slice A8 yt.pods.length c8, .int .i64 yt.preempts, .int .i64 yt.shifts] 34) = V at *
  generalize hh : w'.heap.size = h at BV ⊢
  clear hK hV hh hcx hfx hb8 k8 ho8 hu8 hfr8
  rotate_left
  rename_i hK
  have BV := Bf.laterS (W := W) (by with_reducible (repeat (first | exact Bf.new _ _ _ (by first | rfl | (simp; done)) | refine Bf.drew ?_ | refine Bf.alloc ?_ _))) hb8 (x := .slice A8 yt.pods.length c8) (y := .int .i64 yt.preempts) (z := .int .i64 yt.shifts)
  have OV := ho8.put3 (g := W.heap.size) (fun a ha => by have h1 := hfr8 a ha; simp at h1; omega) (x := .slice A8 yt.pods.length c8) (y := .int .i64 yt.preempts) (z := .int .i64 yt.shifts)
  have UV := hu8.put3 (g := W.heap.size) (by simp) (x := .slice A8 yt.pods.length c8) (y := .int .i64 yt.preempts) (z := .int .i64 yt.shifts)
  have KV := hK.2
  generalize hV : ((w'.setCell ⟨W.heap.size, 0, none⟩ (.slice A8 yt.pods.length c8)).setCell ⟨W.heap.size, 1, none⟩ (.int .i64 yt.preempts)).setCell ⟨W.heap.size, 2, none⟩ (.int .i64 yt.shifts) = V at *
  generalize hh : W.heap.size = h at BV ⊢
  clear hK hV hh hcx hfx hb8 ho8 hu8 hfr8
  rotate_left
  all_goals
    have TV := HT3.out.keep KV
    have HUU := Lib.hid (HU3.out.below KV)
    have HUV := Lib.hid UV
    have HOV := Lib.hid OV
    have HKV := Lib.hid TV.below
    clear HU3 UV OV a0 a1 a2 a3 b0 b1 b2 b3 hm6 hi0 hic hin' hc6
    obtain ⟨a0, a1, a2, a3⟩ := TV.one.cells3
    obtain ⟨b0, b1, b2, b3⟩ := TV.two.cells3
    obtain ⟨d0, d1, d2, d3⟩ := BV.cells3
    clear TV BV KV HT3 HW2'
    by_cases hno : zm = 0 ∧ okP zp = false
    · obtain ⟨hm0, hzf⟩ := hno
      obtain ⟨t1, v1, rfl⟩ := errIs_iface HUU.out hzf
      have hmd : ((zm : Int) == 0) = true := by simp [hm0]
      clear hm0 hzf HZZ
      by_cases hi : i = 0
      · have hy := HZ0.out hi
        have hyd : ((ym : Int) == 0) = true := by simp [hy]
        have hid : decide ((0 : Int) < (i : Int)) = false := decide_eq_false (by omega)
        have hip : ¬ (0 < i) := by omega
        clear hi hy
        cases hyp : okP yp with
        | true =>
          have hn := HUV.out.nil hyp
          subst hn
          clear hyp
          go_wp2
          all_goals
            go_ret
            exact ⟨rfl, HKV.out⟩
        | false =>
          obtain ⟨t2, v2, rfl⟩ := errIs_iface HUV.out hyp
          clear hyp
          go_wp2
          all_goals
            go_ret
            exact ⟨rfl, HKV.out⟩
      · have hid : decide ((0 : Int) < (i : Int)) = true := decide_eq_true (by omega)
        have hip : 0 < i := by omega
        clear hi
        go_wp2
        all_goals
          go_ret
          exact ⟨rfl, HKV.out⟩
    · obtain ⟨hc0, hok, hlen, hA, hB⟩ := HZZ.out hno
      have HI := Lib.hid (HIS.out yt _ A8 c8 HKV.out HOV.out hc0 hok hlen)
      have HLE := Lib.hid hA
      have HGT := Lib.hid hB
      clear hc0 hok hlen hA hB HZZ HZ0 HIS
      by_cases hm0 : zm = 0
      · have hn : u = .nilIface := HUU.out.nil (by cases h : okP zp with
          | true => rfl
          | false => exact absurd ⟨hm0, h⟩ hno)
        have hmd : ((zm : Int) == 0) = true := by simp [hm0]
        clear hno hm0
        subst hn
        go_wp2_with fail
        refine HI.out.mono ?_
        rintro e w9 ⟨rfl, hb9⟩
        have HK9 := Lib.hid (HKV.out.trans (hb9.mono HKV.out.size))
        clear hb9 a0 a1 a2 a3 b0 b1 b2 b3 d0 d1 d2 d3
        by_cases hle : i ≤ zm
        · obtain ⟨hy1, hy2⟩ := HLE.out hle
          have hn := HUV.out.nil (by rw [hy2]; rfl)
          have hd : decide ((i : Int) ≤ (zm : Int)) = true := decide_eq_true (by omega)
          have hyd : ((ym : Int) == (i : Int)) = true := by simp [hy1]
          subst hn
          clear hy1 hy2 HLE HGT
          go_wp2
          all_goals
            go_ret
            exact ⟨rfl, HK9.out⟩
        · obtain ⟨hy, hz2, hz3, hz4⟩ := HGT.out (by omega)
          injection hy with hy1 hy2
          have hd : decide ((i : Int) ≤ (zm : Int)) = false := decide_eq_false (by omega)
          have hyd : ((ym : Int) == (zm : Int)) = true := by simp [hy1]
          subst hy2
          have HC1 := Lib.hid (fun V => ofCode_any yp hz2 u8 V (errIs_of HUV.out hz2))
          have HC2 := Lib.hid (fun V => ofCode_any yp hz2 Value.nilIface V (errIs_of HUU.out hz2))
          have hle' : ¬ ((i : Int) ≤ (zm : Int)) := by omega
          clear hy1 hz2 hz3 hz4 HLE HGT
          go_wp2_with fail
          refine (HC1.out _).mono ?_
          rintro e w10 ⟨rfl, rfl⟩
          go_wp2_with fail
          refine (HC2.out _).mono ?_
          rintro e w11 ⟨rfl, rfl⟩
          go_wp2
          all_goals
            go_ret
            exact ⟨rfl, HK9.out⟩
      · have hmd : ((zm : Int) == 0) = false := by simp [hm0]
        clear hno hm0
        go_wp2_with fail
        refine HI.out.mono ?_
        rintro e w9 ⟨rfl, hb9⟩
        have HK9 := Lib.hid (HKV.out.trans (hb9.mono HKV.out.size))
        clear hb9 a0 a1 a2 a3 b0 b1 b2 b3 d0 d1 d2 d3
        by_cases hle : i ≤ zm
        · obtain ⟨hy1, hy2⟩ := HLE.out hle
          have hn := HUV.out.nil (by rw [hy2]; rfl)
          have hd : decide ((i : Int) ≤ (zm : Int)) = true := decide_eq_true (by omega)
          have hyd : ((ym : Int) == (i : Int)) = true := by simp [hy1]
          subst hn
          clear hy1 hy2 HLE HGT
          go_wp2
          all_goals
            go_ret
            exact ⟨rfl, HK9.out⟩
        · obtain ⟨hy, hz2, hz3, hz4⟩ := HGT.out (by omega)
          injection hy with hy1 hy2
          have hd : decide ((i : Int) ≤ (zm : Int)) = false := decide_eq_false (by omega)
          have hyd : ((ym : Int) == (zm : Int)) = true := by simp [hy1]
          subst hy2
          have HC1 := Lib.hid (fun V => ofCode_any yp hz2 u8 V (errIs_of HUV.out hz2))
          have HC2 := Lib.hid (fun V => ofCode_any yp hz2 u V (errIs_of HUU.out hz2))
          have hle' : ¬ ((i : Int) ≤ (zm : Int)) := by omega
          clear hy1 hz2 hz3 hz4 HLE HGT
          go_wp2_with fail
          refine (HC1.out _).mono ?_
          rintro e w10 ⟨rfl, rfl⟩
          go_wp2_with fail
          refine (HC2.out _).mono ?_
          rintro e w11 ⟨rfl, rfl⟩
          go_wp2
          all_goals
            go_ret
            exact ⟨rfl, HK9.out⟩
end Go.Proofs.YtiinnoahopnkcaaGreatDoor
