/- Joined texts, part 22: XJ XL2 XD XE XL3. -/
import Derived.Test.YtiinnoahopnkcaaGreatDoorZ15
import Derived.Test.YtiinnoahopnkcaaGreatDoorZ19
import Derived.BigQuiet
import Derived.Test.YtiinnoahopnkcaaGreatDoorZ21
import Derived.Test.YtiinnoahopnkcaaGreatDoorZ17
import Derived.Test.YtiinnoahopnkcaaGreatDoorZ18
import Derived.Deep.CutRange
import Derived.Deep.RegionHeld3

/- The reference's May of layer 10. -/
namespace Go.Proofs.YtiinnoahopnkcaaGreatDoor
set_option linter.unusedSimpArgs false
open Go.RowKit
set_option linter.unusedVariables false

set_option maxHeartbeats 6400000 in
set_option maxRecDepth 100000 in
theorem rMay07_any (l : List PodD) (a b : Int) (A : Option Addr) (n c : Nat) (v1 v2 : Value) (w : World) (hn : n = l.length) (hl : n ≤ 1000) (hr : Recs 8 cellsP w w.heap.size A l) :
    Calls Tryz.prog 48 #[.agg #[.slice A n c, v1, v2], .int .i64 a, .int .i64 b] w fun e w' => e = .returned (.bool (mayD a b l)) ∧ Below w.heap.size w w' := by
  have B0 : Bf (w.alloc (.cells #[.slice A n c, v1, v2] 34)) w.heap.size [.slice A n c, v1, v2] := Bf.new w [.slice A n c, v1, v2] 34 rfl
  have k0 : Below w.heap.size w (w.alloc (.cells #[.slice A n c, v1, v2] 34)) := (Below.refl _ _).alloc (Nat.le_refl _) _
  have HR := Lib.hid (fun (V : World) (hV : Below w.heap.size w V) => (hr.below hV (Nat.le_refl _)).more hV.size)
  have HC := Lib.hid (fun (id : Int) (V : World) (hV : Below w.heap.size w V) => rPlace05_any l id A n c V.heap.size v1 v2 V hn hl (Nat.le_refl _) (HR.out V hV))
  have HC1 := Lib.hid (HC.out a _ k0)
  have HC2 := Lib.hid (fun V hV => HC.out b V hV)
  have HB0 := Lib.hid B0
  have HK0 := Lib.hid k0
  have HN := Lib.hid hn
  have M1 := Lib.hid (may_none1 (a := a) (b := b) (l := l))
  have M2 := Lib.hid (may_none2 (a := a) (b := b) (l := l))
  have M3 := Lib.hid (fun i j hi h hj k => may_some (a := a) (b := b) (l := l) (i := i) (j := j) hi h hj k)
  have P1 := Lib.hid (place_ge (f := PodD.id) (id := a) (l := l) (k := 0) (by omega))
  have P2 := Lib.hid (place_ge (f := PodD.id) (id := b) (l := l) (k := 0) (by omega))
  generalize place PodD.id a l 0 = pa at *
  generalize place PodD.id b l 0 = pb at *
  generalize mayD a b l = r at *
  clear hr hn HC B0 k0
  go_enter Tryz.func48, Tryz.ntmps48
  go_wp2_with fail
  refine HC1.out.mono ?_
  rintro e w1 ⟨rfl, hb1⟩
  have B1 := HB0.out.below hb1 HB0.out.lt
  have HK1 := Lib.hid (HK0.out.trans (hb1.mono HK0.out.size))
  have HB1 := Lib.hid B1
  obtain ⟨a0, a1, a2, a3⟩ := B1.cells3
  clear hb1 B1 HB0 HK0
  go_wp2_with fail
  refine (HC2.out _ HK1.out).mono ?_
  rintro e w2 ⟨rfl, hb2⟩
  have B2 := HB1.out.below hb2 HB1.out.lt
  have HK2 := Lib.hid (HK1.out.trans (hb2.mono HK1.out.size))
  clear hb2 HB1 HK1 a0 a1 a2 a3
  obtain ⟨a0, a1, a2, a3⟩ := B2.cells3
  clear B2
  by_cases h1 : pa < 0
  · have d1 : decide (pa < 0) = true := decide_eq_true h1
    have HE := Lib.hid (M1.out h1)
    clear h1
    go_wp2
    go_ret
    exact ⟨ret_bool HE.out.symm, HK2.out⟩
  have d1 : decide (pa < 0) = false := decide_eq_false h1
  by_cases h2 : pb < 0
  · have d2 : decide (pb < 0) = true := decide_eq_true h2
    have HE := Lib.hid (M2.out h2)
    clear h1 h2
    go_wp2
    go_ret
    exact ⟨ret_bool HE.out.symm, HK2.out⟩
  obtain ⟨i, rfl⟩ : ∃ i : Nat, pa = i := ⟨pa.toNat, by omega⟩
  obtain ⟨j, rfl⟩ : ∃ j : Nat, pb = j := ⟨pb.toNat, by omega⟩
  have hi : i < l.length := by have := P1.out; omega
  have hj : j < l.length := by have := P2.out; omega
  have d1' : decide ((i : Int) < 0) = false := decide_eq_false h1
  have d2' : decide ((j : Int) < 0) = false := decide_eq_false h2
  have HE := Lib.hid (M3.out i j hi rfl hj rfl)
  obtain ⟨g, o, rfl, hg, he⟩ := (HR.out _ HK2.out).at hi
  obtain ⟨g', o', hA', _, hf⟩ := (HR.out _ HK2.out).at hj
  injection hA' with hA'
  injection hA' with q1 q2 _
  subst q1 q2
  generalize l[i] = p at *
  generalize l[j] = q at *
  have e2 : w2.cell? ⟨g, o + i * 8 + 2, none⟩ = some (.int .i64 p.prio) := he 2 _ rfl
  have f2 : w2.cell? ⟨g, o + j * 8 + 2, none⟩ = some (.int .i64 q.prio) := hf 2 _ rfl
  have hi0 : (0 : Int) ≤ (i : Int) := by omega
  have hi1 : (i : Int) < (n : Int) := by have := HN.out; omega
  have hj0 : (0 : Int) ≤ (j : Int) := by omega
  have hj1 : (j : Int) < (n : Int) := by have := HN.out; omega
  have HG : Hid (goV q p = decide (q.prio < p.prio)) := rfl
  clear he hf h1 h2
  by_cases hq : q.prio < p.prio
  · have dq : decide (q.prio < p.prio) = true := decide_eq_true hq
    have HE2 := Lib.hid (HE.out.trans (HG.out.trans dq))
    clear hq
    go_wp2
    go_quiet (fail)
    go_wp2
    go_ret
    exact ⟨ret_bool HE2.out.symm, below_draws HK2.out _⟩
  · have dq : decide (q.prio < p.prio) = false := decide_eq_false hq
    have HE2 := Lib.hid (HE.out.trans (HG.out.trans dq))
    clear hq
    go_wp2
    go_quiet (fail)
    go_wp2
    go_ret
    exact ⟨ret_bool HE2.out.symm, below_draws HK2.out _⟩
end Go.Proofs.YtiinnoahopnkcaaGreatDoor

/- The reference's First of layer 5, in new memory, and its Do of layer 12. -/
namespace Go.Proofs.YtiinnoahopnkcaaGreatDoor
set_option linter.unusedSimpArgs false
open Go.RowKit
set_option linter.unusedVariables false

set_option maxHeartbeats 800000 in
theorem rFirst05_new (l : List PodD) (A : Option Addr) (n c : Nat) (v0 v1 : Value) (w : World) (hn : n = l.length) (hl : n ≤ 1000) (h0 : A = none → c = 0) (hr : Recs 8 cellsP w w.heap.size A l) :
    Calls Tryz.prog 21 #[.agg #[v0, v1, .slice A n c]] w fun e w' => ∃ A' c', e = .returned (stateV A' n c' 0 0) ∧ Out 8 cellsP w' l A' c' ∧ (∀ a, A' = some a → w.heap.size ≤ a.block ∧ a.block < w'.heap.size) ∧ Below w.heap.size w w' := by
  have HR := Lib.hid hr
  have HN := Lib.hid hn
  have H0 := Lib.hid h0
  clear hr hn h0
  go_enter Tryz.func21, Tryz.ntmps21
  go_wp2_with (at_builtin; refine wpList_recs 24 68 (.agg #[.int .i64 0, .int .i64 0, .int .i64 0, .int .u64 0, .int .u64 0, .int .u64 0, .int .u64 0, .int .i64 0]) 8 64 underPods infoPod rfl (by decide) (by decide) lenP onePod rfl (.tmp 3) (.tmp 5) rfl (w.heap.size + 2) (w.heap.size + 2) _ 0 n [] l A c H0.out (own_empty _ _ (w.heap.size + 1 + 1) _ (by simp) (by simp)) ((HR.out.below (below_three w _ _ _) (Nat.le_refl _)).more (by omega)) (by first | (simp; done) | (simp; omega)) (by omega) rfl rfl HN.out ?_; intro v' w' hown hb hB; have hB2 : w.heap.size + 2 ≤ w'.heap.size := hB; rw [Nat.zero_add] at hown; obtain ⟨A', c', rfl, _⟩ := own_form3 hown; have HO := Lib.hid hown; have HB := Lib.hid (below_last hb (by simp)); clear hown hb; have hzw : w.heap.size + 1 < w'.heap.size := (by omega); have g0 : w'.cell? ⟨w.heap.size + 1, 0, none⟩ = some (.slice none 0 0) := (HB.out.cell (p := ⟨w.heap.size + 1, 0, none⟩) (by simp)).trans (by simp); have h0 : w'.frozen? ⟨w.heap.size + 1, 0, none⟩ = false := (HB.out.frozen (p := ⟨w.heap.size + 1, 0, none⟩) (by simp)).trans (by simp); have g1 : w'.cell? ⟨w.heap.size + 1, 1, none⟩ = some (.int .i64 0) := (HB.out.cell (p := ⟨w.heap.size + 1, 1, none⟩) (by simp)).trans (by simp); have h1 : w'.frozen? ⟨w.heap.size + 1, 1, none⟩ = false := (HB.out.frozen (p := ⟨w.heap.size + 1, 1, none⟩) (by simp)).trans (by simp); have g2 : w'.cell? ⟨w.heap.size + 1, 2, none⟩ = some (.int .i64 0) := (HB.out.cell (p := ⟨w.heap.size + 1, 2, none⟩) (by simp)).trans (by simp); have h2 : w'.frozen? ⟨w.heap.size + 1, 2, none⟩ = false := (HB.out.frozen (p := ⟨w.heap.size + 1, 2, none⟩) (by simp)).trans (by simp))
  refine bodyPost_ret (v := stateV A' n c' 0 0) ?_ rfl ?_
  · simp [results, Tryz.results21, go_sem, *]
  · have hn := HN.out
    subst hn
    have ho : OwnAt (w.heap.size + 2) l w' A' c' := HO.out
    refine ⟨A', c', rfl, (((ho.set (by simp) _).set (by simp) _).set (by simp) _).out, (fun a ha => by have := ho.from a ha; simp; omega), ?_⟩
    have kw := (below_two w _ _).trans (HB.out.mono (by omega))
    repeat (first | with_reducible exact kw | with_reducible refine Below.setCell ?_ ?_ _)
    all_goals (show w.heap.size ≤ w.heap.size + 1; omega)

theorem prio_cases (l : List PodD) (m : MoveD) : (prioD l m = true ∧ (m.kind == 4) = true ∧ mayD m.pod m.over l = false) ∨ ((prioD l m = false ∧ (m.kind == 4) = false) ∨ (prioD l m = false ∧ (m.kind == 4) = true ∧ mayD m.pod m.over l = true)) := by
  unfold prioD
  cases m.kind == 4 <;> cases mayD m.pod m.over l <;> simp

set_option maxHeartbeats 12800000 in
set_option maxRecDepth 100000 in
/-- The reference's Do. -/
theorem rDo11_any (ns : List NodeD) (ls : List LoadD) (x : SpecD) (t : StateD) (m : MoveD) (A1 A2 A3 A4 A5 : Option Addr) (n1 c1 n2 c2 n3 c3 n4 c4 n5 c5 : Nat) (w : World) (h : SafeArgs ns ls t.pods A1 A2 A4 n1 n2 n4 c4 w) (hl1 : n1 ≤ 40)
    (hn5 : n5 = x.wants.length) (hl5 : n5 ≤ 400) (hr5 : Recs 6 cellsW w w.heap.size A5 x.wants) (hxo : ∀ y ∈ x.wants, y.Ok) :
    Calls Tryz.prog 23 #[.agg #[.slice A1 n1 c1, .slice A2 n2 c2, .slice A3 n3 c3], .agg #[.slice A5 n5 c5, .int .i64 x.preempts, .int .i64 x.shifts], .agg #[.slice A4 n4 c4, .int .i64 t.preempts, .int .i64 t.shifts], .agg #[.int .i64 m.kind, .int .i64 m.pod, .int .i64 m.node, .int .i64 m.over]] w (RMakeTo (doD ns ls x t m) w) := by
  have M0 := Mk.new w [.slice A1 n1 c1, .slice A2 n2 c2, .slice A3 n3 c3] [.slice A5 n5 c5, .int .i64 x.preempts, .int .i64 x.shifts] [.slice A4 n4 c4, .int .i64 t.preempts, .int .i64 t.shifts] [.int .i64 m.kind, .int .i64 m.pod, .int .i64 m.node, .int .i64 m.over] 26 29 34 59 34
  have HMK : Hid (∀ V, Below w.heap.size w V → Calls Tryz.prog 47 #[.agg #[.slice A1 n1 c1, .slice A2 n2 c2, .slice A3 n3 c3], .agg #[.slice A5 n5 c5, .int .i64 x.preempts, .int .i64 x.shifts], .agg #[.slice A4 n4 c4, .int .i64 t.preempts, .int .i64 t.shifts], .agg #[.int .i64 m.kind, .int .i64 m.pod, .int .i64 m.node, .int .i64 m.over]] V
      (RMakeTo (makeD ns x.wants t m) V)) := fun V hV => by
    have k := h.at hV
    exact rMake05_any ns x.wants t m A1 A2 A3 A5 A4 n1 c1 n2 c2 n3 c3 n5 c5 n4 c4 (.int .i64 x.preempts) (.int .i64 x.shifts) V k.e1 (by omega) k.r1 hn5 hl5 ((hr5.below hV (Nat.le_refl _)).more hV.size) k.e4 k.l4 k.k4 k.r4
  have HPR : Hid (∀ V, Below w.heap.size w V → Calls Tryz.prog 48 #[.agg #[.slice A4 n4 c4, .int .i64 t.preempts, .int .i64 t.shifts], .int .i64 m.pod, .int .i64 m.over] V fun e w' => e = .returned (.bool (mayD m.pod m.over t.pods)) ∧ Below V.heap.size V w') := fun V hV => by
    have k := h.at hV
    exact rMay07_any t.pods m.pod m.over A4 n4 c4 (.int .i64 t.preempts) (.int .i64 t.shifts) V k.e4 (by have := k.l4; omega) k.r4
  have HFA : Hid ((makeD ns x.wants t m).2 = 0 → ∀ V A c, Below w.heap.size w V → Out 8 cellsP V (makeD ns x.wants t m).1.pods A c → Calls Tryz.prog 22 #[.agg #[.slice A1 n1 c1, .slice A2 n2 c2, .slice A3 n3 c3], .agg #[.slice A5 n5 c5, .int .i64 x.preempts, .int .i64 x.shifts], .agg #[.slice A (makeD ns x.wants t m).1.pods.length c, .int .i64 (makeD ns x.wants t m).1.preempts, .int .i64 (makeD ns x.wants t m).1.shifts]] V
      fun e w' => ∃ z : Int, e = .returned (.tuple #[.int .i64 (codeS ns ls x (makeD ns x.wants t m).1), .int .i64 z]) ∧ Below V.heap.size V w') := fun h0 V A c hV hO => by
    have k := h.at hV
    obtain ⟨hok, hlen⟩ := made_ok k.no hxo k.lo h0
    exact rWhy11_any ns ls x (makeD ns x.wants t m).1 A1 A2 A3 A A5 n1 c1 n2 c2 n3 c3 _ c n5 c5 V ⟨k.g, k.no, hok, k.e1, k.l1, k.r1, k.e2, k.l2, k.r2, rfl, by rw [hlen, ← k.e4]; exact k.l4, hO.1, hO.2.2.2⟩ hl1
  have H1 := Lib.hid (do_no1 (ns := ns) (ls := ls) (x := x) (t := t) (m := m))
  have H2 := Lib.hid (do_no2 (ns := ns) (ls := ls) (x := x) (t := t) (m := m))
  have H3 := Lib.hid (do_no3 (ns := ns) (ls := ls) (x := x) (t := t) (m := m))
  have H4 := Lib.hid (do_yes (ns := ns) (ls := ls) (x := x) (t := t) (m := m))
  have HPC := Lib.hid (prio_cases t.pods m)
  generalize doD ns ls x t m = r at *
  generalize codeS ns ls x (makeD ns x.wants t m).1 = cs at *
  generalize makeD ns x.wants t m = mk at *
  generalize prioD t.pods m = pr at *
  generalize mayD m.pod m.over t.pods = may at *
  generalize x.preempts = x1 at *
  generalize x.shifts = x2 at *
  generalize t.preempts = t1 at *
  generalize t.shifts = t2 at *
  obtain ⟨u, mc⟩ := mk
  dsimp only at HMK HFA H1 H2 H3 H4
  have HM0 := Lib.hid M0
  clear h hn5 hr5 hxo M0 hl1 hl5
  go_enter Tryz.func23, Tryz.ntmps23
  go_wp2_with fail
  refine (HMK.out _ HM0.out.below).mono ?_
  rintro e w1 ⟨_, rfl, A6, c6, rfl, ho, hfr, hb1⟩
  have M1 := HM0.out.keep hb1
  have hfr1 : ∀ a, A6 = some a → a.block ≠ w.heap.size + 4 := fun a ha => by have h1 := hfr a ha; have h2 := HM0.out.res.lt; omega
  have hfr2 : ∀ a, A6 = some a → w.heap.size ≤ a.block := fun a ha => Nat.le_trans HM0.out.below.size (hfr a ha)
  have HF := Lib.hid (And.intro hfr1 hfr2)
  have B1 := Bf.new w1 [.slice A6 u.pods.length c6, .int .i64 u.preempts, .int .i64 u.shifts] 34 rfl
  have k2 : Below w1.heap.size w1 (w1.alloc (.cells #[.slice A6 u.pods.length c6, .int .i64 u.preempts, .int .i64 u.shifts] 34)) := (Below.refl _ w1).alloc (Nat.le_refl _) _
  have M2 := M1.keep k2
  have HO2 := Lib.hid (ho.later k2)
  have HM2 := Lib.hid M2
  have HB1 := Lib.hid B1
  have HMLT := Lib.hid (show w.heap.size ≤ w1.heap.size from M1.below.size)
  obtain ⟨a0, a1, a2⟩ := M1.facts.2.2.1
  obtain ⟨r0, r1, r2⟩ := M2.facts2.1
  obtain ⟨z0, z1, z2⟩ := M2.facts2.2.1
  have hz := M2.facts2.2.2
  clear ho hfr hb1 hfr1 hfr2 M1 k2 HM0 HMK a0 a1 a2
  by_cases hc : mc = 0
  · subst hc
    have HFA' := Lib.hid (HFA.out rfl)
    have HP := Lib.hid (HPR.out _ HM2.out.below)
    obtain ⟨⟨a0, a1, a2⟩, ⟨a3, a4, a5⟩, ⟨a6, a7, a8⟩, a9, a10, a11, a12⟩ := M2.facts
    clear HFA HPR M2 B1
    go_wp2_with fail
    refine HP.out.mono ?_
    rintro e w2 ⟨rfl, hb2⟩
    have M3 := HM2.out.keep hb2
    have B3 := HB1.out.below hb2 HB1.out.lt
    have HO3 := Lib.hid (HO2.out.later hb2)
    have HM3 := Lib.hid M3
    have HB3 := Lib.hid B3
    clear hb2 HP HM2 HO2 HB1 a0 a1 a2 a3 a4 a5 a6 a7 a8 a9 a10 a11 a12 r0 r1 r2 z0 z1 z2 hz
    obtain ⟨⟨a0, a1, a2⟩, ⟨a3, a4, a5⟩, ⟨a6, a7, a8⟩, a9, a10, a11, a12⟩ := M3.facts
    obtain ⟨r0, r1, r2⟩ := M3.facts2.1
    obtain ⟨z0, z1, z2⟩ := M3.facts2.2.1
    have hz := M3.facts2.2.2
    rcases HPC.out with ⟨rfl, hk4, rfl⟩ | h
    · have HE := Lib.hid (H2.out (by trivial) (by trivial))
      clear M3 B3 HPC
      go_wp2
      refine bodyPost_ret (v := .tuple #[stateV none 0 0 0 0, .int .i64 14]) ?_ rfl ⟨_, by rw [HE.out], ?_⟩
      · simp [results, Tryz.results23, go_sem, *]
      · rw [HE.out]; exact HM3.out.no
    · obtain ⟨b0, b1, b2, b3⟩ := B3.cells3
      have HFF := Lib.hid (HFA'.out w2 A6 c6 HM3.out.below HO3.out)
      clear M3 B3 HFA' HPC
      rcases h with ⟨rfl, hk4⟩ | ⟨rfl, hk4, rfl⟩
      all_goals
        go_wp2_with fail
        refine HFF.out.mono ?_
        rintro e w3 ⟨zz, rfl, hb3⟩
        have M4 := HM3.out.keep hb3
        have B4 := HB3.out.below hb3 HB3.out.lt
        have HO4 := Lib.hid (HO3.out.later hb3)
        have HM4 := Lib.hid M4
        clear hb3 HFF HM3 HO3 HB3 b0 b1 b2 b3 a0 a1 a2 a3 a4 a5 a6 a7 a8 a9 a10 a11 a12 r0 r1 r2 z0 z1 z2 hz
        obtain ⟨r0, r1, r2⟩ := M4.facts2.1
        obtain ⟨z0, z1, z2⟩ := M4.facts2.2.1
        have hz := M4.facts2.2.2
        obtain ⟨b0, b1, b2, b3⟩ := B4.cells3
        clear M4 B4
        by_cases hs : cs = 0
        · have HE := Lib.hid (H4.out (by trivial) (by trivial) hs)
          have hsd : (cs != 0) = false := by simp [hs]
          clear hs
          go_wp2
          refine bodyPost_ret (v := .tuple #[stateV A6 u.pods.length c6 u.preempts u.shifts, .int .i64 0]) ?_ rfl ⟨_, by rw [HE.out], ?_⟩
          · simp [results, Tryz.results23, go_sem, *]
          · rw [HE.out]
            exact ⟨A6, c6, rfl, ((HO4.out.set (p := ⟨w.heap.size + 4, 0, none⟩) HF.out.1 _).set (p := ⟨w.heap.size + 4, 1, none⟩) HF.out.1 _).set (p := ⟨w.heap.size + 4, 2, none⟩) HF.out.1 _, HF.out.2, ((HM4.out.below.setCell (by simp; omega) _).setCell (by simp; omega) _).setCell (by simp; omega) _⟩
        · have HE := Lib.hid (H3.out (by trivial) (by trivial) hs)
          have hsd : (cs != 0) = true := by simp [hs]
          clear hs
          go_wp2
          refine bodyPost_ret (v := .tuple #[stateV none 0 0 0 0, .int .i64 cs]) ?_ rfl ⟨_, by rw [HE.out], ?_⟩
          · simp [results, Tryz.results23, go_sem, *]
          · rw [HE.out]; exact HM4.out.no
  · have HE := Lib.hid (H1.out hc)
    have hcd : (mc != 0) = true := by simp [hc]
    clear hc M2 B1
    go_wp2
    refine bodyPost_ret (v := .tuple #[stateV none 0 0 0 0, .int .i64 mc]) ?_ rfl ⟨_, by rw [HE.out], ?_⟩
    · simp [results, Tryz.results23, go_sem, *]
    · rw [HE.out]; exact HM2.out.no
end Go.Proofs.YtiinnoahopnkcaaGreatDoor

/- The head of layer 12's laws: no moves are the first state; an empty snapshot may not be. -/
namespace Go.Proofs.YtiinnoahopnkcaaGreatDoor
set_option linter.unusedSimpArgs false
open Go.RowKit
set_option linter.unusedVariables false

def upS12 : SnapD := ⟨[nd3], [], []⟩
def upX12 : SpecD := ⟨[], 0, 0⟩
theorem up12_a : walkD upS12 upX12 [] = (⟨[], 0, 0⟩, 0, (0, -1)) := by
  rw [walkD_yes (by decide) (by decide)]; rfl
theorem up12_b : walkD ⟨[], [], []⟩ upX12 [] = (noState, 0, (3, -1)) := by
  rw [walkD_no1 (by decide)]; rfl

set_option maxHeartbeats 6400000 in
set_option maxRecDepth 100000 in
theorem up12_any (w : World) (hg : Laid w) : Calls Tryz.prog 5 #[] w fun e w' => e = .returned (.bool true) ∧ Below w.heap.size w w' := by
  have hb1 : Below w.heap.size w (w.alloc (.cells #[.int .i64 3, .int .i64 1, .int .u64 0, .int .u64 0, .int .u64 0, .int .u64 0, .int .u64 0, .int .u64 0, .int .u64 0, .int .u64 0] 53)) := (Below.refl _ w).alloc (Nat.le_refl _) _
  have hr1 := recs_newG (cells := cellsN) (size := 10) (fun _ => rfl) w 53 [nd3] #[.int .i64 3, .int .i64 1, .int .u64 0, .int .u64 0, .int .u64 0, .int .u64 0, .int .u64 0, .int .u64 0, .int .u64 0, .int .u64 0] rfl rfl
  have hb2 := hb1.alloc (by simp) (.cells #[.slice (some ⟨w.heap.size, 0, none⟩) 1 1, .slice none 0 0, .slice none 0 0] 26)
  have hB : Bf ((w.alloc (.cells #[.int .i64 3, .int .i64 1, .int .u64 0, .int .u64 0, .int .u64 0, .int .u64 0, .int .u64 0, .int .u64 0, .int .u64 0, .int .u64 0] 53)).alloc (.cells #[.slice (some ⟨w.heap.size, 0, none⟩) 1 1, .slice none 0 0, .slice none 0 0] 26)) (w.heap.size + 1) [.slice (some ⟨w.heap.size, 0, none⟩) 1 1, .slice none 0 0, .slice none 0 0] :=
    Bf.new (w.alloc (.cells #[.int .i64 3, .int .i64 1, .int .u64 0, .int .u64 0, .int .u64 0, .int .u64 0, .int .u64 0, .int .u64 0, .int .u64 0, .int .u64 0] 53)) _ _ (by simp)
  have hr1' := hr1.below ((Below.refl _ _).alloc (Nat.le_refl _) (.cells #[.slice (some ⟨w.heap.size, 0, none⟩) 1 1, .slice none 0 0, .slice none 0 0] 26)) (by simp)
  have hsz : ((w.alloc (.cells #[.int .i64 3, .int .i64 1, .int .u64 0, .int .u64 0, .int .u64 0, .int .u64 0, .int .u64 0, .int .u64 0, .int .u64 0, .int .u64 0] 53)).alloc (.cells #[.slice (some ⟨w.heap.size, 0, none⟩) 1 1, .slice none 0 0, .slice none 0 0] 26)).heap.size = w.heap.size + 2 := by simp
  clear hr1 hb1
  have heq := eql_codes
  go_enter Tryz.func5, Tryz.ntmps5
  go_upto_region 2 with fail
  generalize hX : ((w.alloc (.cells #[.int .i64 3, .int .i64 1, .int .u64 0, .int .u64 0, .int .u64 0, .int .u64 0, .int .u64 0, .int .u64 0, .int .u64 0, .int .u64 0] 53)).alloc (.cells #[.slice (some ⟨w.heap.size, 0, none⟩) 1 1, .slice none 0 0, .slice none 0 0] 26)) = X at *
  clear hX
  have HSZ := Lib.hid hsz
  have HK := Lib.hid hb2
  have HBS := Lib.hid hB
  have HR1 := Lib.hid hr1'
  generalize hgs : w.heap.size + 1 = gs at *
  have HGS := Lib.hid hgs
  clear hgs
  generalize hl : w.heap.size = gl at *
  clear hsz hb2 hB hr1'
  have HX1 : Hid (∀ V, Below X.heap.size X V → Recs 10 cellsN V V.heap.size (some ⟨gl, 0, none⟩) [nd3]) := fun V hV => (HR1.out.below hV (by have := HSZ.out; have := HGS.out; omega)).more (by have := hV.size; have := HSZ.out; have := HGS.out; omega)
  have HG : Hid (∀ V, Below X.heap.size X V → Laid V) := fun V hV => Laid.below (Laid.below hg HK.out (by omega)) hV (Nat.le_refl _)
  have H1 : Hid (∀ V, Below X.heap.size X V → Calls Tryz.prog 7 #[.agg #[.slice (some ⟨gl, 0, none⟩) 1 1, .slice none 0 0, .slice none 0 0], .agg #[.slice none 0 0, .int .i64 0, .int .i64 0], .slice none 0 0] V fun e w' => ∃ A c, e = .returned (.tuple #[.agg #[.slice A 0 c, .int .i64 0, .int .i64 0], .int .i64 0, .nilIface]) ∧ Below V.heap.size V w') := fun V hV => by
    have h := stepWalk_any upS12 upX12 [] (some ⟨gl, 0, none⟩) none none none none 1 1 0 0 0 0 0 0 0 0 V ⟨HG.out V hV, ⟨fun a h => by simp [upS12] at h; subst h; exact nd3_ok, fun _ h => by simp [upS12] at h, fun _ h => by simp [upS12] at h⟩, (fun _ h => by simp [upX12] at h), ⟨by decide, by decide⟩, ⟨by decide, by decide⟩, ⟨rfl, by decide, by decide, by decide⟩, ⟨rfl, by decide, by decide, by decide⟩, ⟨rfl, by decide, by decide, by decide, fun _ => rfl⟩, ⟨rfl, by decide, by decide, by decide⟩, HX1.out V hV, Recs.nil, Recs.nil, Recs.nil⟩ rfl (by decide) Recs.nil
    rw [up12_a] at h
    refine h.mono fun e w' ⟨A, c, u, he, _, _, hu, hb⟩ => ?_
    have hn := hu.nil rfl
    subst hn
    exact ⟨A, c, he, hb⟩
  have H2 : Hid (∀ V, Below X.heap.size X V → Calls Tryz.prog 7 #[.agg #[.slice none 0 0, .slice none 0 0, .slice none 0 0], .agg #[.slice none 0 0, .int .i64 0, .int .i64 0], .slice none 0 0] V fun e w' => ∃ A c, e = .returned (.tuple #[.agg #[.slice A 0 c, .int .i64 0, .int .i64 0], .int .i64 0, .iface 54 (.int .i64 3)]) ∧ Below V.heap.size V w') := fun V hV => by
    have h := stepWalk_any ⟨[], [], []⟩ upX12 [] none none none none none 0 0 0 0 0 0 0 0 0 0 V ⟨HG.out V hV, ⟨fun _ h => by simp at h, fun _ h => by simp at h, fun _ h => by simp at h⟩, (fun _ h => by simp [upX12] at h), ⟨by decide, by decide⟩, ⟨by decide, by decide⟩, ⟨rfl, by decide, by decide, by decide⟩, ⟨rfl, by decide, by decide, by decide⟩, ⟨rfl, by decide, by decide, by decide, fun _ => rfl⟩, ⟨rfl, by decide, by decide, by decide⟩, Recs.nil, Recs.nil, Recs.nil, Recs.nil⟩ rfl (by decide) Recs.nil
    rw [up12_b] at h
    refine h.mono fun e w' ⟨A, c, u, he, _, _, hu, hb⟩ => ?_
    have hn := errIs_self hu (by decide) rfl
    subst hn
    exact ⟨A, c, he, hb⟩
  have HGW : Hid (gl = w.heap.size) := hl.symm
  clear hg hl HSZ HGS HR1 HX1 HG
  obtain ⟨a0, a1, a2, a3⟩ := HBS.out.cells3
  go_wp2_with fail
  refine (H1.out _ (Below.refl _ _)).mono ?_
  rintro e w1 ⟨A, c, rfl, hb1⟩
  have k1 : Below w1.heap.size w1 (w1.alloc (.cells #[.slice A 0 c, .int .i64 0, .int .i64 0] 34)) := (Below.refl _ w1).alloc (Nat.le_refl _) _
  have B1 : Bf (w1.alloc (.cells #[.slice A 0 c, .int .i64 0, .int .i64 0] 34)) w1.heap.size [.slice A 0 c, .int .i64 0, .int .i64 0] := Bf.new w1 _ _ rfl
  have HK1 := Lib.hid (hb1.trans (k1.mono hb1.size))
  have HB1 := Lib.hid B1
  have H22 := Lib.hid (H2.out _ HK1.out)
  clear a0 a1 a2 a3 hb1 k1 B1 H1 H2
  go_wp2_with fail
  refine H22.out.mono ?_
  rintro e w2 ⟨A2, c2, rfl, hb2⟩
  have HK2 := Lib.hid (HK1.out.trans (hb2.mono HK1.out.size))
  have B2 := (HB1.out.below hb2 HB1.out.lt).alloc (.cells #[.slice A2 0 c2, .int .i64 0, .int .i64 0] 34)
  have HK3 := Lib.hid (HK2.out.alloc HK2.out.size (.cells #[.slice A2 0 c2, .int .i64 0, .int .i64 0] 34))
  obtain ⟨b0, b1, b2, b3⟩ := B2.cells3
  clear hb2 B2 HB1 H22
  go_wp2
  go_ret
  have hfin := HK.out.trans (HK3.out.mono (show gl ≤ X.heap.size by have := HK.out.size; have := HGW.out; omega))
  exact ⟨rfl, by rw [← HGW.out]; exact hfin⟩
end Go.Proofs.YtiinnoahopnkcaaGreatDoor

/- The law StepSafe. -/
namespace Go.Proofs.YtiinnoahopnkcaaGreatDoor
set_option linter.unusedSimpArgs false
open Go.RowKit
set_option linter.unusedVariables false

/-- What a walk says, and a walk of fewer moves. -/
theorem walkD_fewer (s : SnapD) (x : SpecD) (l : List MoveD) (i : Nat) (hi : i ≤ l.length) (hs : s.Ok) (hx : ∀ a ∈ x.wants, a.Ok) :
    (i = 0 → (walkD s x (l.take i)).2.1 = 0) ∧ (¬ ((walkD s x l).2.1 = 0 ∧ okP (walkD s x l).2.2 = false) →
      codeS s.nodes s.loads x (walkD s x (l.take i)).1 = 0 ∧ (∀ p ∈ (walkD s x (l.take i)).1.pods, p.Ok) ∧ (walkD s x (l.take i)).1.pods.length = s.pods.length ∧
      (i ≤ (walkD s x l).2.1 → (walkD s x (l.take i)).2.1 = i ∧ (walkD s x (l.take i)).2.2 = (0, -1)) ∧
      ((walkD s x l).2.1 < i → (walkD s x (l.take i)).2 = (walkD s x l).2 ∧ (walkD s x l).2.2.2 = -1 ∧ 0 ≤ (walkD s x l).2.2.1 ∧ (walkD s x l).2.2.1 ≤ 15)) := by
  by_cases h1 : (fair s x).1 = 0
  · by_cases h2 : codeS s.nodes s.loads x (firstD s) = 0
    · rw [walkD_yes h1 h2, walkD_yes h1 h2]
      obtain ⟨f1, f2⟩ := walk_fewer (ns := s.nodes) (ls := s.loads) (x := x) l 0 i (firstD s) hi
      obtain ⟨o1, o2⟩ := walk_ok (ls := s.loads) hs.1 hx (l.take i) 0 (firstD s) hs.2.2
      obtain ⟨v1, v2, v3, v4, v5⟩ := walk_vals (ns := s.nodes) (ls := s.loads) (x := x) l 0 (firstD s)
      refine ⟨fun e => ?_, fun _ => ⟨walk_safe _ _ _ h2, o1, o2, fun h => ?_, fun h => ?_⟩⟩
      · subst e
        rfl
      · have := f1 (by simpa using h)
        dsimp only
        rw [this]
        simp
      · have := f2 (by simpa using h)
        dsimp only
        rw [this]
        exact ⟨rfl, rfl, v3, v4⟩
    · rw [walkD_no2 h1 h2, walkD_no2 h1 h2]
      refine ⟨fun _ => rfl, fun h => absurd ⟨rfl, ?_⟩ h⟩
      simp [okP, h2]
  · rw [walkD_no1 h1, walkD_no1 h1]
    refine ⟨fun _ => rfl, fun h => absurd ⟨rfl, ?_⟩ h⟩
    simp [okP, h1]
theorem Bf.laterS {W v w' : World} (h0 : Bf v W.heap.size [.slice none 0 0, .int .i64 0, .int .i64 0]) (hb : Below v.heap.size v w') {x y z : Value} :
    Bf (((w'.setCell ⟨W.heap.size, 0, none⟩ x).setCell ⟨W.heap.size, 1, none⟩ y).setCell ⟨W.heap.size, 2, none⟩ z) W.heap.size [x, y, z] :=
  ((((h0.below hb h0.lt).set 0 x).set 1 y).set 2 z)
theorem Out.put3 {l : List PodD} {w : World} {A : Option Addr} {c g : Nat} (h : Out 8 cellsP w l A c) (hp : ∀ a, A = some a → a.block ≠ g) {x y z : Value} : Out 8 cellsP (((w.setCell ⟨g, 0, none⟩ x).setCell ⟨g, 1, none⟩ y).setCell ⟨g, 2, none⟩ z) l A c :=
  ((h.set (p := ⟨g, 0, none⟩) hp x).set (p := ⟨g, 1, none⟩) hp y).set (p := ⟨g, 2, none⟩) hp z
theorem ErrIs.put3 {p : Int × Int} {B g : Nat} {w : World} {u : Value} (h : ErrIs p B w u) (hq : g < B) {x y z : Value} : ErrIs p B (((w.setCell ⟨g, 0, none⟩ x).setCell ⟨g, 1, none⟩ y).setCell ⟨g, 2, none⟩ z) u :=
  ((h.put (q := ⟨g, 0, none⟩) hq x).put (q := ⟨g, 1, none⟩) hq y).put (q := ⟨g, 2, none⟩) hq z
theorem errIs_of {p : Int × Int} {B : Nat} {w : World} {u : Value} (h : ErrIs p B w u) (h2 : p.2 = -1) : (p = (0, -1) ∧ u = .nilIface) ∨ (1 ≤ p.1 ∧ p.1 ≤ 17 ∧ u = .iface 54 (.int .i64 p.1)) := by
  rcases h with h | ⟨_, h3, h4, h5⟩ | ⟨k, g, h, _⟩
  · exact .inl h
  · exact .inr ⟨h3, h4, h5⟩
  · omega
theorem code_ok {ns : List NodeD} {ls : List LoadD} {x : SpecD} {t : StateD} (h : codeS ns ls x t = 0) : okP (whyP (fiveP ns ls t.pods x.preempts x.shifts t.preempts t.shifts)) = true := by
  rw [told8_ok (told8_why _ _ _ _ _ _ _)]
  have h2 : (whyP (fiveP ns ls t.pods x.preempts x.shifts t.preempts t.shifts)).1 = 0 := h
  rw [h2]; rfl

set_option maxHeartbeats 12800000 in
set_option maxRecDepth 100000 in
theorem stepSafe_in (s : SnapD) (x : SpecD) (l : List MoveD) (id : Int) (hs : s.Ok) (hx : ∀ a ∈ x.wants, a.Ok) (hi1 : I64 x.preempts) (hi2 : I64 x.shifts) (A1 A2 A3 A5 A6 : Option Addr) (n1 c1 n2 c2 n3 c3 n5 c5 n6 c6 : Nat) (w : World) (hg : Laid w)
    (h1 : n1 = s.nodes.length ∧ n1 ≤ c1 ∧ c1 ≤ maxLen) (h2 : n2 = s.loads.length ∧ n2 ≤ c2 ∧ c2 ≤ maxLen) (h3 : n3 = s.pods.length ∧ n3 ≤ c3 ∧ c3 ≤ maxLen ∧ (A3 = none → c3 = 0)) (h5 : n5 = x.wants.length ∧ n5 ≤ c5 ∧ c5 ≤ maxLen) (h6 : n6 = l.length ∧ n6 ≤ c6 ∧ c6 ≤ maxLen)
    (hr1 : Recs 10 cellsN w w.heap.size A1 s.nodes) (hr2 : Recs 5 cellsL w w.heap.size A2 s.loads) (hr3 : Recs 8 cellsP w w.heap.size A3 s.pods) (hr5 : Recs 6 cellsW w w.heap.size A5 x.wants) (hr6 : Recs 4 cellsM w w.heap.size A6 l) :
    Calls Tryz.prog 4 #[.agg #[.slice A1 n1 c1, .slice A2 n2 c2, .slice A3 n3 c3], .agg #[.slice A5 n5 c5, .int .i64 x.preempts, .int .i64 x.shifts], .slice A6 n6 c6, .int .i64 id] w fun e w' => e = .returned (.bool true) ∧ Below w.heap.size w w' := by
  have T0 := T2.new w [.slice A1 n1 c1, .slice A2 n2 c2, .slice A3 n3 c3] [.slice A5 n5 c5, .int .i64 x.preempts, .int .i64 x.shifts] 26 29
  have HUP := Lib.hid (up12_any _ (Laid.below hg T0.below (Nat.le_refl _)))
  have HS : Hid (n1 ≤ 40 → n2 ≤ 40 → n3 ≤ 40 → n5 ≤ 40 → WalkArgs s x A1 A2 A3 A5 n1 c1 n2 c2 n3 c3 n5 c5 w) := fun l1 l2 l3 l5 =>
    ⟨hg, hs, hx, hi1, hi2, ⟨h1.1, l1, h1.2.1, h1.2.2⟩, ⟨h2.1, l2, h2.2.1, h2.2.2⟩, ⟨h3.1, l3, h3.2.1, h3.2.2.1, h3.2.2.2⟩, ⟨h5.1, l5, h5.2.1, h5.2.2⟩, hr1, hr2, hr3, hr5⟩
  have HR6 := Lib.hid hr6
  have HN6 := Lib.hid h6.1
  have HMA := Lib.hid (fun i hi => walkD_fewer s x l i hi hs hx)
  have hc6 := h6.2.1
  have hm6 : c6 ≤ 9223372036854775807 := by have := h6.2.2; unfold maxLen at this; omega
  have HT0 := Lib.hid T0
  clear hg hs hx hi1 hi2 h1 h2 h3 h5 h6 hr1 hr2 hr3 hr5 hr6 T0
  have HX : Hid (∀ t : StateD, codeS s.nodes s.loads x t = 0 → okP (whyP (fiveP s.nodes s.loads t.pods x.preempts x.shifts t.preempts t.shifts)) = true) := fun t h => code_ok h
  go_enter Tryz.func4, Tryz.ntmps4
  go_wp2_with fail
  refine HUP.out.mono ?_
  rintro e w1 ⟨rfl, hb1⟩
  have T1 := HT0.out.keep hb1
  have HT1 := Lib.hid T1
  clear hb1 HT0 HUP
  obtain ⟨a0, a1, a2, a3⟩ := T1.one.cells3
  obtain ⟨b0, b1, b2, b3⟩ := T1.two.cells3
  clear T1
  go_wp2_with fail
  refine (few_any _ _ _ _ _ _ _ _ _ _).mono ?_
  rintro e w2 ⟨rfl, hb2⟩
  have T2' := HT1.out.keep hb2
  have HK2 := Lib.hid T2'.below
  have HT2 := Lib.hid T2'
  clear hb2 HT1 a0 a1 a2 a3 b0 b1 b2 b3
  obtain ⟨a0, a1, a2, a3⟩ := T2'.one.cells3
  obtain ⟨b0, b1, b2, b3⟩ := T2'.two.cells3
  clear T2'
  by_cases hfw : n1 ≤ 40 ∧ n2 ≤ 40 ∧ n3 ≤ 40
  case neg =>
    have hfew : decide (n1 ≤ 40 ∧ n2 ≤ 40 ∧ n3 ≤ 40) = false := decide_eq_false hfw
    rw [hfew]
    clear hfew hfw
    go_wp2
    go_ret
    exact ⟨rfl, HK2.out⟩
  have hfew : decide (n1 ≤ 40 ∧ n2 ≤ 40 ∧ n3 ≤ 40) = true := decide_eq_true hfw
  rw [hfew]
  obtain ⟨hl1, hl2, hl3⟩ := hfw
  clear hfew
  by_cases q1 : (40 : Int) < (n5 : Int)
  · have d1 : decide ((40 : Int) < (n5 : Int)) = true := decide_eq_true q1
    clear q1
    go_wp2
    go_ret
    exact ⟨rfl, HK2.out⟩
  have e1 : decide ((40 : Int) < (n5 : Int)) = false := decide_eq_false q1
  by_cases q2 : (60 : Int) < (n6 : Int)
  · have d2 : decide ((60 : Int) < (n6 : Int)) = true := decide_eq_true q2
    clear q1 q2
    go_wp2
    go_ret
    exact ⟨rfl, HK2.out⟩
  have e2 : decide ((60 : Int) < (n6 : Int)) = false := decide_eq_false q2
  by_cases q3 : id < 0
  · have d3 : decide (id < 0) = true := decide_eq_true q3
    clear q1 q2 q3
    go_wp2
    go_ret
    exact ⟨rfl, HK2.out⟩
  have e3 : decide (id < 0) = false := decide_eq_false q3
  by_cases q4 : (n6 : Int) < id
  · have d4 : decide ((n6 : Int) < id) = true := decide_eq_true q4
    clear q1 q2 q3 q4
    go_wp2
    go_ret
    exact ⟨rfl, HK2.out⟩
  have e4 : decide ((n6 : Int) < id) = false := decide_eq_false q4
  obtain ⟨i, rfl⟩ : ∃ i : Nat, id = i := ⟨id.toNat, by omega⟩
  have hin : i ≤ n6 := by omega
  have hl6 : n6 ≤ 60 := by omega
  have HA := Lib.hid (HS.out hl1 hl2 hl3 (by omega))
  have HW1 : Hid (∀ V, Below w.heap.size w V → Calls Tryz.prog 7 #[.agg #[.slice A1 n1 c1, .slice A2 n2 c2, .slice A3 n3 c3], .agg #[.slice A5 n5 c5, .int .i64 x.preempts, .int .i64 x.shifts], .slice A6 n6 c6] V (WalkTo (walkD s x l) V)) := fun V hV =>
    stepWalk_any s x l A1 A2 A3 A5 A6 n1 c1 n2 c2 n3 c3 n5 c5 n6 c6 V (HA.out.at hV) HN6.out (by omega) ((HR6.out.below hV (Nat.le_refl _)).more hV.size)
  have HW2 : Hid (∀ V, Below w.heap.size w V → Calls Tryz.prog 7 #[.agg #[.slice A1 n1 c1, .slice A2 n2 c2, .slice A3 n3 c3], .agg #[.slice A5 n5 c5, .int .i64 x.preempts, .int .i64 x.shifts], .slice A6 i c6] V (WalkTo (walkD s x (l.take i)) V)) := fun V hV =>
    stepWalk_any s x (l.take i) A1 A2 A3 A5 A6 n1 c1 n2 c2 n3 c3 n5 c5 i c6 V (HA.out.at hV) (by have := HN6.out; simp; omega) (by omega) (((HR6.out.below hV (Nat.le_refl _)).more hV.size).take i)
  have HIS : Hid (∀ (t : StateD) V A c, Below w.heap.size w V → Out 8 cellsP V t.pods A c → codeS s.nodes s.loads x t = 0 → (∀ p ∈ t.pods, p.Ok) → t.pods.length = s.pods.length → Calls Tryz.prog 13 #[.agg #[.slice A1 n1 c1, .slice A2 n2 c2, .slice A3 n3 c3], .agg #[.slice A5 n5 c5, .int .i64 x.preempts, .int .i64 x.shifts], .agg #[.slice A t.pods.length c, .int .i64 t.preempts, .int .i64 t.shifts]] V
      fun e w' => e = .returned (.bool true) ∧ Below V.heap.size V w') := fun t V A c hV hO h0 hok hlen => by
    have h := safeIs_any s.nodes s.loads t.pods x.preempts x.shifts t.preempts t.shifts A1 A2 A3 A A5 n1 c1 n2 c2 n3 c3 _ c n5 c5 V ((HA.out.at hV).safe hO hok hlen)
    rw [HX.out t h0] at h
    exact h
  obtain ⟨hz0, hzz⟩ := HMA.out i (by have := HN6.out; omega)
  have HZ0 := Lib.hid hz0
  have HZZ := Lib.hid hzz
  generalize walkD s x l = z at *
  generalize walkD s x (l.take i) = y at *
  generalize x.preempts = x1 at *
  generalize x.shifts = x2 at *
  obtain ⟨zt, zm, zp⟩ := z
  obtain ⟨yt, ym, yp⟩ := y
  dsimp only [WalkTo] at HW1 HW2 HZ0 HZZ
  clear q1 q2 q3 q4 HS HMA HX hz0 hzz HA
  go_wp2_with fail
  refine (HW1.out _ HK2.out).mono ?_
  rintro e w3 ⟨A7, c7, u, rfl, ho, hfr, hu, hb3⟩
  have k3 : Below w3.heap.size w3 (w3.alloc (.cells #[.slice A7 zt.pods.length c7, .int .i64 zt.preempts, .int .i64 zt.shifts] 34)) := (Below.refl _ w3).alloc (Nat.le_refl _) _
  have T3' := (HT2.out.keep hb3).keep k3
  have hu3 := hu.below k3
  clear hu hb3 k3 ho hfr HT2 HK2 a0 a1 a2 a3 b0 b1 b2 b3 e1 e2 e3 e4
  obtain ⟨a0, a1, a2, a3⟩ := T3'.one.cells3
  obtain ⟨b0, b1, b2, b3⟩ := T3'.two.cells3
  go_upto_region 6 with fail
  generalize (w3.alloc (.cells #[.slice A7 zt.pods.length c7, .int .i64 zt.preempts, .int .i64 zt.shifts] 34)) = W at *
  have HU3 := Lib.hid hu3
  have HT3 := Lib.hid T3'
  have HW2' := Lib.hid (fun V (hV : Keeps W V) => HW2.out V (T3'.below.trans (hV.2.mono T3'.below.size)))
  have hi0 : (0 : Int) ≤ (i : Int) := by omega
  have hic : (i : Int) ≤ (c6 : Int) := by omega
  have hin' : (i : Int) ≤ (n6 : Int) := by omega
  clear hu3 T3' HW1 HW2
  go_region_held3 (fun w' => (∀ b o, b < W.heap.size → w'.cell? ⟨b, o, none⟩ = W.cell? ⟨b, o, none⟩) ∧ Below W.heap.size W w')
    (first | (with_reducible assumption) | (show Keeps W _; with_reducible (repeat (first | exact Keeps.refl _ | refine Keeps.drew ?_ | refine Keeps.set ?_ (by first | (simp; done) | (simp; omega) | omega) _ | refine Keeps.alloc ?_ _ | refine Keeps.step ?_ (by assumption)))))
    (first | (go_at_call 7; refine (HW2'.out _ (by assumption)).mono ?_; rintro e w' ⟨A8, c8, u8, rfl, ho8, hfr8, hu8, hb8⟩; obtain ⟨hcx, hfx⟩ := old_cells hb8))
  rename_i hK
  have k8 : Below w'.heap.size w' (w'.alloc (.cells #[.slice A8 yt.pods.length c8, .int .i64 yt.preempts, .int .i64 yt.shifts] 34)) := (Below.refl _ w').alloc (Nat.le_refl _) _
  have BV : Bf (w'.alloc (.cells #[.slice A8 yt.pods.length c8, .int .i64 yt.preempts, .int .i64 yt.shifts] 34)) w'.heap.size [.slice A8 yt.pods.length c8, .int .i64 yt.preempts, .int .i64 yt.shifts] := Bf.new w' _ _ rfl
  have OV := ho8.later k8
  have UV := hu8.below k8
  have KV := hK.2
  generalize hV : w'.alloc (.cells #[.slice A8 yt.pods.length c8, .int .i64 yt.preempts, .int .i64 yt.shifts] 34) = V at *
  generalize hh : w'.heap.size = h at BV ⊢
  clear hK hV hh hcx hfx hb8 k8 ho8 hu8 hfr8
  rotate_left
  rename_i hK
  have BV := Bf.laterS (W := W) (by with_reducible (repeat (first | exact Bf.new _ _ _ (by first | rfl | (simp; done)) | refine Bf.drew ?_ | refine Bf.alloc ?_ _))) hb8 (x := .slice A8 yt.pods.length c8) (y := .int .i64 yt.preempts) (z := .int .i64 yt.shifts)
  have OV := ho8.put3 (g := W.heap.size) (fun a ha => by have h1 := hfr8 a ha; simp at h1; omega) (x := .slice A8 yt.pods.length c8) (y := .int .i64 yt.preempts) (z := .int .i64 yt.shifts)
  have UV := hu8.put3 (g := W.heap.size) (by simp) (x := .slice A8 yt.pods.length c8) (y := .int .i64 yt.preempts) (z := .int .i64 yt.shifts)
  have KV := hK.2
  generalize hV : ((w'.setCell ⟨W.heap.size, 0, none⟩ (.slice A8 yt.pods.length c8)).setCell ⟨W.heap.size, 1, none⟩ (.int .i64 yt.preempts)).setCell ⟨W.heap.size, 2, none⟩ (.int .i64 yt.shifts) = V at *
  generalize hh : W.heap.size = h at BV ⊢
  clear hK hV hh hcx hfx hb8 ho8 hu8 hfr8
  rotate_left
  all_goals
    have TV := HT3.out.keep KV
    have HUU := Lib.hid (HU3.out.below KV)
    have HUV := Lib.hid UV
    have HOV := Lib.hid OV
    have HKV := Lib.hid TV.below
    clear HU3 UV OV a0 a1 a2 a3 b0 b1 b2 b3 hm6 hi0 hic hin' hc6
    obtain ⟨a0, a1, a2, a3⟩ := TV.one.cells3
    obtain ⟨b0, b1, b2, b3⟩ := TV.two.cells3
    obtain ⟨d0, d1, d2, d3⟩ := BV.cells3
    clear TV BV KV HT3 HW2'
    by_cases hno : zm = 0 ∧ okP zp = false
    · obtain ⟨hm0, hzf⟩ := hno
      obtain ⟨t1, v1, rfl⟩ := errIs_iface HUU.out hzf
      have hmd : ((zm : Int) == 0) = true := by simp [hm0]
      clear hm0 hzf HZZ
      by_cases hi : i = 0
      · have hy := HZ0.out hi
        have hyd : ((ym : Int) == 0) = true := by simp [hy]
        have hid : decide ((0 : Int) < (i : Int)) = false := decide_eq_false (by omega)
        have hip : ¬ (0 < i) := by omega
        clear hi hy
        cases hyp : okP yp with
        | true =>
          have hn := HUV.out.nil hyp
          subst hn
          clear hyp
          go_wp2
          all_goals
            go_ret
            exact ⟨rfl, HKV.out⟩
        | false =>
          obtain ⟨t2, v2, rfl⟩ := errIs_iface HUV.out hyp
          clear hyp
          go_wp2
          all_goals
            go_ret
            exact ⟨rfl, HKV.out⟩
      · have hid : decide ((0 : Int) < (i : Int)) = true := decide_eq_true (by omega)
        have hip : 0 < i := by omega
        clear hi
        go_wp2
        all_goals
          go_ret
          exact ⟨rfl, HKV.out⟩
    · obtain ⟨hc0, hok, hlen, hA, hB⟩ := HZZ.out hno
      have HI := Lib.hid (HIS.out yt _ A8 c8 HKV.out HOV.out hc0 hok hlen)
      have HLE := Lib.hid hA
      have HGT := Lib.hid hB
      clear hc0 hok hlen hA hB HZZ HZ0 HIS
      by_cases hm0 : zm = 0
      · have hn : u = .nilIface := HUU.out.nil (by cases h : okP zp with
          | true => rfl
          | false => exact absurd ⟨hm0, h⟩ hno)
        have hmd : ((zm : Int) == 0) = true := by simp [hm0]
        clear hno hm0
        subst hn
        go_wp2_with fail
        refine HI.out.mono ?_
        rintro e w9 ⟨rfl, hb9⟩
        have HK9 := Lib.hid (HKV.out.trans (hb9.mono HKV.out.size))
        clear hb9 a0 a1 a2 a3 b0 b1 b2 b3 d0 d1 d2 d3
        by_cases hle : i ≤ zm
        · obtain ⟨hy1, hy2⟩ := HLE.out hle
          have hn := HUV.out.nil (by rw [hy2]; rfl)
          have hd : decide ((i : Int) ≤ (zm : Int)) = true := decide_eq_true (by omega)
          have hyd : ((ym : Int) == (i : Int)) = true := by simp [hy1]
          subst hn
          clear hy1 hy2 HLE HGT
          go_wp2
          all_goals
            go_ret
            exact ⟨rfl, HK9.out⟩
        · obtain ⟨hy, hz2, hz3, hz4⟩ := HGT.out (by omega)
          injection hy with hy1 hy2
          have hd : decide ((i : Int) ≤ (zm : Int)) = false := decide_eq_false (by omega)
          have hyd : ((ym : Int) == (zm : Int)) = true := by simp [hy1]
          subst hy2
          have HC1 := Lib.hid (fun V => ofCode_any yp hz2 u8 V (errIs_of HUV.out hz2))
          have HC2 := Lib.hid (fun V => ofCode_any yp hz2 Value.nilIface V (errIs_of HUU.out hz2))
          have hle' : ¬ ((i : Int) ≤ (zm : Int)) := by omega
          clear hy1 hz2 hz3 hz4 HLE HGT
          go_wp2_with fail
          refine (HC1.out _).mono ?_
          rintro e w10 ⟨rfl, rfl⟩
          go_wp2_with fail
          refine (HC2.out _).mono ?_
          rintro e w11 ⟨rfl, rfl⟩
          go_wp2
          all_goals
            go_ret
            exact ⟨rfl, HK9.out⟩
      · have hmd : ((zm : Int) == 0) = false := by simp [hm0]
        clear hno hm0
        go_wp2_with fail
        refine HI.out.mono ?_
        rintro e w9 ⟨rfl, hb9⟩
        have HK9 := Lib.hid (HKV.out.trans (hb9.mono HKV.out.size))
        clear hb9 a0 a1 a2 a3 b0 b1 b2 b3 d0 d1 d2 d3
        by_cases hle : i ≤ zm
        · obtain ⟨hy1, hy2⟩ := HLE.out hle
          have hn := HUV.out.nil (by rw [hy2]; rfl)
          have hd : decide ((i : Int) ≤ (zm : Int)) = true := decide_eq_true (by omega)
          have hyd : ((ym : Int) == (i : Int)) = true := by simp [hy1]
          subst hn
          clear hy1 hy2 HLE HGT
          go_wp2
          all_goals
            go_ret
            exact ⟨rfl, HK9.out⟩
        · obtain ⟨hy, hz2, hz3, hz4⟩ := HGT.out (by omega)
          injection hy with hy1 hy2
          have hd : decide ((i : Int) ≤ (zm : Int)) = false := decide_eq_false (by omega)
          have hyd : ((ym : Int) == (zm : Int)) = true := by simp [hy1]
          subst hy2
          have HC1 := Lib.hid (fun V => ofCode_any yp hz2 u8 V (errIs_of HUV.out hz2))
          have HC2 := Lib.hid (fun V => ofCode_any yp hz2 u V (errIs_of HUU.out hz2))
          have hle' : ¬ ((i : Int) ≤ (zm : Int)) := by omega
          clear hy1 hz2 hz3 hz4 HLE HGT
          go_wp2_with fail
          refine (HC1.out _).mono ?_
          rintro e w10 ⟨rfl, rfl⟩
          go_wp2_with fail
          refine (HC2.out _).mono ?_
          rintro e w11 ⟨rfl, rfl⟩
          go_wp2
          all_goals
            go_ret
            exact ⟨rfl, HK9.out⟩
end Go.Proofs.YtiinnoahopnkcaaGreatDoor

namespace Go.Proofs.YtiinnoahopnkcaaGreatDoor
set_option linter.unusedSimpArgs false
open Go.RowKit
set_option linter.unusedVariables false

/-- What moves come to where the snapshot and the spec may be: the last state, how many were done, an error's number. -/
def walkR (s : SnapD) (x : SpecD) (l : List MoveD) : StateD × Nat × Int := if codeS s.nodes s.loads x (firstD s) ≠ 0 then (noState, 0, codeS s.nodes s.loads x (firstD s)) else walkK s.nodes s.loads x l 0 (firstD s)
theorem walkR_no {s : SnapD} {x : SpecD} {l : List MoveD} (h : codeS s.nodes s.loads x (firstD s) ≠ 0) : walkR s x l = (noState, 0, codeS s.nodes s.loads x (firstD s)) := by rw [walkR, if_pos h]
theorem walkR_yes {s : SnapD} {x : SpecD} {l : List MoveD} (h : codeS s.nodes s.loads x (firstD s) = 0) : walkR s x l = walkK s.nodes s.loads x l 0 (firstD s) := by rw [walkR, if_neg (by simp [h])]
def RWalkTo (z : StateD × Nat × Int) (w : World) (e : Ending) (w' : World) : Prop := ∃ v, e = .returned (.tuple #[v, .int .i64 (z.2.1 : Int), .int .i64 z.2.2]) ∧ StateTo z.1 w v w'
/-- What stands behind a move of a walk: the state, and the next one. -/
structure WNext (A7 : Option Addr) (c7 : Nat) (u t : StateD) (A : Option Addr) (c h g : Nat) (a b : List Value) (w V : World) : Prop where
  t3 : T3 a b [.slice none 0 0, .int .i64 0, .int .i64 0] w V
  old : Bf V g [.slice A t.pods.length c, .int .i64 t.preempts, .int .i64 t.shifts]
  oldO : Out 8 cellsP V t.pods A c
  nxt : Bf V h [.slice A7 u.pods.length c7, .int .i64 u.preempts, .int .i64 u.shifts]
  nxtO : Out 8 cellsP V u.pods A7 c7
  far : ∀ a, A7 = some a → w.heap.size + 3 ≤ a.block ∧ a.block ≠ g
  ne : h ≠ g

set_option maxHeartbeats 12800000 in
set_option maxRecDepth 100000 in
/-- The reference's Walk. -/
theorem rWalk11_any (s : SnapD) (x : SpecD) (l : List MoveD) (A1 A2 A3 A5 A6 : Option Addr) (n1 c1 n2 c2 n3 c3 n5 c5 n6 c6 : Nat) (w : World) (h : WalkArgs s x A1 A2 A3 A5 n1 c1 n2 c2 n3 c3 n5 c5 w) (hn6 : n6 = l.length) (hl6 : n6 ≤ 1000) (hr6 : Recs 4 cellsM w w.heap.size A6 l) :
    Calls Tryz.prog 11 #[.agg #[.slice A1 n1 c1, .slice A2 n2 c2, .slice A3 n3 c3], .agg #[.slice A5 n5 c5, .int .i64 x.preempts, .int .i64 x.shifts], .slice A6 n6 c6] w (RWalkTo (walkR s x l) w) := by
  obtain rfl : n3 = s.pods.length := h.s3.1
  have T0 := T3.new w [.slice A1 n1 c1, .slice A2 n2 c2, .slice A3 s.pods.length c3] [.slice A5 n5 c5, .int .i64 x.preempts, .int .i64 x.shifts] [.slice none 0 0, .int .i64 0, .int .i64 0] 26 29 34
  have HFI : Hid (∀ V, Below w.heap.size w V → Calls Tryz.prog 21 #[.agg #[.slice A1 n1 c1, .slice A2 n2 c2, .slice A3 s.pods.length c3]] V fun e w' => ∃ A' c', e = .returned (stateV A' s.pods.length c' 0 0) ∧ Out 8 cellsP w' s.pods A' c' ∧ (∀ a, A' = some a → V.heap.size ≤ a.block ∧ a.block < w'.heap.size) ∧ Below V.heap.size V w') := fun V hV => by
    have k := h.at hV
    exact rFirst05_new s.pods A3 s.pods.length c3 (.slice A1 n1 c1) (.slice A2 n2 c2) V rfl (by have := k.s3.2.1; omega) k.s3.2.2.2.2 k.r3
  have HFA : Hid (∀ (t : StateD) V A c, Below w.heap.size w V → Out 8 cellsP V t.pods A c → (∀ p ∈ t.pods, p.Ok) → t.pods.length = s.pods.length → Calls Tryz.prog 22 #[.agg #[.slice A1 n1 c1, .slice A2 n2 c2, .slice A3 s.pods.length c3], .agg #[.slice A5 n5 c5, .int .i64 x.preempts, .int .i64 x.shifts], .agg #[.slice A t.pods.length c, .int .i64 t.preempts, .int .i64 t.shifts]] V
      fun e w' => ∃ z : Int, e = .returned (.tuple #[.int .i64 (codeS s.nodes s.loads x t), .int .i64 z]) ∧ Below V.heap.size V w') := fun t V A c hV hO hok hlen =>
    rWhy11_any s.nodes s.loads x t A1 A2 A3 A A5 n1 c1 n2 c2 _ c3 _ c n5 c5 V ((h.at hV).safe hO hok hlen) h.s1.2.1
  have HDO : Hid (∀ (t : StateD) (m : MoveD) V A c, Below w.heap.size w V → Out 8 cellsP V t.pods A c → (∀ p ∈ t.pods, p.Ok) → t.pods.length = s.pods.length → Calls Tryz.prog 23 #[.agg #[.slice A1 n1 c1, .slice A2 n2 c2, .slice A3 s.pods.length c3], .agg #[.slice A5 n5 c5, .int .i64 x.preempts, .int .i64 x.shifts], .agg #[.slice A t.pods.length c, .int .i64 t.preempts, .int .i64 t.shifts], .agg #[.int .i64 m.kind, .int .i64 m.pod, .int .i64 m.node, .int .i64 m.over]] V
      (RMakeTo (doD s.nodes s.loads x t m) V)) := fun t m V A c hV hO hok hlen => by
    have k := h.at hV
    exact rDo11_any s.nodes s.loads x t m A1 A2 A3 A A5 n1 c1 n2 c2 _ c3 _ c n5 c5 V (k.safe hO hok hlen) k.s1.2.1 k.s5.1 (by have := k.s5.2.1; omega) k.r5 k.wo
  have HDOK : Hid (∀ (t : StateD) (m : MoveD), (∀ p ∈ t.pods, p.Ok) → (doD s.nodes s.loads x t m).2 = 0 → (∀ p ∈ (doD s.nodes s.loads x t m).1.pods, p.Ok) ∧ (doD s.nodes s.loads x t m).1.pods.length = t.pods.length) := fun t m hok h0 => do_ok h.ok.1 h.wo hok h0
  have H2 := Lib.hid (walkR_no (s := s) (x := x) (l := l))
  have H3 := Lib.hid (walkR_yes (s := s) (x := x) (l := l))
  have HP0 := Lib.hid h.ok.2.2
  have HN6 := Lib.hid hn6
  have HR6 := Lib.hid hr6
  have HT0 := Lib.hid T0
  generalize walkR s x l = z at *
  clear h hn6 hr6 T0
  generalize x.preempts = x1 at *
  generalize x.shifts = x2 at *
  have HFF := Lib.hid (HFI.out _ HT0.out.below)
  clear HFI
  go_enter Tryz.func11, Tryz.ntmps11
  go_wp2_with fail
  refine HFF.out.mono ?_
  rintro e w2 ⟨A4, c4, rfl, ho, hfr, hb2⟩
  have k2 : Below w2.heap.size w2 (w2.alloc (.cells #[.slice A4 s.pods.length c4, .int .i64 0, .int .i64 0] 34)) := (Below.refl _ w2).alloc (Nat.le_refl _) _
  have T2 := (HT0.out.keep hb2).keep k2
  have B2 : Bf (w2.alloc (.cells #[.slice A4 s.pods.length c4, .int .i64 0, .int .i64 0] 34)) w2.heap.size [.slice A4 s.pods.length c4, .int .i64 0, .int .i64 0] := Bf.new w2 [.slice A4 s.pods.length c4, .int .i64 0, .int .i64 0] 34 rfl
  have hg2 : w.heap.size + 3 ≤ w2.heap.size := (HT0.out.keep hb2).three.lt
  have hA4 : ∀ a, A4 = some a → w.heap.size + 3 ≤ a.block ∧ a.block < w2.heap.size := fun a ha => by
    have h1 := hfr a ha; have h2 := HT0.out.three.lt
    omega
  have ho2 := ho.later k2
  have HFT : Hid (Calls Tryz.prog 22 #[.agg #[.slice A1 n1 c1, .slice A2 n2 c2, .slice A3 s.pods.length c3], .agg #[.slice A5 n5 c5, .int .i64 x1, .int .i64 x2], .agg #[.slice A4 s.pods.length c4, .int .i64 0, .int .i64 0]] (w2.alloc (.cells #[.slice A4 s.pods.length c4, .int .i64 0, .int .i64 0] 34))
      fun e w' => ∃ z : Int, e = .returned (.tuple #[.int .i64 (codeS s.nodes s.loads x (firstD s)), .int .i64 z]) ∧ Below (w2.alloc (.cells #[.slice A4 s.pods.length c4, .int .i64 0, .int .i64 0] 34)).heap.size (w2.alloc (.cells #[.slice A4 s.pods.length c4, .int .i64 0, .int .i64 0] 34)) w') :=
    HFA.out (firstD s) _ A4 c4 T2.below ho2 HP0.out rfl
  have HT2 := Lib.hid T2
  have HB2 := Lib.hid B2
  have HO2 := Lib.hid ho2
  have HA4 := Lib.hid hA4
  have HG2 := Lib.hid hg2
  obtain ⟨a0, a1, a2, a3⟩ := T2.one.cells3
  obtain ⟨b0, b1, b2, b3⟩ := T2.two.cells3
  clear ho hfr hb2 k2 T2 B2 hA4 ho2 HT0 HFA HFF hg2
  go_wp2_with fail
  refine HFT.out.mono ?_
  rintro e w3 ⟨z3, rfl, hb3⟩
  have T3' := HT2.out.keep hb3
  have B3 := HB2.out.below hb3 HB2.out.lt
  have HO3 := Lib.hid (HO2.out.later hb3)
  have HT3 := Lib.hid T3'
  have HB3 := Lib.hid B3
  generalize hgg : w2.heap.size = g at *
  clear hb3 HT2 HB2 HO2 HFT a0 a1 a2 a3 b0 b1 b2 b3 hgg
  by_cases hs : codeS s.nodes s.loads x (firstD s) = 0
  · have HE := Lib.hid (H3.out hs)
    have HK0 : Hid (walkK s.nodes s.loads x (l.drop 0) 0 (firstD s) = walkK s.nodes s.loads x l 0 (firstD s)) := by rw [List.drop_zero]; exact Lib.hid rfl
    have hsd : (codeS s.nodes s.loads x (firstD s) != 0) = false := by simp [hs]
    generalize walkK s.nodes s.loads x l 0 (firstD s) = zz at *
    generalize codeS s.nodes s.loads x (firstD s) = cs at *
    clear T3' B3 hs H2 H3
    go_wp2
    go_loopw [12] (WalkRel s.nodes s.loads x l zz [.slice A1 n1 c1, .slice A2 n2 c2, .slice A3 s.pods.length c3] [.slice A5 n5 c5, .int .i64 x1, .int .i64 x2] g s.pods.length w) (fun i _ => n6 - (intOf i).toNat)
    case atStart => exact ⟨0, firstD s, A4, c4, by omega, rfl, HK0.out, HT3.out, HB3.out, HO3.out, fun a ha => by have := HA4.out a ha; omega, HP0.out, rfl⟩
    case round =>
      clear HT3 HB3 HO3 HA4 HK0
      obtain ⟨k, t, A, c, hk, rfl, hw, hT, hB, hO, hA, hP, hL⟩ := hrel
      have HW := Lib.hid hw
      have HT := Lib.hid hT
      have HB := Lib.hid hB
      have HO := Lib.hid hO
      have HA := Lib.hid hA
      have HPP := Lib.hid hP
      have HL := Lib.hid hL
      obtain ⟨d0, d1, d2, d3⟩ := hT.three.cells3
      have z0 := hT.three.frozen 0
      have z1 := hT.three.frozen 1
      have z2 := hT.three.frozen 2
      obtain ⟨f0, f1, f2, f3⟩ := hB.cells3
      by_cases hlt : k < n6
      · have hkl : k < l.length := by have := HN6.out; omega
        obtain ⟨b, o, rfl, hb, he⟩ := HR6.out.at hkl
        generalize hx : l[k] = m at *
        have HWA := Lib.hid (walk_at hkl hx HW.out)
        have kwr := hT.below
        have e0 : wr.cell? ⟨b, o + k * 4, none⟩ = some (.int .i64 m.kind) := (kwr.cell (p := ⟨b, o + k * 4, none⟩) hb).trans (he 0 _ rfl)
        have e1 : wr.cell? ⟨b, o + k * 4 + 1, none⟩ = some (.int .i64 m.pod) := (kwr.cell (p := ⟨b, o + k * 4 + 1, none⟩) hb).trans (he 1 _ rfl)
        have e2 : wr.cell? ⟨b, o + k * 4 + 2, none⟩ = some (.int .i64 m.node) := (kwr.cell (p := ⟨b, o + k * 4 + 2, none⟩) hb).trans (he 2 _ rfl)
        have e3 : wr.cell? ⟨b, o + k * 4 + 3, none⟩ = some (.int .i64 m.over) := (kwr.cell (p := ⟨b, o + k * 4 + 3, none⟩) hb).trans (he 3 _ rfl)
        have hbw : b < wr.heap.size := by have := kwr.size; omega
        have hk0 : (0 : Int) ≤ (k : Int) := by omega
        have hk1 : (k : Int) < (n6 : Int) := by omega
        have HD : Hid (∀ V, Keeps wr V → Calls Tryz.prog 23 #[.agg #[.slice A1 n1 c1, .slice A2 n2 c2, .slice A3 s.pods.length c3], .agg #[.slice A5 n5 c5, .int .i64 x1, .int .i64 x2], .agg #[.slice A t.pods.length c, .int .i64 t.preempts, .int .i64 t.shifts], .agg #[.int .i64 m.kind, .int .i64 m.pod, .int .i64 m.node, .int .i64 m.over]] V
            (RMakeTo (doD s.nodes s.loads x t m) V)) := fun V hV => HDO.out t m V A c (HT.out.keep hV.2).below (HO.out.later hV.2) HPP.out HL.out
        have HDK' := Lib.hid (HDOK.out t m hP)
        obtain ⟨a0, a1, a2, a3⟩ := hT.one.cells3
        obtain ⟨b0, b1, b2, b3⟩ := hT.two.cells3
        generalize doD s.nodes s.loads x t m = r at *
        clear hw hT hB hO hA hP hL he hx HDOK HDO kwr d0 d1 d2 z0 z1 z2
        go_wp2_with fail
        go_region_held3 (fun w' => (∀ b o, b < wr.heap.size → w'.cell? ⟨b, o, none⟩ = wr.cell? ⟨b, o, none⟩) ∧ Below wr.heap.size wr w')
          (first | (with_reducible assumption) | (show Keeps wr _; with_reducible (repeat (first | exact Keeps.refl _ | assumption | refine Keeps.drew ?_ | refine Keeps.set ?_ (by first | (simp; done) | (simp; omega) | omega) _ | refine Keeps.alloc ?_ _ | refine Keeps.step ?_ (by assumption)))))
          (first | (go_at_call 23; refine (HD.out _ (by assumption)).mono ?_; rintro e w5 ⟨_, rfl, A7, c7, rfl, ho7, hfr7, hb5⟩; obtain ⟨hcx5, hfx5⟩ := old_cells hb5))
        rename_i hK
        have hw5 : wr.heap.size ≤ w5.heap.size := by have := hb5.size; simp at this; omega
        have T7 := HT.out.keep hK.2
        have B7 := HB.out.below hK.2 HB.out.lt
        have hO7 := HO.out.later hK.2
        have hA7 : ∀ a, A7 = some a → w.heap.size + 3 ≤ a.block ∧ a.block ≠ g := fun a ha => by have h1 := hfr7 a ha; have h2 := HT.out.three.lt; have h3 := HB.out.lt; simp at h1; omega
        have HC := Lib.hid (show WNext A7 c7 r.1 t A c w5.heap.size g [.slice A1 n1 c1, .slice A2 n2 c2, .slice A3 s.pods.length c3] [.slice A5 n5 c5, .int .i64 x1, .int .i64 x2] w (w5.alloc (.cells #[.slice A7 r.1.pods.length c7, .int .i64 r.1.preempts, .int .i64 r.1.shifts] 34)) from ⟨T7, B7, hO7, Bf.new w5 [.slice A7 r.1.pods.length c7, .int .i64 r.1.preempts, .int .i64 r.1.shifts] 34 rfl, ho7.later ((Below.refl _ w5).alloc (Nat.le_refl _) _), hA7, by have h3 := HB.out.lt; have h4 := hK.2.size; omega⟩)
        generalize (w5.alloc (.cells #[.slice A7 r.1.pods.length c7, .int .i64 r.1.preempts, .int .i64 r.1.shifts] 34)) = V at *
        generalize w5.heap.size = h at *
        clear hK ho7 hfr7 hb5 hw5 hcx5 hfx5 T7 B7 hO7 hA7
        rotate_left
        rename_i hK
        have hg7 : ∀ a, A7 = some a → a.block ≠ wr.heap.size := fun a ha => by have h1 := hfr7 a ha; simp at h1; omega
        have T7 := HT.out.keep hK.2
        have B7 := HB.out.below hK.2 HB.out.lt
        have hO7 := HO.out.later hK.2
        have hA7 : ∀ a, A7 = some a → w.heap.size + 3 ≤ a.block ∧ a.block ≠ g := fun a ha => by have h1 := hfr7 a ha; have h2 := HT.out.three.lt; have h3 := HB.out.lt; simp at h1; omega
        have HC := Lib.hid (show WNext A7 c7 r.1 t A c wr.heap.size g [.slice A1 n1 c1, .slice A2 n2 c2, .slice A3 s.pods.length c3] [.slice A5 n5 c5, .int .i64 x1, .int .i64 x2] w (((w5.setCell ⟨wr.heap.size, 0, none⟩ (.slice A7 r.1.pods.length c7)).setCell ⟨wr.heap.size, 1, none⟩ (.int .i64 r.1.preempts)).setCell ⟨wr.heap.size, 2, none⟩ (.int .i64 r.1.shifts)) from ⟨T7, B7, hO7, Bf.laterS (by with_reducible (repeat (first | exact Bf.new _ _ _ (by first | rfl | (simp; done)) | refine Bf.drew ?_ | refine Bf.alloc ?_ _))) hb5, ho7.put3 hg7, hA7, by have h3 := HB.out.lt; have h4 := hK.2.size; omega⟩)
        generalize (((w5.setCell ⟨wr.heap.size, 0, none⟩ (.slice A7 r.1.pods.length c7)).setCell ⟨wr.heap.size, 1, none⟩ (.int .i64 r.1.preempts)).setCell ⟨wr.heap.size, 2, none⟩ (.int .i64 r.1.shifts)) = V at *
        generalize wr.heap.size = h at *
        clear hK ho7 hfr7 hg7 hb5 hcx5 hfx5 T7 B7 hO7 hA7
        rotate_left
        all_goals
          obtain ⟨d0, d1, d2, d3⟩ := HC.out.t3.three.cells3
          have z0 := HC.out.t3.three.frozen 0
          have z1 := HC.out.t3.three.frozen 1
          have z2 := HC.out.t3.three.frozen 2
          clear f0 f1 f2 f3 a0 a1 a2 a3 b0 b1 b2 b3 e0 e1 e2 e3 HD HB HO HT
          obtain ⟨f0, f1, f2, f3⟩ := HC.out.old.cells3
          have y0 := HC.out.old.frozen 0
          have y1 := HC.out.old.frozen 1
          have y2 := HC.out.old.frozen 2
          obtain ⟨q0, q1, q2, q3⟩ := HC.out.nxt.cells3
          have hne := HC.out.ne
          by_cases hr : r.2 = 0
          · have HWN := Lib.hid (HWA.out.2 hr)
            have HDN := Lib.hid (HDK'.out hr)
            have hrd : (r.2 != 0) = false := by simp [hr]
            clear hr HWA HDK'
            go_wp2
            go_roundw
            case rel =>
              refine ⟨k + 1, r.1, A7, c7, by omega, by go_num, HWN.out, ?_, ?_, ?_, HC.out.far, HDN.out.1, HDN.out.2.trans HL.out⟩
              · exact ((HC.out.t3.past (by show _ ≤ g; exact HG2.out) _).past (by show _ ≤ g; exact HG2.out) _).past (by show _ ≤ g; exact HG2.out) _
              · exact ((HC.out.old.set 0 _).set 1 _).set 2 _
              · exact HC.out.nxtO.put3 (fun a ha => (HC.out.far a ha).2)
            case measure => simp [intOf]; omega
          · have HWN := Lib.hid (HWA.out.1 hr)
            have hrd : (r.2 != 0) = true := by simp [hr]
            clear hr HWA HDK'
            go_wp2
            refine bodyPost_ret (v := .tuple #[stateV A t.pods.length c t.preempts t.shifts, .int .i64 k, .int .i64 r.2]) ?_ rfl ⟨_, by rw [HE.out, HWN.out], ?_⟩
            · simp [results, Tryz.results11, go_sem, *]
            · rw [HE.out, HWN.out]
              exact ⟨A, c, rfl, HC.out.oldO.put3 (fun a ha => by have := HA.out a ha; omega), (fun a ha => by have := HA.out a ha; omega), (((HC.out.t3.below.setCell (by show w.heap.size ≤ w.heap.size + 2; omega) _).setCell (by show w.heap.size ≤ w.heap.size + 2; omega) _).setCell (by show w.heap.size ≤ w.heap.size + 2; omega) _)⟩
      · have HWN := Lib.hid (walk_end (by have := HN6.out; omega) HW.out)
        have hkn : k = n6 := by have := HN6.out; omega
        clear hw hT hB hO hA hP hL
        go_wp2
        refine bodyPost_ret (v := .tuple #[stateV A t.pods.length c t.preempts t.shifts, .int .i64 n6, .int .i64 0]) ?_ rfl ⟨_, by rw [HE.out, HWN.out, hkn], ?_⟩
        · simp [results, Tryz.results11, go_sem, *]
        · rw [HE.out, HWN.out]
          exact ⟨A, c, rfl, HO.out.put3 (fun a ha => by have := HA.out a ha; omega), (fun a ha => by have := HA.out a ha; omega), (((HT.out.below.setCell (by show w.heap.size ≤ w.heap.size + 2; omega) _).setCell (by show w.heap.size ≤ w.heap.size + 2; omega) _).setCell (by show w.heap.size ≤ w.heap.size + 2; omega) _)⟩
  · have HE := Lib.hid (H2.out hs)
    have hsd : (codeS s.nodes s.loads x (firstD s) != 0) = true := by simp [hs]
    generalize codeS s.nodes s.loads x (firstD s) = cs at *
    obtain ⟨d0, d1, d2, d3⟩ := T3'.three.cells3
    have z0 := T3'.three.frozen 0
    have z1 := T3'.three.frozen 1
    have z2 := T3'.three.frozen 2
    clear T3' B3 hs
    go_wp2
    refine bodyPost_ret (v := .tuple #[stateV none 0 0 0 0, .int .i64 0, .int .i64 cs]) ?_ rfl ⟨_, by rw [HE.out]; rfl, ?_⟩
    · simp [results, Tryz.results11, go_sem, *]
    · rw [HE.out]
      exact ⟨none, 0, rfl, Out.nil rfl, (fun a ha => by cases ha), (((HT3.out.below.setCell (by show w.heap.size ≤ w.heap.size + 2; omega) _).setCell (by show w.heap.size ≤ w.heap.size + 2; omega) _).setCell (by show w.heap.size ≤ w.heap.size + 2; omega) _)⟩
end Go.Proofs.YtiinnoahopnkcaaGreatDoor
