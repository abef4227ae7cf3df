/- Joined texts, part 26: XJ XL2. -/
import Derived.Test.YtpfjeoldgcepnaaGreatDoorZ12
import Derived.Test.YtpfjeoldgcepnaaGreatDoorZ23
import Derived.BigQuiet
import Derived.Test.YtpfjeoldgcepnaaGreatDoorZ15
import Derived.Test.YtpfjeoldgcepnaaGreatDoorZ25

/- The reference's May of layer 10. -/
namespace Go.Proofs.YtpfjeoldgcepnaaGreatDoor
set_option linter.unusedSimpArgs false
open Go.RowKit
set_option linter.unusedVariables false

set_option maxHeartbeats 6400000 in
set_option maxRecDepth 100000 in
theorem rMay07_any (l : List PodD) (a b : Int) (A : Option Addr) (n c : Nat) (v1 v2 : Value) (w : World) (hn : n = l.length) (hl : n ≤ 1000) (hr : Recs 8 cellsP w w.heap.size A l) :
    Calls Tryz.prog 44 #[.agg #[.slice A n c, v1, v2], .int .i64 a, .int .i64 b] w fun e w' => e = .returned (.bool (mayD a b l)) ∧ Below w.heap.size w w' := by
  have B0 : Bf (w.alloc (.cells #[.slice A n c, v1, v2] 42)) w.heap.size [.slice A n c, v1, v2] := Bf.new w [.slice A n c, v1, v2] 42 rfl
  have k0 : Below w.heap.size w (w.alloc (.cells #[.slice A n c, v1, v2] 42)) := (Below.refl _ _).alloc (Nat.le_refl _) _
  have HR := Lib.hid (fun (V : World) (hV : Below w.heap.size w V) => (hr.below hV (Nat.le_refl _)).more hV.size)
  have HC := Lib.hid (fun (id : Int) (V : World) (hV : Below w.heap.size w V) => rPlace05_any l id A n c V.heap.size v1 v2 V hn hl (Nat.le_refl _) (HR.out V hV))
  have HC1 := Lib.hid (HC.out a _ k0)
  have HC2 := Lib.hid (fun V hV => HC.out b V hV)
  have HB0 := Lib.hid B0
  have HK0 := Lib.hid k0
  have HN := Lib.hid hn
  have M1 := Lib.hid (may_none1 (a := a) (b := b) (l := l))
  have M2 := Lib.hid (may_none2 (a := a) (b := b) (l := l))
  have M3 := Lib.hid (fun i j hi h hj k => may_some (a := a) (b := b) (l := l) (i := i) (j := j) hi h hj k)
  have P1 := Lib.hid (place_ge (f := PodD.id) (id := a) (l := l) (k := 0) (by omega))
  have P2 := Lib.hid (place_ge (f := PodD.id) (id := b) (l := l) (k := 0) (by omega))
  generalize place PodD.id a l 0 = pa at *
  generalize place PodD.id b l 0 = pb at *
  generalize mayD a b l = r at *
  clear hr hn HC B0 k0
  go_enter Tryz.func44, Tryz.ntmps44
  go_wp2_with fail
  refine HC1.out.mono ?_
  rintro e w1 ⟨rfl, hb1⟩
  have B1 := HB0.out.below hb1 HB0.out.lt
  have HK1 := Lib.hid (HK0.out.trans (hb1.mono HK0.out.size))
  have HB1 := Lib.hid B1
  obtain ⟨a0, a1, a2, a3⟩ := B1.cells3
  clear hb1 B1 HB0 HK0
  go_wp2_with fail
  refine (HC2.out _ HK1.out).mono ?_
  rintro e w2 ⟨rfl, hb2⟩
  have B2 := HB1.out.below hb2 HB1.out.lt
  have HK2 := Lib.hid (HK1.out.trans (hb2.mono HK1.out.size))
  clear hb2 HB1 HK1 a0 a1 a2 a3
  obtain ⟨a0, a1, a2, a3⟩ := B2.cells3
  clear B2
  by_cases h1 : pa < 0
  · have d1 : decide (pa < 0) = true := decide_eq_true h1
    have HE := Lib.hid (M1.out h1)
    clear h1
    go_wp2
    go_ret
    exact ⟨ret_bool HE.out.symm, HK2.out⟩
  have d1 : decide (pa < 0) = false := decide_eq_false h1
  by_cases h2 : pb < 0
  · have d2 : decide (pb < 0) = true := decide_eq_true h2
    have HE := Lib.hid (M2.out h2)
    clear h1 h2
    go_wp2
    go_ret
    exact ⟨ret_bool HE.out.symm, HK2.out⟩
  obtain ⟨i, rfl⟩ : ∃ i : Nat, pa = i := ⟨pa.toNat, by omega⟩
  obtain ⟨j, rfl⟩ : ∃ j : Nat, pb = j := ⟨pb.toNat, by omega⟩
  have hi : i < l.length := by have := P1.out; omega
  have hj : j < l.length := by have := P2.out; omega
  have d1' : decide ((i : Int) < 0) = false := decide_eq_false h1
  have d2' : decide ((j : Int) < 0) = false := decide_eq_false h2
  have HE := Lib.hid (M3.out i j hi rfl hj rfl)
  obtain ⟨g, o, rfl, hg, he⟩ := (HR.out _ HK2.out).at hi
  obtain ⟨g', o', hA', _, hf⟩ := (HR.out _ HK2.out).at hj
  injection hA' with hA'
  injection hA' with q1 q2 _
  subst q1 q2
  generalize l[i] = p at *
  generalize l[j] = q at *
  have e2 : w2.cell? ⟨g, o + i * 8 + 2, none⟩ = some (.int .i64 p.prio) := he 2 _ rfl
  have f2 : w2.cell? ⟨g, o + j * 8 + 2, none⟩ = some (.int .i64 q.prio) := hf 2 _ rfl
  have hi0 : (0 : Int) ≤ (i : Int) := by omega
  have hi1 : (i : Int) < (n : Int) := by have := HN.out; omega
  have hj0 : (0 : Int) ≤ (j : Int) := by omega
  have hj1 : (j : Int) < (n : Int) := by have := HN.out; omega
  have HG : Hid (goV q p = decide (q.prio < p.prio)) := rfl
  clear he hf h1 h2
  by_cases hq : q.prio < p.prio
  · have dq : decide (q.prio < p.prio) = true := decide_eq_true hq
    have HE2 := Lib.hid (HE.out.trans (HG.out.trans dq))
    clear hq
    go_wp2
    go_quiet (fail)
    go_wp2
    go_ret
    exact ⟨ret_bool HE2.out.symm, below_draws HK2.out _⟩
  · have dq : decide (q.prio < p.prio) = false := decide_eq_false hq
    have HE2 := Lib.hid (HE.out.trans (HG.out.trans dq))
    clear hq
    go_wp2
    go_quiet (fail)
    go_wp2
    go_ret
    exact ⟨ret_bool HE2.out.symm, below_draws HK2.out _⟩
end Go.Proofs.YtpfjeoldgcepnaaGreatDoor

namespace Go.Proofs.YtpfjeoldgcepnaaGreatDoor
set_option linter.unusedSimpArgs false
open Go.RowKit
set_option linter.unusedVariables false

set_option maxHeartbeats 800000 in
theorem rFirst05_new (l : List PodD) (A : Option Addr) (n c : Nat) (v0 v1 : Value) (w : World) (hn : n = l.length) (hl : n ≤ 1000) (h0 : A = none → c = 0) (hr : Recs 8 cellsP w w.heap.size A l) :
    Calls Tryz.prog 10 #[.agg #[v0, v1, .slice A n c]] w fun e w' => ∃ A' c', e = .returned (stateV A' n c' 0 0) ∧ Out 8 cellsP w' l A' c' ∧ (∀ a, A' = some a → w.heap.size ≤ a.block ∧ a.block < w'.heap.size) ∧ Below w.heap.size w w' := by
  have HR := Lib.hid hr
  have HN := Lib.hid hn
  have H0 := Lib.hid h0
  clear hr hn h0
  go_enter Tryz.func10, Tryz.ntmps10
  go_wp2_with (at_builtin; refine wpList_recs 24 79 (.agg #[.int .i64 0, .int .i64 0, .int .i64 0, .int .u64 0, .int .u64 0, .int .u64 0, .int .u64 0, .int .i64 0]) 8 64 underPods infoPod rfl (by decide) (by decide) lenP onePod rfl (.tmp 3) (.tmp 5) rfl (w.heap.size + 2) (w.heap.size + 2) _ 0 n [] l A c H0.out (own_empty _ _ (w.heap.size + 1 + 1) _ (by simp) (by simp)) ((HR.out.below (below_three w _ _ _) (Nat.le_refl _)).more (by omega)) (by first | (simp; done) | (simp; omega)) (by omega) rfl rfl HN.out ?_; intro v' w' hown hb hB; have hB2 : w.heap.size + 2 ≤ w'.heap.size := hB; rw [Nat.zero_add] at hown; obtain ⟨A', c', rfl, _⟩ := own_form3 hown; have HO := Lib.hid hown; have HB := Lib.hid (below_last hb (by simp)); clear hown hb; have hzw : w.heap.size + 1 < w'.heap.size := (by omega); have g0 : w'.cell? ⟨w.heap.size + 1, 0, none⟩ = some (.slice none 0 0) := (HB.out.cell (p := ⟨w.heap.size + 1, 0, none⟩) (by simp)).trans (by simp); have h0 : w'.frozen? ⟨w.heap.size + 1, 0, none⟩ = false := (HB.out.frozen (p := ⟨w.heap.size + 1, 0, none⟩) (by simp)).trans (by simp); have g1 : w'.cell? ⟨w.heap.size + 1, 1, none⟩ = some (.int .i64 0) := (HB.out.cell (p := ⟨w.heap.size + 1, 1, none⟩) (by simp)).trans (by simp); have h1 : w'.frozen? ⟨w.heap.size + 1, 1, none⟩ = false := (HB.out.frozen (p := ⟨w.heap.size + 1, 1, none⟩) (by simp)).trans (by simp); have g2 : w'.cell? ⟨w.heap.size + 1, 2, none⟩ = some (.int .i64 0) := (HB.out.cell (p := ⟨w.heap.size + 1, 2, none⟩) (by simp)).trans (by simp); have h2 : w'.frozen? ⟨w.heap.size + 1, 2, none⟩ = false := (HB.out.frozen (p := ⟨w.heap.size + 1, 2, none⟩) (by simp)).trans (by simp))
  refine bodyPost_ret (v := stateV A' n c' 0 0) ?_ rfl ?_
  · simp [results, Tryz.results10, go_sem, *]
  · have hn := HN.out
    subst hn
    have ho : OwnAt (w.heap.size + 2) l w' A' c' := HO.out
    refine ⟨A', c', rfl, (((ho.set (by simp) _).set (by simp) _).set (by simp) _).out, (fun a ha => by have := ho.from a ha; simp; omega), ?_⟩
    have kw := (below_two w _ _).trans (HB.out.mono (by omega))
    repeat (first | with_reducible exact kw | with_reducible refine Below.setCell ?_ ?_ _)
    all_goals (show w.heap.size ≤ w.heap.size + 1; omega)

theorem prio_cases (l : List PodD) (m : MoveD) : (prioD l m = true ∧ (m.kind == 4) = true ∧ mayD m.pod m.over l = false) ∨ ((prioD l m = false ∧ (m.kind == 4) = false) ∨ (prioD l m = false ∧ (m.kind == 4) = true ∧ mayD m.pod m.over l = true)) := by
  unfold prioD
  cases m.kind == 4 <;> cases mayD m.pod m.over l <;> simp

set_option maxHeartbeats 12800000 in
set_option maxRecDepth 100000 in
/-- The reference's Do. -/
theorem rDo11_any (ns : List NodeD) (ls : List LoadD) (x : SpecD) (t : StateD) (m : MoveD) (A1 A2 A3 A4 A5 : Option Addr) (n1 c1 n2 c2 n3 c3 n4 c4 n5 c5 : Nat) (w : World) (h : SafeArgs ns ls t.pods A1 A2 A4 n1 n2 n4 c4 w) (hl1 : n1 ≤ 40)
    (hn5 : n5 = x.wants.length) (hl5 : n5 ≤ 400) (hr5 : Recs 6 cellsW w w.heap.size A5 x.wants) (hxo : ∀ y ∈ x.wants, y.Ok) :
    Calls Tryz.prog 14 #[.agg #[.slice A1 n1 c1, .slice A2 n2 c2, .slice A3 n3 c3], .agg #[.slice A5 n5 c5, .int .i64 x.preempts, .int .i64 x.shifts], .agg #[.slice A4 n4 c4, .int .i64 t.preempts, .int .i64 t.shifts], .agg #[.int .i64 m.kind, .int .i64 m.pod, .int .i64 m.node, .int .i64 m.over]] w (RMakeTo (doD ns ls x t m) w) := by
  have M0 := Mk.new w [.slice A1 n1 c1, .slice A2 n2 c2, .slice A3 n3 c3] [.slice A5 n5 c5, .int .i64 x.preempts, .int .i64 x.shifts] [.slice A4 n4 c4, .int .i64 t.preempts, .int .i64 t.shifts] [.int .i64 m.kind, .int .i64 m.pod, .int .i64 m.node, .int .i64 m.over] 26 29 42 48 42
  have HMK : Hid (∀ V, Below w.heap.size w V → Calls Tryz.prog 43 #[.agg #[.slice A1 n1 c1, .slice A2 n2 c2, .slice A3 n3 c3], .agg #[.slice A5 n5 c5, .int .i64 x.preempts, .int .i64 x.shifts], .agg #[.slice A4 n4 c4, .int .i64 t.preempts, .int .i64 t.shifts], .agg #[.int .i64 m.kind, .int .i64 m.pod, .int .i64 m.node, .int .i64 m.over]] V
      (RMakeTo (makeD ns x.wants t m) V)) := fun V hV => by
    have k := h.at hV
    exact rMake05_any ns x.wants t m A1 A2 A3 A5 A4 n1 c1 n2 c2 n3 c3 n5 c5 n4 c4 (.int .i64 x.preempts) (.int .i64 x.shifts) V k.e1 (by omega) k.r1 hn5 hl5 ((hr5.below hV (Nat.le_refl _)).more hV.size) k.e4 k.l4 k.k4 k.r4
  have HPR : Hid (∀ V, Below w.heap.size w V → Calls Tryz.prog 44 #[.agg #[.slice A4 n4 c4, .int .i64 t.preempts, .int .i64 t.shifts], .int .i64 m.pod, .int .i64 m.over] V fun e w' => e = .returned (.bool (mayD m.pod m.over t.pods)) ∧ Below V.heap.size V w') := fun V hV => by
    have k := h.at hV
    exact rMay07_any t.pods m.pod m.over A4 n4 c4 (.int .i64 t.preempts) (.int .i64 t.shifts) V k.e4 (by have := k.l4; omega) k.r4
  have HFA : Hid ((makeD ns x.wants t m).2 = 0 → ∀ V A c, Below w.heap.size w V → Out 8 cellsP V (makeD ns x.wants t m).1.pods A c → Calls Tryz.prog 11 #[.agg #[.slice A1 n1 c1, .slice A2 n2 c2, .slice A3 n3 c3], .agg #[.slice A5 n5 c5, .int .i64 x.preempts, .int .i64 x.shifts], .agg #[.slice A (makeD ns x.wants t m).1.pods.length c, .int .i64 (makeD ns x.wants t m).1.preempts, .int .i64 (makeD ns x.wants t m).1.shifts]] V
      fun e w' => ∃ z : Int, e = .returned (.tuple #[.int .i64 (codeS ns ls x (makeD ns x.wants t m).1), .int .i64 z]) ∧ Below V.heap.size V w') := fun h0 V A c hV hO => by
    have k := h.at hV
    obtain ⟨hok, hlen⟩ := made_ok k.no hxo k.lo h0
    exact rWhy11_any ns ls x (makeD ns x.wants t m).1 A1 A2 A3 A A5 n1 c1 n2 c2 n3 c3 _ c n5 c5 V ⟨k.g, k.no, hok, k.e1, k.l1, k.r1, k.e2, k.l2, k.r2, rfl, by rw [hlen, ← k.e4]; exact k.l4, hO.1, hO.2.2.2⟩ hl1
  have H1 := Lib.hid (do_no1 (ns := ns) (ls := ls) (x := x) (t := t) (m := m))
  have H2 := Lib.hid (do_no2 (ns := ns) (ls := ls) (x := x) (t := t) (m := m))
  have H3 := Lib.hid (do_no3 (ns := ns) (ls := ls) (x := x) (t := t) (m := m))
  have H4 := Lib.hid (do_yes (ns := ns) (ls := ls) (x := x) (t := t) (m := m))
  have HPC := Lib.hid (prio_cases t.pods m)
  generalize doD ns ls x t m = r at *
  generalize codeS ns ls x (makeD ns x.wants t m).1 = cs at *
  generalize makeD ns x.wants t m = mk at *
  generalize prioD t.pods m = pr at *
  generalize mayD m.pod m.over t.pods = may at *
  generalize x.preempts = x1 at *
  generalize x.shifts = x2 at *
  generalize t.preempts = t1 at *
  generalize t.shifts = t2 at *
  obtain ⟨u, mc⟩ := mk
  dsimp only at HMK HFA H1 H2 H3 H4
  have HM0 := Lib.hid M0
  clear h hn5 hr5 hxo M0 hl1 hl5
  go_enter Tryz.func14, Tryz.ntmps14
  go_wp2_with fail
  refine (HMK.out _ HM0.out.below).mono ?_
  rintro e w1 ⟨_, rfl, A6, c6, rfl, ho, hfr, hb1⟩
  have M1 := HM0.out.keep hb1
  have hfr1 : ∀ a, A6 = some a → a.block ≠ w.heap.size + 4 := fun a ha => by have h1 := hfr a ha; have h2 := HM0.out.res.lt; omega
  have hfr2 : ∀ a, A6 = some a → w.heap.size ≤ a.block := fun a ha => Nat.le_trans HM0.out.below.size (hfr a ha)
  have HF := Lib.hid (And.intro hfr1 hfr2)
  have B1 := Bf.new w1 [.slice A6 u.pods.length c6, .int .i64 u.preempts, .int .i64 u.shifts] 42 rfl
  have k2 : Below w1.heap.size w1 (w1.alloc (.cells #[.slice A6 u.pods.length c6, .int .i64 u.preempts, .int .i64 u.shifts] 42)) := (Below.refl _ w1).alloc (Nat.le_refl _) _
  have M2 := M1.keep k2
  have HO2 := Lib.hid (ho.later k2)
  have HM2 := Lib.hid M2
  have HB1 := Lib.hid B1
  have HMLT := Lib.hid (show w.heap.size ≤ w1.heap.size from M1.below.size)
  obtain ⟨a0, a1, a2⟩ := M1.facts.2.2.1
  obtain ⟨r0, r1, r2⟩ := M2.facts2.1
  obtain ⟨z0, z1, z2⟩ := M2.facts2.2.1
  have hz := M2.facts2.2.2
  clear ho hfr hb1 hfr1 hfr2 M1 k2 HM0 HMK a0 a1 a2
  by_cases hc : mc = 0
  · subst hc
    have HFA' := Lib.hid (HFA.out rfl)
    have HP := Lib.hid (HPR.out _ HM2.out.below)
    obtain ⟨⟨a0, a1, a2⟩, ⟨a3, a4, a5⟩, ⟨a6, a7, a8⟩, a9, a10, a11, a12⟩ := M2.facts
    clear HFA HPR M2 B1
    go_wp2_with fail
    refine HP.out.mono ?_
    rintro e w2 ⟨rfl, hb2⟩
    have M3 := HM2.out.keep hb2
    have B3 := HB1.out.below hb2 HB1.out.lt
    have HO3 := Lib.hid (HO2.out.later hb2)
    have HM3 := Lib.hid M3
    have HB3 := Lib.hid B3
    clear hb2 HP HM2 HO2 HB1 a0 a1 a2 a3 a4 a5 a6 a7 a8 a9 a10 a11 a12 r0 r1 r2 z0 z1 z2 hz
    obtain ⟨⟨a0, a1, a2⟩, ⟨a3, a4, a5⟩, ⟨a6, a7, a8⟩, a9, a10, a11, a12⟩ := M3.facts
    obtain ⟨r0, r1, r2⟩ := M3.facts2.1
    obtain ⟨z0, z1, z2⟩ := M3.facts2.2.1
    have hz := M3.facts2.2.2
    rcases HPC.out with ⟨rfl, hk4, rfl⟩ | h
    · have HE := Lib.hid (H2.out (by trivial) (by trivial))
      clear M3 B3 HPC
      go_wp2
      refine bodyPost_ret (v := .tuple #[stateV none 0 0 0 0, .int .i64 14]) ?_ rfl ⟨_, by rw [HE.out], ?_⟩
      · simp [results, Tryz.results14, go_sem, *]
      · rw [HE.out]; exact HM3.out.no
    · obtain ⟨b0, b1, b2, b3⟩ := B3.cells3
      have HFF := Lib.hid (HFA'.out w2 A6 c6 HM3.out.below HO3.out)
      clear M3 B3 HFA' HPC
      rcases h with ⟨rfl, hk4⟩ | ⟨rfl, hk4, rfl⟩
      all_goals
        go_wp2_with fail
        refine HFF.out.mono ?_
        rintro e w3 ⟨zz, rfl, hb3⟩
        have M4 := HM3.out.keep hb3
        have B4 := HB3.out.below hb3 HB3.out.lt
        have HO4 := Lib.hid (HO3.out.later hb3)
        have HM4 := Lib.hid M4
        clear hb3 HFF HM3 HO3 HB3 b0 b1 b2 b3 a0 a1 a2 a3 a4 a5 a6 a7 a8 a9 a10 a11 a12 r0 r1 r2 z0 z1 z2 hz
        obtain ⟨r0, r1, r2⟩ := M4.facts2.1
        obtain ⟨z0, z1, z2⟩ := M4.facts2.2.1
        have hz := M4.facts2.2.2
        obtain ⟨b0, b1, b2, b3⟩ := B4.cells3
        clear M4 B4
        by_cases hs : cs = 0
        · have HE := Lib.hid (H4.out (by trivial) (by trivial) hs)
          have hsd : (cs != 0) = false := by simp [hs]
          clear hs
          go_wp2
          refine bodyPost_ret (v := .tuple #[stateV A6 u.pods.length c6 u.preempts u.shifts, .int .i64 0]) ?_ rfl ⟨_, by rw [HE.out], ?_⟩
          · simp [results, Tryz.results14, go_sem, *]
          · rw [HE.out]
            exact ⟨A6, c6, rfl, ((HO4.out.set (p := ⟨w.heap.size + 4, 0, none⟩) HF.out.1 _).set (p := ⟨w.heap.size + 4, 1, none⟩) HF.out.1 _).set (p := ⟨w.heap.size + 4, 2, none⟩) HF.out.1 _, HF.out.2, ((HM4.out.below.setCell (by simp; omega) _).setCell (by simp; omega) _).setCell (by simp; omega) _⟩
        · have HE := Lib.hid (H3.out (by trivial) (by trivial) hs)
          have hsd : (cs != 0) = true := by simp [hs]
          clear hs
          go_wp2
          refine bodyPost_ret (v := .tuple #[stateV none 0 0 0 0, .int .i64 cs]) ?_ rfl ⟨_, by rw [HE.out], ?_⟩
          · simp [results, Tryz.results14, go_sem, *]
          · rw [HE.out]; exact HM4.out.no
  · have HE := Lib.hid (H1.out hc)
    have hcd : (mc != 0) = true := by simp [hc]
    clear hc M2 B1
    go_wp2
    refine bodyPost_ret (v := .tuple #[stateV none 0 0 0 0, .int .i64 mc]) ?_ rfl ⟨_, by rw [HE.out], ?_⟩
    · simp [results, Tryz.results14, go_sem, *]
    · rw [HE.out]; exact HM2.out.no
end Go.Proofs.YtpfjeoldgcepnaaGreatDoor
