/- Joined texts, part 12: XB QC QD. -/
import Derived.Test.YtabebhaclkhhpaaGreatDoorZ11
import Derived.Test.YtabebhaclkhhpaaGreatDoorZ01
import Derived.RangeFuncNested
import Derived.RangeFuncCalls
import Derived.RangeFuncLeaves
import Derived.Shelf.Abstract
import Derived.Shelf.RegionOpen
import Derived.WalkKit
import Derived.OwnWalkIn
import Derived.TacticsInMore
import Derived.LoopNIn
import Derived.LoopIn
import Derived.Maps.AppendAt
import Derived.Test.YtabebhaclkhhpaaGreatDoorZ08

/- The program's fault and Do of layer 12. -/
namespace Go.Proofs.YtabebhaclkhhpaaGreatDoor
set_option linter.unusedSimpArgs false
open Go.RowKit
set_option linter.unusedVariables false

theorem Out.later {α : Type} {size : Nat} {cells : α → List Value} {w V : World} {xs : List α} {A : Option Addr} {c : Nat} (h : Out size cells w xs A c) (hb : Below w.heap.size w V) : Out size cells V xs A c :=
  ⟨h.1, h.2.1, h.2.2.1, (h.2.2.2.below hb (Nat.le_refl _)).more hb.size⟩
set_option maxHeartbeats 3200000 in
set_option maxRecDepth 100000 in
/-- The program's fault: the Code alone of why a state isn't safe. -/
theorem stepFault_any (ns : List NodeD) (ls : List LoadD) (x : SpecD) (t : StateD) (A1 A2 A3 A4 A5 : Option Addr) (n1 c1 n2 c2 n3 c3 n4 c4 n5 c5 : Nat) (w : World) (h : SafeArgs ns ls t.pods A1 A2 A4 n1 n2 n4 c4 w) :
    Calls Tryz.prog 26 #[.agg #[.slice A1 n1 c1, .slice A2 n2 c2, .slice A3 n3 c3], .agg #[.slice A5 n5 c5, .int .i64 x.preempts, .int .i64 x.shifts], .agg #[.slice A4 n4 c4, .int .i64 t.preempts, .int .i64 t.shifts]] w fun e w' => e = .returned (codeV (codeS ns ls x t)) ∧ Below w.heap.size w w' := by
  have T0 := (T3.new w [.slice A1 n1 c1, .slice A2 n2 c2, .slice A3 n3 c3] [.slice A5 n5 c5, .int .i64 x.preempts, .int .i64 x.shifts] [.slice A4 n4 c4, .int .i64 t.preempts, .int .i64 t.shifts] 26 29 31).alloc (.cells #[.int .i64 0] 60)
  have B0 := Bf.new (((w.alloc (.cells #[.slice A1 n1 c1, .slice A2 n2 c2, .slice A3 n3 c3] 26)).alloc (.cells #[.slice A5 n5 c5, .int .i64 x.preempts, .int .i64 x.shifts] 29)).alloc (.cells #[.slice A4 n4 c4, .int .i64 t.preempts, .int .i64 t.shifts] 31)) [.int .i64 0] 60 (b := w.heap.size + 3) (by simp)
  have HF := Lib.hid (safeWhy_any ns ls t.pods x.preempts x.shifts t.preempts t.shifts A1 A2 A3 A4 A5 n1 c1 n2 c2 n3 c3 n4 c4 n5 c5 _ (h.at T0.below))
  have HG := Lib.hid h.g
  have HT := Lib.hid T0
  have HB := Lib.hid B0
  have HE : Hid (codeS ns ls x t = (whyP (fiveP ns ls t.pods x.preempts x.shifts t.preempts t.shifts)).1) := rfl
  have HOK := Lib.hid (told8_ok (told8_why ns ls t.pods x.preempts x.shifts t.preempts t.shifts))
  generalize codeS ns ls x t = c at *
  generalize whyP (fiveP ns ls t.pods x.preempts x.shifts t.preempts t.shifts) = p at *
  generalize x.preempts = x1 at *
  generalize x.shifts = x2 at *
  generalize t.preempts = t1 at *
  generalize t.shifts = t2 at *
  clear h T0 B0
  go_enter Tryz.func26, Tryz.ntmps26
  go_wp2_with fail
  refine HF.out.mono ?_
  rintro e w1 ⟨u, rfl, hu, hb1⟩
  have T1 := HT.out.keep hb1
  have B1 := HB.out.below hb1 HB.out.lt
  have HK1 := Lib.hid T1.below
  have hz1 := B1.lt
  cases hok : okP p with
  | true =>
    have hn := hu.nil hok
    have hc : c = 0 := by have h1 := HE.out; have h2 := okP_true hok; rw [h1, h2]
    subst hn hc
    clear hu hok HE HOK hb1 T1 B1
    go_wp2_with fail
    refine (as_nil _ _).mono ?_
    rintro e w2 ⟨rfl, rfl⟩
    go_wp2
    go_ret
    exact ⟨rfl, HK1.out⟩
  | false =>
    have hc0 : c ≠ 0 := by
      have h1 := HE.out; have h2 := HOK.out
      rw [hok] at h2
      intro e
      rw [e] at h1
      rw [← h1] at h2
      cases h2
    have HA := Lib.hid (as_codeO p _ (w.heap.size + 3) u (.int .i64 0) w1 hu hok (Laid.below HG.out HK1.out (Nat.le_refl _)) (B1.cell 0 _ rfl) (B1.frozen 0))
    have HC := Lib.hid (codeV_pos hc0)
    rw [← HE.out] at HA
    clear hu hok HE HOK hb1 T1 B1 hc0
    go_wp2_with fail
    refine HA.out.mono ?_
    rintro e w2 ⟨rfl, hc, hb2⟩
    have HK2 := Lib.hid (HK1.out.trans (hb2.mono (show w.heap.size ≤ w.heap.size + 3 by omega)))
    clear hb2
    go_wp2
    go_ret
    exact ⟨congrArg Ending.returned HC.out.symm, HK2.out⟩

/-- What a state that is told comes to, with an error beside it. -/
def DoTo (r : StateD × Int) (w : World) (e : Ending) (w' : World) : Prop := ∃ v, e = .returned (.tuple #[v, codeV r.2]) ∧ StateTo r.1 w v w'
set_option maxHeartbeats 12800000 in
set_option maxRecDepth 100000 in
/-- The program's Do. -/
theorem stepDo_any (ns : List NodeD) (ls : List LoadD) (x : SpecD) (t : StateD) (m : MoveD) (A1 A2 A3 A4 A5 : Option Addr) (n1 c1 n2 c2 n3 c3 n4 c4 n5 c5 : Nat) (w : World) (h : SafeArgs ns ls t.pods A1 A2 A4 n1 n2 n4 c4 w)
    (h04 : A4 = none → c4 = 0) (hn5 : n5 = x.wants.length) (hl5 : n5 ≤ 400) (hr5 : Recs 6 cellsW w w.heap.size A5 x.wants) (hxo : ∀ y ∈ x.wants, y.Ok) :
    Calls Tryz.prog 9 #[.agg #[.slice A1 n1 c1, .slice A2 n2 c2, .slice A3 n3 c3], .agg #[.slice A5 n5 c5, .int .i64 x.preempts, .int .i64 x.shifts], .agg #[.slice A4 n4 c4, .int .i64 t.preempts, .int .i64 t.shifts], .agg #[.int .i64 m.kind, .int .i64 m.pod, .int .i64 m.node, .int .i64 m.over]] w (DoTo (doD ns ls x t m) w) := by
  have M0 := Mk.new w [.slice A1 n1 c1, .slice A2 n2 c2, .slice A3 n3 c3] [.slice A5 n5 c5, .int .i64 x.preempts, .int .i64 x.shifts] [.slice A4 n4 c4, .int .i64 t.preempts, .int .i64 t.shifts] [.int .i64 m.kind, .int .i64 m.pod, .int .i64 m.node, .int .i64 m.over] 26 29 31 49 31
  have HMK : Hid (∀ V, Below w.heap.size w V → Calls Tryz.prog 24 #[.agg #[.slice A1 n1 c1, .slice A2 n2 c2, .slice A3 n3 c3], .agg #[.slice A5 n5 c5, .int .i64 x.preempts, .int .i64 x.shifts], .agg #[.slice A4 n4 c4, .int .i64 t.preempts, .int .i64 t.shifts], .agg #[.int .i64 m.kind, .int .i64 m.pod, .int .i64 m.node, .int .i64 m.over]] V
      fun e w' => ∃ v, e = .returned (.tuple #[v, codeV (makeD ns x.wants t m).2]) ∧ StateTo (makeD ns x.wants t m).1 V v w') := fun V hV => by
    have k := h.at hV
    exact make_any ns x.wants t m A1 A2 A3 A5 A4 n1 c1 n2 c2 n3 c3 n5 c5 n4 c4 (.int .i64 x.preempts) (.int .i64 x.shifts) V k.e1 (by have := k.l1; omega) k.r1 hn5 (by omega) ((hr5.below hV (Nat.le_refl _)).more hV.size) k.e4 (by have := k.l4; omega) h04 k.r4
  have HPR : Hid (∀ V, Below w.heap.size w V → Calls Tryz.prog 25 #[.agg #[.slice A4 n4 c4, .int .i64 t.preempts, .int .i64 t.shifts], .agg #[.int .i64 m.kind, .int .i64 m.pod, .int .i64 m.node, .int .i64 m.over]] V fun e w' => e = .returned (prioV (prioD t.pods m)) ∧ Below V.heap.size V w') := fun V hV => by
    have k := h.at hV
    exact priorCheck_any t.pods m A4 n4 c4 (.int .i64 t.preempts) (.int .i64 t.shifts) V k.e4 (by have := k.l4; omega) k.r4
  have HFA : Hid ((makeD ns x.wants t m).2 = 0 → ∀ V A c, Below w.heap.size w V → Out 8 cellsP V (makeD ns x.wants t m).1.pods A c → Calls Tryz.prog 26 #[.agg #[.slice A1 n1 c1, .slice A2 n2 c2, .slice A3 n3 c3], .agg #[.slice A5 n5 c5, .int .i64 x.preempts, .int .i64 x.shifts], .agg #[.slice A (makeD ns x.wants t m).1.pods.length c, .int .i64 (makeD ns x.wants t m).1.preempts, .int .i64 (makeD ns x.wants t m).1.shifts]] V
      fun e w' => e = .returned (codeV (codeS ns ls x (makeD ns x.wants t m).1)) ∧ Below V.heap.size V w') := fun h0 V A c hV hO => by
    have k := h.at hV
    obtain ⟨hok, hlen⟩ := made_ok k.no hxo k.lo h0
    exact stepFault_any ns ls x (makeD ns x.wants t m).1 A1 A2 A3 A A5 n1 c1 n2 c2 n3 c3 _ c n5 c5 V ⟨k.g, k.no, hok, k.e1, k.l1, k.r1, k.e2, k.l2, k.r2, rfl, by rw [hlen, ← k.e4]; exact k.l4, hO.1, hO.2.2.2⟩
  have H1 := Lib.hid (do_no1 (ns := ns) (ls := ls) (x := x) (t := t) (m := m))
  have H2 := Lib.hid (do_no2 (ns := ns) (ls := ls) (x := x) (t := t) (m := m))
  have H3 := Lib.hid (do_no3 (ns := ns) (ls := ls) (x := x) (t := t) (m := m))
  have H4 := Lib.hid (do_yes (ns := ns) (ls := ls) (x := x) (t := t) (m := m))
  generalize doD ns ls x t m = r at *
  generalize codeS ns ls x (makeD ns x.wants t m).1 = cs at *
  generalize makeD ns x.wants t m = mk at *
  generalize prioD t.pods m = pr at *
  generalize x.preempts = x1 at *
  generalize x.shifts = x2 at *
  generalize t.preempts = t1 at *
  generalize t.shifts = t2 at *
  obtain ⟨u, mc⟩ := mk
  dsimp only at HMK HFA H1 H2 H3 H4
  have HM0 := Lib.hid M0
  clear h h04 hn5 hr5 hxo M0
  go_enter Tryz.func9, Tryz.ntmps9
  go_wp2_with fail
  refine (HMK.out _ HM0.out.below).mono ?_
  rintro e w1 ⟨_, rfl, A6, c6, rfl, ho, hfr, hb1⟩
  have M1 := HM0.out.keep hb1
  have hfr1 : ∀ a, A6 = some a → a.block ≠ w.heap.size + 4 := fun a ha => by have h1 := hfr a ha; have h2 := HM0.out.res.lt; omega
  have hfr2 : ∀ a, A6 = some a → w.heap.size ≤ a.block := fun a ha => Nat.le_trans HM0.out.below.size (hfr a ha)
  have HF := Lib.hid (And.intro hfr1 hfr2)
  have B1 := Bf.new w1 [.slice A6 u.pods.length c6, .int .i64 u.preempts, .int .i64 u.shifts] 31 rfl
  have k2 : Below w1.heap.size w1 (w1.alloc (.cells #[.slice A6 u.pods.length c6, .int .i64 u.preempts, .int .i64 u.shifts] 31)) := (Below.refl _ w1).alloc (Nat.le_refl _) _
  have M2 := M1.keep k2
  have HO2 := Lib.hid (ho.later k2)
  have HM2 := Lib.hid M2
  have HB1 := Lib.hid B1
  have HMLT := Lib.hid (show w.heap.size ≤ w1.heap.size from M1.below.size)
  obtain ⟨a0, a1, a2⟩ := M1.facts.2.2.1
  obtain ⟨r0, r1, r2⟩ := M2.facts2.1
  obtain ⟨z0, z1, z2⟩ := M2.facts2.2.1
  have hz := M2.facts2.2.2
  clear ho hfr hb1 hfr1 hfr2 M1 k2 HM0 HMK a0 a1 a2
  by_cases hc : mc = 0
  · subst hc
    have HFA' := Lib.hid (HFA.out rfl)
    have HP := Lib.hid (HPR.out _ HM2.out.below)
    obtain ⟨⟨a0, a1, a2⟩, ⟨a3, a4, a5⟩, ⟨a6, a7, a8⟩, a9, a10, a11, a12⟩ := M2.facts
    rw [codeV_zero]
    clear HFA HPR M2 B1
    go_wp2_with fail
    refine HP.out.mono ?_
    rintro e w2 ⟨rfl, hb2⟩
    have M3 := HM2.out.keep hb2
    have B3 := HB1.out.below hb2 HB1.out.lt
    have HO3 := Lib.hid (HO2.out.later hb2)
    have HM3 := Lib.hid M3
    have HB3 := Lib.hid B3
    clear hb2 HP HM2 HO2 HB1 a0 a1 a2 a3 a4 a5 a6 a7 a8 a9 a10 a11 a12 r0 r1 r2 z0 z1 z2 hz
    obtain ⟨⟨a0, a1, a2⟩, ⟨a3, a4, a5⟩, ⟨a6, a7, a8⟩, a9, a10, a11, a12⟩ := M3.facts
    obtain ⟨r0, r1, r2⟩ := M3.facts2.1
    obtain ⟨z0, z1, z2⟩ := M3.facts2.2.1
    have hz := M3.facts2.2.2
    cases pr with
    | true =>
      have HE := Lib.hid (H2.out (by trivial) (by trivial))
      have hpv : prioV true = .iface 60 (.int .i64 14) := rfl
      rw [hpv]
      clear M3 B3 hpv
      go_wp2
      refine bodyPost_ret (v := .tuple #[stateV none 0 0 0 0, .iface 60 (.int .i64 14)]) ?_ rfl ⟨_, by rw [HE.out]; rfl, ?_⟩
      · simp [results, Tryz.results9, go_sem, *]
      · rw [HE.out]; exact HM3.out.no
    | false =>
      have hpv : prioV false = .nilIface := rfl
      rw [hpv]
      obtain ⟨b0, b1, b2, b3⟩ := B3.cells3
      have HFF := Lib.hid (HFA'.out w2 A6 c6 HM3.out.below HO3.out)
      clear M3 B3 hpv HFA'
      go_wp2_with fail
      refine HFF.out.mono ?_
      rintro e w3 ⟨rfl, hb3⟩
      have M4 := HM3.out.keep hb3
      have B4 := HB3.out.below hb3 HB3.out.lt
      have HO4 := Lib.hid (HO3.out.later hb3)
      have HM4 := Lib.hid M4
      clear hb3 HFF HM3 HO3 HB3 b0 b1 b2 b3 a0 a1 a2 a3 a4 a5 a6 a7 a8 a9 a10 a11 a12 r0 r1 r2 z0 z1 z2 hz
      obtain ⟨r0, r1, r2⟩ := M4.facts2.1
      obtain ⟨z0, z1, z2⟩ := M4.facts2.2.1
      have hz := M4.facts2.2.2
      obtain ⟨b0, b1, b2, b3⟩ := B4.cells3
      clear M4 B4
      by_cases hs : cs = 0
      · have HE := Lib.hid (H4.out (by trivial) (by trivial) hs)
        rw [hs, codeV_zero]
        clear hs
        go_wp2
        refine bodyPost_ret (v := .tuple #[stateV A6 u.pods.length c6 u.preempts u.shifts, .nilIface]) ?_ rfl ⟨_, by rw [HE.out]; rfl, ?_⟩
        · simp [results, Tryz.results9, go_sem, *]
        · rw [HE.out]
          exact ⟨A6, c6, rfl, ((HO4.out.set (p := ⟨w.heap.size + 4, 0, none⟩) HF.out.1 _).set (p := ⟨w.heap.size + 4, 1, none⟩) HF.out.1 _).set (p := ⟨w.heap.size + 4, 2, none⟩) HF.out.1 _, HF.out.2, ((HM4.out.below.setCell (by simp; omega) _).setCell (by simp; omega) _).setCell (by simp; omega) _⟩
      · have HE := Lib.hid (H3.out (by trivial) (by trivial) hs)
        have HC := Lib.hid (codeV_pos hs)
        rw [codeV_pos hs]
        clear hs
        go_wp2
        refine bodyPost_ret (v := .tuple #[stateV none 0 0 0 0, .iface 60 (.int .i64 cs)]) ?_ rfl ⟨_, by rw [HE.out, HC.out], ?_⟩
        · simp [results, Tryz.results9, go_sem, *]
        · rw [HE.out]; exact HM4.out.no
  · have HE := Lib.hid (H1.out hc)
    have HC := Lib.hid (codeV_pos hc)
    rw [codeV_pos hc]
    clear hc M2 B1
    go_wp2
    refine bodyPost_ret (v := .tuple #[stateV none 0 0 0 0, .iface 60 (.int .i64 mc)]) ?_ rfl ⟨_, by rw [HE.out, HC.out], ?_⟩
    · simp [results, Tryz.results9, go_sem, *]
    · rw [HE.out]; exact HM2.out.no
end Go.Proofs.YtabebhaclkhhpaaGreatDoor

/- The proposals, one by one: the program's proposals of layer 16, and what the iterator that it hands back promises. -/
namespace Go.Proofs.YtabebhaclkhhpaaGreatDoor
set_option linter.unusedSimpArgs false
open Go.RowKit Go.Shelf
set_option linter.unusedVariables false

attribute [local go_sem] Oper.semAt_some

/-- What is handed in, to go through proposals. -/
structure TidyArgs (ns : List NodeD) (ls : List LoadD) (x : SpecD) (t : StateD) (A1 A2 A4 A5 : Option Addr) (n1 n2 n4 c4 n5 : Nat) (w : World) : Prop where
  a : SafeArgs ns ls t.pods A1 A2 A4 n1 n2 n4 c4 w
  h04 : A4 = none → c4 = 0
  e5 : n5 = x.wants.length
  l5 : n5 ≤ 400
  r5 : Recs 6 cellsW w w.heap.size A5 x.wants
  xo : ∀ y ∈ x.wants, y.Ok
theorem TidyArgs.at {ns : List NodeD} {ls : List LoadD} {x : SpecD} {t : StateD} {A1 A2 A4 A5 : Option Addr} {n1 n2 n4 c4 n5 : Nat} {w V : World} (h : TidyArgs ns ls x t A1 A2 A4 A5 n1 n2 n4 c4 n5 w) (hV : Below w.heap.size w V) : TidyArgs ns ls x t A1 A2 A4 A5 n1 n2 n4 c4 n5 V :=
  ⟨h.a.at hV, h.h04, h.e5, h.l5, (h.r5.below hV (Nat.le_refl _)).more hV.size, h.xo⟩

theorem recsQB {w : World} {B n : Nat} {v : Value} {zs : List Int} (hn : n = zs.length) (h : w.ownsRow B 3 1 v n (i64s zs)) : ∃ A c, v = .slice A n c ∧ Recs 1 cellQ w w.heap.size A zs ∧ ∀ a, A = some a → B ≤ a.block := by
  obtain ⟨A, c, e, _, _, _, hr⟩ := recsQ hn h
  refine ⟨A, c, e, hr, fun a ha => ?_⟩
  subst ha
  rcases h.2 with ⟨h1, _⟩ | ⟨g, cap, cur, h1, h2, _⟩
  · rw [h1] at e
    injection e with e1
    cases e1
  · rw [h1] at e
    injection e with e1
    injection e1 with e1
    rw [← e1]; exact h2
theorem recsQ_at {w : World} {B : Nat} {A : Option Addr} {zs : List Int} (h : Recs 1 cellQ w B A zs) {k : Nat} (hk : k < zs.length) : ∃ b o, A = some ⟨b, o, none⟩ ∧ b < B ∧ w.cell? ⟨b, o + k, none⟩ = some (.int .i64 zs[k]) := by
  obtain ⟨b, o, h1, h2, h3⟩ := h.at hk
  exact ⟨b, o, h1, h2, by have := h3 0 _ rfl; rwa [Nat.mul_one, Nat.add_zero] at this⟩
theorem Bf.but {V V' : World} {b : Nat} {cs : List Value} {O : Nat → Prop} (h : Bf V b cs) (hb : But O V V') (hO : ¬ O b) : Bf V' b cs :=
  ⟨Nat.lt_of_lt_of_le h.lt hb.size, fun j u hu => (hb.cell (p := ⟨b, j, none⟩) h.lt hO).trans (h.cell j u hu), fun o => (hb.frozen (p := ⟨b, o, none⟩) h.lt hO).trans (h.frozen o)⟩
theorem Recs.but {α : Type} {size : Nat} {cells : α → List Value} {V V' : World} {A : Option Addr} {xs : List α} {O : Nat → Prop} (h : Recs size cells V V.heap.size A xs) (hb : But O V V') (hO : ∀ a, A = some a → ¬ O a.block) : Recs size cells V' V'.heap.size A xs := by
  rcases h with h | ⟨b, o, h1, h2, h3⟩
  · exact .inl h
  · exact .inr ⟨b, o, h1, Nat.lt_of_lt_of_le h2 hb.size, fun i hi j u hu => (hb.cell (p := ⟨b, o + i * size + j, none⟩) h2 (show ¬ O b from hO _ h1)).trans (h3 i hi j u hu)⟩
theorem Out.but {α : Type} {size : Nat} {cells : α → List Value} {V V' : World} {A : Option Addr} {c : Nat} {xs : List α} {O : Nat → Prop} (h : Out size cells V xs A c) (hb : But O V V') (hO : ∀ a, A = some a → ¬ O a.block) : Out size cells V' xs A c :=
  ⟨h.1, h.2.1, h.2.2.1, Recs.but h.2.2.2 hb hO⟩

/-- A proposal as it is handed on: the move, the state behind it, and where its pods lie. -/
abbrev PropQ : Type := (MoveD × StateD) × Option Addr × Nat
def encQ (x : PropQ) : Array Value := #[aggM x.1.1, stateV x.2.1 x.1.2.pods.length x.2.2 x.1.2.preempts x.1.2.shifts]
def AtQ (x : PropQ) (base : Nat) (V : World) : Prop := Out 8 cellsP V x.1.2.pods x.2.1 x.2.2 ∧ ∀ a, x.2.1 = some a → base ≤ a.block
/-- What stands while the proposals are gone through. -/
structure ItQ (J : List PropQ → (Nat → Prop) → World → Prop) (a b c : List Value) (w : World) (B base : Nat) (Au : Option Addr) (us : List Int) (pre : List PropQ) (O : Nat → Prop) (V : World) : Prop where
  j : J pre O V
  lt : ∀ k, O k → k < V.heap.size
  d : ∀ k, O k → w.heap.size ≤ k ∧ ¬ (B ≤ k ∧ k < B + 3)
  one : Bf V B a
  two : Bf V (B + 1) b
  three : Bf V (B + 2) c
  below : Below w.heap.size w V
  base : base ≤ V.heap.size
  us : Recs 1 cellQ V V.heap.size Au us
  u : ∀ k, Au = some k → ¬ O k.block
section
variable {J : List PropQ → (Nat → Prop) → World → Prop} {a b c : List Value} {w V V' : World} {B base : Nat} {Au : Option Addr} {us : List Int} {pre pre' : List PropQ} {O O' : Nat → Prop}
theorem ItQ.keep (hJ : ∀ s O A B, J s O A → Below A.heap.size A B → J s O B) (h : ItQ J a b c w B base Au us pre O V) (hb : Below V.heap.size V V') : ItQ J a b c w B base Au us pre O V' :=
  ⟨hJ _ _ _ _ h.j hb, fun k hk => Nat.lt_of_lt_of_le (h.lt k hk) hb.size, h.d, h.one.below hb h.one.lt, h.two.below hb h.two.lt, h.three.below hb h.three.lt, h.below.trans (hb.mono h.below.size), Nat.le_trans h.base hb.size,
    (h.us.below hb (Nat.le_refl _)).more hb.size, h.u⟩
theorem ItQ.round (h : ItQ J a b c w B base Au us pre O V) (hb : But O V V') (hj : J pre' O' V') (ho : ∀ k, O' k → k < V'.heap.size ∧ (O k ∨ V.heap.size ≤ k)) (hu : ∀ k, Au = some k → k.block < V.heap.size) : ItQ J a b c w B base Au us pre' O' V' := by
  have h1 : ¬ O B := fun e => (h.d _ e).2 ⟨Nat.le_refl _, by omega⟩
  have h2 : ¬ O (B + 1) := fun e => (h.d _ e).2 ⟨by omega, by omega⟩
  have h3 : ¬ O (B + 2) := fun e => (h.d _ e).2 ⟨by omega, by omega⟩
  have hlt := h.three.lt
  refine ⟨hj, fun k hk => (ho k hk).1, fun k hk => ?_, h.one.but hb h1, h.two.but hb h2, h.three.but hb h3, h.below.trans (hb.below h.below.size fun k hk => (h.d k hk).1), Nat.le_trans h.base hb.size, Recs.but h.us hb h.u, fun k hk hc => ?_⟩
  · rcases (ho k hk).2 with e | e
    · exact h.d k e
    · exact ⟨Nat.le_trans h.below.size e, by omega⟩
  · rcases (ho _ hc).2 with e | e
    · exact h.u k hk e
    · have := hu k hk; omega
end

set_option maxHeartbeats 1000000 in
theorem proposals_any (A1 A2 A3 A4 A5 : Option Addr) (n1 c1 n2 c2 n3 c3 n4 c4 n5 c5 : Nat) (x1 x2 t1 t2 : Int) (w : World) :
    Calls Tryz.prog 28 #[.agg #[.slice A1 n1 c1, .slice A2 n2 c2, .slice A3 n3 c3], .agg #[.slice A5 n5 c5, .int .i64 x1, .int .i64 x2], .agg #[.slice A4 n4 c4, .int .i64 t1, .int .i64 t2]] w fun e w' =>
      e = .returned (.func (.func 52) #[] #[.pointer (some ⟨w.heap.size, 0, none⟩), .pointer (some ⟨w.heap.size + 2, 0, none⟩), .pointer (some ⟨w.heap.size + 1, 0, none⟩)]) ∧
      w' = ((w.alloc (.cells #[.slice A1 n1 c1, .slice A2 n2 c2, .slice A3 n3 c3] 26)).alloc (.cells #[.slice A5 n5 c5, .int .i64 x1, .int .i64 x2] 29)).alloc (.cells #[.slice A4 n4 c4, .int .i64 t1, .int .i64 t2] 31) := by
  go_enter Tryz.func28, Tryz.ntmps28
  go_wp2
  go_ret
  exact ⟨rfl, rfl⟩

/-! What has come, once so much is over. -/
abbrev outQ (pre : List PropQ) : List (MoveD × StateD) := pre.map (·.1)
theorem podN_no {ns : List NodeD} {ls : List LoadD} {x : SpecD} {t : StateD} {us : List Int} {p : PodD} (h : (isN ns p.node && aloneN t.pods p.node) = false) : podN ns ls x t us p = [] := by rw [podN, if_neg (by simp [h])]
theorem podN_yes {ns : List NodeD} {ls : List LoadD} {x : SpecD} {t : StateD} {us : List Int} {p : PodD} (h : (isN ns p.node && aloneN t.pods p.node) = true) : podN ns ls x t us p = us.flatMap (tryN ns ls x t p) := by rw [podN, if_pos h]
theorem flat_more {α β : Type} {f : α → List β} {l : List α} {k : Nat} (h : k < l.length) {y : α} (hx : l[k] = y) : (l.take (k + 1)).flatMap f = (l.take k).flatMap f ++ f y := by
  rw [List.take_succ_eq_append_getElem h, hx, List.flatMap_append]; simp
/-- What has come is where the proposals begin. -/
theorem so_far {ns : List NodeD} {ls : List LoadD} {x : SpecD} {t : StateD} {k j : Nat} (hk : k < t.pods.length) {p : PodD} (hx : t.pods[k] = p) (hj : j < (usedN ns t.pods).length) {z : Int} (hz : (usedN ns t.pods)[j] = z)
    (hp : (isN ns p.node && aloneN t.pods p.node) = true) (hd : (doD ns ls x t (moveN p z)).2 = 0) :
    ((t.pods.take k).flatMap (podN ns ls x t (usedN ns t.pods)) ++ ((usedN ns t.pods).take j).flatMap (tryN ns ls x t p)) ++ [(moveN p z, (doD ns ls x t (moveN p z)).1)] <+: props ns ls x t := by
  have e1 : [(moveN p z, (doD ns ls x t (moveN p z)).1)] = tryN ns ls x t p z := by rw [tryN, if_pos hd]
  rw [e1, List.append_assoc, ← flat_more hj hz]
  have e2 : podN ns ls x t (usedN ns t.pods) p = ((usedN ns t.pods).take (j + 1)).flatMap (tryN ns ls x t p) ++ ((usedN ns t.pods).drop (j + 1)).flatMap (tryN ns ls x t p) := by
    rw [podN_yes hp, ← List.flatMap_append, List.take_append_drop]
  have e3 : props ns ls x t = (t.pods.take k).flatMap (podN ns ls x t (usedN ns t.pods)) ++ (podN ns ls x t (usedN ns t.pods) p ++ (t.pods.drop (k + 1)).flatMap (podN ns ls x t (usedN ns t.pods))) := by
    rw [← List.append_assoc, ← flat_more hk hx, ← List.flatMap_append, List.take_append_drop, props]
  rw [e3, e2, List.append_assoc]
  exact (List.prefix_append_right_inj _).2 (List.prefix_append _ _)
theorem so_less {pre : List PropQ} {q : PropQ} {l : List (MoveD × StateD)} (h : outQ pre ++ [q.1] <+: l) : pre.length < l.length := by
  have := h.length_le
  simp at this
  omega
end Go.Proofs.YtabebhaclkhhpaaGreatDoor

namespace Go.Proofs.YtabebhaclkhhpaaGreatDoor
set_option linter.unusedSimpArgs false
open Go.RowKit Go.Shelf
set_option linter.unusedVariables false

attribute [local go_sem] Oper.semAt_some

theorem do_good {r : StateD × Int} {w : World} (h : r.2 = 0) {e : Ending} {w' : World} (hd : DoTo r w e w') : ∃ A c, e = .returned (.tuple #[stateV A r.1.pods.length c r.1.preempts r.1.shifts, .nilIface]) ∧ Out 8 cellsP w' r.1.pods A c ∧ (∀ a, A = some a → w.heap.size ≤ a.block) ∧ Below w.heap.size w w' := by
  obtain ⟨v, he, A, c, rfl, h1, h2, h3⟩ := hd
  exact ⟨A, c, by rw [he, h, codeV_zero], h1, h2, h3⟩
theorem do_bad {r : StateD × Int} {w : World} (h : r.2 ≠ 0) {e : Ending} {w' : World} (hd : DoTo r w e w') : ∃ A c, e = .returned (.tuple #[stateV A r.1.pods.length c r.1.preempts r.1.shifts, .iface 60 (.int .i64 r.2)]) ∧ Out 8 cellsP w' r.1.pods A c ∧ (∀ a, A = some a → w.heap.size ≤ a.block) ∧ Below w.heap.size w w' := by
  obtain ⟨v, he, A, c, rfl, h1, h2, h3⟩ := hd
  exact ⟨A, c, by rw [he, codeV_pos h], h1, h2, h3⟩
theorem try_no {ns : List NodeD} {ls : List LoadD} {x : SpecD} {t : StateD} {p : PodD} {z : Int} (h : (doD ns ls x t (moveN p z)).2 ≠ 0) : tryN ns ls x t p z = [] := by rw [tryN, if_neg h]
theorem try_yes {ns : List NodeD} {ls : List LoadD} {x : SpecD} {t : StateD} {p : PodD} {z : Int} (h : (doD ns ls x t (moveN p z)).2 = 0) : tryN ns ls x t p z = [(moveN p z, (doD ns ls x t (moveN p z)).1)] := by rw [tryN, if_pos h]
theorem Bf.cells4q {V : World} {b : Nat} {m : MoveD} (h : Bf V b (cellsM m)) : (V.cell? ⟨b, 0, none⟩ = some (.int .i64 m.kind) ∧ V.cell? ⟨b, 1, none⟩ = some (.int .i64 m.pod)) ∧ V.cell? ⟨b, 2, none⟩ = some (.int .i64 m.node) ∧ V.cell? ⟨b, 3, none⟩ = some (.int .i64 m.over) ∧ b < V.heap.size :=
  ⟨⟨h.cell 0 _ rfl, h.cell 1 _ rfl⟩, h.cell 2 _ rfl, h.cell 3 _ rfl, h.lt⟩

set_option maxHeartbeats 12800000 in
set_option maxRecDepth 100000 in
theorem props_in (n : Nat) (hn : 1 ≤ n) (l : Nat) (ns : List NodeD) (ls : List LoadD) (x : SpecD) (t : StateD) (A1 A2 A3 A4 A5 : Option Addr) (n1 c1 n2 c2 n3 c3 n4 c4 n5 c5 : Nat) (w : World) (h : TidyArgs ns ls x t A1 A2 A4 A5 n1 n2 n4 c4 n5 w) (B : Nat)
    (J : List PropQ → (Nat → Prop) → World → Prop) (Jx : List PropQ → World → Prop) (O : Nat → Prop) (W : World) (hJ : ∀ s O A B, J s O A → Below A.heap.size A B → J s O B) (hJx : ∀ s A B, Jx s A → Below A.heap.size A B → Jx s B)
    (hY : ∀ pre O q V, J pre O V → (∀ k, O k → k < V.heap.size) → AtQ q W.heap.size V → pre.length < (props ns ls x t).length → YieldAt Fence.wide (n - 1) Tryz.prog l (encQ q) V fun e V' =>
      (e = .returned (.bool true) ∧ But O V V' ∧ ∃ O', J (pre ++ [q]) O' V' ∧ ∀ k, O' k → k < V'.heap.size ∧ (O k ∨ V.heap.size ≤ k)) ∨ (e = .returned (.bool false) ∧ Jx (pre ++ [q]) V'))
    (hb1 : Bf W B [.slice A1 n1 c1, .slice A2 n2 c2, .slice A3 n3 c3]) (hb2 : Bf W (B + 1) [.slice A5 n5 c5, .int .i64 x.preempts, .int .i64 x.shifts]) (hb3 : Bf W (B + 2) [.slice A4 n4 c4, .int .i64 t.preempts, .int .i64 t.shifts])
    (hw : Below w.heap.size w W) (hO : ∀ k, O k → k < W.heap.size ∧ w.heap.size ≤ k ∧ ¬ (B ≤ k ∧ k < B + 3)) (h0 : J [] O W) :
    CallsIn Fence.wide n Tryz.prog 52 #[.func (.yield l) #[] #[], .pointer (some ⟨B, 0, none⟩), .pointer (some ⟨B + 2, 0, none⟩), .pointer (some ⟨B + 1, 0, none⟩)] W fun e W' => (∃ v, e = .returned v) ∧
      ((∃ xs O', outQ xs = props ns ls x t ∧ J xs O' W') ∨ ∃ pre, outQ pre <+: props ns ls x t ∧ Jx pre W') := by
  have HI0 : Hid (ItQ J [.slice A1 n1 c1, .slice A2 n2 c2, .slice A3 n3 c3] [.slice A5 n5 c5, .int .i64 x.preempts, .int .i64 x.shifts] [.slice A4 n4 c4, .int .i64 t.preempts, .int .i64 t.shifts] w B W.heap.size none [] [] O W) :=
    ⟨h0, fun k hk => (hO k hk).1, fun k hk => (hO k hk).2, hb1, hb2, hb3, hw, Nat.le_refl _, .inl rfl, fun _ e => by cases e⟩
  have HJ := Lib.hid hJ
  have HJX := Lib.hid hJx
  have HY := Lib.hid hY
  have HA := Lib.hid (fun (V : World) (hV : Below w.heap.size w V) => h.at hV)
  have HL4 := Lib.hid h.a.e4
  have HR4 := Lib.hid h.a.r4
  have hl4 := h.a.l4
  have HU := Lib.hid (used_any ns t.pods A1 A4 n1 c1 n4 c4 (.slice A2 n2 c2) (.slice A3 n3 c3) (.int .i64 t.preempts) (.int .i64 t.shifts) W h.a.e1 h.a.l1 (h.at hw).a.r1 h.a.e4 h.a.l4 (h.at hw).a.r4)
  obtain ⟨a0, a1, a2, a3⟩ := hb1.cells3
  obtain ⟨d0, d1, d2, d3⟩ := hb3.cells3
  clear hb1 hb2 hb3 hw hO h0 hJ hJx hY h
  refine callsIn_of_wp Tryz.func52 rfl trivial ?_ rfl
  simp only [Tryz.ntmps52, List.size_toArray, List.length_cons, List.length_nil, Nat.reduceAdd, Nat.reduceSub, Array.replicate_succ, Array.replicate_zero, List.push_toArray, List.append_toArray, List.nil_append, List.cons_append]
  gi_wp2_with fail
  refine ⟨trivial, (callsIn_wide.2 HU.out).mono ?_⟩
  rintro e w1 ⟨v, rfl, hown, hb⟩
  obtain ⟨Au, cu, rfl, hru, hbu⟩ := recsQB rfl hown
  have I1 := HI0.out.keep HJ.out hb
  have HI1 : Hid (ItQ J [.slice A1 n1 c1, .slice A2 n2 c2, .slice A3 n3 c3] [.slice A5 n5 c5, .int .i64 x.preempts, .int .i64 x.shifts] [.slice A4 n4 c4, .int .i64 t.preempts, .int .i64 t.shifts] w B W.heap.size Au (usedN ns t.pods) [] O w1) :=
    ⟨I1.j, I1.lt, I1.d, I1.one, I1.two, I1.three, I1.below, I1.base, hru, fun k hk hc => by have h1 := hbu k hk; have h2 := HI0.out.lt _ hc; omega⟩
  clear a0 a1 a2 a3 d0 d1 d2 d3 hown hb hru hbu I1 HU HI0
  obtain ⟨us, hus⟩ : ∃ us, usedN ns t.pods = us := ⟨_, rfl⟩
  obtain ⟨mu, hmu⟩ : ∃ m, us.length = m := ⟨_, rfl⟩
  have hmu4 : mu ≤ n4 := by have := used_len ns t.pods; rw [hus, hmu] at this; have := HL4.out; omega
  have HUS := Lib.hid hus
  have HMU := Lib.hid hmu
  rw [hus] at HI1
  rw [hus, hmu]
  clear hus hmu
  obtain ⟨d0, d1, d2, d3⟩ := HI1.out.three.cells3
  gi_wp2
  clear d0 d1 d2 d3
  gi_loopw [19] (fun i wr => ∃ (k : Nat) (pre : List PropQ) (O : Nat → Prop), k ≤ n4 ∧ i = .int .i64 k ∧ outQ pre = (t.pods.take k).flatMap (podN ns ls x t us) ∧ ItQ J [.slice A1 n1 c1, .slice A2 n2 c2, .slice A3 n3 c3] [.slice A5 n5 c5, .int .i64 x.preempts, .int .i64 x.shifts] [.slice A4 n4 c4, .int .i64 t.preempts, .int .i64 t.shifts] w B W.heap.size Au us pre O wr)
    (fun i _ => n4 - (intOf i).toNat)
  case atStart => exact ⟨0, [], O, Nat.zero_le _, rfl, by simp, HI1.out⟩
  case round =>
    obtain ⟨k, pre, O1, hk, rfl, hpre, hI⟩ := hrel
    have HPRE := Lib.hid hpre
    have HI := Lib.hid hI
    have kwr := hI.below
    clear hpre hI HI1
    by_cases hlt : k < n4
    · have hkl : k < t.pods.length := by have := HL4.out; omega
      obtain ⟨b, o, rfl, hb, he⟩ := HR4.out.at hkl
      generalize hy : t.pods[k] = y at *
      have HYY := Lib.hid hy
      clear hy
      have e0 : wr.cell? ⟨b, o + k * 8, none⟩ = some (.int .i64 y.id) := (kwr.cell (p := ⟨b, o + k * 8, none⟩) hb).trans (he 0 _ rfl)
      have e1 : wr.cell? ⟨b, o + k * 8 + 1, none⟩ = some (.int .i64 y.load) := (kwr.cell (p := ⟨b, o + k * 8 + 1, none⟩) hb).trans (he 1 _ rfl)
      have e2 : wr.cell? ⟨b, o + k * 8 + 2, none⟩ = some (.int .i64 y.prio) := (kwr.cell (p := ⟨b, o + k * 8 + 2, none⟩) hb).trans (he 2 _ rfl)
      have e3 : wr.cell? ⟨b, o + k * 8 + 3, none⟩ = some (.int .u64 y.req.a) := (kwr.cell (p := ⟨b, o + k * 8 + 3, none⟩) hb).trans (he 3 _ rfl)
      have e4 : wr.cell? ⟨b, o + k * 8 + 4, none⟩ = some (.int .u64 y.req.b) := (kwr.cell (p := ⟨b, o + k * 8 + 4, none⟩) hb).trans (he 4 _ rfl)
      have e5 : wr.cell? ⟨b, o + k * 8 + 5, none⟩ = some (.int .u64 y.req.c) := (kwr.cell (p := ⟨b, o + k * 8 + 5, none⟩) hb).trans (he 5 _ rfl)
      have e6 : wr.cell? ⟨b, o + k * 8 + 6, none⟩ = some (.int .u64 y.req.d) := (kwr.cell (p := ⟨b, o + k * 8 + 6, none⟩) hb).trans (he 6 _ rfl)
      have e7 : wr.cell? ⟨b, o + k * 8 + 7, none⟩ = some (.int .i64 y.node) := (kwr.cell (p := ⟨b, o + k * 8 + 7, none⟩) hb).trans (he 7 _ rfl)
      have hz0 := kwr.size
      have hbw : b < wr.heap.size := by omega
      have hky : Below wr.heap.size wr (wr.alloc (.cells #[.int .i64 y.id, .int .i64 y.load, .int .i64 y.prio, .int .u64 y.req.a, .int .u64 y.req.b, .int .u64 y.req.c, .int .u64 y.req.d, .int .i64 y.node] 41)) := (Below.refl _ _).alloc (Nat.le_refl _) _
      have I2 := HI.out.keep HJ.out hky
      have HBY := Lib.hid (Bf.new wr (cellsP y) 41 rfl)
      have HNG : Hid (¬ O1 wr.heap.size) := fun hc => by have := HI.out.lt _ hc; omega
      have HIN := Lib.hid (isNode_any ns y.node A1 n1 c1 (.slice A2 n2 c2) (.slice A3 n3 c3) _ (HA.out _ I2.below).a.e1 (by have := (HA.out _ I2.below).a.l1; omega) (HA.out _ I2.below).a.r1)
      have HI2 := Lib.hid I2
      obtain ⟨a0, a1, a2, a3⟩ := I2.one.cells3
      obtain ⟨d0, d1, d2, d3⟩ := I2.three.cells3
      clear he hz0 kwr hky I2 HI
      cases hq : isN ns y.node with
      | false =>
        rw [hq] at HIN
        have HP0 : Hid (podN ns ls x t us y = []) := podN_no (by rw [hq]; rfl)
        clear hq
        gi_wp2_with fail
        refine ⟨trivial, (callsIn_wide.2 HIN.out).mono ?_⟩
        rintro e w3 ⟨rfl, hb3⟩
        have HI3 := Lib.hid (HI2.out.keep HJ.out hb3)
        clear hb3 a0 a1 a2 a3 d0 d1 d2 d3 e0 e1 e2 e3 e4 e5 e6 e7 HI2 HIN
        gi_wp2
        refine ⟨trivial, ?_⟩
        gi_wp2
        go_roundw
        case rel => exact ⟨k + 1, pre, O1, by omega, by go_num, by rw [HPRE.out, flat_more hkl HYY.out, HP0.out, List.append_nil], HI3.out⟩
        case measure => simp [intOf]; omega
      | true =>
        rw [hq] at HIN
        gi_wp2_with fail
        refine ⟨trivial, (callsIn_wide.2 HIN.out).mono ?_⟩
        rintro e w3 ⟨rfl, hb3⟩
        have I3 := HI2.out.keep HJ.out hb3
        have B3 := HBY.out.below hb3 HBY.out.lt
        have HAL := Lib.hid (alone_any t.pods y (some ⟨b, o, none⟩) n4 c4 (.int .i64 t.preempts) (.int .i64 t.shifts) w3 HL4.out (by omega) (HA.out _ I3.below).a.r4)
        have HI3 := Lib.hid I3
        have HB3 := Lib.hid B3
        clear a0 a1 a2 a3 d0 d1 d2 d3 e0 e1 e2 e3 e4 e5 e6 e7 hb3 HI2 HIN HBY
        obtain ⟨d0, d1, d2, d3⟩ := I3.three.cells3
        obtain ⟨⟨p0, p1, p2, p3⟩, p4, p5, p6, p7, p8⟩ := B3.cells8p
        clear I3 B3
        cases hal : aloneN t.pods y.node with
        | false =>
          rw [hal] at HAL
          have HP0 : Hid (podN ns ls x t us y = []) := podN_no (by rw [hal, Bool.and_false])
          clear hq hal
          gi_wp2_with fail
          refine ⟨trivial, (callsIn_wide.2 HAL.out).mono ?_⟩
          rintro e w4 ⟨rfl, hb4⟩
          have HI4 := Lib.hid (HI3.out.keep HJ.out hb4)
          clear hb4 d0 d1 d2 d3 p0 p1 p2 p3 p4 p5 p6 p7 p8 HI3 HB3 HAL
          gi_wp2
          go_roundw
          case rel => exact ⟨k + 1, pre, O1, by omega, by go_num, by rw [HPRE.out, flat_more hkl HYY.out, HP0.out, List.append_nil], HI4.out⟩
          case measure => simp [intOf]; omega
        | true =>
          rw [hal] at HAL
          have HPY : Hid ((isN ns y.node && aloneN t.pods y.node) = true) := by show _ = _; rw [hq, hal]; rfl
          have HP0 : Hid (podN ns ls x t us y = us.flatMap (tryN ns ls x t y)) := podN_yes HPY.out
          clear hq hal
          gi_wp2_with fail
          refine ⟨trivial, (callsIn_wide.2 HAL.out).mono ?_⟩
          rintro e w4 ⟨rfl, hb4⟩
          have HI4 := Lib.hid (HI3.out.keep HJ.out hb4)
          have HB4 := Lib.hid (HB3.out.below hb4 HB3.out.lt)
          clear hb4 d0 d1 d2 d3 p0 p1 p2 p3 p4 p5 p6 p7 p8 HI3 HB3 HAL
          gi_wp2
          generalize wr.heap.size = gp at *
          gi_loopw [36] (fun i wr => ∃ (j : Nat) (pre : List PropQ) (O : Nat → Prop), j ≤ mu ∧ i = .int .i64 j ∧ outQ pre = (t.pods.take k).flatMap (podN ns ls x t us) ++ (us.take j).flatMap (tryN ns ls x t y) ∧ ItQ J [.slice A1 n1 c1, .slice A2 n2 c2, .slice A3 n3 c3] [.slice A5 n5 c5, .int .i64 x.preempts, .int .i64 x.shifts] [.slice (some ⟨b, o, none⟩) n4 c4, .int .i64 t.preempts, .int .i64 t.shifts] w B W.heap.size Au us pre O wr ∧ Bf wr gp (cellsP y) ∧ ¬ O gp)
            (fun i _ => mu - (intOf i).toNat)
          case atStart => exact ⟨0, pre, O1, Nat.zero_le _, rfl, by rw [HPRE.out]; simp, HI4.out, HB4.out, HNG.out⟩
          case round =>
            obtain ⟨j, pre2, O2, hj, rfl, hpre2, hI, hB, hN⟩ := hrel
            have HPRE2 := Lib.hid hpre2
            have HI5 := Lib.hid hI
            have HB5 := Lib.hid hB
            have HN5 := Lib.hid hN
            clear hpre2 hI hB hN HI4 HB4 HNG
            by_cases hjl : j < mu
            · have hju : j < us.length := by have := HMU.out; omega
              obtain ⟨bu, ou, rfl, hbu, hcu⟩ := recsQ_at HI5.out.us hju
              generalize hz : us[j] = z at *
              have HZ := Lib.hid hz
              clear hz
              obtain ⟨⟨p0, p1, p2, p3⟩, p4, p5, p6, p7, p8⟩ := HB5.out.cells8p
              have hkm : Below wr.heap.size wr (wr.alloc (.cells #[.int .i64 3, .int .i64 y.id, .int .i64 z, .int .i64 0] 49)) := (Below.refl _ _).alloc (Nat.le_refl _) _
              have I6 := HI5.out.keep HJ.out hkm
              have HI6 := Lib.hid I6
              have BM := Bf.new wr (cellsM ⟨3, y.id, z, 0⟩) 49 rfl
              have HBM := Lib.hid BM
              have HB6 := Lib.hid (HB5.out.below hkm HB5.out.lt)
              have HDO : Hid (Calls Tryz.prog 9 #[.agg #[.slice A1 n1 c1, .slice A2 n2 c2, .slice A3 n3 c3], .agg #[.slice A5 n5 c5, .int .i64 x.preempts, .int .i64 x.shifts], .agg #[.slice (some ⟨b, o, none⟩) n4 c4, .int .i64 t.preempts, .int .i64 t.shifts], .agg #[.int .i64 3, .int .i64 y.id, .int .i64 z, .int .i64 0]] (wr.alloc (.cells #[.int .i64 3, .int .i64 y.id, .int .i64 z, .int .i64 0] 49)) (DoTo (doD ns ls x t (moveN y z)) (wr.alloc (.cells #[.int .i64 3, .int .i64 y.id, .int .i64 z, .int .i64 0] 49)))) := by
                have k := HA.out _ I6.below
                exact stepDo_any ns ls x t (moveN y z) A1 A2 A3 (some ⟨b, o, none⟩) A5 n1 c1 n2 c2 n3 c3 n4 c4 n5 c5 _ k.a k.h04 k.e5 k.l5 k.r5 k.xo
              obtain ⟨a0, a1, a2, a3⟩ := I6.one.cells3
              obtain ⟨b0, b1, b2, b3⟩ := I6.two.cells3
              obtain ⟨d0, d1, d2, d3⟩ := I6.three.cells3
              obtain ⟨⟨m0, m1⟩, m2, m3, m4⟩ := BM.cells4q
              clear hkm I6 BM
              by_cases hd0 : (doD ns ls x t (moveN y z)).2 = 0
              · have HD1 := Lib.hid (HDO.out.mono fun e w' h => do_good hd0 h)
                have HT := Lib.hid (try_yes hd0)
                have hjw : j < (usedN ns t.pods).length := by rw [HUS.out]; exact hju
                have HSF := Lib.hid (so_far hkl HYY.out hjw (z := z) (by have h1 := HZ.out; have h2 := HUS.out; subst h2; exact h1) HPY.out hd0)
                clear hd0 HDO
                gi_wp2_with fail
                refine ⟨trivial, (callsIn_wide.2 HD1.out).mono ?_⟩
                rintro e w7 ⟨A7, c7, rfl, ho7, hfr7, hb7⟩
                generalize doD ns ls x t (moveN y z) = r at *
                have k8 : Below w7.heap.size w7 (w7.alloc (.cells #[.slice A7 r.1.pods.length c7, .int .i64 r.1.preempts, .int .i64 r.1.shifts] 31)) := (Below.refl _ _).alloc (Nat.le_refl _) _
                have I8 := (HI6.out.keep HJ.out hb7).keep HJ.out k8
                have HI8 := Lib.hid I8
                have HB8 := Lib.hid ((HB6.out.below hb7 HB6.out.lt).below k8 (HB6.out.below hb7 HB6.out.lt).lt)
                have BM8 := (HBM.out.below hb7 HBM.out.lt).below k8 (HBM.out.below hb7 HBM.out.lt).lt
                have BS8 := Bf.new w7 [.slice A7 r.1.pods.length c7, .int .i64 r.1.preempts, .int .i64 r.1.shifts] 31 rfl
                have HSQ : Hid (outQ pre2 ++ [(moveN y z, r.1)] <+: props ns ls x t) := by
                  show _ <+: _
                  rw [HPRE2.out, ← HUS.out]; exact HSF.out
                have hat : AtQ ((moveN y z, r.1), A7, c7) W.heap.size (w7.alloc (.cells #[.slice A7 r.1.pods.length c7, .int .i64 r.1.preempts, .int .i64 r.1.shifts] 31)) :=
                  ⟨ho7.later k8, fun a ha => by have h1 := hfr7 a ha; have h2 := HI6.out.base; omega⟩
                obtain ⟨fn', tmps', assign', body', hyy, hR⟩ := HY.out pre2 O2 ((moveN y z, r.1), A7, c7) _ I8.j I8.lt hat (so_less (q := ((moveN y z, r.1), A7, c7)) HSQ.out)
                have HRR := Lib.hid hR
                dsimp only [encQ, moveN, aggM, stateV] at hyy
                obtain ⟨⟨m0, m1⟩, m2, m3, m4⟩ := BM8.cells4q
                obtain ⟨s0, s1, s2, s3⟩ := BS8.cells3
                have HBU : Hid (bu < (w7.alloc (.cells #[.slice A7 r.1.pods.length c7, .int .i64 r.1.preempts, .int .i64 r.1.shifts] 31)).heap.size) := by
                  have h1 := (HI6.out.keep HJ.out hb7).below.size
                  have h2 := hb7.size
                  have h3 := k8.size
                  show bu < _
                  simp at h2 h3 ⊢
                  omega
                clear ho7 hfr7 hb7 k8 HI6 HB6 HD1 a0 a1 a2 a3 b0 b1 b2 b3 d0 d1 d2 d3 p0 p1 p2 p3 p4 p5 p6 p7 p8 I8 BM8 BS8 hat hR
                gi_wp2
                refine HRR.out.mono ?_
                rintro e V' (⟨rfl, hbut, O', hj', ho'⟩ | ⟨rfl, hjx⟩)
                · have HI9 := Lib.hid (HI8.out.round hbut hj' ho' (fun k e => by cases e; exact HBU.out))
                  have HB9 := Lib.hid (HB8.out.but hbut HN5.out)
                  have HN9 : Hid (¬ O' gp) := fun hc => by
                    rcases (ho' _ hc).2 with e | e
                    · exact HN5.out e
                    · have := HB8.out.lt; omega
                  clear hbut hj' ho' HI8 HB8 m0 m1 m2 m3 m4 s0 s1 s2 s3 hyy HRR
                  gi_wp2
                  go_roundw
                  case rel => exact ⟨j + 1, pre2 ++ [((moveN y z, r.1), A7, c7)], O', by omega, by go_num, by rw [outQ, List.map_append, flat_more hju HZ.out, HT.out, ← List.append_assoc, ← HPRE2.out]; rfl, HI9.out, HB9.out, HN9.out⟩
                  case measure => simp [intOf]; omega
                · have HX := Lib.hid hjx
                  clear hjx HI8 HB8 m0 m1 m2 m3 m4 s0 s1 s2 s3 hyy HRR
                  gi_wp2
                  refine bodyPost_ret (results_none rfl _ _ _) rfl ?_
                  exact ⟨⟨_, rfl⟩, .inr ⟨pre2 ++ [((moveN y z, r.1), A7, c7)], by rw [outQ, List.map_append]; exact HSQ.out, HX.out⟩⟩
              · have HD1 := Lib.hid (HDO.out.mono fun e w' h => do_bad hd0 h)
                have HT := Lib.hid (try_no hd0)
                clear hd0 HDO
                gi_wp2_with fail
                refine ⟨trivial, (callsIn_wide.2 HD1.out).mono ?_⟩
                rintro e w7 ⟨A7, c7, rfl, ho7, hfr7, hb7⟩
                generalize doD ns ls x t (moveN y z) = r at *
                have k8 : Below w7.heap.size w7 (w7.alloc (.cells #[.slice A7 r.1.pods.length c7, .int .i64 r.1.preempts, .int .i64 r.1.shifts] 31)) := (Below.refl _ _).alloc (Nat.le_refl _) _
                have HI8 := Lib.hid ((HI6.out.keep HJ.out hb7).keep HJ.out k8)
                have HB8 := Lib.hid ((HB6.out.below hb7 HB6.out.lt).below k8 (HB6.out.below hb7 HB6.out.lt).lt)
                clear ho7 hfr7 hb7 k8 HI6 HB6 HD1 a0 a1 a2 a3 b0 b1 b2 b3 d0 d1 d2 d3 m0 m1 m2 m3 m4 p0 p1 p2 p3 p4 p5 p6 p7 p8
                gi_wp2
                refine ⟨fun _ h => (by cases h), ?_⟩
                gi_wp2
                go_roundw
                case rel => exact ⟨j + 1, pre2, O2, by omega, by go_num, by rw [HPRE2.out, flat_more hju HZ.out, HT.out, List.append_nil], HI8.out, HB8.out, HN5.out⟩
                case measure => simp [intOf]; omega
            · have HK : Hid (us.take j = us) := List.take_of_length_le (by have := HMU.out; omega)
              gi_wp2
              go_roundw
              case rel => exact ⟨k + 1, pre2, O2, by omega, by go_num, by rw [HPRE2.out, flat_more hkl HYY.out, HP0.out, HK.out], HI5.out⟩
              case measure => simp [intOf]; omega
    · have HK : Hid (t.pods.take k = t.pods) := List.take_of_length_le (by have := HL4.out; omega)
      gi_wp2
      go_end0
      exact ⟨⟨_, rfl⟩, .inl ⟨pre, O1, by rw [HPRE.out, HK.out, ← HUS.out]; rfl, HI.out.j⟩⟩

theorem props_stops (n : Nat) (hn : 1 ≤ n) (ns : List NodeD) (ls : List LoadD) (x : SpecD) (t : StateD) (A1 A2 A3 A4 A5 : Option Addr) (n1 c1 n2 c2 n3 c3 n4 c4 n5 c5 : Nat) (w : World) (h : TidyArgs ns ls x t A1 A2 A4 A5 n1 n2 n4 c4 n5 w) (B : Nat) (w0 : World)
    (hb1 : Bf w0 B [.slice A1 n1 c1, .slice A2 n2 c2, .slice A3 n3 c3]) (hb2 : Bf w0 (B + 1) [.slice A5 n5 c5, .int .i64 x.preempts, .int .i64 x.shifts]) (hb3 : Bf w0 (B + 2) [.slice A4 n4 c4, .int .i64 t.preempts, .int .i64 t.shifts]) (hw : Below w.heap.size w w0) :
    SeqQ Fence.wide n Tryz.prog 52 #[.pointer (some ⟨B, 0, none⟩), .pointer (some ⟨B + 2, 0, none⟩), .pointer (some ⟨B + 1, 0, none⟩)] encQ (fun k => k < w.heap.size ∨ (B ≤ k ∧ k < B + 3)) AtQ
      (fun xs => outQ xs = props ns ls x t) (fun pre => outQ pre <+: props ns ls x t) (props ns ls x t).length w0 := fun l J Jx O W hW hJ hJx hO hY h0 =>
  props_in n hn l ns ls x t A1 A2 A3 A4 A5 n1 c1 n2 c2 n3 c3 n4 c4 n5 c5 w h B J Jx O W hJ hJx hY (hb1.below hW hb1.lt) (hb2.below hW hb2.lt) (hb3.below hW hb3.lt) (hw.trans (hW.mono hw.size))
    (fun k hk => ⟨(hO k hk).1, Nat.not_lt.1 fun hc => (hO k hk).2 (.inl hc), fun hc => (hO k hk).2 (.inr hc)⟩) h0
end Go.Proofs.YtabebhaclkhhpaaGreatDoor
