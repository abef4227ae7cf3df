/- The law SpreadMoves: for every snapshot, every spec, every state, every move and every load the call returns true, and each argument reads afterwards as it read before; the package-level variable errors.errorType starts as the program's text lays it (the card ties it). There is no other condition. -/
import Derived.Test.YtmcpjebcffgboaaDoorZ03
import Derived.Test.YtmcpjebcffgboaaDoorZ04
import Derived.Test.YtmcpjebcffgboaaDoorZ09
import Derived.Deep.RegionHeldLaw
import Derived.Deep.RegionHeld3
import Derived.BigQuiet
import Derived.Deep.CutRange
import Derived.Test.YtmcpjebcffgboaaDoorZ01
import Derived.SevenTiedAt

/- How a move is read as data. -/
namespace Go.Proofs.YtmcpjebcffgboaaDoor
set_option linter.unusedSimpArgs false
open Go.ChangeShapes Go.WideShapes Go.ChangeAt Go.RowKit

theorem Tryd.cellsMv : Tryd.prog.cellsOf 49 = 4 := by kernel_rfl
section
variable {H : Type} {enc : TypeId × Value → H} {w : World} {base : Nat} {sp : Nat → Bool} {held : Bool}
set_option maxRecDepth 100000 in
/-- A move by value. -/
theorem open_move {r : Reach} {b0 : Nat} {v : Value} {d : DataW H} {ps : List MemPlace} (hval : Value.okWide Tryd.prog w r b0 49 v) (h : DataW.Trod enc Tryd.prog w base sp held 49 v d ps) :
    ∃ m : MoveD, v = aggM m ∧ I64 m.kind ∧ I64 m.pod ∧ I64 m.node ∧ I64 m.over := by
  obtain ⟨v0, v1, v2, v3, y0, y1, y2, y3, n, rfl, _, _, h0, h1, h2, h3⟩ := Go.Joins.open_agg4 Tryd.underlying49 (by kernel_rfl) Tryd.cellsMv hval h
  obtain ⟨k0, rfl, i0⟩ := int_of rfl h0
  obtain ⟨k1, rfl, i1⟩ := int_of rfl h1
  obtain ⟨k2, rfl, i2⟩ := int_of rfl h2
  obtain ⟨k3, rfl, i3⟩ := int_of rfl h3
  exact ⟨⟨k0, k1, k2, k3⟩, rfl, i0, i1, i2, i3⟩
end
end Go.Proofs.YtmcpjebcffgboaaDoor

/- The reference's Place and Goal of layer 5. -/
namespace Go.Proofs.YtmcpjebcffgboaaDoor
set_option linter.unusedSimpArgs false
open Go.RowKit
set_option linter.unusedVariables false

end Go.Proofs.YtmcpjebcffgboaaDoor

/- The law StateTells where there are too many of something. -/
namespace Go.Proofs.YtmcpjebcffgboaaDoor
set_option linter.unusedSimpArgs false
open Go.RowKit
set_option linter.unusedVariables false

/-- Four boxes of the call's own. -/
structure Fo (a b c d : List Value) (w V : World) : Prop where
  one : Bf V w.heap.size a
  two : Bf V (w.heap.size + 1) b
  three : Bf V (w.heap.size + 2) c
  four : Bf V (w.heap.size + 3) d
  below : Below w.heap.size w V
section
variable {a b c d : List Value} {w V V' : World}
theorem Fo.keep (h : Fo a b c d w V) (hb : Below V.heap.size V V') : Fo a b c d w V' :=
  ⟨h.one.below hb h.one.lt, h.two.below hb h.two.lt, h.three.below hb h.three.lt, h.four.below hb h.four.lt, h.below.trans (hb.mono h.below.size)⟩
theorem Fo.alloc (h : Fo a b c d w V) (o : Obj) : Fo a b c d w (V.alloc o) := h.keep ((Below.refl _ V).alloc (Nat.le_refl _) o)
theorem Fo.new (w : World) (a b c d : List Value) (t1 t2 t3 t4 : TypeId) : Fo a b c d w ((((w.alloc (.cells a.toArray t1)).alloc (.cells b.toArray t2)).alloc (.cells c.toArray t3)).alloc (.cells d.toArray t4)) :=
  ⟨(((Bf.new w a t1 rfl).alloc _).alloc _).alloc _, ((Bf.new (w.alloc (.cells a.toArray t1)) b t2 (b := w.heap.size + 1) (by simp)).alloc _).alloc _,
    (Bf.new ((w.alloc (.cells a.toArray t1)).alloc (.cells b.toArray t2)) c t3 (b := w.heap.size + 2) (by simp)).alloc _, Bf.new (((w.alloc (.cells a.toArray t1)).alloc (.cells b.toArray t2)).alloc (.cells c.toArray t3)) d t4 (b := w.heap.size + 3) (by simp),
    below_four w _ _ _ _⟩
theorem Fo.facts {a0 a1 a2 b0 b1 b2 c0 c1 c2 d0 d1 d2 : Value} (h : Fo [a0, a1, a2] [b0, b1, b2] [c0, c1, c2] [d0, d1, d2] w V) :
    (V.cell? ⟨w.heap.size, 0, none⟩ = some a0 ∧ V.cell? ⟨w.heap.size, 1, none⟩ = some a1 ∧ V.cell? ⟨w.heap.size, 2, none⟩ = some a2) ∧
    (V.cell? ⟨w.heap.size + 1, 0, none⟩ = some b0 ∧ V.cell? ⟨w.heap.size + 1, 1, none⟩ = some b1 ∧ V.cell? ⟨w.heap.size + 1, 2, none⟩ = some b2) ∧
    (V.cell? ⟨w.heap.size + 2, 0, none⟩ = some c0 ∧ V.cell? ⟨w.heap.size + 2, 1, none⟩ = some c1 ∧ V.cell? ⟨w.heap.size + 2, 2, none⟩ = some c2) ∧
    (V.cell? ⟨w.heap.size + 3, 0, none⟩ = some d0 ∧ V.cell? ⟨w.heap.size + 3, 1, none⟩ = some d1 ∧ V.cell? ⟨w.heap.size + 3, 2, none⟩ = some d2) ∧ w.heap.size < V.heap.size ∧ w.heap.size + 1 < V.heap.size ∧ w.heap.size + 2 < V.heap.size ∧ w.heap.size + 3 < V.heap.size :=
  ⟨⟨h.one.cell 0 _ rfl, h.one.cell 1 _ rfl, h.one.cell 2 _ rfl⟩, ⟨h.two.cell 0 _ rfl, h.two.cell 1 _ rfl, h.two.cell 2 _ rfl⟩, ⟨h.three.cell 0 _ rfl, h.three.cell 1 _ rfl, h.three.cell 2 _ rfl⟩, ⟨h.four.cell 0 _ rfl, h.four.cell 1 _ rfl, h.four.cell 2 _ rfl⟩, h.one.lt, h.two.lt, h.three.lt, h.four.lt⟩
end
end Go.Proofs.YtmcpjebcffgboaaDoor

/- The law StateTells, where there are few of all. -/
namespace Go.Proofs.YtmcpjebcffgboaaDoor
set_option linter.unusedSimpArgs false
open Go.RowKit
set_option linter.unusedVariables false

theorem pod_is_self (x : PodD) (w : World) : (binOp .neq 45 (aggP x) (aggP x)).run Tryd.prog w = .ok (.bool false) w := by rw [pod_neq, podEq_self]; rfl
theorem out_later {α : Type} {size : Nat} {cells : α → List Value} {w w' : World} {xs : List α} {A : Option Addr} {c : Nat} (h : Out size cells w xs A c) (hb : Below w.heap.size w w') : Out size cells w' xs A c :=
  ⟨h.1, h.2.1, h.2.2.1, (h.2.2.2.below hb (Nat.le_refl _)).more hb.size⟩
end Go.Proofs.YtmcpjebcffgboaaDoor

/- The law SpreadMoves. -/
namespace Go.Proofs.YtmcpjebcffgboaaDoor
set_option linter.unusedSimpArgs false
open Go.RowKit
set_option linter.unusedVariables false

theorem few08 {n1 n2 n3 n4 n5 : Nat} (h : few05 n1 n2 n3 n4 n5 = true) : n1 ≤ 40 ∧ n2 ≤ 40 ∧ n3 ≤ 40 ∧ n4 ≤ 40 ∧ n5 ≤ 40 := by
  simp [few05] at h
  omega
theorem codeW_zero : codeV 0 = .nilIface := rfl
theorem codeW_pos {c : Int} (h : c ≠ 0) : codeV c = .iface 59 (.int .i64 c) := by unfold codeV; rw [if_neg h]
theorem Fo.box3 {x0 x1 x2 : Value} {b c d : List Value} {w V : World} (h : Fo [x0, x1, x2] b c d w V) : V.cell? ⟨w.heap.size, 0, none⟩ = some x0 ∧ V.cell? ⟨w.heap.size, 1, none⟩ = some x1 ∧ V.cell? ⟨w.heap.size, 2, none⟩ = some x2 ∧ w.heap.size < V.heap.size := h.one.cells3
theorem Bf.cells4m {V : World} {b : Nat} {x : MoveD} (h : Bf V b (cellsM x)) : V.cell? ⟨b, 0, none⟩ = some (.int .i64 x.kind) ∧ V.cell? ⟨b, 1, none⟩ = some (.int .i64 x.pod) ∧ V.cell? ⟨b, 2, none⟩ = some (.int .i64 x.node) ∧ V.cell? ⟨b, 3, none⟩ = some (.int .i64 x.over) ∧ b < V.heap.size :=
  ⟨h.cell 0 _ rfl, h.cell 1 _ rfl, h.cell 2 _ rfl, h.cell 3 _ rfl, h.lt⟩

set_option maxHeartbeats 25600000 in
set_option maxRecDepth 100000 in
theorem spreadMoves_in (s : SnapD) (x : SpecD) (t : StateD) (m : MoveD) (load : Int) (A1 A2 A3 A4 A5 : Option Addr) (n1 c1 n2 c2 n3 c3 n4 c4 n5 c5 : Nat) (w : World) (hg : Laid w)
    (hn1 : n1 = s.nodes.length) (hr1 : Recs 10 cellsN w w.heap.size A1 s.nodes) (hn5 : n5 = x.wants.length) (hr5 : Recs 6 cellsW w w.heap.size A5 x.wants) (hn4 : n4 = t.pods.length) (h04 : A4 = none → c4 = 0) (hr4 : Recs 8 cellsP w w.heap.size A4 t.pods) :
    Calls Tryd.prog 4 #[.agg #[.slice A1 n1 c1, .slice A2 n2 c2, .slice A3 n3 c3], .agg #[.slice A5 n5 c5, .int .i64 x.preempts, .int .i64 x.shifts], .agg #[.slice A4 n4 c4, .int .i64 t.preempts, .int .i64 t.shifts], aggM m, .int .i64 load] w fun e w' => e = .returned (.bool true) ∧ Below w.heap.size w w' := by
  have T0 := Fo.new w [.slice A1 n1 c1, .slice A2 n2 c2, .slice A3 n3 c3] [.slice A5 n5 c5, .int .i64 x.preempts, .int .i64 x.shifts] [.slice A4 n4 c4, .int .i64 t.preempts, .int .i64 t.shifts] (cellsM m) 26 33 28 49
  have HG := Lib.hid (fun (V : World) (hV : Below w.heap.size w V) => Laid.below hg hV (Nat.le_refl _))
  have HR1 := Lib.hid (fun (V : World) (hV : Below w.heap.size w V) => (hr1.below hV (Nat.le_refl _)).more hV.size)
  have HR4 := Lib.hid (fun (V : World) (hV : Below w.heap.size w V) => (hr4.below hV (Nat.le_refl _)).more hV.size)
  have HR5 := Lib.hid (fun (V : World) (hV : Below w.heap.size w V) => (hr5.below hV (Nat.le_refl _)).more hV.size)
  have HUP := Lib.hid (up08_any _ (HG.out _ T0.below))
  have HN1 := Lib.hid hn1
  have HN4 := Lib.hid hn4
  have HN5 := Lib.hid hn5
  have H04 := Lib.hid h04
  clear hg hr1 hr4 hr5 hn1 hn4 hn5 h04
  go_enter Tryd.func4, Tryd.ntmps4
  go_wp2_with fail
  refine HUP.out.mono ?_
  rintro e w1 ⟨rfl, hb1⟩
  have T1 := T0.keep hb1
  clear hb1 T0 HUP
  obtain ⟨a0, a1, a2, a3⟩ := T1.one.cells3
  obtain ⟨b0, b1, b2, b3⟩ := T1.two.cells3
  obtain ⟨d0, d1, d2, d3⟩ := T1.three.cells3
  go_wp2_with fail
  refine (few05_any _ _ _ _ _ _ _ _ _ _ _ _ _ _ _ _ _ _ _ _).mono ?_
  rintro e w2 ⟨rfl, hb2⟩
  have T2' := T1.keep hb2
  have kw := T2'.below
  clear hb2 T1 a0 a1 a2 a3 b0 b1 b2 b3 d0 d1 d2 d3
  cases hfew : few05 n1 n2 n3 n5 n4 with
  | false =>
    clear hfew T2'
    go_wp2
    go_ret
    exact ⟨rfl, kw⟩
  | true =>
    obtain ⟨hl1, hl2, hl3, hl5, hl4⟩ := few08 hfew
    have HT0 := Lib.hid T2'
    have HSK := Lib.hid (fun W (hW : Below w.heap.size w W) => skew_any s.nodes t.pods load A1 A4 n1 c1 n4 c4 (.slice A2 n2 c2) (.slice A3 n3 c3) (.int .i64 t.preempts) (.int .i64 t.shifts) W HN1.out (by omega) (HR1.out W hW) HN4.out (by omega) (HR4.out W hW))
    have HMK := Lib.hid (make_any s.nodes x.wants t m A1 A2 A3 A5 A4 n1 c1 n2 c2 n3 c3 n5 c5 n4 c4 (.int .i64 x.preempts) (.int .i64 x.shifts) w2 HN1.out (by omega) (HR1.out w2 kw) HN5.out (by omega) (HR5.out w2 kw) HN4.out (by omega) H04.out (HR4.out w2 kw))
    have HSM := Lib.hid (fun (h : (makeD s.nodes x.wants t m).2 = 0) => skew_made h load (zonesOf s.nodes))
    obtain ⟨a0, a1, a2, a3⟩ := T2'.one.cells3
    obtain ⟨b0, b1, b2, b3⟩ := T2'.two.cells3
    obtain ⟨d0, d1, d2, d3⟩ := T2'.three.cells3
    obtain ⟨m0, m1, m2, m3, m4⟩ := T2'.four.cells4m
    clear hfew kw T2'
    generalize hmd : makeD s.nodes x.wants t m = md at *
    obtain ⟨u, code⟩ := md
    clear hmd
    go_wp2_with fail
    refine HMK.out.mono ?_
    rintro e w3 ⟨v, rfl, A, c, rfl, hout, hnew, hb3⟩
    have T3' := HT0.out.keep hb3
    have HT3 := Lib.hid T3'
    have HOUT := Lib.hid hout
    clear hb3 HMK HT0 a0 a1 a2 a3 b0 b1 b2 b3 d0 d1 d2 d3 m0 m1 m2 m3 m4 hout hnew
    by_cases hc : code = 0
    · subst hc
      have hsm := HSM.out rfl
      obtain ⟨hsm1, hsm2⟩ := hsm
      rw [codeW_zero]
      have HUL : Hid (u.pods.length ≤ 40) := by show _ ≤ _; have := HN4.out; omega
      clear hsm2
      have TW := T3'.alloc (.cells #[.slice A u.pods.length c, .int .i64 u.preempts, .int .i64 u.shifts] 28)
      have OW := HOUT.out.alloc (.cells #[.slice A u.pods.length c, .int .i64 u.preempts, .int .i64 u.shifts] 28)
      have BW : Bf (w3.alloc (.cells #[.slice A u.pods.length c, .int .i64 u.preempts, .int .i64 u.shifts] 28)) w3.heap.size [.slice A u.pods.length c, .int .i64 u.preempts, .int .i64 u.shifts] := Bf.new w3 _ _ rfl
      clear T3' HSM
      go_wp2
      generalize hW : w3.alloc (.cells #[.slice A u.pods.length c, .int .i64 u.preempts, .int .i64 u.shifts] 28) = W at *
      generalize hh : w3.heap.size = h at BW ⊢
      clear hW hh
      have HTW := Lib.hid TW
      have kW := TW.below
      have HCU : Hid (∀ V : World, ((∀ b o, b < W.heap.size → V.cell? ⟨b, o, none⟩ = W.cell? ⟨b, o, none⟩) ∧ Below W.heap.size W V) → Calls Tryd.prog 10 #[.agg #[.slice A1 n1 c1, .slice A2 n2 c2, .slice A3 n3 c3], .agg #[.slice A u.pods.length c, .int .i64 u.preempts, .int .i64 u.shifts], .int .i64 load] V fun e w' => e = .returned (.int .i64 (skewD s.nodes load (zonesOf s.nodes) u.pods)) ∧ Below V.heap.size V w') := fun V hV =>
        skew_any s.nodes u.pods load A1 A n1 c1 u.pods.length c (.slice A2 n2 c2) (.slice A3 n3 c3) (.int .i64 u.preempts) (.int .i64 u.shifts) V HN1.out (by omega) (HR1.out V (kW.trans (hV.2.mono kW.size))) rfl (by have := HUL.out; omega) (out_later OW hV.2).recs
      have HCT : Hid (∀ V : World, ((∀ b o, b < W.heap.size → V.cell? ⟨b, o, none⟩ = W.cell? ⟨b, o, none⟩) ∧ Below W.heap.size W V) → Calls Tryd.prog 10 #[.agg #[.slice A1 n1 c1, .slice A2 n2 c2, .slice A3 n3 c3], .agg #[.slice A4 n4 c4, .int .i64 t.preempts, .int .i64 t.shifts], .int .i64 load] V fun e w' => e = .returned (.int .i64 (skewD s.nodes load (zonesOf s.nodes) t.pods)) ∧ Below V.heap.size V w') := fun V hV => HSK.out V (kW.trans (hV.2.mono kW.size))
      obtain ⟨a0, a1, a2, a3⟩ := TW.one.cells3
      obtain ⟨d0, d1, d2, d3⟩ := TW.three.cells3
      obtain ⟨q0, q1, q2, q3⟩ := BW.cells3
      have hu1 := skew_bounds s.nodes load (zonesOf s.nodes) u.pods
      have ht1 := skew_bounds s.nodes load (zonesOf s.nodes) t.pods
      generalize skewD s.nodes load (zonesOf s.nodes) u.pods = y at *
      generalize skewD s.nodes load (zonesOf s.nodes) t.pods = z at *
      have hy0 : 0 ≤ y := hu1.1
      have hy1 : y ≤ 40 := by have := HUL.out; omega
      have hz0 : 0 ≤ z := ht1.1
      have hz1 : z ≤ 40 := by have := HN4.out; omega
      have s1 : IntKind.i64.wrap (y - z) = y - z := IntWalk.i64_in _ (by omega)
      clear hu1 ht1 TW OW BW HSK
      go_region_held3 (fun w' => (∀ b o, b < W.heap.size → w'.cell? ⟨b, o, none⟩ = W.cell? ⟨b, o, none⟩) ∧ Below W.heap.size W w')
        (first | (with_reducible assumption) | (show Keeps W _; with_reducible (repeat (first | exact Keeps.refl _ | assumption | refine Keeps.drew ?_ | refine Keeps.alloc ?_ _ | refine Keeps.step ?_ (by assumption)))))
        (first
          | (go_at_call 10; (with_reducible refine (HCU.out _ (by assumption)).mono ?_); rintro e w6 ⟨rfl, hb6⟩)
          | (go_at_call 10; (with_reducible refine (HCT.out _ (by assumption)).mono ?_); rintro e w7 ⟨rfl, hb7⟩))
      all_goals
        rename_i hK
        have TV := HTW.out.keep hK.2
        have kV := TV.below
        obtain ⟨m0, m1, m2, m3, m4⟩ := TV.four.cells4m
        generalize hdd : y - z = d at *
        clear hK TV a0 a1 a2 a3 d0 d1 d2 d3 q0 q1 q2 q3 HCU HCT s1 hb6 hb7
        by_cases h4 : m.kind = 4
        · have hd : (m.kind == 4) = true := by simp [h4]
          rw [if_pos h4] at hsm1
          have hd1 : decide (d ≤ 4) = true := decide_eq_true (by omega)
          have hd2 : decide (-d ≤ 4) = true := decide_eq_true (by omega)
          have s2 : IntKind.i64.wrap (-d) = -d := IntWalk.i64_in _ (by omega)
          clear h4 hsm1 hdd hy0 hy1 hz0 hz1
          go_wp2
          go_ret
          exact ⟨rfl, kV⟩
        · have hd : (m.kind == 4) = false := by simp [h4]
          rw [if_neg h4] at hsm1
          have hd1 : decide (d ≤ 2) = true := decide_eq_true (by omega)
          have hd2 : decide (-d ≤ 2) = true := decide_eq_true (by omega)
          have s2 : IntKind.i64.wrap (-d) = -d := IntWalk.i64_in _ (by omega)
          clear h4 hsm1 hdd hy0 hy1 hz0 hz1
          go_wp2
          go_ret
          exact ⟨rfl, kV⟩
    · rw [codeW_pos hc]
      have kw := T3'.below.alloc T3'.below.size (.cells #[.slice A u.pods.length c, .int .i64 u.preempts, .int .i64 u.shifts] 28)
      clear HSM T3'
      go_wp2
      go_ret
      exact ⟨rfl, kw⟩
end Go.Proofs.YtmcpjebcffgboaaDoor

namespace Go.Proofs.YtmcpjebcffgboaaDoor
set_option linter.unusedSimpArgs false
open Go.ChangeShapes Go.WideShapes Go.ChangeAt Go.RowKit

set_option maxHeartbeats 400000 in
set_option maxRecDepth 100000 in
theorem spreadMoves_lifted (os : Os) (started : os.Started) (H : Type) (enc : TypeId × Value → H) :
    ReturnsInHanded {} Tryd.checked os 4 .any (fun w args => (Rows.spreadMovesSpec.pre enc Tryd.prog Tryd.f4 [] false w args ∧ laidMetH Tryd.prog [("errors.errorType", Rows.laid_errors_errorType)] w) ∧ sizedMet enc Tryd.prog Tryd.f4 (OpenSpec.ofChange Rows.spreadMovesSpec) false w args)
      (Rows.spreadMovesSpec.post enc Tryd.prog Tryd.f4 false true false false) := by
  refine returnsInHanded_of_change_and (C := Tryd.checked) (X := fun w _ => laidMetH Tryd.prog [("errors.errorType", Rows.laid_errors_errorType)] w) (fun _ _ _ hh h => h.of_heap hh) Tryd.own started (by kernel_rfl) Tryd.func4
    (ChangeSpec.witness_at (enc := enc) (C := Tryd.checked) (os := os) (X := fun w _ => laidMetH Tryd.prog [("errors.errorType", Rows.laid_errors_errorType)] w) false (laidWorld os) #[.agg #[.slice none 0 0, .slice none 0 0, .slice none 0 0], .agg #[.slice none 0 0, .int .i64 0, .int .i64 0], .agg #[.slice none 0 0, .int .i64 0, .int .i64 0], .agg #[.int .i64 0, .int .i64 0, .int .i64 0, .int .i64 0], .int .i64 0] 8 rfl (by kernel_rfl) (by kernel_rfl) (by kernel_rfl) (by kernel_rfl) (by kernel_rfl) (laidWorld_met os _)) ?_
  intro W base args ds gs before hval0 hW _ _ hL _
  have hval : ∀ (j : Nat) t v, Tryd.f4.params[j]? = some t → args[j]? = some v → Value.okWide Tryd.prog W .any base t v := hval0
  have hW' := hW
  have hlt : ∀ x ∈ before, x.block < W.heap.size := fun x hx => hW.lt x hx
  obtain ⟨p, q, hA0, hV, rfl, _, _⟩ := hW
  have hA : DataW.TrodAll enc Tryd.prog W 0 (fun _ => true) true Tryd.f4.params.toList args.toList ds p := hA0
  rw [Tryd.params4] at hA hval
  obtain ⟨v0, v1, v2, v3, v4, d0, d1, d2, d3, d4, p0, p1, p2, p3, p4, rfl, rfl, rfl, h0, h1, h2, h3, h4⟩ := trodAll_five hA
  obtain ⟨rfl, rfl⟩ := trodVars_none hV
  have hv0 := hval 0 26 v0 rfl rfl
  have hv1 := hval 1 33 v1 rfl rfl
  have hv2 := hval 2 28 v2 rfl rfl
  have hv3 := hval 3 49 v3 rfl rfl
  have hv4 := hval 4 3 v4 rfl rfl
  clear hA0 hval0
  simp only [List.append_nil] at hW' hlt
  obtain ⟨s, A1, A2, A3, c1, c2, c3, e0, g1, g2, g3⟩ := open_snap hv0 h0
  obtain ⟨x, A5, c5, e1, i5, j5, g5⟩ := open_spec hv1 h1
  obtain ⟨t, A4, c4, e2, _, _, g4⟩ := open_state hv2 h2
  obtain ⟨m, e3, _, _, _, _⟩ := open_move hv3 h3
  obtain ⟨id, e4, i4, _, _⟩ := open_int Tryd.underlying3 hv4 h4
  subst e0 e1 e2 e3 e4
  refine (spreadMoves_in s x t m id A1 A2 A3 A4 A5 _ c1 _ c2 _ c3 _ c4 _ c5 W (handle_of_laid hL) rfl g1.2.2.2.1 rfl g5.2.2.2.1 rfl g4.2.2.1 g4.2.2.2.1).mono fun e W' ⟨he, hb⟩ => ?_
  subst he
  exact ⟨_, rfl, _, _, _, [], _, [], hW', trodAll_mk1 (shut_bool Tryd.underlying4 true), trodAll_mk5 (hb.trod Tryd.laidOut (by kernel_rfl) (of_decide_eq_true (by kernel_rfl)) h0 (fun x hx => hlt x (by simp [hx]))) (hb.trod Tryd.laidOut (by kernel_rfl) (of_decide_eq_true (by kernel_rfl)) h1 (fun x hx => hlt x (by simp [hx]))) (hb.trod Tryd.laidOut (by kernel_rfl) (of_decide_eq_true (by kernel_rfl)) h2 (fun x hx => hlt x (by simp [hx]))) (hb.trod Tryd.laidOut (by kernel_rfl) (of_decide_eq_true (by kernel_rfl)) h3 (fun x hx => hlt x (by simp [hx]))) (hb.trod Tryd.laidOut (by kernel_rfl) (of_decide_eq_true (by kernel_rfl)) h4 (fun x hx => hlt x (by simp [hx]))), rfl, hb.frame _, fun h => by cases h⟩

theorem spreadMoves_row : Rows.SpreadMovesSaid :=
  OpenClaim.holds_of_wide 4 Tryd.f4 rfl rfl rfl rfl rfl rfl rfl ⟨rfl, rfl, rfl, rfl, rfl⟩ rfl rfl rfl rfl rfl (by kernel_rfl) Tryd.func4 (by kernel_rfl)
    (of_decide_eq_true (by kernel_rfl)) (by unfold Func.isWrapper; first | (rw [if_pos (by decide +kernel)]; kernel_rfl) | (rw [if_neg (by decide +kernel)]; exact ⟨rfl, rfl⟩))
    (fun os started H enc _ => spreadMoves_lifted os started H enc)

theorem spreadMoves_holds : Rows.SpreadMovesCardSaid :=
  Claim7.holds_tied_plain_at .later [] [.handle] true (true, "df97e5668cfce99c9aa40a36a3cce52f14f9b3cd3bc841462aff98b910dcf5f9") true
    spreadMoves_row (fun _ h => by cases h) (by kernel_rfl) (fun _ h => by cases h) spreadMoves_row_tie rfl ⟨rfl, rfl⟩ (by kernel_rfl) rfl
    (fun f fn hf hfn => by
      obtain rfl : f = 4 := Option.some.inj ((show Tryd.prog.funcNamed Rows.spreadMovesRow.func = some 4 by kernel_rfl).symm.trans hf) |>.symm
      obtain rfl : fn = Tryd.f4 := (Option.some.inj (Tryd.func4.symm.trans hfn)).symm
      exact ⟨by kernel_rfl, fun j t ht => by
        rw [Tryd.params4] at ht
        rcases j with _ | j
        · obtain rfl : t = 26 := by simpa using ht.symm
          exact (show Tryd.prog.wantsStandIn 26 = false by kernel_rfl)
        rcases j with _ | j
        · obtain rfl : t = 33 := by simpa using ht.symm
          exact (show Tryd.prog.wantsStandIn 33 = false by kernel_rfl)
        rcases j with _ | j
        · obtain rfl : t = 28 := by simpa using ht.symm
          exact (show Tryd.prog.wantsStandIn 28 = false by kernel_rfl)
        rcases j with _ | j
        · obtain rfl : t = 49 := by simpa using ht.symm
          exact (show Tryd.prog.wantsStandIn 49 = false by kernel_rfl)
        rcases j with _ | j
        · obtain rfl : t = 3 := by simpa using ht.symm
          exact (show Tryd.prog.wantsStandIn 3 = false by kernel_rfl)
        · simp at ht⟩)
    (by kernel_rfl)
end Go.Proofs.YtmcpjebcffgboaaDoor
