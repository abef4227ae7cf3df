/- The law BudgetMoves: for every snapshot, every spec, every state, every move and every number the call returns true, and each argument reads afterwards as it read before; the package-level variable errors.errorType starts as the program's text lays it (the card ties it). There is no other condition. -/
import Derived.Test.YtokghlmccecpfaaDoorZ03
import Derived.Test.YtokghlmccecpfaaDoorZ04
import Derived.Test.YtokghlmccecpfaaDoorZ08
import Derived.Deep.RegionHeldLaw
import Derived.Test.YtokghlmccecpfaaDoorZ05
import Derived.Deep.RegionHeld3
import Derived.BigQuiet
import Derived.Deep.CutRange
import Derived.Test.YtokghlmccecpfaaDoorZ01
import Derived.SevenTiedAt

/- How a move is read as data. -/
namespace Go.Proofs.YtokghlmccecpfaaDoor
set_option linter.unusedSimpArgs false
open Go.ChangeShapes Go.WideShapes Go.ChangeAt Go.RowKit

theorem Tryd.cellsMv : Tryd.prog.cellsOf 46 = 4 := by kernel_rfl
section
variable {H : Type} {enc : TypeId × Value → H} {w : World} {base : Nat} {sp : Nat → Bool} {held : Bool}
set_option maxRecDepth 100000 in
/-- A move by value. -/
theorem open_move {r : Reach} {b0 : Nat} {v : Value} {d : DataW H} {ps : List MemPlace} (hval : Value.okWide Tryd.prog w r b0 46 v) (h : DataW.Trod enc Tryd.prog w base sp held 46 v d ps) :
    ∃ m : MoveD, v = aggM m ∧ I64 m.kind ∧ I64 m.pod ∧ I64 m.node ∧ I64 m.over := by
  obtain ⟨v0, v1, v2, v3, y0, y1, y2, y3, n, rfl, _, _, h0, h1, h2, h3⟩ := Go.Joins.open_agg4 Tryd.underlying46 (by kernel_rfl) Tryd.cellsMv hval h
  obtain ⟨k0, rfl, i0⟩ := int_of rfl h0
  obtain ⟨k1, rfl, i1⟩ := int_of rfl h1
  obtain ⟨k2, rfl, i2⟩ := int_of rfl h2
  obtain ⟨k3, rfl, i3⟩ := int_of rfl h3
  exact ⟨⟨k0, k1, k2, k3⟩, rfl, i0, i1, i2, i3⟩
end
end Go.Proofs.YtokghlmccecpfaaDoor

/- The reference's Place and Goal of layer 5. -/
namespace Go.Proofs.YtokghlmccecpfaaDoor
set_option linter.unusedSimpArgs false
open Go.RowKit
set_option linter.unusedVariables false

end Go.Proofs.YtokghlmccecpfaaDoor

/- The law StateTells where there are too many of something. -/
namespace Go.Proofs.YtokghlmccecpfaaDoor
set_option linter.unusedSimpArgs false
open Go.RowKit
set_option linter.unusedVariables false

/-- Four boxes of the call's own. -/
structure Fo (a b c d : List Value) (w V : World) : Prop where
  one : Bf V w.heap.size a
  two : Bf V (w.heap.size + 1) b
  three : Bf V (w.heap.size + 2) c
  four : Bf V (w.heap.size + 3) d
  below : Below w.heap.size w V
section
variable {a b c d : List Value} {w V V' : World}
theorem Fo.keep (h : Fo a b c d w V) (hb : Below V.heap.size V V') : Fo a b c d w V' :=
  ⟨h.one.below hb h.one.lt, h.two.below hb h.two.lt, h.three.below hb h.three.lt, h.four.below hb h.four.lt, h.below.trans (hb.mono h.below.size)⟩
theorem Fo.alloc (h : Fo a b c d w V) (o : Obj) : Fo a b c d w (V.alloc o) := h.keep ((Below.refl _ V).alloc (Nat.le_refl _) o)
theorem Fo.new (w : World) (a b c d : List Value) (t1 t2 t3 t4 : TypeId) : Fo a b c d w ((((w.alloc (.cells a.toArray t1)).alloc (.cells b.toArray t2)).alloc (.cells c.toArray t3)).alloc (.cells d.toArray t4)) :=
  ⟨(((Bf.new w a t1 rfl).alloc _).alloc _).alloc _, ((Bf.new (w.alloc (.cells a.toArray t1)) b t2 (b := w.heap.size + 1) (by simp)).alloc _).alloc _,
    (Bf.new ((w.alloc (.cells a.toArray t1)).alloc (.cells b.toArray t2)) c t3 (b := w.heap.size + 2) (by simp)).alloc _, Bf.new (((w.alloc (.cells a.toArray t1)).alloc (.cells b.toArray t2)).alloc (.cells c.toArray t3)) d t4 (b := w.heap.size + 3) (by simp),
    below_four w _ _ _ _⟩
theorem Fo.facts {a0 a1 a2 b0 b1 b2 c0 c1 c2 d0 d1 d2 : Value} (h : Fo [a0, a1, a2] [b0, b1, b2] [c0, c1, c2] [d0, d1, d2] w V) :
    (V.cell? ⟨w.heap.size, 0, none⟩ = some a0 ∧ V.cell? ⟨w.heap.size, 1, none⟩ = some a1 ∧ V.cell? ⟨w.heap.size, 2, none⟩ = some a2) ∧
    (V.cell? ⟨w.heap.size + 1, 0, none⟩ = some b0 ∧ V.cell? ⟨w.heap.size + 1, 1, none⟩ = some b1 ∧ V.cell? ⟨w.heap.size + 1, 2, none⟩ = some b2) ∧
    (V.cell? ⟨w.heap.size + 2, 0, none⟩ = some c0 ∧ V.cell? ⟨w.heap.size + 2, 1, none⟩ = some c1 ∧ V.cell? ⟨w.heap.size + 2, 2, none⟩ = some c2) ∧
    (V.cell? ⟨w.heap.size + 3, 0, none⟩ = some d0 ∧ V.cell? ⟨w.heap.size + 3, 1, none⟩ = some d1 ∧ V.cell? ⟨w.heap.size + 3, 2, none⟩ = some d2) ∧ w.heap.size < V.heap.size ∧ w.heap.size + 1 < V.heap.size ∧ w.heap.size + 2 < V.heap.size ∧ w.heap.size + 3 < V.heap.size :=
  ⟨⟨h.one.cell 0 _ rfl, h.one.cell 1 _ rfl, h.one.cell 2 _ rfl⟩, ⟨h.two.cell 0 _ rfl, h.two.cell 1 _ rfl, h.two.cell 2 _ rfl⟩, ⟨h.three.cell 0 _ rfl, h.three.cell 1 _ rfl, h.three.cell 2 _ rfl⟩, ⟨h.four.cell 0 _ rfl, h.four.cell 1 _ rfl, h.four.cell 2 _ rfl⟩, h.one.lt, h.two.lt, h.three.lt, h.four.lt⟩
end
end Go.Proofs.YtokghlmccecpfaaDoor

/- The law StateTells, where there are few of all. -/
namespace Go.Proofs.YtokghlmccecpfaaDoor
set_option linter.unusedSimpArgs false
open Go.RowKit
set_option linter.unusedVariables false

theorem pod_is_self (x : PodD) (w : World) : (binOp .neq 53 (aggP x) (aggP x)).run Tryd.prog w = .ok (.bool false) w := by rw [pod_neq, podEq_self]; rfl
theorem out_later {α : Type} {size : Nat} {cells : α → List Value} {w w' : World} {xs : List α} {A : Option Addr} {c : Nat} (h : Out size cells w xs A c) (hb : Below w.heap.size w w') : Out size cells w' xs A c :=
  ⟨h.1, h.2.1, h.2.2.1, (h.2.2.2.below hb (Nat.le_refl _)).more hb.size⟩
end Go.Proofs.YtokghlmccecpfaaDoor

/- The law BudgetMoves. -/
namespace Go.Proofs.YtokghlmccecpfaaDoor
set_option linter.unusedSimpArgs false
open Go.RowKit
set_option linter.unusedVariables false

theorem made_kinds9 {ns : List NodeD} {x : List WantD} {t : StateD} {m : MoveD} (h : (makeD ns x t m).2 = 0) : m.kind = 1 ∨ m.kind = 2 ∨ m.kind = 3 ∨ m.kind = 4 := by
  unfold makeD at h
  split at h
  · cases h
  · rename_i q
    exact well_kinds (by simpa using q)
theorem Bf.cells4n {V : World} {b : Nat} {x : MoveD} (h : Bf V b (cellsM x)) : V.cell? ⟨b, 0, none⟩ = some (.int .i64 x.kind) ∧ V.cell? ⟨b, 1, none⟩ = some (.int .i64 x.pod) ∧ V.cell? ⟨b, 2, none⟩ = some (.int .i64 x.node) ∧ V.cell? ⟨b, 3, none⟩ = some (.int .i64 x.over) ∧ b < V.heap.size :=
  ⟨h.cell 0 _ rfl, h.cell 1 _ rfl, h.cell 2 _ rfl, h.cell 3 _ rfl, h.lt⟩
/-- What a load's size is to be, case by case. -/
theorem want9_is {z : Int} {y : Nat} {k : Int} {a b : Bool} (h : (y : Int) = z - one9 (k == 2 && a) + one9 ((k == 1 || k == 4) && a) - one9 (k == 4 && b)) :
    (k = 1 → (y : Int) = z + (if a = true then 1 else 0)) ∧ (k = 2 → (y : Int) = z - (if a = true then 1 else 0)) ∧ (k = 3 → (y : Int) = z) ∧ (k = 4 → (y : Int) = z + (if a = true then 1 else 0) - (if b = true then 1 else 0)) := by
  refine ⟨?_, ?_, ?_, ?_⟩ <;> (intro e; subst e; simpa [one9] using h)

set_option maxHeartbeats 25600000 in
set_option maxRecDepth 100000 in
theorem budgetMoves_in (s : SnapD) (x : SpecD) (t : StateD) (m : MoveD) (load : Int) (A1 A2 A3 A4 A5 : Option Addr) (n1 c1 n2 c2 n3 c3 n4 c4 n5 c5 : Nat) (w : World) (hg : Laid w)
    (hn1 : n1 = s.nodes.length) (hr1 : Recs 10 cellsN w w.heap.size A1 s.nodes) (hn5 : n5 = x.wants.length) (hr5 : Recs 6 cellsW w w.heap.size A5 x.wants) (hn4 : n4 = t.pods.length) (h04 : A4 = none → c4 = 0) (hr4 : Recs 8 cellsP w w.heap.size A4 t.pods) :
    Calls Tryd.prog 4 #[.agg #[.slice A1 n1 c1, .slice A2 n2 c2, .slice A3 n3 c3], .agg #[.slice A5 n5 c5, .int .i64 x.preempts, .int .i64 x.shifts], .agg #[.slice A4 n4 c4, .int .i64 t.preempts, .int .i64 t.shifts], aggM m, .int .i64 load] w fun e w' => e = .returned (.bool true) ∧ Below w.heap.size w w' := by
  have T0 := Fo.new w [.slice A1 n1 c1, .slice A2 n2 c2, .slice A3 n3 c3] [.slice A5 n5 c5, .int .i64 x.preempts, .int .i64 x.shifts] [.slice A4 n4 c4, .int .i64 t.preempts, .int .i64 t.shifts] (cellsM m) 26 29 31 46
  have HG := Lib.hid (fun (V : World) (hV : Below w.heap.size w V) => Laid.below hg hV (Nat.le_refl _))
  have HR1 := Lib.hid (fun (V : World) (hV : Below w.heap.size w V) => (hr1.below hV (Nat.le_refl _)).more hV.size)
  have HR4 := Lib.hid (fun (V : World) (hV : Below w.heap.size w V) => (hr4.below hV (Nat.le_refl _)).more hV.size)
  have HR5 := Lib.hid (fun (V : World) (hV : Below w.heap.size w V) => (hr5.below hV (Nat.le_refl _)).more hV.size)
  have HUP := Lib.hid (up09_any _ (HG.out _ T0.below))
  have HN1 := Lib.hid hn1
  have HN4 := Lib.hid hn4
  have HN5 := Lib.hid hn5
  have H04 := Lib.hid h04
  clear hg hr1 hr4 hr5 hn1 hn4 hn5 h04
  go_enter Tryd.func4, Tryd.ntmps4
  go_wp2_with fail
  refine HUP.out.mono ?_
  rintro e w1 ⟨rfl, hb1⟩
  have T1 := T0.keep hb1
  clear hb1 T0 HUP
  obtain ⟨a0, a1, a2, a3⟩ := T1.one.cells3
  obtain ⟨b0, b1, b2, b3⟩ := T1.two.cells3
  obtain ⟨d0, d1, d2, d3⟩ := T1.three.cells3
  go_wp2_with fail
  refine (few05_any _ _ _ _ _ _ _ _ _ _ _ _ _ _ _ _ _ _ _ _).mono ?_
  rintro e w2 ⟨rfl, hb2⟩
  have T2' := T1.keep hb2
  have kw := T2'.below
  clear hb2 T1 a0 a1 a2 a3 b0 b1 b2 b3 d0 d1 d2 d3
  cases hfew : few05 n1 n2 n3 n5 n4 with
  | false =>
    clear hfew T2'
    go_wp2
    go_ret
    exact ⟨rfl, kw⟩
  | true =>
    obtain ⟨hl1, hl2, hl3, hl5, hl4⟩ := few09 hfew
    have HT0 := Lib.hid T2'
    have HSZ := Lib.hid (fun W (hW : Below w.heap.size w W) => budgetSize_any t.pods load A4 n4 c4 (.int .i64 t.preempts) (.int .i64 t.shifts) W HN4.out (by omega) (HR4.out W hW))
    have HPD := Lib.hid (fun W (hW : Below w.heap.size w W) (id : Int) => statePodZ_any t.pods id A4 n4 c4 (.int .i64 t.preempts) (.int .i64 t.shifts) W HN4.out (by omega) (HR4.out W hW))
    have HMK := Lib.hid (make_any s.nodes x.wants t m A1 A2 A3 A5 A4 n1 c1 n2 c2 n3 c3 n5 c5 n4 c4 (.int .i64 x.preempts) (.int .i64 x.shifts) w2 HN1.out (by omega) (HR1.out w2 kw) HN5.out (by omega) (HR5.out w2 kw) HN4.out (by omega) H04.out (HR4.out w2 kw))
    have HSM := Lib.hid (fun (h : (makeD s.nodes x.wants t m).2 = 0) => And.intro (made_kinds9 h) (And.intro (made_len9 h) (fun hn => size_made9 h load hn)))
    have HZ4 : Hid (sizeD load t.pods ≤ 40) := by show _ ≤ _; have := size_le9 load t.pods; have := HN4.out; omega
    obtain ⟨a0, a1, a2, a3⟩ := T2'.one.cells3
    obtain ⟨b0, b1, b2, b3⟩ := T2'.two.cells3
    obtain ⟨d0, d1, d2, d3⟩ := T2'.three.cells3
    obtain ⟨m0, m1, m2, m3, m4⟩ := T2'.four.cells4n
    clear hfew kw T2'
    generalize hmd : makeD s.nodes x.wants t m = md at *
    obtain ⟨u, code⟩ := md
    clear hmd
    go_wp2_with fail
    refine HMK.out.mono ?_
    rintro e w3 ⟨v, rfl, A, c, rfl, hout, hnew, hb3⟩
    have T3' := HT0.out.keep hb3
    have HOUT := Lib.hid hout
    clear hb3 HMK HT0 a0 a1 a2 a3 b0 b1 b2 b3 d0 d1 d2 d3 m0 m1 m2 m3 m4 hout hnew
    have TW := T3'.alloc (.cells #[.slice A u.pods.length c, .int .i64 u.preempts, .int .i64 u.shifts] 31)
    have kW := TW.below
    by_cases hc : code = 0
    · subst hc
      obtain ⟨hk, hlen, hsz⟩ := HSM.out rfl
      rw [codeV_zero]
      have HUL : Hid (u.pods.length ≤ 40) := by show _ ≤ _; have := HN4.out; omega
      have HSY := Lib.hid hsz
      have HKI := Lib.hid hk
      have OW := HOUT.out.alloc (.cells #[.slice A u.pods.length c, .int .i64 u.preempts, .int .i64 u.shifts] 31)
      have BW : Bf (w3.alloc (.cells #[.slice A u.pods.length c, .int .i64 u.preempts, .int .i64 u.shifts] 31)) w3.heap.size [.slice A u.pods.length c, .int .i64 u.preempts, .int .i64 u.shifts] := Bf.new w3 _ _ rfl
      clear T3' HSM hk hlen hsz HOUT
      go_upto_region 6 with fail
      generalize hW : w3.alloc (.cells #[.slice A u.pods.length c, .int .i64 u.preempts, .int .i64 u.shifts] 31) = W at *
      generalize hh : w3.heap.size = h at BW ⊢
      clear hW hh
      have HTW := Lib.hid TW
      have HOW := Lib.hid OW
      have HBW := Lib.hid BW
      have HKW := Lib.hid kW
      obtain ⟨d0, d1, d2, d3⟩ := TW.three.cells3
      obtain ⟨m0, m1, m2, m3, m4⟩ := TW.four.cells4n
      clear TW OW BW kW
      by_cases hnn : m.kind = 2 ∨ m.node ≠ 0
      · have HY := Lib.hid (want9_is (HSY.out hnn))
        clear HSY
        have hU := HUL.out
        have hZ := HZ4.out
        generalize hpz : podZ m.pod t.pods = p at *
        generalize hqz : podZ m.over t.pods = q at *
        have HP1 : Hid (∀ W, Below w.heap.size w W → Calls Tryd.prog 15 #[.agg #[.slice A4 n4 c4, .int .i64 t.preempts, .int .i64 t.shifts], .int .i64 m.pod] W fun e w' => ∃ b, e = .returned (.tuple #[aggP p, .bool b]) ∧ Below W.heap.size W w') := fun W hW => by
          rw [← hpz]
          exact HPD.out W hW m.pod
        have HP2 : Hid (∀ W, Below w.heap.size w W → Calls Tryd.prog 15 #[.agg #[.slice A4 n4 c4, .int .i64 t.preempts, .int .i64 t.shifts], .int .i64 m.over] W fun e w' => ∃ b, e = .returned (.tuple #[aggP q, .bool b]) ∧ Below W.heap.size W w') := fun W hW => by
          rw [← hqz]
          exact HPD.out W hW m.over
        clear hpz hqz HPD
        have HSU : Hid (∀ V : World, Below W.heap.size W V → Calls Tryd.prog 10 #[.agg #[.slice A u.pods.length c, .int .i64 u.preempts, .int .i64 u.shifts], .int .i64 load] V fun e w' => e = .returned (.int .i64 (sizeD load u.pods : Nat)) ∧ Below V.heap.size V w') := fun V hV =>
          budgetSize_any u.pods load A u.pods.length c (.int .i64 u.preempts) (.int .i64 u.shifts) V rfl (by have := HUL.out; omega) (out_later HOW.out hV).recs
        generalize u.pods.length = ul at *
        generalize sizeD load u.pods = y at *
        generalize sizeD load t.pods = z at *
        have hc2 : (m.kind != 2 && m.node == 0) = false := by
          rcases hnn with h | h
          · simp [h]
          · simp [h]
        have HNN := Lib.hid hnn
        clear hnn hU hZ
        have e2 : (m.kind != 2) = true ∧ (m.node == 0) = false ∨ (m.kind != 2) = false := by
          by_cases h : m.kind = 2
          · right; simp [h]
          · left; exact ⟨by simp [h], by have := HNN.out.resolve_left h; simp [this]⟩
        clear hc2
        rcases e2 with ⟨e2, e3⟩ | e2
        all_goals
          go_wp2_with fail
          refine (HP1.out _ HKW.out).mono ?_
          rintro e w4 ⟨b4, rfl, hb4⟩
          have T4 := (HTW.out.keep hb4).alloc (.cells #[.int .i64 p.id, .int .i64 p.load, .int .i64 p.prio, .int .u64 p.req.a, .int .u64 p.req.b, .int .u64 p.req.c, .int .u64 p.req.d, .int .i64 p.node] 53)
          have BU4 := (HBW.out.below hb4 HBW.out.lt).alloc (.cells #[.int .i64 p.id, .int .i64 p.load, .int .i64 p.prio, .int .u64 p.req.a, .int .u64 p.req.b, .int .u64 p.req.c, .int .u64 p.req.d, .int .i64 p.node] 53)
          have BP4 : Bf (w4.alloc (.cells #[.int .i64 p.id, .int .i64 p.load, .int .i64 p.prio, .int .u64 p.req.a, .int .u64 p.req.b, .int .u64 p.req.c, .int .u64 p.req.d, .int .i64 p.node] 53)) w4.heap.size (cellsP p) := Bf.new w4 (cellsP p) _ rfl
          have KU4 := Lib.hid (hb4.alloc hb4.size (.cells #[.int .i64 p.id, .int .i64 p.load, .int .i64 p.prio, .int .u64 p.req.a, .int .u64 p.req.b, .int .u64 p.req.c, .int .u64 p.req.d, .int .i64 p.node] 53))
          clear hb4 d0 d1 d2 d3 m0 m1 m2 m3 m4 e2
          (try clear e3)
          go_upto_region 9 with fail
          generalize hW4 : w4.alloc (.cells #[.int .i64 p.id, .int .i64 p.load, .int .i64 p.prio, .int .u64 p.req.a, .int .u64 p.req.b, .int .u64 p.req.c, .int .u64 p.req.d, .int .i64 p.node] 53) = W4 at *
          generalize hh4 : w4.heap.size = h4 at BP4 ⊢
          clear hW4 hh4
          have HT4 := Lib.hid T4
          have HU4 := Lib.hid BU4
          have HP4 := Lib.hid BP4
          obtain ⟨d0, d1, d2, d3⟩ := T4.three.cells3
          obtain ⟨m0, m1, m2, m3, m4⟩ := T4.four.cells4n
          clear T4 BU4 BP4
          go_wp2_with fail
          refine (HP2.out _ HT4.out.below).mono ?_
          rintro e w5 ⟨b5, rfl, hb5⟩
          have T5 := (HT4.out.keep hb5).alloc (.cells #[.int .i64 q.id, .int .i64 q.load, .int .i64 q.prio, .int .u64 q.req.a, .int .u64 q.req.b, .int .u64 q.req.c, .int .u64 q.req.d, .int .i64 q.node] 53)
          have BU5 := (HU4.out.below hb5 HU4.out.lt).alloc (.cells #[.int .i64 q.id, .int .i64 q.load, .int .i64 q.prio, .int .u64 q.req.a, .int .u64 q.req.b, .int .u64 q.req.c, .int .u64 q.req.d, .int .i64 q.node] 53)
          have BP5 := (HP4.out.below hb5 HP4.out.lt).alloc (.cells #[.int .i64 q.id, .int .i64 q.load, .int .i64 q.prio, .int .u64 q.req.a, .int .u64 q.req.b, .int .u64 q.req.c, .int .u64 q.req.d, .int .i64 q.node] 53)
          have BQ5 : Bf (w5.alloc (.cells #[.int .i64 q.id, .int .i64 q.load, .int .i64 q.prio, .int .u64 q.req.a, .int .u64 q.req.b, .int .u64 q.req.c, .int .u64 q.req.d, .int .i64 q.node] 53)) w5.heap.size (cellsP q) := Bf.new w5 (cellsP q) _ rfl
          have KU5 := Lib.hid (KU4.out.trans ((hb5.alloc hb5.size (.cells #[.int .i64 q.id, .int .i64 q.load, .int .i64 q.prio, .int .u64 q.req.a, .int .u64 q.req.b, .int .u64 q.req.c, .int .u64 q.req.d, .int .i64 q.node] 53)).mono KU4.out.size))
          clear hb5 d0 d1 d2 d3 m0 m1 m2 m3 m4 HT4 HU4 HP4 KU4
          go_upto_region 10 with fail
          generalize hW5 : w5.alloc (.cells #[.int .i64 q.id, .int .i64 q.load, .int .i64 q.prio, .int .u64 q.req.a, .int .u64 q.req.b, .int .u64 q.req.c, .int .u64 q.req.d, .int .i64 q.node] 53) = W5 at *
          generalize hh5 : w5.heap.size = h5 at BQ5 ⊢
          clear hW5 hh5
          have HT5 := Lib.hid T5
          have HU5 := Lib.hid BU5
          have HP5 := Lib.hid BP5
          have HQ5 := Lib.hid BQ5
          obtain ⟨d0, d1, d2, d3⟩ := T5.three.cells3
          clear T5 BU5 BP5 BQ5
          go_wp2_with fail
          refine (HSZ.out _ HT5.out.below).mono ?_
          rintro e w6 ⟨rfl, hb6⟩
          have T6 := HT5.out.keep hb6
          have BU6 := HU5.out.below hb6 HU5.out.lt
          have BP6 := HP5.out.below hb6 HP5.out.lt
          have BQ6 := HQ5.out.below hb6 HQ5.out.lt
          have HSW := Lib.hid (HSU.out w6 (KU5.out.trans (hb6.mono KU5.out.size)))
          have HK6 := Lib.hid T6.below
          clear hb6 d0 d1 d2 d3 HT5 HU5 HP5 HQ5 KU5
          obtain ⟨m0, m1, m2, m3, m4⟩ := T6.four.cells4n
          obtain ⟨u0, u1, u2, u3⟩ := BU6.cells3
          obtain ⟨⟨p0, p1, p2, p3⟩, p4, p5, p6, p7, p8⟩ := BP6.cells8
          obtain ⟨⟨q0, q1, q2, q3⟩, q4, q5, q6, q7, q8⟩ := BQ6.cells8
          clear T6 BU6 BP6 BQ6
          have s1 : IntKind.i64.wrap ((z : Int) - 1) = (z : Int) - 1 := IntWalk.i64_in _ (by have := HZ4.out; omega)
          have s2 : IntKind.i64.wrap ((z : Int) + 1) = (z : Int) + 1 := IntWalk.i64_in _ (by have := HZ4.out; omega)
          have s3 : IntKind.i64.wrap (z : Int) = (z : Int) := IntWalk.i64_in _ (by have := HZ4.out; omega)
          have s4 : wrap64 (z : Int) = (z : Int) := IntWalk.wrap64_in _ (by have := HZ4.out; omega)
          obtain ⟨y1, y2, y3, y4⟩ := HY.out
          have HE1 : Hid ((p.load == load) = true ∨ (p.load == load) = false) := by show _ ∨ _; cases (p.load == load) <;> simp
          have HE2 : Hid ((q.load == load) = true ∨ (q.load == load) = false) := by show _ ∨ _; cases (q.load == load) <;> simp
          rcases HKI.out with k | k | k | k
          · have HYY := Lib.hid (y1 k)
            have f1 : (m.kind == 1) = true := by simp [k]
            have f2 : (m.kind == 2) = false := by simp [k]
            have f4 : (m.kind == 4) = false := by simp [k]
            clear k y1 y2 y3 y4
            rcases HE1.out with g1 | g1
            all_goals
              have hyy := HYY.out
              rw [g1] at hyy
              simp at hyy
              first
                | have v : ((y : Int) == (z : Int) + 1) = true := (by simp; omega)
                | have v : ((y : Int) == (z : Int)) = true := (by simp; omega)
              clear hyy
              go_wp2_with fail
              refine HSW.out.mono ?_
              rintro e w7 ⟨rfl, hb7⟩
              have kV := HK6.out.trans (hb7.mono HK6.out.size)
              clear hb7
              go_wp2
              go_ret
              exact ⟨rfl, kV⟩
          · have HYY := Lib.hid (y2 k)
            have f1 : (m.kind == 1) = false := by simp [k]
            have f2 : (m.kind == 2) = true := by simp [k]
            have f4 : (m.kind == 4) = false := by simp [k]
            clear k y1 y2 y3 y4
            rcases HE1.out with g1 | g1
            all_goals
              have hyy := HYY.out
              rw [g1] at hyy
              simp at hyy
              first
                | have v : ((y : Int) == (z : Int) - 1) = true := (by simp; omega)
                | have v : ((y : Int) == (z : Int)) = true := (by simp; omega)
              clear hyy
              go_wp2_with fail
              refine HSW.out.mono ?_
              rintro e w7 ⟨rfl, hb7⟩
              have kV := HK6.out.trans (hb7.mono HK6.out.size)
              clear hb7
              go_wp2
              go_ret
              exact ⟨rfl, kV⟩
          · have HYY := Lib.hid (y3 k)
            have f1 : (m.kind == 1) = false := by simp [k]
            have f2 : (m.kind == 2) = false := by simp [k]
            have f4 : (m.kind == 4) = false := by simp [k]
            have v : ((y : Int) == (z : Int)) = true := by simp; have := HYY.out; omega
            clear k y1 y2 y3 y4
            go_wp2_with fail
            refine HSW.out.mono ?_
            rintro e w7 ⟨rfl, hb7⟩
            have kV := HK6.out.trans (hb7.mono HK6.out.size)
            clear hb7
            go_wp2
            go_ret
            exact ⟨rfl, kV⟩
          · have HYY := Lib.hid (y4 k)
            have f1 : (m.kind == 1) = false := by simp [k]
            have f2 : (m.kind == 2) = false := by simp [k]
            have f4 : (m.kind == 4) = true := by simp [k]
            clear k y1 y2 y3 y4
            rcases HE1.out with g1 | g1
            all_goals rcases HE2.out with g2 | g2
            all_goals
              have hyy := HYY.out
              rw [g1, g2] at hyy
              simp at hyy
              first
                | have v : ((y : Int) == (z : Int) - 1) = true := (by simp; omega)
                | have v : ((y : Int) == (z : Int) + 1) = true := (by simp; omega)
                | have v : ((y : Int) == (z : Int)) = true := (by simp; omega)
              clear hyy
              go_wp2_with fail
              refine HSW.out.mono ?_
              rintro e w7 ⟨rfl, hb7⟩
              have kV := HK6.out.trans (hb7.mono HK6.out.size)
              clear hb7
              go_wp2
              go_ret
              exact ⟨rfl, kV⟩
      · have hk2 : m.kind ≠ 2 := fun e => hnn (.inl e)
        have hn0 : m.node = 0 := Decidable.byContradiction fun e => hnn (.inr e)
        have e2 : (m.kind != 2) = true := by simp [hk2]
        have e3 : (m.node == 0) = true := by simp [hn0]
        clear hk2 hn0 hnn
        go_wp2
        go_ret
        exact ⟨rfl, HKW.out⟩
    · rw [codeV_pos hc]
      clear HSM T3' TW
      go_wp2
      go_ret
      exact ⟨rfl, kW⟩
end Go.Proofs.YtokghlmccecpfaaDoor

namespace Go.Proofs.YtokghlmccecpfaaDoor
set_option linter.unusedSimpArgs false
open Go.ChangeShapes Go.WideShapes Go.ChangeAt Go.RowKit

set_option maxHeartbeats 400000 in
set_option maxRecDepth 100000 in
theorem budgetMoves_lifted (os : Os) (started : os.Started) (H : Type) (enc : TypeId × Value → H) :
    ReturnsInHanded {} Tryd.checked os 4 .any (fun w args => (Rows.budgetMovesSpec.pre enc Tryd.prog Tryd.f4 [] false w args ∧ laidMetH Tryd.prog [("errors.errorType", Rows.laid_errors_errorType)] w) ∧ sizedMet enc Tryd.prog Tryd.f4 (OpenSpec.ofChange Rows.budgetMovesSpec) false w args)
      (Rows.budgetMovesSpec.post enc Tryd.prog Tryd.f4 false true false false) := by
  refine returnsInHanded_of_change_and (C := Tryd.checked) (X := fun w _ => laidMetH Tryd.prog [("errors.errorType", Rows.laid_errors_errorType)] w) (fun _ _ _ hh h => h.of_heap hh) Tryd.own started (by kernel_rfl) Tryd.func4
    (ChangeSpec.witness_at (enc := enc) (C := Tryd.checked) (os := os) (X := fun w _ => laidMetH Tryd.prog [("errors.errorType", Rows.laid_errors_errorType)] w) false (laidWorld os) #[.agg #[.slice none 0 0, .slice none 0 0, .slice none 0 0], .agg #[.slice none 0 0, .int .i64 0, .int .i64 0], .agg #[.slice none 0 0, .int .i64 0, .int .i64 0], .agg #[.int .i64 0, .int .i64 0, .int .i64 0, .int .i64 0], .int .i64 0] 8 rfl (by kernel_rfl) (by kernel_rfl) (by kernel_rfl) (by kernel_rfl) (by kernel_rfl) (laidWorld_met os _)) ?_
  intro W base args ds gs before hval0 hW _ _ hL _
  have hval : ∀ (j : Nat) t v, Tryd.f4.params[j]? = some t → args[j]? = some v → Value.okWide Tryd.prog W .any base t v := hval0
  have hW' := hW
  have hlt : ∀ x ∈ before, x.block < W.heap.size := fun x hx => hW.lt x hx
  obtain ⟨p, q, hA0, hV, rfl, _, _⟩ := hW
  have hA : DataW.TrodAll enc Tryd.prog W 0 (fun _ => true) true Tryd.f4.params.toList args.toList ds p := hA0
  rw [Tryd.params4] at hA hval
  obtain ⟨v0, v1, v2, v3, v4, d0, d1, d2, d3, d4, p0, p1, p2, p3, p4, rfl, rfl, rfl, h0, h1, h2, h3, h4⟩ := trodAll_five hA
  obtain ⟨rfl, rfl⟩ := trodVars_none hV
  have hv0 := hval 0 26 v0 rfl rfl
  have hv1 := hval 1 29 v1 rfl rfl
  have hv2 := hval 2 31 v2 rfl rfl
  have hv3 := hval 3 46 v3 rfl rfl
  have hv4 := hval 4 3 v4 rfl rfl
  clear hA0 hval0
  simp only [List.append_nil] at hW' hlt
  obtain ⟨s, A1, A2, A3, c1, c2, c3, e0, g1, g2, g3⟩ := open_snap hv0 h0
  obtain ⟨x, A5, c5, e1, i5, j5, g5⟩ := open_spec hv1 h1
  obtain ⟨t, A4, c4, e2, _, _, g4⟩ := open_state hv2 h2
  obtain ⟨m, e3, _, _, _, _⟩ := open_move hv3 h3
  obtain ⟨id, e4, i4, _, _⟩ := open_int Tryd.underlying3 hv4 h4
  subst e0 e1 e2 e3 e4
  refine (budgetMoves_in s x t m id A1 A2 A3 A4 A5 _ c1 _ c2 _ c3 _ c4 _ c5 W (handle_of_laid hL) rfl g1.2.2.2.1 rfl g5.2.2.2.1 rfl g4.2.2.1 g4.2.2.2.1).mono fun e W' ⟨he, hb⟩ => ?_
  subst he
  exact ⟨_, rfl, _, _, _, [], _, [], hW', trodAll_mk1 (shut_bool Tryd.underlying4 true), trodAll_mk5 (hb.trod Tryd.laidOut (by kernel_rfl) (of_decide_eq_true (by kernel_rfl)) h0 (fun x hx => hlt x (by simp [hx]))) (hb.trod Tryd.laidOut (by kernel_rfl) (of_decide_eq_true (by kernel_rfl)) h1 (fun x hx => hlt x (by simp [hx]))) (hb.trod Tryd.laidOut (by kernel_rfl) (of_decide_eq_true (by kernel_rfl)) h2 (fun x hx => hlt x (by simp [hx]))) (hb.trod Tryd.laidOut (by kernel_rfl) (of_decide_eq_true (by kernel_rfl)) h3 (fun x hx => hlt x (by simp [hx]))) (hb.trod Tryd.laidOut (by kernel_rfl) (of_decide_eq_true (by kernel_rfl)) h4 (fun x hx => hlt x (by simp [hx]))), rfl, hb.frame _, fun h => by cases h⟩

theorem budgetMoves_row : Rows.BudgetMovesSaid :=
  OpenClaim.holds_of_wide 4 Tryd.f4 rfl rfl rfl rfl rfl rfl rfl ⟨rfl, rfl, rfl, rfl, rfl⟩ rfl rfl rfl rfl rfl (by kernel_rfl) Tryd.func4 (by kernel_rfl)
    (of_decide_eq_true (by kernel_rfl)) (by unfold Func.isWrapper; first | (rw [if_pos (by decide +kernel)]; kernel_rfl) | (rw [if_neg (by decide +kernel)]; exact ⟨rfl, rfl⟩))
    (fun os started H enc _ => budgetMoves_lifted os started H enc)

theorem budgetMoves_holds : Rows.BudgetMovesCardSaid :=
  Claim7.holds_tied_plain_at .later [] [.handle] true (true, "39b7ffdbd5078cb548027263533419f0b9506d2d556b613b3203cbb733657e9d") true
    budgetMoves_row (fun _ h => by cases h) (by kernel_rfl) (fun _ h => by cases h) budgetMoves_row_tie rfl ⟨rfl, rfl⟩ (by kernel_rfl) rfl
    (fun f fn hf hfn => by
      obtain rfl : f = 4 := Option.some.inj ((show Tryd.prog.funcNamed Rows.budgetMovesRow.func = some 4 by kernel_rfl).symm.trans hf) |>.symm
      obtain rfl : fn = Tryd.f4 := (Option.some.inj (Tryd.func4.symm.trans hfn)).symm
      exact ⟨by kernel_rfl, fun j t ht => by
        rw [Tryd.params4] at ht
        rcases j with _ | j
        · obtain rfl : t = 26 := by simpa using ht.symm
          exact (show Tryd.prog.wantsStandIn 26 = false by kernel_rfl)
        rcases j with _ | j
        · obtain rfl : t = 29 := by simpa using ht.symm
          exact (show Tryd.prog.wantsStandIn 29 = false by kernel_rfl)
        rcases j with _ | j
        · obtain rfl : t = 31 := by simpa using ht.symm
          exact (show Tryd.prog.wantsStandIn 31 = false by kernel_rfl)
        rcases j with _ | j
        · obtain rfl : t = 46 := by simpa using ht.symm
          exact (show Tryd.prog.wantsStandIn 46 = false by kernel_rfl)
        rcases j with _ | j
        · obtain rfl : t = 3 := by simpa using ht.symm
          exact (show Tryd.prog.wantsStandIn 3 = false by kernel_rfl)
        · simp at ht⟩)
    (by kernel_rfl)
end Go.Proofs.YtokghlmccecpfaaDoor
