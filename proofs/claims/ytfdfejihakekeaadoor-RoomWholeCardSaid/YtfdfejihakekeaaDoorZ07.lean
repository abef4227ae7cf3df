/- Joined texts, part 7: UJ WR EC WS WB WC UK CH WP. -/
import Derived.Test.YtfdfejihakekeaaDoorZ06
import Derived.Test.YtfdfejihakekeaaDoorZ05
import Derived.Test.YtfdfejihakekeaaDoorZ02
import Derived.Test.YtfdfejihakekeaaDoorZ04
import Derived.Test.YtfdfejihakekeaaDoorZ01
import Derived.Deep.CutRange

/- What a move comes to: the program's Make of layer 5. -/
namespace Go.Proofs.YtfdfejihakekeaaDoor
set_option linter.unusedSimpArgs false
open Go.RowKit
set_option linter.unusedVariables false

/-- What a move comes to: the state, and an error's number. -/
def noState : StateD := ⟨[], 0, 0⟩
def makeD (nodes : List NodeD) (x : List WantD) (t : StateD) (m : MoveD) : StateD × Int :=
  if wellD m = false then (noState, 1) else if hereD nodes t.pods m = false then (noState, 4) else if canD t.pods m = false then (noState, 7) else (behindD x t m, 0)
def codeV (c : Int) : Value := if c = 0 then .nilIface else .iface 48 (.int .i64 c)
theorem well_kinds {m : MoveD} (h : wellD m = true) : m.kind = 1 ∨ m.kind = 2 ∨ m.kind = 3 ∨ m.kind = 4 := by
  unfold wellD at h
  split at h
  · omega
  · split at h
    · omega
    · have : m.kind = 4 := by simpa using h
      omega
theorem here_pod {nodes : List NodeD} {l : List PodD} {m : MoveD} (h : hereD nodes l m = true) : ¬ place PodD.id m.pod l 0 < 0 := by
  intro e
  simp [hereD, e] at h
theorem here_over {nodes : List NodeD} {l : List PodD} {m : MoveD} (h : hereD nodes l m = true) (hc : canD l m = true) : m.kind = 4 → ¬ place PodD.id m.over l 0 < 0 ∧ m.over ≠ m.pod := by
  intro h4
  constructor
  · intro e
    simp [hereD, e, h4] at h
  · intro e
    simp [canD, h4, e] at hc
/-- What stands while Make is at work. -/
structure Mk (snap spec state move : List Value) (w V : World) : Prop where
  snap : Bf V w.heap.size snap
  spec : Bf V (w.heap.size + 1) spec
  state : Bf V (w.heap.size + 2) state
  move : Bf V (w.heap.size + 3) move
  res : Bf V (w.heap.size + 4) [.slice none 0 0, .int .i64 0, .int .i64 0]
  below : Below w.heap.size w V
section
variable {a b c d : List Value} {w V V' : World}
theorem Mk.keep (h : Mk a b c d w V) (hb : Below V.heap.size V V') : Mk a b c d w V' :=
  ⟨h.snap.below hb h.snap.lt, h.spec.below hb h.spec.lt, h.state.below hb h.state.lt, h.move.below hb h.move.lt, h.res.below hb h.res.lt, h.below.trans (hb.mono h.below.size)⟩
theorem Mk.new (w : World) (a b c d : List Value) (t1 t2 t3 t4 t5 : TypeId) : Mk a b c d w (((((w.alloc (.cells a.toArray t1)).alloc (.cells b.toArray t2)).alloc (.cells c.toArray t3)).alloc (.cells d.toArray t4)).alloc (.cells #[.slice none 0 0, .int .i64 0, .int .i64 0] t5)) :=
  ⟨((((Bf.new w a t1 rfl).alloc _).alloc _).alloc _).alloc _, (((Bf.new (w.alloc (.cells a.toArray t1)) b t2 (b := w.heap.size + 1) (by simp)).alloc _).alloc _).alloc _,
    ((Bf.new ((w.alloc (.cells a.toArray t1)).alloc (.cells b.toArray t2)) c t3 (b := w.heap.size + 2) (by simp)).alloc _).alloc _, (Bf.new (((w.alloc (.cells a.toArray t1)).alloc (.cells b.toArray t2)).alloc (.cells c.toArray t3)) d t4 (b := w.heap.size + 3) (by simp)).alloc _,
    Bf.new ((((w.alloc (.cells a.toArray t1)).alloc (.cells b.toArray t2)).alloc (.cells c.toArray t3)).alloc (.cells d.toArray t4)) [.slice none 0 0, .int .i64 0, .int .i64 0] t5 (b := w.heap.size + 4) (by simp),
    (below_four w _ _ _ _).alloc (by simp; omega) _⟩
theorem Mk.facts {a0 a1 a2 b0 b1 b2 c0 c1 c2 d0 d1 d2 d3 : Value} (h : Mk [a0, a1, a2] [b0, b1, b2] [c0, c1, c2] [d0, d1, d2, d3] w V) :
    (V.cell? ⟨w.heap.size, 0, none⟩ = some a0 ∧ V.cell? ⟨w.heap.size, 1, none⟩ = some a1 ∧ V.cell? ⟨w.heap.size, 2, none⟩ = some a2) ∧
    (V.cell? ⟨w.heap.size + 1, 0, none⟩ = some b0 ∧ V.cell? ⟨w.heap.size + 1, 1, none⟩ = some b1 ∧ V.cell? ⟨w.heap.size + 1, 2, none⟩ = some b2) ∧
    (V.cell? ⟨w.heap.size + 2, 0, none⟩ = some c0 ∧ V.cell? ⟨w.heap.size + 2, 1, none⟩ = some c1 ∧ V.cell? ⟨w.heap.size + 2, 2, none⟩ = some c2) ∧
    (V.cell? ⟨w.heap.size + 3, 0, none⟩ = some d0 ∧ V.cell? ⟨w.heap.size + 3, 1, none⟩ = some d1 ∧ V.cell? ⟨w.heap.size + 3, 2, none⟩ = some d2 ∧ V.cell? ⟨w.heap.size + 3, 3, none⟩ = some d3) :=
  ⟨⟨h.snap.cell 0 _ rfl, h.snap.cell 1 _ rfl, h.snap.cell 2 _ rfl⟩, ⟨h.spec.cell 0 _ rfl, h.spec.cell 1 _ rfl, h.spec.cell 2 _ rfl⟩, ⟨h.state.cell 0 _ rfl, h.state.cell 1 _ rfl, h.state.cell 2 _ rfl⟩, ⟨h.move.cell 0 _ rfl, h.move.cell 1 _ rfl, h.move.cell 2 _ rfl, h.move.cell 3 _ rfl⟩⟩
theorem Mk.facts2 (h : Mk a b c d w V) :
    (V.cell? ⟨w.heap.size + 4, 0, none⟩ = some (.slice none 0 0) ∧ V.cell? ⟨w.heap.size + 4, 1, none⟩ = some (.int .i64 0) ∧ V.cell? ⟨w.heap.size + 4, 2, none⟩ = some (.int .i64 0)) ∧
    (V.frozen? ⟨w.heap.size + 4, 0, none⟩ = false ∧ V.frozen? ⟨w.heap.size + 4, 1, none⟩ = false ∧ V.frozen? ⟨w.heap.size + 4, 2, none⟩ = false) ∧ w.heap.size + 4 < V.heap.size :=
  ⟨⟨h.res.cell 0 _ rfl, h.res.cell 1 _ rfl, h.res.cell 2 _ rfl⟩, ⟨h.res.frozen 0, h.res.frozen 1, h.res.frozen 2⟩, h.res.lt⟩
theorem Mk.no (h : Mk a b c d w V) {x y z : Value} : StateTo noState w (stateV none 0 0 0 0) (((V.setCell ⟨w.heap.size + 4, 0, none⟩ x).setCell ⟨w.heap.size + 4, 1, none⟩ y).setCell ⟨w.heap.size + 4, 2, none⟩ z) :=
  ⟨none, 0, rfl, Out.nil rfl, (by intro a e; cases e), ((h.below.setCell (by simp) _).setCell (by simp) _).setCell (by simp) _⟩
end
theorem Out.set {l : List PodD} {w : World} {A : Option Addr} {c : Nat} (h : Out 8 cellsP w l A c) {p : Addr} (hp : ∀ a, A = some a → a.block ≠ p.block) (v : Value) : Out 8 cellsP (w.setCell p v) l A c := by
  refine ⟨h.1, h.2.1, h.2.2.1, ?_⟩
  rcases h.2.2.2 with h0 | ⟨b, o, e, hb, hc⟩
  · exact .inl h0
  · refine .inr ⟨b, o, e, by simpa using hb, fun i hi j u hu => ?_⟩
    have := hp _ e
    rw [World.cell?_setCell_other _ _ _ _ (by intro e'; rw [e'] at this; exact this rfl)]
    exact hc i hi j u hu
end Go.Proofs.YtfdfejihakekeaaDoor

/- A node's rest: the program's Rest. -/
namespace Go.Proofs.YtfdfejihakekeaaDoor
set_option linter.unusedSimpArgs false
open Go.RowKit
set_option linter.unusedVariables false

section
variable {V : World}
theorem Bf.cells10 {b : Nat} {x : NodeD} (h : Bf V b (cellsN x)) : (V.cell? ⟨b, 0, none⟩ = some (.int .i64 x.id) ∧ V.cell? ⟨b, 1, none⟩ = some (.int .i64 x.zone) ∧ V.cell? ⟨b, 2, none⟩ = some (.int .u64 x.cap.a) ∧ V.cell? ⟨b, 3, none⟩ = some (.int .u64 x.cap.b) ∧ V.cell? ⟨b, 4, none⟩ = some (.int .u64 x.cap.c) ∧ V.cell? ⟨b, 5, none⟩ = some (.int .u64 x.cap.d)) ∧
    V.cell? ⟨b, 6, none⟩ = some (.int .u64 x.held.a) ∧ V.cell? ⟨b, 7, none⟩ = some (.int .u64 x.held.b) ∧ V.cell? ⟨b, 8, none⟩ = some (.int .u64 x.held.c) ∧ V.cell? ⟨b, 9, none⟩ = some (.int .u64 x.held.d) ∧ b < V.heap.size :=
  ⟨⟨h.cell 0 _ rfl, h.cell 1 _ rfl, h.cell 2 _ rfl, h.cell 3 _ rfl, h.cell 4 _ rfl, h.cell 5 _ rfl⟩, h.cell 6 _ rfl, h.cell 7 _ rfl, h.cell 8 _ rfl, h.cell 9 _ rfl, h.lt⟩
end
theorem rest_ret {p : V4 × Int} {a : Value} {b : Value} (q : V4 × Int) (h : p = q) (ha : a = aggV q.1) (hb : b = codeV q.2) : Ending.returned (.tuple #[a, b]) = .returned (.tuple #[aggV p.1, codeV p.2]) := by subst h ha hb; rfl

set_option maxHeartbeats 6400000 in
set_option maxRecDepth 100000 in
theorem roomRest_any (ns : List NodeD) (l : List PodD) (id : Int) (hno : ∀ x ∈ ns, x.Ok) (hlo : ∀ p ∈ l, p.Ok) (A1 A4 : Option Addr) (n1 c1 n4 c4 : Nat) (s2 s3 v1 v2 : Value) (w : World)
    (hn1 : n1 = ns.length) (hl1 : n1 ≤ 400) (hr1 : Recs 10 cellsN w w.heap.size A1 ns) (hn4 : n4 = l.length) (hl4 : n4 ≤ 400) (hr4 : Recs 8 cellsP w w.heap.size A4 l) :
    Calls Tryd.prog 9 #[.agg #[.slice A1 n1 c1, s2, s3], .agg #[.slice A4 n4 c4, v1, v2], .int .i64 id] w fun e w' => e = .returned (.tuple #[aggV (restD ns l id).1, codeV (restD ns l id).2]) ∧ Below w.heap.size w w' := by
  have HR1 := Lib.hid hr1
  have HR4 := Lib.hid hr4
  have HN1 := Lib.hid hn1
  have HN4 := Lib.hid hn4
  have HNO := Lib.hid hno
  have HLO := Lib.hid hlo
  have T0 := T3.new w [.slice A1 n1 c1, s2, s3] [.slice A4 n4 c4, v1, v2] (cellsV .zer) 26 28 36
  have HF := Lib.hid (fun W (h1 : Recs 10 cellsN W W.heap.size A1 ns) => node_any ns id A1 n1 c1 s2 s3 W hn1 (by omega) h1)
  clear hr1 hr4 hn1 hn4 hno hlo
  go_enter Tryd.func9, Tryd.ntmps9
  go_wp2_with fail
  refine (HF.out _ ((HR1.out.below T0.below (Nat.le_refl _)).more T0.below.size)).mono ?_
  rintro e w1 ⟨hh, hb1⟩
  have T1 := T0.keep hb1
  clear hb1 T0 HF
  obtain ⟨a0, a1, a2, a3⟩ := T1.two.cells3
  obtain ⟨⟨g0, g1, g2, g3⟩, g4⟩ := T1.three.zero4
  obtain ⟨f0, f1, f2, f3⟩ := T1.three.free4
  have hwl1 : w.heap.size + 1 < w1.heap.size := T1.two.lt
  rcases hh with ⟨hp, rfl⟩ | ⟨i, hi, hp, rfl⟩
  · have HE := Lib.hid (rest_none (l := l) (nodeAt_no (k := 0) (Int.le_refl _) hp))
    have kw2 := T1.below
    clear hp T1
    go_wp2
    refine bodyPost_ret (v := .tuple #[zeroV, .iface 48 (.int .i64 4)]) ?_ rfl ?_
    · simp [results, Tryd.results9, go_sem, *]
    · refine ⟨rest_ret _ HE.out rfl rfl, ?_⟩
      repeat (first | with_reducible exact kw2 | with_reducible refine Below.setCell ?_ ?_ _ | with_reducible refine Below.alloc ?_ ?_ _)
      all_goals first | (show w.heap.size ≤ w.heap.size + 2; omega) | (simp; omega) | omega
  · have HP := Lib.hid (nodeAt_yes (k := 0) hi (Int.le_refl _) (by rw [hp]; omega))
    have HX := Lib.hid (HNO.out _ (List.getElem_mem hi))
    generalize hx : ns[i] = x at *
    clear hp hx
    have NB := Bf.new w1 (cellsN x) 54 rfl
    rcases hu : useD l id with _ | u
    · have HC := Lib.hid (fun W (h1 : Recs 8 cellsP W W.heap.size A4 l) => roomUse_none HLO.out hu A4 n4 c4 v1 v2 W HN4.out hl4 h1)
      have HE := Lib.hid (rest_over HP.out hu)
      clear hu NB
      have T1a := T1.alloc (.cells (cellsN x).toArray 54)
      have HRR := Lib.hid ((HR4.out.below T1a.below (Nat.le_refl _)).more T1a.below.size)
      have HT := Lib.hid T1a
      clear T1a T1
      go_wp2_with fail
      refine (HC.out _ HRR.out).mono ?_
      rintro e w2 ⟨rfl, hb2⟩
      have T2 := HT.out.keep hb2
      clear hb2 HT HRR a0 a1 a2 a3 g0 g1 g2 g3 g4 f0 f1 f2 f3 hwl1
      obtain ⟨⟨g0, g1, g2, g3⟩, g4⟩ := T2.three.zero4
      obtain ⟨f0, f1, f2, f3⟩ := T2.three.free4
      have kw2 := T2.below
      clear T2
      go_wp2
      refine bodyPost_ret (v := .tuple #[zeroV, .iface 48 (.int .i64 8)]) ?_ rfl ?_
      · simp [results, Tryd.results9, go_sem, *]
      · refine ⟨rest_ret _ HE.out rfl rfl, ?_⟩
        repeat (first | with_reducible exact kw2 | with_reducible refine Below.setCell ?_ ?_ _ | with_reducible refine Below.alloc ?_ ?_ _)
        all_goals first | (show w.heap.size ≤ w.heap.size + 2; omega) | (simp; omega) | omega
    · have HC := Lib.hid (fun W (h1 : Recs 8 cellsP W W.heap.size A4 l) => roomUse_some HLO.out hu A4 n4 c4 v1 v2 W HN4.out hl4 h1)
      have HUO := Lib.hid (use_ok HLO.out hu)
      have HL : Hid (∀ W, Calls Tryd.prog 21 #[aggN x, aggV u] W fun e w' => e = .returned (.tuple #[aggV (restD ns l id).1, codeV (restD ns l id).2]) ∧ Below W.heap.size W w') := by
        intro W
        rcases hl : leftD x u with _ | r
        · rw [rest_room HP.out hu hl]; exact leftW_none HX.out HUO.out hl W
        · rw [rest_some HP.out hu hl]; exact leftW_some HX.out HUO.out hl W
      generalize hz : (restD ns l id) = z at *
      obtain ⟨r, code⟩ := z
      have HZ := Lib.hid hz
      clear hu hz
      have T1a := T1.alloc (.cells (cellsN x).toArray 54)
      have HRR := Lib.hid ((HR4.out.below T1a.below (Nat.le_refl _)).more T1a.below.size)
      have HT := Lib.hid T1a
      have HNB := Lib.hid NB
      clear T1a T1 NB
      go_wp2_with fail
      refine (HC.out _ HRR.out).mono ?_
      rintro e w2 ⟨rfl, hb2⟩
      have T2 := HT.out.keep hb2
      have N2 := HNB.out.below hb2 HNB.out.lt
      clear hb2 HT HNB HRR a0 a1 a2 a3 g0 g1 g2 g3 g4 f0 f1 f2 f3 hwl1
      obtain ⟨⟨n0, n1', n2, n3, n4', n5⟩, n6, n7, n8, n9, n10⟩ := N2.cells10
      go_wp2_with fail
      refine (HL.out _).mono ?_
      rintro e w3 ⟨rfl, hb3⟩
      have T3' := (T2.alloc _).keep hb3
      clear hb3 T2 N2 n0 n1' n2 n3 n4' n5 n6 n7 n8 n9 n10
      obtain ⟨⟨g0, g1, g2, g3⟩, g4⟩ := T3'.three.zero4
      obtain ⟨f0, f1, f2, f3⟩ := T3'.three.free4
      have kw2 := T3'.below
      clear T3'
      go_wp2
      refine bodyPost_ret (v := .tuple #[aggV r, codeV code]) ?_ rfl ?_
      · simp [results, Tryd.results9, go_sem, *]
      · refine ⟨by rw [HZ.out], ?_⟩
        repeat (first | with_reducible exact kw2 | with_reducible refine Below.setCell ?_ ?_ _ | with_reducible refine Below.alloc ?_ ?_ _)
        all_goals first | (show w.heap.size ≤ w.heap.size + 2; omega) | (simp; omega) | omega
end Go.Proofs.YtfdfejihakekeaaDoor

/- errors.As of a Code itself, into a variable of type Code. -/
namespace Go.Proofs.YtfdfejihakekeaaDoor
set_option linter.unusedSimpArgs false
open Go.RowKit Go.Extern.Stop Go.Stop Go.Extern
set_option linter.unusedVariables false

theorem Tryd.valueOfPCode (t : Addr) (w : World) : (ReflectliteValue.unpack (.iface 81 (.pointer (some t)))).run Tryd.prog w
    = .ok (.agg #[.pointer (some ⟨1, 81, none⟩), .pointer (some ⟨w.heap.size, 0, none⟩), .int .u64 150]) (w.alloc (.cells #[.pointer (some t)] 81)) := by kernel_rfl
theorem Tryd.typePCode (a : Addr) (w : World) : (ReflectliteValue.methodAny (ReflectliteValue.valueError "reflectlite.Value.Type" 0) (fun t _ _ _ => ReflectliteType.toType t) #[.agg #[.pointer (some ⟨1, 81, none⟩), .pointer (some a), .int .u64 150]]).run Tryd.prog w
    = .ok (.iface 99 (.agg #[.pointer (some ⟨1, 81, none⟩)])) w := by kernel_rfl
theorem Tryd.kindPCode (w : World) : ((ReflectliteType.abiMethod fun t => (fun a : Nat => Value.int IntKind.u8 (a : Int)) <$> Rtype.kind t) #[.pointer (some ⟨1, 81, none⟩)]).run Tryd.prog w = .ok (.int .u8 22) w := by kernel_rfl
theorem Tryd.kindCode (w : World) : ((ReflectliteType.abiMethod fun t => (fun a : Nat => Value.int IntKind.u8 (a : Int)) <$> Rtype.kind t) #[.pointer (some ⟨1, 48, none⟩)]).run Tryd.prog w = .ok (.int .u8 2) w := by kernel_rfl

theorem Tryd.partsPCode (a : Addr) (w : World) : (ReflectliteValue.parts (.agg #[.pointer (some ⟨1, 81, none⟩), .pointer (some a), .int .u64 150])).run Tryd.prog w = .ok (some (81, a, 150)) w := by kernel_rfl
/-- (Value).IsNil at the Value of a *api.Code that is not nil. -/
theorem Tryd.isNilPCode (a p : Addr) (W : World) (ha : W.cell? a = some (.pointer (some p))) :
    (ReflectliteValue.method (ReflectliteValue.valueError "reflectlite.Value.IsNil" 0) ReflectliteValue.isNil #[.agg #[.pointer (some ⟨1, 81, none⟩), .pointer (some a), .int .u64 150]]).run Tryd.prog W = .ok (.bool false) W := by
  rw [rlm]
  simp only [Sem.run_bind, Tryd.partsPCode, Result.andThen]
  simp [ReflectliteValue.isNil, loadVar, isAgg, underlying, Tryd.underlying81, ha, Result.andThen]

theorem Tryd.elemPCode (w : World) : (ReflectliteType.method ReflectliteType.elem #[.agg #[.pointer (some ⟨1, 81, none⟩)]]).run Tryd.prog w = .ok (.iface 99 (.agg #[.pointer (some ⟨1, 48, none⟩)])) w := by kernel_rfl
theorem Tryd.implementsCode (w : World) : (ReflectliteType.relation "Implements" ReflectliteType.implements_ #[.agg #[.pointer (some ⟨1, 48, none⟩)], .iface 99 (.agg #[.pointer (some ⟨1, 38, none⟩)])]).run Tryd.prog w = .ok (.bool true) w := by kernel_rfl
theorem Tryd.typeOfCodeC (v : Value) (w : World) : (ReflectliteType.typeOf #[.iface 48 v]).run Tryd.prog w = .ok (.iface 99 (.agg #[.pointer (some ⟨1, 48, none⟩)])) w := by kernel_rfl
theorem Tryd.assignableCode (w : World) : (ReflectliteType.relation "AssignableTo" ReflectliteType.assignableTo #[.agg #[.pointer (some ⟨1, 48, none⟩)], .iface 99 (.agg #[.pointer (some ⟨1, 48, none⟩)])]).run Tryd.prog w = .ok (.bool true) w := by kernel_rfl
theorem Tryd.valueOfCode (e : Int) (w : World) : (ReflectliteValue.unpack (.iface 48 (.int .i64 e))).run Tryd.prog w
    = .ok (.agg #[.pointer (some ⟨1, 48, none⟩), .pointer (some ⟨w.heap.size, 0, none⟩), .int .u64 130]) (w.alloc (.cells #[.int .i64 e] 48)) := by kernel_rfl

theorem Tryd.elemOfPCode (w : World) : (Rtype.elem? 81).run Tryd.prog w = .ok (some 48) w := by kernel_rfl
theorem Tryd.mkCode (p : Addr) (w : World) : (ReflectliteValue.mk 48 p ReflectliteValue.flagAddr).run Tryd.prog w = .ok (.agg #[.pointer (some ⟨1, 48, none⟩), .pointer (some p), .int .u64 386]) w := by kernel_rfl
/-- (Value).Elem at the Value of a *api.Code that is not nil: the Value of the api.Code variable that it points to, addressable. -/
theorem Tryd.elemVPCode (a p : Addr) (W : World) (ha : W.cell? a = some (.pointer (some p))) :
    (ReflectliteValue.method (ReflectliteValue.valueError "reflectlite.Value.Elem" 0) ReflectliteValue.elem #[.agg #[.pointer (some ⟨1, 81, none⟩), .pointer (some a), .int .u64 150]]).run Tryd.prog W
      = .ok (.agg #[.pointer (some ⟨1, 48, none⟩), .pointer (some p), .int .u64 386]) W := by
  rw [rlm]
  simp only [Sem.run_bind, Tryd.partsPCode, Result.andThen]
  simp [ReflectliteValue.elem, loadVar, isAgg, underlying, Tryd.underlying81, ha, Result.andThen, Tryd.elemOfPCode, Tryd.mkCode]
theorem Tryd.partsCodeA (a : Addr) (w : World) : (ReflectliteValue.parts (.agg #[.pointer (some ⟨1, 48, none⟩), .pointer (some a), .int .u64 386])).run Tryd.prog w = .ok (some (48, a, 386)) w := by kernel_rfl
theorem Tryd.partsCode (a : Addr) (w : World) : (ReflectliteValue.parts (.agg #[.pointer (some ⟨1, 48, none⟩), .pointer (some a), .int .u64 130])).run Tryd.prog w = .ok (some (48, a, 130)) w := by kernel_rfl
theorem Tryd.directCode (w : World) : (Rtype.directlyAssignable 48 48).run Tryd.prog w = .ok true w := by kernel_rfl
theorem Tryd.sizeCode (w : World) : (sizeOf 48).run Tryd.prog w = .ok 1 w := by kernel_rfl
/-- (Value).Set: the api.Code variable at 'ta' gets what the Value's own variable 'b' holds. -/
theorem Tryd.setCode (ta b : Addr) (e : Int) (old : Value) (W : World) (hb : W.cell? b = some (.int .i64 e)) (ht : W.cell? ta = some old) (hf : W.frozen? ta = false) :
    (ReflectliteValue.set #[.agg #[.pointer (some ⟨1, 48, none⟩), .pointer (some ta), .int .u64 386], .agg #[.pointer (some ⟨1, 48, none⟩), .pointer (some b), .int .u64 130]]).run Tryd.prog W
      = .ok (.tuple #[]) (W.setCell ta (.int .i64 e)) := by
  show (bind (ReflectliteValue.parts (.agg #[.pointer (some ⟨1, 48, none⟩), .pointer (some ta), .int .u64 386])) fun p => bind (ReflectliteValue.parts (.agg #[.pointer (some ⟨1, 48, none⟩), .pointer (some b), .int .u64 130])) _ : Sem Value).run Tryd.prog W = _
  simp only [Sem.run_bind, Tryd.partsCodeA, Tryd.partsCode, Result.andThen]
  simp [ReflectliteValue.flagAddr, loadVar, isAgg, underlying, Tryd.underlying48, hb, Result.andThen, Tryd.directCode, storeVar, Value.cells, storeCells, Addr.add]
  rw [run_store Tryd.prog W ta _ _ (by rfl)]
  simp [ht, hf]

set_option maxHeartbeats 4000000 in
theorem as_hitC (e : Int) (t : Addr) (old : Value) (w : World) (hg : w.cell? ⟨0, 0, none⟩ = some (.iface 99 (.agg #[.pointer (some ⟨1, 38, none⟩)]))) (ht0 : w.cell? t = some old) (hf0 : w.frozen? t = false) :
    Calls Tryd.prog 27 #[.iface 48 (.int .i64 e), .iface 81 (.pointer (some t))] w fun ev w' => ev = .returned (.bool true) ∧ w' = ((((w.alloc (.cells #[.pointer (some t)] 81)).alloc (.cells #[.pointer (some ⟨1, 81, none⟩), .pointer (some ⟨w.heap.size, 0, none⟩), .int .u64 150] 85)).alloc (.cells #[.pointer (some ⟨1, 81, none⟩), .pointer (some ⟨w.heap.size, 0, none⟩), .int .u64 150] 85)).alloc (.cells #[.int .i64 e] 48)).setCell t (.int .i64 e) := by
  have h6 := @run_callFunc_extern Tryd.prog 34 _ (fun args => ReflectliteValue.unpack (args.getD 0 (.tuple #[]))) Tryd.func34 (by kernel_rfl) (by kernel_rfl) (by kernel_rfl) (by kernel_rfl)
  have h7 := @run_callFunc_extern Tryd.prog 35 _ (ReflectliteValue.methodAny (ReflectliteValue.valueError "reflectlite.Value.Type" 0) (fun t _ _ _ => ReflectliteType.toType t)) Tryd.func35 (by kernel_rfl) (by kernel_rfl) (by kernel_rfl) (by kernel_rfl)
  have h8 := @run_callFunc_extern Tryd.prog 36 _ (ReflectliteValue.method (ReflectliteValue.valueError "reflectlite.Value.IsNil" 0) ReflectliteValue.isNil) Tryd.func36 (by kernel_rfl) (by kernel_rfl) (by kernel_rfl) (by kernel_rfl)
  have h27 := @run_callFunc_extern Tryd.prog 59 _ (ReflectliteType.abiMethod fun t => do pure (.int .u8 (← Rtype.kind t))) Tryd.func59 (by kernel_rfl) (by kernel_rfl) (by kernel_rfl) (by kernel_rfl)
  have h37 := @run_callFunc_extern Tryd.prog 71 _ (ReflectliteType.method ReflectliteType.elem) Tryd.func71 (by kernel_rfl) (by kernel_rfl) (by kernel_rfl) (by kernel_rfl)
  have h38 := @run_callFunc_extern Tryd.prog 72 _ (ReflectliteType.relation "Implements" ReflectliteType.implements_) Tryd.func72 (by kernel_rfl) (by kernel_rfl) (by kernel_rfl) (by kernel_rfl)
  have h10 := @run_callFunc_extern Tryd.prog 38 _ ReflectliteType.typeOf Tryd.func38 (by kernel_rfl) (by kernel_rfl) (by kernel_rfl) (by kernel_rfl)
  have h35 := @run_callFunc_extern Tryd.prog 69 _ (ReflectliteType.relation "AssignableTo" ReflectliteType.assignableTo) Tryd.func69 (by kernel_rfl) (by kernel_rfl) (by kernel_rfl) (by kernel_rfl)
  have h11 := @run_callFunc_extern Tryd.prog 42 _ (ReflectliteValue.method (ReflectliteValue.valueError "reflectlite.Value.Elem" 0) ReflectliteValue.elem) Tryd.func42 (by kernel_rfl) (by kernel_rfl) (by kernel_rfl) (by kernel_rfl)
  have h12 := @run_callFunc_extern Tryd.prog 43 _ ReflectliteValue.set Tryd.func43 (by kernel_rfl) (by kernel_rfl) (by kernel_rfl) (by kernel_rfl)
  have tO := Tryd.typeOfCodeC
  have mA := Tryd.methodAssignableTo
  have a25 := Tryd.assignableCode
  have v25 := Tryd.valueOfCode
  have f6 := Tryd.valueOfPCode
  have f7 := Tryd.typePCode
  have mK := Tryd.methodKind
  have mE := Tryd.methodElem
  have mI := Tryd.methodImplements
  have k27 := Tryd.kindPCode
  have k25 := Tryd.kindCode
  have e27 := Tryd.elemPCode
  have i25 := Tryd.implementsCode
  have n8 := Tryd.isNilPCode ⟨w.heap.size, 0, none⟩ t ((w.alloc (.cells #[.pointer (some t)] 81)).alloc (.cells #[.pointer (some ⟨1, 81, none⟩), .pointer (some ⟨w.heap.size, 0, none⟩), .int .u64 150] 85)) (by simp)
  have hlt : 0 < w.heap.size := by
    rcases Nat.eq_zero_or_pos w.heap.size with h0 | h
    · simp [World.cell?, h0] at hg
    · exact h
  have hg2 : ((w.alloc (.cells #[.pointer (some t)] 81)).alloc (.cells #[.pointer (some ⟨1, 81, none⟩), .pointer (some ⟨w.heap.size, 0, none⟩), .int .u64 150] 85)).cell? ⟨0, 0, none⟩ = some (.iface 99 (.agg #[.pointer (some ⟨1, 38, none⟩)])) := by
    rw [World.cell?_alloc_lt _ _ ⟨0, 0, none⟩ (by simp), World.cell?_alloc_lt _ _ ⟨0, 0, none⟩ hlt]; exact hg
  have htl : t.block < w.heap.size := by
    rcases Nat.lt_or_ge t.block w.heap.size with h | h
    · exact h
    · simp [World.cell?, Array.getElem?_eq_none h] at ht0
  have el := Tryd.elemVPCode ⟨w.heap.size, 0, none⟩ t (((w.alloc (.cells #[.pointer (some t)] 81)).alloc (.cells #[.pointer (some ⟨1, 81, none⟩), .pointer (some ⟨w.heap.size, 0, none⟩), .int .u64 150] 85)).alloc (.cells #[.pointer (some ⟨1, 81, none⟩), .pointer (some ⟨w.heap.size, 0, none⟩), .int .u64 150] 85)) (by rw [World.cell?_alloc_lt _ _ ⟨w.heap.size, 0, none⟩ (by simp; omega)]; simp)
  have st := Tryd.setCode t ⟨w.heap.size + 1 + 1 + 1, 0, none⟩ e old ((((w.alloc (.cells #[.pointer (some t)] 81)).alloc (.cells #[.pointer (some ⟨1, 81, none⟩), .pointer (some ⟨w.heap.size, 0, none⟩), .int .u64 150] 85)).alloc (.cells #[.pointer (some ⟨1, 81, none⟩), .pointer (some ⟨w.heap.size, 0, none⟩), .int .u64 150] 85)).alloc (.cells #[.int .i64 e] 48))
    (by rw [World.cell?_alloc_at _ _ _ _ (by simp)]; rfl)
    (by rw [World.cell?_alloc_lt _ _ t (by simp; omega), World.cell?_alloc_lt _ _ t (by simp; omega), World.cell?_alloc_lt _ _ t (by simp; omega), World.cell?_alloc_lt _ _ t htl]; exact ht0)
    (by rw [World.frozen?_alloc_old _ _ t (by simp; omega), World.frozen?_alloc_old _ _ t (by simp; omega), World.frozen?_alloc_old _ _ t (by simp; omega), World.frozen?_alloc_old _ _ t (Nat.ne_of_lt htl)]; exact hf0)
  go_enter Tryd.func27, Tryd.ntmps27
  go_wp2
  refine wp_loop_rounds 1 ?_
  rw [rounds_succ]
  go_wp2
  go_ret
  exact ⟨rfl, rfl⟩
end Go.Proofs.YtfdfejihakekeaaDoor

/- A node's error with its place: the program's spot. -/
namespace Go.Proofs.YtfdfejihakekeaaDoor
set_option linter.unusedSimpArgs false
open Go.RowKit
set_option linter.unusedVariables false

set_option maxHeartbeats 1600000 in
theorem roomSpot_any (k : Nat) (c : Int) (w : World) (hg : Laid w) :
    Calls Tryd.prog 25 #[.int .i64 (k : Int), .iface 48 (.int .i64 c)] w fun e w' => ∃ g : Nat, e = .returned (.iface 72 (.pointer (some ⟨g, 0, none⟩))) ∧ w.heap.size ≤ g ∧
      w'.heap[g]? = some (.cells #[.int .i64 (k : Int), .int .i64 c] 77 (0, 0)) ∧ Below w.heap.size w w' := by
  have hgl : 0 < w.heap.size := World.block_lt_of_cell? w _ hg
  have htA : (w.alloc (.cells #[.int .i64 0] 48)).cell? ⟨w.heap.size, 0, none⟩ = some (.int .i64 0) := by simp
  have hfA : (w.alloc (.cells #[.int .i64 0] 48)).frozen? ⟨w.heap.size, 0, none⟩ = false := by simp
  have hgA : Laid (w.alloc (.cells #[.int .i64 0] 48)) := Laid.below hg ((Below.refl _ w).alloc (Nat.le_refl _) _) (Nat.le_refl _)
  have HA := Lib.hid (as_hitC c ⟨w.heap.size, 0, none⟩ (.int .i64 0) (w.alloc (.cells #[.int .i64 0] 48)) hgA htA hfA)
  clear hg hgA htA hfA
  go_enter Tryd.func25, Tryd.ntmps25
  go_wp2_with fail
  refine HA.out.mono ?_
  rintro e w1 ⟨rfl, hw1⟩
  have hb1 : Below w.heap.size w w1 := by
    rw [hw1]
    refine Below.setCell (p := ⟨w.heap.size, 0, none⟩) ?_ (Nat.le_refl _) _
    exact ((((((Below.refl _ w).alloc (Nat.le_refl _) _).alloc (by simp) _).alloc (by simp; omega) _).alloc (by simp; omega) _).alloc (by simp; omega) _)
  have hc1 : w1.cell? ⟨w.heap.size, 0, none⟩ = some (.int .i64 c) := by
    rw [hw1]
    refine World.cell?_setCell_same (u := .int .i64 0) _ _ _ ?_
    rw [World.cell?_alloc_lt _ _ ⟨w.heap.size, 0, none⟩ (by simp; omega), World.cell?_alloc_lt _ _ ⟨w.heap.size, 0, none⟩ (by simp; omega), World.cell?_alloc_lt _ _ ⟨w.heap.size, 0, none⟩ (by simp; omega), World.cell?_alloc_lt _ _ ⟨w.heap.size, 0, none⟩ (by simp)]
    simp
  clear hw1
  have HB := Lib.hid hb1
  clear hb1
  go_wp2
  go_ret
  exact ⟨w1.heap.size, rfl, HB.out.size, heap_alloc_new w1 _, HB.out.alloc HB.out.size _⟩
end Go.Proofs.YtfdfejihakekeaaDoor

/- A box of four cells that a statement makes behind its call, or ahead of it. -/
namespace Go.Proofs.YtfdfejihakekeaaDoor
set_option linter.unusedSimpArgs false
open Go.RowKit
set_option linter.unusedVariables false

/-- A box that a statement makes behind its call, or ahead of it. -/
theorem Bf.later {W v w' : World} {z : V4} (h0 : Bf v W.heap.size (cellsV .zer)) (hb : Below v.heap.size v w') :
    Bf ((((w'.setCell ⟨W.heap.size, 0, none⟩ (.int .u64 z.a)).setCell ⟨W.heap.size, 1, none⟩ (.int .u64 z.b)).setCell ⟨W.heap.size, 2, none⟩ (.int .u64 z.c)).setCell ⟨W.heap.size, 3, none⟩ (.int .u64 z.d)) W.heap.size (cellsV z) :=
  (((((h0.below hb h0.lt).set 0 (.int .u64 z.a)).set 1 (.int .u64 z.b)).set 2 (.int .u64 z.c)).set 3 (.int .u64 z.d))
theorem Bf.drew {V : World} {b : Nat} {cs : List Value} (h : Bf V b cs) : Bf V.drew b cs := h.below (Below.refl _ V).drew h.lt
end Go.Proofs.YtfdfejihakekeaaDoor

/- The first node at fault: the program's Check of layer 6. -/
namespace Go.Proofs.YtfdfejihakekeaaDoor
set_option linter.unusedSimpArgs false
open Go.RowKit
set_option linter.unusedVariables false

/-- Two boxes of the call's own. -/
structure T2 (a b : List Value) (w V : World) : Prop where
  one : Bf V w.heap.size a
  two : Bf V (w.heap.size + 1) b
  below : Below w.heap.size w V
section
variable {a b : List Value} {w V V' : World}
theorem T2.keep (h : T2 a b w V) (hb : Below V.heap.size V V') : T2 a b w V' := ⟨h.one.below hb h.one.lt, h.two.below hb h.two.lt, h.below.trans (hb.mono h.below.size)⟩
theorem T2.alloc (h : T2 a b w V) (o : Obj) : T2 a b w (V.alloc o) := h.keep ((Below.refl _ V).alloc (Nat.le_refl _) o)
theorem T2.new (w : World) (a b : List Value) (t1 t2 : TypeId) : T2 a b w ((w.alloc (.cells a.toArray t1)).alloc (.cells b.toArray t2)) :=
  ⟨(Bf.new w a t1 rfl).alloc _, Bf.new (w.alloc (.cells a.toArray t1)) b t2 (b := w.heap.size + 1) (by simp), ((Below.refl _ w).alloc (Nat.le_refl _) _).alloc (by simp) _⟩
end
theorem codeV_zero : codeV 0 = .nilIface := rfl
theorem codeV_pos {c : Int} (h : c ≠ 0) : codeV c = .iface 48 (.int .i64 c) := by unfold codeV; rw [if_neg h]
theorem rest_code {ns : List NodeD} {l : List PodD} {id : Int} (h : (restD ns l id).2 ≠ 0) : 1 ≤ (restD ns l id).2 ∧ (restD ns l id).2 ≤ 17 := by
  rcases rest_vals ns l id with h1 | ⟨_, h1 | h1 | h1⟩
  · exact absurd h1 h
  · omega
  · omega
  · omega
def RoomRel (ns : List NodeD) (l : List PodD) (a b : List Value) (w : World) (i : Value) (wr : World) : Prop := ∃ k : Nat, k ≤ ns.length ∧ i = .int .i64 k ∧ roomD ns l (ns.drop k) k = roomOf ns l ∧ T2 a b w wr

set_option maxHeartbeats 6400000 in
set_option maxRecDepth 100000 in
theorem roomCheck_any (ns : List NodeD) (l : List PodD) (hno : ∀ x ∈ ns, x.Ok) (hlo : ∀ p ∈ l, p.Ok) (A1 A4 : Option Addr) (n1 c1 n4 c4 : Nat) (s2 s3 v1 v2 : Value) (w : World) (hg : Laid w)
    (hn1 : n1 = ns.length) (hl1 : n1 ≤ 400) (hr1 : Recs 10 cellsN w w.heap.size A1 ns) (hn4 : n4 = l.length) (hl4 : n4 ≤ 400) (hr4 : Recs 8 cellsP w w.heap.size A4 l) :
    Calls Tryd.prog 15 #[.agg #[.slice A1 n1 c1, s2, s3], .agg #[.slice A4 n4 c4, v1, v2]] w (ErrTo (roomOf ns l) w) := by
  have HR1 := Lib.hid hr1
  have HN1 := Lib.hid hn1
  have HG := Lib.hid hg
  have HC := Lib.hid (fun (W : World) (hW : Below w.heap.size w W) (id : Int) => roomRest_any ns l id hno hlo A1 A4 n1 c1 n4 c4 s2 s3 v1 v2 W hn1 hl1 ((hr1.below hW (Nat.le_refl _)).more hW.size) hn4 hl4 ((hr4.below hW (Nat.le_refl _)).more hW.size))
  have T0 := T2.new w [.slice A1 n1 c1, s2, s3] [.slice A4 n4 c4, v1, v2] 26 28
  have HT0 := Lib.hid T0
  clear hr1 hr4 hn1 hn4 hno hlo hg T0
  go_enter Tryd.func15, Tryd.ntmps15
  go_wp2
  go_loopw [12] (RoomRel ns l [.slice A1 n1 c1, s2, s3] [.slice A4 n4 c4, v1, v2] w) (fun i _ => n1 - (intOf i).toNat)
  case atStart => exact ⟨0, by omega, rfl, rfl, HT0.out⟩
  case round =>
    obtain ⟨k, hk, rfl, hp, T1⟩ := hrel
    have HP := Lib.hid hp
    have HT1 := Lib.hid T1
    clear hp
    by_cases hlt : k < n1
    · have hkl : k < ns.length := by have := HN1.out; omega
      obtain ⟨b, o, rfl, hb, he⟩ := HR1.out.at hkl
      generalize hx : ns[k] = y at *
      have HX := Lib.hid (roomD_at hkl hx HP.out)
      clear hx
      have kwr := T1.below
      have e0 : wr.cell? ⟨b, o + k * 10, none⟩ = some (.int .i64 y.id) := (kwr.cell (p := ⟨b, o + k * 10, none⟩) hb).trans (he 0 _ rfl)
      have e1 : wr.cell? ⟨b, o + k * 10 + 1, none⟩ = some (.int .i64 y.zone) := (kwr.cell (p := ⟨b, o + k * 10 + 1, none⟩) hb).trans (he 1 _ rfl)
      have e2 : wr.cell? ⟨b, o + k * 10 + 2, none⟩ = some (.int .u64 y.cap.a) := (kwr.cell (p := ⟨b, o + k * 10 + 2, none⟩) hb).trans (he 2 _ rfl)
      have e3 : wr.cell? ⟨b, o + k * 10 + 3, none⟩ = some (.int .u64 y.cap.b) := (kwr.cell (p := ⟨b, o + k * 10 + 3, none⟩) hb).trans (he 3 _ rfl)
      have e4 : wr.cell? ⟨b, o + k * 10 + 4, none⟩ = some (.int .u64 y.cap.c) := (kwr.cell (p := ⟨b, o + k * 10 + 4, none⟩) hb).trans (he 4 _ rfl)
      have e5 : wr.cell? ⟨b, o + k * 10 + 5, none⟩ = some (.int .u64 y.cap.d) := (kwr.cell (p := ⟨b, o + k * 10 + 5, none⟩) hb).trans (he 5 _ rfl)
      have e6 : wr.cell? ⟨b, o + k * 10 + 6, none⟩ = some (.int .u64 y.held.a) := (kwr.cell (p := ⟨b, o + k * 10 + 6, none⟩) hb).trans (he 6 _ rfl)
      have e7 : wr.cell? ⟨b, o + k * 10 + 7, none⟩ = some (.int .u64 y.held.b) := (kwr.cell (p := ⟨b, o + k * 10 + 7, none⟩) hb).trans (he 7 _ rfl)
      have e8 : wr.cell? ⟨b, o + k * 10 + 8, none⟩ = some (.int .u64 y.held.c) := (kwr.cell (p := ⟨b, o + k * 10 + 8, none⟩) hb).trans (he 8 _ rfl)
      have e9 : wr.cell? ⟨b, o + k * 10 + 9, none⟩ = some (.int .u64 y.held.d) := (kwr.cell (p := ⟨b, o + k * 10 + 9, none⟩) hb).trans (he 9 _ rfl)
      have hbw : b < wr.heap.size := Nat.lt_of_lt_of_le hb kwr.size
      obtain ⟨a0, a1, a2, a3⟩ := T1.one.cells3
      obtain ⟨b0, b1, b2, b3⟩ := T1.two.cells3
      have HCR := Lib.hid (HC.out (wr.alloc (.cells (cellsN y).toArray 54)) (kwr.alloc kwr.size _) y.id)
      have HRC := Lib.hid (fun h => rest_code (ns := ns) (l := l) (id := y.id) h)
      clear he T1 kwr
      generalize hz : restD ns l y.id = z at *
      obtain ⟨r, code⟩ := z
      clear hz
      by_cases hc : code = 0
      · subst hc
        have HE := Lib.hid (HX.out.2 rfl)
        have HCC : Hid (Calls Tryd.prog 9 #[.agg #[.slice (some ⟨b, o, none⟩) n1 c1, s2, s3], .agg #[.slice A4 n4 c4, v1, v2], .int .i64 y.id] (wr.alloc (.cells #[.int .i64 y.id, .int .i64 y.zone, .int .u64 y.cap.a, .int .u64 y.cap.b, .int .u64 y.cap.c, .int .u64 y.cap.d, .int .u64 y.held.a, .int .u64 y.held.b, .int .u64 y.held.c, .int .u64 y.held.d] 54)) fun e w' => e = .returned (.tuple #[aggV r, .nilIface]) ∧ Below (wr.alloc (.cells #[.int .i64 y.id, .int .i64 y.zone, .int .u64 y.cap.a, .int .u64 y.cap.b, .int .u64 y.cap.c, .int .u64 y.cap.d, .int .u64 y.held.a, .int .u64 y.held.b, .int .u64 y.held.c, .int .u64 y.held.d] 54)).heap.size (wr.alloc (.cells #[.int .i64 y.id, .int .i64 y.zone, .int .u64 y.cap.a, .int .u64 y.cap.b, .int .u64 y.cap.c, .int .u64 y.cap.d, .int .u64 y.held.a, .int .u64 y.held.b, .int .u64 y.held.c, .int .u64 y.held.d] 54)) w') := HCR.out
        clear HCR
        go_wp2_with fail
        refine HCC.out.mono ?_
        rintro e w1 ⟨rfl, hb1⟩
        have HTT := Lib.hid (((HT1.out.alloc _).keep hb1).alloc (.cells #[.int .u64 r.a, .int .u64 r.b, .int .u64 r.c, .int .u64 r.d] 36))
        clear hb1 e0 e1 e2 e3 e4 e5 e6 e7 e8 e9 a0 a1 a2 a3 b0 b1 b2 b3
        go_wp2
        go_roundw
        case rel => exact ⟨k + 1, by omega, by go_num, HE.out, HTT.out⟩
        case measure => simp [intOf]; omega
      · have HE := Lib.hid (HX.out.1 hc)
        have HCO := Lib.hid (HRC.out hc)
        have HCC : Hid (Calls Tryd.prog 9 #[.agg #[.slice (some ⟨b, o, none⟩) n1 c1, s2, s3], .agg #[.slice A4 n4 c4, v1, v2], .int .i64 y.id] (wr.alloc (.cells #[.int .i64 y.id, .int .i64 y.zone, .int .u64 y.cap.a, .int .u64 y.cap.b, .int .u64 y.cap.c, .int .u64 y.cap.d, .int .u64 y.held.a, .int .u64 y.held.b, .int .u64 y.held.c, .int .u64 y.held.d] 54)) fun e w' => e = .returned (.tuple #[aggV r, .iface 48 (.int .i64 code)]) ∧ Below (wr.alloc (.cells #[.int .i64 y.id, .int .i64 y.zone, .int .u64 y.cap.a, .int .u64 y.cap.b, .int .u64 y.cap.c, .int .u64 y.cap.d, .int .u64 y.held.a, .int .u64 y.held.b, .int .u64 y.held.c, .int .u64 y.held.d] 54)).heap.size (wr.alloc (.cells #[.int .i64 y.id, .int .i64 y.zone, .int .u64 y.cap.a, .int .u64 y.cap.b, .int .u64 y.cap.c, .int .u64 y.cap.d, .int .u64 y.held.a, .int .u64 y.held.b, .int .u64 y.held.c, .int .u64 y.held.d] 54)) w') := by
          have h := HCR.out
          rw [codeV_pos hc] at h
          exact h
        clear HCR hc
        go_wp2_with fail
        refine HCC.out.mono ?_
        rintro e w1 ⟨rfl, hb1⟩
        have TT := ((HT1.out.alloc _).keep hb1).alloc (.cells #[.int .u64 r.a, .int .u64 r.b, .int .u64 r.c, .int .u64 r.d] 36)
        have HSP := Lib.hid (roomSpot_any k code (w1.alloc (.cells #[.int .u64 r.a, .int .u64 r.b, .int .u64 r.c, .int .u64 r.d] 36)) (Laid.below HG.out TT.below (Nat.le_refl _)))
        have HTT := Lib.hid TT
        clear hb1 e0 e1 e2 e3 e4 e5 e6 e7 e8 e9 a0 a1 a2 a3 b0 b1 b2 b3 TT
        go_wp2_with fail
        refine HSP.out.mono ?_
        rintro e w2 ⟨g, rfl, hg1, hg2, hb2⟩
        have HG1 := Lib.hid hg1
        have HG2 := Lib.hid hg2
        have HB2 := Lib.hid hb2
        clear hg1 hg2 hb2
        go_wp2
        go_ret
        refine ⟨_, rfl, .inr (.inr ⟨k, g, by rw [HE.out], rfl, Nat.le_trans HTT.out.below.size HG1.out, by rw [HE.out]; exact HG2.out⟩), (HTT.out.keep HB2.out).below⟩
    · have HE := Lib.hid (roomD_end (by have := HN1.out; omega) HP.out)
      have kwr := T1.below
      clear T1
      go_wp2
      go_ret
      exact ⟨_, rfl, .inl ⟨HE.out, rfl⟩, kwr⟩
end Go.Proofs.YtfdfejihakekeaaDoor

/- The heads of layer 5's laws: few of all, and the document's examples. -/
namespace Go.Proofs.YtfdfejihakekeaaDoor
set_option linter.unusedSimpArgs false
open Go.RowKit
set_option linter.unusedVariables false

def few05 (n1 n2 n3 nx nt : Nat) : Bool := decide (n1 ≤ 40 ∧ n2 ≤ 40 ∧ n3 ≤ 40) && (decide (nx ≤ 40) && decide (nt ≤ 40))
set_option maxHeartbeats 1600000 in
theorem few05_any (A1 A2 A3 A4 A5 : Option Addr) (n1 c1 n2 c2 n3 c3 n4 c4 n5 c5 : Nat) (v1 v2 u1 u2 : Value) (w : World) :
    Calls Tryd.prog 7 #[.agg #[.slice A1 n1 c1, .slice A2 n2 c2, .slice A3 n3 c3], .agg #[.slice A4 n4 c4, v1, v2], .agg #[.slice A5 n5 c5, u1, u2]] w fun e w' => e = .returned (.bool (few05 n1 n2 n3 n4 n5)) ∧ Below w.heap.size w w' := by
  have b00 := below_three w (.cells #[.slice A1 n1 c1, .slice A2 n2 c2, .slice A3 n3 c3] 26) (.cells #[.slice A4 n4 c4, v1, v2] 33) (.cells #[.slice A5 n5 c5, u1, u2] 28)
  go_enter Tryd.func7, Tryd.ntmps7
  go_wp2_with fail
  refine (few_any _ _ _ _ _ _ _ _ _ _).mono ?_
  rintro e w1 ⟨rfl, hb1⟩
  have k1 : Below (w.heap.size + 3) _ w1 := hb1.mono (by simp)
  have kw1 := b00.trans (k1.mono (by omega))
  have a3 : w1.cell? ⟨w.heap.size + 1, 0, none⟩ = some (.slice A4 n4 c4) := (k1.cell (p := ⟨w.heap.size + 1, 0, none⟩) (by simp)).trans (by rw [World.cell?_alloc_lt _ _ _ (by simp)]; simp)
  have a4 : w1.cell? ⟨w.heap.size + 2, 0, none⟩ = some (.slice A5 n5 c5) := (k1.cell (p := ⟨w.heap.size + 2, 0, none⟩) (by simp)).trans (by rw [World.cell?_alloc_at _ _ _ _ (by simp)]; simp)
  cases hf : decide (n1 ≤ 40 ∧ n2 ≤ 40 ∧ n3 ≤ 40) with
  | false =>
    have HE := Lib.hid (show few05 n1 n2 n3 n4 n5 = false by unfold few05; rw [hf]; rfl)
    clear hf
    go_wp2
    go_ret
    exact ⟨ret_bool HE.out.symm, kw1⟩
  | true =>
    by_cases h4 : n4 ≤ 40
    · have d4 : decide ((n4 : Int) ≤ 40) = true := decide_eq_true (by omega)
      by_cases h5 : n5 ≤ 40
      · have d5 : decide ((n5 : Int) ≤ 40) = true := decide_eq_true (by omega)
        have HE := Lib.hid (show few05 n1 n2 n3 n4 n5 = true by unfold few05; rw [hf]; simp [h4, h5])
        clear hf
        go_wp2
        go_ret
        exact ⟨ret_bool HE.out.symm, kw1⟩
      · have d5 : decide ((n5 : Int) ≤ 40) = false := decide_eq_false (by omega)
        have HE := Lib.hid (show few05 n1 n2 n3 n4 n5 = false by unfold few05; rw [hf]; simp [h5])
        clear hf
        go_wp2
        go_ret
        exact ⟨ret_bool HE.out.symm, kw1⟩
    · have d4 : decide ((n4 : Int) ≤ 40) = false := decide_eq_false (by omega)
      have HE := Lib.hid (show few05 n1 n2 n3 n4 n5 = false by unfold few05; rw [hf]; simp [h4])
      clear hf
      go_wp2
      go_ret
      exact ⟨ret_bool HE.out.symm, kw1⟩
theorem recs_one {α : Type} {cells : α → List Value} {size : Nat} (w : World) (y : α) (t : TypeId) {g : Nat} (hg : g = w.heap.size) : Recs size cells (w.alloc (.cells (cells y).toArray t)) (g + 1) (some ⟨g, 0, none⟩) [y] := by
  subst hg
  refine .inr ⟨w.heap.size, 0, rfl, by omega, fun i hi j u hu => ?_⟩
  obtain rfl : i = 0 := by simpa using hi
  simp at hu ⊢
  exact hu
theorem Out.alloc {α : Type} {size : Nat} {cells : α → List Value} {w : World} {xs : List α} {A : Option Addr} {c : Nat} (h : Out size cells w xs A c) (o : Obj) : Out size cells (w.alloc o) xs A c :=
  ⟨h.1, h.2.1, h.2.2.1, (h.2.2.2.below ((Below.refl _ w).alloc (Nat.le_refl _) o) (Nat.le_refl _)).more (by simp)⟩
def upPod : PodD := ⟨1, 0, 0, ⟨0, 0, 0, 0⟩, 0⟩
def upNode : NodeD := ⟨3, 1, ⟨0, 0, 0, 0⟩, ⟨0, 0, 0, 0⟩⟩
theorem up_none : makeD [] [] noState ⟨1, 1, 0, 0⟩ = (noState, 4) := by rfl
theorem up_some : makeD [upNode] [] ⟨[upPod], 0, 0⟩ ⟨1, 1, 3, 0⟩ = (⟨[⟨1, 0, 0, ⟨0, 0, 0, 0⟩, 3⟩], 0, 0⟩, 0) := by rfl
end Go.Proofs.YtfdfejihakekeaaDoor

/- The head of layer 3's statements, and the law ClusterFewer, walked, from what cluster.Check and cluster.Fair come to. -/
namespace Go.Proofs.YtfdfejihakekeaaDoor
set_option linter.unusedSimpArgs false
open Go.RowKit
set_option linter.unusedVariables false

def SnapD.Ok (s : SnapD) : Prop := (∀ a ∈ s.nodes, a.Ok) ∧ (∀ a ∈ s.loads, a.Ok) ∧ (∀ a ∈ s.pods, a.Ok)
theorem errIs_none {B : Nat} {w : World} {u : Value} {p : Int × Int} (h : ErrIs p B w u) (hp : p.1 = 0) (h2 : p.2 = -1) : u = .nilIface := by
  rcases h with ⟨_, h⟩ | ⟨_, h, _⟩ | ⟨k, g, h, _⟩
  · exact h
  · omega
  · omega
theorem errIs_self {B : Nat} {w : World} {u : Value} {p : Int × Int} (h : ErrIs p B w u) (hp : p.1 ≠ 0) (h2 : p.2 = -1) : u = .iface 48 (.int .i64 p.1) := by
  rcases h with ⟨h, _⟩ | ⟨_, _, _, h⟩ | ⟨k, g, h, _⟩
  · rw [h] at hp; simp at hp
  · exact h
  · omega
theorem errIs_spot {B : Nat} {w : World} {u : Value} {p : Int × Int} (h : ErrIs p B w u) {k : Nat} (h2 : p.2 = k) : ∃ g, u = .iface 72 (.pointer (some ⟨g, 0, none⟩)) ∧ w.heap[g]? = some (.cells #[.int .i64 (k : Int), .int .i64 p.1] 77 (0, 0)) := by
  rcases h with ⟨h, _⟩ | ⟨h, _⟩ | ⟨k', g, h, h3, _, h4⟩
  · rw [h] at h2; exact absurd h2 (by simp)
  · omega
  · obtain rfl : k = k' := by omega
    exact ⟨g, h3, h4⟩
theorem errIs_some {B : Nat} {w : World} {u : Value} {p : Int × Int} (h : ErrIs p B w u) (hp : p.1 ≠ 0) : ∃ t v, u = .iface t v := by
  rcases h with ⟨h, _⟩ | ⟨_, _, _, h⟩ | ⟨k, g, h, h3, _⟩
  · rw [h] at hp; simp at hp
  · exact ⟨_, _, h⟩
  · exact ⟨_, _, h3⟩

theorem flat_at : ∀ (xs : List NodeD) (i : Nat) (h : i < xs.length) (j : Nat) (u : Value), (cellsN xs[i])[j]? = some u → (xs.flatMap cellsN)[i * 10 + j]? = some u
  | [], i, h, _, _, _ => by simp at h
  | x :: r, 0, _, j, u, hu => by
    have hj : j < (cellsN x).length := (List.getElem?_eq_some_iff.1 hu).1
    simp only [List.flatMap_cons, Nat.zero_mul, Nat.zero_add]
    rw [List.getElem?_append_left hj]
    exact hu
  | x :: r, i + 1, h, j, u, hu => by
    have hl : (cellsN x).length = 10 := rfl
    simp only [List.flatMap_cons]
    rw [List.getElem?_append_right (by rw [hl]; omega), hl, show (i + 1) * 10 + j - 10 = i * 10 + j by omega]
    exact flat_at r i (by simpa using h) j u hu
theorem recs_new (w : World) (t : TypeId) (xs : List NodeD) (cs : Array Value) (hc : cs = (xs.flatMap cellsN).toArray) : Recs 10 cellsN (w.alloc (.cells cs t)) (w.heap.size + 1) (some ⟨w.heap.size, 0, none⟩) xs := by
  refine .inr ⟨w.heap.size, 0, rfl, by omega, fun i hi j u hu => ?_⟩
  have h1 := flat_at xs i hi j u hu
  rw [World.cell?_alloc_at _ _ _ _ rfl, hc]
  simpa using h1
def z4 : V4 := ⟨0, 0, 0, 0⟩
def nd3 : NodeD := ⟨3, 1, z4, z4⟩
theorem z4_ok : z4.Ok := ⟨⟨by decide, by decide⟩, ⟨by decide, by decide⟩, ⟨by decide, by decide⟩, ⟨by decide, by decide⟩⟩
theorem nd3_ok : nd3.Ok := ⟨⟨by decide, by decide⟩, ⟨by decide, by decide⟩, z4_ok, z4_ok⟩
theorem check_0 : check ⟨[], [], []⟩ = (3, -1) := by decide
theorem check_1 : check ⟨[nd3], [], []⟩ = (0, -1) := by decide
theorem check_2 : check ⟨[nd3, nd3], [], []⟩ = (5, 1) := by decide

/-- ClusterFewer: what may be has with fewer pods what may be. -/
theorem ok_fewer {s : SnapD} (h : s.Ok) (n : Nat) : SnapD.Ok { s with pods := s.pods.take n } := ⟨h.1, h.2.1, fun a ha => h.2.2 a (List.mem_of_mem_take ha)⟩
end Go.Proofs.YtfdfejihakekeaaDoor

namespace Go.Proofs.YtfdfejihakekeaaDoor
set_option linter.unusedSimpArgs false
open Go.RowKit
set_option linter.unusedVariables false

def upN6 : NodeD := ⟨3, 1, ⟨5, 0, 0, 0⟩, ⟨1, 0, 0, 0⟩⟩
def upP6 : PodD := ⟨1, 0, 0, ⟨5, 0, 0, 0⟩, 3⟩
theorem up6_rest : restD [upN6] [] 3 = (⟨4, 0, 0, 0⟩, 0) := by rfl
theorem up6_full : roomOf [upN6] [upP6] = (9, 0) := by decide
theorem up6_none : roomOf [upN6] [] = (0, -1) := by decide
theorem upN6_ok : ∀ x ∈ [upN6], x.Ok := by
  intro x hx
  obtain rfl := List.mem_singleton.1 hx
  exact ⟨⟨by decide, by decide⟩, ⟨by decide, by decide⟩, ⟨⟨by decide, by decide⟩, ⟨by decide, by decide⟩, ⟨by decide, by decide⟩, ⟨by decide, by decide⟩⟩, ⟨⟨by decide, by decide⟩, ⟨by decide, by decide⟩, ⟨by decide, by decide⟩, ⟨by decide, by decide⟩⟩⟩
theorem upP6_ok : ∀ x ∈ [upP6], x.Ok := by
  intro x hx
  obtain rfl := List.mem_singleton.1 hx
  exact ⟨⟨by decide, by decide⟩, ⟨by decide, by decide⟩, ⟨by decide, by decide⟩, ⟨⟨by decide, by decide⟩, ⟨by decide, by decide⟩, ⟨by decide, by decide⟩, ⟨by decide, by decide⟩⟩, ⟨by decide, by decide⟩⟩
theorem no_ok {α : Type} {Ok : α → Prop} : ∀ p ∈ ([] : List α), Ok p := fun _ h => by simp at h

set_option maxHeartbeats 6400000 in
set_option maxRecDepth 100000 in
theorem up06_any (w : World) (hg : Laid w) : Calls Tryd.prog 6 #[] w fun e w' => e = .returned (.bool true) ∧ Below w.heap.size w w' := by
  have hb0 : Below w.heap.size w ((w.alloc (.cells #[.int .i64 3, .int .i64 1, .int .u64 5, .int .u64 0, .int .u64 0, .int .u64 0, .int .u64 1, .int .u64 0, .int .u64 0, .int .u64 0] 54)).alloc (.cells #[.slice (some ⟨w.heap.size, 0, none⟩) 1 1, .slice none 0 0, .slice none 0 0] 26)) := below_two w _ _
  have hr0 : Recs 10 cellsN ((w.alloc (.cells #[.int .i64 3, .int .i64 1, .int .u64 5, .int .u64 0, .int .u64 0, .int .u64 0, .int .u64 1, .int .u64 0, .int .u64 0, .int .u64 0] 54)).alloc (.cells #[.slice (some ⟨w.heap.size, 0, none⟩) 1 1, .slice none 0 0, .slice none 0 0] 26)) (w.heap.size + 1) (some ⟨w.heap.size, 0, none⟩) [upN6] :=
    (recs_one (cells := cellsN) (size := 10) w upN6 54 rfl).below ((Below.refl _ (w.alloc (.cells #[.int .i64 3, .int .i64 1, .int .u64 5, .int .u64 0, .int .u64 0, .int .u64 0, .int .u64 1, .int .u64 0, .int .u64 0, .int .u64 0] 54))).alloc (Nat.le_refl _) _) (by simp)
  have hB : Bf ((w.alloc (.cells #[.int .i64 3, .int .i64 1, .int .u64 5, .int .u64 0, .int .u64 0, .int .u64 0, .int .u64 1, .int .u64 0, .int .u64 0, .int .u64 0] 54)).alloc (.cells #[.slice (some ⟨w.heap.size, 0, none⟩) 1 1, .slice none 0 0, .slice none 0 0] 26)) (w.heap.size + 1) [.slice (some ⟨w.heap.size, 0, none⟩) 1 1, .slice none 0 0, .slice none 0 0] :=
    Bf.new (w.alloc (.cells #[.int .i64 3, .int .i64 1, .int .u64 5, .int .u64 0, .int .u64 0, .int .u64 0, .int .u64 1, .int .u64 0, .int .u64 0, .int .u64 0] 54)) _ _ (by simp)
  have hsz : ((w.alloc (.cells #[.int .i64 3, .int .i64 1, .int .u64 5, .int .u64 0, .int .u64 0, .int .u64 0, .int .u64 1, .int .u64 0, .int .u64 0, .int .u64 0] 54)).alloc (.cells #[.slice (some ⟨w.heap.size, 0, none⟩) 1 1, .slice none 0 0, .slice none 0 0] 26)).heap.size = w.heap.size + 2 := by simp
  go_enter Tryd.func6, Tryd.ntmps6
  go_upto_region 2 with fail
  generalize hW : (w.alloc (.cells #[.int .i64 3, .int .i64 1, .int .u64 5, .int .u64 0, .int .u64 0, .int .u64 0, .int .u64 1, .int .u64 0, .int .u64 0, .int .u64 0] 54)).alloc (.cells #[.slice (some ⟨w.heap.size, 0, none⟩) 1 1, .slice none 0 0, .slice none 0 0] 26) = W at *
  clear hW
  have HSZ := Lib.hid hsz
  have HB0 := Lib.hid hb0
  have HBB := Lib.hid hB
  have HN : Hid (∀ V, Below W.heap.size W V → Recs 10 cellsN V V.heap.size (some ⟨w.heap.size, 0, none⟩) [upN6]) := fun V hV => (hr0.below hV (by have := HSZ.out; omega)).more (by have := hV.size; have := HSZ.out; omega)
  have HG : Hid (∀ V, Below W.heap.size W V → Laid V) := fun V hV => Laid.below (Laid.below hg HB0.out (Nat.le_refl _)) hV (Nat.le_refl _)
  have H1 : Hid (∀ V, Below W.heap.size W V → Calls Tryd.prog 9 #[.agg #[.slice (some ⟨w.heap.size, 0, none⟩) 1 1, .slice none 0 0, .slice none 0 0], .agg #[.slice none 0 0, .int .i64 0, .int .i64 0], .int .i64 3] V fun e w' => e = .returned (.tuple #[.agg #[.int .u64 4, .int .u64 0, .int .u64 0, .int .u64 0], .nilIface]) ∧ Below V.heap.size V w') := fun V hV => by
    have h := roomRest_any [upN6] [] 3 upN6_ok no_ok (some ⟨w.heap.size, 0, none⟩) none 1 1 0 0 (.slice none 0 0) (.slice none 0 0) (.int .i64 0) (.int .i64 0) V rfl (by omega) (HN.out V hV) rfl (by omega) Recs.nil
    rw [up6_rest] at h
    exact h
  have H2 : Hid (∀ V, Below W.heap.size W V → Calls Tryd.prog 15 #[.agg #[.slice (some ⟨w.heap.size, 0, none⟩) 1 1, .slice none 0 0, .slice none 0 0], .agg #[.slice none 0 0, .int .i64 0, .int .i64 0]] V fun e w' => e = .returned .nilIface ∧ Below V.heap.size V w') := fun V hV => by
    have h := roomCheck_any [upN6] [] upN6_ok no_ok (some ⟨w.heap.size, 0, none⟩) none 1 1 0 0 (.slice none 0 0) (.slice none 0 0) (.int .i64 0) (.int .i64 0) V (HG.out V hV) rfl (by omega) (HN.out V hV) rfl (by omega) Recs.nil
    rw [up6_none] at h
    exact h.mono fun e w' ⟨u, he, hu, hb⟩ => ⟨by rw [he, errIs_none hu rfl rfl], hb⟩
  have H3 : Hid (∀ V (A : Option Addr), Below W.heap.size W V → Recs 8 cellsP V V.heap.size A [upP6] → Calls Tryd.prog 15 #[.agg #[.slice (some ⟨w.heap.size, 0, none⟩) 1 1, .slice none 0 0, .slice none 0 0], .agg #[.slice A 1 1, .int .i64 0, .int .i64 0]] V fun e w' => ∃ g : Nat, e = .returned (.iface 72 (.pointer (some ⟨g, 0, none⟩))) ∧ w'.heap[g]? = some (.cells #[.int .i64 ((0 : Nat) : Int), .int .i64 9] 77 (0, 0)) ∧ Below V.heap.size V w') := fun V A hV hA => by
    have h := roomCheck_any [upN6] [upP6] upN6_ok upP6_ok (some ⟨w.heap.size, 0, none⟩) A 1 1 1 1 (.slice none 0 0) (.slice none 0 0) (.int .i64 0) (.int .i64 0) V (HG.out V hV) rfl (by omega) (HN.out V hV) rfl (by omega) hA
    rw [up6_full] at h
    refine h.mono fun e w' ⟨u, he, hu, hb⟩ => ?_
    obtain ⟨g, rfl, h2⟩ := errIs_spot hu (k := 0) rfl
    exact ⟨g, he, h2, hb⟩
  obtain ⟨a0, a1, a2, a3⟩ := hB.cells3
  clear hr0 hg hb0 hB hsz
  go_wp2_with fail
  refine (H1.out _ (Below.refl _ _)).mono ?_
  rintro e w1 ⟨rfl, hb1⟩
  have k2 : Below W.heap.size W (w1.alloc (.cells #[.int .u64 4, .int .u64 0, .int .u64 0, .int .u64 0] 36)) := hb1.alloc hb1.size _
  have B2 := HBB.out.below k2 HBB.out.lt
  have V2 : Bf (w1.alloc (.cells #[.int .u64 4, .int .u64 0, .int .u64 0, .int .u64 0] 36)) w1.heap.size (cellsV ⟨4, 0, 0, 0⟩) := Bf.new w1 (cellsV ⟨4, 0, 0, 0⟩) _ rfl
  have P3 := recs_one (cells := cellsP) (size := 8) (w1.alloc (.cells #[.int .u64 4, .int .u64 0, .int .u64 0, .int .u64 0] 36)) upP6 58 rfl
  clear a0 a1 a2 a3
  obtain ⟨a0, a1, a2, a3⟩ := B2.cells3
  go_upto_region 3 with fail
  generalize hW1 : (w1.alloc (.cells #[.int .u64 4, .int .u64 0, .int .u64 0, .int .u64 0] 36)) = W1 at *
  generalize hv1 : w1.heap.size = v1 at *
  have HK2 := Lib.hid k2
  have HB2 := Lib.hid B2
  have HV2 := Lib.hid V2
  have HP3 := Lib.hid P3
  clear hW1 hv1 hb1 k2 B2 V2 P3
  go_wp2_with fail
  refine (H3.out _ _ (HK2.out.alloc HK2.out.size _) (HP3.out.more (by simp))).mono ?_
  rintro e w2 ⟨g, rfl, hgg, hb2⟩
  have k3 : Below W1.heap.size W1 w2 := ((Below.refl _ W1).alloc (Nat.le_refl _) _).trans (hb2.mono (by simp))
  have k4 := HK2.out.trans (k3.mono HK2.out.size)
  have B3 := HB2.out.below k3 HB2.out.lt
  have V3 := HV2.out.below k3 HV2.out.lt
  have HGG := Lib.hid hgg
  have HK4 := Lib.hid k4
  clear a0 a1 a2 a3 hgg hb2 k3 k4
  obtain ⟨a0, a1, a2, a3⟩ := B3.cells3
  obtain ⟨v0, v1', v2, v3, v4⟩ := V3.cells4
  have hve := fun W => vec_same 4 0 0 0 W
  clear B3 V3
  go_wp2_with fail
  refine (H2.out _ HK4.out).mono ?_
  rintro e w3 ⟨rfl, hb3⟩
  have k5 := HK4.out.trans (hb3.mono HK4.out.size)
  have hgl : g < w2.heap.size := (Array.getElem?_eq_some_iff.1 HGG.out).1
  have HI := Lib.hid (Is_yes g ((0 : Nat) : Int) 9 w3 (HG.out w3 k5) ((hb3.block g hgl).trans HGG.out))
  have HK5 := Lib.hid (HB0.out.trans (k5.mono HB0.out.size))
  clear hb3 k5 hgl a0 a1 a2 a3 v0 v1' v2 v3 v4
  go_wp2_with fail
  refine HI.out.mono ?_
  rintro e w4 ⟨rfl, hb4⟩
  have HB4 := Lib.hid hb4
  clear hb4
  go_wp2
  go_ret
  exact ⟨rfl, HK5.out.trans (HB4.out.mono HK5.out.size)⟩
end Go.Proofs.YtfdfejihakekeaaDoor
