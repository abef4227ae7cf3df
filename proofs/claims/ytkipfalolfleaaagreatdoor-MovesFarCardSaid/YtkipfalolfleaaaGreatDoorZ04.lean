/- Joined texts, part 4: UG UH UI. -/
import Derived.Test.YtkipfalolfleaaaGreatDoorZ03

/- May a move be made? The program's wellFormed, allThere, canBeMade of layer 5. -/
namespace Go.Proofs.YtkipfalolfleaaaGreatDoor
set_option linter.unusedSimpArgs false
open Go.RowKit
set_option linter.unusedVariables false

/-- A pod that isn't there. -/
def noPod : PodD := ⟨0, 0, 0, ⟨0, 0, 0, 0⟩, 0⟩
def podZ (id : Int) (l : List PodD) : PodD := (podAt id l).getD noPod
theorem podZ_none {id : Int} {l : List PodD} (h : place PodD.id id l 0 < 0) : podZ id l = noPod := by
  rw [podZ, (podAt_none (l := l) (k := 0) (by omega)).2 h]; rfl
theorem podZ_some {id : Int} {l : List PodD} {i : Nat} (hi : i < l.length) (h : place PodD.id id l 0 = i) : podZ id l = l[i] := by
  rw [podZ, podAt_some (l := l) (k := 0) hi (by rw [h]; omega) (by omega)]; rfl
def wellD (m : MoveD) : Bool := if m.kind = 1 ∨ m.kind = 3 then m.over == 0 else if m.kind = 2 then m.node == 0 && m.over == 0 else m.kind == 4
def hereD (nodes : List NodeD) (l : List PodD) (m : MoveD) : Bool :=
  !decide (place PodD.id m.pod l 0 < 0) && ((!decide (place NodeD.id m.node nodes 0 < 0) || m.kind == 2) && (m.kind != 4 || !decide (place PodD.id m.over l 0 < 0)))
def canD (l : List PodD) (m : MoveD) : Bool :=
  if m.kind = 2 then (podZ m.pod l).node != 0 else if m.kind = 3 then (podZ m.pod l).node != 0 && (podZ m.pod l).node != m.node
  else if m.kind = 4 then !((podZ m.pod l).node != 0) && (m.over != m.pod && (podZ m.over l).node == m.node) else !((podZ m.pod l).node != 0)
theorem statePodZ_any (l : List PodD) (id : Int) (A : Option Addr) (n c : Nat) (v1 v2 : Value) (w : World) (hn : n = l.length) (hl : n ≤ 1000) (hr : Recs 8 cellsP w w.heap.size A l) :
    Calls Tryz.prog 30 #[.agg #[.slice A n c, v1, v2], .int .i64 id] w fun e w' => ∃ b, e = .returned (.tuple #[aggP (podZ id l), .bool b]) ∧ Below w.heap.size w w' := by
  refine (statePod_any l id A n c v1 v2 w hn hl hr).mono ?_
  rintro e w' ⟨⟨hp, rfl⟩ | ⟨i, hi, hp, rfl⟩, hb⟩
  · exact ⟨false, by rw [podZ_none hp]; rfl, hb⟩
  · exact ⟨true, by rw [podZ_some hi hp], hb⟩
set_option maxHeartbeats 1600000 in
theorem stateWell_any (m : MoveD) (w : World) : Calls Tryz.prog 19 #[aggM m] w fun e w' => e = .returned (.bool (wellD m)) ∧ Below w.heap.size w w' := by
  have b00 : Below w.heap.size w (w.alloc (.cells #[.int .i64 m.kind, .int .i64 m.pod, .int .i64 m.node, .int .i64 m.over] 33)) := (Below.refl _ _).alloc (Nat.le_refl _) _
  obtain ⟨k, p, n, o⟩ := m
  by_cases h1 : k = 1
  · subst h1
    go_enter Tryz.func19, Tryz.ntmps19
    go_wp2
    go_ret
    exact ⟨ret_bool (by simp [wellD]), b00⟩
  have d1 : (k == 1) = false := by simp [h1]
  by_cases h3 : k = 3
  · subst h3
    go_enter Tryz.func19, Tryz.ntmps19
    go_wp2
    go_ret
    exact ⟨ret_bool (by simp [wellD]), b00⟩
  have d3 : (k == 3) = false := by simp [h3]
  by_cases h2 : k = 2
  · subst h2
    by_cases hn : n = 0
    · subst hn
      go_enter Tryz.func19, Tryz.ntmps19
      go_wp2
      go_ret
      exact ⟨ret_bool (by simp [wellD]), b00⟩
    · have dn : (n == 0) = false := by simp [hn]
      have HE := Lib.hid (show wellD ⟨2, p, n, o⟩ = false by simp [wellD, hn])
      clear hn
      go_enter Tryz.func19, Tryz.ntmps19
      go_wp2
      go_ret
      exact ⟨ret_bool HE.out.symm, b00⟩
  have d2 : (k == 2) = false := by simp [h2]
  have HE := Lib.hid (show wellD ⟨k, p, n, o⟩ = (k == 4) by simp [wellD, h1, h2, h3])
  clear h1 h2 h3
  go_enter Tryz.func19, Tryz.ntmps19
  go_wp2
  go_ret
  exact ⟨ret_bool HE.out.symm, b00⟩
/-- Three boxes of the call's own, of three, three and four cells. -/
theorem box3_cells {w wr : World} {x y z x' y' z' a b c d : Value} {t t' t'' : TypeId} (hb : Below (w.heap.size + 3) (((w.alloc (.cells #[x, y, z] t)).alloc (.cells #[x', y', z'] t')).alloc (.cells #[a, b, c, d] t'')) wr) :
    (wr.cell? ⟨w.heap.size, 0, none⟩ = some x ∧ wr.cell? ⟨w.heap.size, 1, none⟩ = some y ∧ wr.cell? ⟨w.heap.size, 2, none⟩ = some z) ∧
    (wr.cell? ⟨w.heap.size + 1, 0, none⟩ = some x' ∧ wr.cell? ⟨w.heap.size + 1, 1, none⟩ = some y' ∧ wr.cell? ⟨w.heap.size + 1, 2, none⟩ = some z') ∧
    (wr.cell? ⟨w.heap.size + 2, 0, none⟩ = some a ∧ wr.cell? ⟨w.heap.size + 2, 1, none⟩ = some b ∧ wr.cell? ⟨w.heap.size + 2, 2, none⟩ = some c ∧ wr.cell? ⟨w.heap.size + 2, 3, none⟩ = some d) := by
  have h2 : Below (w.heap.size + 2) ((w.alloc (.cells #[x, y, z] t)).alloc (.cells #[x', y', z'] t')) wr := ((Below.refl _ _).alloc (by simp) _).trans (hb.mono (by omega))
  obtain ⟨p, q⟩ := box2_cells h2
  refine ⟨p, q, ?_, ?_, ?_, ?_⟩
  all_goals
    rw [hb.cell (by simp), World.cell?_alloc_at _ _ _ _ (by simp)]
    simp
set_option maxHeartbeats 3200000 in
set_option maxRecDepth 100000 in
theorem allThere_any (nodes : List NodeD) (l : List PodD) (m : MoveD) (A1 A2 A3 A : Option Addr) (n1 c1 n2 c2 n3 c3 n c : Nat) (p s : Value) (w : World) (hn1 : n1 = nodes.length) (hl1 : n1 ≤ 1000) (hn : n = l.length) (hl : n ≤ 1000) (hr1 : Recs 10 cellsN w w.heap.size A1 nodes) (hr : Recs 8 cellsP w w.heap.size A l) :
    Calls Tryz.prog 20 #[.agg #[.slice A1 n1 c1, .slice A2 n2 c2, .slice A3 n3 c3], .agg #[.slice A n c, p, s], aggM m] w fun e w' => e = .returned (.bool (hereD nodes l m)) ∧ Below w.heap.size w w' := by
  have b00 := below_three w (.cells #[.slice A1 n1 c1, .slice A2 n2 c2, .slice A3 n3 c3] 26) (.cells #[.slice A n c, p, s] 31) (.cells #[.int .i64 m.kind, .int .i64 m.pod, .int .i64 m.node, .int .i64 m.over] 33)
  have HR1 := Lib.hid hr1
  have HR := Lib.hid hr
  have HN1 := Lib.hid hn1
  have HN := Lib.hid hn
  clear hr1 hr hn1 hn
  have HP := Lib.hid (fun (id : Int) (v : World) (hv : Below w.heap.size w v) => place_any l id A n c p s v HN.out hl ((HR.out.below hv (Nat.le_refl _)).more hv.size))
  have HD := Lib.hid (fun (v : World) (hv : Below w.heap.size w v) => node_any nodes m.node A1 n1 c1 (.slice A2 n2 c2) (.slice A3 n3 c3) v HN1.out hl1 ((HR1.out.below hv (Nat.le_refl _)).more hv.size))
  go_enter Tryz.func20, Tryz.ntmps20
  go_wp2_with fail
  refine (HP.out m.pod _ b00).mono ?_
  rintro e w1 ⟨rfl, hb1⟩
  have k1 : Below (w.heap.size + 3) _ w1 := hb1.mono (by simp)
  have kw1 := b00.trans (k1.mono (by omega))
  by_cases h1 : place PodD.id m.pod l 0 < 0
  · have HE := Lib.hid (show hereD nodes l m = false by simp [hereD, h1])
    have hd : decide (place PodD.id m.pod l 0 < 0) = true := decide_eq_true h1
    clear h1
    go_wp2
    go_ret
    exact ⟨ret_bool HE.out.symm, kw1⟩
  have hd : decide (place PodD.id m.pod l 0 < 0) = false := decide_eq_false h1
  obtain ⟨⟨a0, a1, a2⟩, ⟨a3, a4, a5⟩, a6, a7, a8, a9⟩ := box3_cells k1
  have hz1 : w.heap.size + 3 ≤ w1.heap.size := by have := k1.size; simp at this; omega
  go_wp2_with fail
  refine (HD.out _ kw1).mono ?_
  rintro e w2 ⟨hh, hb2⟩
  have k2 := k1.trans (hb2.mono hz1)
  have kw2 := b00.trans (k2.mono (by omega))
  have hz2 : w.heap.size + 3 ≤ w2.heap.size := by have := hb2.size; omega
  have HH1 := Lib.hid h1
  clear a0 a1 a2 a3 a4 a5 a6 a7 a8 a9 h1 hd
  obtain ⟨q, b, rfl, hq⟩ : ∃ (q : NodeD) (b : Bool), e = .returned (.tuple #[aggN q, .bool b]) ∧ b = !decide (place NodeD.id m.node nodes 0 < 0) := by
    rcases hh with ⟨hp, rfl⟩ | ⟨i, hi, hp, rfl⟩
    · exact ⟨⟨0, 0, ⟨0, 0, 0, 0⟩, ⟨0, 0, 0, 0⟩⟩, false, rfl, by simp [hp]⟩
    · exact ⟨nodes[i], true, rfl, by rw [hp]; simp⟩
  have HQ := Lib.hid hq
  clear hh hq
  have k3 := k2.alloc hz2 (.cells #[.int .i64 q.id, .int .i64 q.zone, .int .u64 q.cap.a, .int .u64 q.cap.b, .int .u64 q.cap.c, .int .u64 q.cap.d, .int .u64 q.held.a, .int .u64 q.held.b, .int .u64 q.held.c, .int .u64 q.held.d] 49)
  have kw3 := b00.trans (k3.mono (by omega))
  obtain ⟨⟨a0, a1, a2⟩, ⟨a3, a4, a5⟩, a6, a7, a8, a9⟩ := box3_cells k2
  have hw0 : w.heap.size < w2.heap.size := by omega
  have hw1 : w.heap.size + 1 < w2.heap.size := by omega
  have hw2 : w.heap.size + 2 < w2.heap.size := by omega
  have hn0 : w2.heap.size ≠ w.heap.size + 1 := by omega
  have hn1 : w2.heap.size ≠ w.heap.size + 2 := by omega
  cases b with
  | false =>
    have hp : place NodeD.id m.node nodes 0 < 0 := by simpa using HQ.out
    by_cases hk : m.kind = 2
    · have HE := Lib.hid (show hereD nodes l m = true by simp [hereD, HH1.out, hk])
      have d2 : (m.kind != 2) = false := by simp [hk]
      have d4 : (m.kind != 4) = true := by simp [hk]
      clear hk hp
      go_wp2
      go_ret
      exact ⟨ret_bool HE.out.symm, kw3⟩
    · have HE := Lib.hid (show hereD nodes l m = false by simp [hereD, hp, hk])
      have d2 : (m.kind != 2) = true := by simp [hk]
      clear hk hp
      go_wp2
      go_ret
      exact ⟨ret_bool HE.out.symm, kw3⟩
  | true =>
    have hp : ¬ place NodeD.id m.node nodes 0 < 0 := by simpa using HQ.out
    by_cases hk : m.kind = 4
    · have HE := Lib.hid (show hereD nodes l m = decide (0 ≤ place PodD.id m.over l 0) by have := HH1.out; have hz : decide (0 ≤ place PodD.id m.over l 0) = !decide (place PodD.id m.over l 0 < 0) := by { rw [Bool.eq_iff_iff]; simp }; rw [hz]; simp [hereD, this, hp, hk])
      have d4 : (m.kind != 4) = false := by simp [hk]
      clear hk hp
      go_wp2_with fail
      refine (HP.out m.over _ kw3).mono ?_
      rintro e w4 ⟨rfl, hb4⟩
      generalize place PodD.id m.over l 0 = po at *
      go_wp2
      go_ret
      exact ⟨ret_bool HE.out.symm, kw3.trans (hb4.mono kw3.size)⟩
    · have HE := Lib.hid (show hereD nodes l m = true by simp [hereD, HH1.out, hp, hk])
      have d4 : (m.kind != 4) = true := by simp [hk]
      clear hk hp
      go_wp2
      go_ret
      exact ⟨ret_bool HE.out.symm, kw3⟩
set_option maxHeartbeats 3200000 in
set_option maxRecDepth 100000 in
theorem canBeMade_any (l : List PodD) (m : MoveD) (A : Option Addr) (n c : Nat) (v1 v2 : Value) (w : World) (hn : n = l.length) (hl : n ≤ 1000) (hr : Recs 8 cellsP w w.heap.size A l) :
    Calls Tryz.prog 21 #[.agg #[.slice A n c, v1, v2], aggM m] w fun e w' => e = .returned (.bool (canD l m)) ∧ Below w.heap.size w w' := by
  have b00 := below_two w (.cells #[.slice A n c, v1, v2] 31) (.cells #[.int .i64 m.kind, .int .i64 m.pod, .int .i64 m.node, .int .i64 m.over] 33)
  have HR := Lib.hid hr
  have HN := Lib.hid hn
  clear hr hn
  have HP := Lib.hid (fun (id : Int) (v : World) (hv : Below w.heap.size w v) => statePodZ_any l id A n c v1 v2 v HN.out hl ((HR.out.below hv (Nat.le_refl _)).more hv.size))
  go_enter Tryz.func21, Tryz.ntmps21
  go_wp2_with fail
  refine (HP.out m.pod _ b00).mono ?_
  rintro e w1 ⟨ib, rfl, hb1⟩
  generalize hq : podZ m.pod l = q at *
  have k1 : Below (w.heap.size + 2) _ w1 := hb1.mono (by simp)
  have kw1 := b00.trans (k1.mono (by omega))
  have hz1 : w.heap.size + 2 ≤ w1.heap.size := by have := k1.size; simp at this; omega
  have HQ := Lib.hid hq
  clear hq
  have k2 := k1.alloc hz1 (.cells #[.int .i64 q.id, .int .i64 q.load, .int .i64 q.prio, .int .u64 q.req.a, .int .u64 q.req.b, .int .u64 q.req.c, .int .u64 q.req.d, .int .i64 q.node] 55)
  have kw2 := b00.trans (k2.mono (by omega))
  have a0 : w1.cell? ⟨w.heap.size, 0, none⟩ = some (.slice A n c) := (k1.cell (p := ⟨w.heap.size, 0, none⟩) (by simp)).trans (by simp)
  have a1 : w1.cell? ⟨w.heap.size, 1, none⟩ = some v1 := (k1.cell (p := ⟨w.heap.size, 1, none⟩) (by simp)).trans (by simp)
  have a2 : w1.cell? ⟨w.heap.size, 2, none⟩ = some v2 := (k1.cell (p := ⟨w.heap.size, 2, none⟩) (by simp)).trans (by simp)
  have a3 : w1.cell? ⟨w.heap.size + 1, 0, none⟩ = some (.int .i64 m.kind) := (k1.cell (p := ⟨w.heap.size + 1, 0, none⟩) (by simp)).trans (by simp)
  have a4 : w1.cell? ⟨w.heap.size + 1, 1, none⟩ = some (.int .i64 m.pod) := (k1.cell (p := ⟨w.heap.size + 1, 1, none⟩) (by simp)).trans (by simp)
  have a5 : w1.cell? ⟨w.heap.size + 1, 2, none⟩ = some (.int .i64 m.node) := (k1.cell (p := ⟨w.heap.size + 1, 2, none⟩) (by simp)).trans (by simp)
  have a6 : w1.cell? ⟨w.heap.size + 1, 3, none⟩ = some (.int .i64 m.over) := (k1.cell (p := ⟨w.heap.size + 1, 3, none⟩) (by simp)).trans (by simp)
  have hw0 : w.heap.size < w1.heap.size := by omega
  have hw1 : w.heap.size + 1 < w1.heap.size := by omega
  have hn0 : w1.heap.size ≠ w.heap.size + 1 := by omega
  have HS := Lib.hid (fun (v : World) => somewhere_any q v)
  by_cases h2 : m.kind = 2
  · have HE := Lib.hid (show canD l m = (q.node != 0) by simp [canD, h2, HQ.out])
    have d2 : (m.kind == 2) = true := by simp [h2]
    clear h2
    go_wp2_with fail
    refine (HS.out _).mono ?_
    rintro e w3 ⟨rfl, hb3⟩
    generalize (q.node != 0) = t at *
    go_wp2
    go_ret
    exact ⟨ret_bool HE.out.symm, kw2.trans (hb3.mono kw2.size)⟩
  have d2 : (m.kind == 2) = false := by simp [h2]
  by_cases h3 : m.kind = 3
  · have HE := Lib.hid (show canD l m = (q.node != 0 && q.node != m.node) by simp [canD, h3, HQ.out])
    have d3 : (m.kind == 3) = true := by simp [h3]
    clear h2 h3
    go_wp2_with fail
    refine (HS.out _).mono ?_
    rintro e w3 ⟨rfl, hb3⟩
    have k3 := k2.trans (hb3.mono (by simp; omega))
    have kw3 := kw2.trans (hb3.mono kw2.size)
    have g5 : w3.cell? ⟨w.heap.size + 1, 2, none⟩ = some (.int .i64 m.node) := (k3.cell (p := ⟨w.heap.size + 1, 2, none⟩) (by simp)).trans (by simp)
    have g7 : w3.cell? ⟨w1.heap.size, 7, none⟩ = some (.int .i64 q.node) := (hb3.cell (p := ⟨w1.heap.size, 7, none⟩) (by simp)).trans (by simp)
    have hw3 : w.heap.size + 1 < w3.heap.size := by have := k3.size; simp at this; omega
    cases ht : (q.node != 0) with
    | false =>
      go_wp2
      go_ret
      exact ⟨ret_bool (by rw [HE.out, ht]; rfl), kw3⟩
    | true =>
      go_wp2
      go_ret
      exact ⟨ret_bool (by rw [HE.out, ht]; rfl), kw3⟩
  have d3 : (m.kind == 3) = false := by simp [h3]
  by_cases h4 : m.kind = 4
  · have HE := Lib.hid (show canD l m = (!(q.node != 0) && (m.over != m.pod && (podZ m.over l).node == m.node)) by simp [canD, h4, HQ.out])
    have d4 : (m.kind == 4) = true := by simp [h4]
    clear h2 h3 h4
    go_wp2_with fail
    refine (HP.out m.over _ kw2).mono ?_
    rintro e w3 ⟨ic, rfl, hb3⟩
    generalize podZ m.over l = r at *
    have k3 := k2.trans (hb3.mono (by simp; omega))
    have kw3 := kw2.trans (hb3.mono kw2.size)
    have hz3 : w1.heap.size + 1 ≤ w3.heap.size := by have := hb3.size; simpa using this
    have f0 : w3.cell? ⟨w1.heap.size, 0, none⟩ = some (.int .i64 q.id) := (hb3.cell (p := ⟨w1.heap.size, 0, none⟩) (by simp)).trans (by simp)
    have f1 : w3.cell? ⟨w1.heap.size, 1, none⟩ = some (.int .i64 q.load) := (hb3.cell (p := ⟨w1.heap.size, 1, none⟩) (by simp)).trans (by simp)
    have f2 : w3.cell? ⟨w1.heap.size, 2, none⟩ = some (.int .i64 q.prio) := (hb3.cell (p := ⟨w1.heap.size, 2, none⟩) (by simp)).trans (by simp)
    have f3 : w3.cell? ⟨w1.heap.size, 3, none⟩ = some (.int .u64 q.req.a) := (hb3.cell (p := ⟨w1.heap.size, 3, none⟩) (by simp)).trans (by simp)
    have f4 : w3.cell? ⟨w1.heap.size, 4, none⟩ = some (.int .u64 q.req.b) := (hb3.cell (p := ⟨w1.heap.size, 4, none⟩) (by simp)).trans (by simp)
    have f5 : w3.cell? ⟨w1.heap.size, 5, none⟩ = some (.int .u64 q.req.c) := (hb3.cell (p := ⟨w1.heap.size, 5, none⟩) (by simp)).trans (by simp)
    have f6 : w3.cell? ⟨w1.heap.size, 6, none⟩ = some (.int .u64 q.req.d) := (hb3.cell (p := ⟨w1.heap.size, 6, none⟩) (by simp)).trans (by simp)
    have f7 : w3.cell? ⟨w1.heap.size, 7, none⟩ = some (.int .i64 q.node) := (hb3.cell (p := ⟨w1.heap.size, 7, none⟩) (by simp)).trans (by simp)
    have hw13 : w1.heap.size < w3.heap.size := by omega
    have k4 := k3.alloc (by omega) (.cells #[.int .i64 r.id, .int .i64 r.load, .int .i64 r.prio, .int .u64 r.req.a, .int .u64 r.req.b, .int .u64 r.req.c, .int .u64 r.req.d, .int .i64 r.node] 55)
    have kw4 := b00.trans (k4.mono (by omega))
    clear a0 a1 a2 a3 a4 a5 a6
    go_wp2_with fail
    refine (HS.out _).mono ?_
    rintro e w5 ⟨rfl, hb5⟩
    have k5 := k4.trans (hb5.mono (by simp; omega))
    have kw5 := kw4.trans (hb5.mono kw4.size)
    have g4 : w5.cell? ⟨w.heap.size + 1, 1, none⟩ = some (.int .i64 m.pod) := (k5.cell (p := ⟨w.heap.size + 1, 1, none⟩) (by simp)).trans (by simp)
    have g5 : w5.cell? ⟨w.heap.size + 1, 2, none⟩ = some (.int .i64 m.node) := (k5.cell (p := ⟨w.heap.size + 1, 2, none⟩) (by simp)).trans (by simp)
    have g6 : w5.cell? ⟨w.heap.size + 1, 3, none⟩ = some (.int .i64 m.over) := (k5.cell (p := ⟨w.heap.size + 1, 3, none⟩) (by simp)).trans (by simp)
    have g7 : w5.cell? ⟨w3.heap.size, 7, none⟩ = some (.int .i64 r.node) := (hb5.cell (p := ⟨w3.heap.size, 7, none⟩) (by simp)).trans (by simp)
    clear f0 f1 f2 f3 f4 f5 f6 f7
    cases ht : (q.node != 0) with
    | true =>
      go_wp2
      go_ret
      exact ⟨ret_bool (by rw [HE.out, ht]; rfl), kw5⟩
    | false =>
      by_cases ho : m.over = m.pod
      · have do_ : (m.over != m.pod) = false := by simp [ho]
        have HF := Lib.hid (show canD l m = false by rw [HE.out, do_]; simp)
        clear ho
        go_wp2
        go_ret
        exact ⟨ret_bool HF.out.symm, kw5⟩
      · have do_ : (m.over != m.pod) = true := by simp [ho]
        have HF := Lib.hid (show canD l m = (r.node == m.node) by rw [HE.out, do_, ht]; simp)
        clear ho
        go_wp2
        go_ret
        exact ⟨ret_bool HF.out.symm, kw5⟩
  have d4 : (m.kind == 4) = false := by simp [h4]
  have HE := Lib.hid (show canD l m = !(q.node != 0) by simp [canD, h2, h3, h4, HQ.out])
  clear h2 h3 h4
  go_wp2_with fail
  refine (HS.out _).mono ?_
  rintro e w3 ⟨rfl, hb3⟩
  generalize (q.node != 0) = t at *
  go_wp2
  go_ret
  exact ⟨ret_bool HE.out.symm, kw2.trans (hb3.mono kw2.size)⟩
end Go.Proofs.YtkipfalolfleaaaGreatDoor

/- What a move does: the program's come and behind of layer 5. -/
namespace Go.Proofs.YtkipfalolfleaaaGreatDoor
set_option linter.unusedSimpArgs false
open Go.RowKit
set_option linter.unusedVariables false

/-- A row of the call's own in block g that holds these pods. -/
structure Lst (g : Nat) (l : List PodD) (w : World) : Prop where
  lt : g < w.heap.size
  cell : ∀ i (h : i < l.length) j u, (cellsP l[i])[j]? = some u → w.cell? ⟨g, i * 8 + j, none⟩ = some u
  frozen : ∀ o, w.frozen? ⟨g, o, none⟩ = false
section
variable {g : Nat} {l : List PodD} {w w' : World}
theorem Lst.below (h : Lst g l w) (hb : Below w.heap.size w w') : Lst g l w' :=
  ⟨Nat.lt_of_lt_of_le h.lt hb.size, fun i hi j u hu => (hb.cell (p := ⟨g, i * 8 + j, none⟩) h.lt).trans (h.cell i hi j u hu), fun o => (hb.frozen (p := ⟨g, o, none⟩) h.lt).trans (h.frozen o)⟩
theorem Lst.alloc (h : Lst g l w) (o : Obj) : Lst g l (w.alloc o) := h.below ((Below.refl _ w).alloc (Nat.le_refl _) o)
theorem Lst.drew (h : Lst g l w) : Lst g l w.drew := ⟨h.lt, h.cell, h.frozen⟩
theorem Lst.other (h : Lst g l w) {p : Addr} (hp : p.block ≠ g) (v : Value) : Lst g l (w.setCell p v) :=
  ⟨by simpa using h.lt, fun i hi j u hu => by rw [World.cell?_setCell_other _ _ _ _ (by intro e; exact hp (by rw [e]))]; exact h.cell i hi j u hu, fun o => by simpa using h.frozen o⟩
theorem Lst.put (h : Lst g l w) {i j : Nat} (hi : i < l.length) (hj : j < 8) (u : Value) (p' : PodD) (hp : cellsP p' = (cellsP l[i]).set j u) : Lst g (l.set i p') (w.setCell ⟨g, i * 8 + j, none⟩ u) := by
  refine ⟨by simpa using h.lt, fun i' hi' j' u' hu => ?_, fun o => by simpa using h.frozen o⟩
  have hl' : i' < l.length := by simpa using hi'
  have hj' : j' < 8 := by have := (List.getElem?_eq_some_iff.1 hu).1; simpa [cellsP] using this
  by_cases e : i' = i
  · subst e
    rw [List.getElem_set_self, hp] at hu
    by_cases ej : j' = j
    · subst ej
      rw [List.getElem?_set_self (by simpa [cellsP] using hj)] at hu
      obtain rfl := Option.some.inj hu
      have hc : ∃ u0, (cellsP l[i'])[j']? = some u0 := ⟨_, List.getElem?_eq_getElem (by simpa [cellsP] using hj)⟩
      obtain ⟨u0, hu0⟩ := hc
      exact World.cell?_setCell_same _ _ _ (h.cell i' hl' j' u0 hu0)
    · rw [List.getElem?_set_ne (fun e => ej e.symm)] at hu
      rw [World.cell?_setCell_other _ _ _ _ (by intro e; injection e; omega)]
      exact h.cell i' hl' j' u' hu
  · rw [List.getElem_set_ne (fun e' => e e'.symm)] at hu
    rw [World.cell?_setCell_other _ _ _ _ (by intro e'; injection e'; omega)]
    exact h.cell i' hl' j' u' hu
theorem Lst.at (h : Lst g l w) {i : Nat} (hi : i < l.length) {p : PodD} (hp : l[i] = p) (j : Nat) (u : Value) (hu : (cellsP p)[j]? = some u) : w.cell? ⟨g, i * 8 + j, none⟩ = some u := h.cell i hi j u (by rw [hp]; exact hu)
theorem Lst.recs (h : Lst g l w) : Recs 8 cellsP w w.heap.size (some ⟨g, 0, none⟩) l := .inr ⟨g, 0, rfl, h.lt, fun i hi j u hu => by rw [Nat.zero_add]; exact h.cell i hi j u hu⟩
theorem Lst.fresh {A : Option Addr} {c : Nat} {w0 : World} (h : Fresh l w0 A c w) (hl : 0 < l.length) : ∃ g, A = some ⟨g, 0, none⟩ ∧ w0.heap.size ≤ g ∧ l.length ≤ c ∧ c ≤ maxLen ∧ Lst g l w := by
  have h1 := h.recs
  rcases h.2 with ⟨_, h0⟩ | ⟨g, cap, cur, hv, hb, hg, hnc, hm, _⟩
  · omega
  · injection hv with e1 _ e2
    subst e1 e2
    refine ⟨g, rfl, hb, hnc, hm, ?_, fun i hi j u hu => ?_, fun o => by simp [World.frozen?, hg]⟩
    · exact (Array.getElem?_eq_some_iff.1 hg).1
    · obtain ⟨b, o, e, _, hc⟩ := h1.at hi
      injection e with e
      injection e with e1 e2
      subst e1 e2
      simpa using hc j u hu
end
/-- A pod that comes to a node. -/
def comeD (x : List WantD) (node : Int) (p : PodD) : PodD :=
  let k := place WantD.pod p.id x 0
  let req := if k < 0 then p.req else match x[k.toNat]? with
    | some y => if y.stay then y.req else p.req
    | none => p.req
  ⟨p.id, p.load, p.prio, req, node⟩
theorem come_none {x : List WantD} {node : Int} {p : PodD} (h : place WantD.pod p.id x 0 < 0) : comeD x node p = ⟨p.id, p.load, p.prio, p.req, node⟩ := by simp [comeD, h]
theorem come_some {x : List WantD} {node : Int} {p : PodD} {i : Nat} (hi : i < x.length) (h : place WantD.pod p.id x 0 = i) : comeD x node p = ⟨p.id, p.load, p.prio, if x[i].stay then x[i].req else p.req, node⟩ := by
  have : ¬ (i : Int) < 0 := by omega
  simp [comeD, h, this, hi]
set_option maxHeartbeats 3200000 in
set_option maxRecDepth 100000 in
theorem come_any (x : List WantD) (l : List PodD) (g i : Nat) (hi : i < l.length) (node : Int) (A : Option Addr) (n c : Nat) (v1 v2 : Value) (w : World) (hn : n = x.length) (hl : n ≤ 1000) (hr : Recs 6 cellsW w g A x) (hL : Lst g l w) :
    Calls Tryz.prog 33 #[.agg #[.slice A n c, v1, v2], .pointer (some ⟨g, i * 8, none⟩), .int .i64 node] w fun e w' => e = .returned (.tuple #[]) ∧ Lst g (l.set i (comeD x node l[i])) w' ∧ Below g w w' := by
  have hgl := hL.lt
  have HR := Lib.hid hr
  have HN := Lib.hid hn
  have HL := Lib.hid hL
  clear hr hn hL
  generalize hp : l[i] = p at *
  have c7 := HL.out.at hi hp 7 _ rfl
  have z7 := HL.out.frozen (i * 8 + 7)
  have c0 := HL.out.at hi hp 0 _ rfl
  rw [Nat.add_zero] at c0
  have hgne : w.heap.size ≠ g := by omega
  have hL1 := (HL.out.put hi (j := 7) (by omega) (.int .i64 node) ⟨p.id, p.load, p.prio, p.req, node⟩ (by rw [hp]; rfl)).alloc (.cells #[.slice A n c, v1, v2] 29)
  have kW : Below g w ((w.setCell ⟨g, i * 8 + 7, none⟩ (.int .i64 node)).alloc (.cells #[.slice A n c, v1, v2] 29)) := ((Below.refl g w).setCell (Nat.le_refl _) _).alloc (by simp; omega) _
  go_enter Tryz.func33, Tryz.ntmps33
  go_wp2
  generalize hW : (w.setCell ⟨g, i * 8 + 7, none⟩ (.int .i64 node)).alloc (.cells #[.slice A n c, v1, v2] 29) = W at *
  have hWs : W.heap.size = w.heap.size + 1 := by rw [← hW]; simp
  have a0 : W.cell? ⟨w.heap.size, 0, none⟩ = some (.slice A n c) := by rw [← hW, World.cell?_alloc_at _ _ _ _ (by simp)]; simp
  have a1 : W.cell? ⟨w.heap.size, 1, none⟩ = some v1 := by rw [← hW, World.cell?_alloc_at _ _ _ _ (by simp)]; simp
  have a2 : W.cell? ⟨w.heap.size, 2, none⟩ = some v2 := by rw [← hW, World.cell?_alloc_at _ _ _ _ (by simp)]; simp
  have HL1 := Lib.hid hL1
  have hi1 : i < (l.set i ⟨p.id, p.load, p.prio, p.req, node⟩).length := by simpa using hi
  have c0' := HL1.out.at hi1 (p := ⟨p.id, p.load, p.prio, p.req, node⟩) (by simp) 0 _ rfl
  rw [Nat.add_zero] at c0'
  have hwW : w.heap.size < W.heap.size := by omega
  have hgW : g < W.heap.size := by omega
  have HWS := Lib.hid hWs
  clear hL1 hW c7 z7 c0 hWs
  have HWT0 := Lib.hid (fun (v : World) (hv : Keeps W v) => want_any x p.id A n c v1 v2 v HN.out hl ((HR.out.below (kW.trans (hv.2.mono (by have := HWS.out; omega))) (Nat.le_refl _)).more (by have := hv.2.size; have := HWS.out; omega)))
  obtain ⟨q, b, hq⟩ : ∃ (q : WantD) (b : Bool), (b = false ∧ place WantD.pod p.id x 0 < 0 ∧ q = ⟨0, ⟨0, 0, 0, 0⟩, false⟩) ∨ (b = true ∧ ∃ (j : Nat) (hj : j < x.length), place WantD.pod p.id x 0 = j ∧ q = x[j]) := by
    by_cases h : place WantD.pod p.id x 0 < 0
    · exact ⟨_, _, .inl ⟨rfl, h, rfl⟩⟩
    · have := place_ge (f := WantD.pod) (id := p.id) (l := x) (k := 0) (by omega)
      exact ⟨_, _, .inr ⟨rfl, (place WantD.pod p.id x 0).toNat, by omega, by omega, rfl⟩⟩
  have HQ := Lib.hid hq
  have HWT : Hid (∀ v : World, Keeps W v → Calls Tryz.prog 48 #[.agg #[.slice A n c, v1, v2], .int .i64 p.id] v fun e w' => e = .returned (.tuple #[aggW q, .bool b]) ∧ Below v.heap.size v w') := fun v hv =>
    (HWT0.out v hv).mono fun e w' ⟨h, hb⟩ => by
      refine ⟨?_, hb⟩
      rcases HQ.out with ⟨rfl, h0, rfl⟩ | ⟨rfl, j, hj, h0, rfl⟩
      · rcases h with ⟨_, rfl⟩ | ⟨j, hj, h1, _⟩
        · rfl
        · omega
      · rcases h with ⟨h1, _⟩ | ⟨j', hj', h1, rfl⟩
        · omega
        · have : j' = j := by omega
          subst this
          rfl
  clear HWT0 hq
  go_region_held3 (fun w' => (∀ b o, b < W.heap.size → w'.cell? ⟨b, o, none⟩ = W.cell? ⟨b, o, none⟩) ∧ Below W.heap.size W w')
    (first | (with_reducible assumption) | (show Keeps W _; with_reducible (repeat (first | exact Keeps.refl _ | refine Keeps.drew ?_ | refine Keeps.set ?_ (by simp) _ | refine Keeps.alloc ?_ _ | refine Keeps.step ?_ (by assumption)))))
    (first
      | (go_at_call 48; refine (HWT.out _ (by assumption)).mono ?_; rintro e w' ⟨rfl, hb⟩; obtain ⟨hcx, hfx⟩ := old_cells hb))
  · rename_i hK
    have q0 : (w'.alloc (.cells #[.int .i64 q.pod, .int .u64 q.req.a, .int .u64 q.req.b, .int .u64 q.req.c, .int .u64 q.req.d, .bool q.stay] 40)).cell? ⟨w'.heap.size, 0, none⟩ = some (.int .i64 q.pod) := by simp
    have q1 : (w'.alloc (.cells #[.int .i64 q.pod, .int .u64 q.req.a, .int .u64 q.req.b, .int .u64 q.req.c, .int .u64 q.req.d, .bool q.stay] 40)).cell? ⟨w'.heap.size, 1, none⟩ = some (.int .u64 q.req.a) := by simp
    have q2 : (w'.alloc (.cells #[.int .i64 q.pod, .int .u64 q.req.a, .int .u64 q.req.b, .int .u64 q.req.c, .int .u64 q.req.d, .bool q.stay] 40)).cell? ⟨w'.heap.size, 2, none⟩ = some (.int .u64 q.req.b) := by simp
    have q3 : (w'.alloc (.cells #[.int .i64 q.pod, .int .u64 q.req.a, .int .u64 q.req.b, .int .u64 q.req.c, .int .u64 q.req.d, .bool q.stay] 40)).cell? ⟨w'.heap.size, 3, none⟩ = some (.int .u64 q.req.c) := by simp
    have q4 : (w'.alloc (.cells #[.int .i64 q.pod, .int .u64 q.req.a, .int .u64 q.req.b, .int .u64 q.req.c, .int .u64 q.req.d, .bool q.stay] 40)).cell? ⟨w'.heap.size, 4, none⟩ = some (.int .u64 q.req.d) := by simp
    have q5 : (w'.alloc (.cells #[.int .i64 q.pod, .int .u64 q.req.a, .int .u64 q.req.b, .int .u64 q.req.c, .int .u64 q.req.d, .bool q.stay] 40)).cell? ⟨w'.heap.size, 5, none⟩ = some (.bool q.stay) := by simp
    have LV := HL1.out.below hK.2
    have KV := kW.trans (hK.2.mono (by have := HWS.out; omega))
    generalize hV : w'.alloc (.cells #[.int .i64 q.pod, .int .u64 q.req.a, .int .u64 q.req.b, .int .u64 q.req.c, .int .u64 q.req.d, .bool q.stay] 40) = V at *
    have HLV := Lib.hid LV
    clear hK LV hV hcx hfx hb
    generalize w'.heap.size = h at *
    rcases HQ.out with ⟨hbe, h0, he⟩ | ⟨hbe, j, hj, h0, he⟩
    · have HE := Lib.hid (come_none (x := x) (node := node) (p := p) h0)
      subst hbe
      clear he
      go_wp2
      go_end0
      exact ⟨rfl, by rw [HE.out]; exact HLV.out, KV⟩
    · have HE := Lib.hid (come_some (x := x) (node := node) (p := p) hj h0)
      rw [← he] at HE
      subst hbe
      clear he
      cases hs : q.stay with
      | false =>
        go_wp2
        go_end0
        exact ⟨rfl, by rw [HE.out, hs]; exact HLV.out, KV⟩
      | true =>
        have c3 := HLV.out.at hi1 (p := ⟨p.id, p.load, p.prio, p.req, node⟩) (by simp) 3 _ rfl
        have z3 := HLV.out.frozen (i * 8 + 3)
        have c4 := HLV.out.at hi1 (p := ⟨p.id, p.load, p.prio, p.req, node⟩) (by simp) 4 _ rfl
        have z4 := HLV.out.frozen (i * 8 + 4)
        have c5 := HLV.out.at hi1 (p := ⟨p.id, p.load, p.prio, p.req, node⟩) (by simp) 5 _ rfl
        have z5 := HLV.out.frozen (i * 8 + 5)
        have c6 := HLV.out.at hi1 (p := ⟨p.id, p.load, p.prio, p.req, node⟩) (by simp) 6 _ rfl
        have z6 := HLV.out.frozen (i * 8 + 6)
        have hz : h < V.heap.size := World.block_lt_of_cell? V _ q0
        go_wp2
        go_end0
        refine ⟨rfl, ?_, ?_⟩
        · have L3 := HLV.out.put hi1 (j := 3) (by omega) (.int .u64 q.req.a) ⟨p.id, p.load, p.prio, ⟨q.req.a, p.req.b, p.req.c, p.req.d⟩, node⟩ (by simp; rfl)
          have L4 := L3.put (i := i) (by simpa using hi) (j := 4) (by omega) (.int .u64 q.req.b) ⟨p.id, p.load, p.prio, ⟨q.req.a, q.req.b, p.req.c, p.req.d⟩, node⟩ (by simp; rfl)
          have L5 := L4.put (i := i) (by simpa using hi) (j := 5) (by omega) (.int .u64 q.req.c) ⟨p.id, p.load, p.prio, ⟨q.req.a, q.req.b, q.req.c, p.req.d⟩, node⟩ (by simp; rfl)
          have L6 := L5.put (i := i) (by simpa using hi) (j := 6) (by omega) (.int .u64 q.req.d) ⟨p.id, p.load, p.prio, ⟨q.req.a, q.req.b, q.req.c, q.req.d⟩, node⟩ (by simp; rfl)
          rw [HE.out, hs]
          simpa using L6
        · repeat (first | with_reducible exact KV | with_reducible refine Below.setCell ?_ ?_ _)
          all_goals exact Nat.le_refl _
  · rename_i hK
    have hzn : W.heap.size < w'.heap.size := by have := hb.size; simp at this; omega
    have hc0 : w'.cell? ⟨W.heap.size, 0, none⟩ = some (.int .i64 0) := (hcx _ _ (by simp)).trans (by simp)
    have hc1 : w'.cell? ⟨W.heap.size, 1, none⟩ = some (.int .u64 0) := (hcx _ _ (by simp)).trans (by simp)
    have hc2 : w'.cell? ⟨W.heap.size, 2, none⟩ = some (.int .u64 0) := (hcx _ _ (by simp)).trans (by simp)
    have hc3 : w'.cell? ⟨W.heap.size, 3, none⟩ = some (.int .u64 0) := (hcx _ _ (by simp)).trans (by simp)
    have hc4 : w'.cell? ⟨W.heap.size, 4, none⟩ = some (.int .u64 0) := (hcx _ _ (by simp)).trans (by simp)
    have hc5 : w'.cell? ⟨W.heap.size, 5, none⟩ = some (.bool false) := (hcx _ _ (by simp)).trans (by simp)
    have q0 : ((((((w'.setCell ⟨W.heap.size, 0, none⟩ (.int .i64 q.pod)).setCell ⟨W.heap.size, 1, none⟩ (.int .u64 q.req.a)).setCell ⟨W.heap.size, 2, none⟩ (.int .u64 q.req.b)).setCell ⟨W.heap.size, 3, none⟩ (.int .u64 q.req.c)).setCell ⟨W.heap.size, 4, none⟩ (.int .u64 q.req.d)).setCell ⟨W.heap.size, 5, none⟩ (.bool q.stay)).cell? ⟨W.heap.size, 0, none⟩ = some (.int .i64 q.pod) := by simp [go_sem, *]
    have q1 : ((((((w'.setCell ⟨W.heap.size, 0, none⟩ (.int .i64 q.pod)).setCell ⟨W.heap.size, 1, none⟩ (.int .u64 q.req.a)).setCell ⟨W.heap.size, 2, none⟩ (.int .u64 q.req.b)).setCell ⟨W.heap.size, 3, none⟩ (.int .u64 q.req.c)).setCell ⟨W.heap.size, 4, none⟩ (.int .u64 q.req.d)).setCell ⟨W.heap.size, 5, none⟩ (.bool q.stay)).cell? ⟨W.heap.size, 1, none⟩ = some (.int .u64 q.req.a) := by simp [go_sem, *]
    have q2 : ((((((w'.setCell ⟨W.heap.size, 0, none⟩ (.int .i64 q.pod)).setCell ⟨W.heap.size, 1, none⟩ (.int .u64 q.req.a)).setCell ⟨W.heap.size, 2, none⟩ (.int .u64 q.req.b)).setCell ⟨W.heap.size, 3, none⟩ (.int .u64 q.req.c)).setCell ⟨W.heap.size, 4, none⟩ (.int .u64 q.req.d)).setCell ⟨W.heap.size, 5, none⟩ (.bool q.stay)).cell? ⟨W.heap.size, 2, none⟩ = some (.int .u64 q.req.b) := by simp [go_sem, *]
    have q3 : ((((((w'.setCell ⟨W.heap.size, 0, none⟩ (.int .i64 q.pod)).setCell ⟨W.heap.size, 1, none⟩ (.int .u64 q.req.a)).setCell ⟨W.heap.size, 2, none⟩ (.int .u64 q.req.b)).setCell ⟨W.heap.size, 3, none⟩ (.int .u64 q.req.c)).setCell ⟨W.heap.size, 4, none⟩ (.int .u64 q.req.d)).setCell ⟨W.heap.size, 5, none⟩ (.bool q.stay)).cell? ⟨W.heap.size, 3, none⟩ = some (.int .u64 q.req.c) := by simp [go_sem, *]
    have q4 : ((((((w'.setCell ⟨W.heap.size, 0, none⟩ (.int .i64 q.pod)).setCell ⟨W.heap.size, 1, none⟩ (.int .u64 q.req.a)).setCell ⟨W.heap.size, 2, none⟩ (.int .u64 q.req.b)).setCell ⟨W.heap.size, 3, none⟩ (.int .u64 q.req.c)).setCell ⟨W.heap.size, 4, none⟩ (.int .u64 q.req.d)).setCell ⟨W.heap.size, 5, none⟩ (.bool q.stay)).cell? ⟨W.heap.size, 4, none⟩ = some (.int .u64 q.req.d) := by simp [go_sem, *]
    have q5 : ((((((w'.setCell ⟨W.heap.size, 0, none⟩ (.int .i64 q.pod)).setCell ⟨W.heap.size, 1, none⟩ (.int .u64 q.req.a)).setCell ⟨W.heap.size, 2, none⟩ (.int .u64 q.req.b)).setCell ⟨W.heap.size, 3, none⟩ (.int .u64 q.req.c)).setCell ⟨W.heap.size, 4, none⟩ (.int .u64 q.req.d)).setCell ⟨W.heap.size, 5, none⟩ (.bool q.stay)).cell? ⟨W.heap.size, 5, none⟩ = some (.bool q.stay) := by simp [go_sem, *]
    clear hc0 hc1 hc2 hc3 hc4 hc5 hzn
    have LV := HL1.out.below hK.2
    have KV := kW.trans (hK.2.mono (by have := HWS.out; omega))
    generalize hV : (((((w'.setCell ⟨W.heap.size, 0, none⟩ (.int .i64 q.pod)).setCell ⟨W.heap.size, 1, none⟩ (.int .u64 q.req.a)).setCell ⟨W.heap.size, 2, none⟩ (.int .u64 q.req.b)).setCell ⟨W.heap.size, 3, none⟩ (.int .u64 q.req.c)).setCell ⟨W.heap.size, 4, none⟩ (.int .u64 q.req.d)).setCell ⟨W.heap.size, 5, none⟩ (.bool q.stay) = V at *
    have HLV := Lib.hid LV
    clear hK LV hV hcx hfx hb
    generalize hh : W.heap.size = h at *
    clear hh
    rcases HQ.out with ⟨hbe, h0, he⟩ | ⟨hbe, j, hj, h0, he⟩
    · have HE := Lib.hid (come_none (x := x) (node := node) (p := p) h0)
      subst hbe
      clear he
      go_wp2
      go_end0
      exact ⟨rfl, by rw [HE.out]; exact HLV.out, KV⟩
    · have HE := Lib.hid (come_some (x := x) (node := node) (p := p) hj h0)
      rw [← he] at HE
      subst hbe
      clear he
      cases hs : q.stay with
      | false =>
        go_wp2
        go_end0
        exact ⟨rfl, by rw [HE.out, hs]; exact HLV.out, KV⟩
      | true =>
        have c3 := HLV.out.at hi1 (p := ⟨p.id, p.load, p.prio, p.req, node⟩) (by simp) 3 _ rfl
        have z3 := HLV.out.frozen (i * 8 + 3)
        have c4 := HLV.out.at hi1 (p := ⟨p.id, p.load, p.prio, p.req, node⟩) (by simp) 4 _ rfl
        have z4 := HLV.out.frozen (i * 8 + 4)
        have c5 := HLV.out.at hi1 (p := ⟨p.id, p.load, p.prio, p.req, node⟩) (by simp) 5 _ rfl
        have z5 := HLV.out.frozen (i * 8 + 5)
        have c6 := HLV.out.at hi1 (p := ⟨p.id, p.load, p.prio, p.req, node⟩) (by simp) 6 _ rfl
        have z6 := HLV.out.frozen (i * 8 + 6)
        have hz : h < V.heap.size := World.block_lt_of_cell? V _ q0
        go_wp2
        go_end0
        refine ⟨rfl, ?_, ?_⟩
        · have L3 := HLV.out.put hi1 (j := 3) (by omega) (.int .u64 q.req.a) ⟨p.id, p.load, p.prio, ⟨q.req.a, p.req.b, p.req.c, p.req.d⟩, node⟩ (by simp; rfl)
          have L4 := L3.put (i := i) (by simpa using hi) (j := 4) (by omega) (.int .u64 q.req.b) ⟨p.id, p.load, p.prio, ⟨q.req.a, q.req.b, p.req.c, p.req.d⟩, node⟩ (by simp; rfl)
          have L5 := L4.put (i := i) (by simpa using hi) (j := 5) (by omega) (.int .u64 q.req.c) ⟨p.id, p.load, p.prio, ⟨q.req.a, q.req.b, q.req.c, p.req.d⟩, node⟩ (by simp; rfl)
          have L6 := L5.put (i := i) (by simpa using hi) (j := 6) (by omega) (.int .u64 q.req.d) ⟨p.id, p.load, p.prio, ⟨q.req.a, q.req.b, q.req.c, q.req.d⟩, node⟩ (by simp; rfl)
          rw [HE.out, hs]
          simpa using L6
        · repeat (first | with_reducible exact KV | with_reducible refine Below.setCell ?_ ?_ _)
          all_goals exact Nat.le_refl _
end Go.Proofs.YtkipfalolfleaaaGreatDoor

namespace Go.Proofs.YtkipfalolfleaaaGreatDoor
set_option linter.unusedSimpArgs false
open Go.RowKit
set_option linter.unusedVariables false

/-- A box of the call's own that holds these cells. -/
structure Bf (V : World) (b : Nat) (cs : List Value) : Prop where
  lt : b < V.heap.size
  cell : ∀ j u, cs[j]? = some u → V.cell? ⟨b, j, none⟩ = some u
  frozen : ∀ o, V.frozen? ⟨b, o, none⟩ = false
section
variable {V V' : World} {b B : Nat} {cs : List Value}
theorem Bf.below (h : Bf V b cs) (hb : Below B V V') (hB : b < B) : Bf V' b cs :=
  ⟨Nat.lt_of_lt_of_le h.lt hb.size, fun j u hu => (hb.cell (p := ⟨b, j, none⟩) hB).trans (h.cell j u hu), fun o => (hb.frozen (p := ⟨b, o, none⟩) hB).trans (h.frozen o)⟩
theorem Bf.new (w : World) (cs : List Value) (t : TypeId) {b : Nat} (hb : b = w.heap.size) : Bf (w.alloc (.cells cs.toArray t)) b cs := by
  subst hb
  exact ⟨by simp, fun j u hu => by simpa using hu, fun o => by simp⟩
theorem Bf.alloc (h : Bf V b cs) (o : Obj) : Bf (V.alloc o) b cs := h.below ((Below.refl _ V).alloc (Nat.le_refl _) o) h.lt
theorem Bf.other (h : Bf V b cs) {p : Addr} (hp : p.block ≠ b) (v : Value) : Bf (V.setCell p v) b cs :=
  ⟨by simpa using h.lt, fun j u hu => by rw [World.cell?_setCell_other _ _ _ _ (by intro e; exact hp (by rw [e]))]; exact h.cell j u hu, fun o => by simpa using h.frozen o⟩
theorem Bf.set (h : Bf V b cs) (i : Nat) (v : Value) : Bf (V.setCell ⟨b, i, none⟩ v) b (cs.set i v) := by
  refine ⟨by simpa using h.lt, fun j u hu => ?_, fun o => by simpa using h.frozen o⟩
  by_cases e : j = i
  · subst e
    have hj : j < cs.length := by have := (List.getElem?_eq_some_iff.1 hu).1; simpa using this
    rw [List.getElem?_set_self hj] at hu
    obtain rfl := Option.some.inj hu
    exact World.cell?_setCell_same _ _ _ (h.cell j _ (List.getElem?_eq_getElem hj))
  · rw [List.getElem?_set_ne (fun e' => e e'.symm)] at hu
    rw [World.cell?_setCell_other _ _ _ _ (by intro e'; injection e'; omega)]
    exact h.cell j u hu
end
/-- What stands while behind is at work. -/
structure Beh (A : Option Addr) (n c : Nat) (v1 v2 : Value) (g c' k : Nat) (p s : Int) (m : MoveD) (l : List PodD) (w V : World) : Prop where
  spec : Bf V w.heap.size [.slice A n c, v1, v2]
  state : Bf V (w.heap.size + 1) [.slice (some ⟨g, 0, none⟩) k c', .int .i64 p, .int .i64 s]
  move : Bf V (w.heap.size + 2) [.int .i64 m.kind, .int .i64 m.pod, .int .i64 m.node, .int .i64 m.over]
  res : Bf V (w.heap.size + 3) [.slice none 0 0, .int .i64 0, .int .i64 0]
  lst : Lst g l V
  below : Below w.heap.size w V
  hg : w.heap.size + 4 ≤ g
section
variable {A : Option Addr} {n c : Nat} {v1 v2 : Value} {g c' k : Nat} {p s : Int} {m : MoveD} {l : List PodD} {w V V' : World}
theorem Beh.keep (h : Beh A n c v1 v2 g c' k p s m l w V) (hb : Below V.heap.size V V') : Beh A n c v1 v2 g c' k p s m l w V' :=
  ⟨h.spec.below hb h.spec.lt, h.state.below hb h.state.lt, h.move.below hb h.move.lt, h.res.below hb h.res.lt, h.lst.below hb, h.below.trans (hb.mono h.below.size), h.hg⟩
theorem Beh.turn {l' : List PodD} (h : Beh A n c v1 v2 g c' k p s m l w V) (hb : Below g V V') (hl : Lst g l' V') : Beh A n c v1 v2 g c' k p s m l' w V' := by
  have hg := h.hg
  exact ⟨h.spec.below hb (by omega), h.state.below hb (by omega), h.move.below hb (by omega), h.res.below hb (by omega), hl, h.below.trans (hb.mono (by omega)), h.hg⟩
theorem Beh.shift (h : Beh A n c v1 v2 g c' k p s m l w V) (s' : Int) : Beh A n c v1 v2 g c' k p s' m l w (V.setCell ⟨w.heap.size + 1, 2, none⟩ (.int .i64 s')) := by
  have hg := h.hg
  exact ⟨h.spec.other (by simp) _, h.state.set 2 _, h.move.other (by simp) _, h.res.other (by simp) _, h.lst.other (by show w.heap.size + 1 ≠ g; omega) _, h.below.setCell (by simp) _, h.hg⟩
theorem Beh.pre (h : Beh A n c v1 v2 g c' k p s m l w V) (p' : Int) : Beh A n c v1 v2 g c' k p' s m l w (V.setCell ⟨w.heap.size + 1, 1, none⟩ (.int .i64 p')) := by
  have hg := h.hg
  exact ⟨h.spec.other (by simp) _, h.state.set 1 _, h.move.other (by simp) _, h.res.other (by simp) _, h.lst.other (by show w.heap.size + 1 ≠ g; omega) _, h.below.setCell (by simp) _, h.hg⟩
theorem Beh.facts (h : Beh A n c v1 v2 g c' k p s m l w V) :
    (V.cell? ⟨w.heap.size, 0, none⟩ = some (.slice A n c) ∧ V.cell? ⟨w.heap.size, 1, none⟩ = some v1 ∧ V.cell? ⟨w.heap.size, 2, none⟩ = some v2) ∧
    (V.cell? ⟨w.heap.size + 1, 0, none⟩ = some (.slice (some ⟨g, 0, none⟩) k c') ∧ V.cell? ⟨w.heap.size + 1, 1, none⟩ = some (.int .i64 p) ∧ V.cell? ⟨w.heap.size + 1, 2, none⟩ = some (.int .i64 s)) ∧
    (V.cell? ⟨w.heap.size + 2, 0, none⟩ = some (.int .i64 m.kind) ∧ V.cell? ⟨w.heap.size + 2, 1, none⟩ = some (.int .i64 m.pod) ∧ V.cell? ⟨w.heap.size + 2, 2, none⟩ = some (.int .i64 m.node) ∧ V.cell? ⟨w.heap.size + 2, 3, none⟩ = some (.int .i64 m.over)) ∧
    w.heap.size < V.heap.size ∧ w.heap.size + 1 < V.heap.size ∧ w.heap.size + 2 < V.heap.size ∧ w.heap.size + 3 < V.heap.size ∧ g < V.heap.size :=
  ⟨⟨h.spec.cell 0 _ rfl, h.spec.cell 1 _ rfl, h.spec.cell 2 _ rfl⟩, ⟨h.state.cell 0 _ rfl, h.state.cell 1 _ rfl, h.state.cell 2 _ rfl⟩, ⟨h.move.cell 0 _ rfl, h.move.cell 1 _ rfl, h.move.cell 2 _ rfl, h.move.cell 3 _ rfl⟩, h.spec.lt, h.state.lt, h.move.lt, h.res.lt, h.lst.lt⟩
theorem Beh.facts2 (h : Beh A n c v1 v2 g c' k p s m l w V) :
    (V.cell? ⟨w.heap.size + 3, 0, none⟩ = some (.slice none 0 0) ∧ V.cell? ⟨w.heap.size + 3, 1, none⟩ = some (.int .i64 0) ∧ V.cell? ⟨w.heap.size + 3, 2, none⟩ = some (.int .i64 0)) ∧
    (V.frozen? ⟨w.heap.size + 3, 0, none⟩ = false ∧ V.frozen? ⟨w.heap.size + 3, 1, none⟩ = false ∧ V.frozen? ⟨w.heap.size + 3, 2, none⟩ = false) ∧
    (V.frozen? ⟨w.heap.size + 1, 1, none⟩ = false ∧ V.frozen? ⟨w.heap.size + 1, 2, none⟩ = false) :=
  ⟨⟨h.res.cell 0 _ rfl, h.res.cell 1 _ rfl, h.res.cell 2 _ rfl⟩, ⟨h.res.frozen 0, h.res.frozen 1, h.res.frozen 2⟩, h.state.frozen 1, h.state.frozen 2⟩
end
theorem place_eq {id : Int} : ∀ {l : List PodD} {k : Int} {i : Nat} (hi : i < l.length), place PodD.id id l k = k + i → 0 ≤ k → l[i].id = id
  | [], _, _, hi, _, _ => by simp at hi
  | x :: r, k, i, hi, h, hk => by
    by_cases hx : x.id = id
    · simp only [place, if_pos hx] at h
      obtain rfl : i = 0 := by omega
      exact hx
    · simp only [place, if_neg hx] at h
      cases i with
      | zero =>
        have h3 : place PodD.id id r (k + 1) < 0 ∨ k + 1 ≤ place PodD.id id r (k + 1) := place_or r (k + 1) (by omega)
        omega
      | succ i =>
        simp only [List.getElem_cons_succ]
        exact place_eq (k := k + 1) (by simpa using hi) (by rw [h]; omega) (by omega)
theorem place_is {l : List PodD} {id : Int} {i : Nat} (hi : i < l.length) (h : place PodD.id id l 0 = i) : l[i].id = id := by
  have := place_eq (l := l) (id := id) (k := 0) hi (by omega) (by omega)
  exact this
/-- A pod that goes. -/
def goD (p : PodD) : PodD := ⟨p.id, p.load, p.prio, p.req, 0⟩
def idxD (id : Int) (l : List PodD) : Nat := (place PodD.id id l 0).toNat
def behindD (x : List WantD) (t : StateD) (m : MoveD) : StateD :=
  if m.kind = 2 then ⟨t.pods.set (idxD m.pod t.pods) (goD (podZ m.pod t.pods)), t.preempts, t.shifts⟩
  else if m.kind = 3 then ⟨t.pods.set (idxD m.pod t.pods) (comeD x m.node (podZ m.pod t.pods)), t.preempts, wrap64 (t.shifts + 1)⟩
  else if m.kind = 4 then ⟨(t.pods.set (idxD m.over t.pods) (goD (podZ m.over t.pods))).set (idxD m.pod t.pods) (comeD x m.node (podZ m.pod t.pods)), wrap64 (t.preempts + 1), t.shifts⟩
  else ⟨t.pods.set (idxD m.pod t.pods) (comeD x m.node (podZ m.pod t.pods)), t.preempts, t.shifts⟩
/-- A state that is told: its pods in new memory. -/
def StateTo (u : StateD) (w : World) (v : Value) (w' : World) : Prop := ∃ A c, v = stateV A u.pods.length c u.preempts u.shifts ∧ Out 8 cellsP w' u.pods A c ∧ (∀ a, A = some a → w.heap.size ≤ a.block) ∧ Below w.heap.size w w'
theorem Beh.done {A : Option Addr} {n c : Nat} {v1 v2 : Value} {g c' k : Nat} {p s : Int} {m : MoveD} {l : List PodD} {w V : World} (h : Beh A n c v1 v2 g c' k p s m l w V) (hk : k = l.length) (hc : k ≤ c') (hm : c' ≤ maxLen) {x y z : Value} :
    StateTo ⟨l, p, s⟩ w (stateV (some ⟨g, 0, none⟩) k c' p s) (((V.setCell ⟨w.heap.size + 3, 0, none⟩ x).setCell ⟨w.heap.size + 3, 1, none⟩ y).setCell ⟨w.heap.size + 3, 2, none⟩ z) := by
  subst hk
  have hg := h.hg
  have hl := (((h.lst.other (p := ⟨w.heap.size + 3, 0, none⟩) (by show w.heap.size + 3 ≠ g; omega) x).other (p := ⟨w.heap.size + 3, 1, none⟩) (by show w.heap.size + 3 ≠ g; omega) y).other (p := ⟨w.heap.size + 3, 2, none⟩) (by show w.heap.size + 3 ≠ g; omega) z)
  exact ⟨_, _, rfl, ⟨hc, hm, (by intro e; cases e), hl.recs⟩, (by intro a e; injection e with e; subst e; show w.heap.size ≤ g; omega), ((h.below.setCell (by simp) _).setCell (by simp) _).setCell (by simp) _⟩
set_option maxHeartbeats 6400000 in
set_option maxRecDepth 100000 in
theorem behind_any (x : List WantD) (t : StateD) (m : MoveD) (hk1 : m.kind = 1 ∨ m.kind = 2 ∨ m.kind = 3 ∨ m.kind = 4) (hpod : ¬ place PodD.id m.pod t.pods 0 < 0) (hover : m.kind = 4 → ¬ place PodD.id m.over t.pods 0 < 0 ∧ m.over ≠ m.pod)
    (A A2 : Option Addr) (n c n2 c2 : Nat) (v1 v2 : Value) (w : World) (hn : n = x.length) (hl : n ≤ 1000) (hr : Recs 6 cellsW w w.heap.size A x) (hn2 : n2 = t.pods.length) (hl2 : n2 ≤ 1000) (h02 : A2 = none → c2 = 0) (hr2 : Recs 8 cellsP w w.heap.size A2 t.pods) :
    Calls Tryz.prog 22 #[.agg #[.slice A n c, v1, v2], stateV A2 n2 c2 t.preempts t.shifts, aggM m] w fun e w' => ∃ v, e = .returned v ∧ StateTo (behindD x t m) w v w' := by
  obtain ⟨i, hi, hpi⟩ := place_hit hpod
  obtain ⟨l, p, s⟩ := t
  have HR := Lib.hid hr
  have HN := Lib.hid hn
  have HO := Lib.hid hover
  have b00 := below_four w (.cells #[.slice A n c, v1, v2] 29) (.cells #[.slice A2 n2 c2, .int .i64 p, .int .i64 s] 31) (.cells #[.int .i64 m.kind, .int .i64 m.pod, .int .i64 m.node, .int .i64 m.over] 33) (.cells #[.slice none 0 0, .int .i64 0, .int .i64 0] 31)
  have HC := Lib.hid (clone_any l A2 n2 c2 _ hn2 hl2 h02 ((hr2.below b00 (Nat.le_refl _)).more b00.size))
  have HN2 := Lib.hid hn2
  clear hr hn hover hr2 hn2 h02 hpod
  go_enter Tryz.func22, Tryz.ntmps22
  go_wp2_with fail
  refine HC.out.mono ?_
  rintro e w1 ⟨A3, c3, rfl, hfr, hb1⟩
  obtain ⟨g, rfl, hg, hc3, hm3, hL⟩ := Lst.fresh hfr (by omega)
  have hlen : l.length = n2 := HN2.out.symm
  rw [hlen] at hc3
  have s0 := ((((Bf.new w [.slice A n c, v1, v2] 29 rfl).alloc (.cells #[.slice A2 n2 c2, .int .i64 p, .int .i64 s] 31)).alloc (.cells #[.int .i64 m.kind, .int .i64 m.pod, .int .i64 m.node, .int .i64 m.over] 33)).alloc (.cells #[.slice none 0 0, .int .i64 0, .int .i64 0] 31)).below hb1 (by first | (simp; done) | (simp; omega))
  have s1 := (((Bf.new (w.alloc (.cells #[.slice A n c, v1, v2] 29)) [.slice A2 n2 c2, .int .i64 p, .int .i64 s] 31 (b := w.heap.size + 1) (by simp)).alloc (.cells #[.int .i64 m.kind, .int .i64 m.pod, .int .i64 m.node, .int .i64 m.over] 33)).alloc (.cells #[.slice none 0 0, .int .i64 0, .int .i64 0] 31)).below hb1 (by first | (simp; done) | (simp; omega))
  have s2 := ((Bf.new ((w.alloc (.cells #[.slice A n c, v1, v2] 29)).alloc (.cells #[.slice A2 n2 c2, .int .i64 p, .int .i64 s] 31)) [.int .i64 m.kind, .int .i64 m.pod, .int .i64 m.node, .int .i64 m.over] 33 (b := w.heap.size + 2) (by simp)).alloc (.cells #[.slice none 0 0, .int .i64 0, .int .i64 0] 31)).below hb1 (by first | (simp; done) | (simp; omega))
  have s3 := (Bf.new (((w.alloc (.cells #[.slice A n c, v1, v2] 29)).alloc (.cells #[.slice A2 n2 c2, .int .i64 p, .int .i64 s] 31)).alloc (.cells #[.int .i64 m.kind, .int .i64 m.pod, .int .i64 m.node, .int .i64 m.over] 33)) [.slice none 0 0, .int .i64 0, .int .i64 0] 31 (b := w.heap.size + 3) (by simp)).below hb1 (by first | (simp; done) | (simp; omega))
  have hg4 : w.heap.size + 4 ≤ g := by simpa using hg
  have B1 : Beh A n c v1 v2 g c3 n2 p s m l w (w1.setCell ⟨w.heap.size + 1, 0, none⟩ (.slice (some ⟨g, 0, none⟩) n2 c3)) :=
    ⟨s0.other (by simp) _, s1.set 0 _, s2.other (by simp) _, s3.other (by simp) _, hL.other (by show w.heap.size + 1 ≠ g; omega) _, (b00.trans (hb1.mono b00.size)).setCell (by simp) _, hg4⟩
  have fc := s1.cell 0 _ rfl
  have fz := s1.frozen 0
  have S1 := Lib.hid hlen
  clear s0 s1 s2 s3 hg hL hfr hb1 HC b00 hlen
  go_wp2
  generalize hW : w1.setCell ⟨w.heap.size + 1, 0, none⟩ (.slice (some ⟨g, 0, none⟩) n2 c3) = W at *
  clear hW fc fz
  have HB1 := Lib.hid B1
  obtain ⟨⟨a0, a1, a2⟩, ⟨a3, a4, a5⟩, ⟨a6, a7, a8, a9⟩, hz0, hz1, hz2, hz3, hzg⟩ := B1.facts
  have HPP : Hid (∀ (id : Int) (v : World), Keeps W v → Calls Tryz.prog 28 #[stateV (some ⟨g, 0, none⟩) n2 c3 p s, .int .i64 id] v fun e w' => e = .returned (.int .i64 (place PodD.id id l 0)) ∧ Below v.heap.size v w') :=
    fun id v hv => place_any l id (some ⟨g, 0, none⟩) n2 c3 (.int .i64 p) (.int .i64 s) v HN2.out hl2 (HB1.out.keep hv.2).lst.recs
  have HP1 : Hid (∀ (v : World), Keeps W v → Calls Tryz.prog 28 #[stateV (some ⟨g, 0, none⟩) n2 c3 p s, .int .i64 m.pod] v fun e w' => e = .returned (.int .i64 (i : Int)) ∧ Below v.heap.size v w') := by
    have := HPP.out m.pod
    rw [hpi] at this
    exact this
  have hin : i < n2 := by have := S1.out; omega
  have hi0 : (0 : Int) ≤ (i : Int) := by omega
  have hi1 : (i : Int) < (n2 : Int) := by omega
  have HPI := Lib.hid hpi
  clear hpi B1 HPP
  go_region_held3 (fun w' => (∀ b o, b < W.heap.size → w'.cell? ⟨b, o, none⟩ = W.cell? ⟨b, o, none⟩) ∧ Below W.heap.size W w')
    (first | (with_reducible assumption) | (show Keeps W _; with_reducible (repeat (first | exact Keeps.refl _ | refine Keeps.drew ?_ | refine Keeps.set ?_ (by simp) _ | refine Keeps.alloc ?_ _ | refine Keeps.step ?_ (by assumption)))))
    (first
      | (go_at_call 28; refine (HP1.out _ (by assumption)).mono ?_; rintro e w' ⟨rfl, hb⟩))
  rename_i hK
  have B2 := HB1.out.keep hK.2
  have HB2 := Lib.hid B2
  clear hK hb HP1 a0 a1 a2 a3 a4 a5 a6 a7 a8 a9 hz0 hz1 hz2 hz3 hzg HB1
  generalize hV : w' = V at *
  clear hV
  obtain ⟨⟨a0, a1, a2⟩, ⟨a3, a4, a5⟩, ⟨a6, a7, a8, a9⟩, hz0, hz1, hz2, hz3, hzg⟩ := B2.facts
  obtain ⟨⟨r0, r1, r2⟩, ⟨z0, z1, z2⟩, z3, z4⟩ := B2.facts2
  have hgn1 : g ≠ w.heap.size + 1 := by omega
  have hgn2 : g ≠ w.heap.size + 2 := by omega
  have hgn3 : g ≠ w.heap.size + 3 := by omega
  have hgn0 : g ≠ w.heap.size := by omega
  have hon1 : w.heap.size + 1 ≠ g := by omega
  have hon2 : w.heap.size + 2 ≠ g := by omega
  have hon3 : w.heap.size + 3 ≠ g := by omega
  have HIX : Hid (idxD m.pod l = i) := by show _ = _; rw [idxD, HPI.out]; rfl
  have HPZ := Lib.hid (podZ_some hi HPI.out)
  have HLEN : Hid (n2 ≤ c3 ∧ c3 ≤ maxLen) := ⟨hc3, hm3⟩
  clear hc3 hm3
  have HCM := Lib.hid (fun (l' : List PodD) (i' : Nat) (hi' : i' < l'.length) (p' s' : Int) (v : World) (hB : Beh A n c v1 v2 g c3 n2 p' s' m l' w v) => come_any x l' g i' hi' m.node A n c v1 v2 v HN.out hl ((HR.out.below hB.below (Nat.le_refl _)).more (by have := hB.hg; omega)) hB.lst)
  by_cases h2 : m.kind = 2
  · have HE := Lib.hid (show behindD x ⟨l, p, s⟩ m = ⟨l.set i (goD l[i]), p, s⟩ by simp only [behindD, if_pos h2, HIX.out, HPZ.out])
    have d2 : (m.kind == 2) = true := by simp [h2]
    have c7 := HB2.out.lst.at hi rfl 7 _ rfl
    have zz7 := HB2.out.lst.frozen (i * 8 + 7)
    clear h2
    go_wp2
    refine bodyPost_ret (v := stateV (some ⟨g, 0, none⟩) n2 c3 p s) ?_ rfl ⟨_, rfl, ?_⟩
    · simp [results, Tryz.results22, go_sem, *]
    · rw [HE.out]
      exact (HB2.out.turn ((Below.refl g V).setCell (Nat.le_refl _) _) (HB2.out.lst.put hi (j := 7) (by omega) (.int .i64 0) (goD l[i]) rfl)).done (by simpa using S1.out.symm) HLEN.out.1 HLEN.out.2
  have d2 : (m.kind == 2) = false := by simp [h2]
  by_cases h3 : m.kind = 3
  · have HE := Lib.hid (show behindD x ⟨l, p, s⟩ m = ⟨l.set i (comeD x m.node l[i]), p, wrap64 (s + 1)⟩ by simp only [behindD, if_neg h2, if_pos h3, HIX.out, HPZ.out])
    have d3 : (m.kind == 3) = true := by simp [h3]
    have B3 := HB2.out.shift (wrap64 (s + 1))
    clear h2 h3
    go_wp2_with fail
    refine (HCM.out l i hi _ _ _ B3).mono ?_
    rintro e w5 ⟨rfl, hL5, hb5⟩
    have B5 := B3.turn hb5 hL5
    have HB5 := Lib.hid B5
    clear r0 r1 r2 z0 z1 z2 z3 z4 a0 a1 a2 a3 a4 a5 a6 a7 a8 a9 B3 B2 hL5 hb5
    obtain ⟨⟨a0, a1, a2⟩, ⟨a3, a4, a5⟩, ⟨a6, a7, a8, a9⟩, _⟩ := B5.facts
    obtain ⟨⟨r0, r1, r2⟩, ⟨z0, z1, z2⟩, z3, z4⟩ := B5.facts2
    go_wp2
    refine bodyPost_ret (v := stateV (some ⟨g, 0, none⟩) n2 c3 p (wrap64 (s + 1))) ?_ rfl ⟨_, rfl, ?_⟩
    · simp [results, Tryz.results22, go_sem, *]
    · rw [HE.out]
      exact HB5.out.done (by simpa using S1.out.symm) HLEN.out.1 HLEN.out.2
  have d3 : (m.kind == 3) = false := by simp [h3]
  by_cases h4 : m.kind = 4
  · obtain ⟨hov, hne⟩ := HO.out h4
    obtain ⟨k, hk, hpk⟩ := place_hit (l := l) (id := m.over) (by omega)
    have HPK := Lib.hid (podZ_some hk hpk)
    have HIK : Hid (idxD m.over l = k) := by show _ = _; rw [idxD, hpk]; rfl
    have HNE : Hid (k ≠ i) := by
      show k ≠ i
      intro e
      subst e
      have e1 := place_is hk hpk
      have e2 := place_is hk HPI.out
      exact hne (e1.symm.trans e2)
    have HE := Lib.hid (show behindD x ⟨l, p, s⟩ m = ⟨(l.set k (goD l[k])).set i (comeD x m.node l[i]), wrap64 (p + 1), s⟩ by simp only [behindD, if_neg h2, if_neg h3, if_pos h4, HIX.out, HPZ.out, HIK.out, HPK.out])
    have d4 : (m.kind == 4) = true := by simp [h4]
    have B3 := HB2.out.pre (wrap64 (p + 1))
    clear h2 h3 h4 hov hne
    go_wp2
    generalize hW : V.setCell ⟨w.heap.size + 1, 1, none⟩ (.int .i64 (wrap64 (p + 1))) = U at *
    clear hW r0 r1 r2 z0 z1 z2 z3 z4 a0 a1 a2 a3 a4 a5 a6 a7 a8 a9 B2 hz0 hz1 hz2 hz3 hzg
    obtain ⟨⟨a0, a1, a2⟩, ⟨a3, a4, a5⟩, ⟨a6, a7, a8, a9⟩, hz0, hz1, hz2, hz3, hzg⟩ := B3.facts
    have HB3 := Lib.hid B3
    have c7 := B3.lst.at hk rfl 7 _ rfl
    have zz7 := B3.lst.frozen (k * 8 + 7)
    have hk0 : (0 : Int) ≤ (k : Int) := by omega
    have hk1 : (k : Int) < (n2 : Int) := by have := S1.out; omega
    have HPO : Hid (∀ (v : World), Keeps U v → Calls Tryz.prog 28 #[stateV (some ⟨g, 0, none⟩) n2 c3 (wrap64 (p + 1)) s, .int .i64 m.over] v fun e w' => e = .returned (.int .i64 (k : Int)) ∧ Below v.heap.size v w') := by
      have := fun (v : World) (hv : Keeps U v) => place_any l m.over (some ⟨g, 0, none⟩) n2 c3 (.int .i64 (wrap64 (p + 1))) (.int .i64 s) v HN2.out hl2 (HB3.out.keep hv.2).lst.recs
      rw [hpk] at this
      exact this
    have HBK := Lib.hid (fun (v : World) (hb : Below U.drew.heap.size U.drew v) => let B4 := HB3.out.keep (V' := v) ⟨hb.os, hb.tape, hb.output, hb.size, hb.block⟩; And.intro B4.facts (And.intro (B4.lst.at hk rfl 7 _ rfl) (B4.lst.frozen (k * 8 + 7))))
    clear hpk B3
    go_region_with (go_at_call 28; refine (HPO.out _ (Keeps.drew (Keeps.refl _))).mono ?_; rintro e w' ⟨rfl, hb⟩; obtain ⟨⟨⟨f0, f1, f2⟩, ⟨f3, f4, f5⟩, ⟨f6, f7, f8, f9⟩, y0, y1, y2, y3, y4⟩, q7, qq7⟩ := HBK.out w' hb)
    all_goals
      have B4 := HB3.out.keep (V' := w') ⟨hb.os, hb.tape, hb.output, hb.size, hb.block⟩
      have B5 := B4.turn ((Below.refl g w').setCell (p := ⟨g, k * 8 + 7, none⟩) (Nat.le_refl _) (.int .i64 0)) (B4.lst.put hk (j := 7) (by omega) (.int .i64 0) (goD l[k]) rfl)
      clear f0 f1 f2 f3 f4 f5 f6 f7 f8 f9 y0 y1 y2 y3 y4 q7 qq7 hb B4 a0 a1 a2 a3 a4 a5 a6 a7 a8 a9 c7 zz7 hz0 hz1 hz2 hz3 hzg
      generalize w'.setCell ⟨g, k * 8 + 7, none⟩ (.int .i64 0) = Y at *
      obtain ⟨⟨a0, a1, a2⟩, ⟨a3, a4, a5⟩, ⟨a6, a7, a8, a9⟩, hz0, hz1, hz2, hz3, hzg⟩ := B5.facts
      have HB5 := Lib.hid B5
      clear B5
      go_wp2_with fail
      refine (HCM.out (l.set k (goD l[k])) i (by simpa using hi) _ _ _ HB5.out).mono ?_
      rintro e w5 ⟨rfl, hL5, hb5⟩
      have B6 := HB5.out.turn hb5 hL5
      rw [List.getElem_set_ne HNE.out] at B6
      have HB6 := Lib.hid B6
      clear a0 a1 a2 a3 a4 a5 a6 a7 a8 a9 hz0 hz1 hz2 hz3 hzg hL5 hb5
      obtain ⟨⟨a0, a1, a2⟩, ⟨a3, a4, a5⟩, ⟨a6, a7, a8, a9⟩, _⟩ := B6.facts
      obtain ⟨⟨r0, r1, r2⟩, ⟨z0, z1, z2⟩, z3, z4⟩ := B6.facts2
      clear B6
      go_wp2
      refine bodyPost_ret (v := stateV (some ⟨g, 0, none⟩) n2 c3 (wrap64 (p + 1)) s) ?_ rfl ⟨_, rfl, ?_⟩
      · simp [results, Tryz.results22, go_sem, *]
      · rw [HE.out]
        exact HB6.out.done (by simpa using S1.out.symm) HLEN.out.1 HLEN.out.2
  have d4 : (m.kind == 4) = false := by simp [h4]
  have d1 : (m.kind == 1) = true := by rcases hk1 with h | h | h | h <;> simp_all
  have HE := Lib.hid (show behindD x ⟨l, p, s⟩ m = ⟨l.set i (comeD x m.node l[i]), p, s⟩ by simp only [behindD, if_neg h2, if_neg h3, if_neg h4, HIX.out, HPZ.out])
  clear h2 h3 h4 hk1
  go_wp2_with fail
  refine (HCM.out l i hi _ _ _ HB2.out).mono ?_
  rintro e w5 ⟨rfl, hL5, hb5⟩
  have B5 := HB2.out.turn hb5 hL5
  have HB5 := Lib.hid B5
  clear r0 r1 r2 z0 z1 z2 z3 z4 a0 a1 a2 a3 a4 a5 a6 a7 a8 a9 B2 hL5 hb5
  obtain ⟨⟨a0, a1, a2⟩, ⟨a3, a4, a5⟩, ⟨a6, a7, a8, a9⟩, _⟩ := B5.facts
  obtain ⟨⟨r0, r1, r2⟩, ⟨z0, z1, z2⟩, z3, z4⟩ := B5.facts2
  go_wp2
  refine bodyPost_ret (v := stateV (some ⟨g, 0, none⟩) n2 c3 p s) ?_ rfl ⟨_, rfl, ?_⟩
  · simp [results, Tryz.results22, go_sem, *]
  · rw [HE.out]
    exact HB5.out.done (by simpa using S1.out.symm) HLEN.out.1 HLEN.out.2
end Go.Proofs.YtkipfalolfleaaaGreatDoor
