/- Joined texts, part 6: UJ ZA WM VecA VecB VecC VecD VecL VecM WV WL. -/
import Derived.Test.YtokghlmccecpfaaDoorZ05
import Derived.Test.YtokghlmccecpfaaDoorZ01
import Derived.Test.YtokghlmccecpfaaDoorRows
import Derived.WalkKit
import Derived.WalkSpells
import Derived.WalkLawsBesides
import Derived.Laws.Externs
import Derived.Shelf.Spec.BitsCarry
import Derived.Lib.Hide
import Derived.Deep.QuietTactic
import Derived.BigQuiet
import Derived.Deep.Slices
import Derived.Deep.RegionWith
import Derived.Test.YtokghlmccecpfaaDoorZ02

/- What a move comes to: the program's Make of layer 5. -/
namespace Go.Proofs.YtokghlmccecpfaaDoor
set_option linter.unusedSimpArgs false
open Go.RowKit
set_option linter.unusedVariables false

/-- What a move comes to: the state, and an error's number. -/
def noState : StateD := ⟨[], 0, 0⟩
def makeD (nodes : List NodeD) (x : List WantD) (t : StateD) (m : MoveD) : StateD × Int :=
  if wellD m = false then (noState, 1) else if hereD nodes t.pods m = false then (noState, 4) else if canD t.pods m = false then (noState, 7) else (behindD x t m, 0)
def codeV (c : Int) : Value := if c = 0 then .nilIface else .iface 40 (.int .i64 c)
theorem well_kinds {m : MoveD} (h : wellD m = true) : m.kind = 1 ∨ m.kind = 2 ∨ m.kind = 3 ∨ m.kind = 4 := by
  unfold wellD at h
  split at h
  · omega
  · split at h
    · omega
    · have : m.kind = 4 := by simpa using h
      omega
theorem here_pod {nodes : List NodeD} {l : List PodD} {m : MoveD} (h : hereD nodes l m = true) : ¬ place PodD.id m.pod l 0 < 0 := by
  intro e
  simp [hereD, e] at h
theorem here_over {nodes : List NodeD} {l : List PodD} {m : MoveD} (h : hereD nodes l m = true) (hc : canD l m = true) : m.kind = 4 → ¬ place PodD.id m.over l 0 < 0 ∧ m.over ≠ m.pod := by
  intro h4
  constructor
  · intro e
    simp [hereD, e, h4] at h
  · intro e
    simp [canD, h4, e] at hc
/-- What stands while Make is at work. -/
structure Mk (snap spec state move : List Value) (w V : World) : Prop where
  snap : Bf V w.heap.size snap
  spec : Bf V (w.heap.size + 1) spec
  state : Bf V (w.heap.size + 2) state
  move : Bf V (w.heap.size + 3) move
  res : Bf V (w.heap.size + 4) [.slice none 0 0, .int .i64 0, .int .i64 0]
  below : Below w.heap.size w V
section
variable {a b c d : List Value} {w V V' : World}
theorem Mk.keep (h : Mk a b c d w V) (hb : Below V.heap.size V V') : Mk a b c d w V' :=
  ⟨h.snap.below hb h.snap.lt, h.spec.below hb h.spec.lt, h.state.below hb h.state.lt, h.move.below hb h.move.lt, h.res.below hb h.res.lt, h.below.trans (hb.mono h.below.size)⟩
theorem Mk.new (w : World) (a b c d : List Value) (t1 t2 t3 t4 t5 : TypeId) : Mk a b c d w (((((w.alloc (.cells a.toArray t1)).alloc (.cells b.toArray t2)).alloc (.cells c.toArray t3)).alloc (.cells d.toArray t4)).alloc (.cells #[.slice none 0 0, .int .i64 0, .int .i64 0] t5)) :=
  ⟨((((Bf.new w a t1 rfl).alloc _).alloc _).alloc _).alloc _, (((Bf.new (w.alloc (.cells a.toArray t1)) b t2 (b := w.heap.size + 1) (by simp)).alloc _).alloc _).alloc _,
    ((Bf.new ((w.alloc (.cells a.toArray t1)).alloc (.cells b.toArray t2)) c t3 (b := w.heap.size + 2) (by simp)).alloc _).alloc _, (Bf.new (((w.alloc (.cells a.toArray t1)).alloc (.cells b.toArray t2)).alloc (.cells c.toArray t3)) d t4 (b := w.heap.size + 3) (by simp)).alloc _,
    Bf.new ((((w.alloc (.cells a.toArray t1)).alloc (.cells b.toArray t2)).alloc (.cells c.toArray t3)).alloc (.cells d.toArray t4)) [.slice none 0 0, .int .i64 0, .int .i64 0] t5 (b := w.heap.size + 4) (by simp),
    (below_four w _ _ _ _).alloc (by simp; omega) _⟩
theorem Mk.facts {a0 a1 a2 b0 b1 b2 c0 c1 c2 d0 d1 d2 d3 : Value} (h : Mk [a0, a1, a2] [b0, b1, b2] [c0, c1, c2] [d0, d1, d2, d3] w V) :
    (V.cell? ⟨w.heap.size, 0, none⟩ = some a0 ∧ V.cell? ⟨w.heap.size, 1, none⟩ = some a1 ∧ V.cell? ⟨w.heap.size, 2, none⟩ = some a2) ∧
    (V.cell? ⟨w.heap.size + 1, 0, none⟩ = some b0 ∧ V.cell? ⟨w.heap.size + 1, 1, none⟩ = some b1 ∧ V.cell? ⟨w.heap.size + 1, 2, none⟩ = some b2) ∧
    (V.cell? ⟨w.heap.size + 2, 0, none⟩ = some c0 ∧ V.cell? ⟨w.heap.size + 2, 1, none⟩ = some c1 ∧ V.cell? ⟨w.heap.size + 2, 2, none⟩ = some c2) ∧
    (V.cell? ⟨w.heap.size + 3, 0, none⟩ = some d0 ∧ V.cell? ⟨w.heap.size + 3, 1, none⟩ = some d1 ∧ V.cell? ⟨w.heap.size + 3, 2, none⟩ = some d2 ∧ V.cell? ⟨w.heap.size + 3, 3, none⟩ = some d3) :=
  ⟨⟨h.snap.cell 0 _ rfl, h.snap.cell 1 _ rfl, h.snap.cell 2 _ rfl⟩, ⟨h.spec.cell 0 _ rfl, h.spec.cell 1 _ rfl, h.spec.cell 2 _ rfl⟩, ⟨h.state.cell 0 _ rfl, h.state.cell 1 _ rfl, h.state.cell 2 _ rfl⟩, ⟨h.move.cell 0 _ rfl, h.move.cell 1 _ rfl, h.move.cell 2 _ rfl, h.move.cell 3 _ rfl⟩⟩
theorem Mk.facts2 (h : Mk a b c d w V) :
    (V.cell? ⟨w.heap.size + 4, 0, none⟩ = some (.slice none 0 0) ∧ V.cell? ⟨w.heap.size + 4, 1, none⟩ = some (.int .i64 0) ∧ V.cell? ⟨w.heap.size + 4, 2, none⟩ = some (.int .i64 0)) ∧
    (V.frozen? ⟨w.heap.size + 4, 0, none⟩ = false ∧ V.frozen? ⟨w.heap.size + 4, 1, none⟩ = false ∧ V.frozen? ⟨w.heap.size + 4, 2, none⟩ = false) ∧ w.heap.size + 4 < V.heap.size :=
  ⟨⟨h.res.cell 0 _ rfl, h.res.cell 1 _ rfl, h.res.cell 2 _ rfl⟩, ⟨h.res.frozen 0, h.res.frozen 1, h.res.frozen 2⟩, h.res.lt⟩
theorem Mk.no (h : Mk a b c d w V) {x y z : Value} : StateTo noState w (stateV none 0 0 0 0) (((V.setCell ⟨w.heap.size + 4, 0, none⟩ x).setCell ⟨w.heap.size + 4, 1, none⟩ y).setCell ⟨w.heap.size + 4, 2, none⟩ z) :=
  ⟨none, 0, rfl, Out.nil rfl, (by intro a e; cases e), ((h.below.setCell (by simp) _).setCell (by simp) _).setCell (by simp) _⟩
end
theorem Out.set {l : List PodD} {w : World} {A : Option Addr} {c : Nat} (h : Out 8 cellsP w l A c) {p : Addr} (hp : ∀ a, A = some a → a.block ≠ p.block) (v : Value) : Out 8 cellsP (w.setCell p v) l A c := by
  refine ⟨h.1, h.2.1, h.2.2.1, ?_⟩
  rcases h.2.2.2 with h0 | ⟨b, o, e, hb, hc⟩
  · exact .inl h0
  · refine .inr ⟨b, o, e, by simpa using hb, fun i hi j u hu => ?_⟩
    have := hp _ e
    rw [World.cell?_setCell_other _ _ _ _ (by intro e'; rw [e'] at this; exact this rfl)]
    exact hc i hi j u hu
set_option maxHeartbeats 6400000 in
set_option maxRecDepth 100000 in
theorem make_any (nodes : List NodeD) (x : List WantD) (t : StateD) (m : MoveD) (A1 A2 A3 A A4 : Option Addr) (n1 c1 n2 c2 n3 c3 n c n4 c4 : Nat) (v1 v2 : Value) (w : World)
    (hn1 : n1 = nodes.length) (hl1 : n1 ≤ 1000) (hr1 : Recs 10 cellsN w w.heap.size A1 nodes) (hn : n = x.length) (hl : n ≤ 1000) (hr : Recs 6 cellsW w w.heap.size A x) (hn4 : n4 = t.pods.length) (hl4 : n4 ≤ 1000) (h04 : A4 = none → c4 = 0) (hr4 : Recs 8 cellsP w w.heap.size A4 t.pods) :
    Calls Tryd.prog 14 #[.agg #[.slice A1 n1 c1, .slice A2 n2 c2, .slice A3 n3 c3], .agg #[.slice A n c, v1, v2], stateV A4 n4 c4 t.preempts t.shifts, aggM m] w
      fun e w' => ∃ v, e = .returned (.tuple #[v, codeV (makeD nodes x t m).2]) ∧ StateTo (makeD nodes x t m).1 w v w' := by
  have HR1 := Lib.hid hr1
  have HR := Lib.hid hr
  have HR4 := Lib.hid hr4
  have HN1 := Lib.hid hn1
  have HN := Lib.hid hn
  have HN4 := Lib.hid hn4
  have H04 := Lib.hid h04
  clear hr1 hr hr4 hn1 hn hn4 h04
  have M0 := Mk.new w [.slice A1 n1 c1, .slice A2 n2 c2, .slice A3 n3 c3] [.slice A n c, v1, v2] [.slice A4 n4 c4, .int .i64 t.preempts, .int .i64 t.shifts] [.int .i64 m.kind, .int .i64 m.pod, .int .i64 m.node, .int .i64 m.over] 26 29 31 46 31
  go_enter Tryd.func14, Tryd.ntmps14
  go_wp2_with fail
  refine (stateWell_any m _).mono ?_
  rintro e w1 ⟨rfl, hb1⟩
  have M1 := M0.keep hb1
  clear hb1 M0
  obtain ⟨⟨a0, a1, a2⟩, ⟨a3, a4, a5⟩, ⟨a6, a7, a8⟩, a9, a10, a11, a12⟩ := M1.facts
  obtain ⟨⟨r0, r1, r2⟩, ⟨z0, z1, z2⟩, hz⟩ := M1.facts2
  cases hw : wellD m with
  | false =>
    have HE := Lib.hid (show makeD nodes x t m = (noState, 1) by simp [makeD, hw])
    have HM := Lib.hid M1
    clear M1
    go_wp2
    refine bodyPost_ret (v := .tuple #[stateV none 0 0 0 0, codeV 1]) ?_ rfl ⟨_, by rw [HE.out], ?_⟩
    · simp [results, Tryd.results14, go_sem, codeV, *]
    · rw [HE.out]; exact HM.out.no
  | true =>
    have HT := Lib.hid (allThere_any nodes t.pods m A1 A2 A3 A4 n1 c1 n2 c2 n3 c3 n4 c4 (.int .i64 t.preempts) (.int .i64 t.shifts) w1 HN1.out hl1 HN4.out hl4 ((HR1.out.below M1.below (Nat.le_refl _)).more M1.below.size) ((HR4.out.below M1.below (Nat.le_refl _)).more M1.below.size))
    go_wp2_with fail
    refine HT.out.mono ?_
    rintro e w2 ⟨rfl, hb2⟩
    have M2 := M1.keep hb2
    clear hb2 M1 HT a0 a1 a2 a3 a4 a5 a6 a7 a8 a9 a10 a11 a12 r0 r1 r2 z0 z1 z2 hz
    obtain ⟨⟨a0, a1, a2⟩, ⟨a3, a4, a5⟩, ⟨a6, a7, a8⟩, a9, a10, a11, a12⟩ := M2.facts
    obtain ⟨⟨r0, r1, r2⟩, ⟨z0, z1, z2⟩, hz⟩ := M2.facts2
    cases hh : hereD nodes t.pods m with
    | false =>
      have HE := Lib.hid (show makeD nodes x t m = (noState, 4) by simp [makeD, hw, hh])
      have HM := Lib.hid M2
      clear M2
      go_wp2
      refine bodyPost_ret (v := .tuple #[stateV none 0 0 0 0, codeV 4]) ?_ rfl ⟨_, by rw [HE.out], ?_⟩
      · simp [results, Tryd.results14, go_sem, codeV, *]
      · rw [HE.out]; exact HM.out.no
    | true =>
      have HT := Lib.hid (canBeMade_any t.pods m A4 n4 c4 (.int .i64 t.preempts) (.int .i64 t.shifts) w2 HN4.out hl4 ((HR4.out.below M2.below (Nat.le_refl _)).more M2.below.size))
      go_wp2_with fail
      refine HT.out.mono ?_
      rintro e w3 ⟨rfl, hb3⟩
      have M3 := M2.keep hb3
      clear hb3 M2 HT a0 a1 a2 a3 a4 a5 a6 a7 a8 a9 a10 a11 a12 r0 r1 r2 z0 z1 z2 hz
      obtain ⟨⟨a0, a1, a2⟩, ⟨a3, a4, a5⟩, ⟨a6, a7, a8⟩, a9, a10, a11, a12⟩ := M3.facts
      obtain ⟨⟨r0, r1, r2⟩, ⟨z0, z1, z2⟩, hz⟩ := M3.facts2
      cases hc : canD t.pods m with
      | false =>
        have HE := Lib.hid (show makeD nodes x t m = (noState, 7) by simp [makeD, hw, hh, hc])
        have HM := Lib.hid M3
        clear M3
        go_wp2
        refine bodyPost_ret (v := .tuple #[stateV none 0 0 0 0, codeV 7]) ?_ rfl ⟨_, by rw [HE.out], ?_⟩
        · simp [results, Tryd.results14, go_sem, codeV, *]
        · rw [HE.out]; exact HM.out.no
      | true =>
        have HE := Lib.hid (show makeD nodes x t m = (behindD x t m, 0) by simp [makeD, hw, hh, hc])
        have HT := Lib.hid (behind_any x t m (well_kinds hw) (here_pod hh) (here_over hh hc) A A4 n c n4 c4 v1 v2 w3 HN.out hl ((HR.out.below M3.below (Nat.le_refl _)).more M3.below.size) HN4.out hl4 H04.out ((HR4.out.below M3.below (Nat.le_refl _)).more M3.below.size))
        go_wp2_with fail
        refine HT.out.mono ?_
        rintro e w4 ⟨_, rfl, A5, c5, rfl, ho, hfr, hb4⟩
        have M4 := M3.keep hb4
        have hfr5 : ∀ a, A5 = some a → a.block ≠ w.heap.size + 4 := fun a ha => by have := hfr a ha; omega
        have hfr6 : ∀ a, A5 = some a → w.heap.size ≤ a.block := fun a ha => by have := hfr a ha; omega
        generalize hu : behindD x t m = u at *
        have HM := Lib.hid M4
        have HOU := Lib.hid ho
        have HF5 := Lib.hid (And.intro hfr5 hfr6)
        clear M3 ho hfr hb4 HT hu hfr5 hfr6 a0 a1 a2 a3 a4 a5 a6 a7 a8 a9 a10 a11 a12 r0 r1 r2 z0 z1 z2 hz
        obtain ⟨⟨r0, r1, r2⟩, ⟨z0, z1, z2⟩, hz⟩ := M4.facts2
        clear M4
        go_wp2
        refine bodyPost_ret (v := .tuple #[stateV A5 u.pods.length c5 u.preempts u.shifts, codeV 0]) ?_ rfl ⟨_, by rw [HE.out], ?_⟩
        · simp [results, Tryd.results14, go_sem, codeV, *]
        · rw [HE.out]
          exact ⟨A5, c5, rfl, ((HOU.out.set (p := ⟨w.heap.size + 4, 0, none⟩) HF5.out.1 _).set (p := ⟨w.heap.size + 4, 1, none⟩) HF5.out.1 _).set (p := ⟨w.heap.size + 4, 2, none⟩) HF5.out.1 _, HF5.out.2, ((HM.out.below.setCell (by simp; omega) _).setCell (by simp; omega) _).setCell (by simp; omega) _⟩
end Go.Proofs.YtokghlmccecpfaaDoor

/- Plain mathematics of how many of a load are somewhere. -/
namespace Go.Proofs.YtokghlmccecpfaaDoor
set_option linter.unusedSimpArgs false
open Go.RowKit
set_option linter.unusedVariables false

/-- Is a pod of this load, somewhere? -/
def inS (load : Int) (p : PodD) : Bool := p.load == load && p.node != 0
/-- A load's size. -/
def sizeD (load : Int) (l : List PodD) : Nat := l.countP (inS load)
def one9 (b : Bool) : Int := if b = true then 1 else 0
theorem size_le9 (load : Int) (l : List PodD) : sizeD load l ≤ l.length := List.countP_le_length
theorem size_next9 {load : Int} {l : List PodD} {k : Nat} (h : k < l.length) {p : PodD} (hx : l[k] = p) : sizeD load (l.take (k + 1)) = sizeD load (l.take k) + if inS load p = true then 1 else 0 := by
  unfold sizeD
  rw [List.take_succ_eq_append_getElem h, hx, List.countP_append]
  simp [List.countP_cons]
theorem size_in9 {load : Int} {l : List PodD} {k : Nat} (h : k < l.length) {p : PodD} (hx : l[k] = p) (hl : p.load = load) (hn : p.node ≠ 0) : sizeD load (l.take (k + 1)) = sizeD load (l.take k) + 1 := by
  rw [size_next9 h hx, if_pos (by simp [inS, hl, hn])]
theorem size_out9 {load : Int} {l : List PodD} {k : Nat} (h : k < l.length) {p : PodD} (hx : l[k] = p) (ho : p.load = load → p.node = 0) : sizeD load (l.take (k + 1)) = sizeD load (l.take k) := by
  rw [size_next9 h hx, if_neg (by simp [inS]; exact ho)]
  rfl
theorem size_end9 {load : Int} {l : List PodD} {k : Nat} (h : l.length ≤ k) : sizeD load (l.take k) = sizeD load l := by rw [List.take_of_length_le h]
theorem size_set9 (load : Int) (l : List PodD) {i : Nat} (hi : i < l.length) (p : PodD) : (sizeD load (l.set i p) : Int) = (sizeD load l : Int) - one9 (inS load l[i]) + one9 (inS load p) := by
  unfold sizeD
  have h1 : l.countP (inS load) = (l.take i).countP (inS load) + ((if inS load l[i] = true then 1 else 0) + (l.drop (i + 1)).countP (inS load)) := by
    conv => lhs; rw [← List.take_append_drop i l, List.drop_eq_getElem_cons hi, List.countP_append, List.countP_cons]
    omega
  have h2 : (l.set i p).countP (inS load) = (l.take i).countP (inS load) + ((if inS load p = true then 1 else 0) + (l.drop (i + 1)).countP (inS load)) := by
    rw [List.set_eq_take_append_cons_drop, if_pos hi, List.countP_append, List.countP_cons]
    omega
  rw [h1, h2]
  unfold one9
  split <;> split <;> omega
theorem inS_go (load : Int) (p : PodD) : inS load (goD p) = false := by simp [inS, goD]
theorem inS_come {load node : Int} (x : List WantD) (p : PodD) (h : node ≠ 0) : inS load (comeD x node p) = (p.load == load) := by simp [inS, comeD, h]
theorem inS_some {load : Int} {p : PodD} (h : p.node ≠ 0) : inS load p = (p.load == load) := by simp [inS, h]
theorem inS_none {load : Int} {p : PodD} (h : p.node = 0) : inS load p = false := by simp [inS, h]
/-- What a load's size is to be behind a move. -/
def want9 (load : Int) (t : StateD) (m : MoveD) : Int :=
  (sizeD load t.pods : Int) - one9 (m.kind == 2 && (podZ m.pod t.pods).load == load) + one9 ((m.kind == 1 || m.kind == 4) && (podZ m.pod t.pods).load == load) - one9 (m.kind == 4 && (podZ m.over t.pods).load == load)
theorem size_behind9 {ns : List NodeD} {x : List WantD} {t : StateD} {m : MoveD} (load : Int) (h1 : wellD m = true) (h2 : hereD ns t.pods m = true) (h3 : canD t.pods m = true) (hn : m.kind = 2 ∨ m.node ≠ 0) : (sizeD load (behindD x t m).pods : Int) = want9 load t m := by
  obtain ⟨i, hi, hp⟩ := place_hit (here_pod h2)
  have ei : idxD m.pod t.pods = i := by rw [idxD, hp]; rfl
  have ez := podZ_some hi hp
  have hk := well_kinds h1
  have ho := here_over h2 h3
  unfold canD at h3
  unfold behindD want9
  rw [ei, ez]
  rw [ez] at h3
  by_cases k2 : m.kind = 2
  · rw [if_pos k2] at h3 ⊢
    have hne : t.pods[i].node ≠ 0 := by simpa using h3
    dsimp only
    rw [size_set9 load t.pods hi, inS_go, inS_some hne]
    simp [k2, one9]
  rw [if_neg k2] at h3 ⊢
  have hn' : m.node ≠ 0 := hn.resolve_left k2
  by_cases k3 : m.kind = 3
  · rw [if_pos k3] at h3 ⊢
    have hne : t.pods[i].node ≠ 0 := by simp at h3; exact h3.1
    dsimp only
    rw [size_set9 load t.pods hi, inS_come x _ hn', inS_some hne]
    simp [k3, one9]
  rw [if_neg k3] at h3 ⊢
  by_cases k4 : m.kind = 4
  · rw [if_pos k4] at h3 ⊢
    obtain ⟨hov, hne⟩ := ho k4
    obtain ⟨k, hk', hpk⟩ := place_hit hov
    have ek : idxD m.over t.pods = k := by rw [idxD, hpk]; rfl
    have ezk := podZ_some hk' hpk
    have hki : k ≠ i := fun e => by
      subst e
      exact hne ((place_is hk' hpk).symm.trans (place_is hi hp))
    rw [ezk] at h3 ⊢
    rw [ek]
    have h30 : t.pods[i].node = 0 := by simp at h3; exact h3.1
    have h3k : t.pods[k].node = m.node := by simp at h3; exact h3.2.2
    dsimp only
    rw [size_set9 load _ (by simpa using hi), List.getElem_set_ne hki, size_set9 load t.pods hk', inS_go, inS_come x _ hn', inS_some (show t.pods[k].node ≠ 0 by rw [h3k]; exact hn'), inS_none h30]
    simp [k4, one9]
    omega
  · rw [if_neg k4] at h3 ⊢
    have h30 : t.pods[i].node = 0 := by simpa using h3
    have k1 : m.kind = 1 := by omega
    dsimp only
    rw [size_set9 load t.pods hi, inS_come x _ hn', inS_none h30]
    simp [k1, one9]
theorem size_made9 {ns : List NodeD} {x : List WantD} {t : StateD} {m : MoveD} (h : (makeD ns x t m).2 = 0) (load : Int) (hn : m.kind = 2 ∨ m.node ≠ 0) : (sizeD load (makeD ns x t m).1.pods : Int) = want9 load t m := by
  unfold makeD at h ⊢
  split at h
  · cases h
  · split at h
    · cases h
    · split at h
      · cases h
      · rename_i q1 q2 q3
        rw [if_neg q1, if_neg q2, if_neg q3]
        exact size_behind9 load (by simpa using q1) (by simpa using q2) (by simpa using q3) hn
theorem made_len9 {ns : List NodeD} {x : List WantD} {t : StateD} {m : MoveD} (h : (makeD ns x t m).2 = 0) : (makeD ns x t m).1.pods.length = t.pods.length := by
  have e : (makeD ns x t m).1 = behindD x t m := by
    unfold makeD at h ⊢
    split at h
    · cases h
    · split at h
      · cases h
      · split at h
        · cases h
        · rename_i q1 q2 q3
          rw [if_neg q1, if_neg q2, if_neg q3]
  rw [e]
  unfold behindD
  split
  · simp
  · split
    · simp
    · split <;> simp

/-! Which load is at fault. -/
def fault9 (x : LoadD) (n : Int) : Int := if n < x.min then 12 else if x.max < n then 13 else 0
theorem fault9_few {x : LoadD} {n : Int} (h : n < x.min) : fault9 x n = 12 := by rw [fault9, if_pos h]
theorem fault9_many {x : LoadD} {n : Int} (h1 : ¬ n < x.min) (h : x.max < n) : fault9 x n = 13 := by rw [fault9, if_neg h1, if_pos h]
theorem fault9_none {x : LoadD} {n : Int} (h1 : ¬ n < x.min) (h : ¬ x.max < n) : fault9 x n = 0 := by rw [fault9, if_neg h1, if_neg h]
/-- The first load, behind k others, whose size is at fault. -/
def budgetFrom (l : List PodD) : List LoadD → Nat → Int × Int
  | [], _ => (0, -1)
  | x :: r, k => if fault9 x (sizeD x.id l : Nat) = 0 then budgetFrom l r (k + 1) else (fault9 x (sizeD x.id l : Nat), (k : Int))
def budgetOf (ls : List LoadD) (l : List PodD) : Int × Int := budgetFrom l ls 0
theorem budgetFrom_at {l : List PodD} {ls : List LoadD} {k : Nat} {z : Int × Int} (h : k < ls.length) {x : LoadD} (hx : ls[k] = x) (hp : budgetFrom l (ls.drop k) k = z) :
    (fault9 x (sizeD x.id l : Nat) ≠ 0 → z = (fault9 x (sizeD x.id l : Nat), (k : Int))) ∧ (fault9 x (sizeD x.id l : Nat) = 0 → budgetFrom l (ls.drop (k + 1)) (k + 1) = z) := by
  rw [List.drop_eq_getElem_cons h, hx, budgetFrom] at hp
  constructor
  · intro e; rw [if_neg e] at hp; exact hp.symm
  · intro e; rw [if_pos e] at hp; exact hp
theorem budgetFrom_end {l : List PodD} {ls : List LoadD} {k : Nat} {z : Int × Int} (h : ls.length ≤ k) (hp : budgetFrom l (ls.drop k) k = z) : z = (0, -1) := by
  rw [List.drop_of_length_le h] at hp
  exact hp.symm
def usedD (x1 x2 t1 t2 : Int) : Bool := decide (x1 < t1) || decide (x2 < t2)
end Go.Proofs.YtokghlmccecpfaaDoor

/- Plain mathematics of nodes' room; no program stands in it. -/
namespace Go.Proofs.YtokghlmccecpfaaDoor
set_option linter.unusedSimpArgs false
open Go.RowKit
set_option linter.unusedVariables false

def V4.add (x y : V4) : V4 := ⟨x.a + y.a, x.b + y.b, x.c + y.c, x.d + y.d⟩
def V4.sub (x y : V4) : V4 := ⟨x.a - y.a, x.b - y.b, x.c - y.c, x.d - y.d⟩
def V4.zer : V4 := ⟨0, 0, 0, 0⟩
def V4.small (x : V4) : Bool := decide (x.a < 18446744073709551616 ∧ x.b < 18446744073709551616 ∧ x.c < 18446744073709551616 ∧ x.d < 18446744073709551616)
/-- The sum, or none: it goes over. -/
def addV (x y : V4) : Option V4 := if (x.add y).small then some (x.add y) else none
/-- The difference, or none: it goes below 0. -/
def subV (x y : V4) : Option V4 := if y.le x then some (x.sub y) else none
def totV : List V4 → V4
  | [] => .zer
  | x :: r => x.add (totV r)
def sumV (l : List V4) : Option V4 := if (totV l).small then some (totV l) else none
def reqsAt (node : Int) : List PodD → List V4
  | [] => []
  | p :: r => if p.node = node then p.req :: reqsAt node r else reqsAt node r
/-- A node's use, or none: it goes over. -/
def useD (l : List PodD) (node : Int) : Option V4 := sumV (reqsAt node l)
/-- What is left of a node beside a use, or none. -/
def leftD (n : NodeD) (u : V4) : Option V4 := match subV n.cap n.held with
  | none => none
  | some f => subV f u
def nodeAt (id : Int) : List NodeD → Option NodeD
  | [] => none
  | x :: r => if x.id = id then some x else nodeAt id r
/-- A node's rest, and an error's number. -/
def restD (ns : List NodeD) (l : List PodD) (id : Int) : V4 × Int :=
  match nodeAt id ns with
  | none => (.zer, 4)
  | some n => match useD l id with
    | none => (.zer, 8)
    | some u => match leftD n u with
      | none => (.zer, 9)
      | some r => (r, 0)
def roomD (ns : List NodeD) (l : List PodD) : List NodeD → Nat → Int × Int
  | [], _ => (0, -1)
  | n :: r, k => if (restD ns l n.id).2 ≠ 0 then ((restD ns l n.id).2, (k : Int)) else roomD ns l r (k + 1)
/-- The first node at fault: an error's number, and its place. -/
def roomOf (ns : List NodeD) (l : List PodD) : Int × Int := roomD ns l ns 0

theorem rest_none {ns : List NodeD} {l : List PodD} {id : Int} (h : nodeAt id ns = none) : restD ns l id = (.zer, 4) := by simp only [restD, h]
theorem rest_over {ns : List NodeD} {l : List PodD} {id : Int} {n : NodeD} (h : nodeAt id ns = some n) (h2 : useD l id = none) : restD ns l id = (.zer, 8) := by simp only [restD, h, h2]
theorem rest_room {ns : List NodeD} {l : List PodD} {id : Int} {n : NodeD} {u : V4} (h : nodeAt id ns = some n) (h2 : useD l id = some u) (h3 : leftD n u = none) : restD ns l id = (.zer, 9) := by simp only [restD, h, h2, h3]
theorem rest_some {ns : List NodeD} {l : List PodD} {id : Int} {n : NodeD} {u r : V4} (h : nodeAt id ns = some n) (h2 : useD l id = some u) (h3 : leftD n u = some r) : restD ns l id = (r, 0) := by simp only [restD, h, h2, h3]
theorem left_none {n : NodeD} {u : V4} (h : subV n.cap n.held = none) : leftD n u = none := by simp only [leftD, h]
theorem left_some {n : NodeD} {u f : V4} (h : subV n.cap n.held = some f) : leftD n u = subV f u := by simp only [leftD, h]
theorem rest_vals (ns : List NodeD) (l : List PodD) (id : Int) : ((restD ns l id).2 = 0) ∨ ((restD ns l id).1 = .zer ∧ ((restD ns l id).2 = 4 ∨ (restD ns l id).2 = 8 ∨ (restD ns l id).2 = 9)) := by
  rcases h1 : nodeAt id ns with _ | n
  · rw [rest_none h1]; simp
  · rcases h2 : useD l id with _ | u
    · rw [rest_over h1 h2]; simp
    · rcases h3 : leftD n u with _ | r
      · rw [rest_room h1 h2 h3]; simp
      · rw [rest_some h1 h2 h3]; simp
theorem rest_zero {ns : List NodeD} {l : List PodD} {id : Int} : (restD ns l id).2 = 0 ↔ ∃ n u r, nodeAt id ns = some n ∧ useD l id = some u ∧ leftD n u = some r ∧ restD ns l id = (r, 0) := by
  constructor
  · intro h
    rcases h1 : nodeAt id ns with _ | n
    · rw [rest_none h1] at h; cases h
    · rcases h2 : useD l id with _ | u
      · rw [rest_over h1 h2] at h; cases h
      · rcases h3 : leftD n u with _ | r
        · rw [rest_room h1 h2 h3] at h; cases h
        · exact ⟨n, u, r, rfl, rfl, h3, rest_some h1 h2 h3⟩
  · rintro ⟨n, u, r, _, _, _, h⟩; rw [h]

theorem nodeAt_no {id : Int} : ∀ {l : List NodeD} {k : Int}, 0 ≤ k → place NodeD.id id l k < 0 → nodeAt id l = none
  | [], _, _, _ => rfl
  | x :: r, k, hk, h => by
    by_cases e : x.id = id
    · simp [place, e] at h; omega
    · simp only [place, if_neg e] at h
      simp only [nodeAt, if_neg e]
      exact nodeAt_no (k := k + 1) (by omega) h
theorem nodeAt_yes {id : Int} : ∀ {l : List NodeD} {k : Int} {i : Nat} (h : i < l.length), 0 ≤ k → place NodeD.id id l k = k + i → nodeAt id l = some l[i]
  | [], _, _, h, _, _ => by simp at h
  | x :: r, k, i, h, hk, hp => by
    by_cases e : x.id = id
    · simp only [place, if_pos e] at hp
      obtain rfl : i = 0 := by omega
      simp [nodeAt, e]
    · simp only [place, if_neg e] at hp
      cases i with
      | zero => have := place_ge (f := NodeD.id) (id := id) (l := r) (k := k + 1) (by omega); rw [hp] at this; exfalso
                have h2 : k + 1 ≤ place NodeD.id id r (k + 1) ∨ place NodeD.id id r (k + 1) < 0 := by
                  by_cases hn : place NodeD.id id r (k + 1) < 0
                  · exact .inr hn
                  · left
                    have : ∀ (r : List NodeD) (k : Int), 0 ≤ k → place NodeD.id id r k < 0 ∨ k ≤ place NodeD.id id r k := by
                      intro r
                      induction r with
                      | nil => intro k _; left; simp [place]
                      | cons y r ih => intro k hk; by_cases e : y.id = id <;> simp only [place, e, if_true, if_false]; exact .inr (Int.le_refl _); rcases ih (k + 1) (by omega) with h | h; exact .inl h; exact .inr (by omega)
                    rcases this r (k + 1) (by omega) with h | h
                    · exact absurd h hn
                    · exact h
                omega
      | succ i =>
        simp only [nodeAt, if_neg e]
        rw [nodeAt_yes (l := r) (k := k + 1) (i := i) (by simpa using h) (by omega) (by omega)]
        simp
/-- A node ahead of which none has its Id is the one of its Id. -/
theorem nodeAt_first {l : List NodeD} {i : Nat} (h : i < l.length) (hf : ∀ j (hj : j < i), (l[j]'(by omega)).id ≠ l[i].id) : nodeAt l[i].id l = some l[i] :=
  nodeAt_yes (k := 0) h (Int.le_refl _) (by have := place_at (f := NodeD.id) (id := l[i].id) (l := l) (k := 0) h rfl hf; omega)

theorem roomD_at {ns : List NodeD} {l : List PodD} {m : List NodeD} {k : Nat} {p : Int × Int} (h : k < m.length) {n : NodeD} (hn : m[k] = n) (hp : roomD ns l (m.drop k) k = p) :
    ((restD ns l n.id).2 ≠ 0 → p = ((restD ns l n.id).2, (k : Int))) ∧ ((restD ns l n.id).2 = 0 → roomD ns l (m.drop (k + 1)) (k + 1) = p) := by
  rw [List.drop_eq_getElem_cons h, hn, roomD] at hp
  constructor
  · intro e; rw [if_pos e] at hp; exact hp.symm
  · intro e; rw [if_neg (by simpa using e)] at hp; exact hp
theorem roomD_end {ns : List NodeD} {l : List PodD} {m : List NodeD} {k : Nat} {p : Int × Int} (h : m.length ≤ k) (hp : roomD ns l (m.drop k) k = p) : p = (0, -1) := by
  rw [List.drop_of_length_le h, roomD] at hp; exact hp.symm
theorem roomD_all {ns : List NodeD} {l : List PodD} : ∀ {m : List NodeD} {k : Nat}, (roomD ns l m k).1 = 0 ↔ ∀ n ∈ m, (restD ns l n.id).2 = 0
  | [], _ => by simp [roomD]
  | n :: r, k => by
    by_cases e : (restD ns l n.id).2 = 0
    · simp [roomD, e, roomD_all (m := r) (k := k + 1)]
    · simp [roomD, e]
theorem roomD_pair {ns : List NodeD} {l : List PodD} : ∀ {m : List NodeD} {k : Nat}, (roomD ns l m k).1 = 0 → roomD ns l m k = (0, -1)
  | [], _, _ => by simp [roomD]
  | n :: r, k, h => by
    by_cases e : (restD ns l n.id).2 = 0
    · simp only [roomD, e, ne_eq, not_true_eq_false, if_false] at h ⊢
      exact roomD_pair h
    · simp [roomD, e] at h

theorem V4.eta (x : V4) : x = ⟨x.a, x.b, x.c, x.d⟩ := by cases x; rfl
theorem add_small {x y z : V4} (h : addV x y = some z) : z = x.add y ∧ (x.add y).small = true := by
  unfold addV at h
  split at h
  · rename_i hs; exact ⟨(Option.some.inj h).symm, hs⟩
  · cases h
theorem sub_le {x y z : V4} (h : subV x y = some z) : z = x.sub y ∧ y.le x = true := by
  unfold subV at h
  split at h
  · rename_i hs; exact ⟨(Option.some.inj h).symm, hs⟩
  · cases h
theorem sub_ok4 {x y z : V4} (hx : x.Ok) (hy : y.Ok) (h : subV x y = some z) : z.Ok := by
  obtain ⟨rfl, hl⟩ := sub_le h
  simp only [V4.le, decide_eq_true_eq] at hl
  simp only [V4.Ok, U64, V4.sub] at *
  omega
theorem add_ok4 {x y z : V4} (hx : x.Ok) (hy : y.Ok) (h : addV x y = some z) : z.Ok := by
  obtain ⟨rfl, hl⟩ := add_small h
  simp only [V4.small, decide_eq_true_eq] at hl
  simp only [V4.Ok, U64, V4.add] at *
  omega
theorem tot_pos : ∀ {l : List V4}, (∀ x ∈ l, x.Ok) → 0 ≤ (totV l).a ∧ 0 ≤ (totV l).b ∧ 0 ≤ (totV l).c ∧ 0 ≤ (totV l).d
  | [], _ => by simp [totV, V4.zer]
  | x :: r, h => by
    have h1 := tot_pos (l := r) (fun y hy => h y (List.mem_cons_of_mem _ hy))
    have h2 := h x (List.mem_cons_self ..)
    simp only [V4.Ok, U64] at h2
    simp only [totV, V4.add]
    omega
theorem sum_ok4 {l : List V4} {u : V4} (h : ∀ x ∈ l, x.Ok) (hu : sumV l = some u) : u.Ok := by
  have hp := tot_pos h
  unfold sumV at hu
  split at hu
  · rename_i hs
    have := Option.some.inj hu
    subst this
    simp only [V4.small, decide_eq_true_eq] at hs
    simp only [V4.Ok, U64]
    omega
  · cases hu
theorem reqs_ok {node : Int} : ∀ {l : List PodD}, (∀ p ∈ l, p.Ok) → ∀ x ∈ reqsAt node l, x.Ok
  | [], _, x, hx => by simp [reqsAt] at hx
  | p :: r, h, x, hx => by
    unfold reqsAt at hx
    split at hx
    · rcases List.mem_cons.1 hx with rfl | hx
      · exact (h p (List.mem_cons_self ..)).2.2.2.1
      · exact reqs_ok (fun q hq => h q (List.mem_cons_of_mem _ hq)) x hx
    · exact reqs_ok (fun q hq => h q (List.mem_cons_of_mem _ hq)) x hx
theorem use_ok {l : List PodD} {node : Int} {u : V4} (h : ∀ p ∈ l, p.Ok) (hu : useD l node = some u) : u.Ok := sum_ok4 (reqs_ok h) hu
theorem reqs_len (node : Int) : ∀ l : List PodD, (reqsAt node l).length ≤ l.length
  | [] => Nat.le_refl _
  | p :: r => by
    have := reqs_len node r
    unfold reqsAt
    split <;> simp <;> omega
theorem reqs_append (node : Int) : ∀ (l m : List PodD), reqsAt node (l ++ m) = reqsAt node l ++ reqsAt node m
  | [], m => rfl
  | p :: r, m => by
    rw [List.cons_append, reqsAt, reqsAt, reqs_append node r m]
    split <;> simp
theorem reqs_take {node : Int} {l : List PodD} {k : Nat} (h : k < l.length) {p : PodD} (hp : l[k] = p) :
    (p.node = node → reqsAt node (l.take (k + 1)) = reqsAt node (l.take k) ++ [p.req]) ∧ (p.node ≠ node → reqsAt node (l.take (k + 1)) = reqsAt node (l.take k)) := by
  rw [List.take_succ_eq_append_getElem h, reqs_append, hp]
  constructor
  · intro e; simp [reqsAt, e]
  · intro e; simp [reqsAt, e]
theorem nodeAt_ok {id : Int} {n : NodeD} : ∀ {l : List NodeD}, (∀ x ∈ l, x.Ok) → nodeAt id l = some n → n.Ok
  | [], _, h => by simp [nodeAt] at h
  | x :: r, ho, h => by
    unfold nodeAt at h
    split at h
    · obtain rfl := Option.some.inj h; exact ho _ (List.mem_cons_self ..)
    · exact nodeAt_ok (fun y hy => ho y (List.mem_cons_of_mem _ hy)) h
theorem left_ok {n : NodeD} {u r : V4} (hn : n.Ok) (hu : u.Ok) (h : leftD n u = some r) : r.Ok := by
  unfold leftD at h
  split at h
  · cases h
  · rename_i f hf
    exact sub_ok4 (sub_ok4 hn.2.2.1 hn.2.2.2 hf) hu h
/-- Use and rest together are what there is but for what is held. -/
theorem left_whole {n : NodeD} {u r : V4} (hn : n.Ok) (hu : u.Ok) (h : leftD n u = some r) : addV r u = some (n.cap.sub n.held) ∧ addV (n.cap.sub n.held) n.held = some n.cap := by
  unfold leftD at h
  split at h
  · cases h
  · rename_i f hf
    obtain ⟨rfl, hl⟩ := sub_le hf
    obtain ⟨rfl, hl2⟩ := sub_le h
    obtain ⟨_, _, hc, hh⟩ := hn
    simp only [V4.le, decide_eq_true_eq, V4.sub] at hl hl2
    simp only [V4.Ok, U64] at hc hh hu
    constructor
    · have e : ((n.cap.sub n.held).sub u).add u = n.cap.sub n.held := by simp [V4.add, V4.sub, Int.sub_add_cancel]
      unfold addV
      rw [e, if_pos]
      simp only [V4.small, V4.sub]
      exact decide_eq_true ⟨by omega, by omega, by omega, by omega⟩
    · have e : (n.cap.sub n.held).add n.held = n.cap := by
        show V4.mk _ _ _ _ = n.cap
        simp only [V4.sub, Int.sub_add_cancel]
      unfold addV
      rw [e, if_pos]
      simp only [V4.small, decide_eq_true_eq]
      omega

theorem le_trans4 {x y z : V4} (h : x.le y = true) (h2 : y.le z = true) : x.le z = true := by
  simp only [V4.le, decide_eq_true_eq] at *; omega
theorem tot_append : ∀ (l m : List V4), totV (l ++ m) = (totV l).add (totV m)
  | [], m => by simp [totV, V4.add, V4.zer]
  | x :: r, m => by rw [List.cons_append, totV, tot_append r m]; simp [totV, V4.add, Int.add_assoc]
theorem sum_less {l m k : List V4} {u : V4} (hk : ∀ x ∈ k, x.Ok) (h : sumV (l ++ (k ++ m)) = some u) : ∃ u', sumV (l ++ m) = some u' ∧ u'.le u = true := by
  have hp := tot_pos hk
  unfold sumV at h
  split at h
  · rename_i hs
    have hu := Option.some.inj h
    rw [tot_append, tot_append] at hs hu
    simp only [V4.small, V4.add] at hs
    have hs := of_decide_eq_true hs
    refine ⟨totV (l ++ m), ?_, ?_⟩
    · unfold sumV
      rw [tot_append, if_pos]
      simp only [V4.small, V4.add]
      exact decide_eq_true ⟨by omega, by omega, by omega, by omega⟩
    · rw [← hu, tot_append]
      simp only [V4.le, V4.add]
      exact decide_eq_true ⟨by omega, by omega, by omega, by omega⟩
  · cases h
/-- With a pod less a use that didn't go over doesn't, and is no greater. -/
theorem use_less {l : List PodD} {node : Int} {u : V4} {i : Nat} (hi : i < l.length) (ho : ∀ p ∈ l, p.Ok) (h : useD l node = some u) : ∃ u', useD (l.take i ++ l.drop (i + 1)) node = some u' ∧ u'.le u = true := by
  have e : l = l.take i ++ ([l[i]] ++ l.drop (i + 1)) := by
    have := List.drop_eq_getElem_cons hi
    rw [List.singleton_append, ← this, List.take_append_drop]
  unfold useD at h ⊢
  rw [e, reqs_append, reqs_append] at h
  rw [reqs_append]
  exact sum_less (reqs_ok (fun p hp => by obtain rfl := List.mem_singleton.1 hp; exact ho _ (List.getElem_mem hi))) h
theorem left_less {n : NodeD} {u u' r : V4} (hu : u'.le u = true) (h : leftD n u = some r) : ∃ r', leftD n u' = some r' := by
  unfold leftD at h ⊢
  split at h
  · cases h
  · rename_i f hf
    obtain ⟨_, hl⟩ := sub_le h
    exact ⟨f.sub u', by unfold subV; rw [if_pos (le_trans4 hu hl)]⟩
theorem room_less {ns : List NodeD} {l : List PodD} {i : Nat} (hi : i < l.length) (ho : ∀ p ∈ l, p.Ok) (h : (roomOf ns l).1 = 0) : roomOf ns (l.take i ++ l.drop (i + 1)) = (0, -1) := by
  refine roomD_pair (roomD_all.2 fun n hn => ?_)
  obtain ⟨m, u, r, h1, h2, h3, _⟩ := rest_zero.1 (roomD_all.1 h n hn)
  obtain ⟨u', h4, h5⟩ := use_less hi ho h2
  obtain ⟨r', h6⟩ := left_less h5 h3
  rw [rest_some h1 h4 h6]
end Go.Proofs.YtokghlmccecpfaaDoor

/- Contracts of the small functions: sums and differences of 64 bits, halves, one sum of the reference. -/
namespace Go.Proofs.YtokghlmccecpfaaDoor
set_option linter.unusedSimpArgs false
open Go.RowKit
set_option linter.unusedVariables false

theorem below_drewN {B : Nat} {a w : World} (h : Below B a w) (n : Nat) : Below B a (w.drewN n) := ⟨h.os, h.tape, h.output, h.size, h.block⟩
theorem bcell {W w1 : World} (hb : Below W.heap.size W w1) : (∀ b o, b < W.heap.size → w1.cell? ⟨b, o, none⟩ = W.cell? ⟨b, o, none⟩) ∧ (∀ b o, b < W.heap.size → w1.frozen? ⟨b, o, none⟩ = W.frozen? ⟨b, o, none⟩) :=
  ⟨fun b o h => hb.cell (p := ⟨b, o, none⟩) h, fun b o h => hb.frozen (p := ⟨b, o, none⟩) h⟩
theorem quiet_left0 {P : Program} {f : FuncId} {args : Array Value} {w : World} {n : Nat} {v : Value}
    (h : Calls P f args (w.drewN n) fun e w' => e = .returned v ∧ w.drewN n = w') : Calls P f args (w.drewN n) fun e w'' => e = .returned v ∧ ∃ m, w'' = w.drewN m :=
  h.mono fun _ _ ⟨he, hm⟩ => ⟨he, n, hm.symm⟩
theorem quiet_left1 {P : Program} {f : FuncId} {args : Array Value} {w : World} {a n : Nat} {v : Value}
    (h : Calls P f args (w.drewN (a + n)) fun e w' => e = .returned v ∧ w.drewN (a + n) = w') :
    Calls P f args (w.drewN (a + n)) fun e w'' => e = .returned v ∧ ∃ m, w'' = w.drewN (a + m) :=
  h.mono fun _ _ ⟨he, hm⟩ => ⟨he, n, hm.symm⟩

theorem one_num (x y : Int) : (x / 4294967296 + y / 4294967296 + (x % 4294967296 + y % 4294967296) / 4294967296) * 4294967296 + (x + y) % 4294967296 = x + y := by omega
theorem ret_ib {a b : Int} {t : Bool} (h : a = b) : Ending.returned (.tuple #[.int .u64 a, .bool t]) = .returned (.tuple #[.int .u64 b, .bool t]) := by rw [h]
end Go.Proofs.YtokghlmccecpfaaDoor

/- vec.Add: the four sums, or ErrOver. -/
namespace Go.Proofs.YtokghlmccecpfaaDoor
set_option linter.unusedSimpArgs false
open Go.RowKit
set_option linter.unusedVariables false

end Go.Proofs.YtokghlmccecpfaaDoor

/- vec.Sub: the four differences, or ErrOver. -/
namespace Go.Proofs.YtokghlmccecpfaaDoor
set_option linter.unusedSimpArgs false
open Go.RowKit
set_option linter.unusedVariables false

end Go.Proofs.YtokghlmccecpfaaDoor

/- The reference's Add. -/
namespace Go.Proofs.YtokghlmccecpfaaDoor
set_option linter.unusedSimpArgs false
open Go.RowKit
set_option linter.unusedVariables false

end Go.Proofs.YtokghlmccecpfaaDoor

/- Rows of four cells; how amounts lie in a slice; vec.Sum. -/
namespace Go.Proofs.YtokghlmccecpfaaDoor
set_option linter.unusedSimpArgs false
open Go.RowKit
set_option linter.unusedVariables false

/-- A block whose four cells are known and may be written. -/
structure Row4 (w : World) (b : Nat) (u0 u1 u2 u3 : Value) : Prop where
  c0 : w.cell? ⟨b, 0, none⟩ = some u0
  c1 : w.cell? ⟨b, 1, none⟩ = some u1
  c2 : w.cell? ⟨b, 2, none⟩ = some u2
  c3 : w.cell? ⟨b, 3, none⟩ = some u3
  f0 : w.frozen? ⟨b, 0, none⟩ = false
  f1 : w.frozen? ⟨b, 1, none⟩ = false
  f2 : w.frozen? ⟨b, 2, none⟩ = false
  f3 : w.frozen? ⟨b, 3, none⟩ = false
theorem Row4.below {w w' : World} {b B : Nat} {u0 u1 u2 u3 : Value} (h : Row4 w b u0 u1 u2 u3) (hb : Below B w w') (hB : b < B) : Row4 w' b u0 u1 u2 u3 :=
  ⟨(hb.cell hB).trans h.c0, (hb.cell hB).trans h.c1, (hb.cell hB).trans h.c2, (hb.cell hB).trans h.c3, (hb.frozen hB).trans h.f0, (hb.frozen hB).trans h.f1, (hb.frozen hB).trans h.f2, (hb.frozen hB).trans h.f3⟩
theorem Row4.alloc {w : World} {b : Nat} {u0 u1 u2 u3 : Value} (h : Row4 w b u0 u1 u2 u3) (hB : b < w.heap.size) (o : Obj) : Row4 (w.alloc o) b u0 u1 u2 u3 :=
  h.below (B := w.heap.size) ((Below.refl _ w).alloc (Nat.le_refl _) o) hB
theorem Row4.drewN {w : World} {b : Nat} {u0 u1 u2 u3 : Value} (h : Row4 w b u0 u1 u2 u3) (n : Nat) : Row4 (w.drewN n) b u0 u1 u2 u3 := ⟨h.c0, h.c1, h.c2, h.c3, h.f0, h.f1, h.f2, h.f3⟩
theorem Row4.drew {w : World} {b : Nat} {u0 u1 u2 u3 : Value} (h : Row4 w b u0 u1 u2 u3) : Row4 w.drew b u0 u1 u2 u3 := ⟨h.c0, h.c1, h.c2, h.c3, h.f0, h.f1, h.f2, h.f3⟩
theorem Row4.far {w : World} {b : Nat} {u0 u1 u2 u3 : Value} (h : Row4 w b u0 u1 u2 u3) {p : Addr} (hp : p.block ≠ b) (v : Value) : Row4 (w.setCell p v) b u0 u1 u2 u3 := by
  have hc : ∀ o, (w.setCell p v).cell? ⟨b, o, none⟩ = w.cell? ⟨b, o, none⟩ := fun o => World.cell?_of_block (Below.heap_setCell w p v b (Ne.symm hp))
  have hf : ∀ o, (w.setCell p v).frozen? ⟨b, o, none⟩ = w.frozen? ⟨b, o, none⟩ := fun o => World.frozen?_of_block (Below.heap_setCell w p v b (Ne.symm hp))
  exact ⟨(hc _).trans h.c0, (hc _).trans h.c1, (hc _).trans h.c2, (hc _).trans h.c3, (hf _).trans h.f0, (hf _).trans h.f1, (hf _).trans h.f2, (hf _).trans h.f3⟩
theorem Row4.store {w : World} {b : Nat} {u0 u1 u2 u3 : Value} (h : Row4 w b u0 u1 u2 u3) (v0 v1 v2 v3 : Value) :
    Row4 ((((w.setCell ⟨b, 0, none⟩ v0).setCell ⟨b, 1, none⟩ v1).setCell ⟨b, 2, none⟩ v2).setCell ⟨b, 3, none⟩ v3) b v0 v1 v2 v3 := by
  have n01 : (⟨b, 0, none⟩ : Addr) ≠ ⟨b, 1, none⟩ := by simp
  have n02 : (⟨b, 0, none⟩ : Addr) ≠ ⟨b, 2, none⟩ := by simp
  have n03 : (⟨b, 0, none⟩ : Addr) ≠ ⟨b, 3, none⟩ := by simp
  have n12 : (⟨b, 1, none⟩ : Addr) ≠ ⟨b, 2, none⟩ := by simp
  have n13 : (⟨b, 1, none⟩ : Addr) ≠ ⟨b, 3, none⟩ := by simp
  have n23 : (⟨b, 2, none⟩ : Addr) ≠ ⟨b, 3, none⟩ := by simp
  have hf : ∀ (w : World) (p a : Addr) (v : Value), (w.setCell p v).frozen? a = w.frozen? a := fun w p a v => by simp
  refine ⟨?_, ?_, ?_, ?_, by rw [hf, hf, hf, hf]; exact h.f0, by rw [hf, hf, hf, hf]; exact h.f1, by rw [hf, hf, hf, hf]; exact h.f2, by rw [hf, hf, hf, hf]; exact h.f3⟩
  · rw [World.cell?_setCell_other _ _ _ _ n03.symm, World.cell?_setCell_other _ _ _ _ n02.symm, World.cell?_setCell_other _ _ _ _ n01.symm]
    exact World.cell?_setCell_same _ _ _ h.c0
  · rw [World.cell?_setCell_other _ _ _ _ n13.symm, World.cell?_setCell_other _ _ _ _ n12.symm]
    exact World.cell?_setCell_same _ _ _ ((World.cell?_setCell_other _ _ _ _ n01).trans h.c1)
  · rw [World.cell?_setCell_other _ _ _ _ n23.symm]
    exact World.cell?_setCell_same _ _ _ ((World.cell?_setCell_other _ _ _ _ n12).trans ((World.cell?_setCell_other _ _ _ _ n02).trans h.c2))
  · exact World.cell?_setCell_same _ _ _ ((World.cell?_setCell_other _ _ _ _ n23).trans ((World.cell?_setCell_other _ _ _ _ n13).trans ((World.cell?_setCell_other _ _ _ _ n03).trans h.c3)))

def psum (x : Nat → Int) : Nat → Int
  | 0 => 0
  | k + 1 => psum x k + x k
theorem psum_nonneg {x : Nat → Int} {n : Nat} (h : ∀ i, i < n → 0 ≤ x i) : ∀ k, k ≤ n → 0 ≤ psum x k
  | 0, _ => Int.le_refl _
  | k + 1, hk => by have := psum_nonneg h k (by omega); have := h k (by omega); simp only [psum]; omega
theorem psum_mono {x : Nat → Int} {n : Nat} (h : ∀ i, i < n → 0 ≤ x i) (k : Nat) : ∀ d, k + d ≤ n → psum x k ≤ psum x (k + d)
  | 0, _ => Int.le_refl _
  | d + 1, hk => by have := psum_mono h k d (by omega); have := h (k + d) (by omega); show psum x k ≤ psum x (k + d) + x (k + d); omega

/-- The amounts of a slice: n rows of four numbers from a on. -/
structure VecsAt (w : World) (a : Addr) (n : Nat) (x0 x1 x2 x3 : Nat → Int) : Prop where
  lt : 0 < n → a.block < w.heap.size
  c0 : ∀ i, i < n → w.cell? (a.add (i * 4)) = some (.int .u64 (x0 i))
  c1 : ∀ i, i < n → w.cell? ⟨(a.add (i * 4)).block, (a.add (i * 4)).off + 1, none⟩ = some (.int .u64 (x1 i))
  c2 : ∀ i, i < n → w.cell? ⟨(a.add (i * 4)).block, (a.add (i * 4)).off + 2, none⟩ = some (.int .u64 (x2 i))
  c3 : ∀ i, i < n → w.cell? ⟨(a.add (i * 4)).block, (a.add (i * 4)).off + 3, none⟩ = some (.int .u64 (x3 i))
theorem add_block (a : Addr) (n : Nat) : (a.add n).block = a.block := by unfold Addr.add; split <;> rfl
theorem VecsAt.below {w w' : World} {a : Addr} {n B : Nat} {x0 x1 x2 x3 : Nat → Int} (h : VecsAt w a n x0 x1 x2 x3) (hb : Below B w w') (hB : w.heap.size ≤ B) : VecsAt w' a n x0 x1 x2 x3 :=
  ⟨fun h0 => Nat.lt_of_lt_of_le (h.lt h0) hb.size, fun i hi => (hb.cell (by rw [add_block]; exact Nat.lt_of_lt_of_le (h.lt (by omega)) hB)).trans (h.c0 i hi), fun i hi => (hb.cell (by show (a.add (i * 4)).block < B; rw [add_block]; exact Nat.lt_of_lt_of_le (h.lt (by omega)) hB)).trans (h.c1 i hi), fun i hi => (hb.cell (by show (a.add (i * 4)).block < B; rw [add_block]; exact Nat.lt_of_lt_of_le (h.lt (by omega)) hB)).trans (h.c2 i hi), fun i hi => (hb.cell (by show (a.add (i * 4)).block < B; rw [add_block]; exact Nat.lt_of_lt_of_le (h.lt (by omega)) hB)).trans (h.c3 i hi)⟩

/-- All four sums fit. -/
def Fine (x0 x1 x2 x3 : Nat → Int) (n : Nat) : Prop := psum x0 n < 18446744073709551616 ∧ psum x1 n < 18446744073709551616 ∧ psum x2 n < 18446744073709551616 ∧ psum x3 n < 18446744073709551616
/-- Each number of the n amounts is one of 64 bits. -/
def Nums4 (x0 x1 x2 x3 : Nat → Int) (n : Nat) : Prop := ∀ i, i < n → (0 ≤ x0 i ∧ x0 i < 18446744073709551616) ∧ (0 ≤ x1 i ∧ x1 i < 18446744073709551616) ∧ (0 ≤ x2 i ∧ x2 i < 18446744073709551616) ∧ (0 ≤ x3 i ∧ x3 i < 18446744073709551616)
theorem Fine.le {x0 x1 x2 x3 : Nat → Int} {n k : Nat} (hx : Nums4 x0 x1 x2 x3 n) (h : Fine x0 x1 x2 x3 n) (hk : k ≤ n) : Fine x0 x1 x2 x3 k := by
  have m0 := psum_mono (x := x0) (n := n) (fun i hi => (hx i hi).1.1) k (n - k) (by omega)
  have m1 := psum_mono (x := x1) (n := n) (fun i hi => (hx i hi).2.1.1) k (n - k) (by omega)
  have m2 := psum_mono (x := x2) (n := n) (fun i hi => (hx i hi).2.2.1.1) k (n - k) (by omega)
  have m3 := psum_mono (x := x3) (n := n) (fun i hi => (hx i hi).2.2.2.1) k (n - k) (by omega)
  rw [show k + (n - k) = n by omega] at m0 m1 m2 m3
  unfold Fine at *
  omega
/-- What a sum of all comes to: 'good' with the sums, or 'bad' with zeroes. -/
def SumEnds (x0 x1 x2 x3 : Nat → Int) (n : Nat) (good bad : Value) (e : Ending) : Prop :=
  (Fine x0 x1 x2 x3 n ∧ e = .returned (.tuple #[.agg #[.int .u64 (psum x0 n), .int .u64 (psum x1 n), .int .u64 (psum x2 n), .int .u64 (psum x3 n)], good])) ∨
  (¬ Fine x0 x1 x2 x3 n ∧ e = .returned (.tuple #[.agg #[.int .u64 0, .int .u64 0, .int .u64 0, .int .u64 0], bad]))

end Go.Proofs.YtokghlmccecpfaaDoor

/- The reference's Sum. -/
namespace Go.Proofs.YtokghlmccecpfaaDoor
set_option linter.unusedSimpArgs false
open Go.RowKit
set_option linter.unusedVariables false

def RSumRel (w : World) (n : Nat) (x0 x1 x2 x3 : Nat → Int) (ok i : Value) (wr : World) : Prop :=
  ∃ k : Nat, k ≤ n ∧ i = .int .i64 k ∧ Below w.heap.size w wr ∧ w.heap.size + 1 < wr.heap.size ∧ Row4 wr w.heap.size (.int .u64 0) (.int .u64 0) (.int .u64 0) (.int .u64 0) ∧
    ((ok = .bool true ∧ Fine x0 x1 x2 x3 k ∧ Row4 wr (w.heap.size + 1) (.int .u64 (psum x0 k)) (.int .u64 (psum x1 k)) (.int .u64 (psum x2 k)) (.int .u64 (psum x3 k))) ∨
     (ok = .bool false ∧ ¬ Fine x0 x1 x2 x3 n ∧ Row4 wr (w.heap.size + 1) (.int .u64 0) (.int .u64 0) (.int .u64 0) (.int .u64 0)))

end Go.Proofs.YtokghlmccecpfaaDoor

/- Sums and differences of amounts, the program's and the reference's, as contracts over amounts. -/
namespace Go.Proofs.YtokghlmccecpfaaDoor
set_option linter.unusedSimpArgs false
open Go.RowKit
set_option linter.unusedVariables false

abbrev zeroV : Value := .agg #[.int .u64 0, .int .u64 0, .int .u64 0, .int .u64 0]
theorem add_none4 {x y : V4} (h : addV x y = none) : ¬ (x.a + y.a < 18446744073709551616 ∧ x.b + y.b < 18446744073709551616 ∧ x.c + y.c < 18446744073709551616 ∧ x.d + y.d < 18446744073709551616) := by
  unfold addV at h
  split at h
  · cases h
  · rename_i hs
    simp only [V4.small, V4.add] at hs
    exact fun h => hs (decide_eq_true h)
theorem sub_none4 {x y : V4} (h : subV x y = none) : ¬ (y.a ≤ x.a ∧ y.b ≤ x.b ∧ y.c ≤ x.c ∧ y.d ≤ x.d) := by
  unfold subV at h
  split at h
  · cases h
  · rename_i hs
    simp only [V4.le] at hs
    exact fun h => hs (decide_eq_true h)
/-! Sums of a list of amounts. -/
def atV (l : List V4) (i : Nat) : V4 := (l[i]?).getD .zer
theorem atV_of {l : List V4} {i : Nat} (h : i < l.length) : atV l i = l[i] := by simp [atV, List.getElem?_eq_getElem h]
theorem psum_tot (l : List V4) : ∀ k, k ≤ l.length → psum (fun i => (atV l i).a) k = (totV (l.take k)).a ∧ psum (fun i => (atV l i).b) k = (totV (l.take k)).b ∧ psum (fun i => (atV l i).c) k = (totV (l.take k)).c ∧ psum (fun i => (atV l i).d) k = (totV (l.take k)).d
  | 0, _ => by simp [psum, totV, V4.zer]
  | k + 1, h => by
    obtain ⟨h0, h1, h2, h3⟩ := psum_tot l k (by omega)
    rw [List.take_succ_eq_append_getElem (by omega), tot_append]
    simp only [psum, h0, h1, h2, h3, atV_of (show k < l.length by omega)]
    simp [V4.add, totV, V4.zer]
theorem vecs_at {l : List V4} {w : World} {b o : Nat} (hb : b < w.heap.size) (h : ∀ i (h : i < l.length) j u, (cellsV l[i])[j]? = some u → w.cell? ⟨b, o + i * 4 + j, none⟩ = some u) :
    VecsAt w ⟨b, o, none⟩ l.length (fun i => (atV l i).a) (fun i => (atV l i).b) (fun i => (atV l i).c) (fun i => (atV l i).d) := by
  refine ⟨fun _ => hb, fun i hi => ?_, fun i hi => ?_, fun i hi => ?_, fun i hi => ?_⟩
  all_goals
    rw [Addr.add_lit]
    simp only [atV_of hi]
  · exact h i hi 0 _ rfl
  · exact h i hi 1 _ rfl
  · exact h i hi 2 _ rfl
  · exact h i hi 3 _ rfl
theorem nums_at {l : List V4} (ho : ∀ x ∈ l, x.Ok) : Nums4 (fun i => (atV l i).a) (fun i => (atV l i).b) (fun i => (atV l i).c) (fun i => (atV l i).d) l.length := by
  intro i hi
  simp only [atV_of hi]
  exact ho _ (List.getElem_mem hi)
theorem recs_vecs {l : List V4} {A : Option Addr} {w : World} {B : Nat} (hB : B ≤ w.heap.size) (hr : Recs 4 cellsV w B A l) : ∃ a, (0 < l.length → A = some a) ∧ VecsAt w a l.length (fun i => (atV l i).a) (fun i => (atV l i).b) (fun i => (atV l i).c) (fun i => (atV l i).d) := by
  rcases hr with rfl | ⟨b, o, rfl, hb, h⟩
  · exact ⟨⟨0, 0, none⟩, fun h => by simp at h, ⟨fun h => by simp at h, fun i hi => by simp at hi, fun i hi => by simp at hi, fun i hi => by simp at hi, fun i hi => by simp at hi⟩⟩
  · exact ⟨_, fun _ => rfl, vecs_at (by omega) h⟩
theorem sum_ends {l : List V4} {good bad : Value} {e : Ending} (h : SumEnds (fun i => (atV l i).a) (fun i => (atV l i).b) (fun i => (atV l i).c) (fun i => (atV l i).d) l.length good bad e) :
    (∃ u, sumV l = some u ∧ e = .returned (.tuple #[aggV u, good])) ∨ (sumV l = none ∧ e = .returned (.tuple #[zeroV, bad])) := by
  obtain ⟨h0, h1, h2, h3⟩ := psum_tot l l.length (Nat.le_refl _)
  rw [List.take_of_length_le (Nat.le_refl _)] at h0 h1 h2 h3
  unfold SumEnds Fine at h
  rw [h0, h1, h2, h3] at h
  rcases h with ⟨hf, rfl⟩ | ⟨hf, rfl⟩
  · refine .inl ⟨totV l, ?_, rfl⟩
    unfold sumV
    rw [if_pos (show (totV l).small = true from decide_eq_true hf)]
  · refine .inr ⟨?_, rfl⟩
    unfold sumV
    rw [if_neg]
    intro h
    exact hf (of_decide_eq_true h)
end Go.Proofs.YtokghlmccecpfaaDoor

namespace Go.Proofs.YtokghlmccecpfaaDoor
set_option linter.unusedSimpArgs false
open Go.RowKit
set_option linter.unusedVariables false

/-- Three boxes of the call's own. -/
structure T3 (a b c : List Value) (w V : World) : Prop where
  one : Bf V w.heap.size a
  two : Bf V (w.heap.size + 1) b
  three : Bf V (w.heap.size + 2) c
  below : Below w.heap.size w V
section
variable {a b c : List Value} {w V V' : World}
theorem T3.keep (h : T3 a b c w V) (hb : Below V.heap.size V V') : T3 a b c w V' :=
  ⟨h.one.below hb h.one.lt, h.two.below hb h.two.lt, h.three.below hb h.three.lt, h.below.trans (hb.mono h.below.size)⟩
theorem T3.alloc (h : T3 a b c w V) (o : Obj) : T3 a b c w (V.alloc o) := h.keep ((Below.refl _ V).alloc (Nat.le_refl _) o)
theorem T3.drew (h : T3 a b c w V) : T3 a b c w V.drew := h.keep (Below.refl _ V).drew
theorem T3.new (w : World) (a b c : List Value) (t1 t2 t3 : TypeId) : T3 a b c w (((w.alloc (.cells a.toArray t1)).alloc (.cells b.toArray t2)).alloc (.cells c.toArray t3)) :=
  ⟨((Bf.new w a t1 rfl).alloc _).alloc _, (Bf.new (w.alloc (.cells a.toArray t1)) b t2 (b := w.heap.size + 1) (by simp)).alloc _,
    Bf.new ((w.alloc (.cells a.toArray t1)).alloc (.cells b.toArray t2)) c t3 (b := w.heap.size + 2) (by simp), ((((Below.refl _ w).alloc (Nat.le_refl _) _).alloc (by simp) _).alloc (by simp; omega) _)⟩
theorem Bf.cells4 {b : Nat} {x : V4} (h : Bf V b (cellsV x)) : V.cell? ⟨b, 0, none⟩ = some (.int .u64 x.a) ∧ V.cell? ⟨b, 1, none⟩ = some (.int .u64 x.b) ∧ V.cell? ⟨b, 2, none⟩ = some (.int .u64 x.c) ∧ V.cell? ⟨b, 3, none⟩ = some (.int .u64 x.d) ∧ b < V.heap.size :=
  ⟨h.cell 0 _ rfl, h.cell 1 _ rfl, h.cell 2 _ rfl, h.cell 3 _ rfl, h.lt⟩
theorem Bf.zero4 {b : Nat} (h : Bf V b (cellsV .zer)) : (V.cell? ⟨b, 0, none⟩ = some (.int .u64 0) ∧ V.cell? ⟨b, 1, none⟩ = some (.int .u64 0) ∧ V.cell? ⟨b, 2, none⟩ = some (.int .u64 0) ∧ V.cell? ⟨b, 3, none⟩ = some (.int .u64 0)) ∧ b < V.heap.size :=
  ⟨⟨h.cell 0 _ rfl, h.cell 1 _ rfl, h.cell 2 _ rfl, h.cell 3 _ rfl⟩, h.lt⟩
theorem Bf.free4 {b : Nat} {l : List Value} (h : Bf V b l) : V.frozen? ⟨b, 0, none⟩ = false ∧ V.frozen? ⟨b, 1, none⟩ = false ∧ V.frozen? ⟨b, 2, none⟩ = false ∧ V.frozen? ⟨b, 3, none⟩ = false :=
  ⟨h.frozen 0, h.frozen 1, h.frozen 2, h.frozen 3⟩
theorem Bf.cells3 {b : Nat} {x0 x1 x2 : Value} (h : Bf V b [x0, x1, x2]) : V.cell? ⟨b, 0, none⟩ = some x0 ∧ V.cell? ⟨b, 1, none⟩ = some x1 ∧ V.cell? ⟨b, 2, none⟩ = some x2 ∧ b < V.heap.size :=
  ⟨h.cell 0 _ rfl, h.cell 1 _ rfl, h.cell 2 _ rfl, h.lt⟩
end
theorem zer_agg : aggV V4.zer = zeroV := rfl

end Go.Proofs.YtokghlmccecpfaaDoor
