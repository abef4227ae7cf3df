/- Joined texts, part 5: UJ ZA EM YA VecA VecB VecC VecD. -/
import Derived.Test.YtkipfalolfleaaaGreatDoorZ04
import Derived.Lib.SlicesCompact
import Derived.Test.YtkipfalolfleaaaGreatDoorZ01
import Derived.Lib.Slices
import Derived.Test.YtkipfalolfleaaaGreatDoorRows
import Derived.WalkKit
import Derived.WalkSpells
import Derived.WalkLawsBesides
import Derived.Laws.Externs
import Derived.Shelf.Spec.BitsCarry
import Derived.Lib.Hide
import Derived.Deep.QuietTactic
import Derived.BigQuiet

/- What a move comes to: the program's Make of layer 5. -/
namespace Go.Proofs.YtkipfalolfleaaaGreatDoor
set_option linter.unusedSimpArgs false
open Go.RowKit
set_option linter.unusedVariables false

/-- What a move comes to: the state, and an error's number. -/
def noState : StateD := ⟨[], 0, 0⟩
def makeD (nodes : List NodeD) (x : List WantD) (t : StateD) (m : MoveD) : StateD × Int :=
  if wellD m = false then (noState, 1) else if hereD nodes t.pods m = false then (noState, 4) else if canD t.pods m = false then (noState, 7) else (behindD x t m, 0)
def codeV (c : Int) : Value := if c = 0 then .nilIface else .iface 67 (.int .i64 c)
theorem well_kinds {m : MoveD} (h : wellD m = true) : m.kind = 1 ∨ m.kind = 2 ∨ m.kind = 3 ∨ m.kind = 4 := by
  unfold wellD at h
  split at h
  · omega
  · split at h
    · omega
    · have : m.kind = 4 := by simpa using h
      omega
theorem here_pod {nodes : List NodeD} {l : List PodD} {m : MoveD} (h : hereD nodes l m = true) : ¬ place PodD.id m.pod l 0 < 0 := by
  intro e
  simp [hereD, e] at h
theorem here_over {nodes : List NodeD} {l : List PodD} {m : MoveD} (h : hereD nodes l m = true) (hc : canD l m = true) : m.kind = 4 → ¬ place PodD.id m.over l 0 < 0 ∧ m.over ≠ m.pod := by
  intro h4
  constructor
  · intro e
    simp [hereD, e, h4] at h
  · intro e
    simp [canD, h4, e] at hc
/-- What stands while Make is at work. -/
structure Mk (snap spec state move : List Value) (w V : World) : Prop where
  snap : Bf V w.heap.size snap
  spec : Bf V (w.heap.size + 1) spec
  state : Bf V (w.heap.size + 2) state
  move : Bf V (w.heap.size + 3) move
  res : Bf V (w.heap.size + 4) [.slice none 0 0, .int .i64 0, .int .i64 0]
  below : Below w.heap.size w V
section
variable {a b c d : List Value} {w V V' : World}
theorem Mk.keep (h : Mk a b c d w V) (hb : Below V.heap.size V V') : Mk a b c d w V' :=
  ⟨h.snap.below hb h.snap.lt, h.spec.below hb h.spec.lt, h.state.below hb h.state.lt, h.move.below hb h.move.lt, h.res.below hb h.res.lt, h.below.trans (hb.mono h.below.size)⟩
theorem Mk.new (w : World) (a b c d : List Value) (t1 t2 t3 t4 t5 : TypeId) : Mk a b c d w (((((w.alloc (.cells a.toArray t1)).alloc (.cells b.toArray t2)).alloc (.cells c.toArray t3)).alloc (.cells d.toArray t4)).alloc (.cells #[.slice none 0 0, .int .i64 0, .int .i64 0] t5)) :=
  ⟨((((Bf.new w a t1 rfl).alloc _).alloc _).alloc _).alloc _, (((Bf.new (w.alloc (.cells a.toArray t1)) b t2 (b := w.heap.size + 1) (by simp)).alloc _).alloc _).alloc _,
    ((Bf.new ((w.alloc (.cells a.toArray t1)).alloc (.cells b.toArray t2)) c t3 (b := w.heap.size + 2) (by simp)).alloc _).alloc _, (Bf.new (((w.alloc (.cells a.toArray t1)).alloc (.cells b.toArray t2)).alloc (.cells c.toArray t3)) d t4 (b := w.heap.size + 3) (by simp)).alloc _,
    Bf.new ((((w.alloc (.cells a.toArray t1)).alloc (.cells b.toArray t2)).alloc (.cells c.toArray t3)).alloc (.cells d.toArray t4)) [.slice none 0 0, .int .i64 0, .int .i64 0] t5 (b := w.heap.size + 4) (by simp),
    (below_four w _ _ _ _).alloc (by simp; omega) _⟩
theorem Mk.facts {a0 a1 a2 b0 b1 b2 c0 c1 c2 d0 d1 d2 d3 : Value} (h : Mk [a0, a1, a2] [b0, b1, b2] [c0, c1, c2] [d0, d1, d2, d3] w V) :
    (V.cell? ⟨w.heap.size, 0, none⟩ = some a0 ∧ V.cell? ⟨w.heap.size, 1, none⟩ = some a1 ∧ V.cell? ⟨w.heap.size, 2, none⟩ = some a2) ∧
    (V.cell? ⟨w.heap.size + 1, 0, none⟩ = some b0 ∧ V.cell? ⟨w.heap.size + 1, 1, none⟩ = some b1 ∧ V.cell? ⟨w.heap.size + 1, 2, none⟩ = some b2) ∧
    (V.cell? ⟨w.heap.size + 2, 0, none⟩ = some c0 ∧ V.cell? ⟨w.heap.size + 2, 1, none⟩ = some c1 ∧ V.cell? ⟨w.heap.size + 2, 2, none⟩ = some c2) ∧
    (V.cell? ⟨w.heap.size + 3, 0, none⟩ = some d0 ∧ V.cell? ⟨w.heap.size + 3, 1, none⟩ = some d1 ∧ V.cell? ⟨w.heap.size + 3, 2, none⟩ = some d2 ∧ V.cell? ⟨w.heap.size + 3, 3, none⟩ = some d3) :=
  ⟨⟨h.snap.cell 0 _ rfl, h.snap.cell 1 _ rfl, h.snap.cell 2 _ rfl⟩, ⟨h.spec.cell 0 _ rfl, h.spec.cell 1 _ rfl, h.spec.cell 2 _ rfl⟩, ⟨h.state.cell 0 _ rfl, h.state.cell 1 _ rfl, h.state.cell 2 _ rfl⟩, ⟨h.move.cell 0 _ rfl, h.move.cell 1 _ rfl, h.move.cell 2 _ rfl, h.move.cell 3 _ rfl⟩⟩
theorem Mk.facts2 (h : Mk a b c d w V) :
    (V.cell? ⟨w.heap.size + 4, 0, none⟩ = some (.slice none 0 0) ∧ V.cell? ⟨w.heap.size + 4, 1, none⟩ = some (.int .i64 0) ∧ V.cell? ⟨w.heap.size + 4, 2, none⟩ = some (.int .i64 0)) ∧
    (V.frozen? ⟨w.heap.size + 4, 0, none⟩ = false ∧ V.frozen? ⟨w.heap.size + 4, 1, none⟩ = false ∧ V.frozen? ⟨w.heap.size + 4, 2, none⟩ = false) ∧ w.heap.size + 4 < V.heap.size :=
  ⟨⟨h.res.cell 0 _ rfl, h.res.cell 1 _ rfl, h.res.cell 2 _ rfl⟩, ⟨h.res.frozen 0, h.res.frozen 1, h.res.frozen 2⟩, h.res.lt⟩
theorem Mk.no (h : Mk a b c d w V) {x y z : Value} : StateTo noState w (stateV none 0 0 0 0) (((V.setCell ⟨w.heap.size + 4, 0, none⟩ x).setCell ⟨w.heap.size + 4, 1, none⟩ y).setCell ⟨w.heap.size + 4, 2, none⟩ z) :=
  ⟨none, 0, rfl, Out.nil rfl, (by intro a e; cases e), ((h.below.setCell (by simp) _).setCell (by simp) _).setCell (by simp) _⟩
end
theorem Out.set {l : List PodD} {w : World} {A : Option Addr} {c : Nat} (h : Out 8 cellsP w l A c) {p : Addr} (hp : ∀ a, A = some a → a.block ≠ p.block) (v : Value) : Out 8 cellsP (w.setCell p v) l A c := by
  refine ⟨h.1, h.2.1, h.2.2.1, ?_⟩
  rcases h.2.2.2 with h0 | ⟨b, o, e, hb, hc⟩
  · exact .inl h0
  · refine .inr ⟨b, o, e, by simpa using hb, fun i hi j u hu => ?_⟩
    have := hp _ e
    rw [World.cell?_setCell_other _ _ _ _ (by intro e'; rw [e'] at this; exact this rfl)]
    exact hc i hi j u hu
set_option maxHeartbeats 6400000 in
set_option maxRecDepth 100000 in
theorem make_any (nodes : List NodeD) (x : List WantD) (t : StateD) (m : MoveD) (A1 A2 A3 A A4 : Option Addr) (n1 c1 n2 c2 n3 c3 n c n4 c4 : Nat) (v1 v2 : Value) (w : World)
    (hn1 : n1 = nodes.length) (hl1 : n1 ≤ 1000) (hr1 : Recs 10 cellsN w w.heap.size A1 nodes) (hn : n = x.length) (hl : n ≤ 1000) (hr : Recs 6 cellsW w w.heap.size A x) (hn4 : n4 = t.pods.length) (hl4 : n4 ≤ 1000) (h04 : A4 = none → c4 = 0) (hr4 : Recs 8 cellsP w w.heap.size A4 t.pods) :
    Calls Tryz.prog 13 #[.agg #[.slice A1 n1 c1, .slice A2 n2 c2, .slice A3 n3 c3], .agg #[.slice A n c, v1, v2], stateV A4 n4 c4 t.preempts t.shifts, aggM m] w
      fun e w' => ∃ v, e = .returned (.tuple #[v, codeV (makeD nodes x t m).2]) ∧ StateTo (makeD nodes x t m).1 w v w' := by
  have HR1 := Lib.hid hr1
  have HR := Lib.hid hr
  have HR4 := Lib.hid hr4
  have HN1 := Lib.hid hn1
  have HN := Lib.hid hn
  have HN4 := Lib.hid hn4
  have H04 := Lib.hid h04
  clear hr1 hr hr4 hn1 hn hn4 h04
  have M0 := Mk.new w [.slice A1 n1 c1, .slice A2 n2 c2, .slice A3 n3 c3] [.slice A n c, v1, v2] [.slice A4 n4 c4, .int .i64 t.preempts, .int .i64 t.shifts] [.int .i64 m.kind, .int .i64 m.pod, .int .i64 m.node, .int .i64 m.over] 26 29 31 33 31
  go_enter Tryz.func13, Tryz.ntmps13
  go_wp2_with fail
  refine (stateWell_any m _).mono ?_
  rintro e w1 ⟨rfl, hb1⟩
  have M1 := M0.keep hb1
  clear hb1 M0
  obtain ⟨⟨a0, a1, a2⟩, ⟨a3, a4, a5⟩, ⟨a6, a7, a8⟩, a9, a10, a11, a12⟩ := M1.facts
  obtain ⟨⟨r0, r1, r2⟩, ⟨z0, z1, z2⟩, hz⟩ := M1.facts2
  cases hw : wellD m with
  | false =>
    have HE := Lib.hid (show makeD nodes x t m = (noState, 1) by simp [makeD, hw])
    have HM := Lib.hid M1
    clear M1
    go_wp2
    refine bodyPost_ret (v := .tuple #[stateV none 0 0 0 0, codeV 1]) ?_ rfl ⟨_, by rw [HE.out], ?_⟩
    · simp [results, Tryz.results13, go_sem, codeV, *]
    · rw [HE.out]; exact HM.out.no
  | true =>
    have HT := Lib.hid (allThere_any nodes t.pods m A1 A2 A3 A4 n1 c1 n2 c2 n3 c3 n4 c4 (.int .i64 t.preempts) (.int .i64 t.shifts) w1 HN1.out hl1 HN4.out hl4 ((HR1.out.below M1.below (Nat.le_refl _)).more M1.below.size) ((HR4.out.below M1.below (Nat.le_refl _)).more M1.below.size))
    go_wp2_with fail
    refine HT.out.mono ?_
    rintro e w2 ⟨rfl, hb2⟩
    have M2 := M1.keep hb2
    clear hb2 M1 HT a0 a1 a2 a3 a4 a5 a6 a7 a8 a9 a10 a11 a12 r0 r1 r2 z0 z1 z2 hz
    obtain ⟨⟨a0, a1, a2⟩, ⟨a3, a4, a5⟩, ⟨a6, a7, a8⟩, a9, a10, a11, a12⟩ := M2.facts
    obtain ⟨⟨r0, r1, r2⟩, ⟨z0, z1, z2⟩, hz⟩ := M2.facts2
    cases hh : hereD nodes t.pods m with
    | false =>
      have HE := Lib.hid (show makeD nodes x t m = (noState, 4) by simp [makeD, hw, hh])
      have HM := Lib.hid M2
      clear M2
      go_wp2
      refine bodyPost_ret (v := .tuple #[stateV none 0 0 0 0, codeV 4]) ?_ rfl ⟨_, by rw [HE.out], ?_⟩
      · simp [results, Tryz.results13, go_sem, codeV, *]
      · rw [HE.out]; exact HM.out.no
    | true =>
      have HT := Lib.hid (canBeMade_any t.pods m A4 n4 c4 (.int .i64 t.preempts) (.int .i64 t.shifts) w2 HN4.out hl4 ((HR4.out.below M2.below (Nat.le_refl _)).more M2.below.size))
      go_wp2_with fail
      refine HT.out.mono ?_
      rintro e w3 ⟨rfl, hb3⟩
      have M3 := M2.keep hb3
      clear hb3 M2 HT a0 a1 a2 a3 a4 a5 a6 a7 a8 a9 a10 a11 a12 r0 r1 r2 z0 z1 z2 hz
      obtain ⟨⟨a0, a1, a2⟩, ⟨a3, a4, a5⟩, ⟨a6, a7, a8⟩, a9, a10, a11, a12⟩ := M3.facts
      obtain ⟨⟨r0, r1, r2⟩, ⟨z0, z1, z2⟩, hz⟩ := M3.facts2
      cases hc : canD t.pods m with
      | false =>
        have HE := Lib.hid (show makeD nodes x t m = (noState, 7) by simp [makeD, hw, hh, hc])
        have HM := Lib.hid M3
        clear M3
        go_wp2
        refine bodyPost_ret (v := .tuple #[stateV none 0 0 0 0, codeV 7]) ?_ rfl ⟨_, by rw [HE.out], ?_⟩
        · simp [results, Tryz.results13, go_sem, codeV, *]
        · rw [HE.out]; exact HM.out.no
      | true =>
        have HE := Lib.hid (show makeD nodes x t m = (behindD x t m, 0) by simp [makeD, hw, hh, hc])
        have HT := Lib.hid (behind_any x t m (well_kinds hw) (here_pod hh) (here_over hh hc) A A4 n c n4 c4 v1 v2 w3 HN.out hl ((HR.out.below M3.below (Nat.le_refl _)).more M3.below.size) HN4.out hl4 H04.out ((HR4.out.below M3.below (Nat.le_refl _)).more M3.below.size))
        go_wp2_with fail
        refine HT.out.mono ?_
        rintro e w4 ⟨_, rfl, A5, c5, rfl, ho, hfr, hb4⟩
        have M4 := M3.keep hb4
        have hfr5 : ∀ a, A5 = some a → a.block ≠ w.heap.size + 4 := fun a ha => by have := hfr a ha; omega
        have hfr6 : ∀ a, A5 = some a → w.heap.size ≤ a.block := fun a ha => by have := hfr a ha; omega
        generalize hu : behindD x t m = u at *
        have HM := Lib.hid M4
        have HOU := Lib.hid ho
        have HF5 := Lib.hid (And.intro hfr5 hfr6)
        clear M3 ho hfr hb4 HT hu hfr5 hfr6 a0 a1 a2 a3 a4 a5 a6 a7 a8 a9 a10 a11 a12 r0 r1 r2 z0 z1 z2 hz
        obtain ⟨⟨r0, r1, r2⟩, ⟨z0, z1, z2⟩, hz⟩ := M4.facts2
        clear M4
        go_wp2
        refine bodyPost_ret (v := .tuple #[stateV A5 u.pods.length c5 u.preempts u.shifts, codeV 0]) ?_ rfl ⟨_, by rw [HE.out], ?_⟩
        · simp [results, Tryz.results13, go_sem, codeV, *]
        · rw [HE.out]
          exact ⟨A5, c5, rfl, ((HOU.out.set (p := ⟨w.heap.size + 4, 0, none⟩) HF5.out.1 _).set (p := ⟨w.heap.size + 4, 1, none⟩) HF5.out.1 _).set (p := ⟨w.heap.size + 4, 2, none⟩) HF5.out.1 _, HF5.out.2, ((HM.out.below.setCell (by simp; omega) _).setCell (by simp; omega) _).setCell (by simp; omega) _⟩
end Go.Proofs.YtkipfalolfleaaaGreatDoor

/- Plain mathematics of how many of a load are somewhere. -/
namespace Go.Proofs.YtkipfalolfleaaaGreatDoor
set_option linter.unusedSimpArgs false
open Go.RowKit
set_option linter.unusedVariables false

/-- Is a pod of this load, somewhere? -/
def inS (load : Int) (p : PodD) : Bool := p.load == load && p.node != 0
/-- A load's size. -/
def sizeD (load : Int) (l : List PodD) : Nat := l.countP (inS load)
theorem size_le9 (load : Int) (l : List PodD) : sizeD load l ≤ l.length := List.countP_le_length
theorem size_next9 {load : Int} {l : List PodD} {k : Nat} (h : k < l.length) {p : PodD} (hx : l[k] = p) : sizeD load (l.take (k + 1)) = sizeD load (l.take k) + if inS load p = true then 1 else 0 := by
  unfold sizeD
  rw [List.take_succ_eq_append_getElem h, hx, List.countP_append]
  simp [List.countP_cons]
theorem size_in9 {load : Int} {l : List PodD} {k : Nat} (h : k < l.length) {p : PodD} (hx : l[k] = p) (hl : p.load = load) (hn : p.node ≠ 0) : sizeD load (l.take (k + 1)) = sizeD load (l.take k) + 1 := by
  rw [size_next9 h hx, if_pos (by simp [inS, hl, hn])]
theorem size_out9 {load : Int} {l : List PodD} {k : Nat} (h : k < l.length) {p : PodD} (hx : l[k] = p) (ho : p.load = load → p.node = 0) : sizeD load (l.take (k + 1)) = sizeD load (l.take k) := by
  rw [size_next9 h hx, if_neg (by simp [inS]; exact ho)]
  rfl
theorem size_end9 {load : Int} {l : List PodD} {k : Nat} (h : l.length ≤ k) : sizeD load (l.take k) = sizeD load l := by rw [List.take_of_length_le h]
theorem made_len9 {ns : List NodeD} {x : List WantD} {t : StateD} {m : MoveD} (h : (makeD ns x t m).2 = 0) : (makeD ns x t m).1.pods.length = t.pods.length := by
  have e : (makeD ns x t m).1 = behindD x t m := by
    unfold makeD at h ⊢
    split at h
    · cases h
    · split at h
      · cases h
      · split at h
        · cases h
        · rename_i q1 q2 q3
          rw [if_neg q1, if_neg q2, if_neg q3]
  rw [e]
  unfold behindD
  split
  · simp
  · split
    · simp
    · split <;> simp

/-! Which load is at fault. -/
def fault9 (x : LoadD) (n : Int) : Int := if n < x.min then 12 else if x.max < n then 13 else 0
theorem fault9_few {x : LoadD} {n : Int} (h : n < x.min) : fault9 x n = 12 := by rw [fault9, if_pos h]
theorem fault9_many {x : LoadD} {n : Int} (h1 : ¬ n < x.min) (h : x.max < n) : fault9 x n = 13 := by rw [fault9, if_neg h1, if_pos h]
theorem fault9_none {x : LoadD} {n : Int} (h1 : ¬ n < x.min) (h : ¬ x.max < n) : fault9 x n = 0 := by rw [fault9, if_neg h1, if_neg h]
/-- The first load, behind k others, whose size is at fault. -/
def budgetFrom (l : List PodD) : List LoadD → Nat → Int × Int
  | [], _ => (0, -1)
  | x :: r, k => if fault9 x (sizeD x.id l : Nat) = 0 then budgetFrom l r (k + 1) else (fault9 x (sizeD x.id l : Nat), (k : Int))
def budgetOf (ls : List LoadD) (l : List PodD) : Int × Int := budgetFrom l ls 0
theorem budgetFrom_at {l : List PodD} {ls : List LoadD} {k : Nat} {z : Int × Int} (h : k < ls.length) {x : LoadD} (hx : ls[k] = x) (hp : budgetFrom l (ls.drop k) k = z) :
    (fault9 x (sizeD x.id l : Nat) ≠ 0 → z = (fault9 x (sizeD x.id l : Nat), (k : Int))) ∧ (fault9 x (sizeD x.id l : Nat) = 0 → budgetFrom l (ls.drop (k + 1)) (k + 1) = z) := by
  rw [List.drop_eq_getElem_cons h, hx, budgetFrom] at hp
  constructor
  · intro e; rw [if_neg e] at hp; exact hp.symm
  · intro e; rw [if_pos e] at hp; exact hp
theorem budgetFrom_end {l : List PodD} {ls : List LoadD} {k : Nat} {z : Int × Int} (h : ls.length ≤ k) (hp : budgetFrom l (ls.drop k) k = z) : z = (0, -1) := by
  rw [List.drop_of_length_le h] at hp
  exact hp.symm
def usedD (x1 x2 t1 t2 : Int) : Bool := decide (x1 < t1) || decide (x2 < t2)
end Go.Proofs.YtkipfalolfleaaaGreatDoor

/- Plain mathematics: a sorted list without its repetitions is the list of all, rising, each once. -/
namespace Go.Proofs.YtkipfalolfleaaaGreatDoor
set_option linter.unusedSimpArgs false
open Go.Lib

theorem rising_eq : ∀ {a b : List Int}, Rising a → Rising b → (∀ y, y ∈ a ↔ y ∈ b) → a = b
  | [], [], _, _, _ => rfl
  | [], y :: r, _, _, h => by have := (h y).2 (by simp); simp at this
  | x :: r, [], _, _, h => by have := (h x).1 (by simp); simp at this
  | x :: r, y :: t, ha, hb, h => by
    have hxy : x = y := by
      rcases List.mem_cons.1 ((h x).1 (by simp)) with e | e
      · exact e
      · rcases List.mem_cons.1 ((h y).2 (by simp)) with f | f
        · exact f.symm
        · have h1 := hb.1 x e
          have h2 := ha.1 y f
          omega
    subst hxy
    have hr : r = t := rising_eq ha.2 hb.2 fun z => by
      constructor
      · intro hz
        rcases List.mem_cons.1 ((h z).1 (by simp [hz])) with e | e
        · have := ha.1 z hz; omega
        · exact e
      · intro hz
        rcases List.mem_cons.1 ((h z).2 (by simp [hz])) with e | e
        · have := hb.1 z hz; omega
        · exact e
    rw [hr]
theorem rising_snoc {z : Int} : ∀ {l : List Int}, Rising l → (∀ y ∈ l, y < z) → Rising (l ++ [z])
  | [], _, _ => ⟨by simp, trivial⟩
  | x :: r, h, hz => by
    refine ⟨fun y hy => ?_, rising_snoc h.2 fun y hy => hz y (by simp [hy])⟩
    rcases List.mem_append.1 hy with hy | hy
    · exact h.1 y hy
    · rw [List.mem_singleton.1 hy]; exact hz x (by simp)

theorem compact_upTo (d : Array Int) (hs : ∀ i j, i ≤ j → j < d.size → d[i]! ≤ d[j]!) : ∀ m, m ≤ d.size → Rising (compactUpTo d m) ∧ ∀ y, y ∈ compactUpTo d m ↔ ∃ j, j < m ∧ d[j]! = y
  | 0, _ => ⟨by simp [compactUpTo, Rising], fun y => by simp [compactUpTo]⟩
  | m + 1, hm => by
    obtain ⟨h1, h2⟩ := compact_upTo d hs m (by omega)
    rw [compactUpTo_succ]
    by_cases hk : keeps d m = true
    · rw [if_pos hk]
      refine ⟨rising_snoc h1 fun y hy => ?_, fun y => ?_⟩
      · obtain ⟨j, hj, rfl⟩ := (h2 y).1 hy
        have hne : d[m]! ≠ d[m - 1]! := by
          have := hk
          unfold keeps at this
          rcases of_decide_eq_true this with e | e
          · omega
          · exact e
        have a1 := hs j (m - 1) (by omega) (by omega)
        have a2 := hs (m - 1) m (by omega) (by omega)
        omega
      · constructor
        · intro hy
          rcases List.mem_append.1 hy with hy | hy
          · obtain ⟨j, hj, e⟩ := (h2 y).1 hy
            exact ⟨j, by omega, e⟩
          · exact ⟨m, by omega, (List.mem_singleton.1 hy).symm⟩
        · rintro ⟨j, hj, e⟩
          by_cases hjm : j = m
          · subst hjm; simp [e]
          · exact List.mem_append.2 (.inl ((h2 y).2 ⟨j, by omega, e⟩))
    · rw [if_neg hk, List.append_nil]
      refine ⟨h1, fun y => ?_⟩
      have hk' : m ≠ 0 ∧ d[m]! = d[m - 1]! := by
        have e : ¬ (m = 0 ∨ d[m]! ≠ d[m - 1]!) := fun e => hk (by unfold keeps; exact decide_eq_true e)
        refine ⟨fun h => e (.inl h), ?_⟩
        by_cases q : d[m]! = d[m - 1]!
        · exact q
        · exact absurd (.inr q) e
      constructor
      · intro hy
        obtain ⟨j, hj, e⟩ := (h2 y).1 hy
        exact ⟨j, by omega, e⟩
      · rintro ⟨j, hj, e⟩
        by_cases hjm : j = m
        · subst hjm
          exact (h2 y).2 ⟨j - 1, by omega, by rw [← hk'.2]; exact e⟩
        · exact (h2 y).2 ⟨j, by omega, e⟩

theorem compact_sorted (ts : List Int) (hs : ts.Pairwise (· ≤ ·)) : Rising (compact ts) ∧ ∀ y, y ∈ compact ts ↔ y ∈ ts := by
  have hget : ∀ i, ∀ h : i < ts.length, ts.toArray[i]! = ts[i] := fun i h => by simp [h]
  have key := compact_upTo ts.toArray (fun i j hij hj => by
    have hj' : j < ts.length := by simpa using hj
    rw [hget i (by omega), hget j hj']
    by_cases e : i = j
    · subst e; exact Int.le_refl _
    · exact List.pairwise_iff_getElem.1 hs i j (by omega) hj' (by omega)) ts.length (by simp)
  refine ⟨key.1, fun y => (key.2 y).trans ?_⟩
  constructor
  · rintro ⟨j, hj, rfl⟩
    rw [hget j hj]
    exact List.getElem_mem hj
  · intro hy
    obtain ⟨j, hj, rfl⟩ := List.mem_iff_getElem.1 hy
    exact ⟨j, hj, hget j hj⟩
theorem zones_mem (l : List NodeD) : ∀ (acc : List Int) (y : Int), y ∈ l.foldl (fun acc n => insZ n.zone acc) acc ↔ y ∈ l.map NodeD.zone ∨ y ∈ acc := by
  induction l with
  | nil => intro acc y; simp
  | cons n r ih =>
    intro acc y
    simp only [List.foldl_cons, ih, insZ_mem, List.map_cons, List.mem_cons]
    constructor
    · rintro (h | h | h)
      · exact .inl (.inr h)
      · exact .inl (.inl h)
      · exact .inr h
    · rintro ((h | h) | h)
      · exact .inr (.inl h)
      · exact .inl h
      · exact .inr (.inr h)
theorem zones_compact (l : List NodeD) : compact ((l.map NodeD.zone).mergeSort fun x y => decide (x ≤ y)) = zonesOf l := by
  have hs : ((l.map NodeD.zone).mergeSort fun x y => decide (x ≤ y)).Pairwise (· ≤ ·) := by
    have := List.pairwise_mergeSort (le := fun x y : Int => decide (x ≤ y)) (fun a b c h1 h2 => by simp at *; omega) (fun a b => by simp; omega) (l.map NodeD.zone)
    exact this.imp fun h => by simpa using h
  obtain ⟨h1, h2⟩ := compact_sorted _ hs
  refine rising_eq h1 (zones_fold l [] trivial).1 fun y => (h2 y).trans ?_
  rw [List.mem_mergeSort]
  unfold zonesOf
  rw [zones_mem]
  simp
end Go.Proofs.YtkipfalolfleaaaGreatDoor

/- Plain mathematics of loads over zones. -/
namespace Go.Proofs.YtkipfalolfleaaaGreatDoor
set_option linter.unusedSimpArgs false
open Go.RowKit
set_option linter.unusedVariables false

/-- The zone that a pod is in. -/
def zoneD (ns : List NodeD) (p : PodD) : Option Int :=
  if p.node = 0 then none else
    if place NodeD.id p.node ns 0 < 0 then none else (ns[(place NodeD.id p.node ns 0).toNat]?).map NodeD.zone
theorem zoneD_nowhere {ns : List NodeD} {p : PodD} (h : p.node = 0) : zoneD ns p = none := by simp [zoneD, h]
theorem zoneD_none {ns : List NodeD} {p : PodD} (h : place NodeD.id p.node ns 0 < 0) : zoneD ns p = none := by simp [zoneD, h]
theorem zoneD_some {ns : List NodeD} {p : PodD} {i : Nat} (h0 : p.node ≠ 0) (hi : i < ns.length) (h : place NodeD.id p.node ns 0 = i) : zoneD ns p = some ns[i].zone := by
  have : ¬ (i : Int) < 0 := by omega
  simp [zoneD, h0, h, this, hi]
def inZ (ns : List NodeD) (load z : Int) (p : PodD) : Bool := p.load == load && zoneD ns p == some z
/-- A load's count in a zone. -/
def countD (ns : List NodeD) (load z : Int) (l : List PodD) : Nat := l.countP (inZ ns load z)
def countsD (ns : List NodeD) (load : Int) (zs : List Int) (l : List PodD) : List Int := zs.map fun z => (countD ns load z l : Int)
theorem counts_len {ns : List NodeD} {load : Int} {zs : List Int} {l : List PodD} : (countsD ns load zs l).length = zs.length := by simp [countsD]
theorem count_le (ns : List NodeD) (load z : Int) (l : List PodD) : countD ns load z l ≤ l.length := List.countP_le_length
theorem count_next {ns : List NodeD} {load z : Int} {l : List PodD} {k : Nat} (h : k < l.length) {p : PodD} (hx : l[k] = p) : countD ns load z (l.take (k + 1)) = countD ns load z (l.take k) + if inZ ns load z p = true then 1 else 0 := by
  unfold countD
  rw [List.take_succ_eq_append_getElem h, hx, List.countP_append]
  simp [List.countP_cons]
theorem counts_zero (ns : List NodeD) (load : Int) (zs : List Int) (l : List PodD) : countsD ns load zs (l.take 0) = List.replicate zs.length 0 := by
  simp [countsD, countD, List.map_const']
theorem counts_skip {ns : List NodeD} {load : Int} {zs : List Int} {l : List PodD} {k : Nat} (h : k < l.length) {p : PodD} (hx : l[k] = p) (hno : ∀ z ∈ zs, inZ ns load z p = false) : countsD ns load zs (l.take (k + 1)) = countsD ns load zs (l.take k) := by
  unfold countsD
  refine List.map_congr_left fun z hz => ?_
  rw [count_next h hx, hno z hz]
  simp
theorem inZ_load {ns : List NodeD} {load z : Int} {p : PodD} (h : p.load ≠ load) : inZ ns load z p = false := by simp [inZ, h]
theorem inZ_none {ns : List NodeD} {load z : Int} {p : PodD} (h : zoneD ns p = none) : inZ ns load z p = false := by simp [inZ, h]
theorem inZ_other {ns : List NodeD} {load z y : Int} {p : PodD} (h : zoneD ns p = some y) (hy : y ≠ z) : inZ ns load z p = false := by simp [inZ, h, hy]
theorem inZ_here {ns : List NodeD} {load z : Int} {p : PodD} (hl : p.load = load) (h : zoneD ns p = some z) : inZ ns load z p = true := by simp [inZ, h, hl]
theorem rising_at8 {z : Int} : ∀ {zs : List Int}, Rising zs → z ∈ zs → ∃ hi : zs.countP (· < z) < zs.length, zs[zs.countP (· < z)] = z ∧ ∀ j, ∀ hj : j < zs.length, j ≠ zs.countP (· < z) → zs[j] ≠ z
  | [], _, h => by simp at h
  | x :: r, hr, h => by
    by_cases hx : x = z
    · subst hx
      have h0 : r.countP (· < x) = 0 := by
        rw [List.countP_eq_zero]
        intro y hy
        have := hr.1 y hy
        simp; omega
      have e : (x :: r).countP (· < x) = 0 := by simp [h0]
      refine ⟨by rw [e]; simp, by simp [e], fun j hj hne => ?_⟩
      rw [e] at hne
      cases j with
      | zero => exact absurd rfl hne
      | succ j =>
        have := hr.1 _ (List.getElem_mem (l := r) (n := j) (by simpa using hj))
        simp only [List.getElem_cons_succ]
        omega
    · have hm : z ∈ r := by
        rcases List.mem_cons.1 h with e | e
        · exact absurd e.symm hx
        · exact e
      obtain ⟨i1, i2, i3⟩ := rising_at8 hr.2 hm
      have hlt := hr.1 z hm
      have e : (x :: r).countP (· < z) = r.countP (· < z) + 1 := by simp [hlt]
      refine ⟨by rw [e]; simpa using i1, by simp only [e, List.getElem_cons_succ]; exact i2, fun j hj hne => ?_⟩
      rw [e] at hne
      cases j with
      | zero => simpa using hx
      | succ j => simp only [List.getElem_cons_succ]; exact i3 j (by simpa using hj) (by omega)
theorem counts_bump {ns : List NodeD} {load z : Int} {zs : List Int} {l : List PodD} {k : Nat} (h : k < l.length) {p : PodD} (hx : l[k] = p) (hl : p.load = load) (hz : zoneD ns p = some z) (hr : Rising zs) (hm : z ∈ zs) :
    zs.countP (· < z) < zs.length ∧ (countsD ns load zs (l.take k))[zs.countP (· < z)]? = some (countD ns load z (l.take k) : Int) ∧ countsD ns load zs (l.take (k + 1)) = (countsD ns load zs (l.take k)).set (zs.countP (· < z)) ((countD ns load z (l.take k) : Int) + 1) := by
  obtain ⟨hi, he, hne⟩ := rising_at8 hr hm
  refine ⟨hi, ?_, ?_⟩
  · unfold countsD
    rw [List.getElem?_map, List.getElem?_eq_getElem hi, he]
    rfl
  · refine List.ext_getElem (by simp [counts_len]) fun j h1 h2 => ?_
    have hj : j < zs.length := by simpa [counts_len] using h1
    rw [List.getElem_set]
    by_cases e : zs.countP (· < z) = j
    · subst e
      rw [if_pos rfl]
      simp only [countsD, List.getElem_map, he]
      rw [count_next h hx, inZ_here hl hz]
      simp
    · rw [if_neg e]
      simp only [countsD, List.getElem_map]
      rw [count_next h hx, inZ_other hz (fun q => hne j hj (fun w => e w.symm) q.symm)]
      simp
theorem rising_le : ∀ {zs : List Int}, Rising zs → zs.Pairwise (· ≤ ·)
  | [], _ => List.Pairwise.nil
  | x :: r, h => List.Pairwise.cons (fun y hy => by have := h.1 y hy; omega) (rising_le h.2)
/-! The greatest and the least one. -/
theorem foldl_max : ∀ (r : List Int) (a : Int), a ≤ r.foldl max a ∧ (∀ x ∈ r, x ≤ r.foldl max a) ∧ (r.foldl max a = a ∨ r.foldl max a ∈ r)
  | [], a => ⟨Int.le_refl _, by simp, .inl rfl⟩
  | y :: r, a => by
    obtain ⟨h1, h2, h3⟩ := foldl_max r (max a y)
    refine ⟨by simp only [List.foldl_cons]; omega, fun x hx => ?_, ?_⟩
    · simp only [List.foldl_cons]
      rcases List.mem_cons.1 hx with e | e
      · omega
      · exact h2 x e
    · simp only [List.foldl_cons]
      rcases h3 with e | e
      · rw [e]
        by_cases q : y ≤ a
        · left; omega
        · right; rw [show max a y = y by omega]; simp
      · right; simp [e]
theorem foldl_min : ∀ (r : List Int) (a : Int), r.foldl min a ≤ a ∧ (∀ x ∈ r, r.foldl min a ≤ x) ∧ (r.foldl min a = a ∨ r.foldl min a ∈ r)
  | [], a => ⟨Int.le_refl _, by simp, .inl rfl⟩
  | y :: r, a => by
    obtain ⟨h1, h2, h3⟩ := foldl_min r (min a y)
    refine ⟨by simp only [List.foldl_cons]; omega, fun x hx => ?_, ?_⟩
    · simp only [List.foldl_cons]
      rcases List.mem_cons.1 hx with e | e
      · omega
      · exact h2 x e
    · simp only [List.foldl_cons]
      rcases h3 with e | e
      · rw [e]
        by_cases q : a ≤ y
        · left; omega
        · right; rw [show min a y = y by omega]; simp
      · right; simp [e]
theorem maxOf_spec {zs : List Int} (h : zs ≠ []) : Lib.maxOf zs ∈ zs ∧ ∀ x ∈ zs, x ≤ Lib.maxOf zs := by
  obtain ⟨a, r, rfl⟩ := List.exists_cons_of_ne_nil h
  obtain ⟨h1, h2, h3⟩ := foldl_max (a :: r) a
  refine ⟨?_, h2⟩
  rcases h3 with e | e
  · unfold Lib.maxOf; rw [List.headD_cons, e]; simp
  · exact e
theorem minOf_spec {zs : List Int} (h : zs ≠ []) : Lib.minOf zs ∈ zs ∧ ∀ x ∈ zs, Lib.minOf zs ≤ x := by
  obtain ⟨a, r, rfl⟩ := List.exists_cons_of_ne_nil h
  obtain ⟨h1, h2, h3⟩ := foldl_min (a :: r) a
  refine ⟨?_, h2⟩
  rcases h3 with e | e
  · unfold Lib.minOf; rw [List.headD_cons, e]; simp
  · exact e
/-- How unlike zones are. -/
def skewD (ns : List NodeD) (load : Int) (zs : List Int) (l : List PodD) : Int := if zs = [] then 0 else Lib.maxOf (countsD ns load zs l) - Lib.minOf (countsD ns load zs l)
theorem counts_ne {ns : List NodeD} {load : Int} {zs : List Int} {l : List PodD} (h : zs ≠ []) : countsD ns load zs l ≠ [] := by
  intro e
  exact h (List.eq_nil_of_length_eq_zero (by rw [← counts_len (ns := ns) (load := load) (l := l), e]; rfl))
theorem counts_bounds {ns : List NodeD} {load : Int} {zs : List Int} {l : List PodD} {x : Int} (h : x ∈ countsD ns load zs l) : 0 ≤ x ∧ x ≤ l.length := by
  simp only [countsD, List.mem_map] at h
  obtain ⟨z, _, rfl⟩ := h
  have := count_le ns load z l
  omega
theorem skew_max {ns : List NodeD} {load : Int} {zs : List Int} {l : List PodD} (h : zs ≠ []) : skewD ns load zs l = Lib.maxOf (countsD ns load zs l) - Lib.minOf (countsD ns load zs l) ∧ 0 ≤ Lib.minOf (countsD ns load zs l) ∧ Lib.minOf (countsD ns load zs l) ≤ Lib.maxOf (countsD ns load zs l) ∧ Lib.maxOf (countsD ns load zs l) ≤ l.length := by
  have hn := counts_ne (ns := ns) (load := load) (l := l) h
  obtain ⟨m1, m2⟩ := maxOf_spec hn
  obtain ⟨n1, n2⟩ := minOf_spec hn
  exact ⟨by rw [skewD, if_neg h], (counts_bounds n1).1, m2 _ n1, (counts_bounds m1).2⟩
/-! All counts together. -/
/-! What a move changes. -/
end Go.Proofs.YtkipfalolfleaaaGreatDoor

/- Contracts of the small functions: sums and differences of 64 bits, halves, one sum of the reference. -/
namespace Go.Proofs.YtkipfalolfleaaaGreatDoor
set_option linter.unusedSimpArgs false
open Go.RowKit
set_option linter.unusedVariables false

theorem below_drewN {B : Nat} {a w : World} (h : Below B a w) (n : Nat) : Below B a (w.drewN n) := ⟨h.os, h.tape, h.output, h.size, h.block⟩
theorem add64_ok (x y : Int) (hx : 0 ≤ x) (hy : 0 ≤ y) (h : x + y < 18446744073709551616) (w : World) :
    (callFunc 114 #[.int .u64 x, .int .u64 y, .int .u64 0]).run Tryz.prog w = .ok (.value (.tuple #[.int .u64 (x + y), .int .u64 0])) w := by
  rw [run_callFunc_extern Tryz.func114 (by kernel_rfl) (by kernel_rfl) (by kernel_rfl) (e := add64Entry) (by kernel_rfl),
    run_add64 (P := Tryz.prog) x y 0 hx hy (by omega) (by omega) w]
  rw [show (x + y + 0) % 18446744073709551616 = x + y by omega, show (x + y + 0) / 18446744073709551616 = 0 by omega]
  rfl
theorem add64_over (x y : Int) (hx : 0 ≤ x) (hy : 0 ≤ y) (hx1 : x < 18446744073709551616) (hy1 : y < 18446744073709551616) (h : 18446744073709551616 ≤ x + y) (w : World) :
    (callFunc 114 #[.int .u64 x, .int .u64 y, .int .u64 0]).run Tryz.prog w = .ok (.value (.tuple #[.int .u64 ((x + y) % 18446744073709551616), .int .u64 1])) w := by
  rw [run_callFunc_extern Tryz.func114 (by kernel_rfl) (by kernel_rfl) (by kernel_rfl) (e := add64Entry) (by kernel_rfl),
    run_add64 (P := Tryz.prog) x y 0 hx hy (by omega) (by omega) w]
  rw [show x + y + 0 = x + y by omega, show (x + y) / 18446744073709551616 = 1 by omega]
  rfl
theorem sub64_ok (x y : Int) (hx : 0 ≤ x) (hy : 0 ≤ y) (hx1 : x < 18446744073709551616) (h : y ≤ x) (w : World) :
    (callFunc 108 #[.int .u64 x, .int .u64 y, .int .u64 0]).run Tryz.prog w = .ok (.value (.tuple #[.int .u64 (x - y), .int .u64 0])) w := by
  obtain ⟨x, rfl⟩ := Int.eq_ofNat_of_zero_le hx
  obtain ⟨y, rfl⟩ := Int.eq_ofNat_of_zero_le hy
  rw [run_callFunc_extern Tryz.func108 (by kernel_rfl) (by kernel_rfl) (by kernel_rfl) (e := sub64Entry) (by kernel_rfl), show (sub64Entry #[.int .u64 x, .int .u64 y, .int .u64 0]).run Tryz.prog w = _ from run_sub64 x y 0 (by omega) w]
  rw [if_neg (by omega), show (((x + 18446744073709551616 - y - 0) % 18446744073709551616 : Nat) : Int) = x - y by omega]
  rfl
theorem sub64_over (x y : Int) (hx : 0 ≤ x) (hy : 0 ≤ y) (h : x < y) (w : World) :
    (callFunc 108 #[.int .u64 x, .int .u64 y, .int .u64 0]).run Tryz.prog w = .ok (.value (.tuple #[.int .u64 ((x + 18446744073709551616 - y).toNat % 18446744073709551616 : Nat), .int .u64 1])) w := by
  obtain ⟨x, rfl⟩ := Int.eq_ofNat_of_zero_le hx
  obtain ⟨y, rfl⟩ := Int.eq_ofNat_of_zero_le hy
  rw [run_callFunc_extern Tryz.func108 (by kernel_rfl) (by kernel_rfl) (by kernel_rfl) (e := sub64Entry) (by kernel_rfl), show (sub64Entry #[.int .u64 x, .int .u64 y, .int .u64 0]).run Tryz.prog w = _ from run_sub64 x y 0 (by omega) w]
  rw [if_pos (by omega), show ((x : Int) + 18446744073709551616 - y).toNat = x + 18446744073709551616 - y - 0 by omega]
  rfl

end Go.Proofs.YtkipfalolfleaaaGreatDoor

/- vec.Add: the four sums, or ErrOver. -/
namespace Go.Proofs.YtkipfalolfleaaaGreatDoor
set_option linter.unusedSimpArgs false
open Go.RowKit
set_option linter.unusedVariables false

set_option maxHeartbeats 1000000 in
theorem add_o0 (a0 a1 a2 a3 b0 b1 b2 b3 : Int) (p0 : 0 ≤ a0) (p1 : 0 ≤ a1) (p2 : 0 ≤ a2) (p3 : 0 ≤ a3) (q0 : 0 ≤ b0) (q1 : 0 ≤ b1) (q2 : 0 ≤ b2) (q3 : 0 ≤ b3) (pm0 : a0 < 18446744073709551616) (pm1 : a1 < 18446744073709551616) (pm2 : a2 < 18446744073709551616) (pm3 : a3 < 18446744073709551616) (qm0 : b0 < 18446744073709551616) (qm1 : b1 < 18446744073709551616) (qm2 : b2 < 18446744073709551616) (qm3 : b3 < 18446744073709551616)  (h0 : 18446744073709551616 ≤ a0 + b0) (w : World) :
    Calls Tryz.prog 107 #[.agg #[.int .u64 a0, .int .u64 a1, .int .u64 a2, .int .u64 a3], .agg #[.int .u64 b0, .int .u64 b1, .int .u64 b2, .int .u64 b3]] w fun e w' =>
      e = .returned (.tuple #[.agg #[.int .u64 0, .int .u64 0, .int .u64 0, .int .u64 0], .iface 67 (.int .i64 8)]) ∧ Below w.heap.size w w' := by
  have e0 := add64_over a0 b0 p0 q0 pm0 qm0 h0
  go_enter Tryz.func107, Tryz.ntmps107
  go_wp2
  refine wp_loop_rounds 5 ?_
  rw [rounds_succ]
  go_wp2
  go_quiet (fail)
  go_wp2
  refine bodyPost_ret (v := .tuple #[.agg #[.int .u64 0, .int .u64 0, .int .u64 0, .int .u64 0], .iface 67 (.int .i64 8)]) ?_ rfl ?_
  · simp [results, Tryz.results107, go_sem]
  · clear e0
    refine ⟨rfl, ?_⟩
    repeat (first | with_reducible exact Below.refl _ _ | with_reducible refine Below.setCell ?_ ?_ _ | with_reducible refine below_drewN ?_ _ | with_reducible refine Below.alloc ?_ ?_ _)
    all_goals first | (simp; done) | (simp; omega)
set_option maxHeartbeats 1000000 in
theorem add_o1 (a0 a1 a2 a3 b0 b1 b2 b3 : Int) (p0 : 0 ≤ a0) (p1 : 0 ≤ a1) (p2 : 0 ≤ a2) (p3 : 0 ≤ a3) (q0 : 0 ≤ b0) (q1 : 0 ≤ b1) (q2 : 0 ≤ b2) (q3 : 0 ≤ b3) (pm0 : a0 < 18446744073709551616) (pm1 : a1 < 18446744073709551616) (pm2 : a2 < 18446744073709551616) (pm3 : a3 < 18446744073709551616) (qm0 : b0 < 18446744073709551616) (qm1 : b1 < 18446744073709551616) (qm2 : b2 < 18446744073709551616) (qm3 : b3 < 18446744073709551616) (h0 : a0 + b0 < 18446744073709551616) (h1 : 18446744073709551616 ≤ a1 + b1) (w : World) :
    Calls Tryz.prog 107 #[.agg #[.int .u64 a0, .int .u64 a1, .int .u64 a2, .int .u64 a3], .agg #[.int .u64 b0, .int .u64 b1, .int .u64 b2, .int .u64 b3]] w fun e w' =>
      e = .returned (.tuple #[.agg #[.int .u64 0, .int .u64 0, .int .u64 0, .int .u64 0], .iface 67 (.int .i64 8)]) ∧ Below w.heap.size w w' := by
  have e0 := add64_ok a0 b0 p0 q0 h0
  have e1 := add64_over a1 b1 p1 q1 pm1 qm1 h1
  go_enter Tryz.func107, Tryz.ntmps107
  go_wp2
  refine wp_loop_rounds 5 ?_
  rw [rounds_succ]
  go_wp2
  go_quiet (fail)
  go_wp2
  rw [rounds_succ]
  go_wp2
  go_quiet (fail)
  go_wp2
  refine bodyPost_ret (v := .tuple #[.agg #[.int .u64 0, .int .u64 0, .int .u64 0, .int .u64 0], .iface 67 (.int .i64 8)]) ?_ rfl ?_
  · simp [results, Tryz.results107, go_sem]
  · clear e0 e1
    refine ⟨rfl, ?_⟩
    repeat (first | with_reducible exact Below.refl _ _ | with_reducible refine Below.setCell ?_ ?_ _ | with_reducible refine below_drewN ?_ _ | with_reducible refine Below.alloc ?_ ?_ _)
    all_goals first | (simp; done) | (simp; omega)
set_option maxHeartbeats 1000000 in
theorem add_o2 (a0 a1 a2 a3 b0 b1 b2 b3 : Int) (p0 : 0 ≤ a0) (p1 : 0 ≤ a1) (p2 : 0 ≤ a2) (p3 : 0 ≤ a3) (q0 : 0 ≤ b0) (q1 : 0 ≤ b1) (q2 : 0 ≤ b2) (q3 : 0 ≤ b3) (pm0 : a0 < 18446744073709551616) (pm1 : a1 < 18446744073709551616) (pm2 : a2 < 18446744073709551616) (pm3 : a3 < 18446744073709551616) (qm0 : b0 < 18446744073709551616) (qm1 : b1 < 18446744073709551616) (qm2 : b2 < 18446744073709551616) (qm3 : b3 < 18446744073709551616) (h0 : a0 + b0 < 18446744073709551616) (h1 : a1 + b1 < 18446744073709551616) (h2 : 18446744073709551616 ≤ a2 + b2) (w : World) :
    Calls Tryz.prog 107 #[.agg #[.int .u64 a0, .int .u64 a1, .int .u64 a2, .int .u64 a3], .agg #[.int .u64 b0, .int .u64 b1, .int .u64 b2, .int .u64 b3]] w fun e w' =>
      e = .returned (.tuple #[.agg #[.int .u64 0, .int .u64 0, .int .u64 0, .int .u64 0], .iface 67 (.int .i64 8)]) ∧ Below w.heap.size w w' := by
  have e0 := add64_ok a0 b0 p0 q0 h0
  have e1 := add64_ok a1 b1 p1 q1 h1
  have e2 := add64_over a2 b2 p2 q2 pm2 qm2 h2
  go_enter Tryz.func107, Tryz.ntmps107
  go_wp2
  refine wp_loop_rounds 5 ?_
  rw [rounds_succ]
  go_wp2
  go_quiet (fail)
  go_wp2
  rw [rounds_succ]
  go_wp2
  go_quiet (fail)
  go_wp2
  rw [rounds_succ]
  go_wp2
  go_quiet (fail)
  go_wp2
  refine bodyPost_ret (v := .tuple #[.agg #[.int .u64 0, .int .u64 0, .int .u64 0, .int .u64 0], .iface 67 (.int .i64 8)]) ?_ rfl ?_
  · simp [results, Tryz.results107, go_sem]
  · clear e0 e1 e2
    refine ⟨rfl, ?_⟩
    repeat (first | with_reducible exact Below.refl _ _ | with_reducible refine Below.setCell ?_ ?_ _ | with_reducible refine below_drewN ?_ _ | with_reducible refine Below.alloc ?_ ?_ _)
    all_goals first | (simp; done) | (simp; omega)
set_option maxHeartbeats 1000000 in
theorem add_o3 (a0 a1 a2 a3 b0 b1 b2 b3 : Int) (p0 : 0 ≤ a0) (p1 : 0 ≤ a1) (p2 : 0 ≤ a2) (p3 : 0 ≤ a3) (q0 : 0 ≤ b0) (q1 : 0 ≤ b1) (q2 : 0 ≤ b2) (q3 : 0 ≤ b3) (pm0 : a0 < 18446744073709551616) (pm1 : a1 < 18446744073709551616) (pm2 : a2 < 18446744073709551616) (pm3 : a3 < 18446744073709551616) (qm0 : b0 < 18446744073709551616) (qm1 : b1 < 18446744073709551616) (qm2 : b2 < 18446744073709551616) (qm3 : b3 < 18446744073709551616) (h0 : a0 + b0 < 18446744073709551616) (h1 : a1 + b1 < 18446744073709551616) (h2 : a2 + b2 < 18446744073709551616) (h3 : 18446744073709551616 ≤ a3 + b3) (w : World) :
    Calls Tryz.prog 107 #[.agg #[.int .u64 a0, .int .u64 a1, .int .u64 a2, .int .u64 a3], .agg #[.int .u64 b0, .int .u64 b1, .int .u64 b2, .int .u64 b3]] w fun e w' =>
      e = .returned (.tuple #[.agg #[.int .u64 0, .int .u64 0, .int .u64 0, .int .u64 0], .iface 67 (.int .i64 8)]) ∧ Below w.heap.size w w' := by
  have e0 := add64_ok a0 b0 p0 q0 h0
  have e1 := add64_ok a1 b1 p1 q1 h1
  have e2 := add64_ok a2 b2 p2 q2 h2
  have e3 := add64_over a3 b3 p3 q3 pm3 qm3 h3
  go_enter Tryz.func107, Tryz.ntmps107
  go_wp2
  refine wp_loop_rounds 5 ?_
  rw [rounds_succ]
  go_wp2
  go_quiet (fail)
  go_wp2
  rw [rounds_succ]
  go_wp2
  go_quiet (fail)
  go_wp2
  rw [rounds_succ]
  go_wp2
  go_quiet (fail)
  go_wp2
  rw [rounds_succ]
  go_wp2
  go_quiet (fail)
  go_wp2
  refine bodyPost_ret (v := .tuple #[.agg #[.int .u64 0, .int .u64 0, .int .u64 0, .int .u64 0], .iface 67 (.int .i64 8)]) ?_ rfl ?_
  · simp [results, Tryz.results107, go_sem]
  · clear e0 e1 e2 e3
    refine ⟨rfl, ?_⟩
    repeat (first | with_reducible exact Below.refl _ _ | with_reducible refine Below.setCell ?_ ?_ _ | with_reducible refine below_drewN ?_ _ | with_reducible refine Below.alloc ?_ ?_ _)
    all_goals first | (simp; done) | (simp; omega)
set_option maxHeartbeats 1000000 in
theorem add_ok (a0 a1 a2 a3 b0 b1 b2 b3 : Int) (p0 : 0 ≤ a0) (p1 : 0 ≤ a1) (p2 : 0 ≤ a2) (p3 : 0 ≤ a3) (q0 : 0 ≤ b0) (q1 : 0 ≤ b1) (q2 : 0 ≤ b2) (q3 : 0 ≤ b3) (pm0 : a0 < 18446744073709551616) (pm1 : a1 < 18446744073709551616) (pm2 : a2 < 18446744073709551616) (pm3 : a3 < 18446744073709551616) (qm0 : b0 < 18446744073709551616) (qm1 : b1 < 18446744073709551616) (qm2 : b2 < 18446744073709551616) (qm3 : b3 < 18446744073709551616) (h0 : a0 + b0 < 18446744073709551616) (h1 : a1 + b1 < 18446744073709551616) (h2 : a2 + b2 < 18446744073709551616) (h3 : a3 + b3 < 18446744073709551616) (w : World) :
    Calls Tryz.prog 107 #[.agg #[.int .u64 a0, .int .u64 a1, .int .u64 a2, .int .u64 a3], .agg #[.int .u64 b0, .int .u64 b1, .int .u64 b2, .int .u64 b3]] w fun e w' =>
      e = .returned (.tuple #[.agg #[.int .u64 (a0 + b0), .int .u64 (a1 + b1), .int .u64 (a2 + b2), .int .u64 (a3 + b3)], .nilIface]) ∧ Below w.heap.size w w' := by
  have e0 := add64_ok a0 b0 p0 q0 h0
  have e1 := add64_ok a1 b1 p1 q1 h1
  have e2 := add64_ok a2 b2 p2 q2 h2
  have e3 := add64_ok a3 b3 p3 q3 h3
  go_enter Tryz.func107, Tryz.ntmps107
  go_wp2
  refine wp_loop_rounds 5 ?_
  rw [rounds_succ]
  go_wp2
  go_quiet (fail)
  go_wp2
  rw [rounds_succ]
  go_wp2
  go_quiet (fail)
  go_wp2
  rw [rounds_succ]
  go_wp2
  go_quiet (fail)
  go_wp2
  rw [rounds_succ]
  go_wp2
  go_quiet (fail)
  go_wp2
  rw [rounds_succ]
  go_wp2
  refine bodyPost_ret (v := .tuple #[.agg #[.int .u64 (a0 + b0), .int .u64 (a1 + b1), .int .u64 (a2 + b2), .int .u64 (a3 + b3)], .nilIface]) ?_ rfl ?_
  · simp [results, Tryz.results107, go_sem]
  · clear e0 e1 e2 e3
    refine ⟨rfl, ?_⟩
    repeat (first | with_reducible exact Below.refl _ _ | with_reducible refine Below.setCell ?_ ?_ _ | with_reducible refine below_drewN ?_ _ | with_reducible refine Below.alloc ?_ ?_ _)
    all_goals first | (simp; done) | (simp; omega)
theorem add_over (a0 a1 a2 a3 b0 b1 b2 b3 : Int) (p0 : 0 ≤ a0) (p1 : 0 ≤ a1) (p2 : 0 ≤ a2) (p3 : 0 ≤ a3) (q0 : 0 ≤ b0) (q1 : 0 ≤ b1) (q2 : 0 ≤ b2) (q3 : 0 ≤ b3) (pm0 : a0 < 18446744073709551616) (pm1 : a1 < 18446744073709551616) (pm2 : a2 < 18446744073709551616) (pm3 : a3 < 18446744073709551616) (qm0 : b0 < 18446744073709551616) (qm1 : b1 < 18446744073709551616) (qm2 : b2 < 18446744073709551616) (qm3 : b3 < 18446744073709551616) (h : ¬ (a0 + b0 < 18446744073709551616 ∧ a1 + b1 < 18446744073709551616 ∧ a2 + b2 < 18446744073709551616 ∧ a3 + b3 < 18446744073709551616)) (w : World) :
    Calls Tryz.prog 107 #[.agg #[.int .u64 a0, .int .u64 a1, .int .u64 a2, .int .u64 a3], .agg #[.int .u64 b0, .int .u64 b1, .int .u64 b2, .int .u64 b3]] w fun e w' =>
      e = .returned (.tuple #[.agg #[.int .u64 0, .int .u64 0, .int .u64 0, .int .u64 0], .iface 67 (.int .i64 8)]) ∧ Below w.heap.size w w' := by
  by_cases h0 : a0 + b0 < 18446744073709551616
  rotate_left
  · exact add_o0 a0 a1 a2 a3 b0 b1 b2 b3 p0 p1 p2 p3 q0 q1 q2 q3 pm0 pm1 pm2 pm3 qm0 qm1 qm2 qm3  (by omega) w
  by_cases h1 : a1 + b1 < 18446744073709551616
  rotate_left
  · exact add_o1 a0 a1 a2 a3 b0 b1 b2 b3 p0 p1 p2 p3 q0 q1 q2 q3 pm0 pm1 pm2 pm3 qm0 qm1 qm2 qm3 h0 (by omega) w
  by_cases h2 : a2 + b2 < 18446744073709551616
  rotate_left
  · exact add_o2 a0 a1 a2 a3 b0 b1 b2 b3 p0 p1 p2 p3 q0 q1 q2 q3 pm0 pm1 pm2 pm3 qm0 qm1 qm2 qm3 h0 h1 (by omega) w
  by_cases h3 : a3 + b3 < 18446744073709551616
  rotate_left
  · exact add_o3 a0 a1 a2 a3 b0 b1 b2 b3 p0 p1 p2 p3 q0 q1 q2 q3 pm0 pm1 pm2 pm3 qm0 qm1 qm2 qm3 h0 h1 h2 (by omega) w
  exact absurd ⟨h0, h1, h2, h3⟩ h
end Go.Proofs.YtkipfalolfleaaaGreatDoor

/- vec.Sub: the four differences, or ErrOver. -/
namespace Go.Proofs.YtkipfalolfleaaaGreatDoor
set_option linter.unusedSimpArgs false
open Go.RowKit
set_option linter.unusedVariables false

set_option maxHeartbeats 1000000 in
theorem sub_o0 (a0 a1 a2 a3 b0 b1 b2 b3 : Int) (p0 : 0 ≤ a0) (p1 : 0 ≤ a1) (p2 : 0 ≤ a2) (p3 : 0 ≤ a3) (q0 : 0 ≤ b0) (q1 : 0 ≤ b1) (q2 : 0 ≤ b2) (q3 : 0 ≤ b3) (pm0 : a0 < 18446744073709551616) (pm1 : a1 < 18446744073709551616) (pm2 : a2 < 18446744073709551616) (pm3 : a3 < 18446744073709551616) (qm0 : b0 < 18446744073709551616) (qm1 : b1 < 18446744073709551616) (qm2 : b2 < 18446744073709551616) (qm3 : b3 < 18446744073709551616)  (h0 : a0 < b0) (w : World) :
    Calls Tryz.prog 100 #[.agg #[.int .u64 a0, .int .u64 a1, .int .u64 a2, .int .u64 a3], .agg #[.int .u64 b0, .int .u64 b1, .int .u64 b2, .int .u64 b3]] w fun e w' =>
      e = .returned (.tuple #[.agg #[.int .u64 0, .int .u64 0, .int .u64 0, .int .u64 0], .iface 67 (.int .i64 8)]) ∧ Below w.heap.size w w' := by
  have e0 := sub64_over a0 b0 p0 q0 h0
  go_enter Tryz.func100, Tryz.ntmps100
  go_wp2
  refine wp_loop_rounds 5 ?_
  rw [rounds_succ]
  go_wp2
  go_quiet (fail)
  go_wp2
  refine bodyPost_ret (v := .tuple #[.agg #[.int .u64 0, .int .u64 0, .int .u64 0, .int .u64 0], .iface 67 (.int .i64 8)]) ?_ rfl ?_
  · simp [results, Tryz.results100, go_sem]
  · clear e0
    refine ⟨rfl, ?_⟩
    repeat (first | with_reducible exact Below.refl _ _ | with_reducible refine Below.setCell ?_ ?_ _ | with_reducible refine below_drewN ?_ _ | with_reducible refine Below.alloc ?_ ?_ _)
    all_goals first | (simp; done) | (simp; omega)
set_option maxHeartbeats 1000000 in
theorem sub_o1 (a0 a1 a2 a3 b0 b1 b2 b3 : Int) (p0 : 0 ≤ a0) (p1 : 0 ≤ a1) (p2 : 0 ≤ a2) (p3 : 0 ≤ a3) (q0 : 0 ≤ b0) (q1 : 0 ≤ b1) (q2 : 0 ≤ b2) (q3 : 0 ≤ b3) (pm0 : a0 < 18446744073709551616) (pm1 : a1 < 18446744073709551616) (pm2 : a2 < 18446744073709551616) (pm3 : a3 < 18446744073709551616) (qm0 : b0 < 18446744073709551616) (qm1 : b1 < 18446744073709551616) (qm2 : b2 < 18446744073709551616) (qm3 : b3 < 18446744073709551616) (h0 : b0 ≤ a0) (h1 : a1 < b1) (w : World) :
    Calls Tryz.prog 100 #[.agg #[.int .u64 a0, .int .u64 a1, .int .u64 a2, .int .u64 a3], .agg #[.int .u64 b0, .int .u64 b1, .int .u64 b2, .int .u64 b3]] w fun e w' =>
      e = .returned (.tuple #[.agg #[.int .u64 0, .int .u64 0, .int .u64 0, .int .u64 0], .iface 67 (.int .i64 8)]) ∧ Below w.heap.size w w' := by
  have e0 := sub64_ok a0 b0 p0 q0 pm0 h0
  have e1 := sub64_over a1 b1 p1 q1 h1
  go_enter Tryz.func100, Tryz.ntmps100
  go_wp2
  refine wp_loop_rounds 5 ?_
  rw [rounds_succ]
  go_wp2
  go_quiet (fail)
  go_wp2
  rw [rounds_succ]
  go_wp2
  go_quiet (fail)
  go_wp2
  refine bodyPost_ret (v := .tuple #[.agg #[.int .u64 0, .int .u64 0, .int .u64 0, .int .u64 0], .iface 67 (.int .i64 8)]) ?_ rfl ?_
  · simp [results, Tryz.results100, go_sem]
  · clear e0 e1
    refine ⟨rfl, ?_⟩
    repeat (first | with_reducible exact Below.refl _ _ | with_reducible refine Below.setCell ?_ ?_ _ | with_reducible refine below_drewN ?_ _ | with_reducible refine Below.alloc ?_ ?_ _)
    all_goals first | (simp; done) | (simp; omega)
set_option maxHeartbeats 1000000 in
theorem sub_o2 (a0 a1 a2 a3 b0 b1 b2 b3 : Int) (p0 : 0 ≤ a0) (p1 : 0 ≤ a1) (p2 : 0 ≤ a2) (p3 : 0 ≤ a3) (q0 : 0 ≤ b0) (q1 : 0 ≤ b1) (q2 : 0 ≤ b2) (q3 : 0 ≤ b3) (pm0 : a0 < 18446744073709551616) (pm1 : a1 < 18446744073709551616) (pm2 : a2 < 18446744073709551616) (pm3 : a3 < 18446744073709551616) (qm0 : b0 < 18446744073709551616) (qm1 : b1 < 18446744073709551616) (qm2 : b2 < 18446744073709551616) (qm3 : b3 < 18446744073709551616) (h0 : b0 ≤ a0) (h1 : b1 ≤ a1) (h2 : a2 < b2) (w : World) :
    Calls Tryz.prog 100 #[.agg #[.int .u64 a0, .int .u64 a1, .int .u64 a2, .int .u64 a3], .agg #[.int .u64 b0, .int .u64 b1, .int .u64 b2, .int .u64 b3]] w fun e w' =>
      e = .returned (.tuple #[.agg #[.int .u64 0, .int .u64 0, .int .u64 0, .int .u64 0], .iface 67 (.int .i64 8)]) ∧ Below w.heap.size w w' := by
  have e0 := sub64_ok a0 b0 p0 q0 pm0 h0
  have e1 := sub64_ok a1 b1 p1 q1 pm1 h1
  have e2 := sub64_over a2 b2 p2 q2 h2
  go_enter Tryz.func100, Tryz.ntmps100
  go_wp2
  refine wp_loop_rounds 5 ?_
  rw [rounds_succ]
  go_wp2
  go_quiet (fail)
  go_wp2
  rw [rounds_succ]
  go_wp2
  go_quiet (fail)
  go_wp2
  rw [rounds_succ]
  go_wp2
  go_quiet (fail)
  go_wp2
  refine bodyPost_ret (v := .tuple #[.agg #[.int .u64 0, .int .u64 0, .int .u64 0, .int .u64 0], .iface 67 (.int .i64 8)]) ?_ rfl ?_
  · simp [results, Tryz.results100, go_sem]
  · clear e0 e1 e2
    refine ⟨rfl, ?_⟩
    repeat (first | with_reducible exact Below.refl _ _ | with_reducible refine Below.setCell ?_ ?_ _ | with_reducible refine below_drewN ?_ _ | with_reducible refine Below.alloc ?_ ?_ _)
    all_goals first | (simp; done) | (simp; omega)
set_option maxHeartbeats 1000000 in
theorem sub_o3 (a0 a1 a2 a3 b0 b1 b2 b3 : Int) (p0 : 0 ≤ a0) (p1 : 0 ≤ a1) (p2 : 0 ≤ a2) (p3 : 0 ≤ a3) (q0 : 0 ≤ b0) (q1 : 0 ≤ b1) (q2 : 0 ≤ b2) (q3 : 0 ≤ b3) (pm0 : a0 < 18446744073709551616) (pm1 : a1 < 18446744073709551616) (pm2 : a2 < 18446744073709551616) (pm3 : a3 < 18446744073709551616) (qm0 : b0 < 18446744073709551616) (qm1 : b1 < 18446744073709551616) (qm2 : b2 < 18446744073709551616) (qm3 : b3 < 18446744073709551616) (h0 : b0 ≤ a0) (h1 : b1 ≤ a1) (h2 : b2 ≤ a2) (h3 : a3 < b3) (w : World) :
    Calls Tryz.prog 100 #[.agg #[.int .u64 a0, .int .u64 a1, .int .u64 a2, .int .u64 a3], .agg #[.int .u64 b0, .int .u64 b1, .int .u64 b2, .int .u64 b3]] w fun e w' =>
      e = .returned (.tuple #[.agg #[.int .u64 0, .int .u64 0, .int .u64 0, .int .u64 0], .iface 67 (.int .i64 8)]) ∧ Below w.heap.size w w' := by
  have e0 := sub64_ok a0 b0 p0 q0 pm0 h0
  have e1 := sub64_ok a1 b1 p1 q1 pm1 h1
  have e2 := sub64_ok a2 b2 p2 q2 pm2 h2
  have e3 := sub64_over a3 b3 p3 q3 h3
  go_enter Tryz.func100, Tryz.ntmps100
  go_wp2
  refine wp_loop_rounds 5 ?_
  rw [rounds_succ]
  go_wp2
  go_quiet (fail)
  go_wp2
  rw [rounds_succ]
  go_wp2
  go_quiet (fail)
  go_wp2
  rw [rounds_succ]
  go_wp2
  go_quiet (fail)
  go_wp2
  rw [rounds_succ]
  go_wp2
  go_quiet (fail)
  go_wp2
  refine bodyPost_ret (v := .tuple #[.agg #[.int .u64 0, .int .u64 0, .int .u64 0, .int .u64 0], .iface 67 (.int .i64 8)]) ?_ rfl ?_
  · simp [results, Tryz.results100, go_sem]
  · clear e0 e1 e2 e3
    refine ⟨rfl, ?_⟩
    repeat (first | with_reducible exact Below.refl _ _ | with_reducible refine Below.setCell ?_ ?_ _ | with_reducible refine below_drewN ?_ _ | with_reducible refine Below.alloc ?_ ?_ _)
    all_goals first | (simp; done) | (simp; omega)
set_option maxHeartbeats 1000000 in
theorem sub_ok (a0 a1 a2 a3 b0 b1 b2 b3 : Int) (p0 : 0 ≤ a0) (p1 : 0 ≤ a1) (p2 : 0 ≤ a2) (p3 : 0 ≤ a3) (q0 : 0 ≤ b0) (q1 : 0 ≤ b1) (q2 : 0 ≤ b2) (q3 : 0 ≤ b3) (pm0 : a0 < 18446744073709551616) (pm1 : a1 < 18446744073709551616) (pm2 : a2 < 18446744073709551616) (pm3 : a3 < 18446744073709551616) (qm0 : b0 < 18446744073709551616) (qm1 : b1 < 18446744073709551616) (qm2 : b2 < 18446744073709551616) (qm3 : b3 < 18446744073709551616) (h0 : b0 ≤ a0) (h1 : b1 ≤ a1) (h2 : b2 ≤ a2) (h3 : b3 ≤ a3) (w : World) :
    Calls Tryz.prog 100 #[.agg #[.int .u64 a0, .int .u64 a1, .int .u64 a2, .int .u64 a3], .agg #[.int .u64 b0, .int .u64 b1, .int .u64 b2, .int .u64 b3]] w fun e w' =>
      e = .returned (.tuple #[.agg #[.int .u64 (a0 - b0), .int .u64 (a1 - b1), .int .u64 (a2 - b2), .int .u64 (a3 - b3)], .nilIface]) ∧ Below w.heap.size w w' := by
  have e0 := sub64_ok a0 b0 p0 q0 pm0 h0
  have e1 := sub64_ok a1 b1 p1 q1 pm1 h1
  have e2 := sub64_ok a2 b2 p2 q2 pm2 h2
  have e3 := sub64_ok a3 b3 p3 q3 pm3 h3
  go_enter Tryz.func100, Tryz.ntmps100
  go_wp2
  refine wp_loop_rounds 5 ?_
  rw [rounds_succ]
  go_wp2
  go_quiet (fail)
  go_wp2
  rw [rounds_succ]
  go_wp2
  go_quiet (fail)
  go_wp2
  rw [rounds_succ]
  go_wp2
  go_quiet (fail)
  go_wp2
  rw [rounds_succ]
  go_wp2
  go_quiet (fail)
  go_wp2
  rw [rounds_succ]
  go_wp2
  refine bodyPost_ret (v := .tuple #[.agg #[.int .u64 (a0 - b0), .int .u64 (a1 - b1), .int .u64 (a2 - b2), .int .u64 (a3 - b3)], .nilIface]) ?_ rfl ?_
  · simp [results, Tryz.results100, go_sem]
  · clear e0 e1 e2 e3
    refine ⟨rfl, ?_⟩
    repeat (first | with_reducible exact Below.refl _ _ | with_reducible refine Below.setCell ?_ ?_ _ | with_reducible refine below_drewN ?_ _ | with_reducible refine Below.alloc ?_ ?_ _)
    all_goals first | (simp; done) | (simp; omega)
theorem sub_over (a0 a1 a2 a3 b0 b1 b2 b3 : Int) (p0 : 0 ≤ a0) (p1 : 0 ≤ a1) (p2 : 0 ≤ a2) (p3 : 0 ≤ a3) (q0 : 0 ≤ b0) (q1 : 0 ≤ b1) (q2 : 0 ≤ b2) (q3 : 0 ≤ b3) (pm0 : a0 < 18446744073709551616) (pm1 : a1 < 18446744073709551616) (pm2 : a2 < 18446744073709551616) (pm3 : a3 < 18446744073709551616) (qm0 : b0 < 18446744073709551616) (qm1 : b1 < 18446744073709551616) (qm2 : b2 < 18446744073709551616) (qm3 : b3 < 18446744073709551616) (h : ¬ (b0 ≤ a0 ∧ b1 ≤ a1 ∧ b2 ≤ a2 ∧ b3 ≤ a3)) (w : World) :
    Calls Tryz.prog 100 #[.agg #[.int .u64 a0, .int .u64 a1, .int .u64 a2, .int .u64 a3], .agg #[.int .u64 b0, .int .u64 b1, .int .u64 b2, .int .u64 b3]] w fun e w' =>
      e = .returned (.tuple #[.agg #[.int .u64 0, .int .u64 0, .int .u64 0, .int .u64 0], .iface 67 (.int .i64 8)]) ∧ Below w.heap.size w w' := by
  by_cases h0 : b0 ≤ a0
  rotate_left
  · exact sub_o0 a0 a1 a2 a3 b0 b1 b2 b3 p0 p1 p2 p3 q0 q1 q2 q3 pm0 pm1 pm2 pm3 qm0 qm1 qm2 qm3  (by omega) w
  by_cases h1 : b1 ≤ a1
  rotate_left
  · exact sub_o1 a0 a1 a2 a3 b0 b1 b2 b3 p0 p1 p2 p3 q0 q1 q2 q3 pm0 pm1 pm2 pm3 qm0 qm1 qm2 qm3 h0 (by omega) w
  by_cases h2 : b2 ≤ a2
  rotate_left
  · exact sub_o2 a0 a1 a2 a3 b0 b1 b2 b3 p0 p1 p2 p3 q0 q1 q2 q3 pm0 pm1 pm2 pm3 qm0 qm1 qm2 qm3 h0 h1 (by omega) w
  by_cases h3 : b3 ≤ a3
  rotate_left
  · exact sub_o3 a0 a1 a2 a3 b0 b1 b2 b3 p0 p1 p2 p3 q0 q1 q2 q3 pm0 pm1 pm2 pm3 qm0 qm1 qm2 qm3 h0 h1 h2 (by omega) w
  exact absurd ⟨h0, h1, h2, h3⟩ h
end Go.Proofs.YtkipfalolfleaaaGreatDoor

namespace Go.Proofs.YtkipfalolfleaaaGreatDoor
set_option linter.unusedSimpArgs false
open Go.RowKit
set_option linter.unusedVariables false

end Go.Proofs.YtkipfalolfleaaaGreatDoor
