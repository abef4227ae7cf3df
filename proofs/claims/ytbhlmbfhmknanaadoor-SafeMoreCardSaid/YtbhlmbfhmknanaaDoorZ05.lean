/- Joined texts, part 5: UI UJ ZA EM YA VecA. -/
import Derived.Test.YtbhlmbfhmknanaaDoorZ04
import Derived.Lib.SlicesCompact
import Derived.Test.YtbhlmbfhmknanaaDoorZ01
import Derived.Lib.Slices
import Derived.Test.YtbhlmbfhmknanaaDoorRows
import Derived.WalkKit
import Derived.WalkSpells
import Derived.WalkLawsBesides
import Derived.Laws.Externs
import Derived.Shelf.Spec.BitsCarry
import Derived.Lib.Hide
import Derived.Deep.QuietTactic
import Derived.BigQuiet

/- What a move does: the program's behind of layer 5. -/
namespace Go.Proofs.YtbhlmbfhmknanaaDoor
set_option linter.unusedSimpArgs false
open Go.RowKit
set_option linter.unusedVariables false

/-- A box of the call's own that holds these cells. -/
structure Bf (V : World) (b : Nat) (cs : List Value) : Prop where
  lt : b < V.heap.size
  cell : ∀ j u, cs[j]? = some u → V.cell? ⟨b, j, none⟩ = some u
  frozen : ∀ o, V.frozen? ⟨b, o, none⟩ = false
section
variable {V V' : World} {b B : Nat} {cs : List Value}
theorem Bf.below (h : Bf V b cs) (hb : Below B V V') (hB : b < B) : Bf V' b cs :=
  ⟨Nat.lt_of_lt_of_le h.lt hb.size, fun j u hu => (hb.cell (p := ⟨b, j, none⟩) hB).trans (h.cell j u hu), fun o => (hb.frozen (p := ⟨b, o, none⟩) hB).trans (h.frozen o)⟩
theorem Bf.new (w : World) (cs : List Value) (t : TypeId) {b : Nat} (hb : b = w.heap.size) : Bf (w.alloc (.cells cs.toArray t)) b cs := by
  subst hb
  exact ⟨by simp, fun j u hu => by simpa using hu, fun o => by simp⟩
theorem Bf.alloc (h : Bf V b cs) (o : Obj) : Bf (V.alloc o) b cs := h.below ((Below.refl _ V).alloc (Nat.le_refl _) o) h.lt
theorem Bf.other (h : Bf V b cs) {p : Addr} (hp : p.block ≠ b) (v : Value) : Bf (V.setCell p v) b cs :=
  ⟨by simpa using h.lt, fun j u hu => by rw [World.cell?_setCell_other _ _ _ _ (by intro e; exact hp (by rw [e]))]; exact h.cell j u hu, fun o => by simpa using h.frozen o⟩
theorem Bf.set (h : Bf V b cs) (i : Nat) (v : Value) : Bf (V.setCell ⟨b, i, none⟩ v) b (cs.set i v) := by
  refine ⟨by simpa using h.lt, fun j u hu => ?_, fun o => by simpa using h.frozen o⟩
  by_cases e : j = i
  · subst e
    have hj : j < cs.length := by have := (List.getElem?_eq_some_iff.1 hu).1; simpa using this
    rw [List.getElem?_set_self hj] at hu
    obtain rfl := Option.some.inj hu
    exact World.cell?_setCell_same _ _ _ (h.cell j _ (List.getElem?_eq_getElem hj))
  · rw [List.getElem?_set_ne (fun e' => e e'.symm)] at hu
    rw [World.cell?_setCell_other _ _ _ _ (by intro e'; injection e'; omega)]
    exact h.cell j u hu
end
/-- What stands while behind is at work. -/
structure Beh (A : Option Addr) (n c : Nat) (v1 v2 : Value) (g c' k : Nat) (p s : Int) (m : MoveD) (l : List PodD) (w V : World) : Prop where
  spec : Bf V w.heap.size [.slice A n c, v1, v2]
  state : Bf V (w.heap.size + 1) [.slice (some ⟨g, 0, none⟩) k c', .int .i64 p, .int .i64 s]
  move : Bf V (w.heap.size + 2) [.int .i64 m.kind, .int .i64 m.pod, .int .i64 m.node, .int .i64 m.over]
  res : Bf V (w.heap.size + 3) [.slice none 0 0, .int .i64 0, .int .i64 0]
  lst : Lst g l V
  below : Below w.heap.size w V
  hg : w.heap.size + 4 ≤ g
section
variable {A : Option Addr} {n c : Nat} {v1 v2 : Value} {g c' k : Nat} {p s : Int} {m : MoveD} {l : List PodD} {w V V' : World}
theorem Beh.keep (h : Beh A n c v1 v2 g c' k p s m l w V) (hb : Below V.heap.size V V') : Beh A n c v1 v2 g c' k p s m l w V' :=
  ⟨h.spec.below hb h.spec.lt, h.state.below hb h.state.lt, h.move.below hb h.move.lt, h.res.below hb h.res.lt, h.lst.below hb, h.below.trans (hb.mono h.below.size), h.hg⟩
theorem Beh.turn {l' : List PodD} (h : Beh A n c v1 v2 g c' k p s m l w V) (hb : Below g V V') (hl : Lst g l' V') : Beh A n c v1 v2 g c' k p s m l' w V' := by
  have hg := h.hg
  exact ⟨h.spec.below hb (by omega), h.state.below hb (by omega), h.move.below hb (by omega), h.res.below hb (by omega), hl, h.below.trans (hb.mono (by omega)), h.hg⟩
theorem Beh.shift (h : Beh A n c v1 v2 g c' k p s m l w V) (s' : Int) : Beh A n c v1 v2 g c' k p s' m l w (V.setCell ⟨w.heap.size + 1, 2, none⟩ (.int .i64 s')) := by
  have hg := h.hg
  exact ⟨h.spec.other (by simp) _, h.state.set 2 _, h.move.other (by simp) _, h.res.other (by simp) _, h.lst.other (by show w.heap.size + 1 ≠ g; omega) _, h.below.setCell (by simp) _, h.hg⟩
theorem Beh.pre (h : Beh A n c v1 v2 g c' k p s m l w V) (p' : Int) : Beh A n c v1 v2 g c' k p' s m l w (V.setCell ⟨w.heap.size + 1, 1, none⟩ (.int .i64 p')) := by
  have hg := h.hg
  exact ⟨h.spec.other (by simp) _, h.state.set 1 _, h.move.other (by simp) _, h.res.other (by simp) _, h.lst.other (by show w.heap.size + 1 ≠ g; omega) _, h.below.setCell (by simp) _, h.hg⟩
theorem Beh.facts (h : Beh A n c v1 v2 g c' k p s m l w V) :
    (V.cell? ⟨w.heap.size, 0, none⟩ = some (.slice A n c) ∧ V.cell? ⟨w.heap.size, 1, none⟩ = some v1 ∧ V.cell? ⟨w.heap.size, 2, none⟩ = some v2) ∧
    (V.cell? ⟨w.heap.size + 1, 0, none⟩ = some (.slice (some ⟨g, 0, none⟩) k c') ∧ V.cell? ⟨w.heap.size + 1, 1, none⟩ = some (.int .i64 p) ∧ V.cell? ⟨w.heap.size + 1, 2, none⟩ = some (.int .i64 s)) ∧
    (V.cell? ⟨w.heap.size + 2, 0, none⟩ = some (.int .i64 m.kind) ∧ V.cell? ⟨w.heap.size + 2, 1, none⟩ = some (.int .i64 m.pod) ∧ V.cell? ⟨w.heap.size + 2, 2, none⟩ = some (.int .i64 m.node) ∧ V.cell? ⟨w.heap.size + 2, 3, none⟩ = some (.int .i64 m.over)) ∧
    w.heap.size < V.heap.size ∧ w.heap.size + 1 < V.heap.size ∧ w.heap.size + 2 < V.heap.size ∧ w.heap.size + 3 < V.heap.size ∧ g < V.heap.size :=
  ⟨⟨h.spec.cell 0 _ rfl, h.spec.cell 1 _ rfl, h.spec.cell 2 _ rfl⟩, ⟨h.state.cell 0 _ rfl, h.state.cell 1 _ rfl, h.state.cell 2 _ rfl⟩, ⟨h.move.cell 0 _ rfl, h.move.cell 1 _ rfl, h.move.cell 2 _ rfl, h.move.cell 3 _ rfl⟩, h.spec.lt, h.state.lt, h.move.lt, h.res.lt, h.lst.lt⟩
theorem Beh.facts2 (h : Beh A n c v1 v2 g c' k p s m l w V) :
    (V.cell? ⟨w.heap.size + 3, 0, none⟩ = some (.slice none 0 0) ∧ V.cell? ⟨w.heap.size + 3, 1, none⟩ = some (.int .i64 0) ∧ V.cell? ⟨w.heap.size + 3, 2, none⟩ = some (.int .i64 0)) ∧
    (V.frozen? ⟨w.heap.size + 3, 0, none⟩ = false ∧ V.frozen? ⟨w.heap.size + 3, 1, none⟩ = false ∧ V.frozen? ⟨w.heap.size + 3, 2, none⟩ = false) ∧
    (V.frozen? ⟨w.heap.size + 1, 1, none⟩ = false ∧ V.frozen? ⟨w.heap.size + 1, 2, none⟩ = false) :=
  ⟨⟨h.res.cell 0 _ rfl, h.res.cell 1 _ rfl, h.res.cell 2 _ rfl⟩, ⟨h.res.frozen 0, h.res.frozen 1, h.res.frozen 2⟩, h.state.frozen 1, h.state.frozen 2⟩
end
theorem place_eq {id : Int} : ∀ {l : List PodD} {k : Int} {i : Nat} (hi : i < l.length), place PodD.id id l k = k + i → 0 ≤ k → l[i].id = id
  | [], _, _, hi, _, _ => by simp at hi
  | x :: r, k, i, hi, h, hk => by
    by_cases hx : x.id = id
    · simp only [place, if_pos hx] at h
      obtain rfl : i = 0 := by omega
      exact hx
    · simp only [place, if_neg hx] at h
      cases i with
      | zero =>
        have h3 : place PodD.id id r (k + 1) < 0 ∨ k + 1 ≤ place PodD.id id r (k + 1) := place_or r (k + 1) (by omega)
        omega
      | succ i =>
        simp only [List.getElem_cons_succ]
        exact place_eq (k := k + 1) (by simpa using hi) (by rw [h]; omega) (by omega)
theorem place_is {l : List PodD} {id : Int} {i : Nat} (hi : i < l.length) (h : place PodD.id id l 0 = i) : l[i].id = id := by
  have := place_eq (l := l) (id := id) (k := 0) hi (by omega) (by omega)
  exact this
/-- A pod that goes. -/
def goD (p : PodD) : PodD := ⟨p.id, p.load, p.prio, p.req, 0⟩
def idxD (id : Int) (l : List PodD) : Nat := (place PodD.id id l 0).toNat
def behindD (x : List WantD) (t : StateD) (m : MoveD) : StateD :=
  if m.kind = 2 then ⟨t.pods.set (idxD m.pod t.pods) (goD (podZ m.pod t.pods)), t.preempts, t.shifts⟩
  else if m.kind = 3 then ⟨t.pods.set (idxD m.pod t.pods) (comeD x m.node (podZ m.pod t.pods)), t.preempts, wrap64 (t.shifts + 1)⟩
  else if m.kind = 4 then ⟨(t.pods.set (idxD m.over t.pods) (goD (podZ m.over t.pods))).set (idxD m.pod t.pods) (comeD x m.node (podZ m.pod t.pods)), wrap64 (t.preempts + 1), t.shifts⟩
  else ⟨t.pods.set (idxD m.pod t.pods) (comeD x m.node (podZ m.pod t.pods)), t.preempts, t.shifts⟩
/-- A state that is told: its pods in new memory. -/
def StateTo (u : StateD) (w : World) (v : Value) (w' : World) : Prop := ∃ A c, v = stateV A u.pods.length c u.preempts u.shifts ∧ Out 8 cellsP w' u.pods A c ∧ (∀ a, A = some a → w.heap.size ≤ a.block) ∧ Below w.heap.size w w'
theorem Beh.done {A : Option Addr} {n c : Nat} {v1 v2 : Value} {g c' k : Nat} {p s : Int} {m : MoveD} {l : List PodD} {w V : World} (h : Beh A n c v1 v2 g c' k p s m l w V) (hk : k = l.length) (hc : k ≤ c') (hm : c' ≤ maxLen) {x y z : Value} :
    StateTo ⟨l, p, s⟩ w (stateV (some ⟨g, 0, none⟩) k c' p s) (((V.setCell ⟨w.heap.size + 3, 0, none⟩ x).setCell ⟨w.heap.size + 3, 1, none⟩ y).setCell ⟨w.heap.size + 3, 2, none⟩ z) := by
  subst hk
  have hg := h.hg
  have hl := (((h.lst.other (p := ⟨w.heap.size + 3, 0, none⟩) (by show w.heap.size + 3 ≠ g; omega) x).other (p := ⟨w.heap.size + 3, 1, none⟩) (by show w.heap.size + 3 ≠ g; omega) y).other (p := ⟨w.heap.size + 3, 2, none⟩) (by show w.heap.size + 3 ≠ g; omega) z)
  exact ⟨_, _, rfl, ⟨hc, hm, (by intro e; cases e), hl.recs⟩, (by intro a e; injection e with e; subst e; show w.heap.size ≤ g; omega), ((h.below.setCell (by simp) _).setCell (by simp) _).setCell (by simp) _⟩
end Go.Proofs.YtbhlmbfhmknanaaDoor

/- What a move comes to: the program's Make of layer 5. -/
namespace Go.Proofs.YtbhlmbfhmknanaaDoor
set_option linter.unusedSimpArgs false
open Go.RowKit
set_option linter.unusedVariables false

/-- What a move comes to: the state, and an error's number. -/
def noState : StateD := ⟨[], 0, 0⟩
def makeD (nodes : List NodeD) (x : List WantD) (t : StateD) (m : MoveD) : StateD × Int :=
  if wellD m = false then (noState, 1) else if hereD nodes t.pods m = false then (noState, 4) else if canD t.pods m = false then (noState, 7) else (behindD x t m, 0)
def codeV (c : Int) : Value := if c = 0 then .nilIface else .iface 41 (.int .i64 c)
theorem well_kinds {m : MoveD} (h : wellD m = true) : m.kind = 1 ∨ m.kind = 2 ∨ m.kind = 3 ∨ m.kind = 4 := by
  unfold wellD at h
  split at h
  · omega
  · split at h
    · omega
    · have : m.kind = 4 := by simpa using h
      omega
theorem here_pod {nodes : List NodeD} {l : List PodD} {m : MoveD} (h : hereD nodes l m = true) : ¬ place PodD.id m.pod l 0 < 0 := by
  intro e
  simp [hereD, e] at h
theorem here_over {nodes : List NodeD} {l : List PodD} {m : MoveD} (h : hereD nodes l m = true) (hc : canD l m = true) : m.kind = 4 → ¬ place PodD.id m.over l 0 < 0 ∧ m.over ≠ m.pod := by
  intro h4
  constructor
  · intro e
    simp [hereD, e, h4] at h
  · intro e
    simp [canD, h4, e] at hc
/-- What stands while Make is at work. -/
structure Mk (snap spec state move : List Value) (w V : World) : Prop where
  snap : Bf V w.heap.size snap
  spec : Bf V (w.heap.size + 1) spec
  state : Bf V (w.heap.size + 2) state
  move : Bf V (w.heap.size + 3) move
  res : Bf V (w.heap.size + 4) [.slice none 0 0, .int .i64 0, .int .i64 0]
  below : Below w.heap.size w V
section
variable {a b c d : List Value} {w V V' : World}
theorem Mk.keep (h : Mk a b c d w V) (hb : Below V.heap.size V V') : Mk a b c d w V' :=
  ⟨h.snap.below hb h.snap.lt, h.spec.below hb h.spec.lt, h.state.below hb h.state.lt, h.move.below hb h.move.lt, h.res.below hb h.res.lt, h.below.trans (hb.mono h.below.size)⟩
theorem Mk.new (w : World) (a b c d : List Value) (t1 t2 t3 t4 t5 : TypeId) : Mk a b c d w (((((w.alloc (.cells a.toArray t1)).alloc (.cells b.toArray t2)).alloc (.cells c.toArray t3)).alloc (.cells d.toArray t4)).alloc (.cells #[.slice none 0 0, .int .i64 0, .int .i64 0] t5)) :=
  ⟨((((Bf.new w a t1 rfl).alloc _).alloc _).alloc _).alloc _, (((Bf.new (w.alloc (.cells a.toArray t1)) b t2 (b := w.heap.size + 1) (by simp)).alloc _).alloc _).alloc _,
    ((Bf.new ((w.alloc (.cells a.toArray t1)).alloc (.cells b.toArray t2)) c t3 (b := w.heap.size + 2) (by simp)).alloc _).alloc _, (Bf.new (((w.alloc (.cells a.toArray t1)).alloc (.cells b.toArray t2)).alloc (.cells c.toArray t3)) d t4 (b := w.heap.size + 3) (by simp)).alloc _,
    Bf.new ((((w.alloc (.cells a.toArray t1)).alloc (.cells b.toArray t2)).alloc (.cells c.toArray t3)).alloc (.cells d.toArray t4)) [.slice none 0 0, .int .i64 0, .int .i64 0] t5 (b := w.heap.size + 4) (by simp),
    (below_four w _ _ _ _).alloc (by simp; omega) _⟩
theorem Mk.facts {a0 a1 a2 b0 b1 b2 c0 c1 c2 d0 d1 d2 d3 : Value} (h : Mk [a0, a1, a2] [b0, b1, b2] [c0, c1, c2] [d0, d1, d2, d3] w V) :
    (V.cell? ⟨w.heap.size, 0, none⟩ = some a0 ∧ V.cell? ⟨w.heap.size, 1, none⟩ = some a1 ∧ V.cell? ⟨w.heap.size, 2, none⟩ = some a2) ∧
    (V.cell? ⟨w.heap.size + 1, 0, none⟩ = some b0 ∧ V.cell? ⟨w.heap.size + 1, 1, none⟩ = some b1 ∧ V.cell? ⟨w.heap.size + 1, 2, none⟩ = some b2) ∧
    (V.cell? ⟨w.heap.size + 2, 0, none⟩ = some c0 ∧ V.cell? ⟨w.heap.size + 2, 1, none⟩ = some c1 ∧ V.cell? ⟨w.heap.size + 2, 2, none⟩ = some c2) ∧
    (V.cell? ⟨w.heap.size + 3, 0, none⟩ = some d0 ∧ V.cell? ⟨w.heap.size + 3, 1, none⟩ = some d1 ∧ V.cell? ⟨w.heap.size + 3, 2, none⟩ = some d2 ∧ V.cell? ⟨w.heap.size + 3, 3, none⟩ = some d3) :=
  ⟨⟨h.snap.cell 0 _ rfl, h.snap.cell 1 _ rfl, h.snap.cell 2 _ rfl⟩, ⟨h.spec.cell 0 _ rfl, h.spec.cell 1 _ rfl, h.spec.cell 2 _ rfl⟩, ⟨h.state.cell 0 _ rfl, h.state.cell 1 _ rfl, h.state.cell 2 _ rfl⟩, ⟨h.move.cell 0 _ rfl, h.move.cell 1 _ rfl, h.move.cell 2 _ rfl, h.move.cell 3 _ rfl⟩⟩
theorem Mk.facts2 (h : Mk a b c d w V) :
    (V.cell? ⟨w.heap.size + 4, 0, none⟩ = some (.slice none 0 0) ∧ V.cell? ⟨w.heap.size + 4, 1, none⟩ = some (.int .i64 0) ∧ V.cell? ⟨w.heap.size + 4, 2, none⟩ = some (.int .i64 0)) ∧
    (V.frozen? ⟨w.heap.size + 4, 0, none⟩ = false ∧ V.frozen? ⟨w.heap.size + 4, 1, none⟩ = false ∧ V.frozen? ⟨w.heap.size + 4, 2, none⟩ = false) ∧ w.heap.size + 4 < V.heap.size :=
  ⟨⟨h.res.cell 0 _ rfl, h.res.cell 1 _ rfl, h.res.cell 2 _ rfl⟩, ⟨h.res.frozen 0, h.res.frozen 1, h.res.frozen 2⟩, h.res.lt⟩
theorem Mk.no (h : Mk a b c d w V) {x y z : Value} : StateTo noState w (stateV none 0 0 0 0) (((V.setCell ⟨w.heap.size + 4, 0, none⟩ x).setCell ⟨w.heap.size + 4, 1, none⟩ y).setCell ⟨w.heap.size + 4, 2, none⟩ z) :=
  ⟨none, 0, rfl, Out.nil rfl, (by intro a e; cases e), ((h.below.setCell (by simp) _).setCell (by simp) _).setCell (by simp) _⟩
end
theorem Out.set {l : List PodD} {w : World} {A : Option Addr} {c : Nat} (h : Out 8 cellsP w l A c) {p : Addr} (hp : ∀ a, A = some a → a.block ≠ p.block) (v : Value) : Out 8 cellsP (w.setCell p v) l A c := by
  refine ⟨h.1, h.2.1, h.2.2.1, ?_⟩
  rcases h.2.2.2 with h0 | ⟨b, o, e, hb, hc⟩
  · exact .inl h0
  · refine .inr ⟨b, o, e, by simpa using hb, fun i hi j u hu => ?_⟩
    have := hp _ e
    rw [World.cell?_setCell_other _ _ _ _ (by intro e'; rw [e'] at this; exact this rfl)]
    exact hc i hi j u hu
end Go.Proofs.YtbhlmbfhmknanaaDoor

/- Plain mathematics of how many of a load are somewhere. -/
namespace Go.Proofs.YtbhlmbfhmknanaaDoor
set_option linter.unusedSimpArgs false
open Go.RowKit
set_option linter.unusedVariables false

/-- Is a pod of this load, somewhere? -/
def inS (load : Int) (p : PodD) : Bool := p.load == load && p.node != 0
/-- A load's size. -/
def sizeD (load : Int) (l : List PodD) : Nat := l.countP (inS load)
def one9 (b : Bool) : Int := if b = true then 1 else 0
theorem size_le9 (load : Int) (l : List PodD) : sizeD load l ≤ l.length := List.countP_le_length
theorem size_next9 {load : Int} {l : List PodD} {k : Nat} (h : k < l.length) {p : PodD} (hx : l[k] = p) : sizeD load (l.take (k + 1)) = sizeD load (l.take k) + if inS load p = true then 1 else 0 := by
  unfold sizeD
  rw [List.take_succ_eq_append_getElem h, hx, List.countP_append]
  simp [List.countP_cons]
theorem size_in9 {load : Int} {l : List PodD} {k : Nat} (h : k < l.length) {p : PodD} (hx : l[k] = p) (hl : p.load = load) (hn : p.node ≠ 0) : sizeD load (l.take (k + 1)) = sizeD load (l.take k) + 1 := by
  rw [size_next9 h hx, if_pos (by simp [inS, hl, hn])]
theorem size_out9 {load : Int} {l : List PodD} {k : Nat} (h : k < l.length) {p : PodD} (hx : l[k] = p) (ho : p.load = load → p.node = 0) : sizeD load (l.take (k + 1)) = sizeD load (l.take k) := by
  rw [size_next9 h hx, if_neg (by simp [inS]; exact ho)]
  rfl
theorem size_end9 {load : Int} {l : List PodD} {k : Nat} (h : l.length ≤ k) : sizeD load (l.take k) = sizeD load l := by rw [List.take_of_length_le h]
theorem size_set9 (load : Int) (l : List PodD) {i : Nat} (hi : i < l.length) (p : PodD) : (sizeD load (l.set i p) : Int) = (sizeD load l : Int) - one9 (inS load l[i]) + one9 (inS load p) := by
  unfold sizeD
  have h1 : l.countP (inS load) = (l.take i).countP (inS load) + ((if inS load l[i] = true then 1 else 0) + (l.drop (i + 1)).countP (inS load)) := by
    conv => lhs; rw [← List.take_append_drop i l, List.drop_eq_getElem_cons hi, List.countP_append, List.countP_cons]
    omega
  have h2 : (l.set i p).countP (inS load) = (l.take i).countP (inS load) + ((if inS load p = true then 1 else 0) + (l.drop (i + 1)).countP (inS load)) := by
    rw [List.set_eq_take_append_cons_drop, if_pos hi, List.countP_append, List.countP_cons]
    omega
  rw [h1, h2]
  unfold one9
  split <;> split <;> omega
theorem inS_go (load : Int) (p : PodD) : inS load (goD p) = false := by simp [inS, goD]
theorem inS_come {load node : Int} (x : List WantD) (p : PodD) (h : node ≠ 0) : inS load (comeD x node p) = (p.load == load) := by simp [inS, comeD, h]
theorem inS_some {load : Int} {p : PodD} (h : p.node ≠ 0) : inS load p = (p.load == load) := by simp [inS, h]
theorem inS_none {load : Int} {p : PodD} (h : p.node = 0) : inS load p = false := by simp [inS, h]
/-- What a load's size is to be behind a move. -/
def want9 (load : Int) (t : StateD) (m : MoveD) : Int :=
  (sizeD load t.pods : Int) - one9 (m.kind == 2 && (podZ m.pod t.pods).load == load) + one9 ((m.kind == 1 || m.kind == 4) && (podZ m.pod t.pods).load == load) - one9 (m.kind == 4 && (podZ m.over t.pods).load == load)
theorem size_behind9 {ns : List NodeD} {x : List WantD} {t : StateD} {m : MoveD} (load : Int) (h1 : wellD m = true) (h2 : hereD ns t.pods m = true) (h3 : canD t.pods m = true) (hn : m.kind = 2 ∨ m.node ≠ 0) : (sizeD load (behindD x t m).pods : Int) = want9 load t m := by
  obtain ⟨i, hi, hp⟩ := place_hit (here_pod h2)
  have ei : idxD m.pod t.pods = i := by rw [idxD, hp]; rfl
  have ez := podZ_some hi hp
  have hk := well_kinds h1
  have ho := here_over h2 h3
  unfold canD at h3
  unfold behindD want9
  rw [ei, ez]
  rw [ez] at h3
  by_cases k2 : m.kind = 2
  · rw [if_pos k2] at h3 ⊢
    have hne : t.pods[i].node ≠ 0 := by simpa using h3
    dsimp only
    rw [size_set9 load t.pods hi, inS_go, inS_some hne]
    simp [k2, one9]
  rw [if_neg k2] at h3 ⊢
  have hn' : m.node ≠ 0 := hn.resolve_left k2
  by_cases k3 : m.kind = 3
  · rw [if_pos k3] at h3 ⊢
    have hne : t.pods[i].node ≠ 0 := by simp at h3; exact h3.1
    dsimp only
    rw [size_set9 load t.pods hi, inS_come x _ hn', inS_some hne]
    simp [k3, one9]
  rw [if_neg k3] at h3 ⊢
  by_cases k4 : m.kind = 4
  · rw [if_pos k4] at h3 ⊢
    obtain ⟨hov, hne⟩ := ho k4
    obtain ⟨k, hk', hpk⟩ := place_hit hov
    have ek : idxD m.over t.pods = k := by rw [idxD, hpk]; rfl
    have ezk := podZ_some hk' hpk
    have hki : k ≠ i := fun e => by
      subst e
      exact hne ((place_is hk' hpk).symm.trans (place_is hi hp))
    rw [ezk] at h3 ⊢
    rw [ek]
    have h30 : t.pods[i].node = 0 := by simp at h3; exact h3.1
    have h3k : t.pods[k].node = m.node := by simp at h3; exact h3.2.2
    dsimp only
    rw [size_set9 load _ (by simpa using hi), List.getElem_set_ne hki, size_set9 load t.pods hk', inS_go, inS_come x _ hn', inS_some (show t.pods[k].node ≠ 0 by rw [h3k]; exact hn'), inS_none h30]
    simp [k4, one9]
    omega
  · rw [if_neg k4] at h3 ⊢
    have h30 : t.pods[i].node = 0 := by simpa using h3
    have k1 : m.kind = 1 := by omega
    dsimp only
    rw [size_set9 load t.pods hi, inS_come x _ hn', inS_none h30]
    simp [k1, one9]
theorem size_made9 {ns : List NodeD} {x : List WantD} {t : StateD} {m : MoveD} (h : (makeD ns x t m).2 = 0) (load : Int) (hn : m.kind = 2 ∨ m.node ≠ 0) : (sizeD load (makeD ns x t m).1.pods : Int) = want9 load t m := by
  unfold makeD at h ⊢
  split at h
  · cases h
  · split at h
    · cases h
    · split at h
      · cases h
      · rename_i q1 q2 q3
        rw [if_neg q1, if_neg q2, if_neg q3]
        exact size_behind9 load (by simpa using q1) (by simpa using q2) (by simpa using q3) hn
theorem made_len9 {ns : List NodeD} {x : List WantD} {t : StateD} {m : MoveD} (h : (makeD ns x t m).2 = 0) : (makeD ns x t m).1.pods.length = t.pods.length := by
  have e : (makeD ns x t m).1 = behindD x t m := by
    unfold makeD at h ⊢
    split at h
    · cases h
    · split at h
      · cases h
      · split at h
        · cases h
        · rename_i q1 q2 q3
          rw [if_neg q1, if_neg q2, if_neg q3]
  rw [e]
  unfold behindD
  split
  · simp
  · split
    · simp
    · split <;> simp

/-! Which load is at fault. -/
def fault9 (x : LoadD) (n : Int) : Int := if n < x.min then 12 else if x.max < n then 13 else 0
theorem fault9_few {x : LoadD} {n : Int} (h : n < x.min) : fault9 x n = 12 := by rw [fault9, if_pos h]
theorem fault9_many {x : LoadD} {n : Int} (h1 : ¬ n < x.min) (h : x.max < n) : fault9 x n = 13 := by rw [fault9, if_neg h1, if_pos h]
theorem fault9_none {x : LoadD} {n : Int} (h1 : ¬ n < x.min) (h : ¬ x.max < n) : fault9 x n = 0 := by rw [fault9, if_neg h1, if_neg h]
/-- The first load, behind k others, whose size is at fault. -/
def budgetFrom (l : List PodD) : List LoadD → Nat → Int × Int
  | [], _ => (0, -1)
  | x :: r, k => if fault9 x (sizeD x.id l : Nat) = 0 then budgetFrom l r (k + 1) else (fault9 x (sizeD x.id l : Nat), (k : Int))
def budgetOf (ls : List LoadD) (l : List PodD) : Int × Int := budgetFrom l ls 0
theorem budgetFrom_at {l : List PodD} {ls : List LoadD} {k : Nat} {z : Int × Int} (h : k < ls.length) {x : LoadD} (hx : ls[k] = x) (hp : budgetFrom l (ls.drop k) k = z) :
    (fault9 x (sizeD x.id l : Nat) ≠ 0 → z = (fault9 x (sizeD x.id l : Nat), (k : Int))) ∧ (fault9 x (sizeD x.id l : Nat) = 0 → budgetFrom l (ls.drop (k + 1)) (k + 1) = z) := by
  rw [List.drop_eq_getElem_cons h, hx, budgetFrom] at hp
  constructor
  · intro e; rw [if_neg e] at hp; exact hp.symm
  · intro e; rw [if_pos e] at hp; exact hp
theorem budgetFrom_end {l : List PodD} {ls : List LoadD} {k : Nat} {z : Int × Int} (h : ls.length ≤ k) (hp : budgetFrom l (ls.drop k) k = z) : z = (0, -1) := by
  rw [List.drop_of_length_le h] at hp
  exact hp.symm
def usedD (x1 x2 t1 t2 : Int) : Bool := decide (x1 < t1) || decide (x2 < t2)
end Go.Proofs.YtbhlmbfhmknanaaDoor

/- Plain mathematics: a sorted list without its repetitions is the list of all, rising, each once. -/
namespace Go.Proofs.YtbhlmbfhmknanaaDoor
set_option linter.unusedSimpArgs false
open Go.Lib

theorem rising_eq : ∀ {a b : List Int}, Rising a → Rising b → (∀ y, y ∈ a ↔ y ∈ b) → a = b
  | [], [], _, _, _ => rfl
  | [], y :: r, _, _, h => by have := (h y).2 (by simp); simp at this
  | x :: r, [], _, _, h => by have := (h x).1 (by simp); simp at this
  | x :: r, y :: t, ha, hb, h => by
    have hxy : x = y := by
      rcases List.mem_cons.1 ((h x).1 (by simp)) with e | e
      · exact e
      · rcases List.mem_cons.1 ((h y).2 (by simp)) with f | f
        · exact f.symm
        · have h1 := hb.1 x e
          have h2 := ha.1 y f
          omega
    subst hxy
    have hr : r = t := rising_eq ha.2 hb.2 fun z => by
      constructor
      · intro hz
        rcases List.mem_cons.1 ((h z).1 (by simp [hz])) with e | e
        · have := ha.1 z hz; omega
        · exact e
      · intro hz
        rcases List.mem_cons.1 ((h z).2 (by simp [hz])) with e | e
        · have := hb.1 z hz; omega
        · exact e
    rw [hr]
theorem rising_snoc {z : Int} : ∀ {l : List Int}, Rising l → (∀ y ∈ l, y < z) → Rising (l ++ [z])
  | [], _, _ => ⟨by simp, trivial⟩
  | x :: r, h, hz => by
    refine ⟨fun y hy => ?_, rising_snoc h.2 fun y hy => hz y (by simp [hy])⟩
    rcases List.mem_append.1 hy with hy | hy
    · exact h.1 y hy
    · rw [List.mem_singleton.1 hy]; exact hz x (by simp)

theorem compact_upTo (d : Array Int) (hs : ∀ i j, i ≤ j → j < d.size → d[i]! ≤ d[j]!) : ∀ m, m ≤ d.size → Rising (compactUpTo d m) ∧ ∀ y, y ∈ compactUpTo d m ↔ ∃ j, j < m ∧ d[j]! = y
  | 0, _ => ⟨by simp [compactUpTo, Rising], fun y => by simp [compactUpTo]⟩
  | m + 1, hm => by
    obtain ⟨h1, h2⟩ := compact_upTo d hs m (by omega)
    rw [compactUpTo_succ]
    by_cases hk : keeps d m = true
    · rw [if_pos hk]
      refine ⟨rising_snoc h1 fun y hy => ?_, fun y => ?_⟩
      · obtain ⟨j, hj, rfl⟩ := (h2 y).1 hy
        have hne : d[m]! ≠ d[m - 1]! := by
          have := hk
          unfold keeps at this
          rcases of_decide_eq_true this with e | e
          · omega
          · exact e
        have a1 := hs j (m - 1) (by omega) (by omega)
        have a2 := hs (m - 1) m (by omega) (by omega)
        omega
      · constructor
        · intro hy
          rcases List.mem_append.1 hy with hy | hy
          · obtain ⟨j, hj, e⟩ := (h2 y).1 hy
            exact ⟨j, by omega, e⟩
          · exact ⟨m, by omega, (List.mem_singleton.1 hy).symm⟩
        · rintro ⟨j, hj, e⟩
          by_cases hjm : j = m
          · subst hjm; simp [e]
          · exact List.mem_append.2 (.inl ((h2 y).2 ⟨j, by omega, e⟩))
    · rw [if_neg hk, List.append_nil]
      refine ⟨h1, fun y => ?_⟩
      have hk' : m ≠ 0 ∧ d[m]! = d[m - 1]! := by
        have e : ¬ (m = 0 ∨ d[m]! ≠ d[m - 1]!) := fun e => hk (by unfold keeps; exact decide_eq_true e)
        refine ⟨fun h => e (.inl h), ?_⟩
        by_cases q : d[m]! = d[m - 1]!
        · exact q
        · exact absurd (.inr q) e
      constructor
      · intro hy
        obtain ⟨j, hj, e⟩ := (h2 y).1 hy
        exact ⟨j, by omega, e⟩
      · rintro ⟨j, hj, e⟩
        by_cases hjm : j = m
        · subst hjm
          exact (h2 y).2 ⟨j - 1, by omega, by rw [← hk'.2]; exact e⟩
        · exact (h2 y).2 ⟨j, by omega, e⟩

theorem compact_sorted (ts : List Int) (hs : ts.Pairwise (· ≤ ·)) : Rising (compact ts) ∧ ∀ y, y ∈ compact ts ↔ y ∈ ts := by
  have hget : ∀ i, ∀ h : i < ts.length, ts.toArray[i]! = ts[i] := fun i h => by simp [h]
  have key := compact_upTo ts.toArray (fun i j hij hj => by
    have hj' : j < ts.length := by simpa using hj
    rw [hget i (by omega), hget j hj']
    by_cases e : i = j
    · subst e; exact Int.le_refl _
    · exact List.pairwise_iff_getElem.1 hs i j (by omega) hj' (by omega)) ts.length (by simp)
  refine ⟨key.1, fun y => (key.2 y).trans ?_⟩
  constructor
  · rintro ⟨j, hj, rfl⟩
    rw [hget j hj]
    exact List.getElem_mem hj
  · intro hy
    obtain ⟨j, hj, rfl⟩ := List.mem_iff_getElem.1 hy
    exact ⟨j, hj, hget j hj⟩
theorem zones_mem (l : List NodeD) : ∀ (acc : List Int) (y : Int), y ∈ l.foldl (fun acc n => insZ n.zone acc) acc ↔ y ∈ l.map NodeD.zone ∨ y ∈ acc := by
  induction l with
  | nil => intro acc y; simp
  | cons n r ih =>
    intro acc y
    simp only [List.foldl_cons, ih, insZ_mem, List.map_cons, List.mem_cons]
    constructor
    · rintro (h | h | h)
      · exact .inl (.inr h)
      · exact .inl (.inl h)
      · exact .inr h
    · rintro ((h | h) | h)
      · exact .inr (.inl h)
      · exact .inl h
      · exact .inr (.inr h)
theorem zones_compact (l : List NodeD) : compact ((l.map NodeD.zone).mergeSort fun x y => decide (x ≤ y)) = zonesOf l := by
  have hs : ((l.map NodeD.zone).mergeSort fun x y => decide (x ≤ y)).Pairwise (· ≤ ·) := by
    have := List.pairwise_mergeSort (le := fun x y : Int => decide (x ≤ y)) (fun a b c h1 h2 => by simp at *; omega) (fun a b => by simp; omega) (l.map NodeD.zone)
    exact this.imp fun h => by simpa using h
  obtain ⟨h1, h2⟩ := compact_sorted _ hs
  refine rising_eq h1 (zones_fold l [] trivial).1 fun y => (h2 y).trans ?_
  rw [List.mem_mergeSort]
  unfold zonesOf
  rw [zones_mem]
  simp
end Go.Proofs.YtbhlmbfhmknanaaDoor

/- Plain mathematics of loads over zones. -/
namespace Go.Proofs.YtbhlmbfhmknanaaDoor
set_option linter.unusedSimpArgs false
open Go.RowKit
set_option linter.unusedVariables false

/-- The zone that a pod is in. -/
def zoneD (ns : List NodeD) (p : PodD) : Option Int :=
  if p.node = 0 then none else
    if place NodeD.id p.node ns 0 < 0 then none else (ns[(place NodeD.id p.node ns 0).toNat]?).map NodeD.zone
theorem zoneD_nowhere {ns : List NodeD} {p : PodD} (h : p.node = 0) : zoneD ns p = none := by simp [zoneD, h]
theorem zoneD_none {ns : List NodeD} {p : PodD} (h : place NodeD.id p.node ns 0 < 0) : zoneD ns p = none := by simp [zoneD, h]
theorem zoneD_some {ns : List NodeD} {p : PodD} {i : Nat} (h0 : p.node ≠ 0) (hi : i < ns.length) (h : place NodeD.id p.node ns 0 = i) : zoneD ns p = some ns[i].zone := by
  have : ¬ (i : Int) < 0 := by omega
  simp [zoneD, h0, h, this, hi]
def inZ (ns : List NodeD) (load z : Int) (p : PodD) : Bool := p.load == load && zoneD ns p == some z
/-- A load's count in a zone. -/
def countD (ns : List NodeD) (load z : Int) (l : List PodD) : Nat := l.countP (inZ ns load z)
def countsD (ns : List NodeD) (load : Int) (zs : List Int) (l : List PodD) : List Int := zs.map fun z => (countD ns load z l : Int)
theorem counts_len {ns : List NodeD} {load : Int} {zs : List Int} {l : List PodD} : (countsD ns load zs l).length = zs.length := by simp [countsD]
theorem count_le (ns : List NodeD) (load z : Int) (l : List PodD) : countD ns load z l ≤ l.length := List.countP_le_length
theorem count_next {ns : List NodeD} {load z : Int} {l : List PodD} {k : Nat} (h : k < l.length) {p : PodD} (hx : l[k] = p) : countD ns load z (l.take (k + 1)) = countD ns load z (l.take k) + if inZ ns load z p = true then 1 else 0 := by
  unfold countD
  rw [List.take_succ_eq_append_getElem h, hx, List.countP_append]
  simp [List.countP_cons]
theorem counts_zero (ns : List NodeD) (load : Int) (zs : List Int) (l : List PodD) : countsD ns load zs (l.take 0) = List.replicate zs.length 0 := by
  simp [countsD, countD, List.map_const']
theorem counts_skip {ns : List NodeD} {load : Int} {zs : List Int} {l : List PodD} {k : Nat} (h : k < l.length) {p : PodD} (hx : l[k] = p) (hno : ∀ z ∈ zs, inZ ns load z p = false) : countsD ns load zs (l.take (k + 1)) = countsD ns load zs (l.take k) := by
  unfold countsD
  refine List.map_congr_left fun z hz => ?_
  rw [count_next h hx, hno z hz]
  simp
theorem inZ_load {ns : List NodeD} {load z : Int} {p : PodD} (h : p.load ≠ load) : inZ ns load z p = false := by simp [inZ, h]
theorem inZ_none {ns : List NodeD} {load z : Int} {p : PodD} (h : zoneD ns p = none) : inZ ns load z p = false := by simp [inZ, h]
theorem inZ_other {ns : List NodeD} {load z y : Int} {p : PodD} (h : zoneD ns p = some y) (hy : y ≠ z) : inZ ns load z p = false := by simp [inZ, h, hy]
theorem inZ_here {ns : List NodeD} {load z : Int} {p : PodD} (hl : p.load = load) (h : zoneD ns p = some z) : inZ ns load z p = true := by simp [inZ, h, hl]
theorem rising_at8 {z : Int} : ∀ {zs : List Int}, Rising zs → z ∈ zs → ∃ hi : zs.countP (· < z) < zs.length, zs[zs.countP (· < z)] = z ∧ ∀ j, ∀ hj : j < zs.length, j ≠ zs.countP (· < z) → zs[j] ≠ z
  | [], _, h => by simp at h
  | x :: r, hr, h => by
    by_cases hx : x = z
    · subst hx
      have h0 : r.countP (· < x) = 0 := by
        rw [List.countP_eq_zero]
        intro y hy
        have := hr.1 y hy
        simp; omega
      have e : (x :: r).countP (· < x) = 0 := by simp [h0]
      refine ⟨by rw [e]; simp, by simp [e], fun j hj hne => ?_⟩
      rw [e] at hne
      cases j with
      | zero => exact absurd rfl hne
      | succ j =>
        have := hr.1 _ (List.getElem_mem (l := r) (n := j) (by simpa using hj))
        simp only [List.getElem_cons_succ]
        omega
    · have hm : z ∈ r := by
        rcases List.mem_cons.1 h with e | e
        · exact absurd e.symm hx
        · exact e
      obtain ⟨i1, i2, i3⟩ := rising_at8 hr.2 hm
      have hlt := hr.1 z hm
      have e : (x :: r).countP (· < z) = r.countP (· < z) + 1 := by simp [hlt]
      refine ⟨by rw [e]; simpa using i1, by simp only [e, List.getElem_cons_succ]; exact i2, fun j hj hne => ?_⟩
      rw [e] at hne
      cases j with
      | zero => simpa using hx
      | succ j => simp only [List.getElem_cons_succ]; exact i3 j (by simpa using hj) (by omega)
theorem counts_bump {ns : List NodeD} {load z : Int} {zs : List Int} {l : List PodD} {k : Nat} (h : k < l.length) {p : PodD} (hx : l[k] = p) (hl : p.load = load) (hz : zoneD ns p = some z) (hr : Rising zs) (hm : z ∈ zs) :
    zs.countP (· < z) < zs.length ∧ (countsD ns load zs (l.take k))[zs.countP (· < z)]? = some (countD ns load z (l.take k) : Int) ∧ countsD ns load zs (l.take (k + 1)) = (countsD ns load zs (l.take k)).set (zs.countP (· < z)) ((countD ns load z (l.take k) : Int) + 1) := by
  obtain ⟨hi, he, hne⟩ := rising_at8 hr hm
  refine ⟨hi, ?_, ?_⟩
  · unfold countsD
    rw [List.getElem?_map, List.getElem?_eq_getElem hi, he]
    rfl
  · refine List.ext_getElem (by simp [counts_len]) fun j h1 h2 => ?_
    have hj : j < zs.length := by simpa [counts_len] using h1
    rw [List.getElem_set]
    by_cases e : zs.countP (· < z) = j
    · subst e
      rw [if_pos rfl]
      simp only [countsD, List.getElem_map, he]
      rw [count_next h hx, inZ_here hl hz]
      simp
    · rw [if_neg e]
      simp only [countsD, List.getElem_map]
      rw [count_next h hx, inZ_other hz (fun q => hne j hj (fun w => e w.symm) q.symm)]
      simp
theorem rising_le : ∀ {zs : List Int}, Rising zs → zs.Pairwise (· ≤ ·)
  | [], _ => List.Pairwise.nil
  | x :: r, h => List.Pairwise.cons (fun y hy => by have := h.1 y hy; omega) (rising_le h.2)
theorem rising_nodup : ∀ {zs : List Int}, Rising zs → zs.Nodup
  | [], _ => List.nodup_nil
  | x :: r, h => List.nodup_cons.2 ⟨fun hm => by have := h.1 x hm; omega, rising_nodup h.2⟩

/-! The greatest and the least one. -/
theorem foldl_max : ∀ (r : List Int) (a : Int), a ≤ r.foldl max a ∧ (∀ x ∈ r, x ≤ r.foldl max a) ∧ (r.foldl max a = a ∨ r.foldl max a ∈ r)
  | [], a => ⟨Int.le_refl _, by simp, .inl rfl⟩
  | y :: r, a => by
    obtain ⟨h1, h2, h3⟩ := foldl_max r (max a y)
    refine ⟨by simp only [List.foldl_cons]; omega, fun x hx => ?_, ?_⟩
    · simp only [List.foldl_cons]
      rcases List.mem_cons.1 hx with e | e
      · omega
      · exact h2 x e
    · simp only [List.foldl_cons]
      rcases h3 with e | e
      · rw [e]
        by_cases q : y ≤ a
        · left; omega
        · right; rw [show max a y = y by omega]; simp
      · right; simp [e]
theorem foldl_min : ∀ (r : List Int) (a : Int), r.foldl min a ≤ a ∧ (∀ x ∈ r, r.foldl min a ≤ x) ∧ (r.foldl min a = a ∨ r.foldl min a ∈ r)
  | [], a => ⟨Int.le_refl _, by simp, .inl rfl⟩
  | y :: r, a => by
    obtain ⟨h1, h2, h3⟩ := foldl_min r (min a y)
    refine ⟨by simp only [List.foldl_cons]; omega, fun x hx => ?_, ?_⟩
    · simp only [List.foldl_cons]
      rcases List.mem_cons.1 hx with e | e
      · omega
      · exact h2 x e
    · simp only [List.foldl_cons]
      rcases h3 with e | e
      · rw [e]
        by_cases q : a ≤ y
        · left; omega
        · right; rw [show min a y = y by omega]; simp
      · right; simp [e]
theorem maxOf_spec {zs : List Int} (h : zs ≠ []) : Lib.maxOf zs ∈ zs ∧ ∀ x ∈ zs, x ≤ Lib.maxOf zs := by
  obtain ⟨a, r, rfl⟩ := List.exists_cons_of_ne_nil h
  obtain ⟨h1, h2, h3⟩ := foldl_max (a :: r) a
  refine ⟨?_, h2⟩
  rcases h3 with e | e
  · unfold Lib.maxOf; rw [List.headD_cons, e]; simp
  · exact e
theorem minOf_spec {zs : List Int} (h : zs ≠ []) : Lib.minOf zs ∈ zs ∧ ∀ x ∈ zs, Lib.minOf zs ≤ x := by
  obtain ⟨a, r, rfl⟩ := List.exists_cons_of_ne_nil h
  obtain ⟨h1, h2, h3⟩ := foldl_min (a :: r) a
  refine ⟨?_, h2⟩
  rcases h3 with e | e
  · unfold Lib.minOf; rw [List.headD_cons, e]; simp
  · exact e
/-- How unlike zones are. -/
def skewD (ns : List NodeD) (load : Int) (zs : List Int) (l : List PodD) : Int := if zs = [] then 0 else Lib.maxOf (countsD ns load zs l) - Lib.minOf (countsD ns load zs l)
theorem counts_ne {ns : List NodeD} {load : Int} {zs : List Int} {l : List PodD} (h : zs ≠ []) : countsD ns load zs l ≠ [] := by
  intro e
  exact h (List.eq_nil_of_length_eq_zero (by rw [← counts_len (ns := ns) (load := load) (l := l), e]; rfl))
theorem counts_bounds {ns : List NodeD} {load : Int} {zs : List Int} {l : List PodD} {x : Int} (h : x ∈ countsD ns load zs l) : 0 ≤ x ∧ x ≤ l.length := by
  simp only [countsD, List.mem_map] at h
  obtain ⟨z, _, rfl⟩ := h
  have := count_le ns load z l
  omega
theorem skew_max {ns : List NodeD} {load : Int} {zs : List Int} {l : List PodD} (h : zs ≠ []) : skewD ns load zs l = Lib.maxOf (countsD ns load zs l) - Lib.minOf (countsD ns load zs l) ∧ 0 ≤ Lib.minOf (countsD ns load zs l) ∧ Lib.minOf (countsD ns load zs l) ≤ Lib.maxOf (countsD ns load zs l) ∧ Lib.maxOf (countsD ns load zs l) ≤ l.length := by
  have hn := counts_ne (ns := ns) (load := load) (l := l) h
  obtain ⟨m1, m2⟩ := maxOf_spec hn
  obtain ⟨n1, n2⟩ := minOf_spec hn
  exact ⟨by rw [skewD, if_neg h], (counts_bounds n1).1, m2 _ n1, (counts_bounds m1).2⟩
theorem skew_bounds (ns : List NodeD) (load : Int) (zs : List Int) (l : List PodD) : 0 ≤ skewD ns load zs l ∧ skewD ns load zs l ≤ l.length := by
  by_cases h : zs = []
  · rw [skewD, if_pos h]; omega
  · have := skew_max (ns := ns) (load := load) (l := l) h
    omega
/-! All counts together. -/
/-- Is a pod of this load, at a node that there is? -/
def thereD (ns : List NodeD) (load : Int) (p : PodD) : Bool := p.load == load && (p.node != 0 && decide (0 ≤ place NodeD.id p.node ns 0))
theorem zone_there {ns : List NodeD} {p : PodD} (h0 : p.node ≠ 0) (h : ¬ place NodeD.id p.node ns 0 < 0) : ∃ z, zoneD ns p = some z ∧ z ∈ zonesOf ns := by
  have hg := place_ge (f := NodeD.id) (id := p.node) (l := ns) (k := 0) (by omega)
  obtain ⟨i, hi⟩ := Int.eq_ofNat_of_zero_le (show 0 ≤ place NodeD.id p.node ns 0 by omega)
  have hi' : i < ns.length := by omega
  refine ⟨_, zoneD_some h0 hi' hi, ?_⟩
  unfold zonesOf
  rw [zones_mem]
  left
  simp
  exact ⟨_, List.getElem_mem hi', rfl⟩
theorem sum_add (f g : Int → Int) : ∀ zs : List Int, (zs.map fun z => f z + g z).sum = (zs.map f).sum + (zs.map g).sum
  | [] => rfl
  | z :: r => by simp only [List.map_cons, List.sum_cons, sum_add f g r]; omega
theorem sum_none (f : Int → Int) : ∀ zs : List Int, (∀ z ∈ zs, f z = 0) → (zs.map f).sum = 0
  | [], _ => rfl
  | z :: r, h => by simp only [List.map_cons, List.sum_cons, h z (by simp), sum_none f r fun y hy => h y (by simp [hy])]; rfl
theorem sum_one (f : Int → Int) (y : Int) : ∀ zs : List Int, zs.Nodup → y ∈ zs → f y = 1 → (∀ z ∈ zs, z ≠ y → f z = 0) → (zs.map f).sum = 1
  | [], _, h, _, _ => by simp at h
  | z :: r, hn, hm, h1, h0 => by
    simp only [List.map_cons, List.sum_cons]
    by_cases e : z = y
    · subst e
      rw [h1, sum_none f r fun x hx => h0 x (by simp [hx]) fun q => (List.nodup_cons.1 hn).1 (q ▸ hx)]
      rfl
    · rw [h0 z (by simp) e, sum_one f y r (List.nodup_cons.1 hn).2 ((List.mem_cons.1 hm).resolve_left fun q => e q.symm) h1 fun x hx => h0 x (by simp [hx])]
      rfl
theorem counts_all (ns : List NodeD) (load : Int) : ∀ l : List PodD, (countsD ns load (zonesOf ns) l).sum = (l.countP (thereD ns load) : Nat)
  | [] => by
    unfold countsD
    rw [sum_none _ _ fun z _ => by simp [countD]]
    rfl
  | p :: r => by
    have hc : countsD ns load (zonesOf ns) (p :: r) = (zonesOf ns).map fun z => (countD ns load z r : Int) + (if inZ ns load z p = true then 1 else 0) := by
      unfold countsD
      refine List.map_congr_left fun z _ => ?_
      unfold countD
      rw [List.countP_cons]
      split <;> simp
    rw [hc, sum_add]
    have ih := counts_all ns load r
    unfold countsD at ih
    rw [ih, List.countP_cons]
    have key : ((zonesOf ns).map fun z => (if inZ ns load z p = true then (1 : Int) else 0)).sum = if thereD ns load p = true then 1 else 0 := by
      by_cases hl : p.load = load
      · by_cases h0 : p.node = 0
        · rw [sum_none (fun z => if inZ ns load z p = true then (1 : Int) else 0) _ fun z _ => by show (if inZ ns load z p = true then (1 : Int) else 0) = 0; rw [inZ_none (zoneD_nowhere h0)]; rfl]
          simp [thereD, h0]
        · by_cases hp : place NodeD.id p.node ns 0 < 0
          · rw [sum_none (fun z => if inZ ns load z p = true then (1 : Int) else 0) _ fun z _ => by show (if inZ ns load z p = true then (1 : Int) else 0) = 0; rw [inZ_none (zoneD_none hp)]; rfl]
            have : ¬ 0 ≤ place NodeD.id p.node ns 0 := by omega
            simp [thereD, this]
          · obtain ⟨y, hy, hm⟩ := zone_there h0 hp
            rw [sum_one (fun z => if inZ ns load z p = true then (1 : Int) else 0) y (zonesOf ns) (rising_nodup (zones_fold ns [] trivial).1) hm (by show (if inZ ns load y p = true then (1 : Int) else 0) = 1; rw [inZ_here hl hy]; rfl) fun z _ hz => by show (if inZ ns load z p = true then (1 : Int) else 0) = 0; rw [inZ_other hy (fun q => hz q.symm)]; rfl]
            have : 0 ≤ place NodeD.id p.node ns 0 := by omega
            simp [thereD, hl, h0, this]
      · rw [sum_none (fun z => if inZ ns load z p = true then (1 : Int) else 0) _ fun z _ => by show (if inZ ns load z p = true then (1 : Int) else 0) = 0; rw [inZ_load hl]; rfl]
        simp [thereD, hl]
    rw [key]
    split <;> simp
/-! What a move changes. -/
theorem near_max {a b : List Int} (h : a ≠ []) (hl : a.length = b.length) (hd : ∀ i, ∀ h1 : i < a.length, ∀ h2 : i < b.length, a[i] ≤ b[i] + 1) : Lib.maxOf a ≤ Lib.maxOf b + 1 := by
  obtain ⟨m1, _⟩ := maxOf_spec h
  obtain ⟨i, hi, e⟩ := List.getElem_of_mem m1
  have hb : b ≠ [] := fun q => h (List.eq_nil_of_length_eq_zero (by rw [hl, q]; rfl))
  have := (maxOf_spec hb).2 b[i] (List.getElem_mem (by omega))
  have := hd i hi (by omega)
  omega
theorem near_min {a b : List Int} (h : a ≠ []) (hl : a.length = b.length) (hd : ∀ i, ∀ h1 : i < a.length, ∀ h2 : i < b.length, a[i] ≤ b[i] + 1) : Lib.minOf a ≤ Lib.minOf b + 1 := by
  have hb : b ≠ [] := fun q => h (List.eq_nil_of_length_eq_zero (by rw [hl, q]; rfl))
  obtain ⟨m1, _⟩ := minOf_spec hb
  obtain ⟨i, hi, e⟩ := List.getElem_of_mem m1
  have := (minOf_spec h).2 a[i] (List.getElem_mem (by omega))
  have := hd i (by omega) hi
  omega
theorem count_set (ns : List NodeD) (load z : Int) (l : List PodD) (i : Nat) (p : PodD) : countD ns load z (l.set i p) ≤ countD ns load z l + 1 ∧ countD ns load z l ≤ countD ns load z (l.set i p) + 1 := by
  by_cases hi : i < l.length
  · unfold countD
    have h1 : l.countP (inZ ns load z) = (l.take i).countP (inZ ns load z) + ((if inZ ns load z l[i] = true then 1 else 0) + (l.drop (i + 1)).countP (inZ ns load z)) := by
      conv => lhs; rw [← List.take_append_drop i l, List.drop_eq_getElem_cons hi, List.countP_append, List.countP_cons]
      omega
    have h2 : (l.set i p).countP (inZ ns load z) = (l.take i).countP (inZ ns load z) + ((if inZ ns load z p = true then 1 else 0) + (l.drop (i + 1)).countP (inZ ns load z)) := by
      rw [List.set_eq_take_append_cons_drop, if_pos hi, List.countP_append, List.countP_cons]
      omega
    rw [h1, h2]
    split <;> split <;> omega
  · rw [List.set_eq_of_length_le (by omega)]; omega
theorem skew_set (ns : List NodeD) (load : Int) (zs : List Int) (l : List PodD) (i : Nat) (p : PodD) : skewD ns load zs (l.set i p) ≤ skewD ns load zs l + 2 ∧ skewD ns load zs l ≤ skewD ns load zs (l.set i p) + 2 := by
  by_cases h : zs = []
  · simp [skewD, h]
  · have n1 := counts_ne (ns := ns) (load := load) (l := l) h
    have n2 := counts_ne (ns := ns) (load := load) (l := l.set i p) h
    have hl : (countsD ns load zs (l.set i p)).length = (countsD ns load zs l).length := by rw [counts_len, counts_len]
    have d1 : ∀ j, ∀ h1 : j < (countsD ns load zs (l.set i p)).length, ∀ h2 : j < (countsD ns load zs l).length, (countsD ns load zs (l.set i p))[j] ≤ (countsD ns load zs l)[j] + 1 := fun j h1 h2 => by
      simp only [countsD, List.getElem_map]
      have := count_set ns load (zs[j]'(by rwa [counts_len] at h1)) l i p
      omega
    have d2 : ∀ j, ∀ h1 : j < (countsD ns load zs l).length, ∀ h2 : j < (countsD ns load zs (l.set i p)).length, (countsD ns load zs l)[j] ≤ (countsD ns load zs (l.set i p))[j] + 1 := fun j h1 h2 => by
      simp only [countsD, List.getElem_map]
      have := count_set ns load (zs[j]'(by rwa [counts_len] at h1)) l i p
      omega
    have a1 := near_max n2 hl d1
    have a2 := near_max n1 hl.symm d2
    have a3 := near_min n2 hl d1
    have a4 := near_min n1 hl.symm d2
    rw [skewD, skewD, if_neg h, if_neg h]
    omega
theorem skew_behind (ns : List NodeD) (load : Int) (zs : List Int) (x : List WantD) (t : StateD) (m : MoveD) :
    skewD ns load zs (behindD x t m).pods - skewD ns load zs t.pods ≤ (if m.kind = 4 then 4 else 2) ∧ -(skewD ns load zs (behindD x t m).pods - skewD ns load zs t.pods) ≤ (if m.kind = 4 then 4 else 2) := by
  unfold behindD
  by_cases h2 : m.kind = 2
  · rw [if_pos h2, if_neg (by omega)]
    have := skew_set ns load zs t.pods (idxD m.pod t.pods) (goD (podZ m.pod t.pods))
    constructor <;> (dsimp only; omega)
  · rw [if_neg h2]
    by_cases h3 : m.kind = 3
    · rw [if_pos h3, if_neg (by omega)]
      have := skew_set ns load zs t.pods (idxD m.pod t.pods) (comeD x m.node (podZ m.pod t.pods))
      constructor <;> (dsimp only; omega)
    · rw [if_neg h3]
      by_cases h4 : m.kind = 4
      · rw [if_pos h4, if_pos h4]
        have q1 := skew_set ns load zs t.pods (idxD m.over t.pods) (goD (podZ m.over t.pods))
        have q2 := skew_set ns load zs (t.pods.set (idxD m.over t.pods) (goD (podZ m.over t.pods))) (idxD m.pod t.pods) (comeD x m.node (podZ m.pod t.pods))
        constructor <;> (dsimp only; omega)
      · rw [if_neg h4, if_neg h4]
        have := skew_set ns load zs t.pods (idxD m.pod t.pods) (comeD x m.node (podZ m.pod t.pods))
        constructor <;> (dsimp only; omega)
theorem skew_made {ns : List NodeD} {x : List WantD} {t : StateD} {m : MoveD} (h : (makeD ns x t m).2 = 0) (load : Int) (zs : List Int) :
    (skewD ns load zs (makeD ns x t m).1.pods - skewD ns load zs t.pods ≤ (if m.kind = 4 then 4 else 2) ∧ -(skewD ns load zs (makeD ns x t m).1.pods - skewD ns load zs t.pods) ≤ (if m.kind = 4 then 4 else 2)) ∧ (makeD ns x t m).1.pods.length = t.pods.length := by
  have e : (makeD ns x t m).1 = behindD x t m := by
    unfold makeD at h ⊢
    split at h
    · cases h
    · split at h
      · cases h
      · split at h
        · cases h
        · rename_i q1 q2 q3
          rw [if_neg q1, if_neg q2, if_neg q3]
  rw [e]
  refine ⟨skew_behind ns load zs x t m, ?_⟩
  unfold behindD
  split
  · simp
  · split
    · simp
    · split <;> simp
end Go.Proofs.YtbhlmbfhmknanaaDoor

namespace Go.Proofs.YtbhlmbfhmknanaaDoor
set_option linter.unusedSimpArgs false
open Go.RowKit
set_option linter.unusedVariables false

theorem below_drewN {B : Nat} {a w : World} (h : Below B a w) (n : Nat) : Below B a (w.drewN n) := ⟨h.os, h.tape, h.output, h.size, h.block⟩
theorem bcell {W w1 : World} (hb : Below W.heap.size W w1) : (∀ b o, b < W.heap.size → w1.cell? ⟨b, o, none⟩ = W.cell? ⟨b, o, none⟩) ∧ (∀ b o, b < W.heap.size → w1.frozen? ⟨b, o, none⟩ = W.frozen? ⟨b, o, none⟩) :=
  ⟨fun b o h => hb.cell (p := ⟨b, o, none⟩) h, fun b o h => hb.frozen (p := ⟨b, o, none⟩) h⟩
theorem quiet_left0 {P : Program} {f : FuncId} {args : Array Value} {w : World} {n : Nat} {v : Value}
    (h : Calls P f args (w.drewN n) fun e w' => e = .returned v ∧ w.drewN n = w') : Calls P f args (w.drewN n) fun e w'' => e = .returned v ∧ ∃ m, w'' = w.drewN m :=
  h.mono fun _ _ ⟨he, hm⟩ => ⟨he, n, hm.symm⟩
theorem quiet_left1 {P : Program} {f : FuncId} {args : Array Value} {w : World} {a n : Nat} {v : Value}
    (h : Calls P f args (w.drewN (a + n)) fun e w' => e = .returned v ∧ w.drewN (a + n) = w') :
    Calls P f args (w.drewN (a + n)) fun e w'' => e = .returned v ∧ ∃ m, w'' = w.drewN (a + m) :=
  h.mono fun _ _ ⟨he, hm⟩ => ⟨he, n, hm.symm⟩

theorem add64_ok (x y : Int) (hx : 0 ≤ x) (hy : 0 ≤ y) (h : x + y < 18446744073709551616) (w : World) :
    (callFunc 67 #[.int .u64 x, .int .u64 y, .int .u64 0]).run Tryd.prog w = .ok (.value (.tuple #[.int .u64 (x + y), .int .u64 0])) w := by
  rw [run_callFunc_extern Tryd.func67 (by kernel_rfl) (by kernel_rfl) (by kernel_rfl) (e := add64Entry) (by kernel_rfl),
    run_add64 (P := Tryd.prog) x y 0 hx hy (by omega) (by omega) w]
  rw [show (x + y + 0) % 18446744073709551616 = x + y by omega, show (x + y + 0) / 18446744073709551616 = 0 by omega]
  rfl
theorem add64_over (x y : Int) (hx : 0 ≤ x) (hy : 0 ≤ y) (hx1 : x < 18446744073709551616) (hy1 : y < 18446744073709551616) (h : 18446744073709551616 ≤ x + y) (w : World) :
    (callFunc 67 #[.int .u64 x, .int .u64 y, .int .u64 0]).run Tryd.prog w = .ok (.value (.tuple #[.int .u64 ((x + y) % 18446744073709551616), .int .u64 1])) w := by
  rw [run_callFunc_extern Tryd.func67 (by kernel_rfl) (by kernel_rfl) (by kernel_rfl) (e := add64Entry) (by kernel_rfl),
    run_add64 (P := Tryd.prog) x y 0 hx hy (by omega) (by omega) w]
  rw [show x + y + 0 = x + y by omega, show (x + y) / 18446744073709551616 = 1 by omega]
  rfl
theorem sub64_ok (x y : Int) (hx : 0 ≤ x) (hy : 0 ≤ y) (hx1 : x < 18446744073709551616) (h : y ≤ x) (w : World) :
    (callFunc 60 #[.int .u64 x, .int .u64 y, .int .u64 0]).run Tryd.prog w = .ok (.value (.tuple #[.int .u64 (x - y), .int .u64 0])) w := by
  obtain ⟨x, rfl⟩ := Int.eq_ofNat_of_zero_le hx
  obtain ⟨y, rfl⟩ := Int.eq_ofNat_of_zero_le hy
  rw [run_callFunc_extern Tryd.func60 (by kernel_rfl) (by kernel_rfl) (by kernel_rfl) (e := sub64Entry) (by kernel_rfl), show (sub64Entry #[.int .u64 x, .int .u64 y, .int .u64 0]).run Tryd.prog w = _ from run_sub64 x y 0 (by omega) w]
  rw [if_neg (by omega), show (((x + 18446744073709551616 - y - 0) % 18446744073709551616 : Nat) : Int) = x - y by omega]
  rfl
theorem sub64_over (x y : Int) (hx : 0 ≤ x) (hy : 0 ≤ y) (h : x < y) (w : World) :
    (callFunc 60 #[.int .u64 x, .int .u64 y, .int .u64 0]).run Tryd.prog w = .ok (.value (.tuple #[.int .u64 ((x + 18446744073709551616 - y).toNat % 18446744073709551616 : Nat), .int .u64 1])) w := by
  obtain ⟨x, rfl⟩ := Int.eq_ofNat_of_zero_le hx
  obtain ⟨y, rfl⟩ := Int.eq_ofNat_of_zero_le hy
  rw [run_callFunc_extern Tryd.func60 (by kernel_rfl) (by kernel_rfl) (by kernel_rfl) (e := sub64Entry) (by kernel_rfl), show (sub64Entry #[.int .u64 x, .int .u64 y, .int .u64 0]).run Tryd.prog w = _ from run_sub64 x y 0 (by omega) w]
  rw [if_pos (by omega), show ((x : Int) + 18446744073709551616 - y).toNat = x + 18446744073709551616 - y - 0 by omega]
  rfl

theorem one_num (x y : Int) : (x / 4294967296 + y / 4294967296 + (x % 4294967296 + y % 4294967296) / 4294967296) * 4294967296 + (x + y) % 4294967296 = x + y := by omega
theorem ret_ib {a b : Int} {t : Bool} (h : a = b) : Ending.returned (.tuple #[.int .u64 a, .bool t]) = .returned (.tuple #[.int .u64 b, .bool t]) := by rw [h]
end Go.Proofs.YtbhlmbfhmknanaaDoor
