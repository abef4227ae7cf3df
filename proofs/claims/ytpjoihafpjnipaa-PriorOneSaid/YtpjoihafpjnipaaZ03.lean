/- Joined texts, part 3: UH UI PA CR WM VecA VecB VecC VecD VecL VecM. -/
import Derived.Test.YtpjoihafpjnipaaZ02
import Derived.Test.YtpjoihafpjnipaaZ01
import Derived.ChangeSame
import Derived.RowKit
import Derived.RowKitTokens
import Derived.Carry
import Derived.Deep.Slices
import Derived.Laws.IdiomArrays
import Derived.Lib.SmallJoins
import Derived.Test.YtpjoihafpjnipaaRows
import Derived.WalkKit
import Derived.WalkSpells
import Derived.WalkLawsBesides
import Derived.Laws.Externs
import Derived.Shelf.Spec.BitsCarry
import Derived.Lib.Hide
import Derived.Deep.QuietTactic
import Derived.BigQuiet
import Derived.Deep.RegionWith

/- What a move does: the program's come and behind of layer 5. -/
namespace Go.Proofs.Ytpjoihafpjnipaa
set_option linter.unusedSimpArgs false
open Go.RowKit
set_option linter.unusedVariables false

/-- A row of the call's own in block g that holds these pods. -/
structure Lst (g : Nat) (l : List PodD) (w : World) : Prop where
  lt : g < w.heap.size
  cell : ∀ i (h : i < l.length) j u, (cellsP l[i])[j]? = some u → w.cell? ⟨g, i * 8 + j, none⟩ = some u
  frozen : ∀ o, w.frozen? ⟨g, o, none⟩ = false
section
variable {g : Nat} {l : List PodD} {w w' : World}
theorem Lst.below (h : Lst g l w) (hb : Below w.heap.size w w') : Lst g l w' :=
  ⟨Nat.lt_of_lt_of_le h.lt hb.size, fun i hi j u hu => (hb.cell (p := ⟨g, i * 8 + j, none⟩) h.lt).trans (h.cell i hi j u hu), fun o => (hb.frozen (p := ⟨g, o, none⟩) h.lt).trans (h.frozen o)⟩
theorem Lst.alloc (h : Lst g l w) (o : Obj) : Lst g l (w.alloc o) := h.below ((Below.refl _ w).alloc (Nat.le_refl _) o)
theorem Lst.drew (h : Lst g l w) : Lst g l w.drew := ⟨h.lt, h.cell, h.frozen⟩
theorem Lst.other (h : Lst g l w) {p : Addr} (hp : p.block ≠ g) (v : Value) : Lst g l (w.setCell p v) :=
  ⟨by simpa using h.lt, fun i hi j u hu => by rw [World.cell?_setCell_other _ _ _ _ (by intro e; exact hp (by rw [e]))]; exact h.cell i hi j u hu, fun o => by simpa using h.frozen o⟩
theorem Lst.put (h : Lst g l w) {i j : Nat} (hi : i < l.length) (hj : j < 8) (u : Value) (p' : PodD) (hp : cellsP p' = (cellsP l[i]).set j u) : Lst g (l.set i p') (w.setCell ⟨g, i * 8 + j, none⟩ u) := by
  refine ⟨by simpa using h.lt, fun i' hi' j' u' hu => ?_, fun o => by simpa using h.frozen o⟩
  have hl' : i' < l.length := by simpa using hi'
  have hj' : j' < 8 := by have := (List.getElem?_eq_some_iff.1 hu).1; simpa [cellsP] using this
  by_cases e : i' = i
  · subst e
    rw [List.getElem_set_self, hp] at hu
    by_cases ej : j' = j
    · subst ej
      rw [List.getElem?_set_self (by simpa [cellsP] using hj)] at hu
      obtain rfl := Option.some.inj hu
      have hc : ∃ u0, (cellsP l[i'])[j']? = some u0 := ⟨_, List.getElem?_eq_getElem (by simpa [cellsP] using hj)⟩
      obtain ⟨u0, hu0⟩ := hc
      exact World.cell?_setCell_same _ _ _ (h.cell i' hl' j' u0 hu0)
    · rw [List.getElem?_set_ne (fun e => ej e.symm)] at hu
      rw [World.cell?_setCell_other _ _ _ _ (by intro e; injection e; omega)]
      exact h.cell i' hl' j' u' hu
  · rw [List.getElem_set_ne (fun e' => e e'.symm)] at hu
    rw [World.cell?_setCell_other _ _ _ _ (by intro e'; injection e'; omega)]
    exact h.cell i' hl' j' u' hu
theorem Lst.at (h : Lst g l w) {i : Nat} (hi : i < l.length) {p : PodD} (hp : l[i] = p) (j : Nat) (u : Value) (hu : (cellsP p)[j]? = some u) : w.cell? ⟨g, i * 8 + j, none⟩ = some u := h.cell i hi j u (by rw [hp]; exact hu)
theorem Lst.recs (h : Lst g l w) : Recs 8 cellsP w w.heap.size (some ⟨g, 0, none⟩) l := .inr ⟨g, 0, rfl, h.lt, fun i hi j u hu => by rw [Nat.zero_add]; exact h.cell i hi j u hu⟩
theorem Lst.fresh {A : Option Addr} {c : Nat} {w0 : World} (h : Fresh l w0 A c w) (hl : 0 < l.length) : ∃ g, A = some ⟨g, 0, none⟩ ∧ w0.heap.size ≤ g ∧ l.length ≤ c ∧ c ≤ maxLen ∧ Lst g l w := by
  have h1 := h.recs
  rcases h.2 with ⟨_, h0⟩ | ⟨g, cap, cur, hv, hb, hg, hnc, hm, _⟩
  · omega
  · injection hv with e1 _ e2
    subst e1 e2
    refine ⟨g, rfl, hb, hnc, hm, ?_, fun i hi j u hu => ?_, fun o => by simp [World.frozen?, hg]⟩
    · exact (Array.getElem?_eq_some_iff.1 hg).1
    · obtain ⟨b, o, e, _, hc⟩ := h1.at hi
      injection e with e
      injection e with e1 e2
      subst e1 e2
      simpa using hc j u hu
end
/-- A pod that comes to a node. -/
def comeD (x : List WantD) (node : Int) (p : PodD) : PodD :=
  let k := place WantD.pod p.id x 0
  let req := if k < 0 then p.req else match x[k.toNat]? with
    | some y => if y.stay then y.req else p.req
    | none => p.req
  ⟨p.id, p.load, p.prio, req, node⟩
theorem come_none {x : List WantD} {node : Int} {p : PodD} (h : place WantD.pod p.id x 0 < 0) : comeD x node p = ⟨p.id, p.load, p.prio, p.req, node⟩ := by simp [comeD, h]
theorem come_some {x : List WantD} {node : Int} {p : PodD} {i : Nat} (hi : i < x.length) (h : place WantD.pod p.id x 0 = i) : comeD x node p = ⟨p.id, p.load, p.prio, if x[i].stay then x[i].req else p.req, node⟩ := by
  have : ¬ (i : Int) < 0 := by omega
  simp [comeD, h, this, hi]
end Go.Proofs.Ytpjoihafpjnipaa

/- What a move does: the program's behind of layer 5. -/
namespace Go.Proofs.Ytpjoihafpjnipaa
set_option linter.unusedSimpArgs false
open Go.RowKit
set_option linter.unusedVariables false

/-- A box of the call's own that holds these cells. -/
structure Bf (V : World) (b : Nat) (cs : List Value) : Prop where
  lt : b < V.heap.size
  cell : ∀ j u, cs[j]? = some u → V.cell? ⟨b, j, none⟩ = some u
  frozen : ∀ o, V.frozen? ⟨b, o, none⟩ = false
section
variable {V V' : World} {b B : Nat} {cs : List Value}
theorem Bf.below (h : Bf V b cs) (hb : Below B V V') (hB : b < B) : Bf V' b cs :=
  ⟨Nat.lt_of_lt_of_le h.lt hb.size, fun j u hu => (hb.cell (p := ⟨b, j, none⟩) hB).trans (h.cell j u hu), fun o => (hb.frozen (p := ⟨b, o, none⟩) hB).trans (h.frozen o)⟩
theorem Bf.new (w : World) (cs : List Value) (t : TypeId) {b : Nat} (hb : b = w.heap.size) : Bf (w.alloc (.cells cs.toArray t)) b cs := by
  subst hb
  exact ⟨by simp, fun j u hu => by simpa using hu, fun o => by simp⟩
theorem Bf.alloc (h : Bf V b cs) (o : Obj) : Bf (V.alloc o) b cs := h.below ((Below.refl _ V).alloc (Nat.le_refl _) o) h.lt
theorem Bf.other (h : Bf V b cs) {p : Addr} (hp : p.block ≠ b) (v : Value) : Bf (V.setCell p v) b cs :=
  ⟨by simpa using h.lt, fun j u hu => by rw [World.cell?_setCell_other _ _ _ _ (by intro e; exact hp (by rw [e]))]; exact h.cell j u hu, fun o => by simpa using h.frozen o⟩
theorem Bf.set (h : Bf V b cs) (i : Nat) (v : Value) : Bf (V.setCell ⟨b, i, none⟩ v) b (cs.set i v) := by
  refine ⟨by simpa using h.lt, fun j u hu => ?_, fun o => by simpa using h.frozen o⟩
  by_cases e : j = i
  · subst e
    have hj : j < cs.length := by have := (List.getElem?_eq_some_iff.1 hu).1; simpa using this
    rw [List.getElem?_set_self hj] at hu
    obtain rfl := Option.some.inj hu
    exact World.cell?_setCell_same _ _ _ (h.cell j _ (List.getElem?_eq_getElem hj))
  · rw [List.getElem?_set_ne (fun e' => e e'.symm)] at hu
    rw [World.cell?_setCell_other _ _ _ _ (by intro e'; injection e'; omega)]
    exact h.cell j u hu
end
/-- What stands while behind is at work. -/
structure Beh (A : Option Addr) (n c : Nat) (v1 v2 : Value) (g c' k : Nat) (p s : Int) (m : MoveD) (l : List PodD) (w V : World) : Prop where
  spec : Bf V w.heap.size [.slice A n c, v1, v2]
  state : Bf V (w.heap.size + 1) [.slice (some ⟨g, 0, none⟩) k c', .int .i64 p, .int .i64 s]
  move : Bf V (w.heap.size + 2) [.int .i64 m.kind, .int .i64 m.pod, .int .i64 m.node, .int .i64 m.over]
  res : Bf V (w.heap.size + 3) [.slice none 0 0, .int .i64 0, .int .i64 0]
  lst : Lst g l V
  below : Below w.heap.size w V
  hg : w.heap.size + 4 ≤ g
section
variable {A : Option Addr} {n c : Nat} {v1 v2 : Value} {g c' k : Nat} {p s : Int} {m : MoveD} {l : List PodD} {w V V' : World}
theorem Beh.keep (h : Beh A n c v1 v2 g c' k p s m l w V) (hb : Below V.heap.size V V') : Beh A n c v1 v2 g c' k p s m l w V' :=
  ⟨h.spec.below hb h.spec.lt, h.state.below hb h.state.lt, h.move.below hb h.move.lt, h.res.below hb h.res.lt, h.lst.below hb, h.below.trans (hb.mono h.below.size), h.hg⟩
theorem Beh.turn {l' : List PodD} (h : Beh A n c v1 v2 g c' k p s m l w V) (hb : Below g V V') (hl : Lst g l' V') : Beh A n c v1 v2 g c' k p s m l' w V' := by
  have hg := h.hg
  exact ⟨h.spec.below hb (by omega), h.state.below hb (by omega), h.move.below hb (by omega), h.res.below hb (by omega), hl, h.below.trans (hb.mono (by omega)), h.hg⟩
theorem Beh.shift (h : Beh A n c v1 v2 g c' k p s m l w V) (s' : Int) : Beh A n c v1 v2 g c' k p s' m l w (V.setCell ⟨w.heap.size + 1, 2, none⟩ (.int .i64 s')) := by
  have hg := h.hg
  exact ⟨h.spec.other (by simp) _, h.state.set 2 _, h.move.other (by simp) _, h.res.other (by simp) _, h.lst.other (by show w.heap.size + 1 ≠ g; omega) _, h.below.setCell (by simp) _, h.hg⟩
theorem Beh.pre (h : Beh A n c v1 v2 g c' k p s m l w V) (p' : Int) : Beh A n c v1 v2 g c' k p' s m l w (V.setCell ⟨w.heap.size + 1, 1, none⟩ (.int .i64 p')) := by
  have hg := h.hg
  exact ⟨h.spec.other (by simp) _, h.state.set 1 _, h.move.other (by simp) _, h.res.other (by simp) _, h.lst.other (by show w.heap.size + 1 ≠ g; omega) _, h.below.setCell (by simp) _, h.hg⟩
theorem Beh.facts (h : Beh A n c v1 v2 g c' k p s m l w V) :
    (V.cell? ⟨w.heap.size, 0, none⟩ = some (.slice A n c) ∧ V.cell? ⟨w.heap.size, 1, none⟩ = some v1 ∧ V.cell? ⟨w.heap.size, 2, none⟩ = some v2) ∧
    (V.cell? ⟨w.heap.size + 1, 0, none⟩ = some (.slice (some ⟨g, 0, none⟩) k c') ∧ V.cell? ⟨w.heap.size + 1, 1, none⟩ = some (.int .i64 p) ∧ V.cell? ⟨w.heap.size + 1, 2, none⟩ = some (.int .i64 s)) ∧
    (V.cell? ⟨w.heap.size + 2, 0, none⟩ = some (.int .i64 m.kind) ∧ V.cell? ⟨w.heap.size + 2, 1, none⟩ = some (.int .i64 m.pod) ∧ V.cell? ⟨w.heap.size + 2, 2, none⟩ = some (.int .i64 m.node) ∧ V.cell? ⟨w.heap.size + 2, 3, none⟩ = some (.int .i64 m.over)) ∧
    w.heap.size < V.heap.size ∧ w.heap.size + 1 < V.heap.size ∧ w.heap.size + 2 < V.heap.size ∧ w.heap.size + 3 < V.heap.size ∧ g < V.heap.size :=
  ⟨⟨h.spec.cell 0 _ rfl, h.spec.cell 1 _ rfl, h.spec.cell 2 _ rfl⟩, ⟨h.state.cell 0 _ rfl, h.state.cell 1 _ rfl, h.state.cell 2 _ rfl⟩, ⟨h.move.cell 0 _ rfl, h.move.cell 1 _ rfl, h.move.cell 2 _ rfl, h.move.cell 3 _ rfl⟩, h.spec.lt, h.state.lt, h.move.lt, h.res.lt, h.lst.lt⟩
theorem Beh.facts2 (h : Beh A n c v1 v2 g c' k p s m l w V) :
    (V.cell? ⟨w.heap.size + 3, 0, none⟩ = some (.slice none 0 0) ∧ V.cell? ⟨w.heap.size + 3, 1, none⟩ = some (.int .i64 0) ∧ V.cell? ⟨w.heap.size + 3, 2, none⟩ = some (.int .i64 0)) ∧
    (V.frozen? ⟨w.heap.size + 3, 0, none⟩ = false ∧ V.frozen? ⟨w.heap.size + 3, 1, none⟩ = false ∧ V.frozen? ⟨w.heap.size + 3, 2, none⟩ = false) ∧
    (V.frozen? ⟨w.heap.size + 1, 1, none⟩ = false ∧ V.frozen? ⟨w.heap.size + 1, 2, none⟩ = false) :=
  ⟨⟨h.res.cell 0 _ rfl, h.res.cell 1 _ rfl, h.res.cell 2 _ rfl⟩, ⟨h.res.frozen 0, h.res.frozen 1, h.res.frozen 2⟩, h.state.frozen 1, h.state.frozen 2⟩
end
theorem place_eq {id : Int} : ∀ {l : List PodD} {k : Int} {i : Nat} (hi : i < l.length), place PodD.id id l k = k + i → 0 ≤ k → l[i].id = id
  | [], _, _, hi, _, _ => by simp at hi
  | x :: r, k, i, hi, h, hk => by
    by_cases hx : x.id = id
    · simp only [place, if_pos hx] at h
      obtain rfl : i = 0 := by omega
      exact hx
    · simp only [place, if_neg hx] at h
      cases i with
      | zero =>
        have h3 : place PodD.id id r (k + 1) < 0 ∨ k + 1 ≤ place PodD.id id r (k + 1) := place_or r (k + 1) (by omega)
        omega
      | succ i =>
        simp only [List.getElem_cons_succ]
        exact place_eq (k := k + 1) (by simpa using hi) (by rw [h]; omega) (by omega)
theorem place_is {l : List PodD} {id : Int} {i : Nat} (hi : i < l.length) (h : place PodD.id id l 0 = i) : l[i].id = id := by
  have := place_eq (l := l) (id := id) (k := 0) hi (by omega) (by omega)
  exact this
/-- A pod that goes. -/
def goD (p : PodD) : PodD := ⟨p.id, p.load, p.prio, p.req, 0⟩
def idxD (id : Int) (l : List PodD) : Nat := (place PodD.id id l 0).toNat
def behindD (x : List WantD) (t : StateD) (m : MoveD) : StateD :=
  if m.kind = 2 then ⟨t.pods.set (idxD m.pod t.pods) (goD (podZ m.pod t.pods)), t.preempts, t.shifts⟩
  else if m.kind = 3 then ⟨t.pods.set (idxD m.pod t.pods) (comeD x m.node (podZ m.pod t.pods)), t.preempts, wrap64 (t.shifts + 1)⟩
  else if m.kind = 4 then ⟨(t.pods.set (idxD m.over t.pods) (goD (podZ m.over t.pods))).set (idxD m.pod t.pods) (comeD x m.node (podZ m.pod t.pods)), wrap64 (t.preempts + 1), t.shifts⟩
  else ⟨t.pods.set (idxD m.pod t.pods) (comeD x m.node (podZ m.pod t.pods)), t.preempts, t.shifts⟩
/-- A state that is told: its pods in new memory. -/
def StateTo (u : StateD) (w : World) (v : Value) (w' : World) : Prop := ∃ A c, v = stateV A u.pods.length c u.preempts u.shifts ∧ Out 8 cellsP w' u.pods A c ∧ (∀ a, A = some a → w.heap.size ≤ a.block) ∧ Below w.heap.size w w'
theorem Beh.done {A : Option Addr} {n c : Nat} {v1 v2 : Value} {g c' k : Nat} {p s : Int} {m : MoveD} {l : List PodD} {w V : World} (h : Beh A n c v1 v2 g c' k p s m l w V) (hk : k = l.length) (hc : k ≤ c') (hm : c' ≤ maxLen) {x y z : Value} :
    StateTo ⟨l, p, s⟩ w (stateV (some ⟨g, 0, none⟩) k c' p s) (((V.setCell ⟨w.heap.size + 3, 0, none⟩ x).setCell ⟨w.heap.size + 3, 1, none⟩ y).setCell ⟨w.heap.size + 3, 2, none⟩ z) := by
  subst hk
  have hg := h.hg
  have hl := (((h.lst.other (p := ⟨w.heap.size + 3, 0, none⟩) (by show w.heap.size + 3 ≠ g; omega) x).other (p := ⟨w.heap.size + 3, 1, none⟩) (by show w.heap.size + 3 ≠ g; omega) y).other (p := ⟨w.heap.size + 3, 2, none⟩) (by show w.heap.size + 3 ≠ g; omega) z)
  exact ⟨_, _, rfl, ⟨hc, hm, (by intro e; cases e), hl.recs⟩, (by intro a e; injection e with e; subst e; show w.heap.size ≤ g; omega), ((h.below.setCell (by simp) _).setCell (by simp) _).setCell (by simp) _⟩
end Go.Proofs.Ytpjoihafpjnipaa

/- Plain mathematics of who may go for whom. -/
namespace Go.Proofs.Ytpjoihafpjnipaa
set_option linter.unusedSimpArgs false
open Go.RowKit
set_option linter.unusedVariables false

/-- May the first one go for the second one? -/
def goV (o p : PodD) : Bool := decide (o.prio < p.prio)
def hasP (id : Int) (l : List PodD) : Bool := decide (0 ≤ place PodD.id id l 0)
def mayD (pod over : Int) (l : List PodD) : Bool := (hasP pod l && hasP over l) && goV (podZ over l) (podZ pod l)
theorem may_self (a : Int) (l : List PodD) : mayD a a l = false := by simp [mayD, goV]
theorem may_two {a b : Int} {l : List PodD} (h : mayD a b l = true) : mayD b a l = false := by
  simp only [mayD, goV, Bool.and_eq_true, decide_eq_true_eq] at h
  simp only [mayD, goV, Bool.and_eq_false_iff, decide_eq_false_iff_not]
  right; omega
theorem may_three {a b c : Int} {l : List PodD} (h : mayD a b l = true) (k : mayD b c l = true) : mayD a c l = true := by
  simp only [mayD, goV, Bool.and_eq_true, decide_eq_true_eq] at h k ⊢
  exact ⟨⟨h.1.1, k.1.2⟩, by omega⟩
theorem has_none {id : Int} {l : List PodD} (h : place PodD.id id l 0 < 0) : hasP id l = false := by simp [hasP]; exact h
theorem has_some {id : Int} {l : List PodD} {i : Nat} (h : place PodD.id id l 0 = i) : hasP id l = true := by simp [hasP, h]
theorem may_none1 {a b : Int} {l : List PodD} (h : place PodD.id a l 0 < 0) : mayD a b l = false := by simp [mayD, has_none h]
theorem may_none2 {a b : Int} {l : List PodD} (h : place PodD.id b l 0 < 0) : mayD a b l = false := by simp [mayD, has_none h]
theorem may_some {a b : Int} {l : List PodD} {i j : Nat} (hi : i < l.length) (h : place PodD.id a l 0 = i) (hj : j < l.length) (k : place PodD.id b l 0 = j) : mayD a b l = goV l[j] l[i] := by
  simp [mayD, has_some h, has_some k, podZ_some hi h, podZ_some hj k]

/-- Is it at that node, and may go for this one? -/
def isV (node : Int) (p q : PodD) : Bool := q.node == node && goV q p
def vicD (node : Int) (p : PodD) (l : List PodD) : List PodD := l.filter (isV node p)
theorem vic_len (node : Int) (p : PodD) (l : List PodD) : (vicD node p l).length ≤ l.length := List.length_filter_le _ _
theorem vic_next {node : Int} {p q : PodD} {l : List PodD} {k : Nat} (h : k < l.length) (hx : l[k] = q) : vicD node p (l.take (k + 1)) = vicD node p (l.take k) ++ if isV node p q = true then [q] else [] := by
  unfold vicD
  rw [List.take_succ_eq_append_getElem h, hx, List.filter_append]
  cases hq : isV node p q <;> simp [hq]
theorem vic_in {node : Int} {p q : PodD} {l : List PodD} {k : Nat} (h : k < l.length) (hx : l[k] = q) (hq : isV node p q = true) : vicD node p (l.take (k + 1)) = vicD node p (l.take k) ++ [q] := by
  rw [vic_next h hx, if_pos hq]
theorem vic_out {node : Int} {p q : PodD} {l : List PodD} {k : Nat} (h : k < l.length) (hx : l[k] = q) (hq : isV node p q = false) : vicD node p (l.take (k + 1)) = vicD node p (l.take k) := by
  rw [vic_next h hx, if_neg (by simp [hq]), List.append_nil]
theorem vic_end {node : Int} {p : PodD} {l : List PodD} {k : Nat} (h : l.length ≤ k) : vicD node p (l.take k) = vicD node p l := by rw [List.take_of_length_le h]
theorem vic_mem {node : Int} {p q : PodD} {l : List PodD} (h : q ∈ vicD node p l) : q ∈ l ∧ q.node = node ∧ goV q p = true := by
  simp [vicD, isV, List.mem_filter] at h
  exact ⟨h.1, h.2.1, h.2.2⟩

/-- The order of two that may go. -/
def ordV (a b : PodD) : Int := if a.prio < b.prio then -1 else if b.prio < a.prio then 1 else if a.id < b.id then -1 else if b.id < a.id then 1 else 0
def ltV (a b : PodD) : Prop := a.prio < b.prio ∨ (a.prio = b.prio ∧ a.id < b.id)
instance (a b : PodD) : Decidable (ltV a b) := by unfold ltV; infer_instance
theorem ordV_neg (a b : PodD) : (ordV a b < 0) ↔ ltV a b := by
  unfold ordV ltV
  split
  · simp; omega
  · split
    · simp; omega
    · split
      · simp; omega
      · split <;> simp <;> omega

/-- The Ids of those that may go, in their order. -/
def VicIs (node pod : Int) (l : List PodD) (zs : List Int) : Prop :=
  ((hasP pod l = true ∧ node ≠ 0) ∧ ∃ vs : List PodD, vs.Perm (vicD node (podZ pod l) l) ∧ (vs.Pairwise fun x y => ¬ ltV y x) ∧ zs = vs.map PodD.id) ∨ ((hasP pod l = false ∨ node = 0) ∧ zs = [])
theorem VicIs.len {node pod : Int} {l : List PodD} {zs : List Int} (h : VicIs node pod l zs) : zs.length ≤ l.length := by
  rcases h with ⟨_, vs, h1, _, rfl⟩ | ⟨_, rfl⟩
  · rw [List.length_map, h1.length_eq]; exact vic_len _ _ _
  · exact Nat.zero_le _

/-- Ids that rise. -/
def RisesP (l : List PodD) : Prop := l.Pairwise fun x y => x.id < y.id
theorem rises_take {l : List PodD} {k : Nat} (h : RisesP (l.take k)) (hk : k < l.length) (h0 : ∀ hj : k - 1 < l.length, k ≠ 0 → l[k - 1].id < l[k].id) : RisesP (l.take (k + 1)) := by
  unfold RisesP at *
  rw [List.take_succ_eq_append_getElem hk, List.pairwise_append]
  refine ⟨h, by simp, fun x hx y hy => ?_⟩
  simp at hy; subst hy
  obtain ⟨i, hi, rfl⟩ := List.getElem_of_mem hx
  rw [List.getElem_take]
  have hi' : i < k := by simp at hi; omega
  have h1 := h0 (by omega) (by omega)
  rcases Nat.lt_or_ge i (k - 1) with hlt | hge
  · have := List.pairwise_iff_getElem.1 h i (k - 1) hi (by simp; omega) hlt
    simp only [List.getElem_take] at this
    omega
  · obtain rfl : i = k - 1 := by omega
    exact h1
theorem risesP_place {l : List PodD} (h : RisesP l) {i : Nat} (hi : i < l.length) : place PodD.id l[i].id l 0 = i := by
  have := place_at (f := PodD.id) (id := l[i].id) (l := l) (k := 0) hi rfl (fun j hj => by
    have := List.pairwise_iff_getElem.1 h j i (by omega) hi hj
    omega)
  omega
theorem vic_at {node pod : Int} {l : List PodD} {zs : List Int} (hr : RisesP l) (h : VicIs node pod l zs) {i : Nat} (hi : i < zs.length) :
    ∃ k : Nat, ∃ hk : k < l.length, place PodD.id zs[i] l 0 = k ∧ l[k].node = node ∧ mayD pod zs[i] l = true := by
  rcases h with ⟨⟨h0, _⟩, vs, h1, _, rfl⟩ | ⟨_, rfl⟩
  · have hiv : i < vs.length := by simpa using hi
    have hm : vs[i] ∈ vicD node (podZ pod l) l := h1.mem_iff.1 (List.getElem_mem hiv)
    obtain ⟨m1, m2, m3⟩ := vic_mem hm
    obtain ⟨k, hk, hkk⟩ := List.getElem_of_mem m1
    have hp := risesP_place hr hk
    rw [List.getElem_map, ← hkk]
    refine ⟨k, hk, hp, by rw [hkk]; exact m2, ?_⟩
    rw [mayD, h0, has_some hp, podZ_some hk hp, hkk, m3]
    rfl
  · simp at hi
theorem rises_ids {l : List PodD} (h : RisesP l) : (l.map PodD.id).Nodup := by
  rw [List.Nodup, List.pairwise_map]
  exact h.imp fun h e => by omega
theorem vic_once {node pod : Int} {l : List PodD} {zs : List Int} (hr : RisesP l) (h : VicIs node pod l zs) {i j : Nat} (hi : i < zs.length) (hj : j < i) : zs[j] ≠ zs[i] := by
  have hn : zs.Nodup := by
    rcases h with ⟨_, vs, h1, _, rfl⟩ | ⟨_, rfl⟩
    · have h2 : (vs.map PodD.id).Perm ((vicD node (podZ pod l) l).map PodD.id) := h1.map _
      refine h2.nodup_iff.2 ?_
      exact List.Nodup.sublist ((List.filter_sublist).map _) (rises_ids hr)
    · exact List.nodup_nil
  exact (List.pairwise_iff_getElem.1 hn) j i (by omega) hi hj
theorem vic_up {zs : List Int} {q p : PodD} (hid : q.id = 1) (hp : place PodD.id 2 [q, p] 0 = 1) (hq : isV 3 p q = true) (hpn : isV 3 p p = false) (h : VicIs 3 2 [q, p] zs) : zs = [1] := by
  have hz : podZ 2 [q, p] = p := podZ_some (i := 1) (by simp) hp
  rcases h with ⟨_, vs, h1, _, rfl⟩ | ⟨h0 | h0, _⟩
  · rw [hz, vicD, List.filter_cons, if_pos hq, List.filter_cons, if_neg (by simp [hpn]), List.filter_nil] at h1
    rw [List.perm_singleton.1 h1]
    simp [hid]
  · rw [has_some (i := 1) hp] at h0; cases h0
  · omega
end Go.Proofs.Ytpjoihafpjnipaa

/- How snapshots and specs are read as data. -/
namespace Go.Proofs.Ytpjoihafpjnipaa
set_option linter.unusedSimpArgs false
open Go.ChangeShapes Go.WideShapes Go.RowKit

def I64 (n : Int) : Prop := -9223372036854775808 ≤ n ∧ n ≤ 9223372036854775807
def U64 (n : Int) : Prop := 0 ≤ n ∧ n < 18446744073709551616
def V4.Ok (x : V4) : Prop := U64 x.a ∧ U64 x.b ∧ U64 x.c ∧ U64 x.d
def NodeD.Ok (x : NodeD) : Prop := I64 x.id ∧ I64 x.zone ∧ x.cap.Ok ∧ x.held.Ok
def LoadD.Ok (x : LoadD) : Prop := I64 x.id ∧ I64 x.skew ∧ I64 x.min ∧ I64 x.max
def PodD.Ok (x : PodD) : Prop := I64 x.id ∧ I64 x.load ∧ I64 x.prio ∧ x.req.Ok ∧ I64 x.node
def WantD.Ok (x : WantD) : Prop := I64 x.pod ∧ x.req.Ok

theorem wf_i64' {n : Int} (h : (Lit.int .i64 n).wf = true) : I64 n := by
  simp [Lit.wf, IntKind.min, IntKind.max, IntKind.signed, IntKind.bits] at h
  exact ⟨by omega, by omega⟩
theorem wf_u64' {n : Int} (h : (Lit.int .u64 n).wf = true) : U64 n := by
  simp [Lit.wf, IntKind.min, IntKind.max, IntKind.signed, IntKind.bits] at h
  exact ⟨by omega, by omega⟩
theorem Try.cells28 : Try.prog.cellsOf 28 = 1 := by kernel_rfl
theorem Try.cells30 : Try.prog.cellsOf 30 = 4 := by kernel_rfl
theorem Try.cells3 : Try.prog.cellsOf 3 = 1 := by kernel_rfl
theorem Try.cells4 : Try.prog.cellsOf 4 = 1 := by kernel_rfl
theorem Try.cellsP : Try.prog.cellsOf 32 = 8 := by kernel_rfl
theorem list5 {α : Type} (l : List α) (h : l.length = 5) : ∃ c0 c1 c2 c3 c4, l = [c0, c1, c2, c3, c4] := by
  match l, h with
  | [c0, c1, c2, c3, c4], _ => exact ⟨c0, c1, c2, c3, c4, rfl⟩
theorem list6 {α : Type} (l : List α) (h : l.length = 6) : ∃ c0 c1 c2 c3 c4 c5, l = [c0, c1, c2, c3, c4, c5] := by
  match l, h with
  | [c0, c1, c2, c3, c4, c5], _ => exact ⟨c0, c1, c2, c3, c4, c5, rfl⟩
theorem list8 {α : Type} (l : List α) (h : l.length = 8) : ∃ c0 c1 c2 c3 c4 c5 c6 c7, l = [c0, c1, c2, c3, c4, c5, c6, c7] := by
  match l, h with
  | [c0, c1, c2, c3, c4, c5, c6, c7], _ => exact ⟨c0, c1, c2, c3, c4, c5, c6, c7, rfl⟩
theorem list10 {α : Type} (l : List α) (h : l.length = 10) : ∃ c0 c1 c2 c3 c4 c5 c6 c7 c8 c9, l = [c0, c1, c2, c3, c4, c5, c6, c7, c8, c9] := by
  match l, h with
  | [c0, c1, c2, c3, c4, c5, c6, c7, c8, c9], _ => exact ⟨c0, c1, c2, c3, c4, c5, c6, c7, c8, c9, rfl⟩

section
variable {H : Type} {enc : TypeId × Value → H} {w : World} {base : Nat} {sp : Nat → Bool} {held : Bool}
theorem int_of {n : Nat} {c : Value} {x : Option (DataW H × List MemPlace)} (hx : x.isSome = true) (h : DataW.trod enc Try.prog w base sp held n 3 [c] = x) : ∃ k, c = .int .i64 k ∧ I64 k := by
  obtain ⟨y, rfl⟩ := Option.isSome_iff_exists.1 hx
  obtain ⟨k, e, _, hw⟩ := DataW.trod_int Try.underlying3 h
  exact ⟨k, by simpa using e, wf_i64' hw⟩
theorem bool_of {n : Nat} {c : Value} {x : Option (DataW H × List MemPlace)} (hx : x.isSome = true) (h : DataW.trod enc Try.prog w base sp held n 4 [c] = x) : ∃ k, c = .bool k := by
  obtain ⟨y, rfl⟩ := Option.isSome_iff_exists.1 hx
  obtain ⟨k, e, _⟩ := DataW.trod_bool Try.underlying4 h
  exact ⟨k, by simpa using e⟩
theorem vec_of {n : Nat} {c0 c1 c2 c3 : Value} {x : Option (DataW H × List MemPlace)} (hx : x.isSome = true) (h : DataW.trod enc Try.prog w base sp held n 30 [c0, c1, c2, c3] = x) :
    ∃ v : V4, c0 = .int .u64 v.a ∧ c1 = .int .u64 v.b ∧ c2 = .int .u64 v.c ∧ c3 = .int .u64 v.d ∧ v.Ok := by
  obtain ⟨y, rfl⟩ := Option.isSome_iff_exists.1 hx
  obtain ⟨y0, y1, y2, y3, m, _, hy0, hy1, hy2, hy3⟩ := trod_array4 Try.underlying30 Try.cells28 h
  obtain ⟨x0, e0, _, w0⟩ := DataW.trod_int Try.underlying28 hy0
  obtain ⟨x1, e1, _, w1⟩ := DataW.trod_int Try.underlying28 hy1
  obtain ⟨x2, e2, _, w2⟩ := DataW.trod_int Try.underlying28 hy2
  obtain ⟨x3, e3, _, w3⟩ := DataW.trod_int Try.underlying28 hy3
  exact ⟨⟨x0, x1, x2, x3⟩, by simpa using e0, by simpa using e1, by simpa using e2, by simpa using e3, wf_u64' w0, wf_u64' w1, wf_u64' w2, wf_u64' w3⟩
theorem some_at {α : Type} {l : List α} {i n : Nat} (h : l.length = n) (hi : i < n) : (l[i]?).isSome = true := by
  rw [List.getElem?_eq_getElem (by omega)]; rfl

theorem pod_of {n : Nat} {cs : List Value} {x : DataW H × List MemPlace} (hl : cs.length = 8) (h : DataW.trod enc Try.prog w base sp held n 32 cs = some x) : ∃ a : PodD, cs = cellsP a ∧ a.Ok := by
  obtain ⟨xs, m, rfl, _, _, hxl, hf⟩ := DataW.trod_struct Try.underlying32 h
  obtain ⟨c0, c1, c2, c3, c4, c5, c6, c7, rfl⟩ := list8 cs hl
  have h0 : DataW.trod enc Try.prog w base sp held m 3 (([c0, c1, c2, c3, c4, c5, c6, c7].drop 0).take (Try.prog.cellsOf 3)) = xs[0]? := hf 0 _ rfl
  rw [Try.cells3, show ([c0, c1, c2, c3, c4, c5, c6, c7].drop 0).take 1 = [c0] from rfl] at h0
  have h1 : DataW.trod enc Try.prog w base sp held m 3 (([c0, c1, c2, c3, c4, c5, c6, c7].drop 1).take (Try.prog.cellsOf 3)) = xs[1]? := hf 1 _ rfl
  rw [Try.cells3, show ([c0, c1, c2, c3, c4, c5, c6, c7].drop 1).take 1 = [c1] from rfl] at h1
  have h2 : DataW.trod enc Try.prog w base sp held m 3 (([c0, c1, c2, c3, c4, c5, c6, c7].drop 2).take (Try.prog.cellsOf 3)) = xs[2]? := hf 2 _ rfl
  rw [Try.cells3, show ([c0, c1, c2, c3, c4, c5, c6, c7].drop 2).take 1 = [c2] from rfl] at h2
  have h3 : DataW.trod enc Try.prog w base sp held m 30 (([c0, c1, c2, c3, c4, c5, c6, c7].drop 3).take (Try.prog.cellsOf 30)) = xs[3]? := hf 3 _ rfl
  rw [Try.cells30, show ([c0, c1, c2, c3, c4, c5, c6, c7].drop 3).take 4 = [c3, c4, c5, c6] from rfl] at h3
  have h4 : DataW.trod enc Try.prog w base sp held m 3 (([c0, c1, c2, c3, c4, c5, c6, c7].drop 7).take (Try.prog.cellsOf 3)) = xs[4]? := hf 4 _ rfl
  rw [Try.cells3, show ([c0, c1, c2, c3, c4, c5, c6, c7].drop 7).take 1 = [c7] from rfl] at h4
  obtain ⟨k0, rfl, i0⟩ := int_of (some_at hxl (by simp)) h0
  obtain ⟨k1, rfl, i1⟩ := int_of (some_at hxl (by simp)) h1
  obtain ⟨k2, rfl, i2⟩ := int_of (some_at hxl (by simp)) h2
  obtain ⟨v3, rfl, rfl, rfl, rfl, i3⟩ := vec_of (some_at hxl (by simp)) h3
  obtain ⟨k4, rfl, i4⟩ := int_of (some_at hxl (by simp)) h4
  exact ⟨⟨k0, k1, k2, v3, k4⟩, rfl, i0, i1, i2, i3, i4⟩
/-- A slice of records that came in: nil or not. -/
theorem open_recs {α : Type} {size : Nat} {cells : α → List Value} {Ok : α → Prop} {t e : TypeId} {v : Value} {fuel : Nat} {x : DataW H × List MemPlace} (ht : Try.prog.underlying t = some (.slice e)) (hC : Try.prog.cellsOf e = size) (hs : 0 < size)
    (hof : ∀ (n : Nat) (cs : List Value) (x : DataW H × List MemPlace), cs.length = size → DataW.trod enc Try.prog w base sp held n e cs = some x → ∃ a : α, cs = cells a ∧ Ok a)
    (h : DataW.trod enc Try.prog w base sp held fuel t [v] = some x) :
    ∃ (A : Option Addr) (c : Nat) (l : List α), v = .slice A l.length c ∧ l.length ≤ c ∧ c ≤ maxLen ∧ (A = none → c = 0) ∧ Recs size cells w w.heap.size A l ∧ ∀ a ∈ l, Ok a := by
  rcases Go.Deep.open_slice ht h with ⟨hc, _⟩ | ⟨a, n, cap, m, fu, D, Pl, hc, _, hl, hm, hmm, _, hel⟩
  · have hv : v = .slice none 0 0 := by simpa using hc
    exact ⟨none, 0, [], hv, by simp, by unfold maxLen; omega, fun _ => rfl, Recs.nil, fun _ h => by simp at h⟩
  · have hv : v = .slice (some a) n cap := by simpa using hc
    have hnm : n ≤ m := by rw [hmm]; split <;> omega
    have key : ∀ i, i < n → ∃ r : α, (∀ j u, (cells r)[j]? = some u → w.cell? ((a.add (i * size)).add j) = some u) ∧ Ok r ∧ (cells r).length = size := by
      intro i hi
      obtain ⟨cs, h1, h2⟩ := hel i (by omega)
      rw [hC] at h1
      obtain ⟨_, hlen, hat⟩ := World.cells?_some h1
      obtain ⟨r, rfl, hr⟩ := hof _ cs _ hlen h2
      refine ⟨r, fun j u hu => ?_, hr, hlen⟩
      have hj : j < size := by rw [← hlen]; exact (List.getElem?_eq_some_iff.1 hu).1
      exact (hat j hj).trans hu
    rcases Nat.eq_zero_or_pos n with hn0 | hn0
    · subst hn0
      exact ⟨some a, cap, [], by simp [hv], by simp, hm, fun h => by (cases h), Recs.nil, fun _ h => by simp at h⟩
    haveI : Inhabited α := ⟨Classical.choose (key 0 hn0)⟩
    obtain ⟨r, hr⟩ := Go.Deep.choose_lt key
    refine ⟨some a, cap, (List.range n).map r, by simp [hv], by simpa using hl, hm, fun h => by (cases h), ?_, fun y hy => ?_⟩
    · by_cases h0 : n = 0
      · exact .inl (by simp [h0])
      · obtain ⟨ab, ao, spot⟩ := a
        have hl0 := (hr 0 (by omega)).2.2
        have hc0 := (hr 0 (by omega)).1 0 _ (List.getElem?_eq_getElem (show 0 < (cells (r 0)).length by omega))
        have hspot : spot = none := by simpa [Addr.add] using World.cell?_spot hc0
        subst hspot
        have hlt := World.block_lt_of_cell? _ _ hc0
        simp only [Addr.add_lit] at hlt
        refine .inr ⟨ab, ao, rfl, hlt, fun i hi j u hu => ?_⟩
        have hi' : i < n := by simpa using hi
        simp only [List.getElem_map, List.getElem_range] at hu
        have := (hr i hi').1 j u hu
        simpa [Addr.add_lit] using this
    · simp only [List.mem_map, List.mem_range] at hy
      obtain ⟨i, hi, rfl⟩ := hy
      exact (hr i hi).2.1
end
end Go.Proofs.Ytpjoihafpjnipaa

/- Plain mathematics of nodes' room; no program stands in it. -/
namespace Go.Proofs.Ytpjoihafpjnipaa
set_option linter.unusedSimpArgs false
open Go.RowKit
set_option linter.unusedVariables false

def V4.add (x y : V4) : V4 := ⟨x.a + y.a, x.b + y.b, x.c + y.c, x.d + y.d⟩
def V4.sub (x y : V4) : V4 := ⟨x.a - y.a, x.b - y.b, x.c - y.c, x.d - y.d⟩
def V4.zer : V4 := ⟨0, 0, 0, 0⟩
def V4.small (x : V4) : Bool := decide (x.a < 18446744073709551616 ∧ x.b < 18446744073709551616 ∧ x.c < 18446744073709551616 ∧ x.d < 18446744073709551616)
/-- The sum, or none: it goes over. -/
def addV (x y : V4) : Option V4 := if (x.add y).small then some (x.add y) else none
/-- The difference, or none: it goes below 0. -/
def subV (x y : V4) : Option V4 := if y.le x then some (x.sub y) else none
def totV : List V4 → V4
  | [] => .zer
  | x :: r => x.add (totV r)
def sumV (l : List V4) : Option V4 := if (totV l).small then some (totV l) else none
def reqsAt (node : Int) : List PodD → List V4
  | [] => []
  | p :: r => if p.node = node then p.req :: reqsAt node r else reqsAt node r
/-- A node's use, or none: it goes over. -/
def useD (l : List PodD) (node : Int) : Option V4 := sumV (reqsAt node l)
/-- What is left of a node beside a use, or none. -/
def leftD (n : NodeD) (u : V4) : Option V4 := match subV n.cap n.held with
  | none => none
  | some f => subV f u
def nodeAt (id : Int) : List NodeD → Option NodeD
  | [] => none
  | x :: r => if x.id = id then some x else nodeAt id r
/-- A node's rest, and an error's number. -/
def restD (ns : List NodeD) (l : List PodD) (id : Int) : V4 × Int :=
  match nodeAt id ns with
  | none => (.zer, 4)
  | some n => match useD l id with
    | none => (.zer, 8)
    | some u => match leftD n u with
      | none => (.zer, 9)
      | some r => (r, 0)
def roomD (ns : List NodeD) (l : List PodD) : List NodeD → Nat → Int × Int
  | [], _ => (0, -1)
  | n :: r, k => if (restD ns l n.id).2 ≠ 0 then ((restD ns l n.id).2, (k : Int)) else roomD ns l r (k + 1)
/-- The first node at fault: an error's number, and its place. -/
def roomOf (ns : List NodeD) (l : List PodD) : Int × Int := roomD ns l ns 0

theorem rest_none {ns : List NodeD} {l : List PodD} {id : Int} (h : nodeAt id ns = none) : restD ns l id = (.zer, 4) := by simp only [restD, h]
theorem rest_over {ns : List NodeD} {l : List PodD} {id : Int} {n : NodeD} (h : nodeAt id ns = some n) (h2 : useD l id = none) : restD ns l id = (.zer, 8) := by simp only [restD, h, h2]
theorem rest_room {ns : List NodeD} {l : List PodD} {id : Int} {n : NodeD} {u : V4} (h : nodeAt id ns = some n) (h2 : useD l id = some u) (h3 : leftD n u = none) : restD ns l id = (.zer, 9) := by simp only [restD, h, h2, h3]
theorem rest_some {ns : List NodeD} {l : List PodD} {id : Int} {n : NodeD} {u r : V4} (h : nodeAt id ns = some n) (h2 : useD l id = some u) (h3 : leftD n u = some r) : restD ns l id = (r, 0) := by simp only [restD, h, h2, h3]
theorem left_none {n : NodeD} {u : V4} (h : subV n.cap n.held = none) : leftD n u = none := by simp only [leftD, h]
theorem left_some {n : NodeD} {u f : V4} (h : subV n.cap n.held = some f) : leftD n u = subV f u := by simp only [leftD, h]
theorem rest_vals (ns : List NodeD) (l : List PodD) (id : Int) : ((restD ns l id).2 = 0) ∨ ((restD ns l id).1 = .zer ∧ ((restD ns l id).2 = 4 ∨ (restD ns l id).2 = 8 ∨ (restD ns l id).2 = 9)) := by
  rcases h1 : nodeAt id ns with _ | n
  · rw [rest_none h1]; simp
  · rcases h2 : useD l id with _ | u
    · rw [rest_over h1 h2]; simp
    · rcases h3 : leftD n u with _ | r
      · rw [rest_room h1 h2 h3]; simp
      · rw [rest_some h1 h2 h3]; simp
theorem rest_zero {ns : List NodeD} {l : List PodD} {id : Int} : (restD ns l id).2 = 0 ↔ ∃ n u r, nodeAt id ns = some n ∧ useD l id = some u ∧ leftD n u = some r ∧ restD ns l id = (r, 0) := by
  constructor
  · intro h
    rcases h1 : nodeAt id ns with _ | n
    · rw [rest_none h1] at h; cases h
    · rcases h2 : useD l id with _ | u
      · rw [rest_over h1 h2] at h; cases h
      · rcases h3 : leftD n u with _ | r
        · rw [rest_room h1 h2 h3] at h; cases h
        · exact ⟨n, u, r, rfl, rfl, h3, rest_some h1 h2 h3⟩
  · rintro ⟨n, u, r, _, _, _, h⟩; rw [h]

theorem nodeAt_no {id : Int} : ∀ {l : List NodeD} {k : Int}, 0 ≤ k → place NodeD.id id l k < 0 → nodeAt id l = none
  | [], _, _, _ => rfl
  | x :: r, k, hk, h => by
    by_cases e : x.id = id
    · simp [place, e] at h; omega
    · simp only [place, if_neg e] at h
      simp only [nodeAt, if_neg e]
      exact nodeAt_no (k := k + 1) (by omega) h
theorem nodeAt_yes {id : Int} : ∀ {l : List NodeD} {k : Int} {i : Nat} (h : i < l.length), 0 ≤ k → place NodeD.id id l k = k + i → nodeAt id l = some l[i]
  | [], _, _, h, _, _ => by simp at h
  | x :: r, k, i, h, hk, hp => by
    by_cases e : x.id = id
    · simp only [place, if_pos e] at hp
      obtain rfl : i = 0 := by omega
      simp [nodeAt, e]
    · simp only [place, if_neg e] at hp
      cases i with
      | zero => have := place_ge (f := NodeD.id) (id := id) (l := r) (k := k + 1) (by omega); rw [hp] at this; exfalso
                have h2 : k + 1 ≤ place NodeD.id id r (k + 1) ∨ place NodeD.id id r (k + 1) < 0 := by
                  by_cases hn : place NodeD.id id r (k + 1) < 0
                  · exact .inr hn
                  · left
                    have : ∀ (r : List NodeD) (k : Int), 0 ≤ k → place NodeD.id id r k < 0 ∨ k ≤ place NodeD.id id r k := by
                      intro r
                      induction r with
                      | nil => intro k _; left; simp [place]
                      | cons y r ih => intro k hk; by_cases e : y.id = id <;> simp only [place, e, if_true, if_false]; exact .inr (Int.le_refl _); rcases ih (k + 1) (by omega) with h | h; exact .inl h; exact .inr (by omega)
                    rcases this r (k + 1) (by omega) with h | h
                    · exact absurd h hn
                    · exact h
                omega
      | succ i =>
        simp only [nodeAt, if_neg e]
        rw [nodeAt_yes (l := r) (k := k + 1) (i := i) (by simpa using h) (by omega) (by omega)]
        simp
/-- A node ahead of which none has its Id is the one of its Id. -/
theorem nodeAt_first {l : List NodeD} {i : Nat} (h : i < l.length) (hf : ∀ j (hj : j < i), (l[j]'(by omega)).id ≠ l[i].id) : nodeAt l[i].id l = some l[i] :=
  nodeAt_yes (k := 0) h (Int.le_refl _) (by have := place_at (f := NodeD.id) (id := l[i].id) (l := l) (k := 0) h rfl hf; omega)

theorem roomD_at {ns : List NodeD} {l : List PodD} {m : List NodeD} {k : Nat} {p : Int × Int} (h : k < m.length) {n : NodeD} (hn : m[k] = n) (hp : roomD ns l (m.drop k) k = p) :
    ((restD ns l n.id).2 ≠ 0 → p = ((restD ns l n.id).2, (k : Int))) ∧ ((restD ns l n.id).2 = 0 → roomD ns l (m.drop (k + 1)) (k + 1) = p) := by
  rw [List.drop_eq_getElem_cons h, hn, roomD] at hp
  constructor
  · intro e; rw [if_pos e] at hp; exact hp.symm
  · intro e; rw [if_neg (by simpa using e)] at hp; exact hp
theorem roomD_end {ns : List NodeD} {l : List PodD} {m : List NodeD} {k : Nat} {p : Int × Int} (h : m.length ≤ k) (hp : roomD ns l (m.drop k) k = p) : p = (0, -1) := by
  rw [List.drop_of_length_le h, roomD] at hp; exact hp.symm
theorem roomD_all {ns : List NodeD} {l : List PodD} : ∀ {m : List NodeD} {k : Nat}, (roomD ns l m k).1 = 0 ↔ ∀ n ∈ m, (restD ns l n.id).2 = 0
  | [], _ => by simp [roomD]
  | n :: r, k => by
    by_cases e : (restD ns l n.id).2 = 0
    · simp [roomD, e, roomD_all (m := r) (k := k + 1)]
    · simp [roomD, e]
theorem roomD_pair {ns : List NodeD} {l : List PodD} : ∀ {m : List NodeD} {k : Nat}, (roomD ns l m k).1 = 0 → roomD ns l m k = (0, -1)
  | [], _, _ => by simp [roomD]
  | n :: r, k, h => by
    by_cases e : (restD ns l n.id).2 = 0
    · simp only [roomD, e, ne_eq, not_true_eq_false, if_false] at h ⊢
      exact roomD_pair h
    · simp [roomD, e] at h

theorem V4.eta (x : V4) : x = ⟨x.a, x.b, x.c, x.d⟩ := by cases x; rfl
theorem add_small {x y z : V4} (h : addV x y = some z) : z = x.add y ∧ (x.add y).small = true := by
  unfold addV at h
  split at h
  · rename_i hs; exact ⟨(Option.some.inj h).symm, hs⟩
  · cases h
theorem sub_le {x y z : V4} (h : subV x y = some z) : z = x.sub y ∧ y.le x = true := by
  unfold subV at h
  split at h
  · rename_i hs; exact ⟨(Option.some.inj h).symm, hs⟩
  · cases h
theorem sub_ok4 {x y z : V4} (hx : x.Ok) (hy : y.Ok) (h : subV x y = some z) : z.Ok := by
  obtain ⟨rfl, hl⟩ := sub_le h
  simp only [V4.le, decide_eq_true_eq] at hl
  simp only [V4.Ok, U64, V4.sub] at *
  omega
theorem add_ok4 {x y z : V4} (hx : x.Ok) (hy : y.Ok) (h : addV x y = some z) : z.Ok := by
  obtain ⟨rfl, hl⟩ := add_small h
  simp only [V4.small, decide_eq_true_eq] at hl
  simp only [V4.Ok, U64, V4.add] at *
  omega
theorem tot_pos : ∀ {l : List V4}, (∀ x ∈ l, x.Ok) → 0 ≤ (totV l).a ∧ 0 ≤ (totV l).b ∧ 0 ≤ (totV l).c ∧ 0 ≤ (totV l).d
  | [], _ => by simp [totV, V4.zer]
  | x :: r, h => by
    have h1 := tot_pos (l := r) (fun y hy => h y (List.mem_cons_of_mem _ hy))
    have h2 := h x (List.mem_cons_self ..)
    simp only [V4.Ok, U64] at h2
    simp only [totV, V4.add]
    omega
theorem sum_ok4 {l : List V4} {u : V4} (h : ∀ x ∈ l, x.Ok) (hu : sumV l = some u) : u.Ok := by
  have hp := tot_pos h
  unfold sumV at hu
  split at hu
  · rename_i hs
    have := Option.some.inj hu
    subst this
    simp only [V4.small, decide_eq_true_eq] at hs
    simp only [V4.Ok, U64]
    omega
  · cases hu
theorem reqs_ok {node : Int} : ∀ {l : List PodD}, (∀ p ∈ l, p.Ok) → ∀ x ∈ reqsAt node l, x.Ok
  | [], _, x, hx => by simp [reqsAt] at hx
  | p :: r, h, x, hx => by
    unfold reqsAt at hx
    split at hx
    · rcases List.mem_cons.1 hx with rfl | hx
      · exact (h p (List.mem_cons_self ..)).2.2.2.1
      · exact reqs_ok (fun q hq => h q (List.mem_cons_of_mem _ hq)) x hx
    · exact reqs_ok (fun q hq => h q (List.mem_cons_of_mem _ hq)) x hx
theorem use_ok {l : List PodD} {node : Int} {u : V4} (h : ∀ p ∈ l, p.Ok) (hu : useD l node = some u) : u.Ok := sum_ok4 (reqs_ok h) hu
theorem reqs_len (node : Int) : ∀ l : List PodD, (reqsAt node l).length ≤ l.length
  | [] => Nat.le_refl _
  | p :: r => by
    have := reqs_len node r
    unfold reqsAt
    split <;> simp <;> omega
theorem reqs_append (node : Int) : ∀ (l m : List PodD), reqsAt node (l ++ m) = reqsAt node l ++ reqsAt node m
  | [], m => rfl
  | p :: r, m => by
    rw [List.cons_append, reqsAt, reqsAt, reqs_append node r m]
    split <;> simp
theorem reqs_take {node : Int} {l : List PodD} {k : Nat} (h : k < l.length) {p : PodD} (hp : l[k] = p) :
    (p.node = node → reqsAt node (l.take (k + 1)) = reqsAt node (l.take k) ++ [p.req]) ∧ (p.node ≠ node → reqsAt node (l.take (k + 1)) = reqsAt node (l.take k)) := by
  rw [List.take_succ_eq_append_getElem h, reqs_append, hp]
  constructor
  · intro e; simp [reqsAt, e]
  · intro e; simp [reqsAt, e]
theorem nodeAt_ok {id : Int} {n : NodeD} : ∀ {l : List NodeD}, (∀ x ∈ l, x.Ok) → nodeAt id l = some n → n.Ok
  | [], _, h => by simp [nodeAt] at h
  | x :: r, ho, h => by
    unfold nodeAt at h
    split at h
    · obtain rfl := Option.some.inj h; exact ho _ (List.mem_cons_self ..)
    · exact nodeAt_ok (fun y hy => ho y (List.mem_cons_of_mem _ hy)) h
theorem left_ok {n : NodeD} {u r : V4} (hn : n.Ok) (hu : u.Ok) (h : leftD n u = some r) : r.Ok := by
  unfold leftD at h
  split at h
  · cases h
  · rename_i f hf
    exact sub_ok4 (sub_ok4 hn.2.2.1 hn.2.2.2 hf) hu h
/-- Use and rest together are what there is but for what is held. -/
theorem left_whole {n : NodeD} {u r : V4} (hn : n.Ok) (hu : u.Ok) (h : leftD n u = some r) : addV r u = some (n.cap.sub n.held) ∧ addV (n.cap.sub n.held) n.held = some n.cap := by
  unfold leftD at h
  split at h
  · cases h
  · rename_i f hf
    obtain ⟨rfl, hl⟩ := sub_le hf
    obtain ⟨rfl, hl2⟩ := sub_le h
    obtain ⟨_, _, hc, hh⟩ := hn
    simp only [V4.le, decide_eq_true_eq, V4.sub] at hl hl2
    simp only [V4.Ok, U64] at hc hh hu
    constructor
    · have e : ((n.cap.sub n.held).sub u).add u = n.cap.sub n.held := by simp [V4.add, V4.sub, Int.sub_add_cancel]
      unfold addV
      rw [e, if_pos]
      simp only [V4.small, V4.sub]
      exact decide_eq_true ⟨by omega, by omega, by omega, by omega⟩
    · have e : (n.cap.sub n.held).add n.held = n.cap := by
        show V4.mk _ _ _ _ = n.cap
        simp only [V4.sub, Int.sub_add_cancel]
      unfold addV
      rw [e, if_pos]
      simp only [V4.small, decide_eq_true_eq]
      omega

theorem le_trans4 {x y z : V4} (h : x.le y = true) (h2 : y.le z = true) : x.le z = true := by
  simp only [V4.le, decide_eq_true_eq] at *; omega
theorem tot_append : ∀ (l m : List V4), totV (l ++ m) = (totV l).add (totV m)
  | [], m => by simp [totV, V4.add, V4.zer]
  | x :: r, m => by rw [List.cons_append, totV, tot_append r m]; simp [totV, V4.add, Int.add_assoc]
theorem sum_less {l m k : List V4} {u : V4} (hk : ∀ x ∈ k, x.Ok) (h : sumV (l ++ (k ++ m)) = some u) : ∃ u', sumV (l ++ m) = some u' ∧ u'.le u = true := by
  have hp := tot_pos hk
  unfold sumV at h
  split at h
  · rename_i hs
    have hu := Option.some.inj h
    rw [tot_append, tot_append] at hs hu
    simp only [V4.small, V4.add] at hs
    have hs := of_decide_eq_true hs
    refine ⟨totV (l ++ m), ?_, ?_⟩
    · unfold sumV
      rw [tot_append, if_pos]
      simp only [V4.small, V4.add]
      exact decide_eq_true ⟨by omega, by omega, by omega, by omega⟩
    · rw [← hu, tot_append]
      simp only [V4.le, V4.add]
      exact decide_eq_true ⟨by omega, by omega, by omega, by omega⟩
  · cases h
/-- With a pod less a use that didn't go over doesn't, and is no greater. -/
theorem use_less {l : List PodD} {node : Int} {u : V4} {i : Nat} (hi : i < l.length) (ho : ∀ p ∈ l, p.Ok) (h : useD l node = some u) : ∃ u', useD (l.take i ++ l.drop (i + 1)) node = some u' ∧ u'.le u = true := by
  have e : l = l.take i ++ ([l[i]] ++ l.drop (i + 1)) := by
    have := List.drop_eq_getElem_cons hi
    rw [List.singleton_append, ← this, List.take_append_drop]
  unfold useD at h ⊢
  rw [e, reqs_append, reqs_append] at h
  rw [reqs_append]
  exact sum_less (reqs_ok (fun p hp => by obtain rfl := List.mem_singleton.1 hp; exact ho _ (List.getElem_mem hi))) h
theorem left_less {n : NodeD} {u u' r : V4} (hu : u'.le u = true) (h : leftD n u = some r) : ∃ r', leftD n u' = some r' := by
  unfold leftD at h ⊢
  split at h
  · cases h
  · rename_i f hf
    obtain ⟨_, hl⟩ := sub_le h
    exact ⟨f.sub u', by unfold subV; rw [if_pos (le_trans4 hu hl)]⟩
theorem room_less {ns : List NodeD} {l : List PodD} {i : Nat} (hi : i < l.length) (ho : ∀ p ∈ l, p.Ok) (h : (roomOf ns l).1 = 0) : roomOf ns (l.take i ++ l.drop (i + 1)) = (0, -1) := by
  refine roomD_pair (roomD_all.2 fun n hn => ?_)
  obtain ⟨m, u, r, h1, h2, h3, _⟩ := rest_zero.1 (roomD_all.1 h n hn)
  obtain ⟨u', h4, h5⟩ := use_less hi ho h2
  obtain ⟨r', h6⟩ := left_less h5 h3
  rw [rest_some h1 h4 h6]
end Go.Proofs.Ytpjoihafpjnipaa

/- Contracts of the small functions: sums and differences of 64 bits, halves, one sum of the reference. -/
namespace Go.Proofs.Ytpjoihafpjnipaa
set_option linter.unusedSimpArgs false
open Go.RowKit
set_option linter.unusedVariables false

theorem below_drewN {B : Nat} {a w : World} (h : Below B a w) (n : Nat) : Below B a (w.drewN n) := ⟨h.os, h.tape, h.output, h.size, h.block⟩
theorem bcell {W w1 : World} (hb : Below W.heap.size W w1) : (∀ b o, b < W.heap.size → w1.cell? ⟨b, o, none⟩ = W.cell? ⟨b, o, none⟩) ∧ (∀ b o, b < W.heap.size → w1.frozen? ⟨b, o, none⟩ = W.frozen? ⟨b, o, none⟩) :=
  ⟨fun b o h => hb.cell (p := ⟨b, o, none⟩) h, fun b o h => hb.frozen (p := ⟨b, o, none⟩) h⟩
theorem quiet_left0 {P : Program} {f : FuncId} {args : Array Value} {w : World} {n : Nat} {v : Value}
    (h : Calls P f args (w.drewN n) fun e w' => e = .returned v ∧ w.drewN n = w') : Calls P f args (w.drewN n) fun e w'' => e = .returned v ∧ ∃ m, w'' = w.drewN m :=
  h.mono fun _ _ ⟨he, hm⟩ => ⟨he, n, hm.symm⟩
theorem quiet_left1 {P : Program} {f : FuncId} {args : Array Value} {w : World} {a n : Nat} {v : Value}
    (h : Calls P f args (w.drewN (a + n)) fun e w' => e = .returned v ∧ w.drewN (a + n) = w') :
    Calls P f args (w.drewN (a + n)) fun e w'' => e = .returned v ∧ ∃ m, w'' = w.drewN (a + m) :=
  h.mono fun _ _ ⟨he, hm⟩ => ⟨he, n, hm.symm⟩

theorem one_num (x y : Int) : (x / 4294967296 + y / 4294967296 + (x % 4294967296 + y % 4294967296) / 4294967296) * 4294967296 + (x + y) % 4294967296 = x + y := by omega
theorem ret_ib {a b : Int} {t : Bool} (h : a = b) : Ending.returned (.tuple #[.int .u64 a, .bool t]) = .returned (.tuple #[.int .u64 b, .bool t]) := by rw [h]
end Go.Proofs.Ytpjoihafpjnipaa

/- vec.Add: the four sums, or ErrOver. -/
namespace Go.Proofs.Ytpjoihafpjnipaa
set_option linter.unusedSimpArgs false
open Go.RowKit
set_option linter.unusedVariables false

end Go.Proofs.Ytpjoihafpjnipaa

/- vec.Sub: the four differences, or ErrOver. -/
namespace Go.Proofs.Ytpjoihafpjnipaa
set_option linter.unusedSimpArgs false
open Go.RowKit
set_option linter.unusedVariables false

end Go.Proofs.Ytpjoihafpjnipaa

/- The reference's Add. -/
namespace Go.Proofs.Ytpjoihafpjnipaa
set_option linter.unusedSimpArgs false
open Go.RowKit
set_option linter.unusedVariables false

end Go.Proofs.Ytpjoihafpjnipaa

/- Rows of four cells; how amounts lie in a slice; vec.Sum. -/
namespace Go.Proofs.Ytpjoihafpjnipaa
set_option linter.unusedSimpArgs false
open Go.RowKit
set_option linter.unusedVariables false

/-- A block whose four cells are known and may be written. -/
structure Row4 (w : World) (b : Nat) (u0 u1 u2 u3 : Value) : Prop where
  c0 : w.cell? ⟨b, 0, none⟩ = some u0
  c1 : w.cell? ⟨b, 1, none⟩ = some u1
  c2 : w.cell? ⟨b, 2, none⟩ = some u2
  c3 : w.cell? ⟨b, 3, none⟩ = some u3
  f0 : w.frozen? ⟨b, 0, none⟩ = false
  f1 : w.frozen? ⟨b, 1, none⟩ = false
  f2 : w.frozen? ⟨b, 2, none⟩ = false
  f3 : w.frozen? ⟨b, 3, none⟩ = false
theorem Row4.below {w w' : World} {b B : Nat} {u0 u1 u2 u3 : Value} (h : Row4 w b u0 u1 u2 u3) (hb : Below B w w') (hB : b < B) : Row4 w' b u0 u1 u2 u3 :=
  ⟨(hb.cell hB).trans h.c0, (hb.cell hB).trans h.c1, (hb.cell hB).trans h.c2, (hb.cell hB).trans h.c3, (hb.frozen hB).trans h.f0, (hb.frozen hB).trans h.f1, (hb.frozen hB).trans h.f2, (hb.frozen hB).trans h.f3⟩
theorem Row4.alloc {w : World} {b : Nat} {u0 u1 u2 u3 : Value} (h : Row4 w b u0 u1 u2 u3) (hB : b < w.heap.size) (o : Obj) : Row4 (w.alloc o) b u0 u1 u2 u3 :=
  h.below (B := w.heap.size) ((Below.refl _ w).alloc (Nat.le_refl _) o) hB
theorem Row4.drewN {w : World} {b : Nat} {u0 u1 u2 u3 : Value} (h : Row4 w b u0 u1 u2 u3) (n : Nat) : Row4 (w.drewN n) b u0 u1 u2 u3 := ⟨h.c0, h.c1, h.c2, h.c3, h.f0, h.f1, h.f2, h.f3⟩
theorem Row4.drew {w : World} {b : Nat} {u0 u1 u2 u3 : Value} (h : Row4 w b u0 u1 u2 u3) : Row4 w.drew b u0 u1 u2 u3 := ⟨h.c0, h.c1, h.c2, h.c3, h.f0, h.f1, h.f2, h.f3⟩
theorem Row4.far {w : World} {b : Nat} {u0 u1 u2 u3 : Value} (h : Row4 w b u0 u1 u2 u3) {p : Addr} (hp : p.block ≠ b) (v : Value) : Row4 (w.setCell p v) b u0 u1 u2 u3 := by
  have hc : ∀ o, (w.setCell p v).cell? ⟨b, o, none⟩ = w.cell? ⟨b, o, none⟩ := fun o => World.cell?_of_block (Below.heap_setCell w p v b (Ne.symm hp))
  have hf : ∀ o, (w.setCell p v).frozen? ⟨b, o, none⟩ = w.frozen? ⟨b, o, none⟩ := fun o => World.frozen?_of_block (Below.heap_setCell w p v b (Ne.symm hp))
  exact ⟨(hc _).trans h.c0, (hc _).trans h.c1, (hc _).trans h.c2, (hc _).trans h.c3, (hf _).trans h.f0, (hf _).trans h.f1, (hf _).trans h.f2, (hf _).trans h.f3⟩
theorem Row4.store {w : World} {b : Nat} {u0 u1 u2 u3 : Value} (h : Row4 w b u0 u1 u2 u3) (v0 v1 v2 v3 : Value) :
    Row4 ((((w.setCell ⟨b, 0, none⟩ v0).setCell ⟨b, 1, none⟩ v1).setCell ⟨b, 2, none⟩ v2).setCell ⟨b, 3, none⟩ v3) b v0 v1 v2 v3 := by
  have n01 : (⟨b, 0, none⟩ : Addr) ≠ ⟨b, 1, none⟩ := by simp
  have n02 : (⟨b, 0, none⟩ : Addr) ≠ ⟨b, 2, none⟩ := by simp
  have n03 : (⟨b, 0, none⟩ : Addr) ≠ ⟨b, 3, none⟩ := by simp
  have n12 : (⟨b, 1, none⟩ : Addr) ≠ ⟨b, 2, none⟩ := by simp
  have n13 : (⟨b, 1, none⟩ : Addr) ≠ ⟨b, 3, none⟩ := by simp
  have n23 : (⟨b, 2, none⟩ : Addr) ≠ ⟨b, 3, none⟩ := by simp
  have hf : ∀ (w : World) (p a : Addr) (v : Value), (w.setCell p v).frozen? a = w.frozen? a := fun w p a v => by simp
  refine ⟨?_, ?_, ?_, ?_, by rw [hf, hf, hf, hf]; exact h.f0, by rw [hf, hf, hf, hf]; exact h.f1, by rw [hf, hf, hf, hf]; exact h.f2, by rw [hf, hf, hf, hf]; exact h.f3⟩
  · rw [World.cell?_setCell_other _ _ _ _ n03.symm, World.cell?_setCell_other _ _ _ _ n02.symm, World.cell?_setCell_other _ _ _ _ n01.symm]
    exact World.cell?_setCell_same _ _ _ h.c0
  · rw [World.cell?_setCell_other _ _ _ _ n13.symm, World.cell?_setCell_other _ _ _ _ n12.symm]
    exact World.cell?_setCell_same _ _ _ ((World.cell?_setCell_other _ _ _ _ n01).trans h.c1)
  · rw [World.cell?_setCell_other _ _ _ _ n23.symm]
    exact World.cell?_setCell_same _ _ _ ((World.cell?_setCell_other _ _ _ _ n12).trans ((World.cell?_setCell_other _ _ _ _ n02).trans h.c2))
  · exact World.cell?_setCell_same _ _ _ ((World.cell?_setCell_other _ _ _ _ n23).trans ((World.cell?_setCell_other _ _ _ _ n13).trans ((World.cell?_setCell_other _ _ _ _ n03).trans h.c3)))

def psum (x : Nat → Int) : Nat → Int
  | 0 => 0
  | k + 1 => psum x k + x k
theorem psum_nonneg {x : Nat → Int} {n : Nat} (h : ∀ i, i < n → 0 ≤ x i) : ∀ k, k ≤ n → 0 ≤ psum x k
  | 0, _ => Int.le_refl _
  | k + 1, hk => by have := psum_nonneg h k (by omega); have := h k (by omega); simp only [psum]; omega
theorem psum_mono {x : Nat → Int} {n : Nat} (h : ∀ i, i < n → 0 ≤ x i) (k : Nat) : ∀ d, k + d ≤ n → psum x k ≤ psum x (k + d)
  | 0, _ => Int.le_refl _
  | d + 1, hk => by have := psum_mono h k d (by omega); have := h (k + d) (by omega); show psum x k ≤ psum x (k + d) + x (k + d); omega

/-- The amounts of a slice: n rows of four numbers from a on. -/
structure VecsAt (w : World) (a : Addr) (n : Nat) (x0 x1 x2 x3 : Nat → Int) : Prop where
  lt : 0 < n → a.block < w.heap.size
  c0 : ∀ i, i < n → w.cell? (a.add (i * 4)) = some (.int .u64 (x0 i))
  c1 : ∀ i, i < n → w.cell? ⟨(a.add (i * 4)).block, (a.add (i * 4)).off + 1, none⟩ = some (.int .u64 (x1 i))
  c2 : ∀ i, i < n → w.cell? ⟨(a.add (i * 4)).block, (a.add (i * 4)).off + 2, none⟩ = some (.int .u64 (x2 i))
  c3 : ∀ i, i < n → w.cell? ⟨(a.add (i * 4)).block, (a.add (i * 4)).off + 3, none⟩ = some (.int .u64 (x3 i))
theorem add_block (a : Addr) (n : Nat) : (a.add n).block = a.block := by unfold Addr.add; split <;> rfl
theorem VecsAt.below {w w' : World} {a : Addr} {n B : Nat} {x0 x1 x2 x3 : Nat → Int} (h : VecsAt w a n x0 x1 x2 x3) (hb : Below B w w') (hB : w.heap.size ≤ B) : VecsAt w' a n x0 x1 x2 x3 :=
  ⟨fun h0 => Nat.lt_of_lt_of_le (h.lt h0) hb.size, fun i hi => (hb.cell (by rw [add_block]; exact Nat.lt_of_lt_of_le (h.lt (by omega)) hB)).trans (h.c0 i hi), fun i hi => (hb.cell (by show (a.add (i * 4)).block < B; rw [add_block]; exact Nat.lt_of_lt_of_le (h.lt (by omega)) hB)).trans (h.c1 i hi), fun i hi => (hb.cell (by show (a.add (i * 4)).block < B; rw [add_block]; exact Nat.lt_of_lt_of_le (h.lt (by omega)) hB)).trans (h.c2 i hi), fun i hi => (hb.cell (by show (a.add (i * 4)).block < B; rw [add_block]; exact Nat.lt_of_lt_of_le (h.lt (by omega)) hB)).trans (h.c3 i hi)⟩

/-- All four sums fit. -/
def Fine (x0 x1 x2 x3 : Nat → Int) (n : Nat) : Prop := psum x0 n < 18446744073709551616 ∧ psum x1 n < 18446744073709551616 ∧ psum x2 n < 18446744073709551616 ∧ psum x3 n < 18446744073709551616
/-- Each number of the n amounts is one of 64 bits. -/
def Nums4 (x0 x1 x2 x3 : Nat → Int) (n : Nat) : Prop := ∀ i, i < n → (0 ≤ x0 i ∧ x0 i < 18446744073709551616) ∧ (0 ≤ x1 i ∧ x1 i < 18446744073709551616) ∧ (0 ≤ x2 i ∧ x2 i < 18446744073709551616) ∧ (0 ≤ x3 i ∧ x3 i < 18446744073709551616)
theorem Fine.le {x0 x1 x2 x3 : Nat → Int} {n k : Nat} (hx : Nums4 x0 x1 x2 x3 n) (h : Fine x0 x1 x2 x3 n) (hk : k ≤ n) : Fine x0 x1 x2 x3 k := by
  have m0 := psum_mono (x := x0) (n := n) (fun i hi => (hx i hi).1.1) k (n - k) (by omega)
  have m1 := psum_mono (x := x1) (n := n) (fun i hi => (hx i hi).2.1.1) k (n - k) (by omega)
  have m2 := psum_mono (x := x2) (n := n) (fun i hi => (hx i hi).2.2.1.1) k (n - k) (by omega)
  have m3 := psum_mono (x := x3) (n := n) (fun i hi => (hx i hi).2.2.2.1) k (n - k) (by omega)
  rw [show k + (n - k) = n by omega] at m0 m1 m2 m3
  unfold Fine at *
  omega
/-- What a sum of all comes to: 'good' with the sums, or 'bad' with zeroes. -/
def SumEnds (x0 x1 x2 x3 : Nat → Int) (n : Nat) (good bad : Value) (e : Ending) : Prop :=
  (Fine x0 x1 x2 x3 n ∧ e = .returned (.tuple #[.agg #[.int .u64 (psum x0 n), .int .u64 (psum x1 n), .int .u64 (psum x2 n), .int .u64 (psum x3 n)], good])) ∨
  (¬ Fine x0 x1 x2 x3 n ∧ e = .returned (.tuple #[.agg #[.int .u64 0, .int .u64 0, .int .u64 0, .int .u64 0], bad]))

end Go.Proofs.Ytpjoihafpjnipaa

namespace Go.Proofs.Ytpjoihafpjnipaa
set_option linter.unusedSimpArgs false
open Go.RowKit
set_option linter.unusedVariables false

def RSumRel (w : World) (n : Nat) (x0 x1 x2 x3 : Nat → Int) (ok i : Value) (wr : World) : Prop :=
  ∃ k : Nat, k ≤ n ∧ i = .int .i64 k ∧ Below w.heap.size w wr ∧ w.heap.size + 1 < wr.heap.size ∧ Row4 wr w.heap.size (.int .u64 0) (.int .u64 0) (.int .u64 0) (.int .u64 0) ∧
    ((ok = .bool true ∧ Fine x0 x1 x2 x3 k ∧ Row4 wr (w.heap.size + 1) (.int .u64 (psum x0 k)) (.int .u64 (psum x1 k)) (.int .u64 (psum x2 k)) (.int .u64 (psum x3 k))) ∨
     (ok = .bool false ∧ ¬ Fine x0 x1 x2 x3 n ∧ Row4 wr (w.heap.size + 1) (.int .u64 0) (.int .u64 0) (.int .u64 0) (.int .u64 0)))

end Go.Proofs.Ytpjoihafpjnipaa
