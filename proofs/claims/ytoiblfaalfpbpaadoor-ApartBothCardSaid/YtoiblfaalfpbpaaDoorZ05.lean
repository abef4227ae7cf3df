/- Joined texts, part 5: UF UC UG UH UI WL BB FN FO. -/
import Derived.Test.YtoiblfaalfpbpaaDoorZ04
import Derived.Test.YtoiblfaalfpbpaaDoorZ03
import Derived.Test.YtoiblfaalfpbpaaDoorZ02

/- What is told is new memory: a copy of a list of pods. -/
namespace Go.Proofs.YtoiblfaalfpbpaaDoor
set_option linter.unusedSimpArgs false
open Go.RowKit
set_option linter.unusedVariables false

theorem infoPod : (Tryd.prog.info? 42).map (fun i => (i.zero, i.size, i.bytes)) = some (some (.agg #[.int .i64 0, .int .i64 0, .int .i64 0, .int .u64 0, .int .u64 0, .int .u64 0, .int .u64 0, .int .i64 0]), 8, 64) := by kernel_rfl
theorem underPods : Tryd.prog.underlying 24 = some (.slice 42) := by kernel_rfl
theorem onePod (x : PodD) : ∀ u ∈ cellsP x, u.oneCell' = true := by
  intro u hu; simp only [cellsP, List.mem_cons, List.not_mem_nil, or_false] at hu
  rcases hu with rfl | rfl | rfl | rfl | rfl | rfl | rfl | rfl <;> rfl
theorem info_parts3 {P : Program} {t : TypeId} {z : Value} {s b : Nat} (h : (P.info? t).map (fun i => (i.zero, i.size, i.bytes)) = some (some z, s, b)) : ∃ i, P.info? t = some i ∧ i.zero = some z ∧ i.size = s ∧ i.bytes = b := by
  cases hi : P.info? t with
  | none => rw [hi] at h; cases h
  | some i =>
    rw [hi] at h
    have h := Option.some.inj h
    simp only [Prod.mk.injEq] at h
    exact ⟨i, rfl, h.1, h.2.1, h.2.2⟩
theorem flatMap_len {α : Type} {size : Nat} {cells : α → List Value} (hc : ∀ x, (cells x).length = size) : ∀ xs : List α, (xs.flatMap cells).length = xs.length * size
  | [] => by simp
  | x :: r => by rw [List.flatMap_cons, List.length_append, hc, flatMap_len hc r, List.length_cons, Nat.add_one_mul]; omega
section
variable {ops : Array Oper} {rest : List Oper} {o : Oper} {a : Act} {Q : Exit → Act → World → Prop} {wr : World}
/-- append of all records of a slice, nil or not, to a row of the call's own. -/
theorem wpList_recs {α : Type} {cells : α → List Value} (t e : TypeId) (z : Value) (size bytes : Nat) (ht : Tryd.prog.underlying t = some (.slice e)) (hinfo : (Tryd.prog.info? e).map (fun i => (i.zero, i.size, i.bytes)) = some (some z, size, bytes)) (hz : z.cells.size = size) (hsz : 0 < size) (hby : bytes ≤ 1000)
    (hc : ∀ x, (cells x).length = size) (hu : ∀ x, ∀ u ∈ cells x, u.oneCell' = true)
    (hgd : o.guard = none) (s x : Operand) (ho : o.op = .call { callee := .builtin .append, args := #[s, x], argTypes := #[t, t] })
    (B R : Nat) (v : Value) (n m : Nat) (xs ys : List α) (A : Option Addr) (c : Nat) (hnil : A = none → c = 0) (hown : wr.ownsRow B e size v n (xs.flatMap cells)) (hrow : Recs size cells wr R A ys) (hB : B ≤ wr.heap.size) (hl : n + m ≤ 2000000)
    (hs : a.eval s = v) (hx : a.eval x = .slice A m c) (hm : m = ys.length)
    (h : ∀ v' w', w'.ownsRow B e size v' (n + m) ((xs ++ ys).flatMap cells) → Below B wr w' → B ≤ w'.heap.size → wpList Tryd.prog ops Q rest (a.put o.dst v') w') :
    wpList Tryd.prog ops Q (o :: rest) a wr := by
  obtain ⟨i0, hi, hz0, hz1, hz2⟩ := info_parts3 hinfo
  have fin : ∀ v' w', w'.ownsRow B e size v' (n + m) (xs.flatMap cells ++ ys.flatMap cells) → wr.grownBy w' v.ownBlock → wpList Tryd.prog ops Q rest (a.put o.dst v') w' := fun v' w' h1 h2 =>
    h v' w' (by rw [List.flatMap_append]; exact h1) ((Below.refl B wr).grown h2 hB (fun j hj => (hown.lt j hj).1)) (by have := h2.size; omega)
  rcases A with _ | ad
  · have h0 : ys = [] := by
      rcases hrow with h0 | ⟨_, _, h0, _⟩
      · exact h0
      · cases h0
    subst h0
    have := hnil rfl
    subst this
    have hm0 : m = 0 := hm
    subst hm0
    exact wpList_append_own_none hgd s x t ho B e i0 size ht hi v n (xs.flatMap cells) hs hown hx (fin v wr (by simpa using hown) (World.grownBy.refl _ _))
  · refine wpList_append_own _ hgd s x t ho B e i0 z size bytes ht hi hz0 hz1 hz2 hz hsz v n (xs.flatMap cells) hs hown ad m c (ys.flatMap cells) hx (by rw [flatMap_len hc, hm]) ?_ ?_ ?_ ?_ hB (fun v' w' h1 h2 _ => fin v' w' h1 h2)
    · intro j y hy
      rcases hrow with h0 | ⟨b, o', h0, _, h1⟩
      · subst h0; simp at hy
      · have h0' := Option.some.inj h0
        subst h0'
        have hj : j < ys.length * size := by have := (List.getElem?_eq_some_iff.1 hy).1; rwa [flatMap_len hc] at this
        have hi : j / size < ys.length := Nat.div_lt_of_lt_mul (by rw [Nat.mul_comm]; exact hj)
        have e1 : j = j / size * size + j % size := by rw [Nat.mul_comm]; exact (Nat.div_add_mod j size).symm
        rw [e1, flatMap_get hc hi (Nat.mod_lt _ hsz)] at hy
        rw [Addr.add_lit]
        have := h1 (j / size) hi (j % size) y hy
        rw [Nat.add_assoc, ← e1] at this
        exact this
    · intro u hu'
      obtain ⟨x, _, hx⟩ := List.mem_flatMap.1 hu'
      exact hu x u hx
    · unfold maxLen; omega
    · have : (n + m) * bytes ≤ (n + m) * 1000 := Nat.mul_le_mul_left _ hby
      omega
end
theorem own_form3 {w : World} {base n size : Nat} {e : TypeId} {v : Value} {xs : List Value} (h : w.ownsRow base e size v n xs) : ∃ A c, v = .slice A n c ∧ n ≤ c ∧ c ≤ maxLen ∧ (A = none → c = 0) := by
  rcases h.2 with ⟨hv, h0⟩ | ⟨g, cap, cur, hv, hb, hg, hc, hm, _⟩
  · exact ⟨none, 0, by rw [hv, h0], by omega, by decide, fun _ => rfl⟩
  · exact ⟨_, cap, hv, hc, hm, fun h => by cases h⟩
/-- A slice of these records in memory of the call's own. -/
def Fresh (l : List PodD) (w : World) (A : Option Addr) (c : Nat) (w' : World) : Prop := w'.ownsRow w.heap.size 42 8 (.slice A l.length c) l.length (l.flatMap cellsP)
theorem lenP (x : PodD) : (cellsP x).length = 8 := rfl
theorem Fresh.out {l : List PodD} {w w' : World} {A : Option Addr} {c : Nat} (h : Fresh l w A c w') : Out 8 cellsP w' l A c := out_of_own lenP rfl h
theorem Fresh.recs {l : List PodD} {w w' : World} {A : Option Addr} {c : Nat} (h : Fresh l w A c w') : Recs 8 cellsP w' w'.heap.size A l := h.out.2.2.2
/-- A row of the call's own is told, and a box of the call's own is written. -/
def OwnAt (B : Nat) (l : List PodD) (w : World) (A : Option Addr) (c : Nat) : Prop := w.ownsRow B 42 8 (.slice A l.length c) l.length (l.flatMap cellsP)
theorem OwnAt.set {B : Nat} {l : List PodD} {w : World} {A : Option Addr} {c : Nat} (h : OwnAt B l w A c) {p : Addr} (hp : p.block < B) (v : Value) : OwnAt B l (w.setCell p v) A c := by
  refine ⟨h.1, ?_⟩
  rcases h.2 with h0 | ⟨g, cap, cur, hv, hb, hg, rest⟩
  · exact .inl h0
  · exact .inr ⟨g, cap, cur, hv, hb, (Below.heap_setCell w p v g (by omega)).trans hg, rest⟩
theorem OwnAt.out {B : Nat} {l : List PodD} {w : World} {A : Option Addr} {c : Nat} (h : OwnAt B l w A c) : Out 8 cellsP w l A c := out_of_own lenP rfl h
theorem OwnAt.of {l : List PodD} {w w' : World} {A : Option Addr} {c : Nat} (h : Fresh l w A c w') : OwnAt w.heap.size l w' A c := h
theorem own_empty (w : World) (B g : Nat) (e : TypeId) (hg : g = w.heap.size) (hB : B ≤ w.heap.size) : (w.alloc (.cells #[] e)).ownsRow B e 8 (.slice (some ⟨g, 0, none⟩) 0 0) 0 (([] : List PodD).flatMap cellsP) := by
  subst hg
  exact ⟨rfl, .inr ⟨w.heap.size, 0, #[], rfl, hB, heap_alloc_new w _, Nat.le_refl _, by decide, rfl, rfl⟩⟩
theorem below_last {B : Nat} {w w' : World} {o : Obj} (h : Below B (w.alloc o) w') (hB : B ≤ w.heap.size) : Below B w w' := ((Below.refl B w).alloc hB o).trans h
theorem below_three (w : World) (o o' o'' : Obj) : Below w.heap.size w (((w.alloc o).alloc o').alloc o'') := (below_two w o o').alloc (by simp; omega) o''
theorem below_four (w : World) (o o' o'' o3 : Obj) : Below w.heap.size w ((((w.alloc o).alloc o').alloc o'').alloc o3) := (below_three w o o' o'').alloc (by simp; omega) o3
end Go.Proofs.YtoiblfaalfpbpaaDoor

/- The program's Goal of layer 5. -/
namespace Go.Proofs.YtoiblfaalfpbpaaDoor
set_option linter.unusedSimpArgs false
open Go.RowKit
set_option linter.unusedVariables false

def metB (p : PodD) (x : WantD) : Bool := if x.stay then p.node != 0 && vecEq p.req x.req else p.node == 0
def GoalRel (x : List WantD) (l : List PodD) (W : World) (B : Nat) (i : Value) (wr : World) : Prop := ∃ k : Nat, k ≤ x.length ∧ i = .int .i64 k ∧ goalD (x.drop k) l = goalD x l ∧ Below B W wr
end Go.Proofs.YtoiblfaalfpbpaaDoor

/- May a move be made? The program's wellFormed, allThere, canBeMade of layer 5. -/
namespace Go.Proofs.YtoiblfaalfpbpaaDoor
set_option linter.unusedSimpArgs false
open Go.RowKit
set_option linter.unusedVariables false

/-- A pod that isn't there. -/
def noPod : PodD := ⟨0, 0, 0, ⟨0, 0, 0, 0⟩, 0⟩
def podZ (id : Int) (l : List PodD) : PodD := (podAt id l).getD noPod
theorem podZ_none {id : Int} {l : List PodD} (h : place PodD.id id l 0 < 0) : podZ id l = noPod := by
  rw [podZ, (podAt_none (l := l) (k := 0) (by omega)).2 h]; rfl
theorem podZ_some {id : Int} {l : List PodD} {i : Nat} (hi : i < l.length) (h : place PodD.id id l 0 = i) : podZ id l = l[i] := by
  rw [podZ, podAt_some (l := l) (k := 0) hi (by rw [h]; omega) (by omega)]; rfl
def wellD (m : MoveD) : Bool := if m.kind = 1 ∨ m.kind = 3 then m.over == 0 else if m.kind = 2 then m.node == 0 && m.over == 0 else m.kind == 4
def hereD (nodes : List NodeD) (l : List PodD) (m : MoveD) : Bool :=
  !decide (place PodD.id m.pod l 0 < 0) && ((!decide (place NodeD.id m.node nodes 0 < 0) || m.kind == 2) && (m.kind != 4 || !decide (place PodD.id m.over l 0 < 0)))
def canD (l : List PodD) (m : MoveD) : Bool :=
  if m.kind = 2 then (podZ m.pod l).node != 0 else if m.kind = 3 then (podZ m.pod l).node != 0 && (podZ m.pod l).node != m.node
  else if m.kind = 4 then !((podZ m.pod l).node != 0) && (m.over != m.pod && (podZ m.over l).node == m.node) else !((podZ m.pod l).node != 0)
/-- Three boxes of the call's own, of three, three and four cells. -/
theorem box3_cells {w wr : World} {x y z x' y' z' a b c d : Value} {t t' t'' : TypeId} (hb : Below (w.heap.size + 3) (((w.alloc (.cells #[x, y, z] t)).alloc (.cells #[x', y', z'] t')).alloc (.cells #[a, b, c, d] t'')) wr) :
    (wr.cell? ⟨w.heap.size, 0, none⟩ = some x ∧ wr.cell? ⟨w.heap.size, 1, none⟩ = some y ∧ wr.cell? ⟨w.heap.size, 2, none⟩ = some z) ∧
    (wr.cell? ⟨w.heap.size + 1, 0, none⟩ = some x' ∧ wr.cell? ⟨w.heap.size + 1, 1, none⟩ = some y' ∧ wr.cell? ⟨w.heap.size + 1, 2, none⟩ = some z') ∧
    (wr.cell? ⟨w.heap.size + 2, 0, none⟩ = some a ∧ wr.cell? ⟨w.heap.size + 2, 1, none⟩ = some b ∧ wr.cell? ⟨w.heap.size + 2, 2, none⟩ = some c ∧ wr.cell? ⟨w.heap.size + 2, 3, none⟩ = some d) := by
  have h2 : Below (w.heap.size + 2) ((w.alloc (.cells #[x, y, z] t)).alloc (.cells #[x', y', z'] t')) wr := ((Below.refl _ _).alloc (by simp) _).trans (hb.mono (by omega))
  obtain ⟨p, q⟩ := box2_cells h2
  refine ⟨p, q, ?_, ?_, ?_, ?_⟩
  all_goals
    rw [hb.cell (by simp), World.cell?_alloc_at _ _ _ _ (by simp)]
    simp
end Go.Proofs.YtoiblfaalfpbpaaDoor

/- What a move does: the program's come and behind of layer 5. -/
namespace Go.Proofs.YtoiblfaalfpbpaaDoor
set_option linter.unusedSimpArgs false
open Go.RowKit
set_option linter.unusedVariables false

/-- A row of the call's own in block g that holds these pods. -/
structure Lst (g : Nat) (l : List PodD) (w : World) : Prop where
  lt : g < w.heap.size
  cell : ∀ i (h : i < l.length) j u, (cellsP l[i])[j]? = some u → w.cell? ⟨g, i * 8 + j, none⟩ = some u
  frozen : ∀ o, w.frozen? ⟨g, o, none⟩ = false
section
variable {g : Nat} {l : List PodD} {w w' : World}
theorem Lst.below (h : Lst g l w) (hb : Below w.heap.size w w') : Lst g l w' :=
  ⟨Nat.lt_of_lt_of_le h.lt hb.size, fun i hi j u hu => (hb.cell (p := ⟨g, i * 8 + j, none⟩) h.lt).trans (h.cell i hi j u hu), fun o => (hb.frozen (p := ⟨g, o, none⟩) h.lt).trans (h.frozen o)⟩
theorem Lst.alloc (h : Lst g l w) (o : Obj) : Lst g l (w.alloc o) := h.below ((Below.refl _ w).alloc (Nat.le_refl _) o)
theorem Lst.drew (h : Lst g l w) : Lst g l w.drew := ⟨h.lt, h.cell, h.frozen⟩
theorem Lst.other (h : Lst g l w) {p : Addr} (hp : p.block ≠ g) (v : Value) : Lst g l (w.setCell p v) :=
  ⟨by simpa using h.lt, fun i hi j u hu => by rw [World.cell?_setCell_other _ _ _ _ (by intro e; exact hp (by rw [e]))]; exact h.cell i hi j u hu, fun o => by simpa using h.frozen o⟩
theorem Lst.put (h : Lst g l w) {i j : Nat} (hi : i < l.length) (hj : j < 8) (u : Value) (p' : PodD) (hp : cellsP p' = (cellsP l[i]).set j u) : Lst g (l.set i p') (w.setCell ⟨g, i * 8 + j, none⟩ u) := by
  refine ⟨by simpa using h.lt, fun i' hi' j' u' hu => ?_, fun o => by simpa using h.frozen o⟩
  have hl' : i' < l.length := by simpa using hi'
  have hj' : j' < 8 := by have := (List.getElem?_eq_some_iff.1 hu).1; simpa [cellsP] using this
  by_cases e : i' = i
  · subst e
    rw [List.getElem_set_self, hp] at hu
    by_cases ej : j' = j
    · subst ej
      rw [List.getElem?_set_self (by simpa [cellsP] using hj)] at hu
      obtain rfl := Option.some.inj hu
      have hc : ∃ u0, (cellsP l[i'])[j']? = some u0 := ⟨_, List.getElem?_eq_getElem (by simpa [cellsP] using hj)⟩
      obtain ⟨u0, hu0⟩ := hc
      exact World.cell?_setCell_same _ _ _ (h.cell i' hl' j' u0 hu0)
    · rw [List.getElem?_set_ne (fun e => ej e.symm)] at hu
      rw [World.cell?_setCell_other _ _ _ _ (by intro e; injection e; omega)]
      exact h.cell i' hl' j' u' hu
  · rw [List.getElem_set_ne (fun e' => e e'.symm)] at hu
    rw [World.cell?_setCell_other _ _ _ _ (by intro e'; injection e'; omega)]
    exact h.cell i' hl' j' u' hu
theorem Lst.at (h : Lst g l w) {i : Nat} (hi : i < l.length) {p : PodD} (hp : l[i] = p) (j : Nat) (u : Value) (hu : (cellsP p)[j]? = some u) : w.cell? ⟨g, i * 8 + j, none⟩ = some u := h.cell i hi j u (by rw [hp]; exact hu)
theorem Lst.recs (h : Lst g l w) : Recs 8 cellsP w w.heap.size (some ⟨g, 0, none⟩) l := .inr ⟨g, 0, rfl, h.lt, fun i hi j u hu => by rw [Nat.zero_add]; exact h.cell i hi j u hu⟩
theorem Lst.fresh {A : Option Addr} {c : Nat} {w0 : World} (h : Fresh l w0 A c w) (hl : 0 < l.length) : ∃ g, A = some ⟨g, 0, none⟩ ∧ w0.heap.size ≤ g ∧ l.length ≤ c ∧ c ≤ maxLen ∧ Lst g l w := by
  have h1 := h.recs
  rcases h.2 with ⟨_, h0⟩ | ⟨g, cap, cur, hv, hb, hg, hnc, hm, _⟩
  · omega
  · injection hv with e1 _ e2
    subst e1 e2
    refine ⟨g, rfl, hb, hnc, hm, ?_, fun i hi j u hu => ?_, fun o => by simp [World.frozen?, hg]⟩
    · exact (Array.getElem?_eq_some_iff.1 hg).1
    · obtain ⟨b, o, e, _, hc⟩ := h1.at hi
      injection e with e
      injection e with e1 e2
      subst e1 e2
      simpa using hc j u hu
end
/-- A pod that comes to a node. -/
def comeD (x : List WantD) (node : Int) (p : PodD) : PodD :=
  let k := place WantD.pod p.id x 0
  let req := if k < 0 then p.req else match x[k.toNat]? with
    | some y => if y.stay then y.req else p.req
    | none => p.req
  ⟨p.id, p.load, p.prio, req, node⟩
theorem come_none {x : List WantD} {node : Int} {p : PodD} (h : place WantD.pod p.id x 0 < 0) : comeD x node p = ⟨p.id, p.load, p.prio, p.req, node⟩ := by simp [comeD, h]
theorem come_some {x : List WantD} {node : Int} {p : PodD} {i : Nat} (hi : i < x.length) (h : place WantD.pod p.id x 0 = i) : comeD x node p = ⟨p.id, p.load, p.prio, if x[i].stay then x[i].req else p.req, node⟩ := by
  have : ¬ (i : Int) < 0 := by omega
  simp [comeD, h, this, hi]
end Go.Proofs.YtoiblfaalfpbpaaDoor

/- What a move does: the program's behind of layer 5. -/
namespace Go.Proofs.YtoiblfaalfpbpaaDoor
set_option linter.unusedSimpArgs false
open Go.RowKit
set_option linter.unusedVariables false

/-- A box of the call's own that holds these cells. -/
structure Bf (V : World) (b : Nat) (cs : List Value) : Prop where
  lt : b < V.heap.size
  cell : ∀ j u, cs[j]? = some u → V.cell? ⟨b, j, none⟩ = some u
  frozen : ∀ o, V.frozen? ⟨b, o, none⟩ = false
section
variable {V V' : World} {b B : Nat} {cs : List Value}
theorem Bf.below (h : Bf V b cs) (hb : Below B V V') (hB : b < B) : Bf V' b cs :=
  ⟨Nat.lt_of_lt_of_le h.lt hb.size, fun j u hu => (hb.cell (p := ⟨b, j, none⟩) hB).trans (h.cell j u hu), fun o => (hb.frozen (p := ⟨b, o, none⟩) hB).trans (h.frozen o)⟩
theorem Bf.new (w : World) (cs : List Value) (t : TypeId) {b : Nat} (hb : b = w.heap.size) : Bf (w.alloc (.cells cs.toArray t)) b cs := by
  subst hb
  exact ⟨by simp, fun j u hu => by simpa using hu, fun o => by simp⟩
theorem Bf.alloc (h : Bf V b cs) (o : Obj) : Bf (V.alloc o) b cs := h.below ((Below.refl _ V).alloc (Nat.le_refl _) o) h.lt
theorem Bf.other (h : Bf V b cs) {p : Addr} (hp : p.block ≠ b) (v : Value) : Bf (V.setCell p v) b cs :=
  ⟨by simpa using h.lt, fun j u hu => by rw [World.cell?_setCell_other _ _ _ _ (by intro e; exact hp (by rw [e]))]; exact h.cell j u hu, fun o => by simpa using h.frozen o⟩
theorem Bf.set (h : Bf V b cs) (i : Nat) (v : Value) : Bf (V.setCell ⟨b, i, none⟩ v) b (cs.set i v) := by
  refine ⟨by simpa using h.lt, fun j u hu => ?_, fun o => by simpa using h.frozen o⟩
  by_cases e : j = i
  · subst e
    have hj : j < cs.length := by have := (List.getElem?_eq_some_iff.1 hu).1; simpa using this
    rw [List.getElem?_set_self hj] at hu
    obtain rfl := Option.some.inj hu
    exact World.cell?_setCell_same _ _ _ (h.cell j _ (List.getElem?_eq_getElem hj))
  · rw [List.getElem?_set_ne (fun e' => e e'.symm)] at hu
    rw [World.cell?_setCell_other _ _ _ _ (by intro e'; injection e'; omega)]
    exact h.cell j u hu
end
/-- What stands while behind is at work. -/
structure Beh (A : Option Addr) (n c : Nat) (v1 v2 : Value) (g c' k : Nat) (p s : Int) (m : MoveD) (l : List PodD) (w V : World) : Prop where
  spec : Bf V w.heap.size [.slice A n c, v1, v2]
  state : Bf V (w.heap.size + 1) [.slice (some ⟨g, 0, none⟩) k c', .int .i64 p, .int .i64 s]
  move : Bf V (w.heap.size + 2) [.int .i64 m.kind, .int .i64 m.pod, .int .i64 m.node, .int .i64 m.over]
  res : Bf V (w.heap.size + 3) [.slice none 0 0, .int .i64 0, .int .i64 0]
  lst : Lst g l V
  below : Below w.heap.size w V
  hg : w.heap.size + 4 ≤ g
section
variable {A : Option Addr} {n c : Nat} {v1 v2 : Value} {g c' k : Nat} {p s : Int} {m : MoveD} {l : List PodD} {w V V' : World}
theorem Beh.keep (h : Beh A n c v1 v2 g c' k p s m l w V) (hb : Below V.heap.size V V') : Beh A n c v1 v2 g c' k p s m l w V' :=
  ⟨h.spec.below hb h.spec.lt, h.state.below hb h.state.lt, h.move.below hb h.move.lt, h.res.below hb h.res.lt, h.lst.below hb, h.below.trans (hb.mono h.below.size), h.hg⟩
theorem Beh.turn {l' : List PodD} (h : Beh A n c v1 v2 g c' k p s m l w V) (hb : Below g V V') (hl : Lst g l' V') : Beh A n c v1 v2 g c' k p s m l' w V' := by
  have hg := h.hg
  exact ⟨h.spec.below hb (by omega), h.state.below hb (by omega), h.move.below hb (by omega), h.res.below hb (by omega), hl, h.below.trans (hb.mono (by omega)), h.hg⟩
theorem Beh.shift (h : Beh A n c v1 v2 g c' k p s m l w V) (s' : Int) : Beh A n c v1 v2 g c' k p s' m l w (V.setCell ⟨w.heap.size + 1, 2, none⟩ (.int .i64 s')) := by
  have hg := h.hg
  exact ⟨h.spec.other (by simp) _, h.state.set 2 _, h.move.other (by simp) _, h.res.other (by simp) _, h.lst.other (by show w.heap.size + 1 ≠ g; omega) _, h.below.setCell (by simp) _, h.hg⟩
theorem Beh.pre (h : Beh A n c v1 v2 g c' k p s m l w V) (p' : Int) : Beh A n c v1 v2 g c' k p' s m l w (V.setCell ⟨w.heap.size + 1, 1, none⟩ (.int .i64 p')) := by
  have hg := h.hg
  exact ⟨h.spec.other (by simp) _, h.state.set 1 _, h.move.other (by simp) _, h.res.other (by simp) _, h.lst.other (by show w.heap.size + 1 ≠ g; omega) _, h.below.setCell (by simp) _, h.hg⟩
theorem Beh.facts (h : Beh A n c v1 v2 g c' k p s m l w V) :
    (V.cell? ⟨w.heap.size, 0, none⟩ = some (.slice A n c) ∧ V.cell? ⟨w.heap.size, 1, none⟩ = some v1 ∧ V.cell? ⟨w.heap.size, 2, none⟩ = some v2) ∧
    (V.cell? ⟨w.heap.size + 1, 0, none⟩ = some (.slice (some ⟨g, 0, none⟩) k c') ∧ V.cell? ⟨w.heap.size + 1, 1, none⟩ = some (.int .i64 p) ∧ V.cell? ⟨w.heap.size + 1, 2, none⟩ = some (.int .i64 s)) ∧
    (V.cell? ⟨w.heap.size + 2, 0, none⟩ = some (.int .i64 m.kind) ∧ V.cell? ⟨w.heap.size + 2, 1, none⟩ = some (.int .i64 m.pod) ∧ V.cell? ⟨w.heap.size + 2, 2, none⟩ = some (.int .i64 m.node) ∧ V.cell? ⟨w.heap.size + 2, 3, none⟩ = some (.int .i64 m.over)) ∧
    w.heap.size < V.heap.size ∧ w.heap.size + 1 < V.heap.size ∧ w.heap.size + 2 < V.heap.size ∧ w.heap.size + 3 < V.heap.size ∧ g < V.heap.size :=
  ⟨⟨h.spec.cell 0 _ rfl, h.spec.cell 1 _ rfl, h.spec.cell 2 _ rfl⟩, ⟨h.state.cell 0 _ rfl, h.state.cell 1 _ rfl, h.state.cell 2 _ rfl⟩, ⟨h.move.cell 0 _ rfl, h.move.cell 1 _ rfl, h.move.cell 2 _ rfl, h.move.cell 3 _ rfl⟩, h.spec.lt, h.state.lt, h.move.lt, h.res.lt, h.lst.lt⟩
theorem Beh.facts2 (h : Beh A n c v1 v2 g c' k p s m l w V) :
    (V.cell? ⟨w.heap.size + 3, 0, none⟩ = some (.slice none 0 0) ∧ V.cell? ⟨w.heap.size + 3, 1, none⟩ = some (.int .i64 0) ∧ V.cell? ⟨w.heap.size + 3, 2, none⟩ = some (.int .i64 0)) ∧
    (V.frozen? ⟨w.heap.size + 3, 0, none⟩ = false ∧ V.frozen? ⟨w.heap.size + 3, 1, none⟩ = false ∧ V.frozen? ⟨w.heap.size + 3, 2, none⟩ = false) ∧
    (V.frozen? ⟨w.heap.size + 1, 1, none⟩ = false ∧ V.frozen? ⟨w.heap.size + 1, 2, none⟩ = false) :=
  ⟨⟨h.res.cell 0 _ rfl, h.res.cell 1 _ rfl, h.res.cell 2 _ rfl⟩, ⟨h.res.frozen 0, h.res.frozen 1, h.res.frozen 2⟩, h.state.frozen 1, h.state.frozen 2⟩
end
theorem place_eq {id : Int} : ∀ {l : List PodD} {k : Int} {i : Nat} (hi : i < l.length), place PodD.id id l k = k + i → 0 ≤ k → l[i].id = id
  | [], _, _, hi, _, _ => by simp at hi
  | x :: r, k, i, hi, h, hk => by
    by_cases hx : x.id = id
    · simp only [place, if_pos hx] at h
      obtain rfl : i = 0 := by omega
      exact hx
    · simp only [place, if_neg hx] at h
      cases i with
      | zero =>
        have h3 : place PodD.id id r (k + 1) < 0 ∨ k + 1 ≤ place PodD.id id r (k + 1) := place_or r (k + 1) (by omega)
        omega
      | succ i =>
        simp only [List.getElem_cons_succ]
        exact place_eq (k := k + 1) (by simpa using hi) (by rw [h]; omega) (by omega)
theorem place_is {l : List PodD} {id : Int} {i : Nat} (hi : i < l.length) (h : place PodD.id id l 0 = i) : l[i].id = id := by
  have := place_eq (l := l) (id := id) (k := 0) hi (by omega) (by omega)
  exact this
/-- A pod that goes. -/
def goD (p : PodD) : PodD := ⟨p.id, p.load, p.prio, p.req, 0⟩
def idxD (id : Int) (l : List PodD) : Nat := (place PodD.id id l 0).toNat
def behindD (x : List WantD) (t : StateD) (m : MoveD) : StateD :=
  if m.kind = 2 then ⟨t.pods.set (idxD m.pod t.pods) (goD (podZ m.pod t.pods)), t.preempts, t.shifts⟩
  else if m.kind = 3 then ⟨t.pods.set (idxD m.pod t.pods) (comeD x m.node (podZ m.pod t.pods)), t.preempts, wrap64 (t.shifts + 1)⟩
  else if m.kind = 4 then ⟨(t.pods.set (idxD m.over t.pods) (goD (podZ m.over t.pods))).set (idxD m.pod t.pods) (comeD x m.node (podZ m.pod t.pods)), wrap64 (t.preempts + 1), t.shifts⟩
  else ⟨t.pods.set (idxD m.pod t.pods) (comeD x m.node (podZ m.pod t.pods)), t.preempts, t.shifts⟩
/-- A state that is told: its pods in new memory. -/
def StateTo (u : StateD) (w : World) (v : Value) (w' : World) : Prop := ∃ A c, v = stateV A u.pods.length c u.preempts u.shifts ∧ Out 8 cellsP w' u.pods A c ∧ (∀ a, A = some a → w.heap.size ≤ a.block) ∧ Below w.heap.size w w'
theorem Beh.done {A : Option Addr} {n c : Nat} {v1 v2 : Value} {g c' k : Nat} {p s : Int} {m : MoveD} {l : List PodD} {w V : World} (h : Beh A n c v1 v2 g c' k p s m l w V) (hk : k = l.length) (hc : k ≤ c') (hm : c' ≤ maxLen) {x y z : Value} :
    StateTo ⟨l, p, s⟩ w (stateV (some ⟨g, 0, none⟩) k c' p s) (((V.setCell ⟨w.heap.size + 3, 0, none⟩ x).setCell ⟨w.heap.size + 3, 1, none⟩ y).setCell ⟨w.heap.size + 3, 2, none⟩ z) := by
  subst hk
  have hg := h.hg
  have hl := (((h.lst.other (p := ⟨w.heap.size + 3, 0, none⟩) (by show w.heap.size + 3 ≠ g; omega) x).other (p := ⟨w.heap.size + 3, 1, none⟩) (by show w.heap.size + 3 ≠ g; omega) y).other (p := ⟨w.heap.size + 3, 2, none⟩) (by show w.heap.size + 3 ≠ g; omega) z)
  exact ⟨_, _, rfl, ⟨hc, hm, (by intro e; cases e), hl.recs⟩, (by intro a e; injection e with e; subst e; show w.heap.size ≤ g; omega), ((h.below.setCell (by simp) _).setCell (by simp) _).setCell (by simp) _⟩
end Go.Proofs.YtoiblfaalfpbpaaDoor

/- What a node has left beside a use: the program's left. -/
namespace Go.Proofs.YtoiblfaalfpbpaaDoor
set_option linter.unusedSimpArgs false
open Go.RowKit
set_option linter.unusedVariables false

/-- Three boxes of the call's own. -/
structure T3 (a b c : List Value) (w V : World) : Prop where
  one : Bf V w.heap.size a
  two : Bf V (w.heap.size + 1) b
  three : Bf V (w.heap.size + 2) c
  below : Below w.heap.size w V
section
variable {a b c : List Value} {w V V' : World}
theorem T3.keep (h : T3 a b c w V) (hb : Below V.heap.size V V') : T3 a b c w V' :=
  ⟨h.one.below hb h.one.lt, h.two.below hb h.two.lt, h.three.below hb h.three.lt, h.below.trans (hb.mono h.below.size)⟩
theorem T3.alloc (h : T3 a b c w V) (o : Obj) : T3 a b c w (V.alloc o) := h.keep ((Below.refl _ V).alloc (Nat.le_refl _) o)
theorem T3.drew (h : T3 a b c w V) : T3 a b c w V.drew := h.keep (Below.refl _ V).drew
theorem T3.new (w : World) (a b c : List Value) (t1 t2 t3 : TypeId) : T3 a b c w (((w.alloc (.cells a.toArray t1)).alloc (.cells b.toArray t2)).alloc (.cells c.toArray t3)) :=
  ⟨((Bf.new w a t1 rfl).alloc _).alloc _, (Bf.new (w.alloc (.cells a.toArray t1)) b t2 (b := w.heap.size + 1) (by simp)).alloc _,
    Bf.new ((w.alloc (.cells a.toArray t1)).alloc (.cells b.toArray t2)) c t3 (b := w.heap.size + 2) (by simp), ((((Below.refl _ w).alloc (Nat.le_refl _) _).alloc (by simp) _).alloc (by simp; omega) _)⟩
theorem Bf.cells4 {b : Nat} {x : V4} (h : Bf V b (cellsV x)) : V.cell? ⟨b, 0, none⟩ = some (.int .u64 x.a) ∧ V.cell? ⟨b, 1, none⟩ = some (.int .u64 x.b) ∧ V.cell? ⟨b, 2, none⟩ = some (.int .u64 x.c) ∧ V.cell? ⟨b, 3, none⟩ = some (.int .u64 x.d) ∧ b < V.heap.size :=
  ⟨h.cell 0 _ rfl, h.cell 1 _ rfl, h.cell 2 _ rfl, h.cell 3 _ rfl, h.lt⟩
theorem Bf.zero4 {b : Nat} (h : Bf V b (cellsV .zer)) : (V.cell? ⟨b, 0, none⟩ = some (.int .u64 0) ∧ V.cell? ⟨b, 1, none⟩ = some (.int .u64 0) ∧ V.cell? ⟨b, 2, none⟩ = some (.int .u64 0) ∧ V.cell? ⟨b, 3, none⟩ = some (.int .u64 0)) ∧ b < V.heap.size :=
  ⟨⟨h.cell 0 _ rfl, h.cell 1 _ rfl, h.cell 2 _ rfl, h.cell 3 _ rfl⟩, h.lt⟩
theorem Bf.free4 {b : Nat} {l : List Value} (h : Bf V b l) : V.frozen? ⟨b, 0, none⟩ = false ∧ V.frozen? ⟨b, 1, none⟩ = false ∧ V.frozen? ⟨b, 2, none⟩ = false ∧ V.frozen? ⟨b, 3, none⟩ = false :=
  ⟨h.frozen 0, h.frozen 1, h.frozen 2, h.frozen 3⟩
theorem Bf.cells3 {b : Nat} {x0 x1 x2 : Value} (h : Bf V b [x0, x1, x2]) : V.cell? ⟨b, 0, none⟩ = some x0 ∧ V.cell? ⟨b, 1, none⟩ = some x1 ∧ V.cell? ⟨b, 2, none⟩ = some x2 ∧ b < V.heap.size :=
  ⟨h.cell 0 _ rfl, h.cell 1 _ rfl, h.cell 2 _ rfl, h.lt⟩
end
theorem zer_agg : aggV V4.zer = zeroV := rfl

end Go.Proofs.YtoiblfaalfpbpaaDoor

/- The program's hasApart, clash, and its closures; slices.IndexFunc and slices.ContainsFunc at them. -/
namespace Go.Proofs.YtoiblfaalfpbpaaDoor
set_option linter.unusedSimpArgs false
open Go.RowKit
set_option linter.unusedVariables false

section
variable {V : World}
theorem Bf.cells8 {b : Nat} {x : PodD} (h : Bf V b (cellsP x)) : (V.cell? ⟨b, 0, none⟩ = some (.int .i64 x.id) ∧ V.cell? ⟨b, 1, none⟩ = some (.int .i64 x.load) ∧ V.cell? ⟨b, 2, none⟩ = some (.int .i64 x.prio) ∧ V.cell? ⟨b, 3, none⟩ = some (.int .u64 x.req.a)) ∧
    V.cell? ⟨b, 4, none⟩ = some (.int .u64 x.req.b) ∧ V.cell? ⟨b, 5, none⟩ = some (.int .u64 x.req.c) ∧ V.cell? ⟨b, 6, none⟩ = some (.int .u64 x.req.d) ∧ V.cell? ⟨b, 7, none⟩ = some (.int .i64 x.node) ∧ b < V.heap.size :=
  ⟨⟨h.cell 0 _ rfl, h.cell 1 _ rfl, h.cell 2 _ rfl, h.cell 3 _ rfl⟩, h.cell 4 _ rfl, h.cell 5 _ rfl, h.cell 6 _ rfl, h.cell 7 _ rfl, h.lt⟩
end
set_option maxHeartbeats 3200000 in
set_option maxRecDepth 100000 in
theorem hasApart_any (ls : List LoadD) (id : Int) (A2 : Option Addr) (n2 c2 : Nat) (s1 s3 : Value) (w : World) (hn : n2 = ls.length) (hl : n2 ≤ 400) (hr : Recs 5 cellsL w w.heap.size A2 ls) :
    Calls Tryd.prog 18 #[.agg #[s1, .slice A2 n2 c2, s3], .int .i64 id] w fun e w' => e = .returned (.bool (apartD id ls)) ∧ Below w.heap.size w w' := by
  have b00 : Below w.heap.size w (w.alloc (.cells #[s1, .slice A2 n2 c2, s3] 26)) := (Below.refl _ _).alloc (Nat.le_refl _) _
  have HF := Lib.hid (load_any ls id A2 n2 c2 s1 s3 (w.alloc (.cells #[s1, .slice A2 n2 c2, s3] 26)) hn (by omega) ((hr.below b00 (Nat.le_refl _)).more b00.size))
  clear hr hn
  go_enter Tryd.func18, Tryd.ntmps18
  go_wp2_with fail
  refine HF.out.mono ?_
  rintro e w1 ⟨hh, hb1⟩
  have kw1 : Below w.heap.size w w1 := b00.trans (hb1.mono b00.size)
  clear hb1 b00
  rcases hh with ⟨hp, rfl⟩ | ⟨i, hi, hp, rfl⟩
  · have HE := Lib.hid (apartD_no (k := 0) (Int.le_refl _) hp)
    clear hp
    go_wp2
    go_ret
    exact ⟨ret_bool HE.out.symm, kw1.alloc kw1.size _⟩
  · have HE := Lib.hid (apartD_yes (k := 0) hi (by rw [hp]; omega) (Int.le_refl _))
    generalize ls[i] = x at *
    clear hp
    go_wp2
    go_ret
    exact ⟨ret_bool HE.out.symm, kw1.alloc kw1.size _⟩

set_option maxHeartbeats 3200000 in
set_option maxRecDepth 100000 in
theorem apClash_any (ls : List LoadD) (a b : PodD) (A2 : Option Addr) (n2 c2 : Nat) (s1 s3 : Value) (w : World) (hn : n2 = ls.length) (hl : n2 ≤ 400) (hr : Recs 5 cellsL w w.heap.size A2 ls) :
    Calls Tryd.prog 13 #[.agg #[s1, .slice A2 n2 c2, s3], aggP a, aggP b] w fun e w' => e = .returned (.bool (clashD ls a b)) ∧ Below w.heap.size w w' := by
  have T0 := T3.new w [s1, .slice A2 n2 c2, s3] (cellsP a) (cellsP b) 26 42 42
  have k0 := T0.below
  have HF := Lib.hid (fun (V : World) (hV : Below w.heap.size w V) => hasApart_any ls a.load A2 n2 c2 s1 s3 V hn hl ((hr.below hV (Nat.le_refl _)).more hV.size))
  have HFF := Lib.hid (HF.out _ k0)
  have HK := Lib.hid k0
  clear hr hn T0 k0 HF
  by_cases h0 : a.node = 0
  · have HE := Lib.hid (show clashD ls a b = false by simp [clashD, h0])
    have hd : (a.node != 0) = false := by simp [h0]
    clear h0
    go_enter Tryd.func13, Tryd.ntmps13
    go_wp2
    go_ret
    exact ⟨ret_bool HE.out.symm, HK.out⟩
  have hd : (a.node != 0) = true := by simp [h0]
  by_cases h1 : a.node = b.node
  · have hd1 : (a.node == b.node) = true := by simp [h1]
    by_cases h2 : a.load = b.load
    · have hd2 : (a.load == b.load) = true := by simp [h2]
      have HE := Lib.hid (show clashD ls a b = apartD a.load ls by simp only [clashD, hd, hd1, hd2, Bool.true_and])
      clear h0 h1 h2
      go_enter Tryd.func13, Tryd.ntmps13
      go_wp2_with fail
      refine HFF.out.mono ?_
      rintro e w1 ⟨rfl, hb1⟩
      have k1 := HK.out.trans (hb1.mono HK.out.size)
      clear hb1
      go_wp2
      go_ret
      exact ⟨ret_bool HE.out.symm, k1⟩
    · have hd2 : (a.load == b.load) = false := by simp [h2]
      have HE := Lib.hid (show clashD ls a b = false by simp only [clashD, hd, hd1, hd2, Bool.true_and, Bool.false_and])
      clear h0 h1 h2
      go_enter Tryd.func13, Tryd.ntmps13
      go_wp2
      go_ret
      exact ⟨ret_bool HE.out.symm, HK.out⟩
  · have hd1 : (a.node == b.node) = false := by simp [h1]
    have HE := Lib.hid (show clashD ls a b = false by simp only [clashD, hd, hd1, Bool.true_and, Bool.false_and])
    clear h0 h1
    go_enter Tryd.func13, Tryd.ntmps13
    go_wp2
    go_ret
    exact ⟨ret_bool HE.out.symm, HK.out⟩

/-- The closure in Clash: is this the pod's Id? -/
theorem apIdClosure_any (x : PodD) (id : Int) (g : Nat) (w : World) (h0 : w.cell? ⟨g, 0, none⟩ = some (.int .i64 id)) :
    Calls Tryd.prog 15 #[aggP x, .pointer (some ⟨g, 0, none⟩)] w fun e w' => e = .returned (.bool (x.id == id)) ∧ Below w.heap.size w w' := by
  have hg : g < w.heap.size := World.block_lt_of_cell? w _ h0
  go_enter Tryd.func15, Tryd.ntmps15
  go_wp2
  go_ret
  exact ⟨rfl, (Below.refl _ _).alloc (Nat.le_refl _) _⟩

set_option maxHeartbeats 3200000 in
set_option maxRecDepth 100000 in
theorem apIndexId_any (l : List PodD) (id : Int) (g : Nat) (A : Option Addr) (n c : Nat) (w : World) (hn : n = l.length) (hl : n ≤ 1000) (hr : Recs 8 cellsP w w.heap.size A l) (h0 : w.cell? ⟨g, 0, none⟩ = some (.int .i64 id)) :
    Calls Tryd.prog 14 #[.slice A n c, .func (.func 15) #[] #[.pointer (some ⟨g, 0, none⟩)]] w fun e w' => e = .returned (.int .i64 (place PodD.id id l 0)) ∧ Below w.heap.size w w' := by
  have hg : g < w.heap.size := World.block_lt_of_cell? w _ h0
  have HR := Lib.hid hr
  have HN := Lib.hid hn
  have H0 := Lib.hid h0
  clear hr hn h0
  go_enter Tryd.func14, Tryd.ntmps14
  go_wp2
  go_loopw [8] (FRel PodD.id id l w w.heap.size) (fun i _ => n - (intOf i).toNat)
  case atStart => exact ⟨0, by omega, rfl, rfl, Below.refl _ _⟩
  case round =>
    obtain ⟨k, hk, rfl, hp, hbr⟩ := hrel
    have HP := Lib.hid hp
    have hzr := hbr.size
    clear hp
    by_cases hlt : k < n
    · have hkl : k < l.length := by have := HN.out; omega
      obtain ⟨b, o, rfl, hb, he⟩ := HR.out.at hkl
      generalize hx : l[k] = x at *
      have HX := Lib.hid hx
      clear hx
      have e0 : wr.cell? ⟨b, o + k * 8, none⟩ = some (.int .i64 x.id) := (hbr.cell (p := ⟨b, o + k * 8, none⟩) hb).trans (he 0 _ rfl)
      have e1 : wr.cell? ⟨b, o + k * 8 + 1, none⟩ = some (.int .i64 x.load) := (hbr.cell (p := ⟨b, o + k * 8 + 1, none⟩) hb).trans (he 1 _ rfl)
      have e2 : wr.cell? ⟨b, o + k * 8 + 2, none⟩ = some (.int .i64 x.prio) := (hbr.cell (p := ⟨b, o + k * 8 + 2, none⟩) hb).trans (he 2 _ rfl)
      have e3 : wr.cell? ⟨b, o + k * 8 + 3, none⟩ = some (.int .u64 x.req.a) := (hbr.cell (p := ⟨b, o + k * 8 + 3, none⟩) hb).trans (he 3 _ rfl)
      have e4 : wr.cell? ⟨b, o + k * 8 + 4, none⟩ = some (.int .u64 x.req.b) := (hbr.cell (p := ⟨b, o + k * 8 + 4, none⟩) hb).trans (he 4 _ rfl)
      have e5 : wr.cell? ⟨b, o + k * 8 + 5, none⟩ = some (.int .u64 x.req.c) := (hbr.cell (p := ⟨b, o + k * 8 + 5, none⟩) hb).trans (he 5 _ rfl)
      have e6 : wr.cell? ⟨b, o + k * 8 + 6, none⟩ = some (.int .u64 x.req.d) := (hbr.cell (p := ⟨b, o + k * 8 + 6, none⟩) hb).trans (he 6 _ rfl)
      have e7 : wr.cell? ⟨b, o + k * 8 + 7, none⟩ = some (.int .i64 x.node) := (hbr.cell (p := ⟨b, o + k * 8 + 7, none⟩) hb).trans (he 7 _ rfl)
      have hbw : b < wr.heap.size := by omega
      have hgc : wr.cell? ⟨g, 0, none⟩ = some (.int .i64 id) := (hbr.cell (p := ⟨g, 0, none⟩) hg).trans H0.out
      clear he
      go_wp2_with fail
      go_at_call 15
      refine (apIdClosure_any x id g _ hgc).mono ?_
      rintro e w1 ⟨rfl, hb1⟩
      have k1 : Below w.heap.size w w1 := hbr.trans (hb1.mono hzr)
      by_cases hid : x.id = id
      · have HE := Lib.hid (place_found hkl (by rw [HX.out]; exact hid) HP.out)
        have hd : (x.id == id) = true := by simp [hid]
        clear hid
        go_wp2
        go_ret
        exact ⟨ret_int HE.out.symm, k1⟩
      · have HE := Lib.hid (place_step hkl (by rw [HX.out]; exact hid) HP.out)
        have hd : (x.id == id) = false := by simp [hid]
        clear hid
        go_wp2
        go_roundw
        case rel => exact ⟨k + 1, by omega, by go_num, HE.out, k1⟩
        case measure => simp [intOf]; omega
    · have HE := Lib.hid (place_end (by have := HN.out; omega) HP.out)
      go_wp2
      go_ret
      exact ⟨ret_int HE.out.symm, hbr⟩

/-- The closure in Check: does this one clash with the pod that was captured? -/
theorem apTwoClosure_any (ls : List LoadD) (p q : PodD) (gs gp : Nat) (A2 : Option Addr) (n2 c2 : Nat) (s1 s3 : Value) (w : World) (hs : Bf w gs [s1, .slice A2 n2 c2, s3]) (hp : Bf w gp (cellsP p)) (hn : n2 = ls.length) (hl : n2 ≤ 400) (hr : Recs 5 cellsL w w.heap.size A2 ls) :
    Calls Tryd.prog 12 #[aggP q, .pointer (some ⟨gs, 0, none⟩), .pointer (some ⟨gp, 0, none⟩)] w fun e w' => e = .returned (.bool (clashD ls p q)) ∧ Below w.heap.size w w' := by
  obtain ⟨a0, a1, a2, a3⟩ := hs.cells3
  obtain ⟨⟨b0, b1, b2, b3⟩, b4, b5, b6, b7, b8⟩ := hp.cells8
  have b00 : Below w.heap.size w (w.alloc (.cells #[.int .i64 q.id, .int .i64 q.load, .int .i64 q.prio, .int .u64 q.req.a, .int .u64 q.req.b, .int .u64 q.req.c, .int .u64 q.req.d, .int .i64 q.node] 42)) := (Below.refl _ _).alloc (Nat.le_refl _) _
  have HF := Lib.hid (apClash_any ls p q A2 n2 c2 s1 s3 (w.alloc (.cells #[.int .i64 q.id, .int .i64 q.load, .int .i64 q.prio, .int .u64 q.req.a, .int .u64 q.req.b, .int .u64 q.req.c, .int .u64 q.req.d, .int .i64 q.node] 42)) hn hl ((hr.below b00 (Nat.le_refl _)).more b00.size))
  clear hr hn hs hp
  go_enter Tryd.func12, Tryd.ntmps12
  go_wp2_with fail
  refine HF.out.mono ?_
  rintro e w1 ⟨rfl, hb1⟩
  go_wp2
  go_ret
  exact ⟨rfl, b00.trans (hb1.mono b00.size)⟩

def IdxRel (f : PodD → Bool) (l : List PodD) (W : World) (i : Value) (wr : World) : Prop := ∃ k : Nat, k ≤ l.length ∧ i = .int .i64 k ∧ idxF f (l.drop k) k = idxF f l 0 ∧ Below W.heap.size W wr
set_option maxHeartbeats 3200000 in
set_option maxRecDepth 100000 in
theorem apIndexTwo_any (ls : List LoadD) (p : PodD) (l : List PodD) (gs gp : Nat) (A2 : Option Addr) (n2 c2 : Nat) (s1 s3 : Value) (A : Option Addr) (n c : Nat) (w : World) (hs : Bf w gs [s1, .slice A2 n2 c2, s3]) (hp : Bf w gp (cellsP p)) (hn2 : n2 = ls.length) (hl2 : n2 ≤ 400) (hr2 : Recs 5 cellsL w w.heap.size A2 ls) (hn : n = l.length) (hl : n ≤ 1000) (hr : Recs 8 cellsP w w.heap.size A l) :
    Calls Tryd.prog 14 #[.slice A n c, .func (.func 12) #[] #[.pointer (some ⟨gs, 0, none⟩), .pointer (some ⟨gp, 0, none⟩)]] w fun e w' => e = .returned (.int .i64 (idxF (clashD ls p) l 0)) ∧ Below w.heap.size w w' := by
  have HR := Lib.hid hr
  have HN := Lib.hid hn
  have HC := Lib.hid (fun (V : World) (hV : Below w.heap.size w V) (q : PodD) => apTwoClosure_any ls p q gs gp A2 n2 c2 s1 s3 V (hs.below hV hs.lt) (hp.below hV hp.lt) hn2 hl2 ((hr2.below hV (Nat.le_refl _)).more hV.size))
  clear hr hn hs hp hn2 hr2
  go_enter Tryd.func14, Tryd.ntmps14
  go_wp2
  go_loopw [8] (IdxRel (clashD ls p) l w) (fun i _ => n - (intOf i).toNat)
  case atStart => exact ⟨0, by omega, rfl, rfl, Below.refl _ _⟩
  case round =>
    obtain ⟨k, hk, rfl, hp, hbr⟩ := hrel
    have HP := Lib.hid hp
    have hzr := hbr.size
    clear hp
    by_cases hlt : k < n
    · have hkl : k < l.length := by have := HN.out; omega
      obtain ⟨b, o, rfl, hb, he⟩ := HR.out.at hkl
      generalize hx : l[k] = x at *
      have HX := Lib.hid (idxF_at hkl hx HP.out)
      clear hx
      have e0 : wr.cell? ⟨b, o + k * 8, none⟩ = some (.int .i64 x.id) := (hbr.cell (p := ⟨b, o + k * 8, none⟩) hb).trans (he 0 _ rfl)
      have e1 : wr.cell? ⟨b, o + k * 8 + 1, none⟩ = some (.int .i64 x.load) := (hbr.cell (p := ⟨b, o + k * 8 + 1, none⟩) hb).trans (he 1 _ rfl)
      have e2 : wr.cell? ⟨b, o + k * 8 + 2, none⟩ = some (.int .i64 x.prio) := (hbr.cell (p := ⟨b, o + k * 8 + 2, none⟩) hb).trans (he 2 _ rfl)
      have e3 : wr.cell? ⟨b, o + k * 8 + 3, none⟩ = some (.int .u64 x.req.a) := (hbr.cell (p := ⟨b, o + k * 8 + 3, none⟩) hb).trans (he 3 _ rfl)
      have e4 : wr.cell? ⟨b, o + k * 8 + 4, none⟩ = some (.int .u64 x.req.b) := (hbr.cell (p := ⟨b, o + k * 8 + 4, none⟩) hb).trans (he 4 _ rfl)
      have e5 : wr.cell? ⟨b, o + k * 8 + 5, none⟩ = some (.int .u64 x.req.c) := (hbr.cell (p := ⟨b, o + k * 8 + 5, none⟩) hb).trans (he 5 _ rfl)
      have e6 : wr.cell? ⟨b, o + k * 8 + 6, none⟩ = some (.int .u64 x.req.d) := (hbr.cell (p := ⟨b, o + k * 8 + 6, none⟩) hb).trans (he 6 _ rfl)
      have e7 : wr.cell? ⟨b, o + k * 8 + 7, none⟩ = some (.int .i64 x.node) := (hbr.cell (p := ⟨b, o + k * 8 + 7, none⟩) hb).trans (he 7 _ rfl)
      have hbw : b < wr.heap.size := by omega
      have HCR := Lib.hid (HC.out wr hbr x)
      clear he
      go_wp2_with fail
      go_at_call 12
      refine HCR.out.mono ?_
      rintro e w1 ⟨rfl, hb1⟩
      have k1 : Below w.heap.size w w1 := hbr.trans (hb1.mono hzr)
      cases hd : clashD ls p x with
      | true =>
        have HE := Lib.hid (HX.out.1 hd)
        clear hd
        go_wp2
        go_ret
        exact ⟨ret_int HE.out.symm, k1⟩
      | false =>
        have HE := Lib.hid (HX.out.2 hd)
        clear hd
        go_wp2
        go_roundw
        case rel => exact ⟨k + 1, by omega, by go_num, HE.out, k1⟩
        case measure => simp [intOf]; omega
    · have HE := Lib.hid (idxF_end (by have := HN.out; omega) HP.out)
      go_wp2
      go_ret
      exact ⟨ret_int HE.out.symm, hbr⟩

set_option maxHeartbeats 1600000 in
theorem apContains_any (ls : List LoadD) (p : PodD) (l : List PodD) (gs gp : Nat) (A2 : Option Addr) (n2 c2 : Nat) (s1 s3 : Value) (A : Option Addr) (n c : Nat) (w : World) (hs : Bf w gs [s1, .slice A2 n2 c2, s3]) (hp : Bf w gp (cellsP p)) (hn2 : n2 = ls.length) (hl2 : n2 ≤ 400) (hr2 : Recs 5 cellsL w w.heap.size A2 ls) (hn : n = l.length) (hl : n ≤ 1000) (hr : Recs 8 cellsP w w.heap.size A l) :
    Calls Tryd.prog 11 #[.slice A n c, .func (.func 12) #[] #[.pointer (some ⟨gs, 0, none⟩), .pointer (some ⟨gp, 0, none⟩)]] w fun e w' => e = .returned (.bool (l.any (clashD ls p))) ∧ Below w.heap.size w w' := by
  have HF := Lib.hid (apIndexTwo_any ls p l gs gp A2 n2 c2 s1 s3 A n c w hs hp hn2 hl2 hr2 hn hl hr)
  have HE := Lib.hid (idxF_any (f := clashD ls p) l 0 (Int.le_refl _))
  clear hs hp hn2 hl2 hr2 hn hl hr
  go_enter Tryd.func11, Tryd.ntmps11
  go_wp2_with fail
  refine HF.out.mono ?_
  rintro e w1 ⟨rfl, hb1⟩
  go_wp2
  go_ret
  exact ⟨ret_bool HE.out, hb1⟩
end Go.Proofs.YtoiblfaalfpbpaaDoor

/- Plain mathematics of layer 4: what numbers are read as, and that what was written is read as it was, and what is read is written as it was; no program stands in it. -/
namespace Go.Proofs.YtoiblfaalfpbpaaDoor
set_option linter.unusedSimpArgs false

theorem fine_flat {α : Type} (K : Kind α) : ∀ (xs : List α) (rest : List Int), (∀ x ∈ xs, K.ok (K.nums x) = true) → fine K xs.length (xs.flatMap K.nums ++ rest) = true
  | [], _, _ => rfl
  | x :: r, rest, h => by
    have e : (x :: r).flatMap K.nums ++ rest = K.nums x ++ (r.flatMap K.nums ++ rest) := by simp
    show fine K (r.length + 1) _ = _
    rw [e, fine, List.take_left' (K.len x), List.drop_left' (K.len x), h x (by simp), fine_flat K r rest fun y hy => h y (by simp [hy])]
    rfl
theorem firstBad_each {α : Type} {bad : Int → α → Int} {f : α → Int} : ∀ {l : List α} {last : Int} {k : Nat}, firstBad bad f last k l = none → ∀ x ∈ l, ∃ la, bad la x = 0
  | [], _, _, _, x, hx => by simp at hx
  | y :: r, last, k, h, x, hx => by
    simp only [firstBad] at h
    split at h
    · cases h
    · rename_i h0
      rcases List.mem_cons.1 hx with rfl | hx
      · exact ⟨last, by simpa using h0⟩
      · exact firstBad_each h x hx
theorem small_of {n : Int} (h : n ≤ 2147483647) : smallN n = true := by simp [smallN, h]
theorem node_ok {la : Int} {x : NodeD} (h : nodeBad la x = 0) : 1 ≤ x.id ∧ x.id ≤ 2147483647 ∧ 1 ≤ x.zone ∧ x.zone ≤ 8 := by
  unfold nodeBad at h
  split at h
  · cases h
  · rename_i h1
    have h2 := idBad_ok h
    refine ⟨h2.1, h2.2.1, ?_, ?_⟩
    · by_cases e : x.zone < 1
      · exact absurd ⟨h, .inl e⟩ h1
      · omega
    · by_cases e : 8 < x.zone
      · exact absurd ⟨h, .inr (.inl e)⟩ h1
      · omega
theorem count_of {n : Int} (h : countOk n = true) : 0 ≤ n ∧ n ≤ 100 := by simpa [countOk] using h
theorem load_ok {la : Int} {x : LoadD} (h : loadBad la x = 0) : 1 ≤ x.id ∧ x.id ≤ 2147483647 ∧ (0 ≤ x.skew ∧ x.skew ≤ 100) ∧ (0 ≤ x.min ∧ x.min ≤ 100) ∧ (0 ≤ x.max ∧ x.max ≤ 100) := by
  unfold loadBad at h
  split at h
  · cases h
  · rename_i h1
    have h2 := idBad_ok h
    refine ⟨h2.1, h2.2.1, count_of ?_, count_of ?_, count_of ?_⟩
    · cases e : countOk x.skew
      · exact absurd ⟨h, .inl e⟩ h1
      · rfl
    · cases e : countOk x.min
      · exact absurd ⟨h, .inr (.inl e)⟩ h1
      · rfl
    · cases e : countOk x.max
      · exact absurd ⟨h, .inr (.inr (.inl e))⟩ h1
      · rfl
theorem pod_ok {nodes : List NodeD} {loads : List LoadD} {la : Int} {x : PodD} (h : podBad nodes loads la x = 0) : 1 ≤ x.id ∧ x.id ≤ 2147483647 ∧ (0 ≤ x.prio ∧ x.prio ≤ 100) ∧ (∃ l ∈ loads, l.id = x.load) ∧ (x.node = 0 ∨ ∃ n ∈ nodes, n.id = x.node) := by
  unfold podBad at h
  split at h
  · rename_i h1; exact absurd h h1
  · rename_i h1
    have h2 := idBad_ok (by simpa using h1)
    split at h
    · cases h
    · rename_i h3
      split at h
      · cases h
      · rename_i h4
        refine ⟨h2.1, h2.2.1, count_of (by simpa using h3), ?_, ?_⟩
        · have : ¬ place LoadD.id x.load loads 0 < 0 := fun e => h4 (.inl e)
          rw [place_neg (by omega)] at this
          simpa using this
        · by_cases e : x.node = 0
          · exact .inl e
          · have : ¬ place NodeD.id x.node nodes 0 < 0 := fun q => h4 (.inr ⟨e, q⟩)
            rw [place_neg (by omega)] at this
            exact .inr (by simpa using this)
theorem nums_fine {s : SnapD} (h : (check s).1 = 0) : snapFine s.nodes.length s.loads.length s.pods.length ((snapNums s).drop 3) = true := by
  obtain ⟨_, h1, h2, h3⟩ := check_ok.1 h
  have n1 := firstBad_each h1
  have n2 := firstBad_each h2
  have n3 := firstBad_each h3
  obtain ⟨n, l, p⟩ := s
  simp only at n1 n2 n3
  have e : (snapNums ⟨n, l, p⟩).drop 3 = n.flatMap nodeK.nums ++ (l.flatMap loadK.nums ++ p.flatMap podK.nums) := rfl
  have g1 : (n.flatMap nodeK.nums).length = n.length * 10 := flat_length nodeK n
  have g2 : (l.flatMap loadK.nums).length = l.length * 5 := flat_length loadK l
  have f1 : ∀ x ∈ n, nodeK.ok (nodeK.nums x) = true := fun x hx => by
    obtain ⟨la, hb⟩ := n1 x hx
    have := node_ok hb
    simp [nodeK, smallN]; omega
  have f2 : ∀ x ∈ l, loadK.ok (loadK.nums x) = true := fun x hx => by
    obtain ⟨la, hb⟩ := n2 x hx
    have := load_ok hb
    have ht : bitN (truthN x.apart) = true := by cases x.apart <;> rfl
    simp [loadK, smallN, ht]; omega
  have f3 : ∀ x ∈ p, podK.ok (podK.nums x) = true := fun x hx => by
    obtain ⟨la, hb⟩ := n3 x hx
    obtain ⟨a1, a2, a3, ⟨y, hy, ey⟩, a5⟩ := pod_ok hb
    obtain ⟨lb, hlb⟩ := n2 y hy
    have := load_ok hlb
    have hn : x.node ≤ 2147483647 := by
      rcases a5 with a5 | ⟨z, hz, ez⟩
      · omega
      · obtain ⟨lc, hlc⟩ := n1 z hz
        have := node_ok hlc
        omega
    simp [podK, smallN]; omega
  rw [e]
  simp only [snapFine]
  have q1 := fine_flat nodeK n (l.flatMap loadK.nums ++ p.flatMap podK.nums) f1
  have q2 := fine_flat loadK l (p.flatMap podK.nums) f2
  have q3 := fine_flat podK p [] f3
  rw [List.append_nil] at q3
  rw [q1, List.drop_left' g1, q2, ← List.drop_drop, List.drop_left' g1, List.drop_left' g2, q3]
  rfl

abbrev noSnap : SnapD := ⟨[], [], []⟩
/-- What numbers are read as: a snapshot, or an error's number and its place (-1: itself). -/
def rdSnap (l : List Int) : SnapD × Int × Int :=
  if l.length < 3 then (noSnap, 2, -1)
  else if 8 < l.getD 0 0 ∨ 8 < l.getD 1 0 ∨ 12 < l.getD 2 0 then (noSnap, 3, -1)
  else if l.length ≠ 3 + 10 * (l.getD 0 0).toNat + 5 * (l.getD 1 0).toNat + 8 * (l.getD 2 0).toNat then (noSnap, 2, -1)
  else if snapFine (l.getD 0 0).toNat (l.getD 1 0).toNat (l.getD 2 0).toNat (l.drop 3) = false then (noSnap, 2, -1)
  else if (check (snapOf (l.getD 0 0).toNat (l.getD 1 0).toNat (l.getD 2 0).toNat (l.drop 3))).1 ≠ 0 then (noSnap, check (snapOf (l.getD 0 0).toNat (l.getD 1 0).toNat (l.getD 2 0).toNat (l.drop 3)))
  else (snapOf (l.getD 0 0).toNat (l.getD 1 0).toNat (l.getD 2 0).toNat (l.drop 3), 0, -1)
theorem snapNums_length (s : SnapD) : (snapNums s).length = 3 + 10 * s.nodes.length + 5 * s.loads.length + 8 * s.pods.length := by
  have g1 : (s.nodes.flatMap nodeK.nums).length = s.nodes.length * 10 := flat_length nodeK _
  have g2 : (s.loads.flatMap loadK.nums).length = s.loads.length * 5 := flat_length loadK _
  have g3 : (s.pods.flatMap podK.nums).length = s.pods.length * 8 := flat_length podK _
  simp only [snapNums, List.length_append, g1, g2, g3, List.length_cons, List.length_nil]
  omega
/-- What was written is read as it was. -/
theorem rd_back {s : SnapD} (h : (check s).1 = 0) : rdSnap (snapNums s) = (s, 0, -1) := by
  have hl := snapNums_length s
  have hb := snap_back s
  have hf := nums_fine h
  have hg := (check_ok.1 h).1
  have e0 : (snapNums s).getD 0 0 = (s.nodes.length : Int) := rfl
  have e1 : (snapNums s).getD 1 0 = (s.loads.length : Int) := rfl
  have e2 : (snapNums s).getD 2 0 = (s.pods.length : Int) := rfl
  have hg' : ¬ (s.nodes.length = 0 ∨ 8 < s.nodes.length ∨ 8 < s.loads.length ∨ 12 < s.pods.length) := by simpa only [large, decide_eq_false_iff_not] using hg
  unfold rdSnap
  rw [e0, e1, e2]
  simp only [Int.toNat_natCast]
  rw [hb, hf, if_neg (by omega), if_neg (by omega), if_neg (by omega), if_neg (by decide), if_neg (by simpa using h)]
/-- What is read is written as it was. -/
theorem rd_once {l : List Int} (hp : ∀ x ∈ l, 0 ≤ x) {s : SnapD} (h : rdSnap l = (s, 0, -1)) : snapNums s = l ∧ (check s).1 = 0 := by
  unfold rdSnap at h
  split at h
  · simp at h
  · rename_i h1
    split at h
    · simp at h
    · rename_i h2
      split at h
      · simp at h
      · rename_i h3
        split at h
        · simp at h
        · rename_i h4
          split at h
          · rename_i h5
            have : (check (snapOf (l.getD 0 0).toNat (l.getD 1 0).toNat (l.getD 2 0).toNat (l.drop 3))).1 = 0 := by
              have := congrArg (fun q => q.2.1) h
              exact this
            exact absurd this h5
          · rename_i h5
            have hs : snapOf (l.getD 0 0).toNat (l.getD 1 0).toNat (l.getD 2 0).toNat (l.drop 3) = s := congrArg (fun q => q.1) h
            match l, h1, hp, h3, h4, h5, hs with
            | a :: b :: c :: r, _, hp, h3, h4, h5, hs =>
              have pa := hp a (by simp)
              have pb := hp b (by simp)
              have pc := hp c (by simp)
              simp only [List.getD_cons_zero, List.getD_cons_succ, List.drop_succ_cons, List.drop_zero, List.length_cons, ne_eq, Decidable.not_not, Bool.not_eq_false] at h3 h4 h5 hs
              rw [← hs]
              refine ⟨?_, h5⟩
              rw [snap_once (by omega) h4, Int.toNat_of_nonneg pa, Int.toNat_of_nonneg pb, Int.toNat_of_nonneg pc]
              rfl
            | [], h1, _, _, _, _, _ => simp at h1
            | [_], h1, _, _, _, _, _ => simp at h1
            | [_, _], h1, _, _, _, _, _ => simp at h1
end Go.Proofs.YtoiblfaalfpbpaaDoor

namespace Go.Proofs.YtoiblfaalfpbpaaDoor
set_option linter.unusedSimpArgs false

def inId (n : Int) : Bool := decide (0 ≤ n ∧ n ≤ 2147483647)
theorem inId_iff {n : Int} : inId n = true ↔ 0 ≤ n ∧ n ≤ 2147483647 := by simp [inId]
/-- May a spec be written? May moves? -/
def specOk (x : SpecD) : Bool := decide (x.wants.length ≤ 12) && (inId x.preempts && (inId x.shifts && x.wants.all fun y => inId y.pod))
def moveOk (m : MoveD) : Bool := inId m.kind && (inId m.pod && (inId m.node && inId m.over))
def movesOk (m : List MoveD) : Bool := decide (m.length ≤ 40) && m.all moveOk

abbrev noSpec : SpecD := ⟨[], 0, 0⟩
def rdSpec (l : List Int) : SpecD × Int × Int :=
  if l.length < 3 then (noSpec, 2, -1)
  else if 12 < l.getD 0 0 then (noSpec, 3, -1)
  else if l.length ≠ 3 + 6 * (l.getD 0 0).toNat then (noSpec, 2, -1)
  else if (smallN (l.getD 1 0) && (smallN (l.getD 2 0) && fine wantK (l.getD 0 0).toNat (l.drop 3))) = false then (noSpec, 2, -1)
  else (⟨parse wantK (l.getD 0 0).toNat (l.drop 3), l.getD 1 0, l.getD 2 0⟩, 0, -1)
def rdMoves (l : List Int) : List MoveD × Int × Int :=
  if l.length < 1 then ([], 2, -1)
  else if 40 < l.getD 0 0 then ([], 3, -1)
  else if l.length ≠ 1 + 4 * (l.getD 0 0).toNat then ([], 2, -1)
  else if fine moveK (l.getD 0 0).toNat (l.drop 1) = false then ([], 2, -1)
  else (parse moveK (l.getD 0 0).toNat (l.drop 1), 0, -1)
theorem rd_spec_back {x : SpecD} (h : specOk x = true) : rdSpec (specNums x) = (x, 0, -1) := by
  simp only [specOk, Bool.and_eq_true, decide_eq_true_eq, inId_iff, List.all_eq_true] at h
  obtain ⟨h1, h2, h3, h4⟩ := h
  have g1 : (x.wants.flatMap wantK.nums).length = x.wants.length * 6 := flat_length wantK _
  have hl : (specNums x).length = 3 + 6 * x.wants.length := by
    simp only [specNums, List.length_append, g1, List.length_cons, List.length_nil]; omega
  have hf : fine wantK x.wants.length ((specNums x).drop 3) = true := by
    have := fine_flat wantK x.wants [] fun y hy => by
      have := h4 y hy
      have ht : bitN (truthN y.stay) = true := by cases y.stay <;> rfl
      simp [wantK, smallN, ht]; omega
    rw [List.append_nil] at this
    exact this
  have hb := spec_back x
  have e0 : (specNums x).getD 0 0 = (x.wants.length : Int) := rfl
  have e1 : (specNums x).getD 1 0 = x.preempts := rfl
  have e2 : (specNums x).getD 2 0 = x.shifts := rfl
  unfold rdSpec
  rw [e0, e1, e2]
  simp only [Int.toNat_natCast]
  rw [hb, hf, small_of h2.2, small_of h3.2, if_neg (by omega), if_neg (by omega), if_neg (by omega), if_neg (by decide)]
theorem rd_spec_once {l : List Int} (hp : ∀ x ∈ l, 0 ≤ x) {x : SpecD} (h : rdSpec l = (x, 0, -1)) : specNums x = l ∧ specOk x = true := by
  unfold rdSpec at h
  split at h
  · simp at h
  · rename_i h1
    split at h
    · simp at h
    · rename_i h2
      split at h
      · simp at h
      · rename_i h3
        split at h
        · simp at h
        · rename_i h4
          have hs : (⟨parse wantK (l.getD 0 0).toNat (l.drop 3), l.getD 1 0, l.getD 2 0⟩ : SpecD) = x := congrArg (fun q => q.1) h
          match l, h1, hp, h2, h3, h4, hs with
          | a :: b :: c :: r, _, hp, h2, h3, h4, hs =>
            have pa := hp a (by simp)
            have pb := hp b (by simp)
            have pc := hp c (by simp)
            simp only [List.getD_cons_zero, List.getD_cons_succ, List.drop_succ_cons, List.drop_zero, List.length_cons, ne_eq, Decidable.not_not, Bool.not_eq_false, Bool.and_eq_true] at h2 h3 h4 hs
            obtain ⟨s1, s2, s3⟩ := h4
            rw [← hs]
            refine ⟨?_, ?_⟩
            · rw [spec_once (by omega) s3, Int.toNat_of_nonneg pa]; rfl
            · have q1 : b ≤ 2147483647 := by simpa [smallN] using s1
              have q2 : c ≤ 2147483647 := by simpa [smallN] using s2
              simp only [specOk, Bool.and_eq_true, decide_eq_true_eq, inId_iff, List.all_eq_true, parse_length]
              refine ⟨by omega, ⟨pb, q1⟩, ⟨pc, q2⟩, fun y hy => ?_⟩
              obtain ⟨i, hi, rfl⟩ := List.mem_iff_getElem.1 hy
              have hi' : i < a.toNat := by rw [parse_length] at hi; exact hi
              have hfi := (fine_iff wantK _ _).1 s3 i hi'
              rw [parse_get wantK _ _ i hi']
              have s6 : wantK.size = 6 := rfl
              have hlen : ((r.drop (i * wantK.size)).take wantK.size).length = 6 := by rw [s6]; simp only [List.length_take, List.length_drop]; omega
              have hall : ∀ z ∈ (r.drop (i * wantK.size)).take wantK.size, 0 ≤ z := fun z hz => hp z (by
                have := List.mem_of_mem_drop (List.mem_of_mem_take hz)
                simp [this])
              obtain ⟨z0, z1, z2, z3, z4, z5, ez⟩ := take_6 hlen
              rw [ez] at hfi hall ⊢
              have k0 := hall z0 (by simp)
              simp [wantK, smallN] at hfi ⊢
              omega
          | [], h1, _, _, _, _, _ => simp at h1
          | [_], h1, _, _, _, _, _ => simp at h1
          | [_, _], h1, _, _, _, _, _ => simp at h1
theorem rd_move_back {m : List MoveD} (h : movesOk m = true) : rdMoves (moveNums m) = (m, 0, -1) := by
  simp only [movesOk, moveOk, Bool.and_eq_true, decide_eq_true_eq, inId_iff, List.all_eq_true] at h
  obtain ⟨h1, h4⟩ := h
  have g1 : (m.flatMap moveK.nums).length = m.length * 4 := flat_length moveK _
  have hl : (moveNums m).length = 1 + 4 * m.length := by simp only [moveNums, List.length_cons, g1]; omega
  have hf : fine moveK m.length ((moveNums m).drop 1) = true := by
    have := fine_flat moveK m [] fun y hy => by
      have := h4 y hy
      simp [moveK, smallN]; omega
    rw [List.append_nil] at this
    exact this
  have hb := move_back m
  have e0 : (moveNums m).getD 0 0 = (m.length : Int) := rfl
  unfold rdMoves
  rw [e0]
  simp only [Int.toNat_natCast]
  rw [hb, hf, if_neg (by omega), if_neg (by omega), if_neg (by omega), if_neg (by decide)]
theorem rd_move_once {l : List Int} (hp : ∀ x ∈ l, 0 ≤ x) {m : List MoveD} (h : rdMoves l = (m, 0, -1)) : moveNums m = l ∧ movesOk m = true := by
  unfold rdMoves at h
  split at h
  · simp at h
  · rename_i h1
    split at h
    · simp at h
    · rename_i h2
      split at h
      · simp at h
      · rename_i h3
        split at h
        · simp at h
        · rename_i h4
          have hs : parse moveK (l.getD 0 0).toNat (l.drop 1) = m := congrArg (fun q => q.1) h
          match l, h1, hp, h2, h3, h4, hs with
          | a :: r, _, hp, h2, h3, h4, hs =>
            have pa := hp a (by simp)
            simp only [List.getD_cons_zero, List.drop_succ_cons, List.drop_zero, List.length_cons, ne_eq, Decidable.not_not, Bool.not_eq_false] at h2 h3 h4 hs
            rw [← hs]
            refine ⟨?_, ?_⟩
            · rw [move_once (by omega) h4, Int.toNat_of_nonneg pa]
            · simp only [movesOk, moveOk, Bool.and_eq_true, decide_eq_true_eq, inId_iff, List.all_eq_true, parse_length]
              refine ⟨by omega, fun y hy => ?_⟩
              obtain ⟨i, hi, rfl⟩ := List.mem_iff_getElem.1 hy
              have hi' : i < a.toNat := by rw [parse_length] at hi; exact hi
              have hfi := (fine_iff moveK _ _).1 h4 i hi'
              rw [parse_get moveK _ _ i hi']
              have s4 : moveK.size = 4 := rfl
              have hlen : ((r.drop (i * moveK.size)).take moveK.size).length = 4 := by rw [s4]; simp only [List.length_take, List.length_drop]; omega
              have hall : ∀ z ∈ (r.drop (i * moveK.size)).take moveK.size, 0 ≤ z := fun z hz => hp z (by
                have := List.mem_of_mem_drop (List.mem_of_mem_take hz)
                simp [this])
              obtain ⟨z0, z1, z2, z3, ez⟩ := take_4 hlen
              rw [ez] at hfi hall ⊢
              have k0 := hall z0 (by simp)
              have k1 := hall z1 (by simp)
              have k2 := hall z2 (by simp)
              have k3 := hall z3 (by simp)
              simp [moveK, smallN] at hfi ⊢
              omega
          | [], h1, _, _, _, _, _ => simp at h1
end Go.Proofs.YtoiblfaalfpbpaaDoor
