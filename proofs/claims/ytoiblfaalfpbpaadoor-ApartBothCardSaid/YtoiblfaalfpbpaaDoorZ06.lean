/- Joined texts, part 6: HA WU UJ WR EC WS WB WC BC BD UK CH. -/
import Derived.Test.YtoiblfaalfpbpaaDoorZ04
import Derived.Test.YtoiblfaalfpbpaaDoorZ05
import Derived.Test.YtoiblfaalfpbpaaDoorZ01
import Derived.Deep.AppendLies
import Derived.Deep.RegionHeld3
import Derived.Test.YtoiblfaalfpbpaaDoorZ02
import Derived.Deep.CutRange
import Derived.Test.YtoiblfaalfpbpaaDoorZ03

/- Words for the reference's codec: an append that leaves all other blocks, a box that stays, a row that a literal makes. -/
namespace Go.Proofs.YtoiblfaalfpbpaaDoor
set_option linter.unusedSimpArgs false
open Go.RowKit
set_option linter.unusedVariables false

/-- A box that holds these cells. -/
def Bx (w : World) (b : Nat) (cs : List Value) : Prop := b < w.heap.size ∧ ∀ j (h : j < cs.length), w.cell? ⟨b, j, none⟩ = some cs[j]
theorem Bx.at {w : World} {b : Nat} {cs : List Value} (h : Bx w b cs) (j : Nat) (v : Value) (hv : cs[j]? = some v) : w.cell? ⟨b, j, none⟩ = some v := by
  obtain ⟨hj, rfl⟩ := List.getElem?_eq_some_iff.1 hv
  exact h.2 j hj
theorem Bx.below {w w' : World} {b B : Nat} {cs : List Value} (h : Bx w b cs) (hb : Below B w w') (hB : b < B) : Bx w' b cs :=
  ⟨Nat.lt_of_lt_of_le h.1 hb.size, fun j hj => (hb.cell (p := ⟨b, j, none⟩) hB).trans (h.2 j hj)⟩
theorem Bx.grown {w w' : World} {b : Nat} {row : Option Nat} {cs : List Value} (h : Bx w b cs) (hg : w.grownBy w' row) (hr : some b ≠ row) : Bx w' b cs :=
  ⟨Nat.lt_of_lt_of_le h.1 hg.size, fun j hj => hg.cell (h.2 j hj) hr⟩
theorem Bx.alloc {w : World} {b : Nat} {cs : List Value} (h : Bx w b cs) (o : Obj) : Bx (w.alloc o) b cs :=
  ⟨by have := h.1; simp; omega, fun j hj => by rw [World.cell?_alloc_lt _ _ _ h.1]; exact h.2 j hj⟩
theorem Bx.new (w : World) (cs : List Value) (t : TypeId) : Bx (w.alloc (.cells cs.toArray t)) w.heap.size cs :=
  ⟨by simp, fun j hj => by simp [List.getElem?_eq_getElem hj]⟩
/-- A row that a literal makes. -/
theorem own_lit (w : World) (B n : Nat) (e : TypeId) (cs : List Value) (hB : B ≤ w.heap.size) (hn : n = cs.length) (hl : n ≤ 1000) : (w.alloc (.cells cs.toArray e)).ownsRow B e 1 (.slice (some ⟨w.heap.size, 0, none⟩) n n) n cs := by
  subst hn
  refine ⟨by omega, .inr ⟨w.heap.size, cs.length, cs.toArray, rfl, hB, heap_alloc_new w _, Nat.le_refl _, by unfold maxLen; omega, by simp, by simp⟩⟩
theorem row_new (w : World) (cs : List Value) (e : TypeId) : Row (w.alloc (.cells cs.toArray e)) (w.heap.size + 1) (some ⟨w.heap.size, 0, none⟩) cs :=
  .inr ⟨w.heap.size, 0, rfl, by omega, fun j hj => by simp [List.getElem?_eq_getElem hj]⟩
theorem lit_cells (w : World) (cs : List Value) (e : TypeId) : ∀ j u, cs[j]? = some u → (w.alloc (.cells cs.toArray e)).cell? ⟨w.heap.size, j, none⟩ = some u := fun j u h => by
  have := cell_of_row (w.alloc (.cells cs.toArray e)) w.heap.size j cs.toArray e (0, 0) (heap_alloc_new w _)
  rw [this]
  simpa using h
section
variable {ops : Array Oper} {rest : List Oper} {o : Oper} {a : Act} {Q : Exit → Act → World → Prop} {wr : World}
/-- append of a literal's elements to a row of the call's own; nothing but that row has turned. -/
theorem wpList_lit (t e : TypeId) (z : Value) (bytes : Nat) (ht : Tryd.prog.underlying t = some (.slice e)) (hinfo : (Tryd.prog.info? e).map (fun i => (i.zero, i.size, i.bytes)) = some (some z, 1, bytes)) (hz : z.cells.size = 1) (hby : bytes ≤ 8)
    (hgd : o.guard = none) (s x : Operand) (ho : o.op = .call { callee := .builtin .append, args := #[s, x], argTypes := #[t, t] })
    {m : Nat} (B : Nat) (v : Value) (xs ys : List Value) (hu : ∀ u ∈ ys, u.oneCell' = true) (hown : wr.ownsRow B e 1 v xs.length xs) (hB : B ≤ wr.heap.size) (hl : xs.length + ys.length ≤ 2000000)
    (hs : a.eval s = v) (hx : a.eval x = .slice (some ⟨wr.heap.size, 0, none⟩) m m) (hn : m = ys.length)
    (h : ∀ v' w', w'.ownsRow B e 1 v' (xs ++ ys).length (xs ++ ys) → Below B wr w' → B ≤ w'.heap.size → (∀ b cs, B ≤ wr.heap.size → v.ownBlock ≠ some b → Bx wr b cs → Bx w' b cs) → wpList Tryd.prog ops Q rest (a.put o.dst v') w') :
    wpList Tryd.prog ops Q (o :: rest) a (wr.alloc (.cells ys.toArray e)) := by
  obtain ⟨i0, hi, hz0, hz1, hz2⟩ := info_parts hinfo
  subst hn
  refine wpList_append_own _ hgd s x t ho B e i0 z 1 bytes ht hi hz0 hz1 hz2 hz (by decide) v xs.length xs hs (hown.alloc _) ⟨wr.heap.size, 0, none⟩ ys.length ys.length ys hx (by omega) ?_ hu ?_ ?_ ?_ ?_
  · intro j y hy
    have := cell_of_row (wr.alloc (.cells ys.toArray e)) wr.heap.size j ys.toArray e (0, 0) (heap_alloc_new wr _)
    rw [Addr.add_lit, Nat.zero_add, this]
    simpa using hy
  · unfold maxLen; omega
  · have : (xs.length + ys.length) * bytes ≤ (xs.length + ys.length) * 8 := Nat.mul_le_mul_left _ hby
    omega
  · simp; omega
  · intro v' w' h1 h2 _
    refine h v' w' (by simpa using h1) (((Below.refl B wr).alloc hB _).grown h2 (by simp; omega) (fun j hj => (hown.lt j hj).1)) (by have := h2.size; simp at this; omega) fun b cs _ hne hbx => ?_
    exact (hbx.alloc _).grown h2 (by intro e; exact hne e.symm)
/-- The same at a step of a region that draws its order. -/
theorem step_lit {K : Act → World → Prop} {E : Prop} (t e : TypeId) (z : Value) (size bytes : Nat) (ht : Tryd.prog.underlying t = some (.slice e)) (hinfo : (Tryd.prog.info? e).map (fun i => (i.zero, i.size, i.bytes)) = some (some z, size, bytes)) (hz : z.cells.size = size) (hsz : 0 < size) (hby : bytes ≤ 1000)
    (hgd : o.guard = none) (s x : Operand) (ho : o.op = .call { callee := .builtin .append, args := #[s, x], argTypes := #[t, t] })
    {m n g : Nat} (B : Nat) (v : Value) (xs ys : List Value) (hu : ∀ u ∈ ys, u.oneCell' = true) (hown : wr.ownsRow B e size v n xs) (hB : B ≤ wr.heap.size) (hl : n + m ≤ 2000000)
    (hs : a.eval s = v) (hx : a.eval x = .slice (some ⟨g, 0, none⟩) m m) (hn : ys.length = m * size) (hm : 0 < m) (hrow : ∀ j u, ys[j]? = some u → wr.cell? ⟨g, j, none⟩ = some u)
    (h : ∀ A c w', w'.ownsRow B e size (.slice A (n + m) c) (n + m) (xs ++ ys) → Below B wr w' → B ≤ w'.heap.size → (∀ b o', some b ≠ v.ownBlock → b < wr.heap.size → w'.cell? ⟨b, o', none⟩ = wr.cell? ⟨b, o', none⟩ ∧ w'.frozen? ⟨b, o', none⟩ = wr.frozen? ⟨b, o', none⟩) → wr.heap.size ≤ w'.heap.size → K (a.put o.dst (.slice A (n + m) c)) w') :
    if Region.wanted o (yielded ops a.tmps) = true then Oper.wp Tryd.prog o a wr K Q else E := by
  obtain ⟨i0, hi, hz0, hz1, hz2⟩ : ∃ i, Tryd.prog.info? e = some i ∧ i.zero = some z ∧ i.size = size ∧ i.bytes = bytes := by
    cases hi : Tryd.prog.info? e with
    | none => rw [hi] at hinfo; cases hinfo
    | some i =>
      rw [hi] at hinfo
      have h := Option.some.inj hinfo
      simp only [Prod.mk.injEq] at h
      exact ⟨i, rfl, h.1, h.2.1, h.2.2⟩
  refine step_append_lies wr hgd s x t ho B e i0 z size bytes ht hi hz0 hz1 hz2 hz hsz v n xs hs hown ⟨g, 0, none⟩ m m ys hx hn ?_ hu hm ?_ ?_ hB _ rfl ?_
  · intro j y hy
    rw [Addr.add_lit, Nat.zero_add]
    exact hrow j y hy
  · unfold maxLen; omega
  · have : (n + m) * bytes ≤ (n + m) * 1000 := Nat.mul_le_mul_left _ hby
    omega
  · intro g' cap w' h1 h2 _ _
    exact h _ _ w' h1 ((Below.refl B wr).grown h2 hB (fun j hj => (hown.lt j hj).1)) (by have := h2.size; omega) (fun b o' hne hb => ⟨World.cell?_of_block (h2.block b hb hne), World.frozen?_of_block (h2.block b hb hne)⟩) h2.size
end
/-- One box of the world is as it was. -/
def SameBox (W : World) (b : Nat) (v : World) : Prop := (∀ o, v.cell? ⟨b, o, none⟩ = W.cell? ⟨b, o, none⟩) ∧ W.heap.size ≤ v.heap.size
theorem SameBox.refl (W : World) (b : Nat) : SameBox W b W := ⟨fun _ => rfl, Nat.le_refl _⟩
theorem SameBox.drew {W v : World} {b : Nat} (h : SameBox W b v) : SameBox W b v.drew := h
theorem SameBox.alloc {W v : World} {b : Nat} (h : SameBox W b v) (hb : b < W.heap.size) (o : Obj) : SameBox W b (v.alloc o) :=
  ⟨fun o' => by rw [World.cell?_alloc_lt _ _ _ (Nat.lt_of_lt_of_le hb h.2)]; exact h.1 o', by have := h.2; simp; omega⟩
theorem SameBox.far {W v v' : World} {b : Nat} {row : Option Nat} (h : SameBox W b v) (hf : ∀ b o', some b ≠ row → b < v.heap.size → v'.cell? ⟨b, o', none⟩ = v.cell? ⟨b, o', none⟩ ∧ v'.frozen? ⟨b, o', none⟩ = v.frozen? ⟨b, o', none⟩) (hs : v.heap.size ≤ v'.heap.size) (hne : some b ≠ row) (hb : b < W.heap.size) : SameBox W b v' :=
  ⟨fun o' => (hf b o' hne (Nat.lt_of_lt_of_le hb h.2)).1.trans (h.1 o'), Nat.le_trans h.2 hs⟩
/-- What the reference tells of a number: itself, if it is small. -/
def Num04 (n : Int) (w : World) (e : Ending) (w' : World) : Prop := ∃ x ok, e = .returned (.tuple #[.int .i64 x, .bool ok]) ∧ ok = smallN n ∧ (ok = true → x = n) ∧ w = w'
end Go.Proofs.YtoiblfaalfpbpaaDoor

/- The use of a node: the program's and the reference's. -/
namespace Go.Proofs.YtoiblfaalfpbpaaDoor
set_option linter.unusedSimpArgs false
open Go.RowKit
set_option linter.unusedVariables false

theorem infoVec : (Tryd.prog.info? 40).map (fun i => (i.zero, i.size, i.bytes)) = some (some (.agg #[.int .u64 0, .int .u64 0, .int .u64 0, .int .u64 0]), 4, 32) := by kernel_rfl
theorem oneVec (x : V4) : ∀ u ∈ cellsV x, u.oneCell' = true := by
  intro u hu; simp only [cellsV, List.mem_cons, List.not_mem_nil, or_false] at hu
  rcases hu with rfl | rfl | rfl | rfl <;> rfl
theorem lenVec (x : V4) : (cellsV x).length = 4 := rfl
theorem flat4 (l : List V4) : (l.flatMap cellsV).length = l.length * 4 := by
  induction l with
  | nil => rfl
  | cons x r ih => rw [List.flatMap_cons, List.length_append, ih, lenVec, List.length_cons]; omega
section
variable {ops : Array Oper} {rest : List Oper} {o : Oper} {a : Act} {Q : Exit → Act → World → Prop} {wr : World}
/-- append of one record of a literal to a row of the call's own. -/
theorem wpList_pushR (t e : TypeId) (z : Value) (size bytes : Nat) (ht : Tryd.prog.underlying t = some (.slice e)) (hinfo : (Tryd.prog.info? e).map (fun i => (i.zero, i.size, i.bytes)) = some (some z, size, bytes)) (hz : z.cells.size = size) (hsz : 0 < size) (hby : bytes ≤ 1000)
    (hgd : o.guard = none) (s x : Operand) (ho : o.op = .call { callee := .builtin .append, args := #[s, x], argTypes := #[t, t] })
    (B : Nat) (v : Value) (n : Nat) (xs cs : List Value) (hcs : cs.length = size) (hu : ∀ u ∈ cs, u.oneCell' = true) (hown : wr.ownsRow B e size v n xs) (hB : B ≤ wr.heap.size) (hl : n ≤ 2000000)
    (hs : a.eval s = v) (hx : a.eval x = .slice (some ⟨wr.heap.size, 0, none⟩) 1 1)
    (h : ∀ v' w', w'.ownsRow B e size v' (n + 1) (xs ++ cs) → Below B wr w' → B ≤ w'.heap.size → wpList Tryd.prog ops Q rest (a.put o.dst v') w') :
    wpList Tryd.prog ops Q (o :: rest) a (wr.alloc (.cells cs.toArray e)) := by
  obtain ⟨i0, hi, hz0, hz1, hz2⟩ : ∃ i, Tryd.prog.info? e = some i ∧ i.zero = some z ∧ i.size = size ∧ i.bytes = bytes := by
    cases hi : Tryd.prog.info? e with
    | none => rw [hi] at hinfo; cases hinfo
    | some i =>
      rw [hi] at hinfo
      have h := Option.some.inj hinfo
      simp only [Prod.mk.injEq] at h
      exact ⟨i, rfl, h.1, h.2.1, h.2.2⟩
  refine wpList_append_own _ hgd s x t ho B e i0 z size bytes ht hi hz0 hz1 hz2 hz hsz v n xs hs (hown.alloc _) ⟨wr.heap.size, 0, none⟩ 1 1 cs hx (by omega) ?_ hu ?_ ?_ ?_ ?_
  · intro j y hy
    have := cell_of_row (wr.alloc (.cells cs.toArray e)) wr.heap.size j cs.toArray e (0, 0) (heap_alloc_new wr _)
    rw [Addr.add_lit, Nat.zero_add, this]
    simpa using hy
  · unfold maxLen; omega
  · have : (n + 1) * bytes ≤ (n + 1) * 1000 := Nat.mul_le_mul_left _ hby
    omega
  · simp; omega
  · intro v' w' h1 h2 _
    exact h v' w' h1 (((Below.refl B wr).alloc hB _).grown h2 (by simp; omega) (fun j hj => (hown.lt j hj).1)) (by have := h2.size; simp at this; omega)
end
theorem two_head (w : World) (v0 v1 v2 : Value) (t t' : TypeId) : Row4 ((w.alloc (.cells #[v0, v1, v2] t)).alloc (.cells #[.int .u64 0, .int .u64 0, .int .u64 0, .int .u64 0] t')) (w.heap.size + 1) (.int .u64 0) (.int .u64 0) (.int .u64 0) (.int .u64 0) :=
  ⟨by simp, by simp, by simp, by simp, by simp, by simp, by simp, by simp⟩
theorem own_reqs {B m : Nat} {e : TypeId} {w1 : World} {v : Value} {xs ys : List V4} {x : V4} (hm : m = xs.length) (h : w1.ownsRow B e 4 v (m + 1) (xs.flatMap cellsV ++ cellsV x)) (he : ys = xs ++ [x]) : w1.ownsRow B e 4 v (m + 1) (ys.flatMap cellsV) ∧ m + 1 = ys.length := by
  subst he hm; simpa using h

def UseRel (l : List PodD) (node : Int) (W : World) (B : Nat) (v i : Value) (wr : World) : Prop :=
  ∃ k m : Nat, k ≤ l.length ∧ i = .int .i64 k ∧ m = (reqsAt node (l.take k)).length ∧ wr.ownsRow B 40 4 v m ((reqsAt node (l.take k)).flatMap cellsV) ∧ Below B W wr
end Go.Proofs.YtoiblfaalfpbpaaDoor

/- What a move comes to: the program's Make of layer 5. -/
namespace Go.Proofs.YtoiblfaalfpbpaaDoor
set_option linter.unusedSimpArgs false
open Go.RowKit
set_option linter.unusedVariables false

/-- What a move comes to: the state, and an error's number. -/
def noState : StateD := ⟨[], 0, 0⟩
def makeD (nodes : List NodeD) (x : List WantD) (t : StateD) (m : MoveD) : StateD × Int :=
  if wellD m = false then (noState, 1) else if hereD nodes t.pods m = false then (noState, 4) else if canD t.pods m = false then (noState, 7) else (behindD x t m, 0)
def codeV (c : Int) : Value := if c = 0 then .nilIface else .iface 48 (.int .i64 c)
theorem well_kinds {m : MoveD} (h : wellD m = true) : m.kind = 1 ∨ m.kind = 2 ∨ m.kind = 3 ∨ m.kind = 4 := by
  unfold wellD at h
  split at h
  · omega
  · split at h
    · omega
    · have : m.kind = 4 := by simpa using h
      omega
theorem here_pod {nodes : List NodeD} {l : List PodD} {m : MoveD} (h : hereD nodes l m = true) : ¬ place PodD.id m.pod l 0 < 0 := by
  intro e
  simp [hereD, e] at h
theorem here_over {nodes : List NodeD} {l : List PodD} {m : MoveD} (h : hereD nodes l m = true) (hc : canD l m = true) : m.kind = 4 → ¬ place PodD.id m.over l 0 < 0 ∧ m.over ≠ m.pod := by
  intro h4
  constructor
  · intro e
    simp [hereD, e, h4] at h
  · intro e
    simp [canD, h4, e] at hc
/-- What stands while Make is at work. -/
structure Mk (snap spec state move : List Value) (w V : World) : Prop where
  snap : Bf V w.heap.size snap
  spec : Bf V (w.heap.size + 1) spec
  state : Bf V (w.heap.size + 2) state
  move : Bf V (w.heap.size + 3) move
  res : Bf V (w.heap.size + 4) [.slice none 0 0, .int .i64 0, .int .i64 0]
  below : Below w.heap.size w V
section
variable {a b c d : List Value} {w V V' : World}
theorem Mk.keep (h : Mk a b c d w V) (hb : Below V.heap.size V V') : Mk a b c d w V' :=
  ⟨h.snap.below hb h.snap.lt, h.spec.below hb h.spec.lt, h.state.below hb h.state.lt, h.move.below hb h.move.lt, h.res.below hb h.res.lt, h.below.trans (hb.mono h.below.size)⟩
theorem Mk.new (w : World) (a b c d : List Value) (t1 t2 t3 t4 t5 : TypeId) : Mk a b c d w (((((w.alloc (.cells a.toArray t1)).alloc (.cells b.toArray t2)).alloc (.cells c.toArray t3)).alloc (.cells d.toArray t4)).alloc (.cells #[.slice none 0 0, .int .i64 0, .int .i64 0] t5)) :=
  ⟨((((Bf.new w a t1 rfl).alloc _).alloc _).alloc _).alloc _, (((Bf.new (w.alloc (.cells a.toArray t1)) b t2 (b := w.heap.size + 1) (by simp)).alloc _).alloc _).alloc _,
    ((Bf.new ((w.alloc (.cells a.toArray t1)).alloc (.cells b.toArray t2)) c t3 (b := w.heap.size + 2) (by simp)).alloc _).alloc _, (Bf.new (((w.alloc (.cells a.toArray t1)).alloc (.cells b.toArray t2)).alloc (.cells c.toArray t3)) d t4 (b := w.heap.size + 3) (by simp)).alloc _,
    Bf.new ((((w.alloc (.cells a.toArray t1)).alloc (.cells b.toArray t2)).alloc (.cells c.toArray t3)).alloc (.cells d.toArray t4)) [.slice none 0 0, .int .i64 0, .int .i64 0] t5 (b := w.heap.size + 4) (by simp),
    (below_four w _ _ _ _).alloc (by simp; omega) _⟩
theorem Mk.facts {a0 a1 a2 b0 b1 b2 c0 c1 c2 d0 d1 d2 d3 : Value} (h : Mk [a0, a1, a2] [b0, b1, b2] [c0, c1, c2] [d0, d1, d2, d3] w V) :
    (V.cell? ⟨w.heap.size, 0, none⟩ = some a0 ∧ V.cell? ⟨w.heap.size, 1, none⟩ = some a1 ∧ V.cell? ⟨w.heap.size, 2, none⟩ = some a2) ∧
    (V.cell? ⟨w.heap.size + 1, 0, none⟩ = some b0 ∧ V.cell? ⟨w.heap.size + 1, 1, none⟩ = some b1 ∧ V.cell? ⟨w.heap.size + 1, 2, none⟩ = some b2) ∧
    (V.cell? ⟨w.heap.size + 2, 0, none⟩ = some c0 ∧ V.cell? ⟨w.heap.size + 2, 1, none⟩ = some c1 ∧ V.cell? ⟨w.heap.size + 2, 2, none⟩ = some c2) ∧
    (V.cell? ⟨w.heap.size + 3, 0, none⟩ = some d0 ∧ V.cell? ⟨w.heap.size + 3, 1, none⟩ = some d1 ∧ V.cell? ⟨w.heap.size + 3, 2, none⟩ = some d2 ∧ V.cell? ⟨w.heap.size + 3, 3, none⟩ = some d3) :=
  ⟨⟨h.snap.cell 0 _ rfl, h.snap.cell 1 _ rfl, h.snap.cell 2 _ rfl⟩, ⟨h.spec.cell 0 _ rfl, h.spec.cell 1 _ rfl, h.spec.cell 2 _ rfl⟩, ⟨h.state.cell 0 _ rfl, h.state.cell 1 _ rfl, h.state.cell 2 _ rfl⟩, ⟨h.move.cell 0 _ rfl, h.move.cell 1 _ rfl, h.move.cell 2 _ rfl, h.move.cell 3 _ rfl⟩⟩
theorem Mk.facts2 (h : Mk a b c d w V) :
    (V.cell? ⟨w.heap.size + 4, 0, none⟩ = some (.slice none 0 0) ∧ V.cell? ⟨w.heap.size + 4, 1, none⟩ = some (.int .i64 0) ∧ V.cell? ⟨w.heap.size + 4, 2, none⟩ = some (.int .i64 0)) ∧
    (V.frozen? ⟨w.heap.size + 4, 0, none⟩ = false ∧ V.frozen? ⟨w.heap.size + 4, 1, none⟩ = false ∧ V.frozen? ⟨w.heap.size + 4, 2, none⟩ = false) ∧ w.heap.size + 4 < V.heap.size :=
  ⟨⟨h.res.cell 0 _ rfl, h.res.cell 1 _ rfl, h.res.cell 2 _ rfl⟩, ⟨h.res.frozen 0, h.res.frozen 1, h.res.frozen 2⟩, h.res.lt⟩
theorem Mk.no (h : Mk a b c d w V) {x y z : Value} : StateTo noState w (stateV none 0 0 0 0) (((V.setCell ⟨w.heap.size + 4, 0, none⟩ x).setCell ⟨w.heap.size + 4, 1, none⟩ y).setCell ⟨w.heap.size + 4, 2, none⟩ z) :=
  ⟨none, 0, rfl, Out.nil rfl, (by intro a e; cases e), ((h.below.setCell (by simp) _).setCell (by simp) _).setCell (by simp) _⟩
end
theorem Out.set {l : List PodD} {w : World} {A : Option Addr} {c : Nat} (h : Out 8 cellsP w l A c) {p : Addr} (hp : ∀ a, A = some a → a.block ≠ p.block) (v : Value) : Out 8 cellsP (w.setCell p v) l A c := by
  refine ⟨h.1, h.2.1, h.2.2.1, ?_⟩
  rcases h.2.2.2 with h0 | ⟨b, o, e, hb, hc⟩
  · exact .inl h0
  · refine .inr ⟨b, o, e, by simpa using hb, fun i hi j u hu => ?_⟩
    have := hp _ e
    rw [World.cell?_setCell_other _ _ _ _ (by intro e'; rw [e'] at this; exact this rfl)]
    exact hc i hi j u hu
end Go.Proofs.YtoiblfaalfpbpaaDoor

/- A node's rest: the program's Rest. -/
namespace Go.Proofs.YtoiblfaalfpbpaaDoor
set_option linter.unusedSimpArgs false
open Go.RowKit
set_option linter.unusedVariables false

section
variable {V : World}
theorem Bf.cells10 {b : Nat} {x : NodeD} (h : Bf V b (cellsN x)) : (V.cell? ⟨b, 0, none⟩ = some (.int .i64 x.id) ∧ V.cell? ⟨b, 1, none⟩ = some (.int .i64 x.zone) ∧ V.cell? ⟨b, 2, none⟩ = some (.int .u64 x.cap.a) ∧ V.cell? ⟨b, 3, none⟩ = some (.int .u64 x.cap.b) ∧ V.cell? ⟨b, 4, none⟩ = some (.int .u64 x.cap.c) ∧ V.cell? ⟨b, 5, none⟩ = some (.int .u64 x.cap.d)) ∧
    V.cell? ⟨b, 6, none⟩ = some (.int .u64 x.held.a) ∧ V.cell? ⟨b, 7, none⟩ = some (.int .u64 x.held.b) ∧ V.cell? ⟨b, 8, none⟩ = some (.int .u64 x.held.c) ∧ V.cell? ⟨b, 9, none⟩ = some (.int .u64 x.held.d) ∧ b < V.heap.size :=
  ⟨⟨h.cell 0 _ rfl, h.cell 1 _ rfl, h.cell 2 _ rfl, h.cell 3 _ rfl, h.cell 4 _ rfl, h.cell 5 _ rfl⟩, h.cell 6 _ rfl, h.cell 7 _ rfl, h.cell 8 _ rfl, h.cell 9 _ rfl, h.lt⟩
end
theorem rest_ret {p : V4 × Int} {a : Value} {b : Value} (q : V4 × Int) (h : p = q) (ha : a = aggV q.1) (hb : b = codeV q.2) : Ending.returned (.tuple #[a, b]) = .returned (.tuple #[aggV p.1, codeV p.2]) := by subst h ha hb; rfl

end Go.Proofs.YtoiblfaalfpbpaaDoor

/- errors.As of a Code itself, into a variable of type Code. -/
namespace Go.Proofs.YtoiblfaalfpbpaaDoor
set_option linter.unusedSimpArgs false
open Go.RowKit Go.Extern.Stop Go.Stop Go.Extern
set_option linter.unusedVariables false

theorem Tryd.kindCode (w : World) : ((ReflectliteType.abiMethod fun t => (fun a : Nat => Value.int IntKind.u8 (a : Int)) <$> Rtype.kind t) #[.pointer (some ⟨1, 48, none⟩)]).run Tryd.prog w = .ok (.int .u8 2) w := by kernel_rfl

theorem Tryd.implementsCode (w : World) : (ReflectliteType.relation "Implements" ReflectliteType.implements_ #[.agg #[.pointer (some ⟨1, 48, none⟩)], .iface 78 (.agg #[.pointer (some ⟨1, 35, none⟩)])]).run Tryd.prog w = .ok (.bool true) w := by kernel_rfl
theorem Tryd.typeOfCodeC (v : Value) (w : World) : (ReflectliteType.typeOf #[.iface 48 v]).run Tryd.prog w = .ok (.iface 78 (.agg #[.pointer (some ⟨1, 48, none⟩)])) w := by kernel_rfl
theorem Tryd.assignableCode (w : World) : (ReflectliteType.relation "AssignableTo" ReflectliteType.assignableTo #[.agg #[.pointer (some ⟨1, 48, none⟩)], .iface 78 (.agg #[.pointer (some ⟨1, 48, none⟩)])]).run Tryd.prog w = .ok (.bool true) w := by kernel_rfl
theorem Tryd.valueOfCode (e : Int) (w : World) : (ReflectliteValue.unpack (.iface 48 (.int .i64 e))).run Tryd.prog w
    = .ok (.agg #[.pointer (some ⟨1, 48, none⟩), .pointer (some ⟨w.heap.size, 0, none⟩), .int .u64 130]) (w.alloc (.cells #[.int .i64 e] 48)) := by kernel_rfl

theorem Tryd.mkCode (p : Addr) (w : World) : (ReflectliteValue.mk 48 p ReflectliteValue.flagAddr).run Tryd.prog w = .ok (.agg #[.pointer (some ⟨1, 48, none⟩), .pointer (some p), .int .u64 386]) w := by kernel_rfl
theorem Tryd.partsCodeA (a : Addr) (w : World) : (ReflectliteValue.parts (.agg #[.pointer (some ⟨1, 48, none⟩), .pointer (some a), .int .u64 386])).run Tryd.prog w = .ok (some (48, a, 386)) w := by kernel_rfl
theorem Tryd.partsCode (a : Addr) (w : World) : (ReflectliteValue.parts (.agg #[.pointer (some ⟨1, 48, none⟩), .pointer (some a), .int .u64 130])).run Tryd.prog w = .ok (some (48, a, 130)) w := by kernel_rfl
theorem Tryd.directCode (w : World) : (Rtype.directlyAssignable 48 48).run Tryd.prog w = .ok true w := by kernel_rfl
theorem Tryd.sizeCode (w : World) : (sizeOf 48).run Tryd.prog w = .ok 1 w := by kernel_rfl
/-- (Value).Set: the api.Code variable at 'ta' gets what the Value's own variable 'b' holds. -/
theorem Tryd.setCode (ta b : Addr) (e : Int) (old : Value) (W : World) (hb : W.cell? b = some (.int .i64 e)) (ht : W.cell? ta = some old) (hf : W.frozen? ta = false) :
    (ReflectliteValue.set #[.agg #[.pointer (some ⟨1, 48, none⟩), .pointer (some ta), .int .u64 386], .agg #[.pointer (some ⟨1, 48, none⟩), .pointer (some b), .int .u64 130]]).run Tryd.prog W
      = .ok (.tuple #[]) (W.setCell ta (.int .i64 e)) := by
  show (bind (ReflectliteValue.parts (.agg #[.pointer (some ⟨1, 48, none⟩), .pointer (some ta), .int .u64 386])) fun p => bind (ReflectliteValue.parts (.agg #[.pointer (some ⟨1, 48, none⟩), .pointer (some b), .int .u64 130])) _ : Sem Value).run Tryd.prog W = _
  simp only [Sem.run_bind, Tryd.partsCodeA, Tryd.partsCode, Result.andThen]
  simp [ReflectliteValue.flagAddr, loadVar, isAgg, underlying, Tryd.underlying48, hb, Result.andThen, Tryd.directCode, storeVar, Value.cells, storeCells, Addr.add]
  rw [run_store Tryd.prog W ta _ _ (by rfl)]
  simp [ht, hf]

end Go.Proofs.YtoiblfaalfpbpaaDoor

/- A node's error with its place: the program's spot. -/
namespace Go.Proofs.YtoiblfaalfpbpaaDoor
set_option linter.unusedSimpArgs false
open Go.RowKit
set_option linter.unusedVariables false

end Go.Proofs.YtoiblfaalfpbpaaDoor

/- A box of four cells that a statement makes behind its call, or ahead of it. -/
namespace Go.Proofs.YtoiblfaalfpbpaaDoor
set_option linter.unusedSimpArgs false
open Go.RowKit
set_option linter.unusedVariables false

/-- A box that a statement makes behind its call, or ahead of it. -/
theorem Bf.later {W v w' : World} {z : V4} (h0 : Bf v W.heap.size (cellsV .zer)) (hb : Below v.heap.size v w') :
    Bf ((((w'.setCell ⟨W.heap.size, 0, none⟩ (.int .u64 z.a)).setCell ⟨W.heap.size, 1, none⟩ (.int .u64 z.b)).setCell ⟨W.heap.size, 2, none⟩ (.int .u64 z.c)).setCell ⟨W.heap.size, 3, none⟩ (.int .u64 z.d)) W.heap.size (cellsV z) :=
  (((((h0.below hb h0.lt).set 0 (.int .u64 z.a)).set 1 (.int .u64 z.b)).set 2 (.int .u64 z.c)).set 3 (.int .u64 z.d))
theorem Bf.drew {V : World} {b : Nat} {cs : List Value} (h : Bf V b cs) : Bf V.drew b cs := h.below (Below.refl _ V).drew h.lt
end Go.Proofs.YtoiblfaalfpbpaaDoor

/- The first node at fault: the program's Check of layer 6. -/
namespace Go.Proofs.YtoiblfaalfpbpaaDoor
set_option linter.unusedSimpArgs false
open Go.RowKit
set_option linter.unusedVariables false

/-- Two boxes of the call's own. -/
structure T2 (a b : List Value) (w V : World) : Prop where
  one : Bf V w.heap.size a
  two : Bf V (w.heap.size + 1) b
  below : Below w.heap.size w V
section
variable {a b : List Value} {w V V' : World}
theorem T2.keep (h : T2 a b w V) (hb : Below V.heap.size V V') : T2 a b w V' := ⟨h.one.below hb h.one.lt, h.two.below hb h.two.lt, h.below.trans (hb.mono h.below.size)⟩
theorem T2.alloc (h : T2 a b w V) (o : Obj) : T2 a b w (V.alloc o) := h.keep ((Below.refl _ V).alloc (Nat.le_refl _) o)
theorem T2.new (w : World) (a b : List Value) (t1 t2 : TypeId) : T2 a b w ((w.alloc (.cells a.toArray t1)).alloc (.cells b.toArray t2)) :=
  ⟨(Bf.new w a t1 rfl).alloc _, Bf.new (w.alloc (.cells a.toArray t1)) b t2 (b := w.heap.size + 1) (by simp), ((Below.refl _ w).alloc (Nat.le_refl _) _).alloc (by simp) _⟩
end
theorem codeV_zero : codeV 0 = .nilIface := rfl
theorem codeV_pos {c : Int} (h : c ≠ 0) : codeV c = .iface 48 (.int .i64 c) := by unfold codeV; rw [if_neg h]
theorem rest_code {ns : List NodeD} {l : List PodD} {id : Int} (h : (restD ns l id).2 ≠ 0) : 1 ≤ (restD ns l id).2 ∧ (restD ns l id).2 ≤ 17 := by
  rcases rest_vals ns l id with h1 | ⟨_, h1 | h1 | h1⟩
  · exact absurd h1 h
  · omega
  · omega
  · omega
def RoomRel (ns : List NodeD) (l : List PodD) (a b : List Value) (w : World) (i : Value) (wr : World) : Prop := ∃ k : Nat, k ≤ ns.length ∧ i = .int .i64 k ∧ roomD ns l (ns.drop k) k = roomOf ns l ∧ T2 a b w wr

end Go.Proofs.YtoiblfaalfpbpaaDoor

/- The program's Clash of layer 7. -/
namespace Go.Proofs.YtoiblfaalfpbpaaDoor
set_option linter.unusedSimpArgs false
open Go.RowKit
set_option linter.unusedVariables false

theorem T3.cells3a {x0 x1 x2 : Value} {b c : List Value} {w V : World} (h : T3 [x0, x1, x2] b c w V) : V.cell? ⟨w.heap.size, 0, none⟩ = some x0 ∧ V.cell? ⟨w.heap.size, 1, none⟩ = some x1 ∧ V.cell? ⟨w.heap.size, 2, none⟩ = some x2 ∧ w.heap.size < V.heap.size := h.one.cells3
def ClashRel (ls : List LoadD) (p : PodD) (i : Nat) (l : List PodD) (a b c : List Value) (w : World) (v : Value) (wr : World) : Prop := ∃ k : Nat, k ≤ l.length ∧ v = .int .i64 k ∧ clashFrom ls p i (l.drop k) k = clashFrom ls p i l 0 ∧ T3 a b c w wr

set_option maxHeartbeats 6400000 in
set_option maxRecDepth 100000 in
theorem apartClash_any (ls : List LoadD) (l : List PodD) (id : Int) (A2 A4 : Option Addr) (n2 c2 n4 c4 : Nat) (s1 s3 v1 v2 : Value) (w : World)
    (hn2 : n2 = ls.length) (hl2 : n2 ≤ 400) (hr2 : Recs 5 cellsL w w.heap.size A2 ls) (hn4 : n4 = l.length) (hl4 : n4 ≤ 400) (hr4 : Recs 8 cellsP w w.heap.size A4 l) :
    Calls Tryd.prog 8 #[.agg #[s1, .slice A2 n2 c2, s3], .agg #[.slice A4 n4 c4, v1, v2], .int .i64 id] w fun e w' => e = .returned (.int .i64 (clashOf ls l id)) ∧ Below w.heap.size w w' := by
  have T0 := T3.new w [s1, .slice A2 n2 c2, s3] [.slice A4 n4 c4, v1, v2] [.int .i64 id] 26 28 3
  have HN4 := Lib.hid hn4
  have HR4 := Lib.hid hr4
  have HC := Lib.hid (fun (V : World) (hV : Below w.heap.size w V) (p q : PodD) => apClash_any ls p q A2 n2 c2 s1 s3 V hn2 hl2 ((hr2.below hV (Nat.le_refl _)).more hV.size))
  have HI := Lib.hid (fun (V : World) (hV : Below w.heap.size w V) => apIndexId_any l id (w.heap.size + 2) A4 n4 c4 V hn4 (by omega) ((hr4.below hV (Nat.le_refl _)).more hV.size))
  have HF := Lib.hid (HI.out _ T0.below (T0.three.cell 0 _ rfl))
  have hmf : ∀ (fn : Fn) (first cap : Array Value) (w : World), (Instr.makeFunc fn first cap).run Tryd.prog w = .ok (.func fn first cap) w := fun _ _ _ _ => rfl
  clear hr2 hn2 hr4 hn4 HI
  go_enter Tryd.func8, Tryd.ntmps8
  go_wp2_with fail
  refine HF.out.mono ?_
  rintro e w1 ⟨rfl, hb1⟩
  have T1 := T0.keep hb1
  clear hb1 T0 HF hmf
  by_cases hp : place PodD.id id l 0 < 0
  · have HE := Lib.hid (clashOf_none (ls := ls) hp)
    have kw := T1.below
    generalize place PodD.id id l 0 = z at *
    have hd : decide (z < 0) = true := decide_eq_true hp
    clear T1 hp
    go_wp2
    go_ret
    exact ⟨ret_int HE.out.symm, kw⟩
  obtain ⟨i, hi, hpi⟩ := place_hit hp
  rw [hpi]
  have HPO := Lib.hid (fun (p : PodD) (hx : l[i] = p) => clashOf_some (ls := ls) hi hpi hx)
  clear hp hpi
  generalize hpp : l[i] = p at *
  have HE := Lib.hid (HPO.out p rfl)
  clear HPO
  obtain ⟨b, o, rfl, hb, he⟩ := HR4.out.at hi
  rw [hpp] at he
  have HPC := Lib.hid he
  have HT1 := Lib.hid T1
  have hin : (i : Int) < (n4 : Int) := by have := HN4.out; omega
  have hi0 : (0 : Int) ≤ (i : Int) := by omega
  have hdn : decide ((i : Int) < 0) = false := decide_eq_false (by omega)
  obtain ⟨b0, b1, b2, b3⟩ := T1.two.cells3
  clear T1 he hpp
  go_wp2
  go_loopw [19] (ClashRel ls p i l [s1, .slice A2 n2 c2, s3] [.slice (some ⟨b, o, none⟩) n4 c4, v1, v2] [.int .i64 id] w) (fun v _ => n4 - (intOf v).toNat)
  case atStart => exact ⟨0, by omega, rfl, rfl, HT1.out⟩
  case round =>
    obtain ⟨k, hk, rfl, hp, T2⟩ := hrel
    have HP := Lib.hid hp
    have HT2 := Lib.hid T2
    clear hp b0 b1 b2 b3
    by_cases hlt : k < n4
    · have hkl : k < l.length := by have := HN4.out; omega
      have kwr := T2.below
      obtain ⟨b', o', h1, _, he⟩ := HR4.out.at hkl
      injection h1 with h1
      injection h1 with h1 h2 _
      subst h1 h2
      generalize hx : l[k] = q at *
      have HX := Lib.hid (clashFrom_at hkl hx HP.out)
      clear hx
      have e0 : wr.cell? ⟨b, o + k * 8, none⟩ = some (.int .i64 q.id) := (kwr.cell (p := ⟨b, o + k * 8, none⟩) hb).trans (he 0 _ rfl)
      have e1 : wr.cell? ⟨b, o + k * 8 + 1, none⟩ = some (.int .i64 q.load) := (kwr.cell (p := ⟨b, o + k * 8 + 1, none⟩) hb).trans (he 1 _ rfl)
      have e2 : wr.cell? ⟨b, o + k * 8 + 2, none⟩ = some (.int .i64 q.prio) := (kwr.cell (p := ⟨b, o + k * 8 + 2, none⟩) hb).trans (he 2 _ rfl)
      have e3 : wr.cell? ⟨b, o + k * 8 + 3, none⟩ = some (.int .u64 q.req.a) := (kwr.cell (p := ⟨b, o + k * 8 + 3, none⟩) hb).trans (he 3 _ rfl)
      have e4 : wr.cell? ⟨b, o + k * 8 + 4, none⟩ = some (.int .u64 q.req.b) := (kwr.cell (p := ⟨b, o + k * 8 + 4, none⟩) hb).trans (he 4 _ rfl)
      have e5 : wr.cell? ⟨b, o + k * 8 + 5, none⟩ = some (.int .u64 q.req.c) := (kwr.cell (p := ⟨b, o + k * 8 + 5, none⟩) hb).trans (he 5 _ rfl)
      have e6 : wr.cell? ⟨b, o + k * 8 + 6, none⟩ = some (.int .u64 q.req.d) := (kwr.cell (p := ⟨b, o + k * 8 + 6, none⟩) hb).trans (he 6 _ rfl)
      have e7 : wr.cell? ⟨b, o + k * 8 + 7, none⟩ = some (.int .i64 q.node) := (kwr.cell (p := ⟨b, o + k * 8 + 7, none⟩) hb).trans (he 7 _ rfl)
      have hbw : b < wr.heap.size := Nat.lt_of_lt_of_le hb kwr.size
      obtain ⟨b0, b1, b2, b3⟩ := T2.two.cells3
      have TW := T2.alloc (.cells #[.int .i64 q.id, .int .i64 q.load, .int .i64 q.prio, .int .u64 q.req.a, .int .u64 q.req.b, .int .u64 q.req.c, .int .u64 q.req.d, .int .i64 q.node] 42)
      have QW : Bf (wr.alloc (.cells #[.int .i64 q.id, .int .i64 q.load, .int .i64 q.prio, .int .u64 q.req.a, .int .u64 q.req.b, .int .u64 q.req.c, .int .u64 q.req.d, .int .i64 q.node] 42)) wr.heap.size (cellsP q) := Bf.new wr (cellsP q) _ rfl
      clear he T2 kwr
      go_wp2_with fail
      go_upto_region 7 with fail
      clear e0 e1 e2 e3 e4 e5 e6 e7 b0 b1 b2 b3 hbw
      generalize hW : wr.alloc (.cells #[.int .i64 q.id, .int .i64 q.load, .int .i64 q.prio, .int .u64 q.req.a, .int .u64 q.req.b, .int .u64 q.req.c, .int .u64 q.req.d, .int .i64 q.node] 42) = W at *
      generalize hh : wr.heap.size = h at *
      clear hW hh
      have HTW := Lib.hid TW
      have HQW := Lib.hid QW
      have kW := TW.below
      obtain ⟨a0, a1, a2, a3⟩ := TW.one.cells3
      obtain ⟨b0, b1, b2, b3⟩ := TW.two.cells3
      obtain ⟨⟨q0, q1, q2, q3⟩, q4, q5, q6, q7, q8⟩ := QW.cells8
      have f0 : W.cell? ⟨b, o + i * 8, none⟩ = some (.int .i64 p.id) := (kW.cell (p := ⟨b, o + i * 8, none⟩) hb).trans (HPC.out 0 _ rfl)
      have f1 : W.cell? ⟨b, o + i * 8 + 1, none⟩ = some (.int .i64 p.load) := (kW.cell (p := ⟨b, o + i * 8 + 1, none⟩) hb).trans (HPC.out 1 _ rfl)
      have f2 : W.cell? ⟨b, o + i * 8 + 2, none⟩ = some (.int .i64 p.prio) := (kW.cell (p := ⟨b, o + i * 8 + 2, none⟩) hb).trans (HPC.out 2 _ rfl)
      have f3 : W.cell? ⟨b, o + i * 8 + 3, none⟩ = some (.int .u64 p.req.a) := (kW.cell (p := ⟨b, o + i * 8 + 3, none⟩) hb).trans (HPC.out 3 _ rfl)
      have f4 : W.cell? ⟨b, o + i * 8 + 4, none⟩ = some (.int .u64 p.req.b) := (kW.cell (p := ⟨b, o + i * 8 + 4, none⟩) hb).trans (HPC.out 4 _ rfl)
      have f5 : W.cell? ⟨b, o + i * 8 + 5, none⟩ = some (.int .u64 p.req.c) := (kW.cell (p := ⟨b, o + i * 8 + 5, none⟩) hb).trans (HPC.out 5 _ rfl)
      have f6 : W.cell? ⟨b, o + i * 8 + 6, none⟩ = some (.int .u64 p.req.d) := (kW.cell (p := ⟨b, o + i * 8 + 6, none⟩) hb).trans (HPC.out 6 _ rfl)
      have f7 : W.cell? ⟨b, o + i * 8 + 7, none⟩ = some (.int .i64 p.node) := (kW.cell (p := ⟨b, o + i * 8 + 7, none⟩) hb).trans (HPC.out 7 _ rfl)
      have hbW : b < W.heap.size := Nat.lt_of_lt_of_le hb kW.size
      have HCW : Hid (∀ V : World, Keeps W V → Calls Tryd.prog 13 #[.agg #[s1, .slice A2 n2 c2, s3], aggP p, aggP q] V fun e w' => e = .returned (.bool (clashD ls p q)) ∧ Below V.heap.size V w') := fun V hV => HC.out V (kW.trans (hV.2.mono kW.size)) p q
      clear TW QW
      by_cases hki : k = i
      · have hd : ((k : Int) != (i : Int)) = false := by simp [hki]
        have HN := Lib.hid (HX.out.2 (.inl hki))
        clear hki
        go_quiet (fail)
        clear a0 a1 a2 a3 b0 b1 b2 b3 q0 q1 q2 q3 q4 q5 q6 q7 q8 f0 f1 f2 f3 f4 f5 f6 f7
        go_wp2
        go_roundw
        case rel => exact ⟨k + 1, by omega, by go_num, HN.out, HTW.out.keep (below_draws (Below.refl _ _) _)⟩
        case measure => simp [intOf]; omega
      · have hd : ((k : Int) != (i : Int)) = true := by simp; omega
        cases hcl : clashD ls p q with
        | true =>
          have HN := Lib.hid (HX.out.1 ⟨hki, hcl⟩)
          rw [hcl] at HCW
          clear hki hcl
          go_region_held3 (fun w' => (∀ b o, b < W.heap.size → w'.cell? ⟨b, o, none⟩ = W.cell? ⟨b, o, none⟩) ∧ Below W.heap.size W w')
            (first | (with_reducible assumption) | (show Keeps W _; with_reducible (repeat (first | exact Keeps.refl _ | assumption | refine Keeps.drew ?_ | refine Keeps.alloc ?_ _ | refine Keeps.step ?_ (by assumption)))))
            (first | (go_at_call 13; refine (HCW.out _ (by assumption)).mono ?_; rintro e w' ⟨rfl, hb⟩))
          rename_i hK
          have kV := kW.trans (hK.2.mono kW.size)
          have QV := HQW.out.below hK.2 HQW.out.lt
          clear hK a0 a1 a2 a3 b0 b1 b2 b3 q0 q1 q2 q3 q4 q5 q6 q7 q8 f0 f1 f2 f3 f4 f5 f6 f7
          obtain ⟨⟨q0, q1, q2, q3⟩, q4, q5, q6, q7, q8⟩ := QV.cells8
          clear QV
          go_wp2
          go_ret
          exact ⟨ret_int (HE.out.trans HN.out).symm, kV⟩
        | false =>
          have HN := Lib.hid (HX.out.2 (.inr hcl))
          rw [hcl] at HCW
          clear hki hcl
          go_region_held3 (fun w' => (∀ b o, b < W.heap.size → w'.cell? ⟨b, o, none⟩ = W.cell? ⟨b, o, none⟩) ∧ Below W.heap.size W w')
            (first | (with_reducible assumption) | (show Keeps W _; with_reducible (repeat (first | exact Keeps.refl _ | assumption | refine Keeps.drew ?_ | refine Keeps.alloc ?_ _ | refine Keeps.step ?_ (by assumption)))))
            (first | (go_at_call 13; refine (HCW.out _ (by assumption)).mono ?_; rintro e w' ⟨rfl, hb⟩))
          rename_i hK
          have HT3 := Lib.hid (HTW.out.keep hK.2)
          clear hK a0 a1 a2 a3 b0 b1 b2 b3 q0 q1 q2 q3 q4 q5 q6 q7 q8 f0 f1 f2 f3 f4 f5 f6 f7
          go_wp2
          go_roundw
          case rel => exact ⟨k + 1, by omega, by go_num, HN.out, HT3.out⟩
          case measure => simp [intOf]; omega
    · have HZ := Lib.hid (clashFrom_end (by have := HN4.out; omega) HP.out)
      have kwr := T2.below
      clear T2
      go_wp2
      go_ret
      exact ⟨ret_int (HE.out.trans HZ.out).symm, kwr⟩
end Go.Proofs.YtoiblfaalfpbpaaDoor

/- The program's Check of layer 7. -/
namespace Go.Proofs.YtoiblfaalfpbpaaDoor
set_option linter.unusedSimpArgs false
open Go.RowKit
set_option linter.unusedVariables false

def ApartRel (ls : List LoadD) (l : List PodD) (a b : List Value) (w : World) (v : Value) (wr : World) : Prop := ∃ k : Nat, k ≤ l.length ∧ v = .int .i64 k ∧ apartFrom ls l (l.drop k) k = apartOf ls l ∧ T2 a b w wr

set_option maxHeartbeats 6400000 in
set_option maxRecDepth 100000 in
theorem apartCheck_any (ls : List LoadD) (l : List PodD) (A2 A4 : Option Addr) (n2 c2 n4 c4 : Nat) (s1 s3 v1 v2 : Value) (w : World)
    (hn2 : n2 = ls.length) (hl2 : n2 ≤ 400) (hr2 : Recs 5 cellsL w w.heap.size A2 ls) (hn4 : n4 = l.length) (hl4 : n4 ≤ 400) (hc4 : n4 ≤ c4) (hr4 : Recs 8 cellsP w w.heap.size A4 l) :
    Calls Tryd.prog 7 #[.agg #[s1, .slice A2 n2 c2, s3], .agg #[.slice A4 n4 c4, v1, v2]] w (ErrTo (apartOf ls l) w) := by
  have T0 := T2.new w [s1, .slice A2 n2 c2, s3] [.slice A4 n4 c4, v1, v2] 26 28
  have HN4 := Lib.hid hn4
  have HR4 := Lib.hid hr4
  have HC := Lib.hid (fun (V : World) (hV : Below w.heap.size w V) (p : PodD) (k gs gp : Nat) (hs : Bf V gs [s1, .slice A2 n2 c2, s3]) (hp : Bf V gp (cellsP p)) (hk : k = (l.take k).length) (hkl : k ≤ 1000) =>
    apContains_any ls p (l.take k) gs gp A2 n2 c2 s1 s3 A4 k c4 V hs hp hn2 hl2 ((hr2.below hV (Nat.le_refl _)).more hV.size) hk hkl (((hr4.below hV (Nat.le_refl _)).more hV.size).take k))
  have HT0 := Lib.hid T0
  have hmf : ∀ (fn : Fn) (first cap : Array Value) (w : World), (Instr.makeFunc fn first cap).run Tryd.prog w = .ok (.func fn first cap) w := fun _ _ _ _ => rfl
  clear hr2 hn2 hr4 hn4 T0
  go_enter Tryd.func7, Tryd.ntmps7
  go_wp2
  go_loopw [10] (ApartRel ls l [s1, .slice A2 n2 c2, s3] [.slice A4 n4 c4, v1, v2] w) (fun v _ => n4 - (intOf v).toNat)
  case atStart => exact ⟨0, by omega, rfl, rfl, HT0.out⟩
  case round =>
    obtain ⟨k, hk, rfl, hp, T1⟩ := hrel
    have HP := Lib.hid hp
    have HT1 := Lib.hid T1
    clear hp
    by_cases hlt : k < n4
    · have hkl : k < l.length := by have := HN4.out; omega
      have kwr := T1.below
      obtain ⟨b, o, rfl, hb, he⟩ := HR4.out.at hkl
      generalize hx : l[k] = p at *
      have HX := Lib.hid (apartFrom_at hkl hx HP.out)
      clear hx
      have e0 : wr.cell? ⟨b, o + k * 8, none⟩ = some (.int .i64 p.id) := (kwr.cell (p := ⟨b, o + k * 8, none⟩) hb).trans (he 0 _ rfl)
      have e1 : wr.cell? ⟨b, o + k * 8 + 1, none⟩ = some (.int .i64 p.load) := (kwr.cell (p := ⟨b, o + k * 8 + 1, none⟩) hb).trans (he 1 _ rfl)
      have e2 : wr.cell? ⟨b, o + k * 8 + 2, none⟩ = some (.int .i64 p.prio) := (kwr.cell (p := ⟨b, o + k * 8 + 2, none⟩) hb).trans (he 2 _ rfl)
      have e3 : wr.cell? ⟨b, o + k * 8 + 3, none⟩ = some (.int .u64 p.req.a) := (kwr.cell (p := ⟨b, o + k * 8 + 3, none⟩) hb).trans (he 3 _ rfl)
      have e4 : wr.cell? ⟨b, o + k * 8 + 4, none⟩ = some (.int .u64 p.req.b) := (kwr.cell (p := ⟨b, o + k * 8 + 4, none⟩) hb).trans (he 4 _ rfl)
      have e5 : wr.cell? ⟨b, o + k * 8 + 5, none⟩ = some (.int .u64 p.req.c) := (kwr.cell (p := ⟨b, o + k * 8 + 5, none⟩) hb).trans (he 5 _ rfl)
      have e6 : wr.cell? ⟨b, o + k * 8 + 6, none⟩ = some (.int .u64 p.req.d) := (kwr.cell (p := ⟨b, o + k * 8 + 6, none⟩) hb).trans (he 6 _ rfl)
      have e7 : wr.cell? ⟨b, o + k * 8 + 7, none⟩ = some (.int .i64 p.node) := (kwr.cell (p := ⟨b, o + k * 8 + 7, none⟩) hb).trans (he 7 _ rfl)
      have hbw : b < wr.heap.size := Nat.lt_of_lt_of_le hb kwr.size
      obtain ⟨b0, b1, b2, b3⟩ := T1.two.cells3
      have TW := T1.alloc (.cells #[.int .i64 p.id, .int .i64 p.load, .int .i64 p.prio, .int .u64 p.req.a, .int .u64 p.req.b, .int .u64 p.req.c, .int .u64 p.req.d, .int .i64 p.node] 42)
      have QW : Bf (wr.alloc (.cells #[.int .i64 p.id, .int .i64 p.load, .int .i64 p.prio, .int .u64 p.req.a, .int .u64 p.req.b, .int .u64 p.req.c, .int .u64 p.req.d, .int .i64 p.node] 42)) wr.heap.size (cellsP p) := Bf.new wr (cellsP p) _ rfl
      have HCW := Lib.hid (HC.out _ TW.below p k w.heap.size wr.heap.size TW.one QW (by simp; omega) (by omega))
      have HTW := Lib.hid TW
      have hk0 : (0 : Int) ≤ (k : Int) := by omega
      have hkc : (k : Int) ≤ (c4 : Int) := by omega
      clear he T1 kwr TW QW
      go_wp2_with fail
      refine HCW.out.mono ?_
      rintro e w2 ⟨rfl, hb2⟩
      have HT2 := Lib.hid (HTW.out.keep hb2)
      clear hb2 HCW HTW e0 e1 e2 e3 e4 e5 e6 e7 b0 b1 b2 b3
      cases hany : (l.take k).any (clashD ls p) with
      | true =>
        have HE := Lib.hid (HX.out.1 hany)
        clear hany
        go_wp2
        go_ret
        exact ⟨_, rfl, .inr (.inr ⟨k, w2.heap.size, by rw [HE.out], rfl, HT2.out.below.size, by rw [HE.out]; exact heap_alloc_new w2 _⟩), HT2.out.below.alloc HT2.out.below.size _⟩
      | false =>
        have HE := Lib.hid (HX.out.2 hany)
        clear hany
        go_wp2
        go_roundw
        case rel => exact ⟨k + 1, by omega, by go_num, HE.out, HT2.out⟩
        case measure => simp [intOf]; omega
    · have HE := Lib.hid (apartFrom_end (by have := HN4.out; omega) HP.out)
      have kwr := T1.below
      clear T1
      go_wp2
      go_ret
      exact ⟨_, rfl, .inl ⟨HE.out, rfl⟩, kwr⟩
end Go.Proofs.YtoiblfaalfpbpaaDoor

/- The heads of layer 5's laws: few of all, and the document's examples. -/
namespace Go.Proofs.YtoiblfaalfpbpaaDoor
set_option linter.unusedSimpArgs false
open Go.RowKit
set_option linter.unusedVariables false

def few05 (n1 n2 n3 nx nt : Nat) : Bool := decide (n1 ≤ 40 ∧ n2 ≤ 40 ∧ n3 ≤ 40) && (decide (nx ≤ 40) && decide (nt ≤ 40))
set_option maxHeartbeats 1600000 in
theorem few05_any (A1 A2 A3 A4 A5 : Option Addr) (n1 c1 n2 c2 n3 c3 n4 c4 n5 c5 : Nat) (v1 v2 u1 u2 : Value) (w : World) :
    Calls Tryd.prog 6 #[.agg #[.slice A1 n1 c1, .slice A2 n2 c2, .slice A3 n3 c3], .agg #[.slice A4 n4 c4, v1, v2], .agg #[.slice A5 n5 c5, u1, u2]] w fun e w' => e = .returned (.bool (few05 n1 n2 n3 n4 n5)) ∧ Below w.heap.size w w' := by
  have b00 := below_three w (.cells #[.slice A1 n1 c1, .slice A2 n2 c2, .slice A3 n3 c3] 26) (.cells #[.slice A4 n4 c4, v1, v2] 33) (.cells #[.slice A5 n5 c5, u1, u2] 28)
  go_enter Tryd.func6, Tryd.ntmps6
  go_wp2_with fail
  refine (few_any _ _ _ _ _ _ _ _ _ _).mono ?_
  rintro e w1 ⟨rfl, hb1⟩
  have k1 : Below (w.heap.size + 3) _ w1 := hb1.mono (by simp)
  have kw1 := b00.trans (k1.mono (by omega))
  have a3 : w1.cell? ⟨w.heap.size + 1, 0, none⟩ = some (.slice A4 n4 c4) := (k1.cell (p := ⟨w.heap.size + 1, 0, none⟩) (by simp)).trans (by rw [World.cell?_alloc_lt _ _ _ (by simp)]; simp)
  have a4 : w1.cell? ⟨w.heap.size + 2, 0, none⟩ = some (.slice A5 n5 c5) := (k1.cell (p := ⟨w.heap.size + 2, 0, none⟩) (by simp)).trans (by rw [World.cell?_alloc_at _ _ _ _ (by simp)]; simp)
  cases hf : decide (n1 ≤ 40 ∧ n2 ≤ 40 ∧ n3 ≤ 40) with
  | false =>
    have HE := Lib.hid (show few05 n1 n2 n3 n4 n5 = false by unfold few05; rw [hf]; rfl)
    clear hf
    go_wp2
    go_ret
    exact ⟨ret_bool HE.out.symm, kw1⟩
  | true =>
    by_cases h4 : n4 ≤ 40
    · have d4 : decide ((n4 : Int) ≤ 40) = true := decide_eq_true (by omega)
      by_cases h5 : n5 ≤ 40
      · have d5 : decide ((n5 : Int) ≤ 40) = true := decide_eq_true (by omega)
        have HE := Lib.hid (show few05 n1 n2 n3 n4 n5 = true by unfold few05; rw [hf]; simp [h4, h5])
        clear hf
        go_wp2
        go_ret
        exact ⟨ret_bool HE.out.symm, kw1⟩
      · have d5 : decide ((n5 : Int) ≤ 40) = false := decide_eq_false (by omega)
        have HE := Lib.hid (show few05 n1 n2 n3 n4 n5 = false by unfold few05; rw [hf]; simp [h5])
        clear hf
        go_wp2
        go_ret
        exact ⟨ret_bool HE.out.symm, kw1⟩
    · have d4 : decide ((n4 : Int) ≤ 40) = false := decide_eq_false (by omega)
      have HE := Lib.hid (show few05 n1 n2 n3 n4 n5 = false by unfold few05; rw [hf]; simp [h4])
      clear hf
      go_wp2
      go_ret
      exact ⟨ret_bool HE.out.symm, kw1⟩
theorem recs_one {α : Type} {cells : α → List Value} {size : Nat} (w : World) (y : α) (t : TypeId) {g : Nat} (hg : g = w.heap.size) : Recs size cells (w.alloc (.cells (cells y).toArray t)) (g + 1) (some ⟨g, 0, none⟩) [y] := by
  subst hg
  refine .inr ⟨w.heap.size, 0, rfl, by omega, fun i hi j u hu => ?_⟩
  obtain rfl : i = 0 := by simpa using hi
  simp at hu ⊢
  exact hu
theorem Out.alloc {α : Type} {size : Nat} {cells : α → List Value} {w : World} {xs : List α} {A : Option Addr} {c : Nat} (h : Out size cells w xs A c) (o : Obj) : Out size cells (w.alloc o) xs A c :=
  ⟨h.1, h.2.1, h.2.2.1, (h.2.2.2.below ((Below.refl _ w).alloc (Nat.le_refl _) o) (Nat.le_refl _)).more (by simp)⟩
def upPod : PodD := ⟨1, 0, 0, ⟨0, 0, 0, 0⟩, 0⟩
def upNode : NodeD := ⟨3, 1, ⟨0, 0, 0, 0⟩, ⟨0, 0, 0, 0⟩⟩
theorem up_none : makeD [] [] noState ⟨1, 1, 0, 0⟩ = (noState, 4) := by rfl
theorem up_some : makeD [upNode] [] ⟨[upPod], 0, 0⟩ ⟨1, 1, 3, 0⟩ = (⟨[⟨1, 0, 0, ⟨0, 0, 0, 0⟩, 3⟩], 0, 0⟩, 0) := by rfl
end Go.Proofs.YtoiblfaalfpbpaaDoor

namespace Go.Proofs.YtoiblfaalfpbpaaDoor
set_option linter.unusedSimpArgs false
open Go.RowKit
set_option linter.unusedVariables false

def SnapD.Ok (s : SnapD) : Prop := (∀ a ∈ s.nodes, a.Ok) ∧ (∀ a ∈ s.loads, a.Ok) ∧ (∀ a ∈ s.pods, a.Ok)
theorem errIs_none {B : Nat} {w : World} {u : Value} {p : Int × Int} (h : ErrIs p B w u) (hp : p.1 = 0) (h2 : p.2 = -1) : u = .nilIface := by
  rcases h with ⟨_, h⟩ | ⟨_, h, _⟩ | ⟨k, g, h, _⟩
  · exact h
  · omega
  · omega
theorem errIs_self {B : Nat} {w : World} {u : Value} {p : Int × Int} (h : ErrIs p B w u) (hp : p.1 ≠ 0) (h2 : p.2 = -1) : u = .iface 48 (.int .i64 p.1) := by
  rcases h with ⟨h, _⟩ | ⟨_, _, _, h⟩ | ⟨k, g, h, _⟩
  · rw [h] at hp; simp at hp
  · exact h
  · omega
theorem errIs_spot {B : Nat} {w : World} {u : Value} {p : Int × Int} (h : ErrIs p B w u) {k : Nat} (h2 : p.2 = k) : ∃ g, u = .iface 53 (.pointer (some ⟨g, 0, none⟩)) ∧ w.heap[g]? = some (.cells #[.int .i64 (k : Int), .int .i64 p.1] 55 (0, 0)) := by
  rcases h with ⟨h, _⟩ | ⟨h, _⟩ | ⟨k', g, h, h3, _, h4⟩
  · rw [h] at h2; exact absurd h2 (by simp)
  · omega
  · obtain rfl : k = k' := by omega
    exact ⟨g, h3, h4⟩
theorem errIs_some {B : Nat} {w : World} {u : Value} {p : Int × Int} (h : ErrIs p B w u) (hp : p.1 ≠ 0) : ∃ t v, u = .iface t v := by
  rcases h with ⟨h, _⟩ | ⟨_, _, _, h⟩ | ⟨k, g, h, h3, _⟩
  · rw [h] at hp; simp at hp
  · exact ⟨_, _, h⟩
  · exact ⟨_, _, h3⟩

theorem flat_at : ∀ (xs : List NodeD) (i : Nat) (h : i < xs.length) (j : Nat) (u : Value), (cellsN xs[i])[j]? = some u → (xs.flatMap cellsN)[i * 10 + j]? = some u
  | [], i, h, _, _, _ => by simp at h
  | x :: r, 0, _, j, u, hu => by
    have hj : j < (cellsN x).length := (List.getElem?_eq_some_iff.1 hu).1
    simp only [List.flatMap_cons, Nat.zero_mul, Nat.zero_add]
    rw [List.getElem?_append_left hj]
    exact hu
  | x :: r, i + 1, h, j, u, hu => by
    have hl : (cellsN x).length = 10 := rfl
    simp only [List.flatMap_cons]
    rw [List.getElem?_append_right (by rw [hl]; omega), hl, show (i + 1) * 10 + j - 10 = i * 10 + j by omega]
    exact flat_at r i (by simpa using h) j u hu
theorem recs_new (w : World) (t : TypeId) (xs : List NodeD) (cs : Array Value) (hc : cs = (xs.flatMap cellsN).toArray) : Recs 10 cellsN (w.alloc (.cells cs t)) (w.heap.size + 1) (some ⟨w.heap.size, 0, none⟩) xs := by
  refine .inr ⟨w.heap.size, 0, rfl, by omega, fun i hi j u hu => ?_⟩
  have h1 := flat_at xs i hi j u hu
  rw [World.cell?_alloc_at _ _ _ _ rfl, hc]
  simpa using h1
def z4 : V4 := ⟨0, 0, 0, 0⟩
def nd3 : NodeD := ⟨3, 1, z4, z4⟩
theorem z4_ok : z4.Ok := ⟨⟨by decide, by decide⟩, ⟨by decide, by decide⟩, ⟨by decide, by decide⟩, ⟨by decide, by decide⟩⟩
theorem nd3_ok : nd3.Ok := ⟨⟨by decide, by decide⟩, ⟨by decide, by decide⟩, z4_ok, z4_ok⟩
theorem check_0 : check ⟨[], [], []⟩ = (3, -1) := by decide
theorem check_1 : check ⟨[nd3], [], []⟩ = (0, -1) := by decide
theorem check_2 : check ⟨[nd3, nd3], [], []⟩ = (5, 1) := by decide

/-- ClusterFewer: what may be has with fewer pods what may be. -/
theorem ok_fewer {s : SnapD} (h : s.Ok) (n : Nat) : SnapD.Ok { s with pods := s.pods.take n } := ⟨h.1, h.2.1, fun a ha => h.2.2 a (List.mem_of_mem_take ha)⟩
end Go.Proofs.YtoiblfaalfpbpaaDoor
