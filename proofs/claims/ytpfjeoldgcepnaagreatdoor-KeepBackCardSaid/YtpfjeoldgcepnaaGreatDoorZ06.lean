/- Joined texts, part 6: UI UJ ZA VB. -/
import Derived.Test.YtpfjeoldgcepnaaGreatDoorZ05
import Derived.Test.YtpfjeoldgcepnaaGreatDoorZ02

/- What a move does: the program's behind of layer 5. -/
namespace Go.Proofs.YtpfjeoldgcepnaaGreatDoor
set_option linter.unusedSimpArgs false
open Go.RowKit
set_option linter.unusedVariables false

/-- A box of the call's own that holds these cells. -/
structure Bf (V : World) (b : Nat) (cs : List Value) : Prop where
  lt : b < V.heap.size
  cell : ∀ j u, cs[j]? = some u → V.cell? ⟨b, j, none⟩ = some u
  frozen : ∀ o, V.frozen? ⟨b, o, none⟩ = false
section
variable {V V' : World} {b B : Nat} {cs : List Value}
theorem Bf.below (h : Bf V b cs) (hb : Below B V V') (hB : b < B) : Bf V' b cs :=
  ⟨Nat.lt_of_lt_of_le h.lt hb.size, fun j u hu => (hb.cell (p := ⟨b, j, none⟩) hB).trans (h.cell j u hu), fun o => (hb.frozen (p := ⟨b, o, none⟩) hB).trans (h.frozen o)⟩
theorem Bf.new (w : World) (cs : List Value) (t : TypeId) {b : Nat} (hb : b = w.heap.size) : Bf (w.alloc (.cells cs.toArray t)) b cs := by
  subst hb
  exact ⟨by simp, fun j u hu => by simpa using hu, fun o => by simp⟩
theorem Bf.alloc (h : Bf V b cs) (o : Obj) : Bf (V.alloc o) b cs := h.below ((Below.refl _ V).alloc (Nat.le_refl _) o) h.lt
theorem Bf.other (h : Bf V b cs) {p : Addr} (hp : p.block ≠ b) (v : Value) : Bf (V.setCell p v) b cs :=
  ⟨by simpa using h.lt, fun j u hu => by rw [World.cell?_setCell_other _ _ _ _ (by intro e; exact hp (by rw [e]))]; exact h.cell j u hu, fun o => by simpa using h.frozen o⟩
theorem Bf.set (h : Bf V b cs) (i : Nat) (v : Value) : Bf (V.setCell ⟨b, i, none⟩ v) b (cs.set i v) := by
  refine ⟨by simpa using h.lt, fun j u hu => ?_, fun o => by simpa using h.frozen o⟩
  by_cases e : j = i
  · subst e
    have hj : j < cs.length := by have := (List.getElem?_eq_some_iff.1 hu).1; simpa using this
    rw [List.getElem?_set_self hj] at hu
    obtain rfl := Option.some.inj hu
    exact World.cell?_setCell_same _ _ _ (h.cell j _ (List.getElem?_eq_getElem hj))
  · rw [List.getElem?_set_ne (fun e' => e e'.symm)] at hu
    rw [World.cell?_setCell_other _ _ _ _ (by intro e'; injection e'; omega)]
    exact h.cell j u hu
end
/-- What stands while behind is at work. -/
structure Beh (A : Option Addr) (n c : Nat) (v1 v2 : Value) (g c' k : Nat) (p s : Int) (m : MoveD) (l : List PodD) (w V : World) : Prop where
  spec : Bf V w.heap.size [.slice A n c, v1, v2]
  state : Bf V (w.heap.size + 1) [.slice (some ⟨g, 0, none⟩) k c', .int .i64 p, .int .i64 s]
  move : Bf V (w.heap.size + 2) [.int .i64 m.kind, .int .i64 m.pod, .int .i64 m.node, .int .i64 m.over]
  res : Bf V (w.heap.size + 3) [.slice none 0 0, .int .i64 0, .int .i64 0]
  lst : Lst g l V
  below : Below w.heap.size w V
  hg : w.heap.size + 4 ≤ g
section
variable {A : Option Addr} {n c : Nat} {v1 v2 : Value} {g c' k : Nat} {p s : Int} {m : MoveD} {l : List PodD} {w V V' : World}
theorem Beh.keep (h : Beh A n c v1 v2 g c' k p s m l w V) (hb : Below V.heap.size V V') : Beh A n c v1 v2 g c' k p s m l w V' :=
  ⟨h.spec.below hb h.spec.lt, h.state.below hb h.state.lt, h.move.below hb h.move.lt, h.res.below hb h.res.lt, h.lst.below hb, h.below.trans (hb.mono h.below.size), h.hg⟩
theorem Beh.turn {l' : List PodD} (h : Beh A n c v1 v2 g c' k p s m l w V) (hb : Below g V V') (hl : Lst g l' V') : Beh A n c v1 v2 g c' k p s m l' w V' := by
  have hg := h.hg
  exact ⟨h.spec.below hb (by omega), h.state.below hb (by omega), h.move.below hb (by omega), h.res.below hb (by omega), hl, h.below.trans (hb.mono (by omega)), h.hg⟩
theorem Beh.shift (h : Beh A n c v1 v2 g c' k p s m l w V) (s' : Int) : Beh A n c v1 v2 g c' k p s' m l w (V.setCell ⟨w.heap.size + 1, 2, none⟩ (.int .i64 s')) := by
  have hg := h.hg
  exact ⟨h.spec.other (by simp) _, h.state.set 2 _, h.move.other (by simp) _, h.res.other (by simp) _, h.lst.other (by show w.heap.size + 1 ≠ g; omega) _, h.below.setCell (by simp) _, h.hg⟩
theorem Beh.pre (h : Beh A n c v1 v2 g c' k p s m l w V) (p' : Int) : Beh A n c v1 v2 g c' k p' s m l w (V.setCell ⟨w.heap.size + 1, 1, none⟩ (.int .i64 p')) := by
  have hg := h.hg
  exact ⟨h.spec.other (by simp) _, h.state.set 1 _, h.move.other (by simp) _, h.res.other (by simp) _, h.lst.other (by show w.heap.size + 1 ≠ g; omega) _, h.below.setCell (by simp) _, h.hg⟩
theorem Beh.facts (h : Beh A n c v1 v2 g c' k p s m l w V) :
    (V.cell? ⟨w.heap.size, 0, none⟩ = some (.slice A n c) ∧ V.cell? ⟨w.heap.size, 1, none⟩ = some v1 ∧ V.cell? ⟨w.heap.size, 2, none⟩ = some v2) ∧
    (V.cell? ⟨w.heap.size + 1, 0, none⟩ = some (.slice (some ⟨g, 0, none⟩) k c') ∧ V.cell? ⟨w.heap.size + 1, 1, none⟩ = some (.int .i64 p) ∧ V.cell? ⟨w.heap.size + 1, 2, none⟩ = some (.int .i64 s)) ∧
    (V.cell? ⟨w.heap.size + 2, 0, none⟩ = some (.int .i64 m.kind) ∧ V.cell? ⟨w.heap.size + 2, 1, none⟩ = some (.int .i64 m.pod) ∧ V.cell? ⟨w.heap.size + 2, 2, none⟩ = some (.int .i64 m.node) ∧ V.cell? ⟨w.heap.size + 2, 3, none⟩ = some (.int .i64 m.over)) ∧
    w.heap.size < V.heap.size ∧ w.heap.size + 1 < V.heap.size ∧ w.heap.size + 2 < V.heap.size ∧ w.heap.size + 3 < V.heap.size ∧ g < V.heap.size :=
  ⟨⟨h.spec.cell 0 _ rfl, h.spec.cell 1 _ rfl, h.spec.cell 2 _ rfl⟩, ⟨h.state.cell 0 _ rfl, h.state.cell 1 _ rfl, h.state.cell 2 _ rfl⟩, ⟨h.move.cell 0 _ rfl, h.move.cell 1 _ rfl, h.move.cell 2 _ rfl, h.move.cell 3 _ rfl⟩, h.spec.lt, h.state.lt, h.move.lt, h.res.lt, h.lst.lt⟩
theorem Beh.facts2 (h : Beh A n c v1 v2 g c' k p s m l w V) :
    (V.cell? ⟨w.heap.size + 3, 0, none⟩ = some (.slice none 0 0) ∧ V.cell? ⟨w.heap.size + 3, 1, none⟩ = some (.int .i64 0) ∧ V.cell? ⟨w.heap.size + 3, 2, none⟩ = some (.int .i64 0)) ∧
    (V.frozen? ⟨w.heap.size + 3, 0, none⟩ = false ∧ V.frozen? ⟨w.heap.size + 3, 1, none⟩ = false ∧ V.frozen? ⟨w.heap.size + 3, 2, none⟩ = false) ∧
    (V.frozen? ⟨w.heap.size + 1, 1, none⟩ = false ∧ V.frozen? ⟨w.heap.size + 1, 2, none⟩ = false) :=
  ⟨⟨h.res.cell 0 _ rfl, h.res.cell 1 _ rfl, h.res.cell 2 _ rfl⟩, ⟨h.res.frozen 0, h.res.frozen 1, h.res.frozen 2⟩, h.state.frozen 1, h.state.frozen 2⟩
end
theorem place_eq {id : Int} : ∀ {l : List PodD} {k : Int} {i : Nat} (hi : i < l.length), place PodD.id id l k = k + i → 0 ≤ k → l[i].id = id
  | [], _, _, hi, _, _ => by simp at hi
  | x :: r, k, i, hi, h, hk => by
    by_cases hx : x.id = id
    · simp only [place, if_pos hx] at h
      obtain rfl : i = 0 := by omega
      exact hx
    · simp only [place, if_neg hx] at h
      cases i with
      | zero =>
        have h3 : place PodD.id id r (k + 1) < 0 ∨ k + 1 ≤ place PodD.id id r (k + 1) := place_or r (k + 1) (by omega)
        omega
      | succ i =>
        simp only [List.getElem_cons_succ]
        exact place_eq (k := k + 1) (by simpa using hi) (by rw [h]; omega) (by omega)
theorem place_is {l : List PodD} {id : Int} {i : Nat} (hi : i < l.length) (h : place PodD.id id l 0 = i) : l[i].id = id := by
  have := place_eq (l := l) (id := id) (k := 0) hi (by omega) (by omega)
  exact this
/-- A pod that goes. -/
def goD (p : PodD) : PodD := ⟨p.id, p.load, p.prio, p.req, 0⟩
def idxD (id : Int) (l : List PodD) : Nat := (place PodD.id id l 0).toNat
def behindD (x : List WantD) (t : StateD) (m : MoveD) : StateD :=
  if m.kind = 2 then ⟨t.pods.set (idxD m.pod t.pods) (goD (podZ m.pod t.pods)), t.preempts, t.shifts⟩
  else if m.kind = 3 then ⟨t.pods.set (idxD m.pod t.pods) (comeD x m.node (podZ m.pod t.pods)), t.preempts, wrap64 (t.shifts + 1)⟩
  else if m.kind = 4 then ⟨(t.pods.set (idxD m.over t.pods) (goD (podZ m.over t.pods))).set (idxD m.pod t.pods) (comeD x m.node (podZ m.pod t.pods)), wrap64 (t.preempts + 1), t.shifts⟩
  else ⟨t.pods.set (idxD m.pod t.pods) (comeD x m.node (podZ m.pod t.pods)), t.preempts, t.shifts⟩
/-- A state that is told: its pods in new memory. -/
def StateTo (u : StateD) (w : World) (v : Value) (w' : World) : Prop := ∃ A c, v = stateV A u.pods.length c u.preempts u.shifts ∧ Out 8 cellsP w' u.pods A c ∧ (∀ a, A = some a → w.heap.size ≤ a.block) ∧ Below w.heap.size w w'
theorem Beh.done {A : Option Addr} {n c : Nat} {v1 v2 : Value} {g c' k : Nat} {p s : Int} {m : MoveD} {l : List PodD} {w V : World} (h : Beh A n c v1 v2 g c' k p s m l w V) (hk : k = l.length) (hc : k ≤ c') (hm : c' ≤ maxLen) {x y z : Value} :
    StateTo ⟨l, p, s⟩ w (stateV (some ⟨g, 0, none⟩) k c' p s) (((V.setCell ⟨w.heap.size + 3, 0, none⟩ x).setCell ⟨w.heap.size + 3, 1, none⟩ y).setCell ⟨w.heap.size + 3, 2, none⟩ z) := by
  subst hk
  have hg := h.hg
  have hl := (((h.lst.other (p := ⟨w.heap.size + 3, 0, none⟩) (by show w.heap.size + 3 ≠ g; omega) x).other (p := ⟨w.heap.size + 3, 1, none⟩) (by show w.heap.size + 3 ≠ g; omega) y).other (p := ⟨w.heap.size + 3, 2, none⟩) (by show w.heap.size + 3 ≠ g; omega) z)
  exact ⟨_, _, rfl, ⟨hc, hm, (by intro e; cases e), hl.recs⟩, (by intro a e; injection e with e; subst e; show w.heap.size ≤ g; omega), ((h.below.setCell (by simp) _).setCell (by simp) _).setCell (by simp) _⟩
set_option maxHeartbeats 6400000 in
set_option maxRecDepth 100000 in
theorem behind_any (x : List WantD) (t : StateD) (m : MoveD) (hk1 : m.kind = 1 ∨ m.kind = 2 ∨ m.kind = 3 ∨ m.kind = 4) (hpod : ¬ place PodD.id m.pod t.pods 0 < 0) (hover : m.kind = 4 → ¬ place PodD.id m.over t.pods 0 < 0 ∧ m.over ≠ m.pod)
    (A A2 : Option Addr) (n c n2 c2 : Nat) (v1 v2 : Value) (w : World) (hn : n = x.length) (hl : n ≤ 1000) (hr : Recs 6 cellsW w w.heap.size A x) (hn2 : n2 = t.pods.length) (hl2 : n2 ≤ 1000) (h02 : A2 = none → c2 = 0) (hr2 : Recs 8 cellsP w w.heap.size A2 t.pods) :
    Calls Tryz.prog 85 #[.agg #[.slice A n c, v1, v2], stateV A2 n2 c2 t.preempts t.shifts, aggM m] w fun e w' => ∃ v, e = .returned v ∧ StateTo (behindD x t m) w v w' := by
  obtain ⟨i, hi, hpi⟩ := place_hit hpod
  obtain ⟨l, p, s⟩ := t
  have HR := Lib.hid hr
  have HN := Lib.hid hn
  have HO := Lib.hid hover
  have b00 := below_four w (.cells #[.slice A n c, v1, v2] 29) (.cells #[.slice A2 n2 c2, .int .i64 p, .int .i64 s] 42) (.cells #[.int .i64 m.kind, .int .i64 m.pod, .int .i64 m.node, .int .i64 m.over] 48) (.cells #[.slice none 0 0, .int .i64 0, .int .i64 0] 42)
  have HC := Lib.hid (clone_any l A2 n2 c2 _ hn2 hl2 h02 ((hr2.below b00 (Nat.le_refl _)).more b00.size))
  have HN2 := Lib.hid hn2
  clear hr hn hover hr2 hn2 h02 hpod
  go_enter Tryz.func85, Tryz.ntmps85
  go_wp2_with fail
  refine HC.out.mono ?_
  rintro e w1 ⟨A3, c3, rfl, hfr, hb1⟩
  obtain ⟨g, rfl, hg, hc3, hm3, hL⟩ := Lst.fresh hfr (by omega)
  have hlen : l.length = n2 := HN2.out.symm
  rw [hlen] at hc3
  have s0 := ((((Bf.new w [.slice A n c, v1, v2] 29 rfl).alloc (.cells #[.slice A2 n2 c2, .int .i64 p, .int .i64 s] 42)).alloc (.cells #[.int .i64 m.kind, .int .i64 m.pod, .int .i64 m.node, .int .i64 m.over] 48)).alloc (.cells #[.slice none 0 0, .int .i64 0, .int .i64 0] 42)).below hb1 (by first | (simp; done) | (simp; omega))
  have s1 := (((Bf.new (w.alloc (.cells #[.slice A n c, v1, v2] 29)) [.slice A2 n2 c2, .int .i64 p, .int .i64 s] 42 (b := w.heap.size + 1) (by simp)).alloc (.cells #[.int .i64 m.kind, .int .i64 m.pod, .int .i64 m.node, .int .i64 m.over] 48)).alloc (.cells #[.slice none 0 0, .int .i64 0, .int .i64 0] 42)).below hb1 (by first | (simp; done) | (simp; omega))
  have s2 := ((Bf.new ((w.alloc (.cells #[.slice A n c, v1, v2] 29)).alloc (.cells #[.slice A2 n2 c2, .int .i64 p, .int .i64 s] 42)) [.int .i64 m.kind, .int .i64 m.pod, .int .i64 m.node, .int .i64 m.over] 48 (b := w.heap.size + 2) (by simp)).alloc (.cells #[.slice none 0 0, .int .i64 0, .int .i64 0] 42)).below hb1 (by first | (simp; done) | (simp; omega))
  have s3 := (Bf.new (((w.alloc (.cells #[.slice A n c, v1, v2] 29)).alloc (.cells #[.slice A2 n2 c2, .int .i64 p, .int .i64 s] 42)).alloc (.cells #[.int .i64 m.kind, .int .i64 m.pod, .int .i64 m.node, .int .i64 m.over] 48)) [.slice none 0 0, .int .i64 0, .int .i64 0] 42 (b := w.heap.size + 3) (by simp)).below hb1 (by first | (simp; done) | (simp; omega))
  have hg4 : w.heap.size + 4 ≤ g := by simpa using hg
  have B1 : Beh A n c v1 v2 g c3 n2 p s m l w (w1.setCell ⟨w.heap.size + 1, 0, none⟩ (.slice (some ⟨g, 0, none⟩) n2 c3)) :=
    ⟨s0.other (by simp) _, s1.set 0 _, s2.other (by simp) _, s3.other (by simp) _, hL.other (by show w.heap.size + 1 ≠ g; omega) _, (b00.trans (hb1.mono b00.size)).setCell (by simp) _, hg4⟩
  have fc := s1.cell 0 _ rfl
  have fz := s1.frozen 0
  have S1 := Lib.hid hlen
  clear s0 s1 s2 s3 hg hL hfr hb1 HC b00 hlen
  go_wp2
  generalize hW : w1.setCell ⟨w.heap.size + 1, 0, none⟩ (.slice (some ⟨g, 0, none⟩) n2 c3) = W at *
  clear hW fc fz
  have HB1 := Lib.hid B1
  obtain ⟨⟨a0, a1, a2⟩, ⟨a3, a4, a5⟩, ⟨a6, a7, a8, a9⟩, hz0, hz1, hz2, hz3, hzg⟩ := B1.facts
  have HPP : Hid (∀ (id : Int) (v : World), Keeps W v → Calls Tryz.prog 118 #[stateV (some ⟨g, 0, none⟩) n2 c3 p s, .int .i64 id] v fun e w' => e = .returned (.int .i64 (place PodD.id id l 0)) ∧ Below v.heap.size v w') :=
    fun id v hv => place_any l id (some ⟨g, 0, none⟩) n2 c3 (.int .i64 p) (.int .i64 s) v HN2.out hl2 (HB1.out.keep hv.2).lst.recs
  have HP1 : Hid (∀ (v : World), Keeps W v → Calls Tryz.prog 118 #[stateV (some ⟨g, 0, none⟩) n2 c3 p s, .int .i64 m.pod] v fun e w' => e = .returned (.int .i64 (i : Int)) ∧ Below v.heap.size v w') := by
    have := HPP.out m.pod
    rw [hpi] at this
    exact this
  have hin : i < n2 := by have := S1.out; omega
  have hi0 : (0 : Int) ≤ (i : Int) := by omega
  have hi1 : (i : Int) < (n2 : Int) := by omega
  have HPI := Lib.hid hpi
  clear hpi B1 HPP
  go_region_held3 (fun w' => (∀ b o, b < W.heap.size → w'.cell? ⟨b, o, none⟩ = W.cell? ⟨b, o, none⟩) ∧ Below W.heap.size W w')
    (first | (with_reducible assumption) | (show Keeps W _; with_reducible (repeat (first | exact Keeps.refl _ | refine Keeps.drew ?_ | refine Keeps.set ?_ (by simp) _ | refine Keeps.alloc ?_ _ | refine Keeps.step ?_ (by assumption)))))
    (first
      | (go_at_call 118; refine (HP1.out _ (by assumption)).mono ?_; rintro e w' ⟨rfl, hb⟩))
  rename_i hK
  have B2 := HB1.out.keep hK.2
  have HB2 := Lib.hid B2
  clear hK hb HP1 a0 a1 a2 a3 a4 a5 a6 a7 a8 a9 hz0 hz1 hz2 hz3 hzg HB1
  generalize hV : w' = V at *
  clear hV
  obtain ⟨⟨a0, a1, a2⟩, ⟨a3, a4, a5⟩, ⟨a6, a7, a8, a9⟩, hz0, hz1, hz2, hz3, hzg⟩ := B2.facts
  obtain ⟨⟨r0, r1, r2⟩, ⟨z0, z1, z2⟩, z3, z4⟩ := B2.facts2
  have hgn1 : g ≠ w.heap.size + 1 := by omega
  have hgn2 : g ≠ w.heap.size + 2 := by omega
  have hgn3 : g ≠ w.heap.size + 3 := by omega
  have hgn0 : g ≠ w.heap.size := by omega
  have hon1 : w.heap.size + 1 ≠ g := by omega
  have hon2 : w.heap.size + 2 ≠ g := by omega
  have hon3 : w.heap.size + 3 ≠ g := by omega
  have HIX : Hid (idxD m.pod l = i) := by show _ = _; rw [idxD, HPI.out]; rfl
  have HPZ := Lib.hid (podZ_some hi HPI.out)
  have HLEN : Hid (n2 ≤ c3 ∧ c3 ≤ maxLen) := ⟨hc3, hm3⟩
  clear hc3 hm3
  have HCM := Lib.hid (fun (l' : List PodD) (i' : Nat) (hi' : i' < l'.length) (p' s' : Int) (v : World) (hB : Beh A n c v1 v2 g c3 n2 p' s' m l' w v) => come_any x l' g i' hi' m.node A n c v1 v2 v HN.out hl ((HR.out.below hB.below (Nat.le_refl _)).more (by have := hB.hg; omega)) hB.lst)
  by_cases h2 : m.kind = 2
  · have HE := Lib.hid (show behindD x ⟨l, p, s⟩ m = ⟨l.set i (goD l[i]), p, s⟩ by simp only [behindD, if_pos h2, HIX.out, HPZ.out])
    have d2 : (m.kind == 2) = true := by simp [h2]
    have c7 := HB2.out.lst.at hi rfl 7 _ rfl
    have zz7 := HB2.out.lst.frozen (i * 8 + 7)
    clear h2
    go_wp2
    refine bodyPost_ret (v := stateV (some ⟨g, 0, none⟩) n2 c3 p s) ?_ rfl ⟨_, rfl, ?_⟩
    · simp [results, Tryz.results85, go_sem, *]
    · rw [HE.out]
      exact (HB2.out.turn ((Below.refl g V).setCell (Nat.le_refl _) _) (HB2.out.lst.put hi (j := 7) (by omega) (.int .i64 0) (goD l[i]) rfl)).done (by simpa using S1.out.symm) HLEN.out.1 HLEN.out.2
  have d2 : (m.kind == 2) = false := by simp [h2]
  by_cases h3 : m.kind = 3
  · have HE := Lib.hid (show behindD x ⟨l, p, s⟩ m = ⟨l.set i (comeD x m.node l[i]), p, wrap64 (s + 1)⟩ by simp only [behindD, if_neg h2, if_pos h3, HIX.out, HPZ.out])
    have d3 : (m.kind == 3) = true := by simp [h3]
    have B3 := HB2.out.shift (wrap64 (s + 1))
    clear h2 h3
    go_wp2_with fail
    refine (HCM.out l i hi _ _ _ B3).mono ?_
    rintro e w5 ⟨rfl, hL5, hb5⟩
    have B5 := B3.turn hb5 hL5
    have HB5 := Lib.hid B5
    clear r0 r1 r2 z0 z1 z2 z3 z4 a0 a1 a2 a3 a4 a5 a6 a7 a8 a9 B3 B2 hL5 hb5
    obtain ⟨⟨a0, a1, a2⟩, ⟨a3, a4, a5⟩, ⟨a6, a7, a8, a9⟩, _⟩ := B5.facts
    obtain ⟨⟨r0, r1, r2⟩, ⟨z0, z1, z2⟩, z3, z4⟩ := B5.facts2
    go_wp2
    refine bodyPost_ret (v := stateV (some ⟨g, 0, none⟩) n2 c3 p (wrap64 (s + 1))) ?_ rfl ⟨_, rfl, ?_⟩
    · simp [results, Tryz.results85, go_sem, *]
    · rw [HE.out]
      exact HB5.out.done (by simpa using S1.out.symm) HLEN.out.1 HLEN.out.2
  have d3 : (m.kind == 3) = false := by simp [h3]
  by_cases h4 : m.kind = 4
  · obtain ⟨hov, hne⟩ := HO.out h4
    obtain ⟨k, hk, hpk⟩ := place_hit (l := l) (id := m.over) (by omega)
    have HPK := Lib.hid (podZ_some hk hpk)
    have HIK : Hid (idxD m.over l = k) := by show _ = _; rw [idxD, hpk]; rfl
    have HNE : Hid (k ≠ i) := by
      show k ≠ i
      intro e
      subst e
      have e1 := place_is hk hpk
      have e2 := place_is hk HPI.out
      exact hne (e1.symm.trans e2)
    have HE := Lib.hid (show behindD x ⟨l, p, s⟩ m = ⟨(l.set k (goD l[k])).set i (comeD x m.node l[i]), wrap64 (p + 1), s⟩ by simp only [behindD, if_neg h2, if_neg h3, if_pos h4, HIX.out, HPZ.out, HIK.out, HPK.out])
    have d4 : (m.kind == 4) = true := by simp [h4]
    have B3 := HB2.out.pre (wrap64 (p + 1))
    clear h2 h3 h4 hov hne
    go_wp2
    generalize hW : V.setCell ⟨w.heap.size + 1, 1, none⟩ (.int .i64 (wrap64 (p + 1))) = U at *
    clear hW r0 r1 r2 z0 z1 z2 z3 z4 a0 a1 a2 a3 a4 a5 a6 a7 a8 a9 B2 hz0 hz1 hz2 hz3 hzg
    obtain ⟨⟨a0, a1, a2⟩, ⟨a3, a4, a5⟩, ⟨a6, a7, a8, a9⟩, hz0, hz1, hz2, hz3, hzg⟩ := B3.facts
    have HB3 := Lib.hid B3
    have c7 := B3.lst.at hk rfl 7 _ rfl
    have zz7 := B3.lst.frozen (k * 8 + 7)
    have hk0 : (0 : Int) ≤ (k : Int) := by omega
    have hk1 : (k : Int) < (n2 : Int) := by have := S1.out; omega
    have HPO : Hid (∀ (v : World), Keeps U v → Calls Tryz.prog 118 #[stateV (some ⟨g, 0, none⟩) n2 c3 (wrap64 (p + 1)) s, .int .i64 m.over] v fun e w' => e = .returned (.int .i64 (k : Int)) ∧ Below v.heap.size v w') := by
      have := fun (v : World) (hv : Keeps U v) => place_any l m.over (some ⟨g, 0, none⟩) n2 c3 (.int .i64 (wrap64 (p + 1))) (.int .i64 s) v HN2.out hl2 (HB3.out.keep hv.2).lst.recs
      rw [hpk] at this
      exact this
    have HBK := Lib.hid (fun (v : World) (hb : Below U.drew.heap.size U.drew v) => let B4 := HB3.out.keep (V' := v) ⟨hb.os, hb.tape, hb.output, hb.size, hb.block⟩; And.intro B4.facts (And.intro (B4.lst.at hk rfl 7 _ rfl) (B4.lst.frozen (k * 8 + 7))))
    clear hpk B3
    go_region_with (go_at_call 118; refine (HPO.out _ (Keeps.drew (Keeps.refl _))).mono ?_; rintro e w' ⟨rfl, hb⟩; obtain ⟨⟨⟨f0, f1, f2⟩, ⟨f3, f4, f5⟩, ⟨f6, f7, f8, f9⟩, y0, y1, y2, y3, y4⟩, q7, qq7⟩ := HBK.out w' hb)
    all_goals
      have B4 := HB3.out.keep (V' := w') ⟨hb.os, hb.tape, hb.output, hb.size, hb.block⟩
      have B5 := B4.turn ((Below.refl g w').setCell (p := ⟨g, k * 8 + 7, none⟩) (Nat.le_refl _) (.int .i64 0)) (B4.lst.put hk (j := 7) (by omega) (.int .i64 0) (goD l[k]) rfl)
      clear f0 f1 f2 f3 f4 f5 f6 f7 f8 f9 y0 y1 y2 y3 y4 q7 qq7 hb B4 a0 a1 a2 a3 a4 a5 a6 a7 a8 a9 c7 zz7 hz0 hz1 hz2 hz3 hzg
      generalize w'.setCell ⟨g, k * 8 + 7, none⟩ (.int .i64 0) = Y at *
      obtain ⟨⟨a0, a1, a2⟩, ⟨a3, a4, a5⟩, ⟨a6, a7, a8, a9⟩, hz0, hz1, hz2, hz3, hzg⟩ := B5.facts
      have HB5 := Lib.hid B5
      clear B5
      go_wp2_with fail
      refine (HCM.out (l.set k (goD l[k])) i (by simpa using hi) _ _ _ HB5.out).mono ?_
      rintro e w5 ⟨rfl, hL5, hb5⟩
      have B6 := HB5.out.turn hb5 hL5
      rw [List.getElem_set_ne HNE.out] at B6
      have HB6 := Lib.hid B6
      clear a0 a1 a2 a3 a4 a5 a6 a7 a8 a9 hz0 hz1 hz2 hz3 hzg hL5 hb5
      obtain ⟨⟨a0, a1, a2⟩, ⟨a3, a4, a5⟩, ⟨a6, a7, a8, a9⟩, _⟩ := B6.facts
      obtain ⟨⟨r0, r1, r2⟩, ⟨z0, z1, z2⟩, z3, z4⟩ := B6.facts2
      clear B6
      go_wp2
      refine bodyPost_ret (v := stateV (some ⟨g, 0, none⟩) n2 c3 (wrap64 (p + 1)) s) ?_ rfl ⟨_, rfl, ?_⟩
      · simp [results, Tryz.results85, go_sem, *]
      · rw [HE.out]
        exact HB6.out.done (by simpa using S1.out.symm) HLEN.out.1 HLEN.out.2
  have d4 : (m.kind == 4) = false := by simp [h4]
  have d1 : (m.kind == 1) = true := by rcases hk1 with h | h | h | h <;> simp_all
  have HE := Lib.hid (show behindD x ⟨l, p, s⟩ m = ⟨l.set i (comeD x m.node l[i]), p, s⟩ by simp only [behindD, if_neg h2, if_neg h3, if_neg h4, HIX.out, HPZ.out])
  clear h2 h3 h4 hk1
  go_wp2_with fail
  refine (HCM.out l i hi _ _ _ HB2.out).mono ?_
  rintro e w5 ⟨rfl, hL5, hb5⟩
  have B5 := HB2.out.turn hb5 hL5
  have HB5 := Lib.hid B5
  clear r0 r1 r2 z0 z1 z2 z3 z4 a0 a1 a2 a3 a4 a5 a6 a7 a8 a9 B2 hL5 hb5
  obtain ⟨⟨a0, a1, a2⟩, ⟨a3, a4, a5⟩, ⟨a6, a7, a8, a9⟩, _⟩ := B5.facts
  obtain ⟨⟨r0, r1, r2⟩, ⟨z0, z1, z2⟩, z3, z4⟩ := B5.facts2
  go_wp2
  refine bodyPost_ret (v := stateV (some ⟨g, 0, none⟩) n2 c3 p s) ?_ rfl ⟨_, rfl, ?_⟩
  · simp [results, Tryz.results85, go_sem, *]
  · rw [HE.out]
    exact HB5.out.done (by simpa using S1.out.symm) HLEN.out.1 HLEN.out.2
end Go.Proofs.YtpfjeoldgcepnaaGreatDoor

/- What a move comes to: the program's Make of layer 5. -/
namespace Go.Proofs.YtpfjeoldgcepnaaGreatDoor
set_option linter.unusedSimpArgs false
open Go.RowKit
set_option linter.unusedVariables false

/-- What a move comes to: the state, and an error's number. -/
def noState : StateD := ⟨[], 0, 0⟩
def makeD (nodes : List NodeD) (x : List WantD) (t : StateD) (m : MoveD) : StateD × Int :=
  if wellD m = false then (noState, 1) else if hereD nodes t.pods m = false then (noState, 4) else if canD t.pods m = false then (noState, 7) else (behindD x t m, 0)
def codeV (c : Int) : Value := if c = 0 then .nilIface else .iface 98 (.int .i64 c)
theorem well_kinds {m : MoveD} (h : wellD m = true) : m.kind = 1 ∨ m.kind = 2 ∨ m.kind = 3 ∨ m.kind = 4 := by
  unfold wellD at h
  split at h
  · omega
  · split at h
    · omega
    · have : m.kind = 4 := by simpa using h
      omega
theorem here_pod {nodes : List NodeD} {l : List PodD} {m : MoveD} (h : hereD nodes l m = true) : ¬ place PodD.id m.pod l 0 < 0 := by
  intro e
  simp [hereD, e] at h
theorem here_over {nodes : List NodeD} {l : List PodD} {m : MoveD} (h : hereD nodes l m = true) (hc : canD l m = true) : m.kind = 4 → ¬ place PodD.id m.over l 0 < 0 ∧ m.over ≠ m.pod := by
  intro h4
  constructor
  · intro e
    simp [hereD, e, h4] at h
  · intro e
    simp [canD, h4, e] at hc
/-- What stands while Make is at work. -/
structure Mk (snap spec state move : List Value) (w V : World) : Prop where
  snap : Bf V w.heap.size snap
  spec : Bf V (w.heap.size + 1) spec
  state : Bf V (w.heap.size + 2) state
  move : Bf V (w.heap.size + 3) move
  res : Bf V (w.heap.size + 4) [.slice none 0 0, .int .i64 0, .int .i64 0]
  below : Below w.heap.size w V
section
variable {a b c d : List Value} {w V V' : World}
theorem Mk.keep (h : Mk a b c d w V) (hb : Below V.heap.size V V') : Mk a b c d w V' :=
  ⟨h.snap.below hb h.snap.lt, h.spec.below hb h.spec.lt, h.state.below hb h.state.lt, h.move.below hb h.move.lt, h.res.below hb h.res.lt, h.below.trans (hb.mono h.below.size)⟩
theorem Mk.new (w : World) (a b c d : List Value) (t1 t2 t3 t4 t5 : TypeId) : Mk a b c d w (((((w.alloc (.cells a.toArray t1)).alloc (.cells b.toArray t2)).alloc (.cells c.toArray t3)).alloc (.cells d.toArray t4)).alloc (.cells #[.slice none 0 0, .int .i64 0, .int .i64 0] t5)) :=
  ⟨((((Bf.new w a t1 rfl).alloc _).alloc _).alloc _).alloc _, (((Bf.new (w.alloc (.cells a.toArray t1)) b t2 (b := w.heap.size + 1) (by simp)).alloc _).alloc _).alloc _,
    ((Bf.new ((w.alloc (.cells a.toArray t1)).alloc (.cells b.toArray t2)) c t3 (b := w.heap.size + 2) (by simp)).alloc _).alloc _, (Bf.new (((w.alloc (.cells a.toArray t1)).alloc (.cells b.toArray t2)).alloc (.cells c.toArray t3)) d t4 (b := w.heap.size + 3) (by simp)).alloc _,
    Bf.new ((((w.alloc (.cells a.toArray t1)).alloc (.cells b.toArray t2)).alloc (.cells c.toArray t3)).alloc (.cells d.toArray t4)) [.slice none 0 0, .int .i64 0, .int .i64 0] t5 (b := w.heap.size + 4) (by simp),
    (below_four w _ _ _ _).alloc (by simp; omega) _⟩
theorem Mk.facts {a0 a1 a2 b0 b1 b2 c0 c1 c2 d0 d1 d2 d3 : Value} (h : Mk [a0, a1, a2] [b0, b1, b2] [c0, c1, c2] [d0, d1, d2, d3] w V) :
    (V.cell? ⟨w.heap.size, 0, none⟩ = some a0 ∧ V.cell? ⟨w.heap.size, 1, none⟩ = some a1 ∧ V.cell? ⟨w.heap.size, 2, none⟩ = some a2) ∧
    (V.cell? ⟨w.heap.size + 1, 0, none⟩ = some b0 ∧ V.cell? ⟨w.heap.size + 1, 1, none⟩ = some b1 ∧ V.cell? ⟨w.heap.size + 1, 2, none⟩ = some b2) ∧
    (V.cell? ⟨w.heap.size + 2, 0, none⟩ = some c0 ∧ V.cell? ⟨w.heap.size + 2, 1, none⟩ = some c1 ∧ V.cell? ⟨w.heap.size + 2, 2, none⟩ = some c2) ∧
    (V.cell? ⟨w.heap.size + 3, 0, none⟩ = some d0 ∧ V.cell? ⟨w.heap.size + 3, 1, none⟩ = some d1 ∧ V.cell? ⟨w.heap.size + 3, 2, none⟩ = some d2 ∧ V.cell? ⟨w.heap.size + 3, 3, none⟩ = some d3) :=
  ⟨⟨h.snap.cell 0 _ rfl, h.snap.cell 1 _ rfl, h.snap.cell 2 _ rfl⟩, ⟨h.spec.cell 0 _ rfl, h.spec.cell 1 _ rfl, h.spec.cell 2 _ rfl⟩, ⟨h.state.cell 0 _ rfl, h.state.cell 1 _ rfl, h.state.cell 2 _ rfl⟩, ⟨h.move.cell 0 _ rfl, h.move.cell 1 _ rfl, h.move.cell 2 _ rfl, h.move.cell 3 _ rfl⟩⟩
theorem Mk.facts2 (h : Mk a b c d w V) :
    (V.cell? ⟨w.heap.size + 4, 0, none⟩ = some (.slice none 0 0) ∧ V.cell? ⟨w.heap.size + 4, 1, none⟩ = some (.int .i64 0) ∧ V.cell? ⟨w.heap.size + 4, 2, none⟩ = some (.int .i64 0)) ∧
    (V.frozen? ⟨w.heap.size + 4, 0, none⟩ = false ∧ V.frozen? ⟨w.heap.size + 4, 1, none⟩ = false ∧ V.frozen? ⟨w.heap.size + 4, 2, none⟩ = false) ∧ w.heap.size + 4 < V.heap.size :=
  ⟨⟨h.res.cell 0 _ rfl, h.res.cell 1 _ rfl, h.res.cell 2 _ rfl⟩, ⟨h.res.frozen 0, h.res.frozen 1, h.res.frozen 2⟩, h.res.lt⟩
theorem Mk.no (h : Mk a b c d w V) {x y z : Value} : StateTo noState w (stateV none 0 0 0 0) (((V.setCell ⟨w.heap.size + 4, 0, none⟩ x).setCell ⟨w.heap.size + 4, 1, none⟩ y).setCell ⟨w.heap.size + 4, 2, none⟩ z) :=
  ⟨none, 0, rfl, Out.nil rfl, (by intro a e; cases e), ((h.below.setCell (by simp) _).setCell (by simp) _).setCell (by simp) _⟩
end
theorem Out.set {l : List PodD} {w : World} {A : Option Addr} {c : Nat} (h : Out 8 cellsP w l A c) {p : Addr} (hp : ∀ a, A = some a → a.block ≠ p.block) (v : Value) : Out 8 cellsP (w.setCell p v) l A c := by
  refine ⟨h.1, h.2.1, h.2.2.1, ?_⟩
  rcases h.2.2.2 with h0 | ⟨b, o, e, hb, hc⟩
  · exact .inl h0
  · refine .inr ⟨b, o, e, by simpa using hb, fun i hi j u hu => ?_⟩
    have := hp _ e
    rw [World.cell?_setCell_other _ _ _ _ (by intro e'; rw [e'] at this; exact this rfl)]
    exact hc i hi j u hu
set_option maxHeartbeats 6400000 in
set_option maxRecDepth 100000 in
theorem make_any (nodes : List NodeD) (x : List WantD) (t : StateD) (m : MoveD) (A1 A2 A3 A A4 : Option Addr) (n1 c1 n2 c2 n3 c3 n c n4 c4 : Nat) (v1 v2 : Value) (w : World)
    (hn1 : n1 = nodes.length) (hl1 : n1 ≤ 1000) (hr1 : Recs 10 cellsN w w.heap.size A1 nodes) (hn : n = x.length) (hl : n ≤ 1000) (hr : Recs 6 cellsW w w.heap.size A x) (hn4 : n4 = t.pods.length) (hl4 : n4 ≤ 1000) (h04 : A4 = none → c4 = 0) (hr4 : Recs 8 cellsP w w.heap.size A4 t.pods) :
    Calls Tryz.prog 45 #[.agg #[.slice A1 n1 c1, .slice A2 n2 c2, .slice A3 n3 c3], .agg #[.slice A n c, v1, v2], stateV A4 n4 c4 t.preempts t.shifts, aggM m] w
      fun e w' => ∃ v, e = .returned (.tuple #[v, codeV (makeD nodes x t m).2]) ∧ StateTo (makeD nodes x t m).1 w v w' := by
  have HR1 := Lib.hid hr1
  have HR := Lib.hid hr
  have HR4 := Lib.hid hr4
  have HN1 := Lib.hid hn1
  have HN := Lib.hid hn
  have HN4 := Lib.hid hn4
  have H04 := Lib.hid h04
  clear hr1 hr hr4 hn1 hn hn4 h04
  have M0 := Mk.new w [.slice A1 n1 c1, .slice A2 n2 c2, .slice A3 n3 c3] [.slice A n c, v1, v2] [.slice A4 n4 c4, .int .i64 t.preempts, .int .i64 t.shifts] [.int .i64 m.kind, .int .i64 m.pod, .int .i64 m.node, .int .i64 m.over] 26 29 42 48 42
  go_enter Tryz.func45, Tryz.ntmps45
  go_wp2_with fail
  refine (stateWell_any m _).mono ?_
  rintro e w1 ⟨rfl, hb1⟩
  have M1 := M0.keep hb1
  clear hb1 M0
  obtain ⟨⟨a0, a1, a2⟩, ⟨a3, a4, a5⟩, ⟨a6, a7, a8⟩, a9, a10, a11, a12⟩ := M1.facts
  obtain ⟨⟨r0, r1, r2⟩, ⟨z0, z1, z2⟩, hz⟩ := M1.facts2
  cases hw : wellD m with
  | false =>
    have HE := Lib.hid (show makeD nodes x t m = (noState, 1) by simp [makeD, hw])
    have HM := Lib.hid M1
    clear M1
    go_wp2
    refine bodyPost_ret (v := .tuple #[stateV none 0 0 0 0, codeV 1]) ?_ rfl ⟨_, by rw [HE.out], ?_⟩
    · simp [results, Tryz.results45, go_sem, codeV, *]
    · rw [HE.out]; exact HM.out.no
  | true =>
    have HT := Lib.hid (allThere_any nodes t.pods m A1 A2 A3 A4 n1 c1 n2 c2 n3 c3 n4 c4 (.int .i64 t.preempts) (.int .i64 t.shifts) w1 HN1.out hl1 HN4.out hl4 ((HR1.out.below M1.below (Nat.le_refl _)).more M1.below.size) ((HR4.out.below M1.below (Nat.le_refl _)).more M1.below.size))
    go_wp2_with fail
    refine HT.out.mono ?_
    rintro e w2 ⟨rfl, hb2⟩
    have M2 := M1.keep hb2
    clear hb2 M1 HT a0 a1 a2 a3 a4 a5 a6 a7 a8 a9 a10 a11 a12 r0 r1 r2 z0 z1 z2 hz
    obtain ⟨⟨a0, a1, a2⟩, ⟨a3, a4, a5⟩, ⟨a6, a7, a8⟩, a9, a10, a11, a12⟩ := M2.facts
    obtain ⟨⟨r0, r1, r2⟩, ⟨z0, z1, z2⟩, hz⟩ := M2.facts2
    cases hh : hereD nodes t.pods m with
    | false =>
      have HE := Lib.hid (show makeD nodes x t m = (noState, 4) by simp [makeD, hw, hh])
      have HM := Lib.hid M2
      clear M2
      go_wp2
      refine bodyPost_ret (v := .tuple #[stateV none 0 0 0 0, codeV 4]) ?_ rfl ⟨_, by rw [HE.out], ?_⟩
      · simp [results, Tryz.results45, go_sem, codeV, *]
      · rw [HE.out]; exact HM.out.no
    | true =>
      have HT := Lib.hid (canBeMade_any t.pods m A4 n4 c4 (.int .i64 t.preempts) (.int .i64 t.shifts) w2 HN4.out hl4 ((HR4.out.below M2.below (Nat.le_refl _)).more M2.below.size))
      go_wp2_with fail
      refine HT.out.mono ?_
      rintro e w3 ⟨rfl, hb3⟩
      have M3 := M2.keep hb3
      clear hb3 M2 HT a0 a1 a2 a3 a4 a5 a6 a7 a8 a9 a10 a11 a12 r0 r1 r2 z0 z1 z2 hz
      obtain ⟨⟨a0, a1, a2⟩, ⟨a3, a4, a5⟩, ⟨a6, a7, a8⟩, a9, a10, a11, a12⟩ := M3.facts
      obtain ⟨⟨r0, r1, r2⟩, ⟨z0, z1, z2⟩, hz⟩ := M3.facts2
      cases hc : canD t.pods m with
      | false =>
        have HE := Lib.hid (show makeD nodes x t m = (noState, 7) by simp [makeD, hw, hh, hc])
        have HM := Lib.hid M3
        clear M3
        go_wp2
        refine bodyPost_ret (v := .tuple #[stateV none 0 0 0 0, codeV 7]) ?_ rfl ⟨_, by rw [HE.out], ?_⟩
        · simp [results, Tryz.results45, go_sem, codeV, *]
        · rw [HE.out]; exact HM.out.no
      | true =>
        have HE := Lib.hid (show makeD nodes x t m = (behindD x t m, 0) by simp [makeD, hw, hh, hc])
        have HT := Lib.hid (behind_any x t m (well_kinds hw) (here_pod hh) (here_over hh hc) A A4 n c n4 c4 v1 v2 w3 HN.out hl ((HR.out.below M3.below (Nat.le_refl _)).more M3.below.size) HN4.out hl4 H04.out ((HR4.out.below M3.below (Nat.le_refl _)).more M3.below.size))
        go_wp2_with fail
        refine HT.out.mono ?_
        rintro e w4 ⟨_, rfl, A5, c5, rfl, ho, hfr, hb4⟩
        have M4 := M3.keep hb4
        have hfr5 : ∀ a, A5 = some a → a.block ≠ w.heap.size + 4 := fun a ha => by have := hfr a ha; omega
        have hfr6 : ∀ a, A5 = some a → w.heap.size ≤ a.block := fun a ha => by have := hfr a ha; omega
        generalize hu : behindD x t m = u at *
        have HM := Lib.hid M4
        have HOU := Lib.hid ho
        have HF5 := Lib.hid (And.intro hfr5 hfr6)
        clear M3 ho hfr hb4 HT hu hfr5 hfr6 a0 a1 a2 a3 a4 a5 a6 a7 a8 a9 a10 a11 a12 r0 r1 r2 z0 z1 z2 hz
        obtain ⟨⟨r0, r1, r2⟩, ⟨z0, z1, z2⟩, hz⟩ := M4.facts2
        clear M4
        go_wp2
        refine bodyPost_ret (v := .tuple #[stateV A5 u.pods.length c5 u.preempts u.shifts, codeV 0]) ?_ rfl ⟨_, by rw [HE.out], ?_⟩
        · simp [results, Tryz.results45, go_sem, codeV, *]
        · rw [HE.out]
          exact ⟨A5, c5, rfl, ((HOU.out.set (p := ⟨w.heap.size + 4, 0, none⟩) HF5.out.1 _).set (p := ⟨w.heap.size + 4, 1, none⟩) HF5.out.1 _).set (p := ⟨w.heap.size + 4, 2, none⟩) HF5.out.1 _, HF5.out.2, ((HM.out.below.setCell (by simp; omega) _).setCell (by simp; omega) _).setCell (by simp; omega) _⟩
end Go.Proofs.YtpfjeoldgcepnaaGreatDoor

/- Plain mathematics of how many of a load are somewhere. -/
namespace Go.Proofs.YtpfjeoldgcepnaaGreatDoor
set_option linter.unusedSimpArgs false
open Go.RowKit
set_option linter.unusedVariables false

/-- Is a pod of this load, somewhere? -/
def inS (load : Int) (p : PodD) : Bool := p.load == load && p.node != 0
/-- A load's size. -/
def sizeD (load : Int) (l : List PodD) : Nat := l.countP (inS load)
theorem size_le9 (load : Int) (l : List PodD) : sizeD load l ≤ l.length := List.countP_le_length
theorem size_next9 {load : Int} {l : List PodD} {k : Nat} (h : k < l.length) {p : PodD} (hx : l[k] = p) : sizeD load (l.take (k + 1)) = sizeD load (l.take k) + if inS load p = true then 1 else 0 := by
  unfold sizeD
  rw [List.take_succ_eq_append_getElem h, hx, List.countP_append]
  simp [List.countP_cons]
theorem size_in9 {load : Int} {l : List PodD} {k : Nat} (h : k < l.length) {p : PodD} (hx : l[k] = p) (hl : p.load = load) (hn : p.node ≠ 0) : sizeD load (l.take (k + 1)) = sizeD load (l.take k) + 1 := by
  rw [size_next9 h hx, if_pos (by simp [inS, hl, hn])]
theorem size_out9 {load : Int} {l : List PodD} {k : Nat} (h : k < l.length) {p : PodD} (hx : l[k] = p) (ho : p.load = load → p.node = 0) : sizeD load (l.take (k + 1)) = sizeD load (l.take k) := by
  rw [size_next9 h hx, if_neg (by simp [inS]; exact ho)]
  rfl
theorem size_end9 {load : Int} {l : List PodD} {k : Nat} (h : l.length ≤ k) : sizeD load (l.take k) = sizeD load l := by rw [List.take_of_length_le h]
theorem made_len9 {ns : List NodeD} {x : List WantD} {t : StateD} {m : MoveD} (h : (makeD ns x t m).2 = 0) : (makeD ns x t m).1.pods.length = t.pods.length := by
  have e : (makeD ns x t m).1 = behindD x t m := by
    unfold makeD at h ⊢
    split at h
    · cases h
    · split at h
      · cases h
      · split at h
        · cases h
        · rename_i q1 q2 q3
          rw [if_neg q1, if_neg q2, if_neg q3]
  rw [e]
  unfold behindD
  split
  · simp
  · split
    · simp
    · split <;> simp

/-! Which load is at fault. -/
def fault9 (x : LoadD) (n : Int) : Int := if n < x.min then 12 else if x.max < n then 13 else 0
theorem fault9_few {x : LoadD} {n : Int} (h : n < x.min) : fault9 x n = 12 := by rw [fault9, if_pos h]
theorem fault9_many {x : LoadD} {n : Int} (h1 : ¬ n < x.min) (h : x.max < n) : fault9 x n = 13 := by rw [fault9, if_neg h1, if_pos h]
theorem fault9_none {x : LoadD} {n : Int} (h1 : ¬ n < x.min) (h : ¬ x.max < n) : fault9 x n = 0 := by rw [fault9, if_neg h1, if_neg h]
/-- The first load, behind k others, whose size is at fault. -/
def budgetFrom (l : List PodD) : List LoadD → Nat → Int × Int
  | [], _ => (0, -1)
  | x :: r, k => if fault9 x (sizeD x.id l : Nat) = 0 then budgetFrom l r (k + 1) else (fault9 x (sizeD x.id l : Nat), (k : Int))
def budgetOf (ls : List LoadD) (l : List PodD) : Int × Int := budgetFrom l ls 0
theorem budgetFrom_at {l : List PodD} {ls : List LoadD} {k : Nat} {z : Int × Int} (h : k < ls.length) {x : LoadD} (hx : ls[k] = x) (hp : budgetFrom l (ls.drop k) k = z) :
    (fault9 x (sizeD x.id l : Nat) ≠ 0 → z = (fault9 x (sizeD x.id l : Nat), (k : Int))) ∧ (fault9 x (sizeD x.id l : Nat) = 0 → budgetFrom l (ls.drop (k + 1)) (k + 1) = z) := by
  rw [List.drop_eq_getElem_cons h, hx, budgetFrom] at hp
  constructor
  · intro e; rw [if_neg e] at hp; exact hp.symm
  · intro e; rw [if_pos e] at hp; exact hp
theorem budgetFrom_end {l : List PodD} {ls : List LoadD} {k : Nat} {z : Int × Int} (h : ls.length ≤ k) (hp : budgetFrom l (ls.drop k) k = z) : z = (0, -1) := by
  rw [List.drop_of_length_le h] at hp
  exact hp.symm
def usedD (x1 x2 t1 t2 : Int) : Bool := decide (x1 < t1) || decide (x2 < t2)
end Go.Proofs.YtpfjeoldgcepnaaGreatDoor

namespace Go.Proofs.YtpfjeoldgcepnaaGreatDoor
set_option linter.unusedSimpArgs false
open Go.RowKit
set_option linter.unusedVariables false

structure CntD where
  use : Int → V4
  ats : Int → Int → Int
  inz : Int → Int → Int
  size : Int → Int
def upd1 {α : Type} (f : Int → α) (i : Int) (v : α) : Int → α := fun j => if j = i then v else f j
def upd2 (f : Int → Int → Int) (i k v : Int) : Int → Int → Int := fun a b => if a = i ∧ b = k then v else f a b
def lessV (a b : V4) : V4 := (subV a b).getD .zer
def moreV (a b : V4) : V4 := (addV a b).getD .zer
/-- A node's zone, as it is told; 0: there is none. -/
def zoneZ (zm : Int → Option Int) (i : Int) : Int := (zm i).getD 0
def countC (zm : Int → Option Int) (c : CntD) (p : PodD) (d : Int) : CntD :=
  ⟨c.use, upd2 c.ats p.load p.node (wrap64 (c.ats p.load p.node + d)), upd2 c.inz p.load (zoneZ zm p.node) (wrap64 (c.inz p.load (zoneZ zm p.node) + d)), upd1 c.size p.load (wrap64 (c.size p.load + d))⟩
def comeC (zm : Int → Option Int) (c : CntD) (p : PodD) : CntD := if p.node = 0 then c else countC zm ⟨upd1 c.use p.node (moreV (c.use p.node) p.req), c.ats, c.inz, c.size⟩ p 1
def leaveC (zm : Int → Option Int) (c : CntD) (p : PodD) : CntD := if p.node = 0 then c else countC zm ⟨upd1 c.use p.node (lessV (c.use p.node) p.req), c.ats, c.inz, c.size⟩ p (-1)
def comesC (zm : Int → Option Int) (c : CntD) (l : List PodD) : CntD := l.foldl (comeC zm) c
def leavesC (zm : Int → Option Int) (c : CntD) (l : List PodD) : CntD := l.foldl (leaveC zm) c

def atP (ld n : Int) (p : PodD) : Bool := p.node != 0 && (p.load == ld && p.node == n)
def inP (zm : Int → Option Int) (ld z : Int) (p : PodD) : Bool := p.node != 0 && (p.load == ld && zoneZ zm p.node == z)
/-- What is counted of these pods. -/
def cntOf (zm : Int → Option Int) (l : List PodD) : CntD :=
  ⟨fun n => if n = 0 then .zer else totV (reqsAt n l), fun ld n => (l.countP (atP ld n) : Nat), fun ld z => (l.countP (inP zm ld z) : Nat), fun ld => (sizeD ld l : Nat)⟩
theorem cntOf_nil (zm : Int → Option Int) : cntOf zm [] = ⟨fun _ => .zer, fun _ _ => 0, fun _ _ => 0, fun _ => 0⟩ := by
  simp [cntOf, reqsAt, totV, sizeD]

theorem V4.ext4 {x y : V4} (h1 : x.a = y.a) (h2 : x.b = y.b) (h3 : x.c = y.c) (h4 : x.d = y.d) : x = y := by cases x; cases y; simp_all
theorem add_comm4 (x y : V4) : x.add y = y.add x := by unfold V4.add; rw [Int.add_comm x.a, Int.add_comm x.b, Int.add_comm x.c, Int.add_comm x.d]
theorem add_left4 (x y z : V4) : x.add (y.add z) = y.add (x.add z) := by
  refine V4.ext4 ?_ ?_ ?_ ?_ <;> (simp only [V4.add]; omega)
theorem tot_perm {n : Int} {l m : List PodD} (h : l.Perm m) : totV (reqsAt n l) = totV (reqsAt n m) := by
  induction h with
  | nil => rfl
  | cons x _ ih =>
    simp only [reqsAt]
    split
    · simp only [totV, ih]
    · exact ih
  | swap x y l =>
    simp only [reqsAt]
    split <;> split
    · simp only [totV]; exact add_left4 _ _ _
    · rfl
    · rfl
    · rfl
  | trans _ _ ih1 ih2 => exact ih1.trans ih2
theorem cnt_perm {zm : Int → Option Int} {l m : List PodD} (h : l.Perm m) : cntOf zm l = cntOf zm m := by
  unfold cntOf sizeD
  congr 1
  · funext n; rw [tot_perm h]
  · funext a b; rw [h.countP_eq]
  · funext a b; rw [h.countP_eq]
  · funext a; rw [h.countP_eq]
theorem sub_add4 (x y : V4) : (x.add y).sub x = y := by refine V4.ext4 ?_ ?_ ?_ ?_ <;> (simp only [V4.add, V4.sub]; omega)
theorem le_add4 {x y : V4} (h : 0 ≤ y.a ∧ 0 ≤ y.b ∧ 0 ≤ y.c ∧ 0 ≤ y.d) : x.le (x.add y) = true := by
  simp only [V4.le, V4.add]
  exact decide_eq_true ⟨by omega, by omega, by omega, by omega⟩
theorem more_is {x y : V4} (h : (x.add y).small = true) : moreV x y = x.add y := by unfold moreV addV; rw [if_pos h]; rfl
theorem less_is {x y : V4} (h : y.le x = true) : lessV x y = x.sub y := by unfold lessV subV; rw [if_pos h]; rfl
theorem tot_small {n : Int} {b r : List PodD} (hb : ∀ p ∈ b, p.Ok) (h : (totV (reqsAt n (b ++ r))).small = true) : (totV (reqsAt n r)).small = true := by
  rw [reqs_append, tot_append] at h
  have hp := tot_pos (reqs_ok (node := n) hb)
  simp only [V4.small, V4.add] at h ⊢
  have h := of_decide_eq_true h
  exact decide_eq_true ⟨by omega, by omega, by omega, by omega⟩
theorem countP_cons_int {α : Type} (f : α → Bool) (p : α) (l : List α) : (((p :: l).countP f : Nat) : Int) = (l.countP f : Nat) + (if f p = true then 1 else 0) := by
  rw [List.countP_cons]
  split <;> simp
theorem wrap_in {n : Int} {x : Int} (h1 : 0 ≤ x) (h2 : x ≤ 100000) (hn : n = 1 ∨ n = -1) : wrap64 (x + n) = x + n := IntWalk.wrap64_in _ ⟨by omega, by omega⟩
theorem come_is {zm : Int → Option Int} {l : List PodD} {p : PodD} (hl : l.length ≤ 1000) (hs : p.node ≠ 0 → (totV (reqsAt p.node (p :: l))).small = true) : comeC zm (cntOf zm l) p = cntOf zm (p :: l) := by
  have cp : ∀ f : PodD → Bool, l.countP f ≤ 1000 := fun f => Nat.le_trans List.countP_le_length hl
  unfold comeC
  by_cases h0 : p.node = 0
  · rw [if_pos h0]
    unfold cntOf sizeD
    congr 1
    · funext n
      by_cases hn : n = 0
      · simp [hn]
      · rw [if_neg hn, if_neg hn, reqsAt, if_neg (by omega)]
    · funext a b; rw [countP_cons_int, if_neg (by simp [atP, h0])]; simp
    · funext a b; rw [countP_cons_int, if_neg (by simp [inP, h0])]; simp
    · funext a; rw [countP_cons_int, if_neg (by simp [inS, h0])]; simp
  · rw [if_neg h0]
    have hs := hs h0
    rw [reqsAt, if_pos rfl, totV, add_comm4] at hs
    unfold countC cntOf sizeD
    dsimp only
    congr 1
    · funext n
      unfold upd1
      by_cases hn : n = p.node
      · subst hn
        rw [if_pos rfl, if_neg h0, if_neg h0, more_is hs, reqsAt, if_pos rfl, totV, add_comm4]
      · rw [if_neg hn]
        dsimp only
        by_cases hn0 : n = 0
        · rw [if_pos hn0, if_pos hn0]
        · rw [if_neg hn0, if_neg hn0, reqsAt, if_neg (fun e => hn e.symm)]
    · funext a b
      unfold upd2
      rw [countP_cons_int]
      by_cases hab : a = p.load ∧ b = p.node
      · obtain ⟨rfl, rfl⟩ := hab
        rw [if_pos ⟨rfl, rfl⟩, if_pos (by simp [atP, h0])]
        have := cp (atP p.load p.node)
        exact wrap_in (by omega) (by omega) (.inl rfl)
      · rw [if_neg hab, if_neg (by simp only [atP, Bool.and_eq_true, bne_iff_ne, beq_iff_eq]; rintro ⟨_, h1, h2⟩; exact hab ⟨h1.symm, h2.symm⟩)]
        simp
    · funext a b
      unfold upd2
      rw [countP_cons_int]
      by_cases hab : a = p.load ∧ b = zoneZ zm p.node
      · obtain ⟨rfl, rfl⟩ := hab
        rw [if_pos ⟨rfl, rfl⟩, if_pos (by simp [inP, h0])]
        have := cp (inP zm p.load (zoneZ zm p.node))
        exact wrap_in (by omega) (by omega) (.inl rfl)
      · rw [if_neg hab, if_neg (by simp only [inP, Bool.and_eq_true, bne_iff_ne, beq_iff_eq]; rintro ⟨_, h1, h2⟩; exact hab ⟨h1.symm, h2.symm⟩)]
        simp
    · funext a
      unfold upd1
      rw [countP_cons_int]
      by_cases hab : a = p.load
      · subst hab
        rw [if_pos rfl, if_pos (by simp [inS, h0])]
        have := cp (inS p.load)
        exact wrap_in (by omega) (by omega) (.inl rfl)
      · rw [if_neg hab, if_neg (by simp only [inS, Bool.and_eq_true, bne_iff_ne, beq_iff_eq]; rintro ⟨h1, _⟩; exact hab h1.symm)]
        simp
theorem leave_is {zm : Int → Option Int} {l : List PodD} {p : PodD} (hl : l.length ≤ 1000) (ho : ∀ q ∈ l, q.Ok) : leaveC zm (cntOf zm (p :: l)) p = cntOf zm l := by
  have cp : ∀ f : PodD → Bool, l.countP f ≤ 1000 := fun f => Nat.le_trans List.countP_le_length hl
  unfold leaveC
  by_cases h0 : p.node = 0
  · rw [if_pos h0]
    unfold cntOf sizeD
    congr 1
    · funext n
      by_cases hn : n = 0
      · simp [hn]
      · rw [if_neg hn, if_neg hn, reqsAt, if_neg (by omega)]
    · funext a b; rw [countP_cons_int, if_neg (by simp [atP, h0])]; simp
    · funext a b; rw [countP_cons_int, if_neg (by simp [inP, h0])]; simp
    · funext a; rw [countP_cons_int, if_neg (by simp [inS, h0])]; simp
  · rw [if_neg h0]
    have hpos := tot_pos (reqs_ok (node := p.node) ho)
    unfold countC cntOf sizeD
    dsimp only
    congr 1
    · funext n
      unfold upd1
      by_cases hn : n = p.node
      · subst hn
        rw [if_pos rfl, if_neg h0, if_neg h0, reqsAt, if_pos rfl, totV, less_is (le_add4 hpos), sub_add4]
      · rw [if_neg hn]
        dsimp only
        by_cases hn0 : n = 0
        · rw [if_pos hn0, if_pos hn0]
        · rw [if_neg hn0, if_neg hn0, reqsAt, if_neg (fun e => hn e.symm)]
    · funext a b
      unfold upd2
      dsimp only
      rw [countP_cons_int, countP_cons_int]
      by_cases hab : a = p.load ∧ b = p.node
      · obtain ⟨rfl, rfl⟩ := hab
        rw [if_pos ⟨rfl, rfl⟩, if_pos (by simp [atP, h0])]
        have := cp (atP p.load p.node)
        rw [wrap_in (by omega) (by omega) (.inr rfl)]; omega
      · rw [if_neg hab, if_neg (by simp only [atP, Bool.and_eq_true, bne_iff_ne, beq_iff_eq]; rintro ⟨_, h1, h2⟩; exact hab ⟨h1.symm, h2.symm⟩)]
        simp
    · funext a b
      unfold upd2
      dsimp only
      rw [countP_cons_int, countP_cons_int]
      by_cases hab : a = p.load ∧ b = zoneZ zm p.node
      · obtain ⟨rfl, rfl⟩ := hab
        rw [if_pos ⟨rfl, rfl⟩, if_pos (by simp [inP, h0])]
        have := cp (inP zm p.load (zoneZ zm p.node))
        rw [wrap_in (by omega) (by omega) (.inr rfl)]; omega
      · rw [if_neg hab, if_neg (by simp only [inP, Bool.and_eq_true, bne_iff_ne, beq_iff_eq]; rintro ⟨_, h1, h2⟩; exact hab ⟨h1.symm, h2.symm⟩)]
        simp
    · funext a
      unfold upd1
      dsimp only
      rw [countP_cons_int, countP_cons_int]
      by_cases hab : a = p.load
      · subst hab
        rw [if_pos rfl, if_pos (by simp [inS, h0])]
        have := cp (inS p.load)
        rw [wrap_in (by omega) (by omega) (.inr rfl)]; omega
      · rw [if_neg hab, if_neg (by simp only [inS, Bool.and_eq_true, bne_iff_ne, beq_iff_eq]; rintro ⟨h1, _⟩; exact hab h1.symm)]
        simp
theorem comes_is {zm : Int → Option Int} : ∀ (b r : List PodD), (b ++ r).length ≤ 1000 → (∀ p ∈ b, p.Ok) → (∀ n, n ≠ 0 → (totV (reqsAt n (b ++ r))).small = true) → comesC zm (cntOf zm r) b = cntOf zm (b ++ r)
  | [], r, _, _, _ => rfl
  | p :: b, r, hl, ho, hs => by
    have hp : (p :: b ++ r).Perm (b ++ p :: r) := by
      rw [List.cons_append]; exact List.perm_middle.symm
    have hl' : (b ++ p :: r).length ≤ 1000 := by rw [← hp.length_eq]; exact hl
    show comesC zm (comeC zm (cntOf zm r) p) b = _
    have hob : ∀ q ∈ b, q.Ok := fun q hq => ho q (List.mem_cons_of_mem _ hq)
    have hs' : ∀ n, n ≠ 0 → (totV (reqsAt n (b ++ p :: r))).small = true := fun n hn => by rw [← tot_perm hp]; exact hs n hn
    rw [come_is (by simp at hl'; omega) (fun h => tot_small hob (hs' _ h)), comes_is b (p :: r) hl' hob hs', cnt_perm hp]
theorem leaves_is {zm : Int → Option Int} : ∀ (a r : List PodD), (a ++ r).length ≤ 1000 → (∀ p ∈ a ++ r, p.Ok) → leavesC zm (cntOf zm (a ++ r)) a = cntOf zm r
  | [], r, _, _ => rfl
  | p :: a, r, hl, ho => by
    show leavesC zm (leaveC zm (cntOf zm (p :: (a ++ r))) p) a = _
    have ho' : ∀ q ∈ a ++ r, q.Ok := fun q hq => ho q (List.mem_cons_of_mem _ hq)
    rw [leave_is (by simp at hl ⊢; omega) ho', leaves_is a r (by simp at hl ⊢; omega) ho']

/-! A node's room, as it is asked ahead of counting. -/
def leftK (id : Int) (u : V4) (l : List PodD) : V4 := l.foldl (fun u p => if p.node = id then lessV u p.req else u) u
def cameK (id : Int) : V4 → List PodD → Option V4
  | u, [] => some u
  | u, p :: r => if p.node = id then (match addV u p.req with | none => none | some v => cameK id v r) else cameK id u r
def roomK (f : V4) (id : Int) (u : V4) (a b : List PodD) : Int := match cameK id (leftK id u a) b with
  | none => 8
  | some v => if v.le f = true then 0 else 9
theorem left_is (id : Int) : ∀ (a r : List PodD), (∀ p ∈ a ++ r, p.Ok) → leftK id (totV (reqsAt id (a ++ r))) a = totV (reqsAt id r)
  | [], r, _ => rfl
  | p :: a, r, ho => by
    have ho' : ∀ q ∈ a ++ r, q.Ok := fun q hq => ho q (List.mem_cons_of_mem _ hq)
    have hpos := tot_pos (reqs_ok (node := id) ho')
    show leftK id (if p.node = id then lessV (totV (reqsAt id (p :: (a ++ r)))) p.req else totV (reqsAt id (p :: (a ++ r)))) a = _
    rw [reqsAt]
    by_cases h : p.node = id
    · rw [if_pos h, if_pos h, totV, less_is (le_add4 hpos), sub_add4]
      exact left_is id a r ho'
    · rw [if_neg h, if_neg h]
      exact left_is id a r ho'
theorem came_is (id : Int) : ∀ (b r : List PodD), (∀ p ∈ b, p.Ok) → (totV (reqsAt id r)).small = true → cameK id (totV (reqsAt id r)) b = if (totV (reqsAt id (b ++ r))).small = true then some (totV (reqsAt id (b ++ r))) else none
  | [], r, _, hs => by
    show some _ = _
    rw [List.nil_append, if_pos hs]
  | p :: b, r, ho, hs => by
    have hob : ∀ q ∈ b, q.Ok := fun q hq => ho q (List.mem_cons_of_mem _ hq)
    have hp : (p :: b ++ r).Perm (b ++ p :: r) := by
      rw [List.cons_append]; exact List.perm_middle.symm
    rw [tot_perm hp, cameK]
    by_cases h : p.node = id
    · rw [if_pos h]
      have e : totV (reqsAt id (p :: r)) = (totV (reqsAt id r)).add p.req := by rw [reqsAt, if_pos h, totV, add_comm4]
      by_cases hs2 : (totV (reqsAt id (p :: r))).small = true
      · have ha : addV (totV (reqsAt id r)) p.req = some (totV (reqsAt id (p :: r))) := by
          unfold addV
          rw [← e, if_pos hs2]
        rw [ha]
        exact came_is id b (p :: r) hob hs2
      · have ha : addV (totV (reqsAt id r)) p.req = none := by
          unfold addV
          rw [← e, if_neg hs2]
        rw [ha, if_neg (fun h3 => hs2 (tot_small hob h3))]
    · rw [if_neg h]
      have e : totV (reqsAt id (p :: r)) = totV (reqsAt id r) := by rw [reqsAt, if_neg h]
      rw [← e]
      exact came_is id b (p :: r) hob (by rw [e]; exact hs)
/-- A node's Code at this use. -/
def nodeC (n : NodeD) (u : V4) : Int := if u.small = true then (if (leftD n u).isSome = true then 0 else 9) else 8
theorem free_is {n : NodeD} {u : V4} (h : n.held.le n.cap = true) : (leftD n u).isSome = u.le (lessV n.cap n.held) := by
  have e : subV n.cap n.held = some (n.cap.sub n.held) := by unfold subV; rw [if_pos h]
  rw [left_some e, less_is h]
  unfold subV
  split
  · rename_i h2; rw [h2]; rfl
  · rename_i h2
    cases h3 : u.le (n.cap.sub n.held) with
    | true => exact absurd h3 h2
    | false => rfl
theorem room_is {n : NodeD} {a b r : List PodD} (hh : n.held.le n.cap = true) (hoa : ∀ p ∈ a ++ r, p.Ok) (hob : ∀ p ∈ b, p.Ok) (hs : (totV (reqsAt n.id r)).small = true) :
    roomK (lessV n.cap n.held) n.id (totV (reqsAt n.id (a ++ r))) a b = nodeC n (totV (reqsAt n.id (b ++ r))) := by
  unfold roomK nodeC
  rw [left_is n.id a r hoa, came_is n.id b r hob hs, free_is hh]
  by_cases h : (totV (reqsAt n.id (b ++ r))).small = true
  · rw [if_pos h, if_pos h]
  · rw [if_neg h, if_neg h]
end Go.Proofs.YtpfjeoldgcepnaaGreatDoor
