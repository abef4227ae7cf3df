/- Joined texts, part 5: WM DB DE DEN. -/
import Derived.Test.YtiinnoahopnkcaaGreatDoorZ01
import Derived.Test.YtiinnoahopnkcaaGreatDoorZ03
import Derived.IntWalk

/- Plain mathematics of nodes' room; no program stands in it. -/
namespace Go.Proofs.YtiinnoahopnkcaaGreatDoor
set_option linter.unusedSimpArgs false
open Go.RowKit
set_option linter.unusedVariables false

def V4.add (x y : V4) : V4 := ⟨x.a + y.a, x.b + y.b, x.c + y.c, x.d + y.d⟩
def V4.sub (x y : V4) : V4 := ⟨x.a - y.a, x.b - y.b, x.c - y.c, x.d - y.d⟩
def V4.zer : V4 := ⟨0, 0, 0, 0⟩
def V4.small (x : V4) : Bool := decide (x.a < 18446744073709551616 ∧ x.b < 18446744073709551616 ∧ x.c < 18446744073709551616 ∧ x.d < 18446744073709551616)
/-- The sum, or none: it goes over. -/
def addV (x y : V4) : Option V4 := if (x.add y).small then some (x.add y) else none
/-- The difference, or none: it goes below 0. -/
def subV (x y : V4) : Option V4 := if y.le x then some (x.sub y) else none
def totV : List V4 → V4
  | [] => .zer
  | x :: r => x.add (totV r)
def sumV (l : List V4) : Option V4 := if (totV l).small then some (totV l) else none
def reqsAt (node : Int) : List PodD → List V4
  | [] => []
  | p :: r => if p.node = node then p.req :: reqsAt node r else reqsAt node r
/-- A node's use, or none: it goes over. -/
def useD (l : List PodD) (node : Int) : Option V4 := sumV (reqsAt node l)
/-- What is left of a node beside a use, or none. -/
def leftD (n : NodeD) (u : V4) : Option V4 := match subV n.cap n.held with
  | none => none
  | some f => subV f u
def nodeAt (id : Int) : List NodeD → Option NodeD
  | [] => none
  | x :: r => if x.id = id then some x else nodeAt id r
/-- A node's rest, and an error's number. -/
def restD (ns : List NodeD) (l : List PodD) (id : Int) : V4 × Int :=
  match nodeAt id ns with
  | none => (.zer, 4)
  | some n => match useD l id with
    | none => (.zer, 8)
    | some u => match leftD n u with
      | none => (.zer, 9)
      | some r => (r, 0)
def roomD (ns : List NodeD) (l : List PodD) : List NodeD → Nat → Int × Int
  | [], _ => (0, -1)
  | n :: r, k => if (restD ns l n.id).2 ≠ 0 then ((restD ns l n.id).2, (k : Int)) else roomD ns l r (k + 1)
/-- The first node at fault: an error's number, and its place. -/
def roomOf (ns : List NodeD) (l : List PodD) : Int × Int := roomD ns l ns 0

theorem rest_none {ns : List NodeD} {l : List PodD} {id : Int} (h : nodeAt id ns = none) : restD ns l id = (.zer, 4) := by simp only [restD, h]
theorem rest_over {ns : List NodeD} {l : List PodD} {id : Int} {n : NodeD} (h : nodeAt id ns = some n) (h2 : useD l id = none) : restD ns l id = (.zer, 8) := by simp only [restD, h, h2]
theorem rest_room {ns : List NodeD} {l : List PodD} {id : Int} {n : NodeD} {u : V4} (h : nodeAt id ns = some n) (h2 : useD l id = some u) (h3 : leftD n u = none) : restD ns l id = (.zer, 9) := by simp only [restD, h, h2, h3]
theorem rest_some {ns : List NodeD} {l : List PodD} {id : Int} {n : NodeD} {u r : V4} (h : nodeAt id ns = some n) (h2 : useD l id = some u) (h3 : leftD n u = some r) : restD ns l id = (r, 0) := by simp only [restD, h, h2, h3]
theorem left_none {n : NodeD} {u : V4} (h : subV n.cap n.held = none) : leftD n u = none := by simp only [leftD, h]
theorem left_some {n : NodeD} {u f : V4} (h : subV n.cap n.held = some f) : leftD n u = subV f u := by simp only [leftD, h]
theorem rest_vals (ns : List NodeD) (l : List PodD) (id : Int) : ((restD ns l id).2 = 0) ∨ ((restD ns l id).1 = .zer ∧ ((restD ns l id).2 = 4 ∨ (restD ns l id).2 = 8 ∨ (restD ns l id).2 = 9)) := by
  rcases h1 : nodeAt id ns with _ | n
  · rw [rest_none h1]; simp
  · rcases h2 : useD l id with _ | u
    · rw [rest_over h1 h2]; simp
    · rcases h3 : leftD n u with _ | r
      · rw [rest_room h1 h2 h3]; simp
      · rw [rest_some h1 h2 h3]; simp
theorem rest_zero {ns : List NodeD} {l : List PodD} {id : Int} : (restD ns l id).2 = 0 ↔ ∃ n u r, nodeAt id ns = some n ∧ useD l id = some u ∧ leftD n u = some r ∧ restD ns l id = (r, 0) := by
  constructor
  · intro h
    rcases h1 : nodeAt id ns with _ | n
    · rw [rest_none h1] at h; cases h
    · rcases h2 : useD l id with _ | u
      · rw [rest_over h1 h2] at h; cases h
      · rcases h3 : leftD n u with _ | r
        · rw [rest_room h1 h2 h3] at h; cases h
        · exact ⟨n, u, r, rfl, rfl, h3, rest_some h1 h2 h3⟩
  · rintro ⟨n, u, r, _, _, _, h⟩; rw [h]

theorem nodeAt_no {id : Int} : ∀ {l : List NodeD} {k : Int}, 0 ≤ k → place NodeD.id id l k < 0 → nodeAt id l = none
  | [], _, _, _ => rfl
  | x :: r, k, hk, h => by
    by_cases e : x.id = id
    · simp [place, e] at h; omega
    · simp only [place, if_neg e] at h
      simp only [nodeAt, if_neg e]
      exact nodeAt_no (k := k + 1) (by omega) h
theorem nodeAt_yes {id : Int} : ∀ {l : List NodeD} {k : Int} {i : Nat} (h : i < l.length), 0 ≤ k → place NodeD.id id l k = k + i → nodeAt id l = some l[i]
  | [], _, _, h, _, _ => by simp at h
  | x :: r, k, i, h, hk, hp => by
    by_cases e : x.id = id
    · simp only [place, if_pos e] at hp
      obtain rfl : i = 0 := by omega
      simp [nodeAt, e]
    · simp only [place, if_neg e] at hp
      cases i with
      | zero => have := place_ge (f := NodeD.id) (id := id) (l := r) (k := k + 1) (by omega); rw [hp] at this; exfalso
                have h2 : k + 1 ≤ place NodeD.id id r (k + 1) ∨ place NodeD.id id r (k + 1) < 0 := by
                  by_cases hn : place NodeD.id id r (k + 1) < 0
                  · exact .inr hn
                  · left
                    have : ∀ (r : List NodeD) (k : Int), 0 ≤ k → place NodeD.id id r k < 0 ∨ k ≤ place NodeD.id id r k := by
                      intro r
                      induction r with
                      | nil => intro k _; left; simp [place]
                      | cons y r ih => intro k hk; by_cases e : y.id = id <;> simp only [place, e, if_true, if_false]; exact .inr (Int.le_refl _); rcases ih (k + 1) (by omega) with h | h; exact .inl h; exact .inr (by omega)
                    rcases this r (k + 1) (by omega) with h | h
                    · exact absurd h hn
                    · exact h
                omega
      | succ i =>
        simp only [nodeAt, if_neg e]
        rw [nodeAt_yes (l := r) (k := k + 1) (i := i) (by simpa using h) (by omega) (by omega)]
        simp
/-- A node ahead of which none has its Id is the one of its Id. -/
theorem nodeAt_first {l : List NodeD} {i : Nat} (h : i < l.length) (hf : ∀ j (hj : j < i), (l[j]'(by omega)).id ≠ l[i].id) : nodeAt l[i].id l = some l[i] :=
  nodeAt_yes (k := 0) h (Int.le_refl _) (by have := place_at (f := NodeD.id) (id := l[i].id) (l := l) (k := 0) h rfl hf; omega)

theorem roomD_at {ns : List NodeD} {l : List PodD} {m : List NodeD} {k : Nat} {p : Int × Int} (h : k < m.length) {n : NodeD} (hn : m[k] = n) (hp : roomD ns l (m.drop k) k = p) :
    ((restD ns l n.id).2 ≠ 0 → p = ((restD ns l n.id).2, (k : Int))) ∧ ((restD ns l n.id).2 = 0 → roomD ns l (m.drop (k + 1)) (k + 1) = p) := by
  rw [List.drop_eq_getElem_cons h, hn, roomD] at hp
  constructor
  · intro e; rw [if_pos e] at hp; exact hp.symm
  · intro e; rw [if_neg (by simpa using e)] at hp; exact hp
theorem roomD_end {ns : List NodeD} {l : List PodD} {m : List NodeD} {k : Nat} {p : Int × Int} (h : m.length ≤ k) (hp : roomD ns l (m.drop k) k = p) : p = (0, -1) := by
  rw [List.drop_of_length_le h, roomD] at hp; exact hp.symm
theorem roomD_all {ns : List NodeD} {l : List PodD} : ∀ {m : List NodeD} {k : Nat}, (roomD ns l m k).1 = 0 ↔ ∀ n ∈ m, (restD ns l n.id).2 = 0
  | [], _ => by simp [roomD]
  | n :: r, k => by
    by_cases e : (restD ns l n.id).2 = 0
    · simp [roomD, e, roomD_all (m := r) (k := k + 1)]
    · simp [roomD, e]
theorem roomD_pair {ns : List NodeD} {l : List PodD} : ∀ {m : List NodeD} {k : Nat}, (roomD ns l m k).1 = 0 → roomD ns l m k = (0, -1)
  | [], _, _ => by simp [roomD]
  | n :: r, k, h => by
    by_cases e : (restD ns l n.id).2 = 0
    · simp only [roomD, e, ne_eq, not_true_eq_false, if_false] at h ⊢
      exact roomD_pair h
    · simp [roomD, e] at h

theorem V4.eta (x : V4) : x = ⟨x.a, x.b, x.c, x.d⟩ := by cases x; rfl
theorem add_small {x y z : V4} (h : addV x y = some z) : z = x.add y ∧ (x.add y).small = true := by
  unfold addV at h
  split at h
  · rename_i hs; exact ⟨(Option.some.inj h).symm, hs⟩
  · cases h
theorem sub_le {x y z : V4} (h : subV x y = some z) : z = x.sub y ∧ y.le x = true := by
  unfold subV at h
  split at h
  · rename_i hs; exact ⟨(Option.some.inj h).symm, hs⟩
  · cases h
theorem sub_ok4 {x y z : V4} (hx : x.Ok) (hy : y.Ok) (h : subV x y = some z) : z.Ok := by
  obtain ⟨rfl, hl⟩ := sub_le h
  simp only [V4.le, decide_eq_true_eq] at hl
  simp only [V4.Ok, U64, V4.sub] at *
  omega
theorem add_ok4 {x y z : V4} (hx : x.Ok) (hy : y.Ok) (h : addV x y = some z) : z.Ok := by
  obtain ⟨rfl, hl⟩ := add_small h
  simp only [V4.small, decide_eq_true_eq] at hl
  simp only [V4.Ok, U64, V4.add] at *
  omega
theorem tot_pos : ∀ {l : List V4}, (∀ x ∈ l, x.Ok) → 0 ≤ (totV l).a ∧ 0 ≤ (totV l).b ∧ 0 ≤ (totV l).c ∧ 0 ≤ (totV l).d
  | [], _ => by simp [totV, V4.zer]
  | x :: r, h => by
    have h1 := tot_pos (l := r) (fun y hy => h y (List.mem_cons_of_mem _ hy))
    have h2 := h x (List.mem_cons_self ..)
    simp only [V4.Ok, U64] at h2
    simp only [totV, V4.add]
    omega
theorem sum_ok4 {l : List V4} {u : V4} (h : ∀ x ∈ l, x.Ok) (hu : sumV l = some u) : u.Ok := by
  have hp := tot_pos h
  unfold sumV at hu
  split at hu
  · rename_i hs
    have := Option.some.inj hu
    subst this
    simp only [V4.small, decide_eq_true_eq] at hs
    simp only [V4.Ok, U64]
    omega
  · cases hu
theorem reqs_ok {node : Int} : ∀ {l : List PodD}, (∀ p ∈ l, p.Ok) → ∀ x ∈ reqsAt node l, x.Ok
  | [], _, x, hx => by simp [reqsAt] at hx
  | p :: r, h, x, hx => by
    unfold reqsAt at hx
    split at hx
    · rcases List.mem_cons.1 hx with rfl | hx
      · exact (h p (List.mem_cons_self ..)).2.2.2.1
      · exact reqs_ok (fun q hq => h q (List.mem_cons_of_mem _ hq)) x hx
    · exact reqs_ok (fun q hq => h q (List.mem_cons_of_mem _ hq)) x hx
theorem use_ok {l : List PodD} {node : Int} {u : V4} (h : ∀ p ∈ l, p.Ok) (hu : useD l node = some u) : u.Ok := sum_ok4 (reqs_ok h) hu
theorem reqs_len (node : Int) : ∀ l : List PodD, (reqsAt node l).length ≤ l.length
  | [] => Nat.le_refl _
  | p :: r => by
    have := reqs_len node r
    unfold reqsAt
    split <;> simp <;> omega
theorem reqs_append (node : Int) : ∀ (l m : List PodD), reqsAt node (l ++ m) = reqsAt node l ++ reqsAt node m
  | [], m => rfl
  | p :: r, m => by
    rw [List.cons_append, reqsAt, reqsAt, reqs_append node r m]
    split <;> simp
theorem reqs_take {node : Int} {l : List PodD} {k : Nat} (h : k < l.length) {p : PodD} (hp : l[k] = p) :
    (p.node = node → reqsAt node (l.take (k + 1)) = reqsAt node (l.take k) ++ [p.req]) ∧ (p.node ≠ node → reqsAt node (l.take (k + 1)) = reqsAt node (l.take k)) := by
  rw [List.take_succ_eq_append_getElem h, reqs_append, hp]
  constructor
  · intro e; simp [reqsAt, e]
  · intro e; simp [reqsAt, e]
theorem nodeAt_ok {id : Int} {n : NodeD} : ∀ {l : List NodeD}, (∀ x ∈ l, x.Ok) → nodeAt id l = some n → n.Ok
  | [], _, h => by simp [nodeAt] at h
  | x :: r, ho, h => by
    unfold nodeAt at h
    split at h
    · obtain rfl := Option.some.inj h; exact ho _ (List.mem_cons_self ..)
    · exact nodeAt_ok (fun y hy => ho y (List.mem_cons_of_mem _ hy)) h
theorem left_ok {n : NodeD} {u r : V4} (hn : n.Ok) (hu : u.Ok) (h : leftD n u = some r) : r.Ok := by
  unfold leftD at h
  split at h
  · cases h
  · rename_i f hf
    exact sub_ok4 (sub_ok4 hn.2.2.1 hn.2.2.2 hf) hu h
/-- Use and rest together are what there is but for what is held. -/
theorem left_whole {n : NodeD} {u r : V4} (hn : n.Ok) (hu : u.Ok) (h : leftD n u = some r) : addV r u = some (n.cap.sub n.held) ∧ addV (n.cap.sub n.held) n.held = some n.cap := by
  unfold leftD at h
  split at h
  · cases h
  · rename_i f hf
    obtain ⟨rfl, hl⟩ := sub_le hf
    obtain ⟨rfl, hl2⟩ := sub_le h
    obtain ⟨_, _, hc, hh⟩ := hn
    simp only [V4.le, decide_eq_true_eq, V4.sub] at hl hl2
    simp only [V4.Ok, U64] at hc hh hu
    constructor
    · have e : ((n.cap.sub n.held).sub u).add u = n.cap.sub n.held := by simp [V4.add, V4.sub, Int.sub_add_cancel]
      unfold addV
      rw [e, if_pos]
      simp only [V4.small, V4.sub]
      exact decide_eq_true ⟨by omega, by omega, by omega, by omega⟩
    · have e : (n.cap.sub n.held).add n.held = n.cap := by
        show V4.mk _ _ _ _ = n.cap
        simp only [V4.sub, Int.sub_add_cancel]
      unfold addV
      rw [e, if_pos]
      simp only [V4.small, decide_eq_true_eq]
      omega

theorem le_trans4 {x y z : V4} (h : x.le y = true) (h2 : y.le z = true) : x.le z = true := by
  simp only [V4.le, decide_eq_true_eq] at *; omega
theorem tot_append : ∀ (l m : List V4), totV (l ++ m) = (totV l).add (totV m)
  | [], m => by simp [totV, V4.add, V4.zer]
  | x :: r, m => by rw [List.cons_append, totV, tot_append r m]; simp [totV, V4.add, Int.add_assoc]
theorem sum_less {l m k : List V4} {u : V4} (hk : ∀ x ∈ k, x.Ok) (h : sumV (l ++ (k ++ m)) = some u) : ∃ u', sumV (l ++ m) = some u' ∧ u'.le u = true := by
  have hp := tot_pos hk
  unfold sumV at h
  split at h
  · rename_i hs
    have hu := Option.some.inj h
    rw [tot_append, tot_append] at hs hu
    simp only [V4.small, V4.add] at hs
    have hs := of_decide_eq_true hs
    refine ⟨totV (l ++ m), ?_, ?_⟩
    · unfold sumV
      rw [tot_append, if_pos]
      simp only [V4.small, V4.add]
      exact decide_eq_true ⟨by omega, by omega, by omega, by omega⟩
    · rw [← hu, tot_append]
      simp only [V4.le, V4.add]
      exact decide_eq_true ⟨by omega, by omega, by omega, by omega⟩
  · cases h
/-- With a pod less a use that didn't go over doesn't, and is no greater. -/
theorem use_less {l : List PodD} {node : Int} {u : V4} {i : Nat} (hi : i < l.length) (ho : ∀ p ∈ l, p.Ok) (h : useD l node = some u) : ∃ u', useD (l.take i ++ l.drop (i + 1)) node = some u' ∧ u'.le u = true := by
  have e : l = l.take i ++ ([l[i]] ++ l.drop (i + 1)) := by
    have := List.drop_eq_getElem_cons hi
    rw [List.singleton_append, ← this, List.take_append_drop]
  unfold useD at h ⊢
  rw [e, reqs_append, reqs_append] at h
  rw [reqs_append]
  exact sum_less (reqs_ok (fun p hp => by obtain rfl := List.mem_singleton.1 hp; exact ho _ (List.getElem_mem hi))) h
theorem left_less {n : NodeD} {u u' r : V4} (hu : u'.le u = true) (h : leftD n u = some r) : ∃ r', leftD n u' = some r' := by
  unfold leftD at h ⊢
  split at h
  · cases h
  · rename_i f hf
    obtain ⟨_, hl⟩ := sub_le h
    exact ⟨f.sub u', by unfold subV; rw [if_pos (le_trans4 hu hl)]⟩
theorem room_less {ns : List NodeD} {l : List PodD} {i : Nat} (hi : i < l.length) (ho : ∀ p ∈ l, p.Ok) (h : (roomOf ns l).1 = 0) : roomOf ns (l.take i ++ l.drop (i + 1)) = (0, -1) := by
  refine roomD_pair (roomD_all.2 fun n hn => ?_)
  obtain ⟨m, u, r, h1, h2, h3, _⟩ := rest_zero.1 (roomD_all.1 h n hn)
  obtain ⟨u', h4, h5⟩ := use_less hi ho h2
  obtain ⟨r', h6⟩ := left_less h5 h3
  rw [rest_some h1 h4 h6]
end Go.Proofs.YtiinnoahopnkcaaGreatDoor

/- The program's orderFault and idFault, at each kind of record. -/
namespace Go.Proofs.YtiinnoahopnkcaaGreatDoor
set_option linter.unusedSimpArgs false
open Go.RowKit
set_option linter.unusedVariables false

/-- What a region with loads and calls keeps: all blocks that there were are as they were. -/
def Keeps (W : World) (w' : World) : Prop := (∀ b o, b < W.heap.size → w'.cell? ⟨b, o, none⟩ = W.cell? ⟨b, o, none⟩) ∧ Below W.heap.size W w'
theorem Keeps.of {W v : World} (k : Below W.heap.size W v) : Keeps W v := ⟨fun b o h => k.cell (p := ⟨b, o, none⟩) h, k⟩
theorem Keeps.step {W v v' : World} (h : Keeps W v) (hb : Below v.heap.size v v') : Keeps W v' := Keeps.of (h.2.trans (hb.mono h.2.size))
theorem Keeps.alloc {W v : World} (h : Keeps W v) (o : Obj) : Keeps W (v.alloc o) := Keeps.of (h.2.alloc h.2.size o)
theorem Keeps.refl (W : World) : Keeps W W := Keeps.of (Below.refl _ _)
theorem Keeps.drew {W v : World} (h : Keeps W v) : Keeps W v.drew := Keeps.of (Below.drew h.2)
theorem Keeps.set {W v : World} {p : Addr} (h : Keeps W v) (hp : W.heap.size ≤ p.block) (x : Value) : Keeps W (v.setCell p x) := Keeps.of (h.2.setCell hp x)

/-- What is amiss with an Id beside the one ahead. -/
def ordI (last n : Int) : Int := if n = last then 5 else if n < last then 1 else 0
def idI (order n : Int) : Int := if order = 0 then (if inB n 1 2147483647 = true then 0 else 1) else order

set_option maxHeartbeats 1600000 in
theorem orderN_first (A : Option Addr) (n c : Nat) (f : Value) (w : World) :
    Calls Tryz.prog 117 #[.slice A n c, .int .i64 0, f] w fun e w' => e = .returned (.int .i64 0) ∧ w = w' := by
  go_enter Tryz.func117, Tryz.ntmps117
  go_wp2
  go_ret
  exact ⟨rfl, rfl⟩
set_option maxHeartbeats 3200000 in
set_option maxRecDepth 100000 in
theorem orderN_next (l : List NodeD) (j : Nat) (A : Option Addr) (n c : Nat) (w : World) (hn : n = l.length) (hl : n ≤ 1000) (hj : j + 1 < l.length) (hr : Recs 10 cellsN w w.heap.size A l) :
    Calls Tryz.prog 117 #[.slice A n c, .int .i64 ((j : Int) + 1), .func (.func 52) #[] #[]] w fun e w' => e = .returned (.int .i64 (ordI l[j].id l[j + 1].id)) ∧ Below w.heap.size w w' := by
  obtain ⟨b, o, rfl, hb, he⟩ := hr.at hj
  obtain ⟨b', o', h1, _, hf⟩ := hr.at (show j < l.length by omega)
  injection h1 with h1
  injection h1 with h1 h2 _
  subst h1 h2
  generalize l[j + 1] = x at *
  generalize l[j] = y at *
  have e0 : w.cell? ⟨b, o + (j + 1) * 10, none⟩ = some (.int .i64 x.id) := he 0 _ rfl
  have e1 : w.cell? ⟨b, o + (j + 1) * 10 + 1, none⟩ = some (.int .i64 x.zone) := he 1 _ rfl
  have e2 : w.cell? ⟨b, o + (j + 1) * 10 + 2, none⟩ = some (.int .u64 x.cap.a) := he 2 _ rfl
  have e3 : w.cell? ⟨b, o + (j + 1) * 10 + 3, none⟩ = some (.int .u64 x.cap.b) := he 3 _ rfl
  have e4 : w.cell? ⟨b, o + (j + 1) * 10 + 4, none⟩ = some (.int .u64 x.cap.c) := he 4 _ rfl
  have e5 : w.cell? ⟨b, o + (j + 1) * 10 + 5, none⟩ = some (.int .u64 x.cap.d) := he 5 _ rfl
  have e6 : w.cell? ⟨b, o + (j + 1) * 10 + 6, none⟩ = some (.int .u64 x.held.a) := he 6 _ rfl
  have e7 : w.cell? ⟨b, o + (j + 1) * 10 + 7, none⟩ = some (.int .u64 x.held.b) := he 7 _ rfl
  have e8 : w.cell? ⟨b, o + (j + 1) * 10 + 8, none⟩ = some (.int .u64 x.held.c) := he 8 _ rfl
  have e9 : w.cell? ⟨b, o + (j + 1) * 10 + 9, none⟩ = some (.int .u64 x.held.d) := he 9 _ rfl
  have f0 : w.cell? ⟨b, o + j * 10, none⟩ = some (.int .i64 y.id) := hf 0 _ rfl
  have f1 : w.cell? ⟨b, o + j * 10 + 1, none⟩ = some (.int .i64 y.zone) := hf 1 _ rfl
  have f2 : w.cell? ⟨b, o + j * 10 + 2, none⟩ = some (.int .u64 y.cap.a) := hf 2 _ rfl
  have f3 : w.cell? ⟨b, o + j * 10 + 3, none⟩ = some (.int .u64 y.cap.b) := hf 3 _ rfl
  have f4 : w.cell? ⟨b, o + j * 10 + 4, none⟩ = some (.int .u64 y.cap.c) := hf 4 _ rfl
  have f5 : w.cell? ⟨b, o + j * 10 + 5, none⟩ = some (.int .u64 y.cap.d) := hf 5 _ rfl
  have f6 : w.cell? ⟨b, o + j * 10 + 6, none⟩ = some (.int .u64 y.held.a) := hf 6 _ rfl
  have f7 : w.cell? ⟨b, o + j * 10 + 7, none⟩ = some (.int .u64 y.held.b) := hf 7 _ rfl
  have f8 : w.cell? ⟨b, o + j * 10 + 8, none⟩ = some (.int .u64 y.held.c) := hf 8 _ rfl
  have f9 : w.cell? ⟨b, o + j * 10 + 9, none⟩ = some (.int .u64 y.held.d) := hf 9 _ rfl
  have hjn : (j : Int) + 1 < (n : Int) := by omega
  have hj1 : (j : Int) < (n : Int) := by omega
  have hj0 : (0 : Int) ≤ (j : Int) := by omega
  have hj2 : (0 : Int) ≤ (j : Int) + 1 := by omega
  have hjk : (j : Int) + 1 ≤ 1000 := by omega
  have hjz : ((j : Int) + 1 == 0) = false := by rw [beq_eq_false_iff_ne]; omega
  have s1 : IntKind.i64.wrap ((j : Int) + 1 - 1) = (j : Int) := by rw [IntWalk.i64_in _ (by omega)]; omega
  have s2 : IntKind.i64.wrap (j : Int) = (j : Int) := IntWalk.i64_in _ (by omega)
  have s3 : ((j : Int) + 1).toNat = j + 1 := by omega
  clear he hf hn hr hj
  by_cases hlt : x.id < y.id
  · have HE := Lib.hid (show ordI y.id x.id = 1 by unfold ordI; rw [if_neg (by omega), if_pos hlt])
    have HC : cmpI x.id y.id = -1 := by unfold cmpI; rw [if_pos hlt]
    go_enter Tryz.func117, Tryz.ntmps117
    go_wp2
    go_region_held3 (fun w' => (∀ b o, b < w.heap.size → w'.cell? ⟨b, o, none⟩ = w.cell? ⟨b, o, none⟩) ∧ Below w.heap.size w w')
      (first | (with_reducible assumption) | exact Keeps.of (Below.drew (Below.refl _ _)) | exact Keeps.step (by assumption) (by assumption))
      (first
        | (go_at_call 52; first
            | ((with_reducible refine (idN_any x _).mono ?_); rintro e w' ⟨rfl, hb⟩)
            | ((with_reducible refine (idN_any y _).mono ?_); rintro e w' ⟨rfl, hb⟩))
        | (go_at_call 61; (with_reducible refine (compare_any _ _ _).mono ?_); rintro e w' ⟨rfl, rfl⟩))
    clear s1 s2 s3
    go_wp2
    go_ret
    exact ⟨ret_int HE.out.symm, (by assumption : Keeps w _).2⟩
  · by_cases heq : x.id = y.id
    · have HE := Lib.hid (show ordI y.id x.id = 5 by unfold ordI; rw [if_pos heq])
      have HC : cmpI x.id y.id = 0 := by unfold cmpI; rw [if_neg hlt, if_neg (by omega)]
      clear heq
      go_enter Tryz.func117, Tryz.ntmps117
      go_wp2
      go_region_held3 (fun w' => (∀ b o, b < w.heap.size → w'.cell? ⟨b, o, none⟩ = w.cell? ⟨b, o, none⟩) ∧ Below w.heap.size w w')
        (first | (with_reducible assumption) | exact Keeps.of (Below.drew (Below.refl _ _)) | exact Keeps.step (by assumption) (by assumption))
        (first
          | (go_at_call 52; first
              | ((with_reducible refine (idN_any x _).mono ?_); rintro e w' ⟨rfl, hb⟩)
              | ((with_reducible refine (idN_any y _).mono ?_); rintro e w' ⟨rfl, hb⟩))
          | (go_at_call 61; (with_reducible refine (compare_any _ _ _).mono ?_); rintro e w' ⟨rfl, rfl⟩))
      clear s1 s2 s3
      go_wp2
      go_ret
      exact ⟨ret_int HE.out.symm, (by assumption : Keeps w _).2⟩
    · have HE := Lib.hid (show ordI y.id x.id = 0 by unfold ordI; rw [if_neg heq, if_neg hlt])
      have HC : cmpI x.id y.id = 1 := by unfold cmpI; rw [if_neg hlt, if_pos (by omega)]
      go_enter Tryz.func117, Tryz.ntmps117
      go_wp2
      go_region_held3 (fun w' => (∀ b o, b < w.heap.size → w'.cell? ⟨b, o, none⟩ = w.cell? ⟨b, o, none⟩) ∧ Below w.heap.size w w')
        (first | (with_reducible assumption) | exact Keeps.of (Below.drew (Below.refl _ _)) | exact Keeps.step (by assumption) (by assumption))
        (first
          | (go_at_call 52; first
              | ((with_reducible refine (idN_any x _).mono ?_); rintro e w' ⟨rfl, hb⟩)
              | ((with_reducible refine (idN_any y _).mono ?_); rintro e w' ⟨rfl, hb⟩))
          | (go_at_call 61; (with_reducible refine (compare_any _ _ _).mono ?_); rintro e w' ⟨rfl, rfl⟩))
      clear s1 s2 s3
      go_wp2
      go_ret
      exact ⟨ret_int HE.out.symm, (by assumption : Keeps w _).2⟩

set_option maxHeartbeats 1600000 in
theorem orderL_first (A : Option Addr) (n c : Nat) (f : Value) (w : World) :
    Calls Tryz.prog 118 #[.slice A n c, .int .i64 0, f] w fun e w' => e = .returned (.int .i64 0) ∧ w = w' := by
  go_enter Tryz.func118, Tryz.ntmps118
  go_wp2
  go_ret
  exact ⟨rfl, rfl⟩
set_option maxHeartbeats 3200000 in
set_option maxRecDepth 100000 in
theorem orderL_next (l : List LoadD) (j : Nat) (A : Option Addr) (n c : Nat) (w : World) (hn : n = l.length) (hl : n ≤ 1000) (hj : j + 1 < l.length) (hr : Recs 5 cellsL w w.heap.size A l) :
    Calls Tryz.prog 118 #[.slice A n c, .int .i64 ((j : Int) + 1), .func (.func 55) #[] #[]] w fun e w' => e = .returned (.int .i64 (ordI l[j].id l[j + 1].id)) ∧ Below w.heap.size w w' := by
  obtain ⟨b, o, rfl, hb, he⟩ := hr.at hj
  obtain ⟨b', o', h1, _, hf⟩ := hr.at (show j < l.length by omega)
  injection h1 with h1
  injection h1 with h1 h2 _
  subst h1 h2
  generalize l[j + 1] = x at *
  generalize l[j] = y at *
  have e0 : w.cell? ⟨b, o + (j + 1) * 5, none⟩ = some (.int .i64 x.id) := he 0 _ rfl
  have e1 : w.cell? ⟨b, o + (j + 1) * 5 + 1, none⟩ = some (.bool x.apart) := he 1 _ rfl
  have e2 : w.cell? ⟨b, o + (j + 1) * 5 + 2, none⟩ = some (.int .i64 x.skew) := he 2 _ rfl
  have e3 : w.cell? ⟨b, o + (j + 1) * 5 + 3, none⟩ = some (.int .i64 x.min) := he 3 _ rfl
  have e4 : w.cell? ⟨b, o + (j + 1) * 5 + 4, none⟩ = some (.int .i64 x.max) := he 4 _ rfl
  have f0 : w.cell? ⟨b, o + j * 5, none⟩ = some (.int .i64 y.id) := hf 0 _ rfl
  have f1 : w.cell? ⟨b, o + j * 5 + 1, none⟩ = some (.bool y.apart) := hf 1 _ rfl
  have f2 : w.cell? ⟨b, o + j * 5 + 2, none⟩ = some (.int .i64 y.skew) := hf 2 _ rfl
  have f3 : w.cell? ⟨b, o + j * 5 + 3, none⟩ = some (.int .i64 y.min) := hf 3 _ rfl
  have f4 : w.cell? ⟨b, o + j * 5 + 4, none⟩ = some (.int .i64 y.max) := hf 4 _ rfl
  have hjn : (j : Int) + 1 < (n : Int) := by omega
  have hj1 : (j : Int) < (n : Int) := by omega
  have hj0 : (0 : Int) ≤ (j : Int) := by omega
  have hj2 : (0 : Int) ≤ (j : Int) + 1 := by omega
  have hjk : (j : Int) + 1 ≤ 1000 := by omega
  have hjz : ((j : Int) + 1 == 0) = false := by rw [beq_eq_false_iff_ne]; omega
  have s1 : IntKind.i64.wrap ((j : Int) + 1 - 1) = (j : Int) := by rw [IntWalk.i64_in _ (by omega)]; omega
  have s2 : IntKind.i64.wrap (j : Int) = (j : Int) := IntWalk.i64_in _ (by omega)
  have s3 : ((j : Int) + 1).toNat = j + 1 := by omega
  clear he hf hn hr hj
  by_cases hlt : x.id < y.id
  · have HE := Lib.hid (show ordI y.id x.id = 1 by unfold ordI; rw [if_neg (by omega), if_pos hlt])
    have HC : cmpI x.id y.id = -1 := by unfold cmpI; rw [if_pos hlt]
    go_enter Tryz.func118, Tryz.ntmps118
    go_wp2
    go_region_held3 (fun w' => (∀ b o, b < w.heap.size → w'.cell? ⟨b, o, none⟩ = w.cell? ⟨b, o, none⟩) ∧ Below w.heap.size w w')
      (first | (with_reducible assumption) | exact Keeps.of (Below.drew (Below.refl _ _)) | exact Keeps.step (by assumption) (by assumption))
      (first
        | (go_at_call 55; first
            | ((with_reducible refine (idL_any x _).mono ?_); rintro e w' ⟨rfl, hb⟩)
            | ((with_reducible refine (idL_any y _).mono ?_); rintro e w' ⟨rfl, hb⟩))
        | (go_at_call 61; (with_reducible refine (compare_any _ _ _).mono ?_); rintro e w' ⟨rfl, rfl⟩))
    clear s1 s2 s3
    go_wp2
    go_ret
    exact ⟨ret_int HE.out.symm, (by assumption : Keeps w _).2⟩
  · by_cases heq : x.id = y.id
    · have HE := Lib.hid (show ordI y.id x.id = 5 by unfold ordI; rw [if_pos heq])
      have HC : cmpI x.id y.id = 0 := by unfold cmpI; rw [if_neg hlt, if_neg (by omega)]
      clear heq
      go_enter Tryz.func118, Tryz.ntmps118
      go_wp2
      go_region_held3 (fun w' => (∀ b o, b < w.heap.size → w'.cell? ⟨b, o, none⟩ = w.cell? ⟨b, o, none⟩) ∧ Below w.heap.size w w')
        (first | (with_reducible assumption) | exact Keeps.of (Below.drew (Below.refl _ _)) | exact Keeps.step (by assumption) (by assumption))
        (first
          | (go_at_call 55; first
              | ((with_reducible refine (idL_any x _).mono ?_); rintro e w' ⟨rfl, hb⟩)
              | ((with_reducible refine (idL_any y _).mono ?_); rintro e w' ⟨rfl, hb⟩))
          | (go_at_call 61; (with_reducible refine (compare_any _ _ _).mono ?_); rintro e w' ⟨rfl, rfl⟩))
      clear s1 s2 s3
      go_wp2
      go_ret
      exact ⟨ret_int HE.out.symm, (by assumption : Keeps w _).2⟩
    · have HE := Lib.hid (show ordI y.id x.id = 0 by unfold ordI; rw [if_neg heq, if_neg hlt])
      have HC : cmpI x.id y.id = 1 := by unfold cmpI; rw [if_neg hlt, if_pos (by omega)]
      go_enter Tryz.func118, Tryz.ntmps118
      go_wp2
      go_region_held3 (fun w' => (∀ b o, b < w.heap.size → w'.cell? ⟨b, o, none⟩ = w.cell? ⟨b, o, none⟩) ∧ Below w.heap.size w w')
        (first | (with_reducible assumption) | exact Keeps.of (Below.drew (Below.refl _ _)) | exact Keeps.step (by assumption) (by assumption))
        (first
          | (go_at_call 55; first
              | ((with_reducible refine (idL_any x _).mono ?_); rintro e w' ⟨rfl, hb⟩)
              | ((with_reducible refine (idL_any y _).mono ?_); rintro e w' ⟨rfl, hb⟩))
          | (go_at_call 61; (with_reducible refine (compare_any _ _ _).mono ?_); rintro e w' ⟨rfl, rfl⟩))
      clear s1 s2 s3
      go_wp2
      go_ret
      exact ⟨ret_int HE.out.symm, (by assumption : Keeps w _).2⟩

set_option maxHeartbeats 1600000 in
theorem orderP_first (A : Option Addr) (n c : Nat) (f : Value) (w : World) :
    Calls Tryz.prog 119 #[.slice A n c, .int .i64 0, f] w fun e w' => e = .returned (.int .i64 0) ∧ w = w' := by
  go_enter Tryz.func119, Tryz.ntmps119
  go_wp2
  go_ret
  exact ⟨rfl, rfl⟩
set_option maxHeartbeats 3200000 in
set_option maxRecDepth 100000 in
theorem orderP_next (l : List PodD) (j : Nat) (A : Option Addr) (n c : Nat) (w : World) (hn : n = l.length) (hl : n ≤ 1000) (hj : j + 1 < l.length) (hr : Recs 8 cellsP w w.heap.size A l) :
    Calls Tryz.prog 119 #[.slice A n c, .int .i64 ((j : Int) + 1), .func (.func 58) #[] #[]] w fun e w' => e = .returned (.int .i64 (ordI l[j].id l[j + 1].id)) ∧ Below w.heap.size w w' := by
  obtain ⟨b, o, rfl, hb, he⟩ := hr.at hj
  obtain ⟨b', o', h1, _, hf⟩ := hr.at (show j < l.length by omega)
  injection h1 with h1
  injection h1 with h1 h2 _
  subst h1 h2
  generalize l[j + 1] = x at *
  generalize l[j] = y at *
  have e0 : w.cell? ⟨b, o + (j + 1) * 8, none⟩ = some (.int .i64 x.id) := he 0 _ rfl
  have e1 : w.cell? ⟨b, o + (j + 1) * 8 + 1, none⟩ = some (.int .i64 x.load) := he 1 _ rfl
  have e2 : w.cell? ⟨b, o + (j + 1) * 8 + 2, none⟩ = some (.int .i64 x.prio) := he 2 _ rfl
  have e3 : w.cell? ⟨b, o + (j + 1) * 8 + 3, none⟩ = some (.int .u64 x.req.a) := he 3 _ rfl
  have e4 : w.cell? ⟨b, o + (j + 1) * 8 + 4, none⟩ = some (.int .u64 x.req.b) := he 4 _ rfl
  have e5 : w.cell? ⟨b, o + (j + 1) * 8 + 5, none⟩ = some (.int .u64 x.req.c) := he 5 _ rfl
  have e6 : w.cell? ⟨b, o + (j + 1) * 8 + 6, none⟩ = some (.int .u64 x.req.d) := he 6 _ rfl
  have e7 : w.cell? ⟨b, o + (j + 1) * 8 + 7, none⟩ = some (.int .i64 x.node) := he 7 _ rfl
  have f0 : w.cell? ⟨b, o + j * 8, none⟩ = some (.int .i64 y.id) := hf 0 _ rfl
  have f1 : w.cell? ⟨b, o + j * 8 + 1, none⟩ = some (.int .i64 y.load) := hf 1 _ rfl
  have f2 : w.cell? ⟨b, o + j * 8 + 2, none⟩ = some (.int .i64 y.prio) := hf 2 _ rfl
  have f3 : w.cell? ⟨b, o + j * 8 + 3, none⟩ = some (.int .u64 y.req.a) := hf 3 _ rfl
  have f4 : w.cell? ⟨b, o + j * 8 + 4, none⟩ = some (.int .u64 y.req.b) := hf 4 _ rfl
  have f5 : w.cell? ⟨b, o + j * 8 + 5, none⟩ = some (.int .u64 y.req.c) := hf 5 _ rfl
  have f6 : w.cell? ⟨b, o + j * 8 + 6, none⟩ = some (.int .u64 y.req.d) := hf 6 _ rfl
  have f7 : w.cell? ⟨b, o + j * 8 + 7, none⟩ = some (.int .i64 y.node) := hf 7 _ rfl
  have hjn : (j : Int) + 1 < (n : Int) := by omega
  have hj1 : (j : Int) < (n : Int) := by omega
  have hj0 : (0 : Int) ≤ (j : Int) := by omega
  have hj2 : (0 : Int) ≤ (j : Int) + 1 := by omega
  have hjk : (j : Int) + 1 ≤ 1000 := by omega
  have hjz : ((j : Int) + 1 == 0) = false := by rw [beq_eq_false_iff_ne]; omega
  have s1 : IntKind.i64.wrap ((j : Int) + 1 - 1) = (j : Int) := by rw [IntWalk.i64_in _ (by omega)]; omega
  have s2 : IntKind.i64.wrap (j : Int) = (j : Int) := IntWalk.i64_in _ (by omega)
  have s3 : ((j : Int) + 1).toNat = j + 1 := by omega
  clear he hf hn hr hj
  by_cases hlt : x.id < y.id
  · have HE := Lib.hid (show ordI y.id x.id = 1 by unfold ordI; rw [if_neg (by omega), if_pos hlt])
    have HC : cmpI x.id y.id = -1 := by unfold cmpI; rw [if_pos hlt]
    go_enter Tryz.func119, Tryz.ntmps119
    go_wp2
    go_region_held3 (fun w' => (∀ b o, b < w.heap.size → w'.cell? ⟨b, o, none⟩ = w.cell? ⟨b, o, none⟩) ∧ Below w.heap.size w w')
      (first | (with_reducible assumption) | exact Keeps.of (Below.drew (Below.refl _ _)) | exact Keeps.step (by assumption) (by assumption))
      (first
        | (go_at_call 58; first
            | ((with_reducible refine (idP_any x _).mono ?_); rintro e w' ⟨rfl, hb⟩)
            | ((with_reducible refine (idP_any y _).mono ?_); rintro e w' ⟨rfl, hb⟩))
        | (go_at_call 61; (with_reducible refine (compare_any _ _ _).mono ?_); rintro e w' ⟨rfl, rfl⟩))
    clear s1 s2 s3
    go_wp2
    go_ret
    exact ⟨ret_int HE.out.symm, (by assumption : Keeps w _).2⟩
  · by_cases heq : x.id = y.id
    · have HE := Lib.hid (show ordI y.id x.id = 5 by unfold ordI; rw [if_pos heq])
      have HC : cmpI x.id y.id = 0 := by unfold cmpI; rw [if_neg hlt, if_neg (by omega)]
      clear heq
      go_enter Tryz.func119, Tryz.ntmps119
      go_wp2
      go_region_held3 (fun w' => (∀ b o, b < w.heap.size → w'.cell? ⟨b, o, none⟩ = w.cell? ⟨b, o, none⟩) ∧ Below w.heap.size w w')
        (first | (with_reducible assumption) | exact Keeps.of (Below.drew (Below.refl _ _)) | exact Keeps.step (by assumption) (by assumption))
        (first
          | (go_at_call 58; first
              | ((with_reducible refine (idP_any x _).mono ?_); rintro e w' ⟨rfl, hb⟩)
              | ((with_reducible refine (idP_any y _).mono ?_); rintro e w' ⟨rfl, hb⟩))
          | (go_at_call 61; (with_reducible refine (compare_any _ _ _).mono ?_); rintro e w' ⟨rfl, rfl⟩))
      clear s1 s2 s3
      go_wp2
      go_ret
      exact ⟨ret_int HE.out.symm, (by assumption : Keeps w _).2⟩
    · have HE := Lib.hid (show ordI y.id x.id = 0 by unfold ordI; rw [if_neg heq, if_neg hlt])
      have HC : cmpI x.id y.id = 1 := by unfold cmpI; rw [if_neg hlt, if_pos (by omega)]
      go_enter Tryz.func119, Tryz.ntmps119
      go_wp2
      go_region_held3 (fun w' => (∀ b o, b < w.heap.size → w'.cell? ⟨b, o, none⟩ = w.cell? ⟨b, o, none⟩) ∧ Below w.heap.size w w')
        (first | (with_reducible assumption) | exact Keeps.of (Below.drew (Below.refl _ _)) | exact Keeps.step (by assumption) (by assumption))
        (first
          | (go_at_call 58; first
              | ((with_reducible refine (idP_any x _).mono ?_); rintro e w' ⟨rfl, hb⟩)
              | ((with_reducible refine (idP_any y _).mono ?_); rintro e w' ⟨rfl, hb⟩))
          | (go_at_call 61; (with_reducible refine (compare_any _ _ _).mono ?_); rintro e w' ⟨rfl, rfl⟩))
      clear s1 s2 s3
      go_wp2
      go_ret
      exact ⟨ret_int HE.out.symm, (by assumption : Keeps w _).2⟩

set_option maxHeartbeats 1600000 in
theorem orderW_first (A : Option Addr) (n c : Nat) (f : Value) (w : World) :
    Calls Tryz.prog 28 #[.slice A n c, .int .i64 0, f] w fun e w' => e = .returned (.int .i64 0) ∧ w = w' := by
  go_enter Tryz.func28, Tryz.ntmps28
  go_wp2
  go_ret
  exact ⟨rfl, rfl⟩
set_option maxHeartbeats 3200000 in
set_option maxRecDepth 100000 in
theorem orderW_next (l : List WantD) (j : Nat) (A : Option Addr) (n c : Nat) (w : World) (hn : n = l.length) (hl : n ≤ 1000) (hj : j + 1 < l.length) (hr : Recs 6 cellsW w w.heap.size A l) :
    Calls Tryz.prog 28 #[.slice A n c, .int .i64 ((j : Int) + 1), .func (.func 29) #[] #[]] w fun e w' => e = .returned (.int .i64 (ordI l[j].pod l[j + 1].pod)) ∧ Below w.heap.size w w' := by
  obtain ⟨b, o, rfl, hb, he⟩ := hr.at hj
  obtain ⟨b', o', h1, _, hf⟩ := hr.at (show j < l.length by omega)
  injection h1 with h1
  injection h1 with h1 h2 _
  subst h1 h2
  generalize l[j + 1] = x at *
  generalize l[j] = y at *
  have e0 : w.cell? ⟨b, o + (j + 1) * 6, none⟩ = some (.int .i64 x.pod) := he 0 _ rfl
  have e1 : w.cell? ⟨b, o + (j + 1) * 6 + 1, none⟩ = some (.int .u64 x.req.a) := he 1 _ rfl
  have e2 : w.cell? ⟨b, o + (j + 1) * 6 + 2, none⟩ = some (.int .u64 x.req.b) := he 2 _ rfl
  have e3 : w.cell? ⟨b, o + (j + 1) * 6 + 3, none⟩ = some (.int .u64 x.req.c) := he 3 _ rfl
  have e4 : w.cell? ⟨b, o + (j + 1) * 6 + 4, none⟩ = some (.int .u64 x.req.d) := he 4 _ rfl
  have e5 : w.cell? ⟨b, o + (j + 1) * 6 + 5, none⟩ = some (.bool x.stay) := he 5 _ rfl
  have f0 : w.cell? ⟨b, o + j * 6, none⟩ = some (.int .i64 y.pod) := hf 0 _ rfl
  have f1 : w.cell? ⟨b, o + j * 6 + 1, none⟩ = some (.int .u64 y.req.a) := hf 1 _ rfl
  have f2 : w.cell? ⟨b, o + j * 6 + 2, none⟩ = some (.int .u64 y.req.b) := hf 2 _ rfl
  have f3 : w.cell? ⟨b, o + j * 6 + 3, none⟩ = some (.int .u64 y.req.c) := hf 3 _ rfl
  have f4 : w.cell? ⟨b, o + j * 6 + 4, none⟩ = some (.int .u64 y.req.d) := hf 4 _ rfl
  have f5 : w.cell? ⟨b, o + j * 6 + 5, none⟩ = some (.bool y.stay) := hf 5 _ rfl
  have hjn : (j : Int) + 1 < (n : Int) := by omega
  have hj1 : (j : Int) < (n : Int) := by omega
  have hj0 : (0 : Int) ≤ (j : Int) := by omega
  have hj2 : (0 : Int) ≤ (j : Int) + 1 := by omega
  have hjk : (j : Int) + 1 ≤ 1000 := by omega
  have hjz : ((j : Int) + 1 == 0) = false := by rw [beq_eq_false_iff_ne]; omega
  have s1 : IntKind.i64.wrap ((j : Int) + 1 - 1) = (j : Int) := by rw [IntWalk.i64_in _ (by omega)]; omega
  have s2 : IntKind.i64.wrap (j : Int) = (j : Int) := IntWalk.i64_in _ (by omega)
  have s3 : ((j : Int) + 1).toNat = j + 1 := by omega
  clear he hf hn hr hj
  by_cases hlt : x.pod < y.pod
  · have HE := Lib.hid (show ordI y.pod x.pod = 1 by unfold ordI; rw [if_neg (by omega), if_pos hlt])
    have HC : cmpI x.pod y.pod = -1 := by unfold cmpI; rw [if_pos hlt]
    go_enter Tryz.func28, Tryz.ntmps28
    go_wp2
    go_region_held3 (fun w' => (∀ b o, b < w.heap.size → w'.cell? ⟨b, o, none⟩ = w.cell? ⟨b, o, none⟩) ∧ Below w.heap.size w w')
      (first | (with_reducible assumption) | exact Keeps.of (Below.drew (Below.refl _ _)) | exact Keeps.step (by assumption) (by assumption))
      (first
        | (go_at_call 29; first
            | ((with_reducible refine (idW_any x _).mono ?_); rintro e w' ⟨rfl, hb⟩)
            | ((with_reducible refine (idW_any y _).mono ?_); rintro e w' ⟨rfl, hb⟩))
        | (go_at_call 61; (with_reducible refine (compare_any _ _ _).mono ?_); rintro e w' ⟨rfl, rfl⟩))
    clear s1 s2 s3
    go_wp2
    go_ret
    exact ⟨ret_int HE.out.symm, (by assumption : Keeps w _).2⟩
  · by_cases heq : x.pod = y.pod
    · have HE := Lib.hid (show ordI y.pod x.pod = 5 by unfold ordI; rw [if_pos heq])
      have HC : cmpI x.pod y.pod = 0 := by unfold cmpI; rw [if_neg hlt, if_neg (by omega)]
      clear heq
      go_enter Tryz.func28, Tryz.ntmps28
      go_wp2
      go_region_held3 (fun w' => (∀ b o, b < w.heap.size → w'.cell? ⟨b, o, none⟩ = w.cell? ⟨b, o, none⟩) ∧ Below w.heap.size w w')
        (first | (with_reducible assumption) | exact Keeps.of (Below.drew (Below.refl _ _)) | exact Keeps.step (by assumption) (by assumption))
        (first
          | (go_at_call 29; first
              | ((with_reducible refine (idW_any x _).mono ?_); rintro e w' ⟨rfl, hb⟩)
              | ((with_reducible refine (idW_any y _).mono ?_); rintro e w' ⟨rfl, hb⟩))
          | (go_at_call 61; (with_reducible refine (compare_any _ _ _).mono ?_); rintro e w' ⟨rfl, rfl⟩))
      clear s1 s2 s3
      go_wp2
      go_ret
      exact ⟨ret_int HE.out.symm, (by assumption : Keeps w _).2⟩
    · have HE := Lib.hid (show ordI y.pod x.pod = 0 by unfold ordI; rw [if_neg heq, if_neg hlt])
      have HC : cmpI x.pod y.pod = 1 := by unfold cmpI; rw [if_neg hlt, if_pos (by omega)]
      go_enter Tryz.func28, Tryz.ntmps28
      go_wp2
      go_region_held3 (fun w' => (∀ b o, b < w.heap.size → w'.cell? ⟨b, o, none⟩ = w.cell? ⟨b, o, none⟩) ∧ Below w.heap.size w w')
        (first | (with_reducible assumption) | exact Keeps.of (Below.drew (Below.refl _ _)) | exact Keeps.step (by assumption) (by assumption))
        (first
          | (go_at_call 29; first
              | ((with_reducible refine (idW_any x _).mono ?_); rintro e w' ⟨rfl, hb⟩)
              | ((with_reducible refine (idW_any y _).mono ?_); rintro e w' ⟨rfl, hb⟩))
          | (go_at_call 61; (with_reducible refine (compare_any _ _ _).mono ?_); rintro e w' ⟨rfl, rfl⟩))
      clear s1 s2 s3
      go_wp2
      go_ret
      exact ⟨ret_int HE.out.symm, (by assumption : Keeps w _).2⟩

end Go.Proofs.YtiinnoahopnkcaaGreatDoor

/- The program's find, at each kind of record: what is common. -/
namespace Go.Proofs.YtiinnoahopnkcaaGreatDoor
set_option linter.unusedSimpArgs false
open Go.RowKit
set_option linter.unusedVariables false

/-- The first one with that Id, true; or a zero one, false. -/
def FindTo {α : Type} (agg : α → Value) (zero : Value) (f : α → Int) (l : List α) (id : Int) (w : World) (e : Ending) (w' : World) : Prop :=
  ((place f id l 0 < 0 ∧ e = .returned (.tuple #[zero, .bool false])) ∨ ∃ (i : Nat) (h : i < l.length), place f id l 0 = i ∧ e = .returned (.tuple #[agg l[i], .bool true])) ∧ Below w.heap.size w w'
def FRel {α : Type} (f : α → Int) (id : Int) (l : List α) (W : World) (B : Nat) (i : Value) (wr : World) : Prop := ∃ k : Nat, k ≤ l.length ∧ i = .int .i64 k ∧ place f id (l.drop k) k = place f id l 0 ∧ Below B W wr
theorem place_found {α : Type} {f : α → Int} {id : Int} {l : List α} {k : Nat} (h : k < l.length) (he : f l[k] = id) (hp : place f id (l.drop k) k = place f id l 0) : place f id l 0 = k := place_here h he hp
end Go.Proofs.YtiinnoahopnkcaaGreatDoor

namespace Go.Proofs.YtiinnoahopnkcaaGreatDoor
set_option linter.unusedSimpArgs false
open Go.RowKit
set_option linter.unusedVariables false

abbrev zeroN : Value := .agg #[.int .i64 0, .int .i64 0, .int .u64 0, .int .u64 0, .int .u64 0, .int .u64 0, .int .u64 0, .int .u64 0, .int .u64 0, .int .u64 0]
set_option maxHeartbeats 3200000 in
set_option maxRecDepth 100000 in
theorem findN_any (l : List NodeD) (id : Int) (A : Option Addr) (n c : Nat) (w : World) (hn : n = l.length) (hl : n ≤ 1000) (hr : Recs 10 cellsN w w.heap.size A l) :
    Calls Tryz.prog 121 #[.slice A n c, .int .i64 id, .func (.func 52) #[] #[]] w (FindTo aggN zeroN NodeD.id l id w) := by
  have HR := Lib.hid hr
  have HN := Lib.hid hn
  clear hr hn
  have b00 : Below w.heap.size w (w.alloc (.cells #[.int .i64 0, .int .i64 0, .int .u64 0, .int .u64 0, .int .u64 0, .int .u64 0, .int .u64 0, .int .u64 0, .int .u64 0, .int .u64 0] 53)) := (Below.refl _ _).alloc (Nat.le_refl _) _
  go_enter Tryz.func121, Tryz.ntmps121
  go_wp2
  go_loopw [13] (FRel NodeD.id id l (w.alloc (.cells #[.int .i64 0, .int .i64 0, .int .u64 0, .int .u64 0, .int .u64 0, .int .u64 0, .int .u64 0, .int .u64 0, .int .u64 0, .int .u64 0] 53)) (w.heap.size + 1)) (fun i _ => n - (intOf i).toNat)
  case atStart => exact ⟨0, by omega, rfl, rfl, Below.refl _ _⟩
  case round =>
    obtain ⟨k, hk, rfl, hp, hbr⟩ := hrel
    have HP := Lib.hid hp
    have hzr : w.heap.size + 1 ≤ wr.heap.size := by have := hbr.size; simpa using this
    have kwr : Below w.heap.size w wr := b00.trans (hbr.mono (by omega))
    clear hp
    by_cases hlt : k < n
    · have hkl : k < l.length := by have := HN.out; omega
      obtain ⟨b, o, rfl, hb, he⟩ := HR.out.at hkl
      generalize hx : l[k] = x at *
      have HX := Lib.hid hx
      clear hx
      have e0 : wr.cell? ⟨b, o + k * 10, none⟩ = some (.int .i64 x.id) := (kwr.cell (p := ⟨b, o + k * 10, none⟩) hb).trans (he 0 _ rfl)
      have e1 : wr.cell? ⟨b, o + k * 10 + 1, none⟩ = some (.int .i64 x.zone) := (kwr.cell (p := ⟨b, o + k * 10 + 1, none⟩) hb).trans (he 1 _ rfl)
      have e2 : wr.cell? ⟨b, o + k * 10 + 2, none⟩ = some (.int .u64 x.cap.a) := (kwr.cell (p := ⟨b, o + k * 10 + 2, none⟩) hb).trans (he 2 _ rfl)
      have e3 : wr.cell? ⟨b, o + k * 10 + 3, none⟩ = some (.int .u64 x.cap.b) := (kwr.cell (p := ⟨b, o + k * 10 + 3, none⟩) hb).trans (he 3 _ rfl)
      have e4 : wr.cell? ⟨b, o + k * 10 + 4, none⟩ = some (.int .u64 x.cap.c) := (kwr.cell (p := ⟨b, o + k * 10 + 4, none⟩) hb).trans (he 4 _ rfl)
      have e5 : wr.cell? ⟨b, o + k * 10 + 5, none⟩ = some (.int .u64 x.cap.d) := (kwr.cell (p := ⟨b, o + k * 10 + 5, none⟩) hb).trans (he 5 _ rfl)
      have e6 : wr.cell? ⟨b, o + k * 10 + 6, none⟩ = some (.int .u64 x.held.a) := (kwr.cell (p := ⟨b, o + k * 10 + 6, none⟩) hb).trans (he 6 _ rfl)
      have e7 : wr.cell? ⟨b, o + k * 10 + 7, none⟩ = some (.int .u64 x.held.b) := (kwr.cell (p := ⟨b, o + k * 10 + 7, none⟩) hb).trans (he 7 _ rfl)
      have e8 : wr.cell? ⟨b, o + k * 10 + 8, none⟩ = some (.int .u64 x.held.c) := (kwr.cell (p := ⟨b, o + k * 10 + 8, none⟩) hb).trans (he 8 _ rfl)
      have e9 : wr.cell? ⟨b, o + k * 10 + 9, none⟩ = some (.int .u64 x.held.d) := (kwr.cell (p := ⟨b, o + k * 10 + 9, none⟩) hb).trans (he 9 _ rfl)
      have hbw : b < wr.heap.size := by omega
      clear he
      go_wp2_with fail
      refine (idN_any x _).mono ?_
      rintro e w2 ⟨rfl, hb2⟩
      have k1 : Below (w.heap.size + 1) (w.alloc (.cells #[.int .i64 0, .int .i64 0, .int .u64 0, .int .u64 0, .int .u64 0, .int .u64 0, .int .u64 0, .int .u64 0, .int .u64 0, .int .u64 0] 53)) (wr.alloc (.cells #[.int .i64 x.id, .int .i64 x.zone, .int .u64 x.cap.a, .int .u64 x.cap.b, .int .u64 x.cap.c, .int .u64 x.cap.d, .int .u64 x.held.a, .int .u64 x.held.b, .int .u64 x.held.c, .int .u64 x.held.d] 53)) := hbr.alloc hzr _
      have k2 : Below (w.heap.size + 1) (w.alloc (.cells #[.int .i64 0, .int .i64 0, .int .u64 0, .int .u64 0, .int .u64 0, .int .u64 0, .int .u64 0, .int .u64 0, .int .u64 0, .int .u64 0] 53)) w2 := k1.trans (hb2.mono (by simp; omega))
      have kw2 : Below w.heap.size w w2 := b00.trans (k2.mono (by omega))
      clear e0 e1 e2 e3 e4 e5 e6 e7 e8 e9
      by_cases hid : x.id = id
      · have HE := Lib.hid (place_found hkl (by rw [HX.out]; exact hid) HP.out)
        subst hid
        have f0 : w2.cell? ⟨wr.heap.size, 0, none⟩ = some (.int .i64 x.id) := (hb2.cell (p := ⟨wr.heap.size, 0, none⟩) (by simp)).trans (by simp)
        have f1 : w2.cell? ⟨wr.heap.size, 1, none⟩ = some (.int .i64 x.zone) := (hb2.cell (p := ⟨wr.heap.size, 1, none⟩) (by simp)).trans (by simp)
        have f2 : w2.cell? ⟨wr.heap.size, 2, none⟩ = some (.int .u64 x.cap.a) := (hb2.cell (p := ⟨wr.heap.size, 2, none⟩) (by simp)).trans (by simp)
        have f3 : w2.cell? ⟨wr.heap.size, 3, none⟩ = some (.int .u64 x.cap.b) := (hb2.cell (p := ⟨wr.heap.size, 3, none⟩) (by simp)).trans (by simp)
        have f4 : w2.cell? ⟨wr.heap.size, 4, none⟩ = some (.int .u64 x.cap.c) := (hb2.cell (p := ⟨wr.heap.size, 4, none⟩) (by simp)).trans (by simp)
        have f5 : w2.cell? ⟨wr.heap.size, 5, none⟩ = some (.int .u64 x.cap.d) := (hb2.cell (p := ⟨wr.heap.size, 5, none⟩) (by simp)).trans (by simp)
        have f6 : w2.cell? ⟨wr.heap.size, 6, none⟩ = some (.int .u64 x.held.a) := (hb2.cell (p := ⟨wr.heap.size, 6, none⟩) (by simp)).trans (by simp)
        have f7 : w2.cell? ⟨wr.heap.size, 7, none⟩ = some (.int .u64 x.held.b) := (hb2.cell (p := ⟨wr.heap.size, 7, none⟩) (by simp)).trans (by simp)
        have f8 : w2.cell? ⟨wr.heap.size, 8, none⟩ = some (.int .u64 x.held.c) := (hb2.cell (p := ⟨wr.heap.size, 8, none⟩) (by simp)).trans (by simp)
        have f9 : w2.cell? ⟨wr.heap.size, 9, none⟩ = some (.int .u64 x.held.d) := (hb2.cell (p := ⟨wr.heap.size, 9, none⟩) (by simp)).trans (by simp)
        have g0 : w2.cell? ⟨w.heap.size, 0, none⟩ = some (.int .i64 0) := (k2.cell (p := ⟨w.heap.size, 0, none⟩) (by show w.heap.size < w.heap.size + 1; omega)).trans (by simp)
        have h0 : w2.frozen? ⟨w.heap.size, 0, none⟩ = false := (k2.frozen (p := ⟨w.heap.size, 0, none⟩) (by show w.heap.size < w.heap.size + 1; omega)).trans (by simp)
        have g1 : w2.cell? ⟨w.heap.size, 1, none⟩ = some (.int .i64 0) := (k2.cell (p := ⟨w.heap.size, 1, none⟩) (by show w.heap.size < w.heap.size + 1; omega)).trans (by simp)
        have h1 : w2.frozen? ⟨w.heap.size, 1, none⟩ = false := (k2.frozen (p := ⟨w.heap.size, 1, none⟩) (by show w.heap.size < w.heap.size + 1; omega)).trans (by simp)
        have g2 : w2.cell? ⟨w.heap.size, 2, none⟩ = some (.int .u64 0) := (k2.cell (p := ⟨w.heap.size, 2, none⟩) (by show w.heap.size < w.heap.size + 1; omega)).trans (by simp)
        have h2 : w2.frozen? ⟨w.heap.size, 2, none⟩ = false := (k2.frozen (p := ⟨w.heap.size, 2, none⟩) (by show w.heap.size < w.heap.size + 1; omega)).trans (by simp)
        have g3 : w2.cell? ⟨w.heap.size, 3, none⟩ = some (.int .u64 0) := (k2.cell (p := ⟨w.heap.size, 3, none⟩) (by show w.heap.size < w.heap.size + 1; omega)).trans (by simp)
        have h3 : w2.frozen? ⟨w.heap.size, 3, none⟩ = false := (k2.frozen (p := ⟨w.heap.size, 3, none⟩) (by show w.heap.size < w.heap.size + 1; omega)).trans (by simp)
        have g4 : w2.cell? ⟨w.heap.size, 4, none⟩ = some (.int .u64 0) := (k2.cell (p := ⟨w.heap.size, 4, none⟩) (by show w.heap.size < w.heap.size + 1; omega)).trans (by simp)
        have h4 : w2.frozen? ⟨w.heap.size, 4, none⟩ = false := (k2.frozen (p := ⟨w.heap.size, 4, none⟩) (by show w.heap.size < w.heap.size + 1; omega)).trans (by simp)
        have g5 : w2.cell? ⟨w.heap.size, 5, none⟩ = some (.int .u64 0) := (k2.cell (p := ⟨w.heap.size, 5, none⟩) (by show w.heap.size < w.heap.size + 1; omega)).trans (by simp)
        have h5 : w2.frozen? ⟨w.heap.size, 5, none⟩ = false := (k2.frozen (p := ⟨w.heap.size, 5, none⟩) (by show w.heap.size < w.heap.size + 1; omega)).trans (by simp)
        have g6 : w2.cell? ⟨w.heap.size, 6, none⟩ = some (.int .u64 0) := (k2.cell (p := ⟨w.heap.size, 6, none⟩) (by show w.heap.size < w.heap.size + 1; omega)).trans (by simp)
        have h6 : w2.frozen? ⟨w.heap.size, 6, none⟩ = false := (k2.frozen (p := ⟨w.heap.size, 6, none⟩) (by show w.heap.size < w.heap.size + 1; omega)).trans (by simp)
        have g7 : w2.cell? ⟨w.heap.size, 7, none⟩ = some (.int .u64 0) := (k2.cell (p := ⟨w.heap.size, 7, none⟩) (by show w.heap.size < w.heap.size + 1; omega)).trans (by simp)
        have h7 : w2.frozen? ⟨w.heap.size, 7, none⟩ = false := (k2.frozen (p := ⟨w.heap.size, 7, none⟩) (by show w.heap.size < w.heap.size + 1; omega)).trans (by simp)
        have g8 : w2.cell? ⟨w.heap.size, 8, none⟩ = some (.int .u64 0) := (k2.cell (p := ⟨w.heap.size, 8, none⟩) (by show w.heap.size < w.heap.size + 1; omega)).trans (by simp)
        have h8 : w2.frozen? ⟨w.heap.size, 8, none⟩ = false := (k2.frozen (p := ⟨w.heap.size, 8, none⟩) (by show w.heap.size < w.heap.size + 1; omega)).trans (by simp)
        have g9 : w2.cell? ⟨w.heap.size, 9, none⟩ = some (.int .u64 0) := (k2.cell (p := ⟨w.heap.size, 9, none⟩) (by show w.heap.size < w.heap.size + 1; omega)).trans (by simp)
        have h9 : w2.frozen? ⟨w.heap.size, 9, none⟩ = false := (k2.frozen (p := ⟨w.heap.size, 9, none⟩) (by show w.heap.size < w.heap.size + 1; omega)).trans (by simp)
        go_wp2
        refine bodyPost_ret (v := .tuple #[aggN x, .bool true]) ?_ rfl ?_
        · simp [results, Tryz.results121, go_sem, *]
        · refine ⟨.inr ⟨k, hkl, HE.out, by rw [HX.out]⟩, ?_⟩
          repeat (first | with_reducible exact kw2 | with_reducible refine Below.setCell ?_ ?_ _)
          all_goals exact Nat.le_refl _
      · have HE := Lib.hid (place_step hkl (by rw [HX.out]; exact hid) HP.out)
        go_wp2
        go_roundw
        case rel => exact ⟨k + 1, by omega, by go_num, HE.out, k2⟩
        case measure => simp [intOf]; omega
    · have HE := Lib.hid (place_end (by have := HN.out; omega) HP.out)
      have g0 : wr.cell? ⟨w.heap.size, 0, none⟩ = some (.int .i64 0) := (hbr.cell (p := ⟨w.heap.size, 0, none⟩) (by show w.heap.size < w.heap.size + 1; omega)).trans (by simp)
      have h0 : wr.frozen? ⟨w.heap.size, 0, none⟩ = false := (hbr.frozen (p := ⟨w.heap.size, 0, none⟩) (by show w.heap.size < w.heap.size + 1; omega)).trans (by simp)
      have g1 : wr.cell? ⟨w.heap.size, 1, none⟩ = some (.int .i64 0) := (hbr.cell (p := ⟨w.heap.size, 1, none⟩) (by show w.heap.size < w.heap.size + 1; omega)).trans (by simp)
      have h1 : wr.frozen? ⟨w.heap.size, 1, none⟩ = false := (hbr.frozen (p := ⟨w.heap.size, 1, none⟩) (by show w.heap.size < w.heap.size + 1; omega)).trans (by simp)
      have g2 : wr.cell? ⟨w.heap.size, 2, none⟩ = some (.int .u64 0) := (hbr.cell (p := ⟨w.heap.size, 2, none⟩) (by show w.heap.size < w.heap.size + 1; omega)).trans (by simp)
      have h2 : wr.frozen? ⟨w.heap.size, 2, none⟩ = false := (hbr.frozen (p := ⟨w.heap.size, 2, none⟩) (by show w.heap.size < w.heap.size + 1; omega)).trans (by simp)
      have g3 : wr.cell? ⟨w.heap.size, 3, none⟩ = some (.int .u64 0) := (hbr.cell (p := ⟨w.heap.size, 3, none⟩) (by show w.heap.size < w.heap.size + 1; omega)).trans (by simp)
      have h3 : wr.frozen? ⟨w.heap.size, 3, none⟩ = false := (hbr.frozen (p := ⟨w.heap.size, 3, none⟩) (by show w.heap.size < w.heap.size + 1; omega)).trans (by simp)
      have g4 : wr.cell? ⟨w.heap.size, 4, none⟩ = some (.int .u64 0) := (hbr.cell (p := ⟨w.heap.size, 4, none⟩) (by show w.heap.size < w.heap.size + 1; omega)).trans (by simp)
      have h4 : wr.frozen? ⟨w.heap.size, 4, none⟩ = false := (hbr.frozen (p := ⟨w.heap.size, 4, none⟩) (by show w.heap.size < w.heap.size + 1; omega)).trans (by simp)
      have g5 : wr.cell? ⟨w.heap.size, 5, none⟩ = some (.int .u64 0) := (hbr.cell (p := ⟨w.heap.size, 5, none⟩) (by show w.heap.size < w.heap.size + 1; omega)).trans (by simp)
      have h5 : wr.frozen? ⟨w.heap.size, 5, none⟩ = false := (hbr.frozen (p := ⟨w.heap.size, 5, none⟩) (by show w.heap.size < w.heap.size + 1; omega)).trans (by simp)
      have g6 : wr.cell? ⟨w.heap.size, 6, none⟩ = some (.int .u64 0) := (hbr.cell (p := ⟨w.heap.size, 6, none⟩) (by show w.heap.size < w.heap.size + 1; omega)).trans (by simp)
      have h6 : wr.frozen? ⟨w.heap.size, 6, none⟩ = false := (hbr.frozen (p := ⟨w.heap.size, 6, none⟩) (by show w.heap.size < w.heap.size + 1; omega)).trans (by simp)
      have g7 : wr.cell? ⟨w.heap.size, 7, none⟩ = some (.int .u64 0) := (hbr.cell (p := ⟨w.heap.size, 7, none⟩) (by show w.heap.size < w.heap.size + 1; omega)).trans (by simp)
      have h7 : wr.frozen? ⟨w.heap.size, 7, none⟩ = false := (hbr.frozen (p := ⟨w.heap.size, 7, none⟩) (by show w.heap.size < w.heap.size + 1; omega)).trans (by simp)
      have g8 : wr.cell? ⟨w.heap.size, 8, none⟩ = some (.int .u64 0) := (hbr.cell (p := ⟨w.heap.size, 8, none⟩) (by show w.heap.size < w.heap.size + 1; omega)).trans (by simp)
      have h8 : wr.frozen? ⟨w.heap.size, 8, none⟩ = false := (hbr.frozen (p := ⟨w.heap.size, 8, none⟩) (by show w.heap.size < w.heap.size + 1; omega)).trans (by simp)
      have g9 : wr.cell? ⟨w.heap.size, 9, none⟩ = some (.int .u64 0) := (hbr.cell (p := ⟨w.heap.size, 9, none⟩) (by show w.heap.size < w.heap.size + 1; omega)).trans (by simp)
      have h9 : wr.frozen? ⟨w.heap.size, 9, none⟩ = false := (hbr.frozen (p := ⟨w.heap.size, 9, none⟩) (by show w.heap.size < w.heap.size + 1; omega)).trans (by simp)
      have hwl : w.heap.size < wr.heap.size := by omega
      have hne : w.heap.size ≠ wr.heap.size := by omega
      go_wp2
      refine bodyPost_ret (v := .tuple #[zeroN, .bool false]) ?_ rfl ?_
      · simp [results, Tryz.results121, go_sem, *]
      · refine ⟨.inl ⟨by rw [HE.out]; decide, rfl⟩, ?_⟩
        have kwa : Below w.heap.size w (wr.alloc (.cells #[.int .i64 0, .int .i64 0, .int .u64 0, .int .u64 0, .int .u64 0, .int .u64 0, .int .u64 0, .int .u64 0, .int .u64 0, .int .u64 0] 53)) := kwr.alloc (by omega) _
        clear kwa
        repeat (first | with_reducible exact kwr | with_reducible refine Below.setCell ?_ ?_ _ | with_reducible refine Below.alloc ?_ ?_ _)
        all_goals first | (simp; done) | (simp; omega)

end Go.Proofs.YtiinnoahopnkcaaGreatDoor
