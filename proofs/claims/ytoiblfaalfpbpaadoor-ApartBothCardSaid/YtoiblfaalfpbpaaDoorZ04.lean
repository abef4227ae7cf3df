/- Joined texts, part 4: WM VecA VecB VecC VecD VecL VecM WV UD M A L. -/
import Derived.Test.YtoiblfaalfpbpaaDoorZ01
import Derived.Test.YtoiblfaalfpbpaaDoorRows
import Derived.WalkKit
import Derived.WalkSpells
import Derived.WalkLawsBesides
import Derived.Laws.Externs
import Derived.Shelf.Spec.BitsCarry
import Derived.Lib.Hide
import Derived.Deep.QuietTactic
import Derived.BigQuiet
import Derived.Deep.Slices
import Derived.Deep.RegionWith
import Derived.Test.YtoiblfaalfpbpaaDoorZ03
import Derived.Test.YtoiblfaalfpbpaaDoorZ02
import Derived.KernelRfl
import Derived.OwnWalk
import Derived.Laws.AppendOwnNone
import Derived.Laws.BytesArg
import Derived.Laws.BitsAllLaws
import Derived.Laws.Bits128

/- Plain mathematics of nodes' room; no program stands in it. -/
namespace Go.Proofs.YtoiblfaalfpbpaaDoor
set_option linter.unusedSimpArgs false
open Go.RowKit
set_option linter.unusedVariables false

def V4.add (x y : V4) : V4 := ⟨x.a + y.a, x.b + y.b, x.c + y.c, x.d + y.d⟩
def V4.sub (x y : V4) : V4 := ⟨x.a - y.a, x.b - y.b, x.c - y.c, x.d - y.d⟩
def V4.zer : V4 := ⟨0, 0, 0, 0⟩
def V4.small (x : V4) : Bool := decide (x.a < 18446744073709551616 ∧ x.b < 18446744073709551616 ∧ x.c < 18446744073709551616 ∧ x.d < 18446744073709551616)
/-- The sum, or none: it goes over. -/
def addV (x y : V4) : Option V4 := if (x.add y).small then some (x.add y) else none
/-- The difference, or none: it goes below 0. -/
def subV (x y : V4) : Option V4 := if y.le x then some (x.sub y) else none
def totV : List V4 → V4
  | [] => .zer
  | x :: r => x.add (totV r)
def sumV (l : List V4) : Option V4 := if (totV l).small then some (totV l) else none
def reqsAt (node : Int) : List PodD → List V4
  | [] => []
  | p :: r => if p.node = node then p.req :: reqsAt node r else reqsAt node r
/-- A node's use, or none: it goes over. -/
def useD (l : List PodD) (node : Int) : Option V4 := sumV (reqsAt node l)
/-- What is left of a node beside a use, or none. -/
def leftD (n : NodeD) (u : V4) : Option V4 := match subV n.cap n.held with
  | none => none
  | some f => subV f u
def nodeAt (id : Int) : List NodeD → Option NodeD
  | [] => none
  | x :: r => if x.id = id then some x else nodeAt id r
/-- A node's rest, and an error's number. -/
def restD (ns : List NodeD) (l : List PodD) (id : Int) : V4 × Int :=
  match nodeAt id ns with
  | none => (.zer, 4)
  | some n => match useD l id with
    | none => (.zer, 8)
    | some u => match leftD n u with
      | none => (.zer, 9)
      | some r => (r, 0)
def roomD (ns : List NodeD) (l : List PodD) : List NodeD → Nat → Int × Int
  | [], _ => (0, -1)
  | n :: r, k => if (restD ns l n.id).2 ≠ 0 then ((restD ns l n.id).2, (k : Int)) else roomD ns l r (k + 1)
/-- The first node at fault: an error's number, and its place. -/
def roomOf (ns : List NodeD) (l : List PodD) : Int × Int := roomD ns l ns 0

theorem rest_none {ns : List NodeD} {l : List PodD} {id : Int} (h : nodeAt id ns = none) : restD ns l id = (.zer, 4) := by simp only [restD, h]
theorem rest_over {ns : List NodeD} {l : List PodD} {id : Int} {n : NodeD} (h : nodeAt id ns = some n) (h2 : useD l id = none) : restD ns l id = (.zer, 8) := by simp only [restD, h, h2]
theorem rest_room {ns : List NodeD} {l : List PodD} {id : Int} {n : NodeD} {u : V4} (h : nodeAt id ns = some n) (h2 : useD l id = some u) (h3 : leftD n u = none) : restD ns l id = (.zer, 9) := by simp only [restD, h, h2, h3]
theorem rest_some {ns : List NodeD} {l : List PodD} {id : Int} {n : NodeD} {u r : V4} (h : nodeAt id ns = some n) (h2 : useD l id = some u) (h3 : leftD n u = some r) : restD ns l id = (r, 0) := by simp only [restD, h, h2, h3]
theorem left_none {n : NodeD} {u : V4} (h : subV n.cap n.held = none) : leftD n u = none := by simp only [leftD, h]
theorem left_some {n : NodeD} {u f : V4} (h : subV n.cap n.held = some f) : leftD n u = subV f u := by simp only [leftD, h]
theorem rest_vals (ns : List NodeD) (l : List PodD) (id : Int) : ((restD ns l id).2 = 0) ∨ ((restD ns l id).1 = .zer ∧ ((restD ns l id).2 = 4 ∨ (restD ns l id).2 = 8 ∨ (restD ns l id).2 = 9)) := by
  rcases h1 : nodeAt id ns with _ | n
  · rw [rest_none h1]; simp
  · rcases h2 : useD l id with _ | u
    · rw [rest_over h1 h2]; simp
    · rcases h3 : leftD n u with _ | r
      · rw [rest_room h1 h2 h3]; simp
      · rw [rest_some h1 h2 h3]; simp
theorem rest_zero {ns : List NodeD} {l : List PodD} {id : Int} : (restD ns l id).2 = 0 ↔ ∃ n u r, nodeAt id ns = some n ∧ useD l id = some u ∧ leftD n u = some r ∧ restD ns l id = (r, 0) := by
  constructor
  · intro h
    rcases h1 : nodeAt id ns with _ | n
    · rw [rest_none h1] at h; cases h
    · rcases h2 : useD l id with _ | u
      · rw [rest_over h1 h2] at h; cases h
      · rcases h3 : leftD n u with _ | r
        · rw [rest_room h1 h2 h3] at h; cases h
        · exact ⟨n, u, r, rfl, rfl, h3, rest_some h1 h2 h3⟩
  · rintro ⟨n, u, r, _, _, _, h⟩; rw [h]

theorem nodeAt_no {id : Int} : ∀ {l : List NodeD} {k : Int}, 0 ≤ k → place NodeD.id id l k < 0 → nodeAt id l = none
  | [], _, _, _ => rfl
  | x :: r, k, hk, h => by
    by_cases e : x.id = id
    · simp [place, e] at h; omega
    · simp only [place, if_neg e] at h
      simp only [nodeAt, if_neg e]
      exact nodeAt_no (k := k + 1) (by omega) h
theorem nodeAt_yes {id : Int} : ∀ {l : List NodeD} {k : Int} {i : Nat} (h : i < l.length), 0 ≤ k → place NodeD.id id l k = k + i → nodeAt id l = some l[i]
  | [], _, _, h, _, _ => by simp at h
  | x :: r, k, i, h, hk, hp => by
    by_cases e : x.id = id
    · simp only [place, if_pos e] at hp
      obtain rfl : i = 0 := by omega
      simp [nodeAt, e]
    · simp only [place, if_neg e] at hp
      cases i with
      | zero => have := place_ge (f := NodeD.id) (id := id) (l := r) (k := k + 1) (by omega); rw [hp] at this; exfalso
                have h2 : k + 1 ≤ place NodeD.id id r (k + 1) ∨ place NodeD.id id r (k + 1) < 0 := by
                  by_cases hn : place NodeD.id id r (k + 1) < 0
                  · exact .inr hn
                  · left
                    have : ∀ (r : List NodeD) (k : Int), 0 ≤ k → place NodeD.id id r k < 0 ∨ k ≤ place NodeD.id id r k := by
                      intro r
                      induction r with
                      | nil => intro k _; left; simp [place]
                      | cons y r ih => intro k hk; by_cases e : y.id = id <;> simp only [place, e, if_true, if_false]; exact .inr (Int.le_refl _); rcases ih (k + 1) (by omega) with h | h; exact .inl h; exact .inr (by omega)
                    rcases this r (k + 1) (by omega) with h | h
                    · exact absurd h hn
                    · exact h
                omega
      | succ i =>
        simp only [nodeAt, if_neg e]
        rw [nodeAt_yes (l := r) (k := k + 1) (i := i) (by simpa using h) (by omega) (by omega)]
        simp
/-- A node ahead of which none has its Id is the one of its Id. -/
theorem nodeAt_first {l : List NodeD} {i : Nat} (h : i < l.length) (hf : ∀ j (hj : j < i), (l[j]'(by omega)).id ≠ l[i].id) : nodeAt l[i].id l = some l[i] :=
  nodeAt_yes (k := 0) h (Int.le_refl _) (by have := place_at (f := NodeD.id) (id := l[i].id) (l := l) (k := 0) h rfl hf; omega)

theorem roomD_at {ns : List NodeD} {l : List PodD} {m : List NodeD} {k : Nat} {p : Int × Int} (h : k < m.length) {n : NodeD} (hn : m[k] = n) (hp : roomD ns l (m.drop k) k = p) :
    ((restD ns l n.id).2 ≠ 0 → p = ((restD ns l n.id).2, (k : Int))) ∧ ((restD ns l n.id).2 = 0 → roomD ns l (m.drop (k + 1)) (k + 1) = p) := by
  rw [List.drop_eq_getElem_cons h, hn, roomD] at hp
  constructor
  · intro e; rw [if_pos e] at hp; exact hp.symm
  · intro e; rw [if_neg (by simpa using e)] at hp; exact hp
theorem roomD_end {ns : List NodeD} {l : List PodD} {m : List NodeD} {k : Nat} {p : Int × Int} (h : m.length ≤ k) (hp : roomD ns l (m.drop k) k = p) : p = (0, -1) := by
  rw [List.drop_of_length_le h, roomD] at hp; exact hp.symm
theorem roomD_all {ns : List NodeD} {l : List PodD} : ∀ {m : List NodeD} {k : Nat}, (roomD ns l m k).1 = 0 ↔ ∀ n ∈ m, (restD ns l n.id).2 = 0
  | [], _ => by simp [roomD]
  | n :: r, k => by
    by_cases e : (restD ns l n.id).2 = 0
    · simp [roomD, e, roomD_all (m := r) (k := k + 1)]
    · simp [roomD, e]
theorem roomD_pair {ns : List NodeD} {l : List PodD} : ∀ {m : List NodeD} {k : Nat}, (roomD ns l m k).1 = 0 → roomD ns l m k = (0, -1)
  | [], _, _ => by simp [roomD]
  | n :: r, k, h => by
    by_cases e : (restD ns l n.id).2 = 0
    · simp only [roomD, e, ne_eq, not_true_eq_false, if_false] at h ⊢
      exact roomD_pair h
    · simp [roomD, e] at h

theorem V4.eta (x : V4) : x = ⟨x.a, x.b, x.c, x.d⟩ := by cases x; rfl
theorem add_small {x y z : V4} (h : addV x y = some z) : z = x.add y ∧ (x.add y).small = true := by
  unfold addV at h
  split at h
  · rename_i hs; exact ⟨(Option.some.inj h).symm, hs⟩
  · cases h
theorem sub_le {x y z : V4} (h : subV x y = some z) : z = x.sub y ∧ y.le x = true := by
  unfold subV at h
  split at h
  · rename_i hs; exact ⟨(Option.some.inj h).symm, hs⟩
  · cases h
theorem sub_ok4 {x y z : V4} (hx : x.Ok) (hy : y.Ok) (h : subV x y = some z) : z.Ok := by
  obtain ⟨rfl, hl⟩ := sub_le h
  simp only [V4.le, decide_eq_true_eq] at hl
  simp only [V4.Ok, U64, V4.sub] at *
  omega
theorem add_ok4 {x y z : V4} (hx : x.Ok) (hy : y.Ok) (h : addV x y = some z) : z.Ok := by
  obtain ⟨rfl, hl⟩ := add_small h
  simp only [V4.small, decide_eq_true_eq] at hl
  simp only [V4.Ok, U64, V4.add] at *
  omega
theorem tot_pos : ∀ {l : List V4}, (∀ x ∈ l, x.Ok) → 0 ≤ (totV l).a ∧ 0 ≤ (totV l).b ∧ 0 ≤ (totV l).c ∧ 0 ≤ (totV l).d
  | [], _ => by simp [totV, V4.zer]
  | x :: r, h => by
    have h1 := tot_pos (l := r) (fun y hy => h y (List.mem_cons_of_mem _ hy))
    have h2 := h x (List.mem_cons_self ..)
    simp only [V4.Ok, U64] at h2
    simp only [totV, V4.add]
    omega
theorem sum_ok4 {l : List V4} {u : V4} (h : ∀ x ∈ l, x.Ok) (hu : sumV l = some u) : u.Ok := by
  have hp := tot_pos h
  unfold sumV at hu
  split at hu
  · rename_i hs
    have := Option.some.inj hu
    subst this
    simp only [V4.small, decide_eq_true_eq] at hs
    simp only [V4.Ok, U64]
    omega
  · cases hu
theorem reqs_ok {node : Int} : ∀ {l : List PodD}, (∀ p ∈ l, p.Ok) → ∀ x ∈ reqsAt node l, x.Ok
  | [], _, x, hx => by simp [reqsAt] at hx
  | p :: r, h, x, hx => by
    unfold reqsAt at hx
    split at hx
    · rcases List.mem_cons.1 hx with rfl | hx
      · exact (h p (List.mem_cons_self ..)).2.2.2.1
      · exact reqs_ok (fun q hq => h q (List.mem_cons_of_mem _ hq)) x hx
    · exact reqs_ok (fun q hq => h q (List.mem_cons_of_mem _ hq)) x hx
theorem use_ok {l : List PodD} {node : Int} {u : V4} (h : ∀ p ∈ l, p.Ok) (hu : useD l node = some u) : u.Ok := sum_ok4 (reqs_ok h) hu
theorem reqs_len (node : Int) : ∀ l : List PodD, (reqsAt node l).length ≤ l.length
  | [] => Nat.le_refl _
  | p :: r => by
    have := reqs_len node r
    unfold reqsAt
    split <;> simp <;> omega
theorem reqs_append (node : Int) : ∀ (l m : List PodD), reqsAt node (l ++ m) = reqsAt node l ++ reqsAt node m
  | [], m => rfl
  | p :: r, m => by
    rw [List.cons_append, reqsAt, reqsAt, reqs_append node r m]
    split <;> simp
theorem reqs_take {node : Int} {l : List PodD} {k : Nat} (h : k < l.length) {p : PodD} (hp : l[k] = p) :
    (p.node = node → reqsAt node (l.take (k + 1)) = reqsAt node (l.take k) ++ [p.req]) ∧ (p.node ≠ node → reqsAt node (l.take (k + 1)) = reqsAt node (l.take k)) := by
  rw [List.take_succ_eq_append_getElem h, reqs_append, hp]
  constructor
  · intro e; simp [reqsAt, e]
  · intro e; simp [reqsAt, e]
theorem nodeAt_ok {id : Int} {n : NodeD} : ∀ {l : List NodeD}, (∀ x ∈ l, x.Ok) → nodeAt id l = some n → n.Ok
  | [], _, h => by simp [nodeAt] at h
  | x :: r, ho, h => by
    unfold nodeAt at h
    split at h
    · obtain rfl := Option.some.inj h; exact ho _ (List.mem_cons_self ..)
    · exact nodeAt_ok (fun y hy => ho y (List.mem_cons_of_mem _ hy)) h
theorem left_ok {n : NodeD} {u r : V4} (hn : n.Ok) (hu : u.Ok) (h : leftD n u = some r) : r.Ok := by
  unfold leftD at h
  split at h
  · cases h
  · rename_i f hf
    exact sub_ok4 (sub_ok4 hn.2.2.1 hn.2.2.2 hf) hu h
/-- Use and rest together are what there is but for what is held. -/
theorem left_whole {n : NodeD} {u r : V4} (hn : n.Ok) (hu : u.Ok) (h : leftD n u = some r) : addV r u = some (n.cap.sub n.held) ∧ addV (n.cap.sub n.held) n.held = some n.cap := by
  unfold leftD at h
  split at h
  · cases h
  · rename_i f hf
    obtain ⟨rfl, hl⟩ := sub_le hf
    obtain ⟨rfl, hl2⟩ := sub_le h
    obtain ⟨_, _, hc, hh⟩ := hn
    simp only [V4.le, decide_eq_true_eq, V4.sub] at hl hl2
    simp only [V4.Ok, U64] at hc hh hu
    constructor
    · have e : ((n.cap.sub n.held).sub u).add u = n.cap.sub n.held := by simp [V4.add, V4.sub, Int.sub_add_cancel]
      unfold addV
      rw [e, if_pos]
      simp only [V4.small, V4.sub]
      exact decide_eq_true ⟨by omega, by omega, by omega, by omega⟩
    · have e : (n.cap.sub n.held).add n.held = n.cap := by
        show V4.mk _ _ _ _ = n.cap
        simp only [V4.sub, Int.sub_add_cancel]
      unfold addV
      rw [e, if_pos]
      simp only [V4.small, decide_eq_true_eq]
      omega

theorem le_trans4 {x y z : V4} (h : x.le y = true) (h2 : y.le z = true) : x.le z = true := by
  simp only [V4.le, decide_eq_true_eq] at *; omega
theorem tot_append : ∀ (l m : List V4), totV (l ++ m) = (totV l).add (totV m)
  | [], m => by simp [totV, V4.add, V4.zer]
  | x :: r, m => by rw [List.cons_append, totV, tot_append r m]; simp [totV, V4.add, Int.add_assoc]
theorem sum_less {l m k : List V4} {u : V4} (hk : ∀ x ∈ k, x.Ok) (h : sumV (l ++ (k ++ m)) = some u) : ∃ u', sumV (l ++ m) = some u' ∧ u'.le u = true := by
  have hp := tot_pos hk
  unfold sumV at h
  split at h
  · rename_i hs
    have hu := Option.some.inj h
    rw [tot_append, tot_append] at hs hu
    simp only [V4.small, V4.add] at hs
    have hs := of_decide_eq_true hs
    refine ⟨totV (l ++ m), ?_, ?_⟩
    · unfold sumV
      rw [tot_append, if_pos]
      simp only [V4.small, V4.add]
      exact decide_eq_true ⟨by omega, by omega, by omega, by omega⟩
    · rw [← hu, tot_append]
      simp only [V4.le, V4.add]
      exact decide_eq_true ⟨by omega, by omega, by omega, by omega⟩
  · cases h
/-- With a pod less a use that didn't go over doesn't, and is no greater. -/
theorem use_less {l : List PodD} {node : Int} {u : V4} {i : Nat} (hi : i < l.length) (ho : ∀ p ∈ l, p.Ok) (h : useD l node = some u) : ∃ u', useD (l.take i ++ l.drop (i + 1)) node = some u' ∧ u'.le u = true := by
  have e : l = l.take i ++ ([l[i]] ++ l.drop (i + 1)) := by
    have := List.drop_eq_getElem_cons hi
    rw [List.singleton_append, ← this, List.take_append_drop]
  unfold useD at h ⊢
  rw [e, reqs_append, reqs_append] at h
  rw [reqs_append]
  exact sum_less (reqs_ok (fun p hp => by obtain rfl := List.mem_singleton.1 hp; exact ho _ (List.getElem_mem hi))) h
theorem left_less {n : NodeD} {u u' r : V4} (hu : u'.le u = true) (h : leftD n u = some r) : ∃ r', leftD n u' = some r' := by
  unfold leftD at h ⊢
  split at h
  · cases h
  · rename_i f hf
    obtain ⟨_, hl⟩ := sub_le h
    exact ⟨f.sub u', by unfold subV; rw [if_pos (le_trans4 hu hl)]⟩
theorem room_less {ns : List NodeD} {l : List PodD} {i : Nat} (hi : i < l.length) (ho : ∀ p ∈ l, p.Ok) (h : (roomOf ns l).1 = 0) : roomOf ns (l.take i ++ l.drop (i + 1)) = (0, -1) := by
  refine roomD_pair (roomD_all.2 fun n hn => ?_)
  obtain ⟨m, u, r, h1, h2, h3, _⟩ := rest_zero.1 (roomD_all.1 h n hn)
  obtain ⟨u', h4, h5⟩ := use_less hi ho h2
  obtain ⟨r', h6⟩ := left_less h5 h3
  rw [rest_some h1 h4 h6]
end Go.Proofs.YtoiblfaalfpbpaaDoor

/- Contracts of the small functions: sums and differences of 64 bits, halves, one sum of the reference. -/
namespace Go.Proofs.YtoiblfaalfpbpaaDoor
set_option linter.unusedSimpArgs false
open Go.RowKit
set_option linter.unusedVariables false

theorem below_drewN {B : Nat} {a w : World} (h : Below B a w) (n : Nat) : Below B a (w.drewN n) := ⟨h.os, h.tape, h.output, h.size, h.block⟩
theorem bcell {W w1 : World} (hb : Below W.heap.size W w1) : (∀ b o, b < W.heap.size → w1.cell? ⟨b, o, none⟩ = W.cell? ⟨b, o, none⟩) ∧ (∀ b o, b < W.heap.size → w1.frozen? ⟨b, o, none⟩ = W.frozen? ⟨b, o, none⟩) :=
  ⟨fun b o h => hb.cell (p := ⟨b, o, none⟩) h, fun b o h => hb.frozen (p := ⟨b, o, none⟩) h⟩
theorem quiet_left0 {P : Program} {f : FuncId} {args : Array Value} {w : World} {n : Nat} {v : Value}
    (h : Calls P f args (w.drewN n) fun e w' => e = .returned v ∧ w.drewN n = w') : Calls P f args (w.drewN n) fun e w'' => e = .returned v ∧ ∃ m, w'' = w.drewN m :=
  h.mono fun _ _ ⟨he, hm⟩ => ⟨he, n, hm.symm⟩
theorem quiet_left1 {P : Program} {f : FuncId} {args : Array Value} {w : World} {a n : Nat} {v : Value}
    (h : Calls P f args (w.drewN (a + n)) fun e w' => e = .returned v ∧ w.drewN (a + n) = w') :
    Calls P f args (w.drewN (a + n)) fun e w'' => e = .returned v ∧ ∃ m, w'' = w.drewN (a + m) :=
  h.mono fun _ _ ⟨he, hm⟩ => ⟨he, n, hm.symm⟩

theorem one_num (x y : Int) : (x / 4294967296 + y / 4294967296 + (x % 4294967296 + y % 4294967296) / 4294967296) * 4294967296 + (x + y) % 4294967296 = x + y := by omega
theorem ret_ib {a b : Int} {t : Bool} (h : a = b) : Ending.returned (.tuple #[.int .u64 a, .bool t]) = .returned (.tuple #[.int .u64 b, .bool t]) := by rw [h]
end Go.Proofs.YtoiblfaalfpbpaaDoor

/- vec.Add: the four sums, or ErrOver. -/
namespace Go.Proofs.YtoiblfaalfpbpaaDoor
set_option linter.unusedSimpArgs false
open Go.RowKit
set_option linter.unusedVariables false

end Go.Proofs.YtoiblfaalfpbpaaDoor

/- vec.Sub: the four differences, or ErrOver. -/
namespace Go.Proofs.YtoiblfaalfpbpaaDoor
set_option linter.unusedSimpArgs false
open Go.RowKit
set_option linter.unusedVariables false

end Go.Proofs.YtoiblfaalfpbpaaDoor

/- The reference's Add. -/
namespace Go.Proofs.YtoiblfaalfpbpaaDoor
set_option linter.unusedSimpArgs false
open Go.RowKit
set_option linter.unusedVariables false

end Go.Proofs.YtoiblfaalfpbpaaDoor

/- Rows of four cells; how amounts lie in a slice; vec.Sum. -/
namespace Go.Proofs.YtoiblfaalfpbpaaDoor
set_option linter.unusedSimpArgs false
open Go.RowKit
set_option linter.unusedVariables false

/-- A block whose four cells are known and may be written. -/
structure Row4 (w : World) (b : Nat) (u0 u1 u2 u3 : Value) : Prop where
  c0 : w.cell? ⟨b, 0, none⟩ = some u0
  c1 : w.cell? ⟨b, 1, none⟩ = some u1
  c2 : w.cell? ⟨b, 2, none⟩ = some u2
  c3 : w.cell? ⟨b, 3, none⟩ = some u3
  f0 : w.frozen? ⟨b, 0, none⟩ = false
  f1 : w.frozen? ⟨b, 1, none⟩ = false
  f2 : w.frozen? ⟨b, 2, none⟩ = false
  f3 : w.frozen? ⟨b, 3, none⟩ = false
theorem Row4.below {w w' : World} {b B : Nat} {u0 u1 u2 u3 : Value} (h : Row4 w b u0 u1 u2 u3) (hb : Below B w w') (hB : b < B) : Row4 w' b u0 u1 u2 u3 :=
  ⟨(hb.cell hB).trans h.c0, (hb.cell hB).trans h.c1, (hb.cell hB).trans h.c2, (hb.cell hB).trans h.c3, (hb.frozen hB).trans h.f0, (hb.frozen hB).trans h.f1, (hb.frozen hB).trans h.f2, (hb.frozen hB).trans h.f3⟩
theorem Row4.alloc {w : World} {b : Nat} {u0 u1 u2 u3 : Value} (h : Row4 w b u0 u1 u2 u3) (hB : b < w.heap.size) (o : Obj) : Row4 (w.alloc o) b u0 u1 u2 u3 :=
  h.below (B := w.heap.size) ((Below.refl _ w).alloc (Nat.le_refl _) o) hB
theorem Row4.drewN {w : World} {b : Nat} {u0 u1 u2 u3 : Value} (h : Row4 w b u0 u1 u2 u3) (n : Nat) : Row4 (w.drewN n) b u0 u1 u2 u3 := ⟨h.c0, h.c1, h.c2, h.c3, h.f0, h.f1, h.f2, h.f3⟩
theorem Row4.drew {w : World} {b : Nat} {u0 u1 u2 u3 : Value} (h : Row4 w b u0 u1 u2 u3) : Row4 w.drew b u0 u1 u2 u3 := ⟨h.c0, h.c1, h.c2, h.c3, h.f0, h.f1, h.f2, h.f3⟩
theorem Row4.far {w : World} {b : Nat} {u0 u1 u2 u3 : Value} (h : Row4 w b u0 u1 u2 u3) {p : Addr} (hp : p.block ≠ b) (v : Value) : Row4 (w.setCell p v) b u0 u1 u2 u3 := by
  have hc : ∀ o, (w.setCell p v).cell? ⟨b, o, none⟩ = w.cell? ⟨b, o, none⟩ := fun o => World.cell?_of_block (Below.heap_setCell w p v b (Ne.symm hp))
  have hf : ∀ o, (w.setCell p v).frozen? ⟨b, o, none⟩ = w.frozen? ⟨b, o, none⟩ := fun o => World.frozen?_of_block (Below.heap_setCell w p v b (Ne.symm hp))
  exact ⟨(hc _).trans h.c0, (hc _).trans h.c1, (hc _).trans h.c2, (hc _).trans h.c3, (hf _).trans h.f0, (hf _).trans h.f1, (hf _).trans h.f2, (hf _).trans h.f3⟩
theorem Row4.store {w : World} {b : Nat} {u0 u1 u2 u3 : Value} (h : Row4 w b u0 u1 u2 u3) (v0 v1 v2 v3 : Value) :
    Row4 ((((w.setCell ⟨b, 0, none⟩ v0).setCell ⟨b, 1, none⟩ v1).setCell ⟨b, 2, none⟩ v2).setCell ⟨b, 3, none⟩ v3) b v0 v1 v2 v3 := by
  have n01 : (⟨b, 0, none⟩ : Addr) ≠ ⟨b, 1, none⟩ := by simp
  have n02 : (⟨b, 0, none⟩ : Addr) ≠ ⟨b, 2, none⟩ := by simp
  have n03 : (⟨b, 0, none⟩ : Addr) ≠ ⟨b, 3, none⟩ := by simp
  have n12 : (⟨b, 1, none⟩ : Addr) ≠ ⟨b, 2, none⟩ := by simp
  have n13 : (⟨b, 1, none⟩ : Addr) ≠ ⟨b, 3, none⟩ := by simp
  have n23 : (⟨b, 2, none⟩ : Addr) ≠ ⟨b, 3, none⟩ := by simp
  have hf : ∀ (w : World) (p a : Addr) (v : Value), (w.setCell p v).frozen? a = w.frozen? a := fun w p a v => by simp
  refine ⟨?_, ?_, ?_, ?_, by rw [hf, hf, hf, hf]; exact h.f0, by rw [hf, hf, hf, hf]; exact h.f1, by rw [hf, hf, hf, hf]; exact h.f2, by rw [hf, hf, hf, hf]; exact h.f3⟩
  · rw [World.cell?_setCell_other _ _ _ _ n03.symm, World.cell?_setCell_other _ _ _ _ n02.symm, World.cell?_setCell_other _ _ _ _ n01.symm]
    exact World.cell?_setCell_same _ _ _ h.c0
  · rw [World.cell?_setCell_other _ _ _ _ n13.symm, World.cell?_setCell_other _ _ _ _ n12.symm]
    exact World.cell?_setCell_same _ _ _ ((World.cell?_setCell_other _ _ _ _ n01).trans h.c1)
  · rw [World.cell?_setCell_other _ _ _ _ n23.symm]
    exact World.cell?_setCell_same _ _ _ ((World.cell?_setCell_other _ _ _ _ n12).trans ((World.cell?_setCell_other _ _ _ _ n02).trans h.c2))
  · exact World.cell?_setCell_same _ _ _ ((World.cell?_setCell_other _ _ _ _ n23).trans ((World.cell?_setCell_other _ _ _ _ n13).trans ((World.cell?_setCell_other _ _ _ _ n03).trans h.c3)))

def psum (x : Nat → Int) : Nat → Int
  | 0 => 0
  | k + 1 => psum x k + x k
theorem psum_nonneg {x : Nat → Int} {n : Nat} (h : ∀ i, i < n → 0 ≤ x i) : ∀ k, k ≤ n → 0 ≤ psum x k
  | 0, _ => Int.le_refl _
  | k + 1, hk => by have := psum_nonneg h k (by omega); have := h k (by omega); simp only [psum]; omega
theorem psum_mono {x : Nat → Int} {n : Nat} (h : ∀ i, i < n → 0 ≤ x i) (k : Nat) : ∀ d, k + d ≤ n → psum x k ≤ psum x (k + d)
  | 0, _ => Int.le_refl _
  | d + 1, hk => by have := psum_mono h k d (by omega); have := h (k + d) (by omega); show psum x k ≤ psum x (k + d) + x (k + d); omega

/-- The amounts of a slice: n rows of four numbers from a on. -/
structure VecsAt (w : World) (a : Addr) (n : Nat) (x0 x1 x2 x3 : Nat → Int) : Prop where
  lt : 0 < n → a.block < w.heap.size
  c0 : ∀ i, i < n → w.cell? (a.add (i * 4)) = some (.int .u64 (x0 i))
  c1 : ∀ i, i < n → w.cell? ⟨(a.add (i * 4)).block, (a.add (i * 4)).off + 1, none⟩ = some (.int .u64 (x1 i))
  c2 : ∀ i, i < n → w.cell? ⟨(a.add (i * 4)).block, (a.add (i * 4)).off + 2, none⟩ = some (.int .u64 (x2 i))
  c3 : ∀ i, i < n → w.cell? ⟨(a.add (i * 4)).block, (a.add (i * 4)).off + 3, none⟩ = some (.int .u64 (x3 i))
theorem add_block (a : Addr) (n : Nat) : (a.add n).block = a.block := by unfold Addr.add; split <;> rfl
theorem VecsAt.below {w w' : World} {a : Addr} {n B : Nat} {x0 x1 x2 x3 : Nat → Int} (h : VecsAt w a n x0 x1 x2 x3) (hb : Below B w w') (hB : w.heap.size ≤ B) : VecsAt w' a n x0 x1 x2 x3 :=
  ⟨fun h0 => Nat.lt_of_lt_of_le (h.lt h0) hb.size, fun i hi => (hb.cell (by rw [add_block]; exact Nat.lt_of_lt_of_le (h.lt (by omega)) hB)).trans (h.c0 i hi), fun i hi => (hb.cell (by show (a.add (i * 4)).block < B; rw [add_block]; exact Nat.lt_of_lt_of_le (h.lt (by omega)) hB)).trans (h.c1 i hi), fun i hi => (hb.cell (by show (a.add (i * 4)).block < B; rw [add_block]; exact Nat.lt_of_lt_of_le (h.lt (by omega)) hB)).trans (h.c2 i hi), fun i hi => (hb.cell (by show (a.add (i * 4)).block < B; rw [add_block]; exact Nat.lt_of_lt_of_le (h.lt (by omega)) hB)).trans (h.c3 i hi)⟩

/-- All four sums fit. -/
def Fine (x0 x1 x2 x3 : Nat → Int) (n : Nat) : Prop := psum x0 n < 18446744073709551616 ∧ psum x1 n < 18446744073709551616 ∧ psum x2 n < 18446744073709551616 ∧ psum x3 n < 18446744073709551616
/-- Each number of the n amounts is one of 64 bits. -/
def Nums4 (x0 x1 x2 x3 : Nat → Int) (n : Nat) : Prop := ∀ i, i < n → (0 ≤ x0 i ∧ x0 i < 18446744073709551616) ∧ (0 ≤ x1 i ∧ x1 i < 18446744073709551616) ∧ (0 ≤ x2 i ∧ x2 i < 18446744073709551616) ∧ (0 ≤ x3 i ∧ x3 i < 18446744073709551616)
theorem Fine.le {x0 x1 x2 x3 : Nat → Int} {n k : Nat} (hx : Nums4 x0 x1 x2 x3 n) (h : Fine x0 x1 x2 x3 n) (hk : k ≤ n) : Fine x0 x1 x2 x3 k := by
  have m0 := psum_mono (x := x0) (n := n) (fun i hi => (hx i hi).1.1) k (n - k) (by omega)
  have m1 := psum_mono (x := x1) (n := n) (fun i hi => (hx i hi).2.1.1) k (n - k) (by omega)
  have m2 := psum_mono (x := x2) (n := n) (fun i hi => (hx i hi).2.2.1.1) k (n - k) (by omega)
  have m3 := psum_mono (x := x3) (n := n) (fun i hi => (hx i hi).2.2.2.1) k (n - k) (by omega)
  rw [show k + (n - k) = n by omega] at m0 m1 m2 m3
  unfold Fine at *
  omega
/-- What a sum of all comes to: 'good' with the sums, or 'bad' with zeroes. -/
def SumEnds (x0 x1 x2 x3 : Nat → Int) (n : Nat) (good bad : Value) (e : Ending) : Prop :=
  (Fine x0 x1 x2 x3 n ∧ e = .returned (.tuple #[.agg #[.int .u64 (psum x0 n), .int .u64 (psum x1 n), .int .u64 (psum x2 n), .int .u64 (psum x3 n)], good])) ∨
  (¬ Fine x0 x1 x2 x3 n ∧ e = .returned (.tuple #[.agg #[.int .u64 0, .int .u64 0, .int .u64 0, .int .u64 0], bad]))

end Go.Proofs.YtoiblfaalfpbpaaDoor

/- The reference's Sum. -/
namespace Go.Proofs.YtoiblfaalfpbpaaDoor
set_option linter.unusedSimpArgs false
open Go.RowKit
set_option linter.unusedVariables false

def RSumRel (w : World) (n : Nat) (x0 x1 x2 x3 : Nat → Int) (ok i : Value) (wr : World) : Prop :=
  ∃ k : Nat, k ≤ n ∧ i = .int .i64 k ∧ Below w.heap.size w wr ∧ w.heap.size + 1 < wr.heap.size ∧ Row4 wr w.heap.size (.int .u64 0) (.int .u64 0) (.int .u64 0) (.int .u64 0) ∧
    ((ok = .bool true ∧ Fine x0 x1 x2 x3 k ∧ Row4 wr (w.heap.size + 1) (.int .u64 (psum x0 k)) (.int .u64 (psum x1 k)) (.int .u64 (psum x2 k)) (.int .u64 (psum x3 k))) ∨
     (ok = .bool false ∧ ¬ Fine x0 x1 x2 x3 n ∧ Row4 wr (w.heap.size + 1) (.int .u64 0) (.int .u64 0) (.int .u64 0) (.int .u64 0)))

end Go.Proofs.YtoiblfaalfpbpaaDoor

/- Sums and differences of amounts, the program's and the reference's, as contracts over amounts. -/
namespace Go.Proofs.YtoiblfaalfpbpaaDoor
set_option linter.unusedSimpArgs false
open Go.RowKit
set_option linter.unusedVariables false

abbrev zeroV : Value := .agg #[.int .u64 0, .int .u64 0, .int .u64 0, .int .u64 0]
theorem add_none4 {x y : V4} (h : addV x y = none) : ¬ (x.a + y.a < 18446744073709551616 ∧ x.b + y.b < 18446744073709551616 ∧ x.c + y.c < 18446744073709551616 ∧ x.d + y.d < 18446744073709551616) := by
  unfold addV at h
  split at h
  · cases h
  · rename_i hs
    simp only [V4.small, V4.add] at hs
    exact fun h => hs (decide_eq_true h)
theorem sub_none4 {x y : V4} (h : subV x y = none) : ¬ (y.a ≤ x.a ∧ y.b ≤ x.b ∧ y.c ≤ x.c ∧ y.d ≤ x.d) := by
  unfold subV at h
  split at h
  · cases h
  · rename_i hs
    simp only [V4.le] at hs
    exact fun h => hs (decide_eq_true h)
/-! Sums of a list of amounts. -/
def atV (l : List V4) (i : Nat) : V4 := (l[i]?).getD .zer
theorem atV_of {l : List V4} {i : Nat} (h : i < l.length) : atV l i = l[i] := by simp [atV, List.getElem?_eq_getElem h]
theorem psum_tot (l : List V4) : ∀ k, k ≤ l.length → psum (fun i => (atV l i).a) k = (totV (l.take k)).a ∧ psum (fun i => (atV l i).b) k = (totV (l.take k)).b ∧ psum (fun i => (atV l i).c) k = (totV (l.take k)).c ∧ psum (fun i => (atV l i).d) k = (totV (l.take k)).d
  | 0, _ => by simp [psum, totV, V4.zer]
  | k + 1, h => by
    obtain ⟨h0, h1, h2, h3⟩ := psum_tot l k (by omega)
    rw [List.take_succ_eq_append_getElem (by omega), tot_append]
    simp only [psum, h0, h1, h2, h3, atV_of (show k < l.length by omega)]
    simp [V4.add, totV, V4.zer]
theorem vecs_at {l : List V4} {w : World} {b o : Nat} (hb : b < w.heap.size) (h : ∀ i (h : i < l.length) j u, (cellsV l[i])[j]? = some u → w.cell? ⟨b, o + i * 4 + j, none⟩ = some u) :
    VecsAt w ⟨b, o, none⟩ l.length (fun i => (atV l i).a) (fun i => (atV l i).b) (fun i => (atV l i).c) (fun i => (atV l i).d) := by
  refine ⟨fun _ => hb, fun i hi => ?_, fun i hi => ?_, fun i hi => ?_, fun i hi => ?_⟩
  all_goals
    rw [Addr.add_lit]
    simp only [atV_of hi]
  · exact h i hi 0 _ rfl
  · exact h i hi 1 _ rfl
  · exact h i hi 2 _ rfl
  · exact h i hi 3 _ rfl
theorem nums_at {l : List V4} (ho : ∀ x ∈ l, x.Ok) : Nums4 (fun i => (atV l i).a) (fun i => (atV l i).b) (fun i => (atV l i).c) (fun i => (atV l i).d) l.length := by
  intro i hi
  simp only [atV_of hi]
  exact ho _ (List.getElem_mem hi)
theorem recs_vecs {l : List V4} {A : Option Addr} {w : World} {B : Nat} (hB : B ≤ w.heap.size) (hr : Recs 4 cellsV w B A l) : ∃ a, (0 < l.length → A = some a) ∧ VecsAt w a l.length (fun i => (atV l i).a) (fun i => (atV l i).b) (fun i => (atV l i).c) (fun i => (atV l i).d) := by
  rcases hr with rfl | ⟨b, o, rfl, hb, h⟩
  · exact ⟨⟨0, 0, none⟩, fun h => by simp at h, ⟨fun h => by simp at h, fun i hi => by simp at hi, fun i hi => by simp at hi, fun i hi => by simp at hi, fun i hi => by simp at hi⟩⟩
  · exact ⟨_, fun _ => rfl, vecs_at (by omega) h⟩
theorem sum_ends {l : List V4} {good bad : Value} {e : Ending} (h : SumEnds (fun i => (atV l i).a) (fun i => (atV l i).b) (fun i => (atV l i).c) (fun i => (atV l i).d) l.length good bad e) :
    (∃ u, sumV l = some u ∧ e = .returned (.tuple #[aggV u, good])) ∨ (sumV l = none ∧ e = .returned (.tuple #[zeroV, bad])) := by
  obtain ⟨h0, h1, h2, h3⟩ := psum_tot l l.length (Nat.le_refl _)
  rw [List.take_of_length_le (Nat.le_refl _)] at h0 h1 h2 h3
  unfold SumEnds Fine at h
  rw [h0, h1, h2, h3] at h
  rcases h with ⟨hf, rfl⟩ | ⟨hf, rfl⟩
  · refine .inl ⟨totV l, ?_, rfl⟩
    unfold sumV
    rw [if_pos (show (totV l).small = true from decide_eq_true hf)]
  · refine .inr ⟨?_, rfl⟩
    unfold sumV
    rw [if_neg]
    intro h
    exact hf (of_decide_eq_true h)
end Go.Proofs.YtoiblfaalfpbpaaDoor

/- Are two states alike? The program's and the reference's Same of layer 5. -/
namespace Go.Proofs.YtoiblfaalfpbpaaDoor
set_option linter.unusedSimpArgs false
open Go.RowKit
set_option linter.unusedVariables false

def PodsEqRel (l m : List PodD) (W : World) (B : Nat) (i : Value) (wr : World) : Prop := ∃ k : Nat, k ≤ l.length ∧ i = .int .i64 k ∧ podsEq (l.drop k) (m.drop k) = podsEq l m ∧ Below B W wr
abbrev stateV (A : Option Addr) (n c : Nat) (p s : Int) : Value := .agg #[.slice A n c, .int .i64 p, .int .i64 s]
end Go.Proofs.YtoiblfaalfpbpaaDoor

/- Plain mathematics of numbers as bytes; no program stands in it. -/
namespace Go.Proofs.YtoiblfaalfpbpaaDoor
set_option linter.unusedSimpArgs false

/-- A number's bytes: seven bits a byte, the lowest first. -/
def enc (n : Int) : List Int := if n < 128 then [n] else (n % 128 + 128) :: enc (n / 128)
  termination_by n.toNat
  decreasing_by omega

theorem enc_lt {n : Int} (h : n < 128) : enc n = [n] := by rw [enc, if_pos h]
theorem enc_ge {n : Int} (h : ¬ n < 128) : enc n = (n % 128 + 128) :: enc (n / 128) := by rw [enc, if_neg h]

def encs : List Int → List Int
  | [] => []
  | n :: l => enc n ++ encs l
theorem encs_append (a b : List Int) : encs (a ++ b) = encs a ++ encs b := by
  induction a with
  | nil => rfl
  | cons n l ih => simp [encs, ih]
theorem encs_one (n : Int) : encs [n] = enc n := by simp [encs]

def pw (i : Nat) : Int := 128 ^ i
theorem pw_zero : pw 0 = 1 := rfl
theorem pw_succ (i : Nat) : pw (i + 1) = 128 * pw i := by unfold pw; rw [Int.pow_succ, Int.mul_comm]
theorem pw_pos (i : Nat) : 0 < pw i := Int.pow_pos (by decide)
theorem pw_le {i j : Nat} (h : i ≤ j) : pw i ≤ pw j := by
  induction h with
  | refl => exact Int.le_refl _
  | step _ ih => rw [pw_succ]; have := pw_pos i; omega
theorem pw_9 : pw 9 = 9223372036854775808 := by decide
theorem pw_8 : pw 8 = 72057594037927936 := by decide

theorem enc_len_pos (n : Int) : 1 ≤ (enc n).length := by
  by_cases h : n < 128
  · rw [enc_lt h]; simp
  · rw [enc_ge h]; simp
theorem enc_ne (n : Int) : enc n ≠ [] := by
  have := enc_len_pos n
  intro h
  rw [h] at this
  simp at this
theorem enc_len_le (k : Nat) : ∀ n : Int, n < pw (k + 1) → (enc n).length ≤ k + 1 := by
  induction k with
  | zero => intro n h; rw [pw_succ, pw_zero] at h; rw [enc_lt (by omega)]; simp
  | succ k ih =>
    intro n h
    by_cases h1 : n < 128
    · rw [enc_lt h1]; simp
    · rw [enc_ge h1]
      have := ih (n / 128) (by rw [pw_succ] at h; omega)
      simp
      omega
theorem enc_len_ge (k : Nat) : ∀ n : Int, pw k ≤ n → k + 1 ≤ (enc n).length := by
  induction k with
  | zero => intro n _; exact enc_len_pos n
  | succ k ih =>
    intro n h
    have hp := pw_pos k
    rw [pw_succ] at h
    rw [enc_ge (by omega)]
    have := ih (n / 128) (by omega)
    simp
    omega
theorem enc_len_ten (n : Int) (h : n < 18446744073709551616) : (enc n).length ≤ 10 := by
  have e : pw 10 = 1180591620717411303424 := by decide
  exact enc_len_le 9 n (by rw [e]; omega)
theorem enc_bytes (n : Int) (h : 0 ≤ n) : ∀ c ∈ enc n, 0 ≤ c ∧ c < 256 := by
  induction n using enc.induct with
  | case1 n h1 => rw [enc_lt h1]; intro c hc; simp at hc; omega
  | case2 n h1 ih =>
    rw [enc_ge h1]
    intro c hc
    simp at hc
    rcases hc with rfl | hc
    · omega
    · exact ih (by omega) c hc

def Nums (l : List Int) : Prop := ∀ n ∈ l, 0 ≤ n ∧ n < 18446744073709551616
def Octs (l : List Int) : Prop := ∀ c ∈ l, 0 ≤ c ∧ c < 256
theorem Nums.append {a b : List Int} (ha : Nums a) (hb : Nums b) : Nums (a ++ b) := fun n hn => by
  rcases List.mem_append.1 hn with h | h
  · exact ha n h
  · exact hb n h
theorem Nums.take {a : List Int} (ha : Nums a) (k : Nat) : Nums (a.take k) := fun n hn => ha n (List.mem_of_mem_take hn)
theorem Octs.drop {a : List Int} (ha : Octs a) (k : Nat) : Octs (a.drop k) := fun n hn => ha n (List.mem_of_mem_drop hn)
theorem encs_octs {l : List Int} (h : Nums l) : Octs (encs l) := by
  induction l with
  | nil => intro c hc; simp [encs] at hc
  | cons n l ih =>
    intro c hc
    rcases List.mem_append.1 hc with h1 | h1
    · exact enc_bytes n (h n (by simp)).1 c h1
    · exact ih (fun m hm => h m (by simp [hm])) c h1
theorem encs_len_le {l : List Int} (h : Nums l) : (encs l).length ≤ 10 * l.length := by
  induction l with
  | nil => simp [encs]
  | cons n l ih =>
    have h1 := enc_len_ten n (h n (by simp)).2
    have h2 := ih (fun m hm => h m (by simp [hm]))
    simp [encs]
    omega
theorem encs_len_ge (l : List Int) : l.length ≤ (encs l).length := by
  induction l with
  | nil => simp [encs]
  | cons n l ih =>
    have h1 := enc_len_pos n
    simp [encs]
    omega

/-- What a reader of bytes finds from the i-th byte of a number on, n being what the bytes before are worth: the number and how many bytes it has; 0 bytes: none. -/
def scan : List Int → Nat → Int → Int × Nat
  | [], _, _ => (0, 0)
  | c :: r, i, n =>
    if i = 9 ∧ 1 < c then (0, 0)
    else if 128 ≤ c then scan r (i + 1) (n + (c - 128) * pw i)
    else if c = 0 ∧ 0 < i then (0, 0)
    else (n + c * pw i, i + 1)

theorem scan_enc (v : Int) (r : List Int) : ∀ (i : Nat) (n : Int), 0 ≤ v → 0 ≤ n → (0 < v ∨ i = 0) → n + v * pw i < 18446744073709551616 →
    scan (enc v ++ r) i n = (n + v * pw i, i + (enc v).length) := by
  induction v using enc.induct with
  | case1 v h =>
    intro i n h0 hn hz hs
    rw [enc_lt h]
    have h9 : ¬ (i = 9 ∧ 1 < v) := by
      rintro ⟨rfl, h1⟩
      rw [pw_9] at hs
      omega
    have hz' : ¬ (v = 0 ∧ 0 < i) := by omega
    simp only [List.cons_append, List.nil_append, scan, if_neg h9, if_neg (show ¬ 128 ≤ v by omega), if_neg hz', List.length_singleton]
  | case2 v h ih =>
    intro i n h0 hn hz hs
    rw [enc_ge h]
    have h9 : ¬ (i = 9 ∧ 1 < v % 128 + 128) := by
      rintro ⟨rfl, h1⟩
      rw [pw_9] at hs
      omega
    have hp := pw_pos i
    have e : n + (v % 128 + 128 - 128) * pw i + v / 128 * pw (i + 1) = n + v * pw i := by
      rw [pw_succ]
      have hv : v = v / 128 * 128 + v % 128 := by omega
      have : v * pw i = (v / 128 * 128 + v % 128) * pw i := by rw [← hv]
      rw [this, Int.add_mul, Int.mul_assoc, show v % 128 + 128 - 128 = v % 128 by omega]
      omega
    have hm : 0 ≤ (v % 128 + 128 - 128) * pw i := Int.mul_nonneg (by omega) (by omega)
    have := ih (i + 1) (n + (v % 128 + 128 - 128) * pw i) (by omega) (by omega) (by omega) (by rw [e]; exact hs)
    simp only [List.cons_append, scan, if_neg h9, if_pos (show 128 ≤ v % 128 + 128 by omega), this, List.length_cons, e]
    congr 1
    omega

theorem scan_inv (bs : List Int) : ∀ (i : Nat) (n : Int), Octs bs → i ≤ 9 →
    scan bs i n = (0, 0) ∨ ∃ v rest, bs = enc v ++ rest ∧ 0 ≤ v ∧ (0 < v ∨ i = 0) ∧ v * pw i + pw i ≤ 18446744073709551616 ∧ scan bs i n = (n + v * pw i, i + (enc v).length) := by
  induction bs with
  | nil => intro i n _ _; exact .inl rfl
  | cons c r ih =>
    intro i n hb hi
    have hc := hb c (by simp)
    have hr : Octs r := fun x hx => hb x (by simp [hx])
    by_cases h9 : i = 9 ∧ 1 < c
    · left; simp only [scan, if_pos h9]
    by_cases h1 : 128 ≤ c
    · have hi9 : i + 1 ≤ 9 := by omega
      rcases ih (i + 1) (n + (c - 128) * pw i) hr hi9 with h | ⟨v, rest, rfl, hv0, hv1, hle, hs⟩
      · left; simp only [scan, if_neg h9, if_pos h1, h]
      · right
        have hd : (v * 128 + (c - 128)) / 128 = v := by omega
        have hm : (v * 128 + (c - 128)) % 128 + 128 = c := by omega
        have he : enc (v * 128 + (c - 128)) = c :: enc v := by rw [enc_ge (by omega), hd, hm]
        have hp := pw_pos i
        have hq : (c - 128) * pw i + pw i ≤ 128 * pw i := by
          have : (c - 128 + 1) * pw i ≤ 128 * pw i := Int.mul_le_mul_of_nonneg_right (by omega) (by omega)
          rw [Int.add_mul] at this
          omega
        have hx : (v * 128 + (c - 128)) * pw i = v * pw (i + 1) + (c - 128) * pw i := by rw [pw_succ, Int.add_mul, Int.mul_assoc]
        refine ⟨v * 128 + (c - 128), rest, by rw [he]; rfl, by omega, by omega, ?_, ?_⟩
        · rw [hx]; rw [pw_succ] at hle ⊢; omega
        · simp only [scan, if_neg h9, if_pos h1, hs, he, hx, List.length_cons]
          congr 1
          · omega
          · omega
    · by_cases h0 : c = 0 ∧ 0 < i
      · left; simp only [scan, if_neg h9, if_neg h1, if_pos h0]
      · right
        refine ⟨c, r, by rw [enc_lt (by omega)]; rfl, hc.1, by omega, ?_, ?_⟩
        · by_cases e9 : i = 9
          · subst e9; rw [pw_9]; omega
          · have h8 := pw_le (show i ≤ 8 by omega)
            rw [pw_8] at h8
            have hp := pw_pos i
            have : (c + 1) * pw i ≤ 128 * pw i := Int.mul_le_mul_of_nonneg_right (by omega) (by omega)
            rw [Int.add_mul] at this
            omega
        · rw [enc_lt (by omega)]
          simp only [scan, if_neg h9, if_neg h1, if_neg h0, List.length_singleton]

/-- The bytes begin with no number. -/
def Miss (bs : List Int) : Prop := scan bs 0 0 = (0, 0)
theorem scan_hit (v : Int) (r : List Int) (h0 : 0 ≤ v) (h1 : v < 18446744073709551616) : scan (enc v ++ r) 0 0 = (v, (enc v).length) := by
  have := scan_enc v r 0 0 h0 (by omega) (by omega) (by rw [pw_zero]; omega)
  rw [this, pw_zero]
  congr 1 <;> omega
theorem hit_or_miss (bs : List Int) (hb : Octs bs) : Miss bs ∨ ∃ v rest, bs = enc v ++ rest ∧ 0 ≤ v ∧ v < 18446744073709551616 := by
  rcases scan_inv bs 0 0 hb (by omega) with h | ⟨v, rest, h1, h2, _, h3, _⟩
  · exact .inl h
  · rw [pw_zero] at h3
    exact .inr ⟨v, rest, h1, h2, by omega⟩

theorem nums_cons {n : Int} {l : List Int} (h1 : 0 ≤ n ∧ n < 18446744073709551616) (h : Nums l) : Nums (n :: l) := fun m hm => by
  rcases List.mem_cons.1 hm with rfl | hm
  · exact h1
  · exact h m hm
/-- Any bytes are the bytes of numbers, and of nothing more; or of numbers, and then of what begins with none. -/
theorem all_parts (m : Nat) : ∀ bs : List Int, bs.length ≤ m → Octs bs → ∃ ns rest, bs = encs ns ++ rest ∧ Nums ns ∧ (rest = [] ∨ (rest ≠ [] ∧ Miss rest)) := by
  induction m with
  | zero => intro bs h _; exact ⟨[], [], by simp at h; simp [h, encs], fun _ h => by simp at h, .inl rfl⟩
  | succ m ih =>
    intro bs h hb
    by_cases he : bs = []
    · subst he; exact ⟨[], [], rfl, fun _ h => by simp at h, .inl rfl⟩
    rcases hit_or_miss bs hb with hm | ⟨v, rest, rfl, h0, h1⟩
    · exact ⟨[], bs, rfl, fun _ h => by simp at h, .inr ⟨he, hm⟩⟩
    · have hl := enc_len_pos v
      obtain ⟨ns, r2, h2, h3, h4⟩ := ih rest (by simp at h; omega) (fun c hc => hb c (by simp [hc]))
      exact ⟨v :: ns, r2, by rw [h2]; simp [encs], nums_cons ⟨h0, h1⟩ h3, h4⟩
theorem get_parts (k : Nat) : ∀ bs : List Int, Octs bs → ∃ ns rest, bs = encs ns ++ rest ∧ Nums ns ∧ (ns.length = k ∨ (ns.length < k ∧ Miss rest)) := by
  induction k with
  | zero => intro bs _; exact ⟨[], bs, rfl, fun _ h => by simp at h, .inl rfl⟩
  | succ k ih =>
    intro bs hb
    rcases hit_or_miss bs hb with hm | ⟨v, rest, rfl, h0, h1⟩
    · exact ⟨[], bs, rfl, fun _ h => by simp at h, .inr ⟨by simp, hm⟩⟩
    · obtain ⟨ns, r2, h2, h3, h4⟩ := ih rest (fun c hc => hb c (by simp [hc]))
      refine ⟨v :: ns, r2, by rw [h2]; simp [encs], nums_cons ⟨h0, h1⟩ h3, ?_⟩
      rcases h4 with h4 | ⟨h4, h5⟩
      · exact .inl (by simp [h4])
      · exact .inr ⟨by simp; omega, h5⟩
end Go.Proofs.YtoiblfaalfpbpaaDoor

/- Words for memory that the walks share: a slice that reads as a list of values, nil or not; what stays of it. -/
namespace Go.Proofs.YtoiblfaalfpbpaaDoor
set_option linter.unusedSimpArgs false
open Go.RowKit
set_option linter.unusedVariables false

theorem old_cells {W w1 : World} (hb : Below W.heap.size W w1) : (∀ b o, b < W.heap.size → w1.cell? ⟨b, o, none⟩ = W.cell? ⟨b, o, none⟩) ∧ (∀ b o, b < W.heap.size → w1.frozen? ⟨b, o, none⟩ = W.frozen? ⟨b, o, none⟩) :=
  ⟨fun b o h => hb.cell (p := ⟨b, o, none⟩) h, fun b o h => hb.frozen (p := ⟨b, o, none⟩) h⟩

/-- The slice '.slice A xs.length c' reads as xs in w, and lies below block B. -/
def Row (w : World) (B : Nat) (A : Option Addr) (xs : List Value) : Prop :=
  xs = [] ∨ ∃ b o, A = some ⟨b, o, none⟩ ∧ b < B ∧ ∀ j (h : j < xs.length), w.cell? ⟨b, o + j, none⟩ = some xs[j]

theorem Row.nil {w : World} {B : Nat} {A : Option Addr} : Row w B A [] := .inl rfl
theorem Row.below {w w' : World} {B B' : Nat} {A : Option Addr} {xs : List Value} (h : Row w B A xs) (hb : Below B' w w') (hB : B ≤ B') : Row w' B A xs := by
  rcases h with h | ⟨b, o, h1, h2, h3⟩
  · exact .inl h
  · exact .inr ⟨b, o, h1, h2, fun j hj => (hb.cell (p := ⟨b, o + j, none⟩) (Nat.lt_of_lt_of_le h2 hB)).trans (h3 j hj)⟩
theorem Row.more {w : World} {B B' : Nat} {A : Option Addr} {xs : List Value} (h : Row w B A xs) (hB : B ≤ B') : Row w B' A xs := by
  rcases h with h | ⟨b, o, h1, h2, h3⟩
  · exact .inl h
  · exact .inr ⟨b, o, h1, Nat.lt_of_lt_of_le h2 hB, h3⟩
theorem Row.at {w : World} {B : Nat} {A : Option Addr} {xs : List Value} (h : Row w B A xs) {k : Nat} (hk : k < xs.length) :
    ∃ b o, A = some ⟨b, o, none⟩ ∧ b < B ∧ ∀ j (h : j < xs.length), w.cell? ⟨b, o + j, none⟩ = some xs[j] := by
  rcases h with h | h
  · subst h; simp at hk
  · exact h
theorem Row.take {w : World} {B : Nat} {A : Option Addr} {xs : List Value} (h : Row w B A xs) (k : Nat) : Row w B A (xs.take k) := by
  rcases h with h | ⟨b, o, h1, h2, h3⟩
  · exact .inl (by simp [h])
  · exact .inr ⟨b, o, h1, h2, fun j hj => by rw [List.getElem_take]; exact h3 j (by simp at hj; omega)⟩
theorem Row.drop {w : World} {B : Nat} {A : Option Addr} {xs : List Value} (h : Row w B A xs) {k c : Nat} (hc : xs.length ≤ c) :
    Row w B (if c = k then A else A.map (·.add k)) (xs.drop k) := by
  rcases h with h | ⟨b, o, h1, h2, h3⟩
  · exact .inl (by simp [h])
  · by_cases hk : k < xs.length
    · refine .inr ⟨b, o + k, ?_, h2, fun j hj => ?_⟩
      · rw [if_neg (by omega), h1]; simp [Addr.add_lit]
      · rw [List.getElem_drop, Nat.add_assoc]; exact h3 (k + j) (by simp at hj; omega)
    · exact .inl (by simp; omega)
/-- A row of the call's own reads as what it holds. -/
theorem Row.of_own {w : World} {base n c : Nat} {e : TypeId} {A : Option Addr} {xs : List Value} (h : w.ownsRow base e 1 (.slice A n c) n xs) : Row w w.heap.size A xs ∧ n = xs.length := by
  have hn : n = xs.length := by have := h.1; omega
  refine ⟨?_, hn⟩
  rcases h.2 with ⟨_, h0⟩ | ⟨g, cap, cur, hv, hb, hg, _⟩
  · exact .inl (List.eq_nil_of_length_eq_zero (by omega))
  · injection hv with hA _ _
    subst hA
    refine .inr ⟨g, 0, rfl, (Array.getElem?_eq_some_iff.1 hg).1, fun j hj => ?_⟩
    have := h.cells (g := g) rfl j xs[j] (List.getElem?_eq_getElem hj)
    rwa [Addr.add_lit] at this
theorem own_form {w : World} {base n : Nat} {e : TypeId} {v : Value} {xs : List Value} (h : w.ownsRow base e 1 v n xs) : ∃ A c, v = .slice A n c ∧ n ≤ c ∧ n = xs.length ∧ (A = none → n = 0 ∧ c = 0) := by
  have hn : n = xs.length := by have := h.1; omega
  rcases h.2 with ⟨hv, h0⟩ | ⟨g, cap, cur, hv, hb, hg, hc, _⟩
  · exact ⟨none, 0, by rw [hv, h0], by omega, hn, fun _ => ⟨h0, rfl⟩⟩
  · exact ⟨_, cap, hv, hc, hn, fun h => by cases h⟩
theorem own_below {w w' : World} {B base n : Nat} {e : TypeId} {v : Value} {xs : List Value} (h : w.ownsRow base e 1 v n xs) (hb : Below B w w') (hB : w.heap.size ≤ B) : w'.ownsRow base e 1 v n xs := by
  refine ⟨h.1, ?_⟩
  rcases h.2 with h0 | ⟨g, cap, cur, hv, hb1, hg, rest⟩
  · exact .inl h0
  · exact .inr ⟨g, cap, cur, hv, hb1, (hb.block g (Nat.lt_of_lt_of_le (Array.getElem?_eq_some_iff.1 hg).1 hB)).trans hg, rest⟩

abbrev u8s (l : List Int) : List Value := l.map (Value.int .u8)
abbrev u64s (l : List Int) : List Value := l.map (Value.int .u64)

theorem Tryd.info5 : (Tryd.prog.info? 5).map (fun i => (i.zero, i.size, i.bytes)) = some (some (.int .u8 0), 1, 1) := by kernel_rfl
theorem Tryd.info38 : (Tryd.prog.info? 38).map (fun i => (i.zero, i.size, i.bytes)) = some (some (.int .u64 0), 1, 8) := by kernel_rfl

theorem ret_val {a b : Value} (h : a = b) : Ending.returned a = .returned b := by rw [h]

/-- What one append to a row of the call's own leaves. -/
theorem push_own {B : Nat} {e : TypeId} {w wr w1 : World} {v : Value} {n : Nat} {xs : List Value} {o : Obj}
    (hB : B ≤ wr.heap.size) (hown : wr.ownsRow B e 1 v n xs) (hb : Below B w wr) (hgrow : (wr.alloc o).grownBy w1 v.ownBlock) : Below B w w1 :=
  (hb.alloc hB o).grown hgrow (by simp; omega) (fun j hj => (hown.lt j hj).1)
end Go.Proofs.YtoiblfaalfpbpaaDoor

namespace Go.Proofs.YtoiblfaalfpbpaaDoor
set_option linter.unusedSimpArgs false
open Go.RowKit
set_option linter.unusedVariables false

theorem one_u8s (l : List Int) : ∀ u ∈ u8s l, u.oneCell' = true := by
  intro u hu; simp at hu; obtain ⟨x, _, rfl⟩ := hu; rfl
theorem one_u64s (l : List Int) : ∀ u ∈ u64s l, u.oneCell' = true := by
  intro u hu; simp at hu; obtain ⟨x, _, rfl⟩ := hu; rfl

section
variable {ops : Array Oper} {rest : List Oper} {o : Oper} {a : Act} {Q : Exit → Act → World → Prop} {wr : World}

theorem wpList_push (t e : TypeId) (z : Value) (bytes : Nat) (ht : Tryd.prog.underlying t = some (.slice e)) (hinfo : (Tryd.prog.info? e).map (fun i => (i.zero, i.size, i.bytes)) = some (some z, 1, bytes)) (hz : z.cells.size = 1) (hby : bytes ≤ 8)
    (hgd : o.guard = none) (s x : Operand) (ho : o.op = .call { callee := .builtin .append, args := #[s, x], argTypes := #[t, t] })
    (B : Nat) (v : Value) (xs : List Value) (u : Value) (hu : u.oneCell' = true) (hown : wr.ownsRow B e 1 v xs.length xs) (hB : B ≤ wr.heap.size) (hl : xs.length ≤ 2000000)
    (hs : a.eval s = v) (hx : a.eval x = .slice (some ⟨wr.heap.size, 0, none⟩) 1 1)
    (h : ∀ v' w', w'.ownsRow B e 1 v' (xs ++ [u]).length (xs ++ [u]) → Below B wr w' → B ≤ w'.heap.size → wpList Tryd.prog ops Q rest (a.put o.dst v') w') :
    wpList Tryd.prog ops Q (o :: rest) a (wr.alloc (.cells #[u] e)) := by
  obtain ⟨i0, hi, hz0, hz1, hz2⟩ := info_parts hinfo
  refine wpList_append_own _ hgd s x t ho B e i0 z 1 bytes ht hi hz0 hz1 hz2 hz (by decide) v xs.length xs hs (hown.alloc _) ⟨wr.heap.size, 0, none⟩ 1 1 [u] hx rfl ?_ ?_ ?_ ?_ ?_ ?_
  · intro j y hy
    rcases j with _ | j
    · simp at hy; subst hy; simp [Addr.add]
    · simp at hy
  · intro y hy; simp at hy; subst hy; exact hu
  · unfold maxLen; omega
  · have : (xs.length + 1) * bytes ≤ (xs.length + 1) * 8 := Nat.mul_le_mul_left _ hby
    omega
  · simp; omega
  · intro v' w' h1 h2 _
    exact h v' w' (by simpa using h1) (push_own hB hown (Below.refl _ _) h2) (by have := h2.size; simp at this; omega)

theorem wpList_cat (t e : TypeId) (z : Value) (bytes : Nat) (ht : Tryd.prog.underlying t = some (.slice e)) (hinfo : (Tryd.prog.info? e).map (fun i => (i.zero, i.size, i.bytes)) = some (some z, 1, bytes)) (hz : z.cells.size = 1) (hby : bytes ≤ 8)
    (hgd : o.guard = none) (s x : Operand) (ho : o.op = .call { callee := .builtin .append, args := #[s, x], argTypes := #[t, t] })
    {n : Nat} (B R : Nat) (v : Value) (xs ys : List Value) (A : Option Addr) (c : Nat) (hu : ∀ u ∈ ys, u.oneCell' = true) (hnil : A = none → c = 0) (hown : wr.ownsRow B e 1 v xs.length xs) (hrow : Row wr R A ys) (hB : B ≤ wr.heap.size) (hl : xs.length + ys.length ≤ 2000000)
    (hs : a.eval s = v) (hx : a.eval x = .slice A n c) (hn : n = ys.length)
    (h : ∀ v' w', w'.ownsRow B e 1 v' (xs ++ ys).length (xs ++ ys) → Below B wr w' → B ≤ w'.heap.size → wpList Tryd.prog ops Q rest (a.put o.dst v') w') :
    wpList Tryd.prog ops Q (o :: rest) a wr := by
  obtain ⟨i0, hi, hz0, hz1, hz2⟩ := info_parts hinfo
  subst hn
  have fin : ∀ v' w', w'.ownsRow B e 1 v' (xs.length + ys.length) (xs ++ ys) → wr.grownBy w' v.ownBlock → wpList Tryd.prog ops Q rest (a.put o.dst v') w' := fun v' w' h1 h2 =>
    h v' w' (by simpa using h1) ((Below.refl B wr).grown h2 hB (fun j hj => (hown.lt j hj).1)) (by have := h2.size; omega)
  rcases A with _ | ad
  · have h0 : ys = [] := by
      rcases hrow with h0 | ⟨_, _, h0, _⟩
      · exact h0
      · cases h0
    subst h0
    have := hnil rfl
    subst this
    exact wpList_append_own_none hgd s x t ho B e i0 1 ht hi v xs.length xs hs hown hx (fin v wr (by simpa using hown) (World.grownBy.refl _ _))
  · refine wpList_append_own _ hgd s x t ho B e i0 z 1 bytes ht hi hz0 hz1 hz2 hz (by decide) v xs.length xs hs hown ad ys.length c ys hx (by simp) ?_ hu ?_ ?_ hB (fun v' w' h1 h2 _ => fin v' w' h1 h2)
    · intro j y hy
      rcases hrow with h0 | ⟨b, o', h0, _, h1⟩
      · subst h0; simp at hy
      · have h0' := Option.some.inj h0
        subst h0'
        obtain ⟨hj, rfl⟩ := List.getElem?_eq_some_iff.1 hy
        rw [Addr.add_lit]
        exact h1 j hj
    · unfold maxLen; omega
    · have : (xs.length + ys.length) * bytes ≤ (xs.length + ys.length) * 8 := Nat.mul_le_mul_left _ hby
      omega
end
end Go.Proofs.YtoiblfaalfpbpaaDoor
