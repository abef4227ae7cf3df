/- Joined texts, part 8: BA BB BC BD UK CH BP ZP ZC ZW. -/
import Derived.Test.YtokghlmccecpfaaDoorZ03
import Derived.Test.YtokghlmccecpfaaDoorZ04
import Derived.Test.YtokghlmccecpfaaDoorZ06
import Derived.Test.YtokghlmccecpfaaDoorZ07
import Derived.Deep.RegionHeld3
import Derived.Test.YtokghlmccecpfaaDoorZ02
import Derived.Test.YtokghlmccecpfaaDoorZ01
import Derived.Deep.CutRange
import Derived.BigQuiet

/- Plain mathematics of pods that may not be together. -/
namespace Go.Proofs.YtokghlmccecpfaaDoor
set_option linter.unusedSimpArgs false
open Go.RowKit
set_option linter.unusedVariables false

/-- Has the first load of this Id Apart? -/
def apartD (id : Int) : List LoadD → Bool
  | [] => false
  | x :: r => if x.id = id then x.apart else apartD id r
theorem apartD_no {id : Int} : ∀ {l : List LoadD} {k : Int}, 0 ≤ k → place LoadD.id id l k < 0 → apartD id l = false
  | [], _, _, _ => rfl
  | x :: r, k, hk, h => by
    by_cases hx : x.id = id
    · simp [place, hx] at h; omega
    · simp only [place, if_neg hx] at h
      simp only [apartD, if_neg hx]
      exact apartD_no (by omega) h
theorem apartD_yes {id : Int} : ∀ {l : List LoadD} {k : Int} {i : Nat} (hi : i < l.length), place LoadD.id id l k = k + i → 0 ≤ k → apartD id l = l[i].apart
  | [], _, _, hi, _, _ => by simp at hi
  | x :: r, k, i, hi, h, hk => by
    by_cases hx : x.id = id
    · simp only [place, if_pos hx] at h
      obtain rfl : i = 0 := by omega
      simp [apartD, hx]
    · simp only [place, if_neg hx] at h
      cases i with
      | zero =>
        have h3 : place LoadD.id id r (k + 1) < 0 ∨ k + 1 ≤ place LoadD.id id r (k + 1) := place_or r (k + 1) (by omega)
        omega
      | succ i =>
        simp only [apartD, if_neg hx, List.getElem_cons_succ]
        exact apartD_yes (by simpa using hi) (by rw [h]; omega) (by omega)
/-- Do two pods clash? -/
def clashD (ls : List LoadD) (a b : PodD) : Bool := a.node != 0 && (a.node == b.node && (a.load == b.load && apartD a.load ls))
theorem clashD_symm {ls : List LoadD} {a b : PodD} (h : clashD ls a b = true) : clashD ls b a = true := by
  simp only [clashD, Bool.and_eq_true, bne_iff_ne, beq_iff_eq] at h ⊢
  obtain ⟨h1, h2, h3, h4⟩ := h
  exact ⟨by rw [← h2]; exact h1, h2.symm, h3.symm, by rw [← h3]; exact h4⟩
theorem clashD_comm (ls : List LoadD) (a b : PodD) : clashD ls a b = clashD ls b a := by
  cases h : clashD ls a b with
  | true => exact (clashD_symm h).symm
  | false =>
    cases h2 : clashD ls b a with
    | false => rfl
    | true => rw [clashD_symm h2] at h; cases h
/-- The Id of the first pod of the list, behind k others, that is not at place i and clashes with p. -/
def clashFrom (ls : List LoadD) (p : PodD) (i : Nat) : List PodD → Nat → Int
  | [], _ => 0
  | q :: r, k => if k ≠ i ∧ clashD ls p q = true then q.id else clashFrom ls p i r (k + 1)
theorem clashFrom_at {ls : List LoadD} {p : PodD} {i : Nat} {l : List PodD} {k : Nat} {z : Int} (h : k < l.length) {q : PodD} (hx : l[k] = q) (hp : clashFrom ls p i (l.drop k) k = z) :
    (k ≠ i ∧ clashD ls p q = true → z = q.id) ∧ (k = i ∨ clashD ls p q = false → clashFrom ls p i (l.drop (k + 1)) (k + 1) = z) := by
  rw [List.drop_eq_getElem_cons h, hx, clashFrom] at hp
  constructor
  · intro e; rw [if_pos e] at hp; exact hp.symm
  · intro e
    rw [if_neg (by rcases e with e | e <;> simp [e])] at hp
    exact hp
theorem clashFrom_end {ls : List LoadD} {p : PodD} {i : Nat} {l : List PodD} {k : Nat} {z : Int} (h : l.length ≤ k) (hp : clashFrom ls p i (l.drop k) k = z) : z = 0 := by
  rw [List.drop_of_length_le h] at hp
  exact hp.symm
/-- The first other pod with which the first pod of that Id clashes; 0: none. -/
def clashOf (ls : List LoadD) (l : List PodD) (id : Int) : Int :=
  if place PodD.id id l 0 < 0 then 0 else
    match l[(place PodD.id id l 0).toNat]? with
    | none => 0
    | some p => clashFrom ls p (place PodD.id id l 0).toNat l 0
theorem clashOf_none {ls : List LoadD} {l : List PodD} {id : Int} (h : place PodD.id id l 0 < 0) : clashOf ls l id = 0 := by
  unfold clashOf
  rw [if_pos h]
theorem clashOf_some {ls : List LoadD} {l : List PodD} {id : Int} {i : Nat} (hi : i < l.length) (h : place PodD.id id l 0 = i) {p : PodD} (hp : l[i] = p) : clashOf ls l id = clashFrom ls p i l 0 := by
  unfold clashOf
  rw [if_neg (by omega), h, Int.toNat_natCast, List.getElem?_eq_getElem hi, hp]
/-- The first pod, behind k others, that clashes with one ahead of it. -/
def apartFrom (ls : List LoadD) (l : List PodD) : List PodD → Nat → Int × Int
  | [], _ => (0, -1)
  | p :: r, k => if (l.take k).any (clashD ls p) = true then (10, (k : Int)) else apartFrom ls l r (k + 1)
def apartOf (ls : List LoadD) (l : List PodD) : Int × Int := apartFrom ls l l 0
theorem apartFrom_at {ls : List LoadD} {l : List PodD} {k : Nat} {z : Int × Int} (h : k < l.length) {p : PodD} (hx : l[k] = p) (hp : apartFrom ls l (l.drop k) k = z) :
    ((l.take k).any (clashD ls p) = true → z = (10, (k : Int))) ∧ ((l.take k).any (clashD ls p) = false → apartFrom ls l (l.drop (k + 1)) (k + 1) = z) := by
  rw [List.drop_eq_getElem_cons h, hx, apartFrom] at hp
  constructor
  · intro e; rw [if_pos e] at hp; exact hp.symm
  · intro e; rw [if_neg (by rw [e]; decide)] at hp; exact hp
theorem apartFrom_end {ls : List LoadD} {l : List PodD} {k : Nat} {z : Int × Int} (h : l.length ≤ k) (hp : apartFrom ls l (l.drop k) k = z) : z = (0, -1) := by
  rw [List.drop_of_length_le h] at hp
  exact hp.symm
/-- The place of the first one of which it is true; -1: of none. -/
def idxF (f : PodD → Bool) : List PodD → Int → Int
  | [], _ => -1
  | q :: r, k => if f q = true then k else idxF f r (k + 1)
theorem idxF_at {f : PodD → Bool} {l : List PodD} {k : Nat} {z : Int} (h : k < l.length) {q : PodD} (hx : l[k] = q) (hp : idxF f (l.drop k) k = z) :
    (f q = true → z = k) ∧ (f q = false → idxF f (l.drop (k + 1)) ((k + 1 : Nat) : Int) = z) := by
  rw [List.drop_eq_getElem_cons h, hx, idxF] at hp
  constructor
  · intro e; rw [if_pos e] at hp; exact hp.symm
  · intro e; rw [if_neg (by rw [e]; decide)] at hp; exact hp
theorem idxF_end {f : PodD → Bool} {l : List PodD} {k : Nat} {z : Int} (h : l.length ≤ k) (hp : idxF f (l.drop k) k = z) : z = -1 := by
  rw [List.drop_of_length_le h] at hp
  exact hp.symm
theorem idxF_any {f : PodD → Bool} : ∀ (l : List PodD) (k : Int), 0 ≤ k → (decide (0 ≤ idxF f l k) = l.any f)
  | [], k, hk => by simp [idxF]
  | q :: r, k, hk => by
    cases h : f q with
    | true => simp [idxF, h, hk]
    | false => simp only [idxF, h, List.any_cons, Bool.false_or]; rw [if_neg (by decide)]; exact idxF_any r (k + 1) (by omega)
theorem apartFrom_pair {ls : List LoadD} {l : List PodD} : ∀ (r : List PodD) (k : Nat), ((apartFrom ls l r k).1 = 0 ∧ apartFrom ls l r k = (0, -1)) ∨ ∃ j : Nat, apartFrom ls l r k = (10, (j : Int))
  | [], _ => .inl ⟨rfl, rfl⟩
  | p :: r, k => by
    unfold apartFrom
    split
    · exact .inr ⟨k, rfl⟩
    · exact apartFrom_pair r (k + 1)
theorem apartFrom_iff {ls : List LoadD} {l : List PodD} : ∀ (n k : Nat), l.length = k + n → (apartFrom ls l (l.drop k) k = (0, -1) ↔ ∀ j, k ≤ j → ∀ h : j < l.length, (l.take j).any (clashD ls l[j]) = false)
  | 0, k, hn => by
    rw [List.drop_of_length_le (by omega), apartFrom]
    simp only [true_iff]
    intro j h1 h2; omega
  | n + 1, k, hn => by
    have hk : k < l.length := by omega
    rw [List.drop_eq_getElem_cons hk, apartFrom]
    cases h : (l.take k).any (clashD ls l[k]) with
    | true =>
      simp only [if_true]
      constructor
      · intro e; injection e with e1 e2; omega
      · intro e; have := e k (Nat.le_refl _) hk; rw [h] at this; cases this
    | false =>
      rw [if_neg (by decide), apartFrom_iff n (k + 1) (by omega)]
      constructor
      · intro e j h1 h2
        by_cases hj : j = k
        · subst hj; exact h
        · exact e j (by omega) h2
      · intro e j h1 h2; exact e j (by omega) h2
theorem apart_pairwise {ls : List LoadD} {l : List PodD} : apartOf ls l = (0, -1) ↔ l.Pairwise (fun p q => clashD ls q p = false) := by
  have h := apartFrom_iff (ls := ls) (l := l) l.length 0 (by omega)
  rw [List.drop_zero] at h
  rw [apartOf, h, List.pairwise_iff_getElem]
  constructor
  · intro e i j hi hj hij
    have := e j (by omega) hj
    rw [List.any_eq_false] at this
    have h2 := this l[i] (by rw [List.mem_take_iff_getElem]; exact ⟨i, by omega, rfl⟩)
    simpa using h2
  · intro e j _ hj
    rw [List.any_eq_false]
    intro p hp
    rw [List.mem_take_iff_getElem] at hp
    obtain ⟨i, hi, rfl⟩ := hp
    have := e i j (by omega) hj (by omega)
    simpa using this
theorem apart_zero {ls : List LoadD} {l : List PodD} (h : (apartOf ls l).1 = 0) : apartOf ls l = (0, -1) := by
  rcases apartFrom_pair (ls := ls) (l := l) l 0 with h1 | ⟨j, h1⟩
  · exact h1.2
  · rw [apartOf, h1] at h; cases h
theorem apart_sub {ls : List LoadD} {l m : List PodD} (hs : m.Sublist l) (h : apartOf ls l = (0, -1)) : apartOf ls m = (0, -1) :=
  apart_pairwise.2 ((apart_pairwise.1 h).sublist hs)
theorem less_sub {α : Type} (l : List α) (n : Nat) : (l.take n ++ l.drop (n + 1)).Sublist l := by
  have h : (l.drop (n + 1)).Sublist (l.drop n) := by
    rw [show l.drop (n + 1) = (l.drop n).drop 1 by rw [List.drop_drop]]
    exact List.drop_sublist 1 _
  have h2 := List.Sublist.append (List.Sublist.refl (l.take n)) h
  rwa [List.take_append_drop] at h2
end Go.Proofs.YtokghlmccecpfaaDoor

/- The program's hasApart, clash, and its closures; slices.IndexFunc and slices.ContainsFunc at them. -/
namespace Go.Proofs.YtokghlmccecpfaaDoor
set_option linter.unusedSimpArgs false
open Go.RowKit
set_option linter.unusedVariables false

section
variable {V : World}
theorem Bf.cells8 {b : Nat} {x : PodD} (h : Bf V b (cellsP x)) : (V.cell? ⟨b, 0, none⟩ = some (.int .i64 x.id) ∧ V.cell? ⟨b, 1, none⟩ = some (.int .i64 x.load) ∧ V.cell? ⟨b, 2, none⟩ = some (.int .i64 x.prio) ∧ V.cell? ⟨b, 3, none⟩ = some (.int .u64 x.req.a)) ∧
    V.cell? ⟨b, 4, none⟩ = some (.int .u64 x.req.b) ∧ V.cell? ⟨b, 5, none⟩ = some (.int .u64 x.req.c) ∧ V.cell? ⟨b, 6, none⟩ = some (.int .u64 x.req.d) ∧ V.cell? ⟨b, 7, none⟩ = some (.int .i64 x.node) ∧ b < V.heap.size :=
  ⟨⟨h.cell 0 _ rfl, h.cell 1 _ rfl, h.cell 2 _ rfl, h.cell 3 _ rfl⟩, h.cell 4 _ rfl, h.cell 5 _ rfl, h.cell 6 _ rfl, h.cell 7 _ rfl, h.lt⟩
end
def IdxRel (f : PodD → Bool) (l : List PodD) (W : World) (i : Value) (wr : World) : Prop := ∃ k : Nat, k ≤ l.length ∧ i = .int .i64 k ∧ idxF f (l.drop k) k = idxF f l 0 ∧ Below W.heap.size W wr
end Go.Proofs.YtokghlmccecpfaaDoor

/- The program's Clash of layer 7. -/
namespace Go.Proofs.YtokghlmccecpfaaDoor
set_option linter.unusedSimpArgs false
open Go.RowKit
set_option linter.unusedVariables false

theorem T3.cells3a {x0 x1 x2 : Value} {b c : List Value} {w V : World} (h : T3 [x0, x1, x2] b c w V) : V.cell? ⟨w.heap.size, 0, none⟩ = some x0 ∧ V.cell? ⟨w.heap.size, 1, none⟩ = some x1 ∧ V.cell? ⟨w.heap.size, 2, none⟩ = some x2 ∧ w.heap.size < V.heap.size := h.one.cells3
def ClashRel (ls : List LoadD) (p : PodD) (i : Nat) (l : List PodD) (a b c : List Value) (w : World) (v : Value) (wr : World) : Prop := ∃ k : Nat, k ≤ l.length ∧ v = .int .i64 k ∧ clashFrom ls p i (l.drop k) k = clashFrom ls p i l 0 ∧ T3 a b c w wr

end Go.Proofs.YtokghlmccecpfaaDoor

/- The program's Check of layer 7. -/
namespace Go.Proofs.YtokghlmccecpfaaDoor
set_option linter.unusedSimpArgs false
open Go.RowKit
set_option linter.unusedVariables false

def ApartRel (ls : List LoadD) (l : List PodD) (a b : List Value) (w : World) (v : Value) (wr : World) : Prop := ∃ k : Nat, k ≤ l.length ∧ v = .int .i64 k ∧ apartFrom ls l (l.drop k) k = apartOf ls l ∧ T2 a b w wr

end Go.Proofs.YtokghlmccecpfaaDoor

/- The heads of layer 5's laws: few of all, and the document's examples. -/
namespace Go.Proofs.YtokghlmccecpfaaDoor
set_option linter.unusedSimpArgs false
open Go.RowKit
set_option linter.unusedVariables false

def few05 (n1 n2 n3 nx nt : Nat) : Bool := decide (n1 ≤ 40 ∧ n2 ≤ 40 ∧ n3 ≤ 40) && (decide (nx ≤ 40) && decide (nt ≤ 40))
set_option maxHeartbeats 1600000 in
theorem few05_any (A1 A2 A3 A4 A5 : Option Addr) (n1 c1 n2 c2 n3 c3 n4 c4 n5 c5 : Nat) (v1 v2 u1 u2 : Value) (w : World) :
    Calls Tryd.prog 6 #[.agg #[.slice A1 n1 c1, .slice A2 n2 c2, .slice A3 n3 c3], .agg #[.slice A4 n4 c4, v1, v2], .agg #[.slice A5 n5 c5, u1, u2]] w fun e w' => e = .returned (.bool (few05 n1 n2 n3 n4 n5)) ∧ Below w.heap.size w w' := by
  have b00 := below_three w (.cells #[.slice A1 n1 c1, .slice A2 n2 c2, .slice A3 n3 c3] 26) (.cells #[.slice A4 n4 c4, v1, v2] 29) (.cells #[.slice A5 n5 c5, u1, u2] 31)
  go_enter Tryd.func6, Tryd.ntmps6
  go_wp2_with fail
  refine (few_any _ _ _ _ _ _ _ _ _ _).mono ?_
  rintro e w1 ⟨rfl, hb1⟩
  have k1 : Below (w.heap.size + 3) _ w1 := hb1.mono (by simp)
  have kw1 := b00.trans (k1.mono (by omega))
  have a3 : w1.cell? ⟨w.heap.size + 1, 0, none⟩ = some (.slice A4 n4 c4) := (k1.cell (p := ⟨w.heap.size + 1, 0, none⟩) (by simp)).trans (by rw [World.cell?_alloc_lt _ _ _ (by simp)]; simp)
  have a4 : w1.cell? ⟨w.heap.size + 2, 0, none⟩ = some (.slice A5 n5 c5) := (k1.cell (p := ⟨w.heap.size + 2, 0, none⟩) (by simp)).trans (by rw [World.cell?_alloc_at _ _ _ _ (by simp)]; simp)
  cases hf : decide (n1 ≤ 40 ∧ n2 ≤ 40 ∧ n3 ≤ 40) with
  | false =>
    have HE := Lib.hid (show few05 n1 n2 n3 n4 n5 = false by unfold few05; rw [hf]; rfl)
    clear hf
    go_wp2
    go_ret
    exact ⟨ret_bool HE.out.symm, kw1⟩
  | true =>
    by_cases h4 : n4 ≤ 40
    · have d4 : decide ((n4 : Int) ≤ 40) = true := decide_eq_true (by omega)
      by_cases h5 : n5 ≤ 40
      · have d5 : decide ((n5 : Int) ≤ 40) = true := decide_eq_true (by omega)
        have HE := Lib.hid (show few05 n1 n2 n3 n4 n5 = true by unfold few05; rw [hf]; simp [h4, h5])
        clear hf
        go_wp2
        go_ret
        exact ⟨ret_bool HE.out.symm, kw1⟩
      · have d5 : decide ((n5 : Int) ≤ 40) = false := decide_eq_false (by omega)
        have HE := Lib.hid (show few05 n1 n2 n3 n4 n5 = false by unfold few05; rw [hf]; simp [h5])
        clear hf
        go_wp2
        go_ret
        exact ⟨ret_bool HE.out.symm, kw1⟩
    · have d4 : decide ((n4 : Int) ≤ 40) = false := decide_eq_false (by omega)
      have HE := Lib.hid (show few05 n1 n2 n3 n4 n5 = false by unfold few05; rw [hf]; simp [h4])
      clear hf
      go_wp2
      go_ret
      exact ⟨ret_bool HE.out.symm, kw1⟩
theorem recs_one {α : Type} {cells : α → List Value} {size : Nat} (w : World) (y : α) (t : TypeId) {g : Nat} (hg : g = w.heap.size) : Recs size cells (w.alloc (.cells (cells y).toArray t)) (g + 1) (some ⟨g, 0, none⟩) [y] := by
  subst hg
  refine .inr ⟨w.heap.size, 0, rfl, by omega, fun i hi j u hu => ?_⟩
  obtain rfl : i = 0 := by simpa using hi
  simp at hu ⊢
  exact hu
theorem Out.alloc {α : Type} {size : Nat} {cells : α → List Value} {w : World} {xs : List α} {A : Option Addr} {c : Nat} (h : Out size cells w xs A c) (o : Obj) : Out size cells (w.alloc o) xs A c :=
  ⟨h.1, h.2.1, h.2.2.1, (h.2.2.2.below ((Below.refl _ w).alloc (Nat.le_refl _) o) (Nat.le_refl _)).more (by simp)⟩
def upPod : PodD := ⟨1, 0, 0, ⟨0, 0, 0, 0⟩, 0⟩
def upNode : NodeD := ⟨3, 1, ⟨0, 0, 0, 0⟩, ⟨0, 0, 0, 0⟩⟩
theorem up_none : makeD [] [] noState ⟨1, 1, 0, 0⟩ = (noState, 4) := by rfl
theorem up_some : makeD [upNode] [] ⟨[upPod], 0, 0⟩ ⟨1, 1, 3, 0⟩ = (⟨[⟨1, 0, 0, ⟨0, 0, 0, 0⟩, 3⟩], 0, 0⟩, 0) := by rfl
end Go.Proofs.YtokghlmccecpfaaDoor

/- The head of layer 3's statements, and the law ClusterFewer, walked, from what cluster.Check and cluster.Fair come to. -/
namespace Go.Proofs.YtokghlmccecpfaaDoor
set_option linter.unusedSimpArgs false
open Go.RowKit
set_option linter.unusedVariables false

def SnapD.Ok (s : SnapD) : Prop := (∀ a ∈ s.nodes, a.Ok) ∧ (∀ a ∈ s.loads, a.Ok) ∧ (∀ a ∈ s.pods, a.Ok)
theorem errIs_none {B : Nat} {w : World} {u : Value} {p : Int × Int} (h : ErrIs p B w u) (hp : p.1 = 0) (h2 : p.2 = -1) : u = .nilIface := by
  rcases h with ⟨_, h⟩ | ⟨_, h, _⟩ | ⟨k, g, h, _⟩
  · exact h
  · omega
  · omega
theorem errIs_self {B : Nat} {w : World} {u : Value} {p : Int × Int} (h : ErrIs p B w u) (hp : p.1 ≠ 0) (h2 : p.2 = -1) : u = .iface 40 (.int .i64 p.1) := by
  rcases h with ⟨h, _⟩ | ⟨_, _, _, h⟩ | ⟨k, g, h, _⟩
  · rw [h] at hp; simp at hp
  · exact h
  · omega
theorem errIs_spot {B : Nat} {w : World} {u : Value} {p : Int × Int} (h : ErrIs p B w u) {k : Nat} (h2 : p.2 = k) : ∃ g, u = .iface 63 (.pointer (some ⟨g, 0, none⟩)) ∧ w.heap[g]? = some (.cells #[.int .i64 (k : Int), .int .i64 p.1] 65 (0, 0)) := by
  rcases h with ⟨h, _⟩ | ⟨h, _⟩ | ⟨k', g, h, h3, _, h4⟩
  · rw [h] at h2; exact absurd h2 (by simp)
  · omega
  · obtain rfl : k = k' := by omega
    exact ⟨g, h3, h4⟩
theorem errIs_some {B : Nat} {w : World} {u : Value} {p : Int × Int} (h : ErrIs p B w u) (hp : p.1 ≠ 0) : ∃ t v, u = .iface t v := by
  rcases h with ⟨h, _⟩ | ⟨_, _, _, h⟩ | ⟨k, g, h, h3, _⟩
  · rw [h] at hp; simp at hp
  · exact ⟨_, _, h⟩
  · exact ⟨_, _, h3⟩

theorem flat_at : ∀ (xs : List NodeD) (i : Nat) (h : i < xs.length) (j : Nat) (u : Value), (cellsN xs[i])[j]? = some u → (xs.flatMap cellsN)[i * 10 + j]? = some u
  | [], i, h, _, _, _ => by simp at h
  | x :: r, 0, _, j, u, hu => by
    have hj : j < (cellsN x).length := (List.getElem?_eq_some_iff.1 hu).1
    simp only [List.flatMap_cons, Nat.zero_mul, Nat.zero_add]
    rw [List.getElem?_append_left hj]
    exact hu
  | x :: r, i + 1, h, j, u, hu => by
    have hl : (cellsN x).length = 10 := rfl
    simp only [List.flatMap_cons]
    rw [List.getElem?_append_right (by rw [hl]; omega), hl, show (i + 1) * 10 + j - 10 = i * 10 + j by omega]
    exact flat_at r i (by simpa using h) j u hu
theorem recs_new (w : World) (t : TypeId) (xs : List NodeD) (cs : Array Value) (hc : cs = (xs.flatMap cellsN).toArray) : Recs 10 cellsN (w.alloc (.cells cs t)) (w.heap.size + 1) (some ⟨w.heap.size, 0, none⟩) xs := by
  refine .inr ⟨w.heap.size, 0, rfl, by omega, fun i hi j u hu => ?_⟩
  have h1 := flat_at xs i hi j u hu
  rw [World.cell?_alloc_at _ _ _ _ rfl, hc]
  simpa using h1
def z4 : V4 := ⟨0, 0, 0, 0⟩
def nd3 : NodeD := ⟨3, 1, z4, z4⟩
theorem z4_ok : z4.Ok := ⟨⟨by decide, by decide⟩, ⟨by decide, by decide⟩, ⟨by decide, by decide⟩, ⟨by decide, by decide⟩⟩
theorem nd3_ok : nd3.Ok := ⟨⟨by decide, by decide⟩, ⟨by decide, by decide⟩, z4_ok, z4_ok⟩
theorem check_0 : check ⟨[], [], []⟩ = (3, -1) := by decide
theorem check_1 : check ⟨[nd3], [], []⟩ = (0, -1) := by decide
theorem check_2 : check ⟨[nd3, nd3], [], []⟩ = (5, 1) := by decide

/-- ClusterFewer: what may be has with fewer pods what may be. -/
theorem ok_fewer {s : SnapD} (h : s.Ok) (n : Nat) : SnapD.Ok { s with pods := s.pods.take n } := ⟨h.1, h.2.1, fun a ha => h.2.2 a (List.mem_of_mem_take ha)⟩
end Go.Proofs.YtokghlmccecpfaaDoor

/- The head of layer 7's laws: the document's example, and two pods that clash. -/
namespace Go.Proofs.YtokghlmccecpfaaDoor
set_option linter.unusedSimpArgs false
open Go.RowKit
set_option linter.unusedVariables false

theorem recs_newG {α : Type} {size : Nat} {cells : α → List Value} (hc : ∀ x, (cells x).length = size) (w : World) (t : TypeId) (xs : List α) (cs : Array Value) (hcs : cs = (xs.flatMap cells).toArray) {g : Nat} (hg : g = w.heap.size) : Recs size cells (w.alloc (.cells cs t)) (g + 1) (some ⟨g, 0, none⟩) xs := by
  subst hcs hg
  refine .inr ⟨w.heap.size, 0, rfl, by omega, fun i hi j u hu => ?_⟩
  have hj : j < size := by have := (List.getElem?_eq_some_iff.1 hu).1; rwa [hc] at this
  have h2 := flatMap_get (size := size) hc hi hj
  rw [hu] at h2
  simpa using h2
def upL7 : LoadD := ⟨2, true, 0, 0, 0⟩
def upP7 : PodD := ⟨1, 2, 0, ⟨0, 0, 0, 0⟩, 3⟩
def upQ7 : PodD := ⟨4, 2, 0, ⟨0, 0, 0, 0⟩, 3⟩
theorem up7_none : apartOf [upL7] [] = (0, -1) := by decide
theorem up7_two : apartOf [upL7] [upP7, upQ7] = (10, 1) := by decide
theorem up7_clash : clashOf [upL7] [upP7, upQ7] 1 = 4 := by decide

end Go.Proofs.YtokghlmccecpfaaDoor

/- The head of layer 9's laws: the document's example, and a budget that is used up. -/
namespace Go.Proofs.YtokghlmccecpfaaDoor
set_option linter.unusedSimpArgs false
open Go.RowKit
set_option linter.unusedVariables false

def upL9 : LoadD := ⟨2, false, 0, 1, 1⟩
theorem up9_few : budgetOf [upL9] [] = (12, 0) := by decide
theorem up9_used : usedV (usedD 0 0 0 1) = .iface 40 (.int .i64 15) := by rfl
theorem up9_free : usedV (usedD 0 0 0 0) = .nilIface := by rfl

set_option maxHeartbeats 6400000 in
set_option maxRecDepth 100000 in
theorem up09_any (w : World) (hg : Laid w) : Calls Tryd.prog 5 #[] w fun e w' => e = .returned (.bool true) ∧ Below w.heap.size w w' := by
  have hb1 : Below w.heap.size w (w.alloc (.cells #[.int .i64 2, .bool false, .int .i64 0, .int .i64 1, .int .i64 1] 58)) := (Below.refl _ w).alloc (Nat.le_refl _) _
  have hr1 := recs_newG (cells := cellsL) (size := 5) (fun _ => rfl) w 58 [upL9] #[.int .i64 2, .bool false, .int .i64 0, .int .i64 1, .int .i64 1] rfl rfl
  have hb2 := hb1.alloc (by simp) (.cells #[.slice none 0 0, .slice (some ⟨w.heap.size, 0, none⟩) 1 1, .slice none 0 0] 26)
  have hB : Bf ((w.alloc (.cells #[.int .i64 2, .bool false, .int .i64 0, .int .i64 1, .int .i64 1] 58)).alloc (.cells #[.slice none 0 0, .slice (some ⟨w.heap.size, 0, none⟩) 1 1, .slice none 0 0] 26)) (w.heap.size + 1) [.slice none 0 0, .slice (some ⟨w.heap.size, 0, none⟩) 1 1, .slice none 0 0] :=
    Bf.new (w.alloc (.cells #[.int .i64 2, .bool false, .int .i64 0, .int .i64 1, .int .i64 1] 58)) _ _ (by simp)
  have hr1' := hr1.below ((Below.refl _ _).alloc (Nat.le_refl _) (.cells #[.slice none 0 0, .slice (some ⟨w.heap.size, 0, none⟩) 1 1, .slice none 0 0] 26)) (by simp)
  have hsz : ((w.alloc (.cells #[.int .i64 2, .bool false, .int .i64 0, .int .i64 1, .int .i64 1] 58)).alloc (.cells #[.slice none 0 0, .slice (some ⟨w.heap.size, 0, none⟩) 1 1, .slice none 0 0] 26)).heap.size = w.heap.size + 2 := by simp
  clear hr1 hb1
  go_enter Tryd.func5, Tryd.ntmps5
  go_upto_region 2 with fail
  generalize hX : ((w.alloc (.cells #[.int .i64 2, .bool false, .int .i64 0, .int .i64 1, .int .i64 1] 58)).alloc (.cells #[.slice none 0 0, .slice (some ⟨w.heap.size, 0, none⟩) 1 1, .slice none 0 0] 26)) = X at *
  clear hX
  have HSZ := Lib.hid hsz
  have HK := Lib.hid hb2
  have HBS := Lib.hid hB
  have HR1 := Lib.hid hr1'
  generalize hgs : w.heap.size + 1 = gs at *
  have HGS := Lib.hid hgs
  clear hgs
  generalize hl : w.heap.size = gl at *
  clear hsz hb2 hB hr1'
  have HX1 : Hid (∀ V, Below X.heap.size X V → Recs 5 cellsL V V.heap.size (some ⟨gl, 0, none⟩) [upL9]) := fun V hV => (HR1.out.below hV (by have := HSZ.out; have := HGS.out; omega)).more (by have := hV.size; have := HSZ.out; have := HGS.out; omega)
  have HG : Hid (∀ V, Below X.heap.size X V → Laid V) := fun V hV => Laid.below (Laid.below hg HK.out (by omega)) hV (Nat.le_refl _)
  have H1 : Hid (∀ V, Below X.heap.size X V → Calls Tryd.prog 13 #[.agg #[.slice none 0 0, .slice (some ⟨gl, 0, none⟩) 1 1, .slice none 0 0], .agg #[.slice none 0 0, .int .i64 0, .int .i64 0]] V fun e w' => ∃ g : Nat, e = .returned (.iface 63 (.pointer (some ⟨g, 0, none⟩))) ∧ w'.heap[g]? = some (.cells #[.int .i64 0, .int .i64 12] 65 (0, 0)) ∧ Below V.heap.size V w') := fun V hV => by
    have h := budgetCheck_any [upL9] [] none (some ⟨gl, 0, none⟩) none 0 0 1 1 0 0 (.slice none 0 0) (.int .i64 0) (.int .i64 0) V rfl (by omega) (HX1.out V hV) rfl (by omega) Recs.nil
    rw [up9_few] at h
    refine h.mono fun e w' ⟨u, he, hu, hb⟩ => ?_
    obtain ⟨g, hg1, hg2⟩ := errIs_spot hu (k := 0) rfl
    exact ⟨g, by rw [he, hg1], hg2, hb⟩
  have H2 : Hid (∀ V, Calls Tryd.prog 9 #[.agg #[.slice none 0 0, .int .i64 0, .int .i64 0], .agg #[.slice none 0 0, .int .i64 0, .int .i64 1]] V fun e w' => e = .returned (.iface 40 (.int .i64 15)) ∧ Below V.heap.size V w') := fun V => by
    have h := budgetUsed_any none none 0 0 0 0 0 0 0 1 V
    rw [up9_used] at h
    exact h
  have H3 : Hid (∀ V, Calls Tryd.prog 9 #[.agg #[.slice none 0 0, .int .i64 0, .int .i64 0], .agg #[.slice none 0 0, .int .i64 0, .int .i64 0]] V fun e w' => e = .returned .nilIface ∧ Below V.heap.size V w') := fun V => by
    have h := budgetUsed_any none none 0 0 0 0 0 0 0 0 V
    rw [up9_free] at h
    exact h
  have HGW : Hid (gl = w.heap.size) := hl.symm
  clear hg hl HSZ HGS HR1 HX1
  have q15 : ∀ W, (binOp .eql 38 (.iface 40 (.int .i64 15)) (.iface 40 (.int .i64 15))).run Tryd.prog W = .ok (.bool true) W := fun _ => by kernel_rfl
  obtain ⟨a0, a1, a2, a3⟩ := HBS.out.cells3
  go_wp2_with fail
  refine (H1.out _ (Below.refl _ _)).mono ?_
  rintro e w1 ⟨g, rfl, hgg, hb1⟩
  have HK1 := Lib.hid hb1
  have HI := Lib.hid (Is_yes g 0 12 w1 (HG.out w1 HK1.out) hgg)
  clear a0 a1 a2 a3 hb1 hgg
  go_wp2_with fail
  refine HI.out.mono ?_
  rintro e w2 ⟨rfl, hb2⟩
  have HK2 := Lib.hid (HK1.out.trans (hb2.mono HK1.out.size))
  clear hb2
  go_wp2_with fail
  refine (H2.out _).mono ?_
  rintro e w3 ⟨rfl, hb3⟩
  have HK3 := Lib.hid (HK2.out.trans (hb3.mono HK2.out.size))
  clear hb3
  go_wp2_with fail
  refine (H3.out _).mono ?_
  rintro e w4 ⟨rfl, hb4⟩
  have HK4 := Lib.hid (HK3.out.trans (hb4.mono HK3.out.size))
  clear hb4
  go_wp2
  go_ret
  have hfin := HK.out.trans (HK4.out.mono (show gl ≤ X.heap.size by have := HK.out.size; have := HGW.out; omega))
  rw [HGW.out] at hfin
  exact ⟨rfl, hfin⟩
end Go.Proofs.YtokghlmccecpfaaDoor

/- How many of a load are somewhere, which load is at fault, whether a budget is used up: the reference's Size, Used, Budget of layer 9. -/
namespace Go.Proofs.YtokghlmccecpfaaDoor
set_option linter.unusedSimpArgs false
open Go.RowKit
set_option linter.unusedVariables false

def RSizeRel (load : Int) (l : List PodD) (n i : Value) : Prop := ∃ k : Nat, k ≤ l.length ∧ n = .int .i64 (sizeD load (l.take k) : Nat) ∧ i = .int .i64 k

set_option maxHeartbeats 6400000 in
set_option maxRecDepth 100000 in
theorem rSize07_any (l : List PodD) (load : Int) (A : Option Addr) (n c : Nat) (v1 v2 : Value) (w : World) (hn : n = l.length) (hl : n ≤ 1000) (hr : Recs 8 cellsP w w.heap.size A l) :
    Calls Tryd.prog 11 #[.agg #[.slice A n c, v1, v2], .int .i64 load] w fun e w' => e = .returned (.int .i64 (sizeD load l : Nat)) ∧ Below w.heap.size w w' := by
  have HR := Lib.hid hr
  have HN := Lib.hid hn
  clear hr hn
  go_enter Tryd.func11, Tryd.ntmps11
  go_wp2
  go_loop [5, 6] (RSizeRel load l) (fun _ i => n - (intOf i).toNat)
  case atStart => exact ⟨0, by omega, by simp [sizeD], rfl⟩
  case round =>
    obtain ⟨k, hk, rfl, rfl⟩ := hrel
    by_cases hlt : k < n
    · have hkl : k < l.length := by have := HN.out; omega
      obtain ⟨b, o, rfl, hb, he⟩ := HR.out.at hkl
      have hq : sizeD load (l.take k) ≤ 1000 := by have := size_le9 load (l.take k); simp at this; omega
      have HI := Lib.hid (fun h1 h2 => size_in9 (load := load) hkl rfl h1 h2)
      have HO := Lib.hid (fun h1 => size_out9 (load := load) hkl rfl h1)
      generalize l[k] = p at *
      generalize sizeD load (l.take k) = q at *
      have e1 : w.cell? ⟨b, o + k * 8 + 1, none⟩ = some (.int .i64 p.load) := he 1 _ rfl
      have e7 : w.cell? ⟨b, o + k * 8 + 7, none⟩ = some (.int .i64 p.node) := he 7 _ rfl
      clear he
      by_cases h1 : p.load = load
      · have d1 : (p.load == load) = true := by simp [h1]
        by_cases h2 : p.node = 0
        · have d2 : (p.node != 0) = false := by simp [h2]
          have HE := Lib.hid (HO.out (fun _ => h2))
          clear h1 h2
          go_wp2
          go_round
          case rel => exact ⟨k + 1, by omega, by rw [HE.out], by go_num⟩
          case measure => simp [intOf]; omega
        · have d2 : (p.node != 0) = true := by simp [h2]
          have HE := Lib.hid (HI.out h1 h2)
          clear h1 h2
          go_wp2
          go_round
          case rel => exact ⟨k + 1, by omega, by rw [HE.out]; exact congrArg (Value.int IntKind.i64) (by omega), by go_num⟩
          case measure => simp [intOf]; omega
      · have d1 : (p.load == load) = false := by simp [h1]
        have HE := Lib.hid (HO.out (fun e => absurd e h1))
        clear h1
        go_wp2
        go_round
        case rel => exact ⟨k + 1, by omega, by rw [HE.out], by go_num⟩
        case measure => simp [intOf]; omega
    · have HE := Lib.hid (size_end9 (load := load) (l := l) (k := k) (by have := HN.out; omega))
      go_wp2
      go_ret
      exact ⟨ret_int (by rw [HE.out]), (Below.refl _ _).alloc (Nat.le_refl _) _⟩

set_option maxHeartbeats 3200000 in
theorem rUsed07_any (A4 A5 : Option Addr) (n4 c4 n5 c5 : Nat) (x1 x2 t1 t2 : Int) (w : World) :
    Calls Tryd.prog 8 #[.agg #[.slice A5 n5 c5, .int .i64 x1, .int .i64 x2], .agg #[.slice A4 n4 c4, .int .i64 t1, .int .i64 t2]] w fun e w' => e = .returned (.bool (usedD x1 x2 t1 t2)) ∧ Below w.heap.size w w' := by
  have b00 := below_two w (.cells #[.slice A5 n5 c5, .int .i64 x1, .int .i64 x2] 29) (.cells #[.slice A4 n4 c4, .int .i64 t1, .int .i64 t2] 31)
  by_cases h1 : x1 < t1
  · have HE := Lib.hid (show usedD x1 x2 t1 t2 = true by simp [usedD, h1])
    have d1 : decide (x1 < t1) = true := decide_eq_true h1
    clear h1
    go_enter Tryd.func8, Tryd.ntmps8
    go_wp2
    go_ret
    exact ⟨ret_bool HE.out.symm, b00⟩
  · have d1 : decide (x1 < t1) = false := decide_eq_false h1
    have HE := Lib.hid (show usedD x1 x2 t1 t2 = decide (x2 < t2) by simp [usedD, h1])
    clear h1
    go_enter Tryd.func8, Tryd.ntmps8
    go_wp2
    go_ret
    exact ⟨ret_bool HE.out.symm, b00⟩

theorem ret_pair9 {p : Int × Int} {a b : Int} (h : p = (a, b)) : Ending.returned (.tuple #[.int .i64 a, .int .i64 b]) = .returned (.tuple #[.int .i64 p.1, .int .i64 p.2]) := by rw [h]
def RBudgetRel (ls : List LoadD) (l : List PodD) (a b : List Value) (w : World) (v : Value) (wr : World) : Prop := ∃ k : Nat, k ≤ ls.length ∧ v = .int .i64 k ∧ budgetFrom l (ls.drop k) k = budgetOf ls l ∧ T2 a b w wr

set_option maxHeartbeats 6400000 in
set_option maxRecDepth 100000 in
theorem rBudget07_any (ls : List LoadD) (l : List PodD) (A1 A2 A4 : Option Addr) (n1 c1 n2 c2 n4 c4 : Nat) (s3 v1 v2 : Value) (w : World)
    (hn2 : n2 = ls.length) (hl2 : n2 ≤ 400) (hr2 : Recs 5 cellsL w w.heap.size A2 ls) (hn4 : n4 = l.length) (hl4 : n4 ≤ 400) (hr4 : Recs 8 cellsP w w.heap.size A4 l) :
    Calls Tryd.prog 7 #[.agg #[.slice A1 n1 c1, .slice A2 n2 c2, s3], .agg #[.slice A4 n4 c4, v1, v2]] w fun e w' => e = .returned (.tuple #[.int .i64 (budgetOf ls l).1, .int .i64 (budgetOf ls l).2]) ∧ Below w.heap.size w w' := by
  have T0 := T2.new w [.slice A1 n1 c1, .slice A2 n2 c2, s3] [.slice A4 n4 c4, v1, v2] 26 31
  have HN2 := Lib.hid hn2
  have HR2 := Lib.hid hr2
  have HC := Lib.hid (fun (V : World) (hV : Below w.heap.size w V) (id : Int) => rSize07_any l id A4 n4 c4 v1 v2 V hn4 (by omega) ((hr4.below hV (Nat.le_refl _)).more hV.size))
  have HQ := Lib.hid (fun (id : Int) => (show sizeD id l ≤ 400 by have := size_le9 id l; omega))
  have HT0 := Lib.hid T0
  clear hr2 hn2 hr4 hn4 T0
  go_enter Tryd.func7, Tryd.ntmps7
  go_wp2
  go_loopw [6] (RBudgetRel ls l [.slice A1 n1 c1, .slice A2 n2 c2, s3] [.slice A4 n4 c4, v1, v2] w) (fun v _ => n2 - (intOf v).toNat)
  case atStart => exact ⟨0, by omega, rfl, rfl, HT0.out⟩
  case round =>
    obtain ⟨k, hk, rfl, hp, T1⟩ := hrel
    have HP := Lib.hid hp
    have HT1 := Lib.hid T1
    obtain ⟨a0, a1, a2, a3⟩ := T1.one.cells3
    obtain ⟨b0, b1, b2, b3⟩ := T1.two.cells3
    have kwr := T1.below
    clear hp
    by_cases hlt : k < n2
    · have hkl : k < ls.length := by have := HN2.out; omega
      obtain ⟨b, o, rfl, hb, he⟩ := HR2.out.at hkl
      generalize hx : ls[k] = x at *
      have HX := Lib.hid (budgetFrom_at hkl hx HP.out)
      clear hx
      have e0 : wr.cell? ⟨b, o + k * 5, none⟩ = some (.int .i64 x.id) := (kwr.cell (p := ⟨b, o + k * 5, none⟩) hb).trans (he 0 _ rfl)
      have hbw : b < wr.heap.size := Nat.lt_of_lt_of_le hb kwr.size
      have HE3 : Hid (∀ V, Below wr.heap.size wr V → V.cell? ⟨b, o + k * 5 + 3, none⟩ = some (.int .i64 x.min) ∧ V.cell? ⟨b, o + k * 5 + 4, none⟩ = some (.int .i64 x.max)) := fun V hV => ⟨(hV.cell (p := ⟨b, o + k * 5 + 3, none⟩) hbw).trans ((kwr.cell (p := ⟨b, o + k * 5 + 3, none⟩) hb).trans (he 3 _ rfl)), (hV.cell (p := ⟨b, o + k * 5 + 4, none⟩) hbw).trans ((kwr.cell (p := ⟨b, o + k * 5 + 4, none⟩) hb).trans (he 4 _ rfl))⟩
      have HCW : Hid (∀ V : World, Keeps wr V → Calls Tryd.prog 11 #[.agg #[.slice A4 n4 c4, v1, v2], .int .i64 x.id] V fun e w' => e = .returned (.int .i64 (sizeD x.id l : Nat)) ∧ Below V.heap.size V w') := fun V hV => HC.out V (HT1.out.below.trans (hV.2.mono HT1.out.below.size)) x.id
      have hq := HQ.out x.id
      generalize sizeD x.id l = z at *
      clear he T1 kwr
      go_wp2_with fail
      go_region_held3 (fun w' => (∀ b o, b < wr.heap.size → w'.cell? ⟨b, o, none⟩ = wr.cell? ⟨b, o, none⟩) ∧ Below wr.heap.size wr w')
        (first | (with_reducible assumption) | (show Keeps wr _; with_reducible (repeat (first | exact Keeps.refl _ | assumption | refine Keeps.drew ?_ | refine Keeps.alloc ?_ _ | refine Keeps.step ?_ (by assumption)))))
        (first | (go_at_call 11; refine (HCW.out _ (by assumption)).mono ?_; rintro e w' ⟨rfl, hb⟩))
      rename_i hK
      have TV := HT1.out.keep hK.2
      have HTV := Lib.hid TV
      have kV := TV.below
      obtain ⟨e3, e4⟩ := HE3.out _ hK.2
      have hbV : b < w'.heap.size := Nat.lt_of_lt_of_le hbw hK.2.size
      clear hK a0 a1 a2 a3 b0 b1 b2 b3 HCW e0 hbw
      obtain ⟨a0, a1, a2, a3⟩ := TV.one.cells3
      clear TV
      by_cases h1 : (z : Int) < x.min
      · have d1 : decide ((z : Int) < x.min) = true := decide_eq_true h1
        have HN := Lib.hid (HX.out.1 (by rw [fault9_few h1]; decide))
        rw [fault9_few h1] at HN
        clear h1
        go_wp2
        go_ret2
        exact ⟨ret_pair9 HN.out, kV⟩
      · have d1 : decide ((z : Int) < x.min) = false := decide_eq_false h1
        by_cases h2 : x.max < (z : Int)
        · have d2 : decide (x.max < (z : Int)) = true := decide_eq_true h2
          have HN := Lib.hid (HX.out.1 (by rw [fault9_many h1 h2]; decide))
          rw [fault9_many h1 h2] at HN
          clear h1 h2
          go_wp2
          go_ret2
          exact ⟨ret_pair9 HN.out, kV⟩
        · have d2 : decide (x.max < (z : Int)) = false := decide_eq_false h2
          have HN := Lib.hid (HX.out.2 (fault9_none h1 h2))
          clear h1 h2
          go_wp2
          go_roundw
          case rel => exact ⟨k + 1, by omega, by go_num, HN.out, HTV.out⟩
          case measure => simp [intOf]; omega
    · have HE := Lib.hid (budgetFrom_end (by have := HN2.out; omega) HP.out)
      clear T1
      go_wp2
      go_ret2
      exact ⟨ret_pair9 HE.out, kwr⟩
end Go.Proofs.YtokghlmccecpfaaDoor

namespace Go.Proofs.YtokghlmccecpfaaDoor
set_option linter.unusedSimpArgs false
open Go.RowKit
set_option linter.unusedVariables false

theorem few09 {n1 n2 n3 n4 n5 : Nat} (h : few05 n1 n2 n3 n4 n5 = true) : n1 ≤ 40 ∧ n2 ≤ 40 ∧ n3 ≤ 40 ∧ n4 ≤ 40 ∧ n5 ≤ 40 := by
  simp [few05] at h
  omega

set_option maxHeartbeats 25600000 in
set_option maxRecDepth 100000 in
theorem budgetTells_in (s : SnapD) (x : SpecD) (t : StateD) (load : Int) (A1 A2 A3 A4 A5 : Option Addr) (n1 c1 n2 c2 n3 c3 n4 c4 n5 c5 : Nat) (w : World) (hg : Laid w)
    (hn2 : n2 = s.loads.length) (hr2 : Recs 5 cellsL w w.heap.size A2 s.loads) (hn4 : n4 = t.pods.length) (hr4 : Recs 8 cellsP w w.heap.size A4 t.pods) :
    Calls Tryd.prog 3 #[.agg #[.slice A1 n1 c1, .slice A2 n2 c2, .slice A3 n3 c3], .agg #[.slice A5 n5 c5, .int .i64 x.preempts, .int .i64 x.shifts], .agg #[.slice A4 n4 c4, .int .i64 t.preempts, .int .i64 t.shifts], .int .i64 load] w fun e w' => e = .returned (.bool true) ∧ Below w.heap.size w w' := by
  have T0 := T3.new w [.slice A1 n1 c1, .slice A2 n2 c2, .slice A3 n3 c3] [.slice A5 n5 c5, .int .i64 x.preempts, .int .i64 x.shifts] [.slice A4 n4 c4, .int .i64 t.preempts, .int .i64 t.shifts] 26 29 31
  have HG := Lib.hid (fun (V : World) (hV : Below w.heap.size w V) => Laid.below hg hV (Nat.le_refl _))
  have HR2 := Lib.hid (fun (V : World) (hV : Below w.heap.size w V) => (hr2.below hV (Nat.le_refl _)).more hV.size)
  have HR4 := Lib.hid (fun (V : World) (hV : Below w.heap.size w V) => (hr4.below hV (Nat.le_refl _)).more hV.size)
  have HUP := Lib.hid (up09_any _ (HG.out _ T0.below))
  have HN2 := Lib.hid hn2
  have HN4 := Lib.hid hn4
  clear hg hr2 hr4 hn2 hn4
  go_enter Tryd.func3, Tryd.ntmps3
  go_wp2_with fail
  refine HUP.out.mono ?_
  rintro e w1 ⟨rfl, hb1⟩
  have T1 := T0.keep hb1
  clear hb1 T0 HUP
  obtain ⟨a0, a1, a2, a3⟩ := T1.one.cells3
  obtain ⟨b0, b1, b2, b3⟩ := T1.two.cells3
  obtain ⟨d0, d1, d2, d3⟩ := T1.three.cells3
  go_wp2_with fail
  refine (few05_any _ _ _ _ _ _ _ _ _ _ _ _ _ _ _ _ _ _ _ _).mono ?_
  rintro e w2 ⟨rfl, hb2⟩
  have T2' := T1.keep hb2
  have kw := T2'.below
  clear hb2 T1 a0 a1 a2 a3 b0 b1 b2 b3 d0 d1 d2 d3
  cases hfew : few05 n1 n2 n3 n5 n4 with
  | false =>
    clear hfew T2'
    go_wp2
    go_ret
    exact ⟨rfl, kw⟩
  | true =>
    obtain ⟨hl1, hl2, hl3, hl5, hl4⟩ := few09 hfew
    have HT0 := Lib.hid T2'
    have HBU := Lib.hid (fun W (hW : Below w.heap.size w W) => rBudget07_any s.loads t.pods A1 A2 A4 n1 c1 n2 c2 n4 c4 (.slice A3 n3 c3) (.int .i64 t.preempts) (.int .i64 t.shifts) W HN2.out (by omega) (HR2.out W hW) HN4.out (by omega) (HR4.out W hW))
    have HCH := Lib.hid (fun W (hW : Below w.heap.size w W) => budgetCheck_any s.loads t.pods A1 A2 A4 n1 c1 n2 c2 n4 c4 (.slice A3 n3 c3) (.int .i64 t.preempts) (.int .i64 t.shifts) W HN2.out (by omega) (HR2.out W hW) HN4.out (by omega) (HR4.out W hW))
    have HSZ := Lib.hid (fun W (hW : Below w.heap.size w W) => budgetSize_any t.pods load A4 n4 c4 (.int .i64 t.preempts) (.int .i64 t.shifts) W HN4.out (by omega) (HR4.out W hW))
    have HRS := Lib.hid (fun W (hW : Below w.heap.size w W) => rSize07_any t.pods load A4 n4 c4 (.int .i64 t.preempts) (.int .i64 t.shifts) W HN4.out (by omega) (HR4.out W hW))
    have HKW := Lib.hid kw
    have HTD := Lib.hid (fun (V W : World) (u : Value) (hV : Below w.heap.size w V) (hW : Below w.heap.size w W) (B : Nat) (hu : ErrIs (budgetOf s.loads t.pods) B V u) (hb : Below V.heap.size V W) => told_any (budgetOf s.loads t.pods) B u W (HG.out W hW) (hu.below hb))
    clear hfew kw hl1 hl2 hl3 hl4 hl5
    generalize budgetOf s.loads t.pods = bo at *
    obtain ⟨bad, at9⟩ := bo
    generalize sizeD load t.pods = z at *
    obtain ⟨a0, a1, a2, a3⟩ := T2'.one.cells3
    obtain ⟨d0, d1, d2, d3⟩ := T2'.three.cells3
    clear T2'
    go_wp2_with fail
    refine (HBU.out _ HKW.out).mono ?_
    rintro e w3 ⟨rfl, hb3⟩
    have T3' := HT0.out.keep hb3
    have HT3 := Lib.hid T3'
    clear hb3 HBU HT0 HKW a0 a1 a2 a3 d0 d1 d2 d3
    obtain ⟨b0, b1, b2, b3⟩ := T3'.two.cells3
    obtain ⟨d0, d1, d2, d3⟩ := T3'.three.cells3
    clear T3'
    go_wp2_with fail
    refine (rUsed07_any A4 A5 n4 c4 n5 c5 _ _ _ _ _).mono ?_
    rintro e w4 ⟨rfl, hb4⟩
    have T4 := HT3.out.keep hb4
    have HT4 := Lib.hid T4
    clear hb4 HT3 b0 b1 b2 b3 d0 d1 d2 d3
    obtain ⟨b0, b1, b2, b3⟩ := T4.two.cells3
    obtain ⟨d0, d1, d2, d3⟩ := T4.three.cells3
    clear T4
    go_wp2_with fail
    refine (budgetUsed_any A4 A5 n4 c4 n5 c5 _ _ _ _ _).mono ?_
    rintro e w5 ⟨rfl, hb5⟩
    have T5 := HT4.out.keep hb5
    have HT5 := Lib.hid T5
    have kw5 := T5.below
    clear hb5 HT4 b0 b1 b2 b3 d0 d1 d2 d3
    obtain ⟨a0, a1, a2, a3⟩ := T5.one.cells3
    obtain ⟨d0, d1, d2, d3⟩ := T5.three.cells3
    clear T5
    have hn15 : ∀ W, (binOp .neq 38 (.iface 40 (.int .i64 15)) (.iface 40 (.int .i64 15))).run Tryd.prog W = .ok (.bool false) W := fun _ => by kernel_rfl
    have HCW : Hid (∀ V : World, Keeps w5 V → Calls Tryd.prog 13 #[.agg #[.slice A1 n1 c1, .slice A2 n2 c2, .slice A3 n3 c3], .agg #[.slice A4 n4 c4, .int .i64 t.preempts, .int .i64 t.shifts]] V (ErrTo (bad, at9) V)) := fun V hV => HCH.out V (kw5.trans (hV.2.mono kw5.size))
    have HSW : Hid (∀ V : World, Keeps w5 V → Calls Tryd.prog 10 #[.agg #[.slice A4 n4 c4, .int .i64 t.preempts, .int .i64 t.shifts], .int .i64 load] V fun e w' => e = .returned (.int .i64 (z : Nat)) ∧ Below V.heap.size V w') := fun V hV => HSZ.out V (kw5.trans (hV.2.mono kw5.size))
    have HRW : Hid (∀ V : World, Keeps w5 V → Calls Tryd.prog 11 #[.agg #[.slice A4 n4 c4, .int .i64 t.preempts, .int .i64 t.shifts], .int .i64 load] V fun e w' => e = .returned (.int .i64 (z : Nat)) ∧ Below V.heap.size V w') := fun V hV => HRS.out V (kw5.trans (hV.2.mono kw5.size))
    have HTW : Hid (∀ (V W : World) (u : Value) (B : Nat), Keeps w5 V → ErrIs (bad, at9) B V u → Keeps V W → Calls Tryd.prog 12 #[u, .int .i64 bad, .int .i64 at9] W fun e w' => e = .returned (.bool true) ∧ Below W.heap.size W w') := fun V W u B hV hu hW =>
      HTD.out V W u (kw5.trans (hV.2.mono kw5.size)) ((kw5.trans (hV.2.mono kw5.size)).trans (hW.2.mono (kw5.trans (hV.2.mono kw5.size)).size)) B hu hW.2
    have hund : undef = Value.tuple #[] := rfl
    clear HCH HSZ HRS HTD
    cases hu9 : usedD x.preempts x.shifts t.preempts t.shifts
    all_goals
      first | rw [show usedV false = .nilIface from rfl] | rw [show usedV true = .iface 40 (.int .i64 15) from rfl]
      clear hu9
      go_wp2
      go_region_held3 (fun w' => (∀ b o, b < w5.heap.size → w'.cell? ⟨b, o, none⟩ = w5.cell? ⟨b, o, none⟩) ∧ Below w5.heap.size w5 w')
        (first | (with_reducible assumption) | (show Keeps w5 _; with_reducible (repeat (first | exact Keeps.refl _ | assumption | refine Keeps.drew ?_ | refine Keeps.alloc ?_ _ | refine Keeps.step ?_ (by assumption)))))
        (first
          | (go_at_call 10; refine (HSW.out _ (by assumption)).mono ?_; rintro e w6 ⟨rfl, hb6⟩)
          | (go_at_call 11; refine (HRW.out _ (by assumption)).mono ?_; rintro e w7 ⟨rfl, hb7⟩)
          | (go_at_call 13; refine (HCW.out _ (by assumption)).mono ?_; rintro e w8 ⟨u8, rfl, hu8, hb8⟩; have hk8 : Keeps w5 w8 := Keeps.step (by assumption) hb8)
          | (go_at_call 12; refine (HTW.out _ _ _ _ hk8 hu8 (by with_reducible (repeat (first | exact Keeps.refl _ | refine Keeps.drew ?_)))).mono ?_; rintro e w9 ⟨rfl, hb9⟩))
      rename_i hK
      have kV := kw5.trans (hK.2.mono kw5.size)
      clear hK
      go_wp2
      go_ret
      exact ⟨rfl, kV⟩
end Go.Proofs.YtokghlmccecpfaaDoor
