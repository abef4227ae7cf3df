/- Joined texts, part 4: RO FM MC UA UO YO XO M A L. -/
import Derived.Test.YtiinnoahopnkcaaGreatDoorZ01
import Derived.Test.YtiinnoahopnkcaaGreatDoorZ02
import Derived.Test.YtiinnoahopnkcaaGreatDoorZ03
import Derived.Deep.QuietTactic
import Derived.BigQuiet
import Derived.ChangeSame
import Derived.ChangeVars
import Derived.JoinedOf
import Derived.RowKit
import Derived.RowKitTokens
import Derived.Carry
import Derived.ChangeSlices
import Derived.KernelRfl
import Derived.Test.YtiinnoahopnkcaaGreatDoorRows
import Derived.WalkKit
import Derived.WalkSpells
import Derived.WalkLawsBesides
import Derived.Lib.Hide
import Derived.OwnWalk
import Derived.Laws.AppendOwnNone
import Derived.Laws.BytesArg
import Derived.Laws.BitsAllLaws
import Derived.Laws.Bits128

/- Records in a row of the call's own read as these records. -/
namespace Go.Proofs.YtiinnoahopnkcaaGreatDoor
set_option linter.unusedSimpArgs false
open Go.RowKit
set_option linter.unusedVariables false

theorem flatMap_get {α : Type} {size : Nat} {cells : α → List Value} (hc : ∀ x, (cells x).length = size) : ∀ {xs : List α} {i j : Nat} (hi : i < xs.length), j < size → (xs.flatMap cells)[i * size + j]? = (cells xs[i])[j]?
  | [], i, j, hi, _ => by simp at hi
  | x :: r, 0, j, _, hj => by
    rw [List.flatMap_cons, Nat.zero_mul, Nat.zero_add, List.getElem?_append_left (by rw [hc]; exact hj)]; rfl
  | x :: r, i + 1, j, hi, hj => by
    rw [List.flatMap_cons, List.getElem?_append_right (by rw [hc, Nat.add_one_mul]; omega), hc]
    have e : (i + 1) * size + j - size = i * size + j := by rw [Nat.add_one_mul]; omega
    rw [e, flatMap_get hc (xs := r) (by simpa using hi) hj]; rfl
theorem recs_of_own {α : Type} {size : Nat} {cells : α → List Value} (hc : ∀ x, (cells x).length = size) {w : World} {B n : Nat} {e : TypeId} {v : Value} {xs : List α} (hn : n = xs.length) (h : w.ownsRow B e size v n (xs.flatMap cells)) :
    ∃ A c, v = .slice A n c ∧ n ≤ c ∧ c ≤ maxLen ∧ (A = none → c = 0) ∧ Recs size cells w w.heap.size A xs := by
  subst hn
  have hcs := fun g hg => h.cells (g := g) hg
  rcases h.2 with ⟨hv, h0⟩ | ⟨g, cap, cur, hv, hb, hg, hnc, hm, _⟩
  · exact ⟨none, 0, by rw [hv, h0], by omega, by decide, fun _ => rfl, .inl (List.eq_nil_of_length_eq_zero h0)⟩
  · refine ⟨_, cap, hv, hnc, hm, (by intro h; cases h), .inr ⟨g, 0, rfl, (Array.getElem?_eq_some_iff.1 hg).1, fun i hi j u hu => ?_⟩⟩
    have hj : j < size := by have := (List.getElem?_eq_some_iff.1 hu).1; rw [hc] at this; exact this
    have := hcs g (by rw [hv]; rfl) (i * size + j) u (by rw [flatMap_get hc hi hj]; exact hu)
    rw [Addr.add_lit] at this
    simpa using this
/-- Records as they are told: a slice that reads as these. -/
def Out {α : Type} (size : Nat) (cells : α → List Value) (w : World) (xs : List α) (A : Option Addr) (c : Nat) : Prop := xs.length ≤ c ∧ c ≤ maxLen ∧ (A = none → c = 0) ∧ Recs size cells w w.heap.size A xs
theorem Out.nil {α : Type} {size : Nat} {cells : α → List Value} {w : World} {xs : List α} (h : xs = []) : Out size cells w xs none 0 := ⟨by rw [h]; exact Nat.le_refl _, by decide, fun _ => rfl, .inl h⟩
theorem out_of_own {α : Type} {size : Nat} {cells : α → List Value} (hc : ∀ x, (cells x).length = size) {w : World} {B n c : Nat} {e : TypeId} {A : Option Addr} {xs : List α} (hn : n = xs.length) (h : w.ownsRow B e size (.slice A n c) n (xs.flatMap cells)) : Out size cells w xs A c := by
  obtain ⟨A', c', e1, p1, p2, p3, p4⟩ := recs_of_own hc hn h
  injection e1 with e1 _ e2
  subst e1 e2 hn
  exact ⟨p1, p2, p3, p4⟩
theorem Out.recs {α : Type} {size : Nat} {cells : α → List Value} {w : World} {xs : List α} {A : Option Addr} {c : Nat} (h : Out size cells w xs A c) : Recs size cells w w.heap.size A xs := h.2.2.2
end Go.Proofs.YtiinnoahopnkcaaGreatDoor

/- Plain mathematics of layer 4: records as numbers, one behind the other, and back; no program stands in it. -/
namespace Go.Proofs.YtiinnoahopnkcaaGreatDoor
set_option linter.unusedSimpArgs false

structure MoveD where
  kind : Int
  pod : Int
  node : Int
  over : Int

/-- A kind of record: how many numbers it has, what they are, and back; which numbers may be one's. -/
structure Kind (α : Type) where
  size : Nat
  nums : α → List Int
  get : List Int → α
  ok : List Int → Bool
  len : ∀ x, (nums x).length = size
  back : ∀ x, get (nums x) = x
  once : ∀ c, c.length = size → ok c = true → nums (get c) = c

section
variable {α : Type} (K : Kind α)
def parse : Nat → List Int → List α
  | 0, _ => []
  | n + 1, l => K.get (l.take K.size) :: parse n (l.drop K.size)
def fine : Nat → List Int → Bool
  | 0, _ => true
  | n + 1, l => K.ok (l.take K.size) && fine n (l.drop K.size)
theorem parse_length : ∀ (n : Nat) (l : List Int), (parse K n l).length = n
  | 0, _ => rfl
  | n + 1, l => by simp [parse, parse_length n]
/-- What was written is read as it was. -/
theorem parse_flat : ∀ (xs : List α) (rest : List Int), parse K xs.length (xs.flatMap K.nums ++ rest) = xs
  | [], rest => rfl
  | x :: r, rest => by
    have e : (x :: r).flatMap K.nums ++ rest = K.nums x ++ (r.flatMap K.nums ++ rest) := by simp
    show parse K (r.length + 1) _ = _
    rw [e, parse, List.take_left' (K.len x), List.drop_left' (K.len x), K.back, parse_flat r rest]
/-- What is read is written as it was. -/
theorem flat_parse : ∀ (n : Nat) (l : List Int), n * K.size ≤ l.length → fine K n l = true → (parse K n l).flatMap K.nums = l.take (n * K.size)
  | 0, l, _, _ => by simp [parse]
  | n + 1, l, hl, hf => by
    simp only [fine, Bool.and_eq_true] at hf
    have hs : K.size ≤ l.length := by rw [Nat.add_one_mul] at hl; omega
    have h1 := K.once (l.take K.size) (by simp; omega) hf.1
    have h2 := flat_parse n (l.drop K.size) (by rw [List.length_drop]; rw [Nat.add_one_mul] at hl; omega) hf.2
    simp only [parse, List.flatMap_cons, h1, h2]
    rw [Nat.add_one_mul, Nat.add_comm, List.take_add]
theorem flat_length (xs : List α) : (xs.flatMap K.nums).length = xs.length * K.size := by
  induction xs with
  | nil => simp
  | cons x r ih => simp only [List.flatMap_cons, List.length_append, List.length_cons, ih, K.len, Nat.add_one_mul]; omega
theorem parse_get : ∀ (n : Nat) (l : List Int) (i : Nat) (h : i < n), (parse K n l)[i]'(by rw [parse_length]; exact h) = K.get ((l.drop (i * K.size)).take K.size)
  | 0, _, _, h => by omega
  | n + 1, l, 0, _ => by simp [parse]
  | n + 1, l, i + 1, h => by
    have := parse_get n (l.drop K.size) i (by omega)
    simp only [parse, List.getElem_cons_succ, this, List.drop_drop, Nat.add_one_mul]
    rw [Nat.add_comm]
theorem fine_iff : ∀ (n : Nat) (l : List Int), fine K n l = true ↔ ∀ i, i < n → K.ok ((l.drop (i * K.size)).take K.size) = true
  | 0, l => by simp [fine]
  | n + 1, l => by
    simp only [fine, Bool.and_eq_true, fine_iff n]
    constructor
    · rintro ⟨h1, h2⟩ i hi
      cases i with
      | zero => simpa using h1
      | succ i =>
        have := h2 i (by omega)
        rw [List.drop_drop] at this
        rwa [Nat.add_one_mul, Nat.add_comm]
    · intro h
      refine ⟨by simpa using h 0 (by omega), fun i hi => ?_⟩
      have := h (i + 1) (by omega)
      rw [List.drop_drop]
      rwa [Nat.add_one_mul, Nat.add_comm] at this
end

def truthN (b : Bool) : Int := if b then 1 else 0
def smallN (n : Int) : Bool := decide (n ≤ 2147483647)
def bitN (n : Int) : Bool := decide (n = 0 ∨ n = 1)
theorem truth_back (b : Bool) : (truthN b == 1) = b := by cases b <;> rfl
theorem truth_once {n : Int} (h : bitN n = true) : truthN (n == 1) = n := by
  unfold bitN at h
  rcases of_decide_eq_true h with h | h <;> subst h <;> rfl

theorem take_5 {l : List Int} (h : l.length = 5) : ∃ a b c d e, l = [a, b, c, d, e] := by
  match l, h with
  | [a, b, c, d, e], _ => exact ⟨a, b, c, d, e, rfl⟩
theorem take_4 {l : List Int} (h : l.length = 4) : ∃ a b c d, l = [a, b, c, d] := by
  match l, h with
  | [a, b, c, d], _ => exact ⟨a, b, c, d, rfl⟩
theorem take_6 {l : List Int} (h : l.length = 6) : ∃ a b c d e f, l = [a, b, c, d, e, f] := by
  match l, h with
  | [a, b, c, d, e, f], _ => exact ⟨a, b, c, d, e, f, rfl⟩
theorem take_8 {l : List Int} (h : l.length = 8) : ∃ a b c d e f g i, l = [a, b, c, d, e, f, g, i] := by
  match l, h with
  | [a, b, c, d, e, f, g, i], _ => exact ⟨a, b, c, d, e, f, g, i, rfl⟩
theorem take_10 {l : List Int} (h : l.length = 10) : ∃ a b c d e f g i j k, l = [a, b, c, d, e, f, g, i, j, k] := by
  match l, h with
  | [a, b, c, d, e, f, g, i, j, k], _ => exact ⟨a, b, c, d, e, f, g, i, j, k, rfl⟩

def nodeK : Kind NodeD where
  size := 10
  nums n := [n.id, n.zone, n.cap.a, n.cap.b, n.cap.c, n.cap.d, n.held.a, n.held.b, n.held.c, n.held.d]
  get c := ⟨c.getD 0 0, c.getD 1 0, ⟨c.getD 2 0, c.getD 3 0, c.getD 4 0, c.getD 5 0⟩, ⟨c.getD 6 0, c.getD 7 0, c.getD 8 0, c.getD 9 0⟩⟩
  ok c := smallN (c.getD 0 0) && smallN (c.getD 1 0)
  len _ := rfl
  back _ := rfl
  once c h _ := by obtain ⟨a, b, c, d, e, f, g, i, j, k, rfl⟩ := take_10 h; rfl
def loadK : Kind LoadD where
  size := 5
  nums l := [l.id, truthN l.apart, l.skew, l.min, l.max]
  get c := ⟨c.getD 0 0, c.getD 1 0 == 1, c.getD 2 0, c.getD 3 0, c.getD 4 0⟩
  ok c := smallN (c.getD 0 0) && (smallN (c.getD 2 0) && (smallN (c.getD 3 0) && (smallN (c.getD 4 0) && bitN (c.getD 1 0))))
  len _ := rfl
  back l := by obtain ⟨a, b, c, d, e⟩ := l; simp [truth_back]
  once c h ho := by
    obtain ⟨a, b, c, d, e, rfl⟩ := take_5 h
    simp only [Bool.and_eq_true] at ho
    have := truth_once ho.2.2.2.2
    simp at this ⊢
    exact this
def podK : Kind PodD where
  size := 8
  nums p := [p.id, p.load, p.prio, p.req.a, p.req.b, p.req.c, p.req.d, p.node]
  get c := ⟨c.getD 0 0, c.getD 1 0, c.getD 2 0, ⟨c.getD 3 0, c.getD 4 0, c.getD 5 0, c.getD 6 0⟩, c.getD 7 0⟩
  ok c := smallN (c.getD 0 0) && (smallN (c.getD 1 0) && (smallN (c.getD 2 0) && smallN (c.getD 7 0)))
  len _ := rfl
  back _ := rfl
  once c h _ := by obtain ⟨a, b, c, d, e, f, g, i, rfl⟩ := take_8 h; rfl
def wantK : Kind WantD where
  size := 6
  nums x := [x.pod, x.req.a, x.req.b, x.req.c, x.req.d, truthN x.stay]
  get c := ⟨c.getD 0 0, ⟨c.getD 1 0, c.getD 2 0, c.getD 3 0, c.getD 4 0⟩, c.getD 5 0 == 1⟩
  ok c := smallN (c.getD 0 0) && bitN (c.getD 5 0)
  len _ := rfl
  back x := by obtain ⟨a, b, c⟩ := x; simp [truth_back]
  once c h ho := by
    obtain ⟨a, b, c, d, e, f, rfl⟩ := take_6 h
    simp only [Bool.and_eq_true] at ho
    have := truth_once ho.2
    simp at this ⊢
    exact this
def moveK : Kind MoveD where
  size := 4
  nums m := [m.kind, m.pod, m.node, m.over]
  get c := ⟨c.getD 0 0, c.getD 1 0, c.getD 2 0, c.getD 3 0⟩
  ok c := smallN (c.getD 0 0) && (smallN (c.getD 1 0) && (smallN (c.getD 2 0) && smallN (c.getD 3 0)))
  len _ := rfl
  back _ := rfl
  once c h _ := by obtain ⟨a, b, c, d, rfl⟩ := take_4 h; rfl

def snapNums (s : SnapD) : List Int := [(s.nodes.length : Int), (s.loads.length : Int), (s.pods.length : Int)] ++ (s.nodes.flatMap nodeK.nums ++ (s.loads.flatMap loadK.nums ++ s.pods.flatMap podK.nums))
def specNums (x : SpecD) : List Int := [(x.wants.length : Int), x.preempts, x.shifts] ++ x.wants.flatMap wantK.nums
def moveNums (m : List MoveD) : List Int := (m.length : Int) :: m.flatMap moveK.nums

/-- The snapshot of so many nodes, loads and pods whose numbers these are. -/
def snapOf (a b c : Nat) (l : List Int) : SnapD := ⟨parse nodeK a l, parse loadK b (l.drop (a * 10)), parse podK c (l.drop (a * 10 + b * 5))⟩
def snapFine (a b c : Nat) (l : List Int) : Bool := fine nodeK a l && (fine loadK b (l.drop (a * 10)) && fine podK c (l.drop (a * 10 + b * 5)))
theorem snap_back (s : SnapD) : snapOf s.nodes.length s.loads.length s.pods.length ((snapNums s).drop 3) = s := by
  obtain ⟨n, l, p⟩ := s
  have h1 : (n.flatMap nodeK.nums).length = n.length * 10 := flat_length nodeK n
  have h2 : (l.flatMap loadK.nums).length = l.length * 5 := flat_length loadK l
  have e : (snapNums ⟨n, l, p⟩).drop 3 = n.flatMap nodeK.nums ++ (l.flatMap loadK.nums ++ p.flatMap podK.nums) := rfl
  rw [e]
  show SnapD.mk _ _ _ = _
  simp only []
  rw [parse_flat nodeK n, List.drop_left' h1, parse_flat loadK l, ← List.drop_drop, List.drop_left' h1, List.drop_left' h2]
  have := parse_flat podK p []
  rw [List.append_nil] at this
  rw [this]
theorem snap_once {a b c : Nat} {l : List Int} (hl : l.length = a * 10 + b * 5 + c * 8) (hf : snapFine a b c l = true) : snapNums (snapOf a b c l) = [(a : Int), (b : Int), (c : Int)] ++ l := by
  simp only [snapFine, Bool.and_eq_true] at hf
  have s10 : nodeK.size = 10 := rfl
  have s5 : loadK.size = 5 := rfl
  have s8 : podK.size = 8 := rfl
  have h1 := flat_parse nodeK a l (by rw [s10]; omega) hf.1
  have h2 := flat_parse loadK b (l.drop (a * 10)) (by rw [s5, List.length_drop]; omega) hf.2.1
  have h3 := flat_parse podK c (l.drop (a * 10 + b * 5)) (by rw [s8, List.length_drop]; omega) hf.2.2
  simp only [snapNums, snapOf, parse_length, h1, h2, h3, s10, s5, s8]
  congr 1
  rw [List.take_of_length_le (i := c * 8) (by rw [List.length_drop]; omega), ← List.drop_drop, List.take_append_drop, List.take_append_drop]
theorem spec_back (x : SpecD) : parse wantK x.wants.length ((specNums x).drop 3) = x.wants := by
  have := parse_flat wantK x.wants []
  rw [List.append_nil] at this
  simpa [specNums] using this
theorem spec_once {a : Nat} {p q : Int} {l : List Int} (hl : l.length = a * 6) (hf : fine wantK a l = true) : specNums ⟨parse wantK a l, p, q⟩ = [(a : Int), p, q] ++ l := by
  have s6 : wantK.size = 6 := rfl
  have h := flat_parse wantK a l (by rw [s6]; omega) hf
  simp only [specNums, parse_length, h, s6]
  rw [List.take_of_length_le (by omega)]
theorem move_back (m : List MoveD) : parse moveK m.length ((moveNums m).drop 1) = m := by
  have := parse_flat moveK m []
  rw [List.append_nil] at this
  simpa [moveNums] using this
theorem move_once {a : Nat} {l : List Int} (hl : l.length = a * 4) (hf : fine moveK a l = true) : moveNums (parse moveK a l) = (a : Int) :: l := by
  have s4 : moveK.size = 4 := rfl
  have h := flat_parse moveK a l (by rw [s4]; omega) hf
  simp only [moveNums, parse_length, h, s4]
  rw [List.take_of_length_le (by omega)]
end Go.Proofs.YtiinnoahopnkcaaGreatDoor

/- The cells of a move. -/
namespace Go.Proofs.YtiinnoahopnkcaaGreatDoor
set_option linter.unusedSimpArgs false

abbrev aggM (x : MoveD) : Value := .agg #[.int .i64 x.kind, .int .i64 x.pod, .int .i64 x.node, .int .i64 x.over]
def cellsM (x : MoveD) : List Value := [.int .i64 x.kind, .int .i64 x.pod, .int .i64 x.node, .int .i64 x.over]
end Go.Proofs.YtiinnoahopnkcaaGreatDoor

/- Plain mathematics of states; '!=' of any two pods. -/
namespace Go.Proofs.YtiinnoahopnkcaaGreatDoor
set_option linter.unusedSimpArgs false
open Go.RowKit
set_option linter.unusedVariables false

structure StateD where
  pods : List PodD
  preempts : Int
  shifts : Int
def vecEq (x y : V4) : Bool := x.a == y.a && (x.b == y.b && (x.c == y.c && x.d == y.d))
def podEq (x y : PodD) : Bool := x.id == y.id && (x.load == y.load && (x.prio == y.prio && (vecEq x.req y.req && x.node == y.node)))
theorem vecEq_self (x : V4) : vecEq x x = true := by simp [vecEq]
theorem podEq_self (x : PodD) : podEq x x = true := by simp [podEq, vecEq_self]
theorem vecEq_iff {x y : V4} : vecEq x y = true ↔ x = y := by
  cases x; cases y; simp [vecEq]
theorem podEq_iff {x y : PodD} : podEq x y = true ↔ x = y := by
  cases x; cases y; simp [podEq, vecEq_iff]
/-- Are two lists of pods alike? -/
def podsEq : List PodD → List PodD → Bool
  | [], [] => true
  | x :: r, y :: s => podEq x y && podsEq r s
  | _, _ => false
theorem podsEq_self : ∀ l : List PodD, podsEq l l = true
  | [] => rfl
  | x :: r => by simp [podsEq, podEq_self, podsEq_self r]
theorem podsEq_iff : ∀ {l m : List PodD}, podsEq l m = true ↔ l = m
  | [], [] => by simp [podsEq]
  | [], _ :: _ => by simp [podsEq]
  | _ :: _, [] => by simp [podsEq]
  | x :: r, y :: s => by simp [podsEq, podEq_iff, podsEq_iff (l := r) (m := s)]
theorem podsEq_len : ∀ {l m : List PodD}, l.length ≠ m.length → podsEq l m = false := fun {l m} h => by
  cases e : podsEq l m with
  | false => rfl
  | true => exact absurd (congrArg List.length (podsEq_iff.1 e)) h
def stateEq (t u : StateD) : Bool := podsEq t.pods u.pods && (t.preempts == u.preempts && t.shifts == u.shifts)
theorem stateEq_self (t : StateD) : stateEq t t = true := by simp [stateEq, podsEq_self]
theorem stateEq_iff {t u : StateD} : stateEq t u = true ↔ t = u := by
  cases t; cases u; simp [stateEq, podsEq_iff]
theorem podsEq_at {l m : List PodD} {k : Nat} {b : Bool} (h : k < l.length) (h' : k < m.length) {x y : PodD} (hx : l[k] = x) (hy : m[k] = y) (hp : podsEq (l.drop k) (m.drop k) = b) :
    (podEq x y = false → b = false) ∧ (podEq x y = true → podsEq (l.drop (k + 1)) (m.drop (k + 1)) = b) := by
  rw [List.drop_eq_getElem_cons h, List.drop_eq_getElem_cons h', hx, hy, podsEq] at hp
  constructor
  · intro e; rw [e] at hp; exact hp.symm
  · intro e; rw [e, Bool.true_and] at hp; exact hp
theorem podsEq_end {l m : List PodD} {k : Nat} {b : Bool} (h : l.length ≤ k) (h' : m.length ≤ k) (hp : podsEq (l.drop k) (m.drop k) = b) : b = true := by
  rw [List.drop_of_length_le h, List.drop_of_length_le h'] at hp
  exact hp.symm
/-- The first pod of an Id. -/
def podAt (id : Int) : List PodD → Option PodD
  | [] => none
  | x :: r => if x.id = id then some x else podAt id r
theorem podAt_none {id : Int} : ∀ {l : List PodD} {k : Int}, 0 ≤ k → (podAt id l = none ↔ place PodD.id id l k < 0)
  | [], k, _ => by simp [podAt, place]
  | x :: r, k, hk => by
    by_cases h : x.id = id
    · simp [podAt, place, h]; omega
    · simp only [podAt, place, if_neg h]; exact podAt_none (by omega)
theorem place_or {α : Type} {f : α → Int} {id : Int} : ∀ (r : List α) (k : Int), 0 ≤ k → place f id r k < 0 ∨ k ≤ place f id r k
  | [], _, _ => by simp [place]
  | x :: r, k, hk => by
    simp only [place]
    split
    · right; omega
    · rcases place_or r (k + 1) (by omega) with h | h
      · exact .inl h
      · exact .inr (by omega)
theorem podAt_some {id : Int} : ∀ {l : List PodD} {k : Int} {i : Nat} (hi : i < l.length), place PodD.id id l k = k + i → 0 ≤ k → podAt id l = some l[i]
  | [], _, _, hi, _, _ => by simp at hi
  | x :: r, k, i, hi, h, hk => by
    by_cases hx : x.id = id
    · simp only [place, if_pos hx] at h
      obtain rfl : i = 0 := by omega
      simp [podAt, hx]
    · simp only [place, if_neg hx] at h
      cases i with
      | zero =>
        have := (place_neg (f := PodD.id) (id := id) (l := r) (k := k + 1) (by omega))
        have h2 := place_ge (f := PodD.id) (id := id) (l := r) (k := k + 1) (by omega)
        have h3 : place PodD.id id r (k + 1) < 0 ∨ k + 1 ≤ place PodD.id id r (k + 1) := place_or r (k + 1) (by omega)
        omega
      | succ i =>
        simp only [podAt, if_neg hx, List.getElem_cons_succ]
        exact podAt_some (by simpa using hi) (by rw [h]; omega) (by omega)
/-- Is a want met? -/
def metD (l : List PodD) (w : WantD) : Bool :=
  match podAt w.pod l with
  | none => false
  | some p => if w.stay then p.node != 0 && vecEq p.req w.req else p.node == 0
def goalD (x : List WantD) (l : List PodD) : Bool := x.all (metD l)
theorem goal_at {x : List WantD} {l : List PodD} {k : Nat} {b : Bool} (h : k < x.length) {w : WantD} (hx : x[k] = w) (hg : goalD (x.drop k) l = b) :
    (metD l w = false → b = false) ∧ (metD l w = true → goalD (x.drop (k + 1)) l = b) := by
  rw [List.drop_eq_getElem_cons h, hx, goalD, List.all_cons] at hg
  constructor
  · intro e; rw [e] at hg; exact hg.symm
  · intro e; rw [e, Bool.true_and] at hg; exact hg
theorem goal_end {x : List WantD} {l : List PodD} {k : Nat} {b : Bool} (h : x.length ≤ k) (hg : goalD (x.drop k) l = b) : b = true := by
  rw [List.drop_of_length_le h] at hg
  exact hg.symm
theorem met_none {l : List PodD} {w : WantD} (h : place PodD.id w.pod l 0 < 0) : metD l w = false := by
  rw [metD, (podAt_none (l := l) (k := 0) (by omega)).2 h]
theorem met_some {l : List PodD} {w : WantD} {i : Nat} (hi : i < l.length) (h : place PodD.id w.pod l 0 = i) {p : PodD} (hp : l[i] = p) : metD l w = if w.stay then p.node != 0 && vecEq p.req w.req else p.node == 0 := by
  rw [metD, podAt_some (l := l) (k := 0) hi (by rw [h]; omega) (by omega), hp]

theorem eqFields_cons {d : Nat} {xs ys : Array Value} {f : Field} {fs : List Field} {a b : Value} {c : Bool} {w : World} (hn : f.name ≠ "_") (ha : (part f.type xs f.offset).run Tryz.prog w = .ok a w) (hb : (part f.type ys f.offset).run Tryz.prog w = .ok b w) (he : (Op.equalIn d f.type a b).run Tryz.prog w = .ok c w) {r : Bool} (hr : (Op.eqFields d xs ys fs).run Tryz.prog w = .ok r w) :
    (Op.eqFields d xs ys (f :: fs)).run Tryz.prog w = .ok (c && r) w := by
  cases c <;> simp [Op.eqFields, hn, ha, hb, he, hr]
theorem int_eqIn2 (d : Nat) (a b : Int) (w : World) : (Op.equalIn (d + 1) 3 (.int .i64 a) (.int .i64 b)).run Tryz.prog w = .ok (a == b) w := by
  simp [Op.equalIn, run_underlying Tryz.underlying3]
set_option maxRecDepth 100000 in
theorem pod_eqIn (x y : PodD) (w : World) : (Op.equalIn 10000 68 (aggP x) (aggP y)).run Tryz.prog w = .ok (podEq x y) w := by
  have hf : (Tryz.prog.fieldsOf 68).toList = [(⟨"Id", 3, 0, false, "", "", 0⟩ : Field), (⟨"Load", 3, 1, false, "", "", 8⟩ : Field), (⟨"Prio", 3, 2, false, "", "", 16⟩ : Field), (⟨"Req", 51, 3, false, "", "", 24⟩ : Field), (⟨"Node", 3, 7, false, "", "", 56⟩ : Field)] := by kernel_rfl
  rw [run_equalIn_struct w 9999 68 _ _ (by kernel_rfl) (by kernel_rfl), hf]
  clear hf
  refine (eqFields_cons (a := .int .i64 x.id) (b := .int .i64 y.id) (by decide) (part_int _ 0 _ rfl w) (part_int _ 0 _ rfl w) (int_eqIn2 9998 _ _ w) ?_).trans rfl
  refine (eqFields_cons (a := .int .i64 x.load) (b := .int .i64 y.load) (by decide) (part_int _ 1 _ rfl w) (part_int _ 1 _ rfl w) (int_eqIn2 9998 _ _ w) ?_)
  refine (eqFields_cons (a := .int .i64 x.prio) (b := .int .i64 y.prio) (by decide) (part_int _ 2 _ rfl w) (part_int _ 2 _ rfl w) (int_eqIn2 9998 _ _ w) ?_)
  refine (eqFields_cons (a := .agg #[.int .u64 x.req.a, .int .u64 x.req.b, .int .u64 x.req.c, .int .u64 x.req.d]) (b := .agg #[.int .u64 y.req.a, .int .u64 y.req.b, .int .u64 y.req.c, .int .u64 y.req.d]) (by decide) (part_vec _ 3 _ _ _ _ rfl w) (part_vec _ 3 _ _ _ _ rfl w) (vec_eqlIn 9997 _ _ _ _ _ _ _ _ w) ?_)
  refine (eqFields_cons (a := .int .i64 x.node) (b := .int .i64 y.node) (r := true) (by decide) (part_int _ 7 _ rfl w) (part_int _ 7 _ rfl w) (int_eqIn2 9998 _ _ w) ?_).trans (by rw [Bool.and_true])
  simp [Op.eqFields]
set_option maxRecDepth 100000 in
theorem pod_neq (x y : PodD) (w : World) : (binOp .neq 68 (aggP x) (aggP y)).run Tryz.prog w = .ok (.bool (!podEq x y)) w := by
  rw [run_neq_struct, pod_eqIn]
  rfl
theorem vec_neq (x y : V4) (w : World) : (binOp .neq 51 (aggV x) (aggV y)).run Tryz.prog w = .ok (.bool (!vecEq x y)) w := by
  simp only [binOp]
  simp [Op.equal, Op.maxDepth, vec_eqlIn 9998, vecEq]
theorem vec_is (x y : V4) (w : World) : (binOp .eql 51 (aggV x) (aggV y)).run Tryz.prog w = .ok (.bool (vecEq x y)) w := vec_eql _ _ _ _ _ _ _ _ w
end Go.Proofs.YtiinnoahopnkcaaGreatDoor

/- How a state is read as data; five arguments. -/
namespace Go.Proofs.YtiinnoahopnkcaaGreatDoor
set_option linter.unusedSimpArgs false
open Go.ChangeShapes Go.WideShapes Go.ChangeAt Go.RowKit

theorem Tryz.cellsT : Tryz.prog.cellsOf 34 = 3 := by kernel_rfl
section
variable {H : Type} {enc : TypeId × Value → H} {w : World} {base : Nat} {sp : Nat → Bool} {held : Bool}
set_option maxRecDepth 100000 in
/-- A state by value. -/
theorem open_state {r : Reach} {b0 : Nat} {v : Value} {d : DataW H} {ps : List MemPlace} (hval : Value.okWide Tryz.prog w r b0 34 v) (h : DataW.Trod enc Tryz.prog w base sp held 34 v d ps) :
    ∃ (t : StateD) (A : Option Addr) (c : Nat), v = .agg #[.slice A t.pods.length c, .int .i64 t.preempts, .int .i64 t.shifts] ∧ I64 t.preempts ∧ I64 t.shifts ∧
      (t.pods.length ≤ c ∧ c ≤ maxLen ∧ (A = none → c = 0) ∧ Recs 8 cellsP w w.heap.size A t.pods ∧ ∀ a ∈ t.pods, a.Ok) := by
  obtain ⟨v0, v1, v2, y0, y1, y2, n, rfl, _, _, h0, h1, h2⟩ := Go.Joins.open_agg3 Tryz.underlying34 (by kernel_rfl) Tryz.cellsT hval h
  obtain ⟨A, c, l, rfl, p⟩ := open_recs (Ok := PodD.Ok) Tryz.underlying24 Tryz.cellsP (by decide) (fun _ _ _ hl h => pod_of hl h) h0
  obtain ⟨k1, rfl, i1⟩ := int_of rfl h1
  obtain ⟨k2, rfl, i2⟩ := int_of rfl h2
  exact ⟨⟨l, k1, k2⟩, A, c, rfl, i1, i2, p⟩
end
section
variable {H : Type} {enc : TypeId × Value → H} {P : Program} {w : World} {base : Nat} {spare : Nat → Bool} {held : Bool}
theorem trodAll_five {t0 t1 t2 t3 t4 : TypeId} {args : Array Value} {ds : List (DataW H)} {ps : List MemPlace} (h : DataW.TrodAll enc P w base spare held [t0, t1, t2, t3, t4] args.toList ds ps) :
    ∃ v0 v1 v2 v3 v4 d0 d1 d2 d3 d4 p0 p1 p2 p3 p4, args = #[v0, v1, v2, v3, v4] ∧ ds = [d0, d1, d2, d3, d4] ∧ ps = p0 ++ p1 ++ p2 ++ p3 ++ p4 ∧ DataW.Trod enc P w base spare held t0 v0 d0 p0 ∧ DataW.Trod enc P w base spare held t1 v1 d1 p1 ∧ DataW.Trod enc P w base spare held t2 v2 d2 p2 ∧ DataW.Trod enc P w base spare held t3 v3 d3 p3 ∧ DataW.Trod enc P w base spare held t4 v4 d4 p4 := by
  obtain ⟨v0, vs0, d0, ds0, p0, q0, hargs, rfl, rfl, hd0, hrest0⟩ := trodAll_cons h
  obtain ⟨v1, vs1, d1, ds1, p1, q1, rfl, rfl, rfl, hd1, hrest1⟩ := trodAll_cons hrest0
  obtain ⟨v2, vs2, d2, ds2, p2, q2, rfl, rfl, rfl, hd2, hrest2⟩ := trodAll_cons hrest1
  obtain ⟨v3, vs3, d3, ds3, p3, q3, rfl, rfl, rfl, hd3, hrest3⟩ := trodAll_cons hrest2
  obtain ⟨v4, vs4, d4, ds4, p4, q4, rfl, rfl, rfl, hd4, hrest4⟩ := trodAll_cons hrest3
  obtain ⟨rfl, rfl, rfl⟩ := trodAll_nil hrest4
  exact ⟨v0, v1, v2, v3, v4, d0, d1, d2, d3, d4, p0, p1, p2, p3, p4, by cases args; simp_all, rfl, by simp, hd0, hd1, hd2, hd3, hd4⟩
theorem trodAll_mk5 {t0 t1 t2 t3 t4 : TypeId} {v0 v1 v2 v3 v4 : Value} {d0 d1 d2 d3 d4 : DataW H} {p0 p1 p2 p3 p4 : List MemPlace} (h0 : DataW.Trod enc P w base spare held t0 v0 d0 p0) (h1 : DataW.Trod enc P w base spare held t1 v1 d1 p1)
    (h2 : DataW.Trod enc P w base spare held t2 v2 d2 p2) (h3 : DataW.Trod enc P w base spare held t3 v3 d3 p3) (h4 : DataW.Trod enc P w base spare held t4 v4 d4 p4) : DataW.TrodAll enc P w base spare held [t0, t1, t2, t3, t4] [v0, v1, v2, v3, v4] [d0, d1, d2, d3, d4] (p0 ++ (p1 ++ (p2 ++ (p3 ++ p4)))) :=
  ⟨p0, p1 ++ (p2 ++ (p3 ++ p4)), h0, trodAll_mk4 h1 h2 h3 h4, rfl⟩
end
end Go.Proofs.YtiinnoahopnkcaaGreatDoor

/- How a move is read as data. -/
namespace Go.Proofs.YtiinnoahopnkcaaGreatDoor
set_option linter.unusedSimpArgs false
open Go.ChangeShapes Go.WideShapes Go.ChangeAt Go.RowKit

theorem Tryz.cellsMv : Tryz.prog.cellsOf 59 = 4 := by kernel_rfl
section
variable {H : Type} {enc : TypeId × Value → H} {w : World} {base : Nat} {sp : Nat → Bool} {held : Bool}
set_option maxRecDepth 100000 in
/-- A move by value. -/
theorem open_move {r : Reach} {b0 : Nat} {v : Value} {d : DataW H} {ps : List MemPlace} (hval : Value.okWide Tryz.prog w r b0 59 v) (h : DataW.Trod enc Tryz.prog w base sp held 59 v d ps) :
    ∃ m : MoveD, v = aggM m ∧ I64 m.kind ∧ I64 m.pod ∧ I64 m.node ∧ I64 m.over := by
  obtain ⟨v0, v1, v2, v3, y0, y1, y2, y3, n, rfl, _, _, h0, h1, h2, h3⟩ := Go.Joins.open_agg4 Tryz.underlying59 (by kernel_rfl) Tryz.cellsMv hval h
  obtain ⟨k0, rfl, i0⟩ := int_of rfl h0
  obtain ⟨k1, rfl, i1⟩ := int_of rfl h1
  obtain ⟨k2, rfl, i2⟩ := int_of rfl h2
  obtain ⟨k3, rfl, i3⟩ := int_of rfl h3
  exact ⟨⟨k0, k1, k2, k3⟩, rfl, i0, i1, i2, i3⟩
end
end Go.Proofs.YtiinnoahopnkcaaGreatDoor

/- How a list of moves is read as data. -/
namespace Go.Proofs.YtiinnoahopnkcaaGreatDoor
set_option linter.unusedSimpArgs false
open Go.ChangeShapes Go.WideShapes Go.ChangeAt Go.RowKit

theorem list4_mv {α : Type} (l : List α) (h : l.length = 4) : ∃ c0 c1 c2 c3, l = [c0, c1, c2, c3] := by
  match l, h with
  | [c0, c1, c2, c3], _ => exact ⟨c0, c1, c2, c3, rfl⟩
section
variable {H : Type} {enc : TypeId × Value → H} {w : World} {base : Nat} {sp : Nat → Bool} {held : Bool}
set_option maxRecDepth 100000 in
theorem move_ofV {n : Nat} {cs : List Value} {x : DataW H × List MemPlace} (hl : cs.length = 4) (h : DataW.trod enc Tryz.prog w base sp held n 59 cs = some x) : ∃ a : MoveD, cs = cellsM a ∧ True := by
  obtain ⟨xs, m, rfl, _, _, hxl, hf⟩ := DataW.trod_struct Tryz.underlying59 h
  obtain ⟨c0, c1, c2, c3, rfl⟩ := list4_mv cs hl
  have h0 : DataW.trod enc Tryz.prog w base sp held m 3 (([c0, c1, c2, c3].drop 0).take (Tryz.prog.cellsOf 3)) = xs[0]? := hf 0 _ rfl
  rw [Tryz.cells3, show ([c0, c1, c2, c3].drop 0).take 1 = [c0] from rfl] at h0
  have h1 : DataW.trod enc Tryz.prog w base sp held m 3 (([c0, c1, c2, c3].drop 1).take (Tryz.prog.cellsOf 3)) = xs[1]? := hf 1 _ rfl
  rw [Tryz.cells3, show ([c0, c1, c2, c3].drop 1).take 1 = [c1] from rfl] at h1
  have h2 : DataW.trod enc Tryz.prog w base sp held m 3 (([c0, c1, c2, c3].drop 2).take (Tryz.prog.cellsOf 3)) = xs[2]? := hf 2 _ rfl
  rw [Tryz.cells3, show ([c0, c1, c2, c3].drop 2).take 1 = [c2] from rfl] at h2
  have h3 : DataW.trod enc Tryz.prog w base sp held m 3 (([c0, c1, c2, c3].drop 3).take (Tryz.prog.cellsOf 3)) = xs[3]? := hf 3 _ rfl
  rw [Tryz.cells3, show ([c0, c1, c2, c3].drop 3).take 1 = [c3] from rfl] at h3
  obtain ⟨k0, rfl, _⟩ := int_of (some_at hxl (by decide)) h0
  obtain ⟨k1, rfl, _⟩ := int_of (some_at hxl (by decide)) h1
  obtain ⟨k2, rfl, _⟩ := int_of (some_at hxl (by decide)) h2
  obtain ⟨k3, rfl, _⟩ := int_of (some_at hxl (by decide)) h3
  exact ⟨⟨k0, k1, k2, k3⟩, rfl, trivial⟩
set_option maxRecDepth 100000 in
/-- A slice of moves. -/
theorem open_movesV {r : Reach} {b0 : Nat} {v : Value} {d : DataW H} {ps : List MemPlace} (hval : Value.okWide Tryz.prog w r b0 30 v) (h : DataW.Trod enc Tryz.prog w base sp held 30 v d ps) :
    ∃ (m : List MoveD) (A : Option Addr) (c : Nat), v = .slice A m.length c ∧ m.length ≤ c ∧ c ≤ maxLen ∧ Recs 4 cellsM w w.heap.size A m := by
  obtain ⟨av, n0, cap0, rfl⟩ := okWide_slice Tryz.underlying30 hval
  obtain ⟨fuel, hf⟩ := h
  have hf' : DataW.trod enc Tryz.prog w base sp held fuel 30 [.slice av n0 cap0] = some (d, ps) := hf
  obtain ⟨A, c, l, e, h1, h2, _, h3, _⟩ := open_recs (cells := cellsM) (size := 4) (Ok := fun _ : MoveD => True) Tryz.underlying30 Tryz.cellsMv (by decide) (fun n cs x hl h => move_ofV hl h) hf'
  exact ⟨l, A, c, e, h1, h2, h3⟩
end
end Go.Proofs.YtiinnoahopnkcaaGreatDoor

/- Plain mathematics of numbers as bytes; no program stands in it. -/
namespace Go.Proofs.YtiinnoahopnkcaaGreatDoor
set_option linter.unusedSimpArgs false

/-- A number's bytes: seven bits a byte, the lowest first. -/
def enc (n : Int) : List Int := if n < 128 then [n] else (n % 128 + 128) :: enc (n / 128)
  termination_by n.toNat
  decreasing_by omega

theorem enc_lt {n : Int} (h : n < 128) : enc n = [n] := by rw [enc, if_pos h]
theorem enc_ge {n : Int} (h : ¬ n < 128) : enc n = (n % 128 + 128) :: enc (n / 128) := by rw [enc, if_neg h]

def encs : List Int → List Int
  | [] => []
  | n :: l => enc n ++ encs l
theorem encs_append (a b : List Int) : encs (a ++ b) = encs a ++ encs b := by
  induction a with
  | nil => rfl
  | cons n l ih => simp [encs, ih]
theorem encs_one (n : Int) : encs [n] = enc n := by simp [encs]

def pw (i : Nat) : Int := 128 ^ i
theorem pw_zero : pw 0 = 1 := rfl
theorem pw_succ (i : Nat) : pw (i + 1) = 128 * pw i := by unfold pw; rw [Int.pow_succ, Int.mul_comm]
theorem pw_pos (i : Nat) : 0 < pw i := Int.pow_pos (by decide)
theorem pw_le {i j : Nat} (h : i ≤ j) : pw i ≤ pw j := by
  induction h with
  | refl => exact Int.le_refl _
  | step _ ih => rw [pw_succ]; have := pw_pos i; omega
theorem pw_9 : pw 9 = 9223372036854775808 := by decide
theorem pw_8 : pw 8 = 72057594037927936 := by decide

theorem enc_len_pos (n : Int) : 1 ≤ (enc n).length := by
  by_cases h : n < 128
  · rw [enc_lt h]; simp
  · rw [enc_ge h]; simp
theorem enc_ne (n : Int) : enc n ≠ [] := by
  have := enc_len_pos n
  intro h
  rw [h] at this
  simp at this
theorem enc_len_le (k : Nat) : ∀ n : Int, n < pw (k + 1) → (enc n).length ≤ k + 1 := by
  induction k with
  | zero => intro n h; rw [pw_succ, pw_zero] at h; rw [enc_lt (by omega)]; simp
  | succ k ih =>
    intro n h
    by_cases h1 : n < 128
    · rw [enc_lt h1]; simp
    · rw [enc_ge h1]
      have := ih (n / 128) (by rw [pw_succ] at h; omega)
      simp
      omega
theorem enc_len_ge (k : Nat) : ∀ n : Int, pw k ≤ n → k + 1 ≤ (enc n).length := by
  induction k with
  | zero => intro n _; exact enc_len_pos n
  | succ k ih =>
    intro n h
    have hp := pw_pos k
    rw [pw_succ] at h
    rw [enc_ge (by omega)]
    have := ih (n / 128) (by omega)
    simp
    omega
theorem enc_len_ten (n : Int) (h : n < 18446744073709551616) : (enc n).length ≤ 10 := by
  have e : pw 10 = 1180591620717411303424 := by decide
  exact enc_len_le 9 n (by rw [e]; omega)
theorem enc_bytes (n : Int) (h : 0 ≤ n) : ∀ c ∈ enc n, 0 ≤ c ∧ c < 256 := by
  induction n using enc.induct with
  | case1 n h1 => rw [enc_lt h1]; intro c hc; simp at hc; omega
  | case2 n h1 ih =>
    rw [enc_ge h1]
    intro c hc
    simp at hc
    rcases hc with rfl | hc
    · omega
    · exact ih (by omega) c hc

def Nums (l : List Int) : Prop := ∀ n ∈ l, 0 ≤ n ∧ n < 18446744073709551616
def Octs (l : List Int) : Prop := ∀ c ∈ l, 0 ≤ c ∧ c < 256
theorem Nums.append {a b : List Int} (ha : Nums a) (hb : Nums b) : Nums (a ++ b) := fun n hn => by
  rcases List.mem_append.1 hn with h | h
  · exact ha n h
  · exact hb n h
theorem Nums.take {a : List Int} (ha : Nums a) (k : Nat) : Nums (a.take k) := fun n hn => ha n (List.mem_of_mem_take hn)
theorem Octs.drop {a : List Int} (ha : Octs a) (k : Nat) : Octs (a.drop k) := fun n hn => ha n (List.mem_of_mem_drop hn)
theorem encs_octs {l : List Int} (h : Nums l) : Octs (encs l) := by
  induction l with
  | nil => intro c hc; simp [encs] at hc
  | cons n l ih =>
    intro c hc
    rcases List.mem_append.1 hc with h1 | h1
    · exact enc_bytes n (h n (by simp)).1 c h1
    · exact ih (fun m hm => h m (by simp [hm])) c h1
theorem encs_len_le {l : List Int} (h : Nums l) : (encs l).length ≤ 10 * l.length := by
  induction l with
  | nil => simp [encs]
  | cons n l ih =>
    have h1 := enc_len_ten n (h n (by simp)).2
    have h2 := ih (fun m hm => h m (by simp [hm]))
    simp [encs]
    omega
theorem encs_len_ge (l : List Int) : l.length ≤ (encs l).length := by
  induction l with
  | nil => simp [encs]
  | cons n l ih =>
    have h1 := enc_len_pos n
    simp [encs]
    omega

/-- What a reader of bytes finds from the i-th byte of a number on, n being what the bytes before are worth: the number and how many bytes it has; 0 bytes: none. -/
def scan : List Int → Nat → Int → Int × Nat
  | [], _, _ => (0, 0)
  | c :: r, i, n =>
    if i = 9 ∧ 1 < c then (0, 0)
    else if 128 ≤ c then scan r (i + 1) (n + (c - 128) * pw i)
    else if c = 0 ∧ 0 < i then (0, 0)
    else (n + c * pw i, i + 1)

theorem scan_enc (v : Int) (r : List Int) : ∀ (i : Nat) (n : Int), 0 ≤ v → 0 ≤ n → (0 < v ∨ i = 0) → n + v * pw i < 18446744073709551616 →
    scan (enc v ++ r) i n = (n + v * pw i, i + (enc v).length) := by
  induction v using enc.induct with
  | case1 v h =>
    intro i n h0 hn hz hs
    rw [enc_lt h]
    have h9 : ¬ (i = 9 ∧ 1 < v) := by
      rintro ⟨rfl, h1⟩
      rw [pw_9] at hs
      omega
    have hz' : ¬ (v = 0 ∧ 0 < i) := by omega
    simp only [List.cons_append, List.nil_append, scan, if_neg h9, if_neg (show ¬ 128 ≤ v by omega), if_neg hz', List.length_singleton]
  | case2 v h ih =>
    intro i n h0 hn hz hs
    rw [enc_ge h]
    have h9 : ¬ (i = 9 ∧ 1 < v % 128 + 128) := by
      rintro ⟨rfl, h1⟩
      rw [pw_9] at hs
      omega
    have hp := pw_pos i
    have e : n + (v % 128 + 128 - 128) * pw i + v / 128 * pw (i + 1) = n + v * pw i := by
      rw [pw_succ]
      have hv : v = v / 128 * 128 + v % 128 := by omega
      have : v * pw i = (v / 128 * 128 + v % 128) * pw i := by rw [← hv]
      rw [this, Int.add_mul, Int.mul_assoc, show v % 128 + 128 - 128 = v % 128 by omega]
      omega
    have hm : 0 ≤ (v % 128 + 128 - 128) * pw i := Int.mul_nonneg (by omega) (by omega)
    have := ih (i + 1) (n + (v % 128 + 128 - 128) * pw i) (by omega) (by omega) (by omega) (by rw [e]; exact hs)
    simp only [List.cons_append, scan, if_neg h9, if_pos (show 128 ≤ v % 128 + 128 by omega), this, List.length_cons, e]
    congr 1
    omega

theorem scan_inv (bs : List Int) : ∀ (i : Nat) (n : Int), Octs bs → i ≤ 9 →
    scan bs i n = (0, 0) ∨ ∃ v rest, bs = enc v ++ rest ∧ 0 ≤ v ∧ (0 < v ∨ i = 0) ∧ v * pw i + pw i ≤ 18446744073709551616 ∧ scan bs i n = (n + v * pw i, i + (enc v).length) := by
  induction bs with
  | nil => intro i n _ _; exact .inl rfl
  | cons c r ih =>
    intro i n hb hi
    have hc := hb c (by simp)
    have hr : Octs r := fun x hx => hb x (by simp [hx])
    by_cases h9 : i = 9 ∧ 1 < c
    · left; simp only [scan, if_pos h9]
    by_cases h1 : 128 ≤ c
    · have hi9 : i + 1 ≤ 9 := by omega
      rcases ih (i + 1) (n + (c - 128) * pw i) hr hi9 with h | ⟨v, rest, rfl, hv0, hv1, hle, hs⟩
      · left; simp only [scan, if_neg h9, if_pos h1, h]
      · right
        have hd : (v * 128 + (c - 128)) / 128 = v := by omega
        have hm : (v * 128 + (c - 128)) % 128 + 128 = c := by omega
        have he : enc (v * 128 + (c - 128)) = c :: enc v := by rw [enc_ge (by omega), hd, hm]
        have hp := pw_pos i
        have hq : (c - 128) * pw i + pw i ≤ 128 * pw i := by
          have : (c - 128 + 1) * pw i ≤ 128 * pw i := Int.mul_le_mul_of_nonneg_right (by omega) (by omega)
          rw [Int.add_mul] at this
          omega
        have hx : (v * 128 + (c - 128)) * pw i = v * pw (i + 1) + (c - 128) * pw i := by rw [pw_succ, Int.add_mul, Int.mul_assoc]
        refine ⟨v * 128 + (c - 128), rest, by rw [he]; rfl, by omega, by omega, ?_, ?_⟩
        · rw [hx]; rw [pw_succ] at hle ⊢; omega
        · simp only [scan, if_neg h9, if_pos h1, hs, he, hx, List.length_cons]
          congr 1
          · omega
          · omega
    · by_cases h0 : c = 0 ∧ 0 < i
      · left; simp only [scan, if_neg h9, if_neg h1, if_pos h0]
      · right
        refine ⟨c, r, by rw [enc_lt (by omega)]; rfl, hc.1, by omega, ?_, ?_⟩
        · by_cases e9 : i = 9
          · subst e9; rw [pw_9]; omega
          · have h8 := pw_le (show i ≤ 8 by omega)
            rw [pw_8] at h8
            have hp := pw_pos i
            have : (c + 1) * pw i ≤ 128 * pw i := Int.mul_le_mul_of_nonneg_right (by omega) (by omega)
            rw [Int.add_mul] at this
            omega
        · rw [enc_lt (by omega)]
          simp only [scan, if_neg h9, if_neg h1, if_neg h0, List.length_singleton]

/-- The bytes begin with no number. -/
def Miss (bs : List Int) : Prop := scan bs 0 0 = (0, 0)
theorem scan_hit (v : Int) (r : List Int) (h0 : 0 ≤ v) (h1 : v < 18446744073709551616) : scan (enc v ++ r) 0 0 = (v, (enc v).length) := by
  have := scan_enc v r 0 0 h0 (by omega) (by omega) (by rw [pw_zero]; omega)
  rw [this, pw_zero]
  congr 1 <;> omega
theorem hit_or_miss (bs : List Int) (hb : Octs bs) : Miss bs ∨ ∃ v rest, bs = enc v ++ rest ∧ 0 ≤ v ∧ v < 18446744073709551616 := by
  rcases scan_inv bs 0 0 hb (by omega) with h | ⟨v, rest, h1, h2, _, h3, _⟩
  · exact .inl h
  · rw [pw_zero] at h3
    exact .inr ⟨v, rest, h1, h2, by omega⟩

theorem nums_cons {n : Int} {l : List Int} (h1 : 0 ≤ n ∧ n < 18446744073709551616) (h : Nums l) : Nums (n :: l) := fun m hm => by
  rcases List.mem_cons.1 hm with rfl | hm
  · exact h1
  · exact h m hm
/-- Any bytes are the bytes of numbers, and of nothing more; or of numbers, and then of what begins with none. -/
theorem all_parts (m : Nat) : ∀ bs : List Int, bs.length ≤ m → Octs bs → ∃ ns rest, bs = encs ns ++ rest ∧ Nums ns ∧ (rest = [] ∨ (rest ≠ [] ∧ Miss rest)) := by
  induction m with
  | zero => intro bs h _; exact ⟨[], [], by simp at h; simp [h, encs], fun _ h => by simp at h, .inl rfl⟩
  | succ m ih =>
    intro bs h hb
    by_cases he : bs = []
    · subst he; exact ⟨[], [], rfl, fun _ h => by simp at h, .inl rfl⟩
    rcases hit_or_miss bs hb with hm | ⟨v, rest, rfl, h0, h1⟩
    · exact ⟨[], bs, rfl, fun _ h => by simp at h, .inr ⟨he, hm⟩⟩
    · have hl := enc_len_pos v
      obtain ⟨ns, r2, h2, h3, h4⟩ := ih rest (by simp at h; omega) (fun c hc => hb c (by simp [hc]))
      exact ⟨v :: ns, r2, by rw [h2]; simp [encs], nums_cons ⟨h0, h1⟩ h3, h4⟩
theorem get_parts (k : Nat) : ∀ bs : List Int, Octs bs → ∃ ns rest, bs = encs ns ++ rest ∧ Nums ns ∧ (ns.length = k ∨ (ns.length < k ∧ Miss rest)) := by
  induction k with
  | zero => intro bs _; exact ⟨[], bs, rfl, fun _ h => by simp at h, .inl rfl⟩
  | succ k ih =>
    intro bs hb
    rcases hit_or_miss bs hb with hm | ⟨v, rest, rfl, h0, h1⟩
    · exact ⟨[], bs, rfl, fun _ h => by simp at h, .inr ⟨by simp, hm⟩⟩
    · obtain ⟨ns, r2, h2, h3, h4⟩ := ih rest (fun c hc => hb c (by simp [hc]))
      refine ⟨v :: ns, r2, by rw [h2]; simp [encs], nums_cons ⟨h0, h1⟩ h3, ?_⟩
      rcases h4 with h4 | ⟨h4, h5⟩
      · exact .inl (by simp [h4])
      · exact .inr ⟨by simp; omega, h5⟩
end Go.Proofs.YtiinnoahopnkcaaGreatDoor

/- Words for memory that the walks share: a slice that reads as a list of values, nil or not; what stays of it. -/
namespace Go.Proofs.YtiinnoahopnkcaaGreatDoor
set_option linter.unusedSimpArgs false
open Go.RowKit
set_option linter.unusedVariables false

theorem old_cells {W w1 : World} (hb : Below W.heap.size W w1) : (∀ b o, b < W.heap.size → w1.cell? ⟨b, o, none⟩ = W.cell? ⟨b, o, none⟩) ∧ (∀ b o, b < W.heap.size → w1.frozen? ⟨b, o, none⟩ = W.frozen? ⟨b, o, none⟩) :=
  ⟨fun b o h => hb.cell (p := ⟨b, o, none⟩) h, fun b o h => hb.frozen (p := ⟨b, o, none⟩) h⟩

/-- The slice '.slice A xs.length c' reads as xs in w, and lies below block B. -/
def Row (w : World) (B : Nat) (A : Option Addr) (xs : List Value) : Prop :=
  xs = [] ∨ ∃ b o, A = some ⟨b, o, none⟩ ∧ b < B ∧ ∀ j (h : j < xs.length), w.cell? ⟨b, o + j, none⟩ = some xs[j]

theorem Row.nil {w : World} {B : Nat} {A : Option Addr} : Row w B A [] := .inl rfl
theorem Row.below {w w' : World} {B B' : Nat} {A : Option Addr} {xs : List Value} (h : Row w B A xs) (hb : Below B' w w') (hB : B ≤ B') : Row w' B A xs := by
  rcases h with h | ⟨b, o, h1, h2, h3⟩
  · exact .inl h
  · exact .inr ⟨b, o, h1, h2, fun j hj => (hb.cell (p := ⟨b, o + j, none⟩) (Nat.lt_of_lt_of_le h2 hB)).trans (h3 j hj)⟩
theorem Row.more {w : World} {B B' : Nat} {A : Option Addr} {xs : List Value} (h : Row w B A xs) (hB : B ≤ B') : Row w B' A xs := by
  rcases h with h | ⟨b, o, h1, h2, h3⟩
  · exact .inl h
  · exact .inr ⟨b, o, h1, Nat.lt_of_lt_of_le h2 hB, h3⟩
theorem Row.at {w : World} {B : Nat} {A : Option Addr} {xs : List Value} (h : Row w B A xs) {k : Nat} (hk : k < xs.length) :
    ∃ b o, A = some ⟨b, o, none⟩ ∧ b < B ∧ ∀ j (h : j < xs.length), w.cell? ⟨b, o + j, none⟩ = some xs[j] := by
  rcases h with h | h
  · subst h; simp at hk
  · exact h
theorem Row.take {w : World} {B : Nat} {A : Option Addr} {xs : List Value} (h : Row w B A xs) (k : Nat) : Row w B A (xs.take k) := by
  rcases h with h | ⟨b, o, h1, h2, h3⟩
  · exact .inl (by simp [h])
  · exact .inr ⟨b, o, h1, h2, fun j hj => by rw [List.getElem_take]; exact h3 j (by simp at hj; omega)⟩
theorem Row.drop {w : World} {B : Nat} {A : Option Addr} {xs : List Value} (h : Row w B A xs) {k c : Nat} (hc : xs.length ≤ c) :
    Row w B (if c = k then A else A.map (·.add k)) (xs.drop k) := by
  rcases h with h | ⟨b, o, h1, h2, h3⟩
  · exact .inl (by simp [h])
  · by_cases hk : k < xs.length
    · refine .inr ⟨b, o + k, ?_, h2, fun j hj => ?_⟩
      · rw [if_neg (by omega), h1]; simp [Addr.add_lit]
      · rw [List.getElem_drop, Nat.add_assoc]; exact h3 (k + j) (by simp at hj; omega)
    · exact .inl (by simp; omega)
/-- A row of the call's own reads as what it holds. -/
theorem Row.of_own {w : World} {base n c : Nat} {e : TypeId} {A : Option Addr} {xs : List Value} (h : w.ownsRow base e 1 (.slice A n c) n xs) : Row w w.heap.size A xs ∧ n = xs.length := by
  have hn : n = xs.length := by have := h.1; omega
  refine ⟨?_, hn⟩
  rcases h.2 with ⟨_, h0⟩ | ⟨g, cap, cur, hv, hb, hg, _⟩
  · exact .inl (List.eq_nil_of_length_eq_zero (by omega))
  · injection hv with hA _ _
    subst hA
    refine .inr ⟨g, 0, rfl, (Array.getElem?_eq_some_iff.1 hg).1, fun j hj => ?_⟩
    have := h.cells (g := g) rfl j xs[j] (List.getElem?_eq_getElem hj)
    rwa [Addr.add_lit] at this
theorem own_form {w : World} {base n : Nat} {e : TypeId} {v : Value} {xs : List Value} (h : w.ownsRow base e 1 v n xs) : ∃ A c, v = .slice A n c ∧ n ≤ c ∧ n = xs.length ∧ (A = none → n = 0 ∧ c = 0) := by
  have hn : n = xs.length := by have := h.1; omega
  rcases h.2 with ⟨hv, h0⟩ | ⟨g, cap, cur, hv, hb, hg, hc, _⟩
  · exact ⟨none, 0, by rw [hv, h0], by omega, hn, fun _ => ⟨h0, rfl⟩⟩
  · exact ⟨_, cap, hv, hc, hn, fun h => by cases h⟩
theorem own_below {w w' : World} {B base n : Nat} {e : TypeId} {v : Value} {xs : List Value} (h : w.ownsRow base e 1 v n xs) (hb : Below B w w') (hB : w.heap.size ≤ B) : w'.ownsRow base e 1 v n xs := by
  refine ⟨h.1, ?_⟩
  rcases h.2 with h0 | ⟨g, cap, cur, hv, hb1, hg, rest⟩
  · exact .inl h0
  · exact .inr ⟨g, cap, cur, hv, hb1, (hb.block g (Nat.lt_of_lt_of_le (Array.getElem?_eq_some_iff.1 hg).1 hB)).trans hg, rest⟩

abbrev u8s (l : List Int) : List Value := l.map (Value.int .u8)
abbrev u64s (l : List Int) : List Value := l.map (Value.int .u64)

theorem Tryz.info5 : (Tryz.prog.info? 5).map (fun i => (i.zero, i.size, i.bytes)) = some (some (.int .u8 0), 1, 1) := by kernel_rfl
theorem Tryz.info49 : (Tryz.prog.info? 49).map (fun i => (i.zero, i.size, i.bytes)) = some (some (.int .u64 0), 1, 8) := by kernel_rfl

theorem ret_val {a b : Value} (h : a = b) : Ending.returned a = .returned b := by rw [h]

/-- What one append to a row of the call's own leaves. -/
theorem push_own {B : Nat} {e : TypeId} {w wr w1 : World} {v : Value} {n : Nat} {xs : List Value} {o : Obj}
    (hB : B ≤ wr.heap.size) (hown : wr.ownsRow B e 1 v n xs) (hb : Below B w wr) (hgrow : (wr.alloc o).grownBy w1 v.ownBlock) : Below B w w1 :=
  (hb.alloc hB o).grown hgrow (by simp; omega) (fun j hj => (hown.lt j hj).1)
end Go.Proofs.YtiinnoahopnkcaaGreatDoor

namespace Go.Proofs.YtiinnoahopnkcaaGreatDoor
set_option linter.unusedSimpArgs false
open Go.RowKit
set_option linter.unusedVariables false

theorem one_u8s (l : List Int) : ∀ u ∈ u8s l, u.oneCell' = true := by
  intro u hu; simp at hu; obtain ⟨x, _, rfl⟩ := hu; rfl
theorem one_u64s (l : List Int) : ∀ u ∈ u64s l, u.oneCell' = true := by
  intro u hu; simp at hu; obtain ⟨x, _, rfl⟩ := hu; rfl

section
variable {ops : Array Oper} {rest : List Oper} {o : Oper} {a : Act} {Q : Exit → Act → World → Prop} {wr : World}

theorem wpList_push (t e : TypeId) (z : Value) (bytes : Nat) (ht : Tryz.prog.underlying t = some (.slice e)) (hinfo : (Tryz.prog.info? e).map (fun i => (i.zero, i.size, i.bytes)) = some (some z, 1, bytes)) (hz : z.cells.size = 1) (hby : bytes ≤ 8)
    (hgd : o.guard = none) (s x : Operand) (ho : o.op = .call { callee := .builtin .append, args := #[s, x], argTypes := #[t, t] })
    (B : Nat) (v : Value) (xs : List Value) (u : Value) (hu : u.oneCell' = true) (hown : wr.ownsRow B e 1 v xs.length xs) (hB : B ≤ wr.heap.size) (hl : xs.length ≤ 2000000)
    (hs : a.eval s = v) (hx : a.eval x = .slice (some ⟨wr.heap.size, 0, none⟩) 1 1)
    (h : ∀ v' w', w'.ownsRow B e 1 v' (xs ++ [u]).length (xs ++ [u]) → Below B wr w' → B ≤ w'.heap.size → wpList Tryz.prog ops Q rest (a.put o.dst v') w') :
    wpList Tryz.prog ops Q (o :: rest) a (wr.alloc (.cells #[u] e)) := by
  obtain ⟨i0, hi, hz0, hz1, hz2⟩ := info_parts hinfo
  refine wpList_append_own _ hgd s x t ho B e i0 z 1 bytes ht hi hz0 hz1 hz2 hz (by decide) v xs.length xs hs (hown.alloc _) ⟨wr.heap.size, 0, none⟩ 1 1 [u] hx rfl ?_ ?_ ?_ ?_ ?_ ?_
  · intro j y hy
    rcases j with _ | j
    · simp at hy; subst hy; simp [Addr.add]
    · simp at hy
  · intro y hy; simp at hy; subst hy; exact hu
  · unfold maxLen; omega
  · have : (xs.length + 1) * bytes ≤ (xs.length + 1) * 8 := Nat.mul_le_mul_left _ hby
    omega
  · simp; omega
  · intro v' w' h1 h2 _
    exact h v' w' (by simpa using h1) (push_own hB hown (Below.refl _ _) h2) (by have := h2.size; simp at this; omega)

theorem wpList_cat (t e : TypeId) (z : Value) (bytes : Nat) (ht : Tryz.prog.underlying t = some (.slice e)) (hinfo : (Tryz.prog.info? e).map (fun i => (i.zero, i.size, i.bytes)) = some (some z, 1, bytes)) (hz : z.cells.size = 1) (hby : bytes ≤ 8)
    (hgd : o.guard = none) (s x : Operand) (ho : o.op = .call { callee := .builtin .append, args := #[s, x], argTypes := #[t, t] })
    {n : Nat} (B R : Nat) (v : Value) (xs ys : List Value) (A : Option Addr) (c : Nat) (hu : ∀ u ∈ ys, u.oneCell' = true) (hnil : A = none → c = 0) (hown : wr.ownsRow B e 1 v xs.length xs) (hrow : Row wr R A ys) (hB : B ≤ wr.heap.size) (hl : xs.length + ys.length ≤ 2000000)
    (hs : a.eval s = v) (hx : a.eval x = .slice A n c) (hn : n = ys.length)
    (h : ∀ v' w', w'.ownsRow B e 1 v' (xs ++ ys).length (xs ++ ys) → Below B wr w' → B ≤ w'.heap.size → wpList Tryz.prog ops Q rest (a.put o.dst v') w') :
    wpList Tryz.prog ops Q (o :: rest) a wr := by
  obtain ⟨i0, hi, hz0, hz1, hz2⟩ := info_parts hinfo
  subst hn
  have fin : ∀ v' w', w'.ownsRow B e 1 v' (xs.length + ys.length) (xs ++ ys) → wr.grownBy w' v.ownBlock → wpList Tryz.prog ops Q rest (a.put o.dst v') w' := fun v' w' h1 h2 =>
    h v' w' (by simpa using h1) ((Below.refl B wr).grown h2 hB (fun j hj => (hown.lt j hj).1)) (by have := h2.size; omega)
  rcases A with _ | ad
  · have h0 : ys = [] := by
      rcases hrow with h0 | ⟨_, _, h0, _⟩
      · exact h0
      · cases h0
    subst h0
    have := hnil rfl
    subst this
    exact wpList_append_own_none hgd s x t ho B e i0 1 ht hi v xs.length xs hs hown hx (fin v wr (by simpa using hown) (World.grownBy.refl _ _))
  · refine wpList_append_own _ hgd s x t ho B e i0 z 1 bytes ht hi hz0 hz1 hz2 hz (by decide) v xs.length xs hs hown ad ys.length c ys hx (by simp) ?_ hu ?_ ?_ hB (fun v' w' h1 h2 _ => fin v' w' h1 h2)
    · intro j y hy
      rcases hrow with h0 | ⟨b, o', h0, _, h1⟩
      · subst h0; simp at hy
      · have h0' := Option.some.inj h0
        subst h0'
        obtain ⟨hj, rfl⟩ := List.getElem?_eq_some_iff.1 hy
        rw [Addr.add_lit]
        exact h1 j hj
    · unfold maxLen; omega
    · have : (xs.length + ys.length) * bytes ≤ (xs.length + ys.length) * 8 := Nat.mul_le_mul_left _ hby
      omega
end
end Go.Proofs.YtiinnoahopnkcaaGreatDoor
