/- Joined texts, part 3: FM MC UA UO DB DE DEN DEL DEP DEW. -/
import Derived.Test.YtokghlmccecpfaaDoorZ01
import Derived.Test.YtokghlmccecpfaaDoorZ02
import Derived.Deep.QuietTactic
import Derived.BigQuiet
import Derived.ChangeSame
import Derived.ChangeVars
import Derived.JoinedOf
import Derived.RowKit
import Derived.RowKitTokens
import Derived.Carry
import Derived.ChangeSlices
import Derived.IntWalk

/- Plain mathematics of layer 4: records as numbers, one behind the other, and back; no program stands in it. -/
namespace Go.Proofs.YtokghlmccecpfaaDoor
set_option linter.unusedSimpArgs false

structure MoveD where
  kind : Int
  pod : Int
  node : Int
  over : Int

/-- A kind of record: how many numbers it has, what they are, and back; which numbers may be one's. -/
structure Kind (α : Type) where
  size : Nat
  nums : α → List Int
  get : List Int → α
  ok : List Int → Bool
  len : ∀ x, (nums x).length = size
  back : ∀ x, get (nums x) = x
  once : ∀ c, c.length = size → ok c = true → nums (get c) = c

section
variable {α : Type} (K : Kind α)
def parse : Nat → List Int → List α
  | 0, _ => []
  | n + 1, l => K.get (l.take K.size) :: parse n (l.drop K.size)
def fine : Nat → List Int → Bool
  | 0, _ => true
  | n + 1, l => K.ok (l.take K.size) && fine n (l.drop K.size)
theorem parse_length : ∀ (n : Nat) (l : List Int), (parse K n l).length = n
  | 0, _ => rfl
  | n + 1, l => by simp [parse, parse_length n]
/-- What was written is read as it was. -/
theorem parse_flat : ∀ (xs : List α) (rest : List Int), parse K xs.length (xs.flatMap K.nums ++ rest) = xs
  | [], rest => rfl
  | x :: r, rest => by
    have e : (x :: r).flatMap K.nums ++ rest = K.nums x ++ (r.flatMap K.nums ++ rest) := by simp
    show parse K (r.length + 1) _ = _
    rw [e, parse, List.take_left' (K.len x), List.drop_left' (K.len x), K.back, parse_flat r rest]
/-- What is read is written as it was. -/
theorem flat_parse : ∀ (n : Nat) (l : List Int), n * K.size ≤ l.length → fine K n l = true → (parse K n l).flatMap K.nums = l.take (n * K.size)
  | 0, l, _, _ => by simp [parse]
  | n + 1, l, hl, hf => by
    simp only [fine, Bool.and_eq_true] at hf
    have hs : K.size ≤ l.length := by rw [Nat.add_one_mul] at hl; omega
    have h1 := K.once (l.take K.size) (by simp; omega) hf.1
    have h2 := flat_parse n (l.drop K.size) (by rw [List.length_drop]; rw [Nat.add_one_mul] at hl; omega) hf.2
    simp only [parse, List.flatMap_cons, h1, h2]
    rw [Nat.add_one_mul, Nat.add_comm, List.take_add]
theorem flat_length (xs : List α) : (xs.flatMap K.nums).length = xs.length * K.size := by
  induction xs with
  | nil => simp
  | cons x r ih => simp only [List.flatMap_cons, List.length_append, List.length_cons, ih, K.len, Nat.add_one_mul]; omega
theorem parse_get : ∀ (n : Nat) (l : List Int) (i : Nat) (h : i < n), (parse K n l)[i]'(by rw [parse_length]; exact h) = K.get ((l.drop (i * K.size)).take K.size)
  | 0, _, _, h => by omega
  | n + 1, l, 0, _ => by simp [parse]
  | n + 1, l, i + 1, h => by
    have := parse_get n (l.drop K.size) i (by omega)
    simp only [parse, List.getElem_cons_succ, this, List.drop_drop, Nat.add_one_mul]
    rw [Nat.add_comm]
theorem fine_iff : ∀ (n : Nat) (l : List Int), fine K n l = true ↔ ∀ i, i < n → K.ok ((l.drop (i * K.size)).take K.size) = true
  | 0, l => by simp [fine]
  | n + 1, l => by
    simp only [fine, Bool.and_eq_true, fine_iff n]
    constructor
    · rintro ⟨h1, h2⟩ i hi
      cases i with
      | zero => simpa using h1
      | succ i =>
        have := h2 i (by omega)
        rw [List.drop_drop] at this
        rwa [Nat.add_one_mul, Nat.add_comm]
    · intro h
      refine ⟨by simpa using h 0 (by omega), fun i hi => ?_⟩
      have := h (i + 1) (by omega)
      rw [List.drop_drop]
      rwa [Nat.add_one_mul, Nat.add_comm] at this
end

def truthN (b : Bool) : Int := if b then 1 else 0
def smallN (n : Int) : Bool := decide (n ≤ 2147483647)
def bitN (n : Int) : Bool := decide (n = 0 ∨ n = 1)
theorem truth_back (b : Bool) : (truthN b == 1) = b := by cases b <;> rfl
theorem truth_once {n : Int} (h : bitN n = true) : truthN (n == 1) = n := by
  unfold bitN at h
  rcases of_decide_eq_true h with h | h <;> subst h <;> rfl

theorem take_5 {l : List Int} (h : l.length = 5) : ∃ a b c d e, l = [a, b, c, d, e] := by
  match l, h with
  | [a, b, c, d, e], _ => exact ⟨a, b, c, d, e, rfl⟩
theorem take_4 {l : List Int} (h : l.length = 4) : ∃ a b c d, l = [a, b, c, d] := by
  match l, h with
  | [a, b, c, d], _ => exact ⟨a, b, c, d, rfl⟩
theorem take_6 {l : List Int} (h : l.length = 6) : ∃ a b c d e f, l = [a, b, c, d, e, f] := by
  match l, h with
  | [a, b, c, d, e, f], _ => exact ⟨a, b, c, d, e, f, rfl⟩
theorem take_8 {l : List Int} (h : l.length = 8) : ∃ a b c d e f g i, l = [a, b, c, d, e, f, g, i] := by
  match l, h with
  | [a, b, c, d, e, f, g, i], _ => exact ⟨a, b, c, d, e, f, g, i, rfl⟩
theorem take_10 {l : List Int} (h : l.length = 10) : ∃ a b c d e f g i j k, l = [a, b, c, d, e, f, g, i, j, k] := by
  match l, h with
  | [a, b, c, d, e, f, g, i, j, k], _ => exact ⟨a, b, c, d, e, f, g, i, j, k, rfl⟩

def nodeK : Kind NodeD where
  size := 10
  nums n := [n.id, n.zone, n.cap.a, n.cap.b, n.cap.c, n.cap.d, n.held.a, n.held.b, n.held.c, n.held.d]
  get c := ⟨c.getD 0 0, c.getD 1 0, ⟨c.getD 2 0, c.getD 3 0, c.getD 4 0, c.getD 5 0⟩, ⟨c.getD 6 0, c.getD 7 0, c.getD 8 0, c.getD 9 0⟩⟩
  ok c := smallN (c.getD 0 0) && smallN (c.getD 1 0)
  len _ := rfl
  back _ := rfl
  once c h _ := by obtain ⟨a, b, c, d, e, f, g, i, j, k, rfl⟩ := take_10 h; rfl
def loadK : Kind LoadD where
  size := 5
  nums l := [l.id, truthN l.apart, l.skew, l.min, l.max]
  get c := ⟨c.getD 0 0, c.getD 1 0 == 1, c.getD 2 0, c.getD 3 0, c.getD 4 0⟩
  ok c := smallN (c.getD 0 0) && (smallN (c.getD 2 0) && (smallN (c.getD 3 0) && (smallN (c.getD 4 0) && bitN (c.getD 1 0))))
  len _ := rfl
  back l := by obtain ⟨a, b, c, d, e⟩ := l; simp [truth_back]
  once c h ho := by
    obtain ⟨a, b, c, d, e, rfl⟩ := take_5 h
    simp only [Bool.and_eq_true] at ho
    have := truth_once ho.2.2.2.2
    simp at this ⊢
    exact this
def podK : Kind PodD where
  size := 8
  nums p := [p.id, p.load, p.prio, p.req.a, p.req.b, p.req.c, p.req.d, p.node]
  get c := ⟨c.getD 0 0, c.getD 1 0, c.getD 2 0, ⟨c.getD 3 0, c.getD 4 0, c.getD 5 0, c.getD 6 0⟩, c.getD 7 0⟩
  ok c := smallN (c.getD 0 0) && (smallN (c.getD 1 0) && (smallN (c.getD 2 0) && smallN (c.getD 7 0)))
  len _ := rfl
  back _ := rfl
  once c h _ := by obtain ⟨a, b, c, d, e, f, g, i, rfl⟩ := take_8 h; rfl
def wantK : Kind WantD where
  size := 6
  nums x := [x.pod, x.req.a, x.req.b, x.req.c, x.req.d, truthN x.stay]
  get c := ⟨c.getD 0 0, ⟨c.getD 1 0, c.getD 2 0, c.getD 3 0, c.getD 4 0⟩, c.getD 5 0 == 1⟩
  ok c := smallN (c.getD 0 0) && bitN (c.getD 5 0)
  len _ := rfl
  back x := by obtain ⟨a, b, c⟩ := x; simp [truth_back]
  once c h ho := by
    obtain ⟨a, b, c, d, e, f, rfl⟩ := take_6 h
    simp only [Bool.and_eq_true] at ho
    have := truth_once ho.2
    simp at this ⊢
    exact this
def moveK : Kind MoveD where
  size := 4
  nums m := [m.kind, m.pod, m.node, m.over]
  get c := ⟨c.getD 0 0, c.getD 1 0, c.getD 2 0, c.getD 3 0⟩
  ok c := smallN (c.getD 0 0) && (smallN (c.getD 1 0) && (smallN (c.getD 2 0) && smallN (c.getD 3 0)))
  len _ := rfl
  back _ := rfl
  once c h _ := by obtain ⟨a, b, c, d, rfl⟩ := take_4 h; rfl

def snapNums (s : SnapD) : List Int := [(s.nodes.length : Int), (s.loads.length : Int), (s.pods.length : Int)] ++ (s.nodes.flatMap nodeK.nums ++ (s.loads.flatMap loadK.nums ++ s.pods.flatMap podK.nums))
def specNums (x : SpecD) : List Int := [(x.wants.length : Int), x.preempts, x.shifts] ++ x.wants.flatMap wantK.nums
def moveNums (m : List MoveD) : List Int := (m.length : Int) :: m.flatMap moveK.nums

/-- The snapshot of so many nodes, loads and pods whose numbers these are. -/
def snapOf (a b c : Nat) (l : List Int) : SnapD := ⟨parse nodeK a l, parse loadK b (l.drop (a * 10)), parse podK c (l.drop (a * 10 + b * 5))⟩
def snapFine (a b c : Nat) (l : List Int) : Bool := fine nodeK a l && (fine loadK b (l.drop (a * 10)) && fine podK c (l.drop (a * 10 + b * 5)))
theorem snap_back (s : SnapD) : snapOf s.nodes.length s.loads.length s.pods.length ((snapNums s).drop 3) = s := by
  obtain ⟨n, l, p⟩ := s
  have h1 : (n.flatMap nodeK.nums).length = n.length * 10 := flat_length nodeK n
  have h2 : (l.flatMap loadK.nums).length = l.length * 5 := flat_length loadK l
  have e : (snapNums ⟨n, l, p⟩).drop 3 = n.flatMap nodeK.nums ++ (l.flatMap loadK.nums ++ p.flatMap podK.nums) := rfl
  rw [e]
  show SnapD.mk _ _ _ = _
  simp only []
  rw [parse_flat nodeK n, List.drop_left' h1, parse_flat loadK l, ← List.drop_drop, List.drop_left' h1, List.drop_left' h2]
  have := parse_flat podK p []
  rw [List.append_nil] at this
  rw [this]
theorem snap_once {a b c : Nat} {l : List Int} (hl : l.length = a * 10 + b * 5 + c * 8) (hf : snapFine a b c l = true) : snapNums (snapOf a b c l) = [(a : Int), (b : Int), (c : Int)] ++ l := by
  simp only [snapFine, Bool.and_eq_true] at hf
  have s10 : nodeK.size = 10 := rfl
  have s5 : loadK.size = 5 := rfl
  have s8 : podK.size = 8 := rfl
  have h1 := flat_parse nodeK a l (by rw [s10]; omega) hf.1
  have h2 := flat_parse loadK b (l.drop (a * 10)) (by rw [s5, List.length_drop]; omega) hf.2.1
  have h3 := flat_parse podK c (l.drop (a * 10 + b * 5)) (by rw [s8, List.length_drop]; omega) hf.2.2
  simp only [snapNums, snapOf, parse_length, h1, h2, h3, s10, s5, s8]
  congr 1
  rw [List.take_of_length_le (i := c * 8) (by rw [List.length_drop]; omega), ← List.drop_drop, List.take_append_drop, List.take_append_drop]
theorem spec_back (x : SpecD) : parse wantK x.wants.length ((specNums x).drop 3) = x.wants := by
  have := parse_flat wantK x.wants []
  rw [List.append_nil] at this
  simpa [specNums] using this
theorem spec_once {a : Nat} {p q : Int} {l : List Int} (hl : l.length = a * 6) (hf : fine wantK a l = true) : specNums ⟨parse wantK a l, p, q⟩ = [(a : Int), p, q] ++ l := by
  have s6 : wantK.size = 6 := rfl
  have h := flat_parse wantK a l (by rw [s6]; omega) hf
  simp only [specNums, parse_length, h, s6]
  rw [List.take_of_length_le (by omega)]
theorem move_back (m : List MoveD) : parse moveK m.length ((moveNums m).drop 1) = m := by
  have := parse_flat moveK m []
  rw [List.append_nil] at this
  simpa [moveNums] using this
theorem move_once {a : Nat} {l : List Int} (hl : l.length = a * 4) (hf : fine moveK a l = true) : moveNums (parse moveK a l) = (a : Int) :: l := by
  have s4 : moveK.size = 4 := rfl
  have h := flat_parse moveK a l (by rw [s4]; omega) hf
  simp only [moveNums, parse_length, h, s4]
  rw [List.take_of_length_le (by omega)]
end Go.Proofs.YtokghlmccecpfaaDoor

/- The cells of a move. -/
namespace Go.Proofs.YtokghlmccecpfaaDoor
set_option linter.unusedSimpArgs false

abbrev aggM (x : MoveD) : Value := .agg #[.int .i64 x.kind, .int .i64 x.pod, .int .i64 x.node, .int .i64 x.over]
def cellsM (x : MoveD) : List Value := [.int .i64 x.kind, .int .i64 x.pod, .int .i64 x.node, .int .i64 x.over]
end Go.Proofs.YtokghlmccecpfaaDoor

/- Plain mathematics of states; '!=' of any two pods. -/
namespace Go.Proofs.YtokghlmccecpfaaDoor
set_option linter.unusedSimpArgs false
open Go.RowKit
set_option linter.unusedVariables false

structure StateD where
  pods : List PodD
  preempts : Int
  shifts : Int
def vecEq (x y : V4) : Bool := x.a == y.a && (x.b == y.b && (x.c == y.c && x.d == y.d))
def podEq (x y : PodD) : Bool := x.id == y.id && (x.load == y.load && (x.prio == y.prio && (vecEq x.req y.req && x.node == y.node)))
theorem vecEq_self (x : V4) : vecEq x x = true := by simp [vecEq]
theorem podEq_self (x : PodD) : podEq x x = true := by simp [podEq, vecEq_self]
theorem vecEq_iff {x y : V4} : vecEq x y = true ↔ x = y := by
  cases x; cases y; simp [vecEq]
theorem podEq_iff {x y : PodD} : podEq x y = true ↔ x = y := by
  cases x; cases y; simp [podEq, vecEq_iff]
/-- Are two lists of pods alike? -/
def podsEq : List PodD → List PodD → Bool
  | [], [] => true
  | x :: r, y :: s => podEq x y && podsEq r s
  | _, _ => false
theorem podsEq_self : ∀ l : List PodD, podsEq l l = true
  | [] => rfl
  | x :: r => by simp [podsEq, podEq_self, podsEq_self r]
theorem podsEq_iff : ∀ {l m : List PodD}, podsEq l m = true ↔ l = m
  | [], [] => by simp [podsEq]
  | [], _ :: _ => by simp [podsEq]
  | _ :: _, [] => by simp [podsEq]
  | x :: r, y :: s => by simp [podsEq, podEq_iff, podsEq_iff (l := r) (m := s)]
theorem podsEq_len : ∀ {l m : List PodD}, l.length ≠ m.length → podsEq l m = false := fun {l m} h => by
  cases e : podsEq l m with
  | false => rfl
  | true => exact absurd (congrArg List.length (podsEq_iff.1 e)) h
def stateEq (t u : StateD) : Bool := podsEq t.pods u.pods && (t.preempts == u.preempts && t.shifts == u.shifts)
theorem stateEq_self (t : StateD) : stateEq t t = true := by simp [stateEq, podsEq_self]
theorem stateEq_iff {t u : StateD} : stateEq t u = true ↔ t = u := by
  cases t; cases u; simp [stateEq, podsEq_iff]
theorem podsEq_at {l m : List PodD} {k : Nat} {b : Bool} (h : k < l.length) (h' : k < m.length) {x y : PodD} (hx : l[k] = x) (hy : m[k] = y) (hp : podsEq (l.drop k) (m.drop k) = b) :
    (podEq x y = false → b = false) ∧ (podEq x y = true → podsEq (l.drop (k + 1)) (m.drop (k + 1)) = b) := by
  rw [List.drop_eq_getElem_cons h, List.drop_eq_getElem_cons h', hx, hy, podsEq] at hp
  constructor
  · intro e; rw [e] at hp; exact hp.symm
  · intro e; rw [e, Bool.true_and] at hp; exact hp
theorem podsEq_end {l m : List PodD} {k : Nat} {b : Bool} (h : l.length ≤ k) (h' : m.length ≤ k) (hp : podsEq (l.drop k) (m.drop k) = b) : b = true := by
  rw [List.drop_of_length_le h, List.drop_of_length_le h'] at hp
  exact hp.symm
/-- The first pod of an Id. -/
def podAt (id : Int) : List PodD → Option PodD
  | [] => none
  | x :: r => if x.id = id then some x else podAt id r
theorem podAt_none {id : Int} : ∀ {l : List PodD} {k : Int}, 0 ≤ k → (podAt id l = none ↔ place PodD.id id l k < 0)
  | [], k, _ => by simp [podAt, place]
  | x :: r, k, hk => by
    by_cases h : x.id = id
    · simp [podAt, place, h]; omega
    · simp only [podAt, place, if_neg h]; exact podAt_none (by omega)
theorem place_or {α : Type} {f : α → Int} {id : Int} : ∀ (r : List α) (k : Int), 0 ≤ k → place f id r k < 0 ∨ k ≤ place f id r k
  | [], _, _ => by simp [place]
  | x :: r, k, hk => by
    simp only [place]
    split
    · right; omega
    · rcases place_or r (k + 1) (by omega) with h | h
      · exact .inl h
      · exact .inr (by omega)
theorem podAt_some {id : Int} : ∀ {l : List PodD} {k : Int} {i : Nat} (hi : i < l.length), place PodD.id id l k = k + i → 0 ≤ k → podAt id l = some l[i]
  | [], _, _, hi, _, _ => by simp at hi
  | x :: r, k, i, hi, h, hk => by
    by_cases hx : x.id = id
    · simp only [place, if_pos hx] at h
      obtain rfl : i = 0 := by omega
      simp [podAt, hx]
    · simp only [place, if_neg hx] at h
      cases i with
      | zero =>
        have := (place_neg (f := PodD.id) (id := id) (l := r) (k := k + 1) (by omega))
        have h2 := place_ge (f := PodD.id) (id := id) (l := r) (k := k + 1) (by omega)
        have h3 : place PodD.id id r (k + 1) < 0 ∨ k + 1 ≤ place PodD.id id r (k + 1) := place_or r (k + 1) (by omega)
        omega
      | succ i =>
        simp only [podAt, if_neg hx, List.getElem_cons_succ]
        exact podAt_some (by simpa using hi) (by rw [h]; omega) (by omega)
/-- Is a want met? -/
def metD (l : List PodD) (w : WantD) : Bool :=
  match podAt w.pod l with
  | none => false
  | some p => if w.stay then p.node != 0 && vecEq p.req w.req else p.node == 0
def goalD (x : List WantD) (l : List PodD) : Bool := x.all (metD l)
theorem goal_at {x : List WantD} {l : List PodD} {k : Nat} {b : Bool} (h : k < x.length) {w : WantD} (hx : x[k] = w) (hg : goalD (x.drop k) l = b) :
    (metD l w = false → b = false) ∧ (metD l w = true → goalD (x.drop (k + 1)) l = b) := by
  rw [List.drop_eq_getElem_cons h, hx, goalD, List.all_cons] at hg
  constructor
  · intro e; rw [e] at hg; exact hg.symm
  · intro e; rw [e, Bool.true_and] at hg; exact hg
theorem goal_end {x : List WantD} {l : List PodD} {k : Nat} {b : Bool} (h : x.length ≤ k) (hg : goalD (x.drop k) l = b) : b = true := by
  rw [List.drop_of_length_le h] at hg
  exact hg.symm
theorem met_none {l : List PodD} {w : WantD} (h : place PodD.id w.pod l 0 < 0) : metD l w = false := by
  rw [metD, (podAt_none (l := l) (k := 0) (by omega)).2 h]
theorem met_some {l : List PodD} {w : WantD} {i : Nat} (hi : i < l.length) (h : place PodD.id w.pod l 0 = i) {p : PodD} (hp : l[i] = p) : metD l w = if w.stay then p.node != 0 && vecEq p.req w.req else p.node == 0 := by
  rw [metD, podAt_some (l := l) (k := 0) hi (by rw [h]; omega) (by omega), hp]

theorem eqFields_cons {d : Nat} {xs ys : Array Value} {f : Field} {fs : List Field} {a b : Value} {c : Bool} {w : World} (hn : f.name ≠ "_") (ha : (part f.type xs f.offset).run Tryd.prog w = .ok a w) (hb : (part f.type ys f.offset).run Tryd.prog w = .ok b w) (he : (Op.equalIn d f.type a b).run Tryd.prog w = .ok c w) {r : Bool} (hr : (Op.eqFields d xs ys fs).run Tryd.prog w = .ok r w) :
    (Op.eqFields d xs ys (f :: fs)).run Tryd.prog w = .ok (c && r) w := by
  cases c <;> simp [Op.eqFields, hn, ha, hb, he, hr]
theorem int_eqIn2 (d : Nat) (a b : Int) (w : World) : (Op.equalIn (d + 1) 3 (.int .i64 a) (.int .i64 b)).run Tryd.prog w = .ok (a == b) w := by
  simp [Op.equalIn, run_underlying Tryd.underlying3]
set_option maxRecDepth 100000 in
theorem pod_eqIn (x y : PodD) (w : World) : (Op.equalIn 10000 53 (aggP x) (aggP y)).run Tryd.prog w = .ok (podEq x y) w := by
  have hf : (Tryd.prog.fieldsOf 53).toList = [(⟨"Id", 3, 0, false, "", "", 0⟩ : Field), (⟨"Load", 3, 1, false, "", "", 8⟩ : Field), (⟨"Prio", 3, 2, false, "", "", 16⟩ : Field), (⟨"Req", 51, 3, false, "", "", 24⟩ : Field), (⟨"Node", 3, 7, false, "", "", 56⟩ : Field)] := by kernel_rfl
  rw [run_equalIn_struct w 9999 53 _ _ (by kernel_rfl) (by kernel_rfl), hf]
  clear hf
  refine (eqFields_cons (a := .int .i64 x.id) (b := .int .i64 y.id) (by decide) (part_int _ 0 _ rfl w) (part_int _ 0 _ rfl w) (int_eqIn2 9998 _ _ w) ?_).trans rfl
  refine (eqFields_cons (a := .int .i64 x.load) (b := .int .i64 y.load) (by decide) (part_int _ 1 _ rfl w) (part_int _ 1 _ rfl w) (int_eqIn2 9998 _ _ w) ?_)
  refine (eqFields_cons (a := .int .i64 x.prio) (b := .int .i64 y.prio) (by decide) (part_int _ 2 _ rfl w) (part_int _ 2 _ rfl w) (int_eqIn2 9998 _ _ w) ?_)
  refine (eqFields_cons (a := .agg #[.int .u64 x.req.a, .int .u64 x.req.b, .int .u64 x.req.c, .int .u64 x.req.d]) (b := .agg #[.int .u64 y.req.a, .int .u64 y.req.b, .int .u64 y.req.c, .int .u64 y.req.d]) (by decide) (part_vec _ 3 _ _ _ _ rfl w) (part_vec _ 3 _ _ _ _ rfl w) (vec_eqlIn 9997 _ _ _ _ _ _ _ _ w) ?_)
  refine (eqFields_cons (a := .int .i64 x.node) (b := .int .i64 y.node) (r := true) (by decide) (part_int _ 7 _ rfl w) (part_int _ 7 _ rfl w) (int_eqIn2 9998 _ _ w) ?_).trans (by rw [Bool.and_true])
  simp [Op.eqFields]
set_option maxRecDepth 100000 in
theorem pod_neq (x y : PodD) (w : World) : (binOp .neq 53 (aggP x) (aggP y)).run Tryd.prog w = .ok (.bool (!podEq x y)) w := by
  rw [run_neq_struct, pod_eqIn]
  rfl
theorem vec_neq (x y : V4) (w : World) : (binOp .neq 51 (aggV x) (aggV y)).run Tryd.prog w = .ok (.bool (!vecEq x y)) w := by
  simp only [binOp]
  simp [Op.equal, Op.maxDepth, vec_eqlIn 9998, vecEq]
theorem vec_is (x y : V4) (w : World) : (binOp .eql 51 (aggV x) (aggV y)).run Tryd.prog w = .ok (.bool (vecEq x y)) w := vec_eql _ _ _ _ _ _ _ _ w
end Go.Proofs.YtokghlmccecpfaaDoor

/- How a state is read as data; five arguments. -/
namespace Go.Proofs.YtokghlmccecpfaaDoor
set_option linter.unusedSimpArgs false
open Go.ChangeShapes Go.WideShapes Go.ChangeAt Go.RowKit

theorem Tryd.cellsT : Tryd.prog.cellsOf 31 = 3 := by kernel_rfl
section
variable {H : Type} {enc : TypeId × Value → H} {w : World} {base : Nat} {sp : Nat → Bool} {held : Bool}
set_option maxRecDepth 100000 in
/-- A state by value. -/
theorem open_state {r : Reach} {b0 : Nat} {v : Value} {d : DataW H} {ps : List MemPlace} (hval : Value.okWide Tryd.prog w r b0 31 v) (h : DataW.Trod enc Tryd.prog w base sp held 31 v d ps) :
    ∃ (t : StateD) (A : Option Addr) (c : Nat), v = .agg #[.slice A t.pods.length c, .int .i64 t.preempts, .int .i64 t.shifts] ∧ I64 t.preempts ∧ I64 t.shifts ∧
      (t.pods.length ≤ c ∧ c ≤ maxLen ∧ (A = none → c = 0) ∧ Recs 8 cellsP w w.heap.size A t.pods ∧ ∀ a ∈ t.pods, a.Ok) := by
  obtain ⟨v0, v1, v2, y0, y1, y2, n, rfl, _, _, h0, h1, h2⟩ := Go.Joins.open_agg3 Tryd.underlying31 (by kernel_rfl) Tryd.cellsT hval h
  obtain ⟨A, c, l, rfl, p⟩ := open_recs (Ok := PodD.Ok) Tryd.underlying24 Tryd.cellsP (by decide) (fun _ _ _ hl h => pod_of hl h) h0
  obtain ⟨k1, rfl, i1⟩ := int_of rfl h1
  obtain ⟨k2, rfl, i2⟩ := int_of rfl h2
  exact ⟨⟨l, k1, k2⟩, A, c, rfl, i1, i2, p⟩
end
section
variable {H : Type} {enc : TypeId × Value → H} {P : Program} {w : World} {base : Nat} {spare : Nat → Bool} {held : Bool}
theorem trodAll_five {t0 t1 t2 t3 t4 : TypeId} {args : Array Value} {ds : List (DataW H)} {ps : List MemPlace} (h : DataW.TrodAll enc P w base spare held [t0, t1, t2, t3, t4] args.toList ds ps) :
    ∃ v0 v1 v2 v3 v4 d0 d1 d2 d3 d4 p0 p1 p2 p3 p4, args = #[v0, v1, v2, v3, v4] ∧ ds = [d0, d1, d2, d3, d4] ∧ ps = p0 ++ p1 ++ p2 ++ p3 ++ p4 ∧ DataW.Trod enc P w base spare held t0 v0 d0 p0 ∧ DataW.Trod enc P w base spare held t1 v1 d1 p1 ∧ DataW.Trod enc P w base spare held t2 v2 d2 p2 ∧ DataW.Trod enc P w base spare held t3 v3 d3 p3 ∧ DataW.Trod enc P w base spare held t4 v4 d4 p4 := by
  obtain ⟨v0, vs0, d0, ds0, p0, q0, hargs, rfl, rfl, hd0, hrest0⟩ := trodAll_cons h
  obtain ⟨v1, vs1, d1, ds1, p1, q1, rfl, rfl, rfl, hd1, hrest1⟩ := trodAll_cons hrest0
  obtain ⟨v2, vs2, d2, ds2, p2, q2, rfl, rfl, rfl, hd2, hrest2⟩ := trodAll_cons hrest1
  obtain ⟨v3, vs3, d3, ds3, p3, q3, rfl, rfl, rfl, hd3, hrest3⟩ := trodAll_cons hrest2
  obtain ⟨v4, vs4, d4, ds4, p4, q4, rfl, rfl, rfl, hd4, hrest4⟩ := trodAll_cons hrest3
  obtain ⟨rfl, rfl, rfl⟩ := trodAll_nil hrest4
  exact ⟨v0, v1, v2, v3, v4, d0, d1, d2, d3, d4, p0, p1, p2, p3, p4, by cases args; simp_all, rfl, by simp, hd0, hd1, hd2, hd3, hd4⟩
theorem trodAll_mk5 {t0 t1 t2 t3 t4 : TypeId} {v0 v1 v2 v3 v4 : Value} {d0 d1 d2 d3 d4 : DataW H} {p0 p1 p2 p3 p4 : List MemPlace} (h0 : DataW.Trod enc P w base spare held t0 v0 d0 p0) (h1 : DataW.Trod enc P w base spare held t1 v1 d1 p1)
    (h2 : DataW.Trod enc P w base spare held t2 v2 d2 p2) (h3 : DataW.Trod enc P w base spare held t3 v3 d3 p3) (h4 : DataW.Trod enc P w base spare held t4 v4 d4 p4) : DataW.TrodAll enc P w base spare held [t0, t1, t2, t3, t4] [v0, v1, v2, v3, v4] [d0, d1, d2, d3, d4] (p0 ++ (p1 ++ (p2 ++ (p3 ++ p4)))) :=
  ⟨p0, p1 ++ (p2 ++ (p3 ++ p4)), h0, trodAll_mk4 h1 h2 h3 h4, rfl⟩
end
end Go.Proofs.YtokghlmccecpfaaDoor

/- The program's orderFault and idFault, at each kind of record. -/
namespace Go.Proofs.YtokghlmccecpfaaDoor
set_option linter.unusedSimpArgs false
open Go.RowKit
set_option linter.unusedVariables false

/-- What a region with loads and calls keeps: all blocks that there were are as they were. -/
def Keeps (W : World) (w' : World) : Prop := (∀ b o, b < W.heap.size → w'.cell? ⟨b, o, none⟩ = W.cell? ⟨b, o, none⟩) ∧ Below W.heap.size W w'
theorem Keeps.of {W v : World} (k : Below W.heap.size W v) : Keeps W v := ⟨fun b o h => k.cell (p := ⟨b, o, none⟩) h, k⟩
theorem Keeps.step {W v v' : World} (h : Keeps W v) (hb : Below v.heap.size v v') : Keeps W v' := Keeps.of (h.2.trans (hb.mono h.2.size))
theorem Keeps.alloc {W v : World} (h : Keeps W v) (o : Obj) : Keeps W (v.alloc o) := Keeps.of (h.2.alloc h.2.size o)
theorem Keeps.refl (W : World) : Keeps W W := Keeps.of (Below.refl _ _)
theorem Keeps.drew {W v : World} (h : Keeps W v) : Keeps W v.drew := Keeps.of (Below.drew h.2)
theorem Keeps.set {W v : World} {p : Addr} (h : Keeps W v) (hp : W.heap.size ≤ p.block) (x : Value) : Keeps W (v.setCell p x) := Keeps.of (h.2.setCell hp x)

/-- What is amiss with an Id beside the one ahead. -/
def ordI (last n : Int) : Int := if n = last then 5 else if n < last then 1 else 0
def idI (order n : Int) : Int := if order = 0 then (if inB n 1 2147483647 = true then 0 else 1) else order

end Go.Proofs.YtokghlmccecpfaaDoor

/- The program's find, at each kind of record: what is common. -/
namespace Go.Proofs.YtokghlmccecpfaaDoor
set_option linter.unusedSimpArgs false
open Go.RowKit
set_option linter.unusedVariables false

/-- The first one with that Id, true; or a zero one, false. -/
def FindTo {α : Type} (agg : α → Value) (zero : Value) (f : α → Int) (l : List α) (id : Int) (w : World) (e : Ending) (w' : World) : Prop :=
  ((place f id l 0 < 0 ∧ e = .returned (.tuple #[zero, .bool false])) ∨ ∃ (i : Nat) (h : i < l.length), place f id l 0 = i ∧ e = .returned (.tuple #[agg l[i], .bool true])) ∧ Below w.heap.size w w'
def FRel {α : Type} (f : α → Int) (id : Int) (l : List α) (W : World) (B : Nat) (i : Value) (wr : World) : Prop := ∃ k : Nat, k ≤ l.length ∧ i = .int .i64 k ∧ place f id (l.drop k) k = place f id l 0 ∧ Below B W wr
theorem place_found {α : Type} {f : α → Int} {id : Int} {l : List α} {k : Nat} (h : k < l.length) (he : f l[k] = id) (hp : place f id (l.drop k) k = place f id l 0) : place f id l 0 = k := place_here h he hp
end Go.Proofs.YtokghlmccecpfaaDoor

/- The program's find, at one kind of record. -/
namespace Go.Proofs.YtokghlmccecpfaaDoor
set_option linter.unusedSimpArgs false
open Go.RowKit
set_option linter.unusedVariables false

abbrev zeroN : Value := .agg #[.int .i64 0, .int .i64 0, .int .u64 0, .int .u64 0, .int .u64 0, .int .u64 0, .int .u64 0, .int .u64 0, .int .u64 0, .int .u64 0]
set_option maxHeartbeats 3200000 in
set_option maxRecDepth 100000 in
theorem findN_any (l : List NodeD) (id : Int) (A : Option Addr) (n c : Nat) (w : World) (hn : n = l.length) (hl : n ≤ 1000) (hr : Recs 10 cellsN w w.heap.size A l) :
    Calls Tryd.prog 39 #[.slice A n c, .int .i64 id, .func (.func 40) #[] #[]] w (FindTo aggN zeroN NodeD.id l id w) := by
  have HR := Lib.hid hr
  have HN := Lib.hid hn
  clear hr hn
  have b00 : Below w.heap.size w (w.alloc (.cells #[.int .i64 0, .int .i64 0, .int .u64 0, .int .u64 0, .int .u64 0, .int .u64 0, .int .u64 0, .int .u64 0, .int .u64 0, .int .u64 0] 74)) := (Below.refl _ _).alloc (Nat.le_refl _) _
  go_enter Tryd.func39, Tryd.ntmps39
  go_wp2
  go_loopw [13] (FRel NodeD.id id l (w.alloc (.cells #[.int .i64 0, .int .i64 0, .int .u64 0, .int .u64 0, .int .u64 0, .int .u64 0, .int .u64 0, .int .u64 0, .int .u64 0, .int .u64 0] 74)) (w.heap.size + 1)) (fun i _ => n - (intOf i).toNat)
  case atStart => exact ⟨0, by omega, rfl, rfl, Below.refl _ _⟩
  case round =>
    obtain ⟨k, hk, rfl, hp, hbr⟩ := hrel
    have HP := Lib.hid hp
    have hzr : w.heap.size + 1 ≤ wr.heap.size := by have := hbr.size; simpa using this
    have kwr : Below w.heap.size w wr := b00.trans (hbr.mono (by omega))
    clear hp
    by_cases hlt : k < n
    · have hkl : k < l.length := by have := HN.out; omega
      obtain ⟨b, o, rfl, hb, he⟩ := HR.out.at hkl
      generalize hx : l[k] = x at *
      have HX := Lib.hid hx
      clear hx
      have e0 : wr.cell? ⟨b, o + k * 10, none⟩ = some (.int .i64 x.id) := (kwr.cell (p := ⟨b, o + k * 10, none⟩) hb).trans (he 0 _ rfl)
      have e1 : wr.cell? ⟨b, o + k * 10 + 1, none⟩ = some (.int .i64 x.zone) := (kwr.cell (p := ⟨b, o + k * 10 + 1, none⟩) hb).trans (he 1 _ rfl)
      have e2 : wr.cell? ⟨b, o + k * 10 + 2, none⟩ = some (.int .u64 x.cap.a) := (kwr.cell (p := ⟨b, o + k * 10 + 2, none⟩) hb).trans (he 2 _ rfl)
      have e3 : wr.cell? ⟨b, o + k * 10 + 3, none⟩ = some (.int .u64 x.cap.b) := (kwr.cell (p := ⟨b, o + k * 10 + 3, none⟩) hb).trans (he 3 _ rfl)
      have e4 : wr.cell? ⟨b, o + k * 10 + 4, none⟩ = some (.int .u64 x.cap.c) := (kwr.cell (p := ⟨b, o + k * 10 + 4, none⟩) hb).trans (he 4 _ rfl)
      have e5 : wr.cell? ⟨b, o + k * 10 + 5, none⟩ = some (.int .u64 x.cap.d) := (kwr.cell (p := ⟨b, o + k * 10 + 5, none⟩) hb).trans (he 5 _ rfl)
      have e6 : wr.cell? ⟨b, o + k * 10 + 6, none⟩ = some (.int .u64 x.held.a) := (kwr.cell (p := ⟨b, o + k * 10 + 6, none⟩) hb).trans (he 6 _ rfl)
      have e7 : wr.cell? ⟨b, o + k * 10 + 7, none⟩ = some (.int .u64 x.held.b) := (kwr.cell (p := ⟨b, o + k * 10 + 7, none⟩) hb).trans (he 7 _ rfl)
      have e8 : wr.cell? ⟨b, o + k * 10 + 8, none⟩ = some (.int .u64 x.held.c) := (kwr.cell (p := ⟨b, o + k * 10 + 8, none⟩) hb).trans (he 8 _ rfl)
      have e9 : wr.cell? ⟨b, o + k * 10 + 9, none⟩ = some (.int .u64 x.held.d) := (kwr.cell (p := ⟨b, o + k * 10 + 9, none⟩) hb).trans (he 9 _ rfl)
      have hbw : b < wr.heap.size := by omega
      clear he
      go_wp2_with fail
      refine (idN_any x _).mono ?_
      rintro e w2 ⟨rfl, hb2⟩
      have k1 : Below (w.heap.size + 1) (w.alloc (.cells #[.int .i64 0, .int .i64 0, .int .u64 0, .int .u64 0, .int .u64 0, .int .u64 0, .int .u64 0, .int .u64 0, .int .u64 0, .int .u64 0] 74)) (wr.alloc (.cells #[.int .i64 x.id, .int .i64 x.zone, .int .u64 x.cap.a, .int .u64 x.cap.b, .int .u64 x.cap.c, .int .u64 x.cap.d, .int .u64 x.held.a, .int .u64 x.held.b, .int .u64 x.held.c, .int .u64 x.held.d] 74)) := hbr.alloc hzr _
      have k2 : Below (w.heap.size + 1) (w.alloc (.cells #[.int .i64 0, .int .i64 0, .int .u64 0, .int .u64 0, .int .u64 0, .int .u64 0, .int .u64 0, .int .u64 0, .int .u64 0, .int .u64 0] 74)) w2 := k1.trans (hb2.mono (by simp; omega))
      have kw2 : Below w.heap.size w w2 := b00.trans (k2.mono (by omega))
      clear e0 e1 e2 e3 e4 e5 e6 e7 e8 e9
      by_cases hid : x.id = id
      · have HE := Lib.hid (place_found hkl (by rw [HX.out]; exact hid) HP.out)
        subst hid
        have f0 : w2.cell? ⟨wr.heap.size, 0, none⟩ = some (.int .i64 x.id) := (hb2.cell (p := ⟨wr.heap.size, 0, none⟩) (by simp)).trans (by simp)
        have f1 : w2.cell? ⟨wr.heap.size, 1, none⟩ = some (.int .i64 x.zone) := (hb2.cell (p := ⟨wr.heap.size, 1, none⟩) (by simp)).trans (by simp)
        have f2 : w2.cell? ⟨wr.heap.size, 2, none⟩ = some (.int .u64 x.cap.a) := (hb2.cell (p := ⟨wr.heap.size, 2, none⟩) (by simp)).trans (by simp)
        have f3 : w2.cell? ⟨wr.heap.size, 3, none⟩ = some (.int .u64 x.cap.b) := (hb2.cell (p := ⟨wr.heap.size, 3, none⟩) (by simp)).trans (by simp)
        have f4 : w2.cell? ⟨wr.heap.size, 4, none⟩ = some (.int .u64 x.cap.c) := (hb2.cell (p := ⟨wr.heap.size, 4, none⟩) (by simp)).trans (by simp)
        have f5 : w2.cell? ⟨wr.heap.size, 5, none⟩ = some (.int .u64 x.cap.d) := (hb2.cell (p := ⟨wr.heap.size, 5, none⟩) (by simp)).trans (by simp)
        have f6 : w2.cell? ⟨wr.heap.size, 6, none⟩ = some (.int .u64 x.held.a) := (hb2.cell (p := ⟨wr.heap.size, 6, none⟩) (by simp)).trans (by simp)
        have f7 : w2.cell? ⟨wr.heap.size, 7, none⟩ = some (.int .u64 x.held.b) := (hb2.cell (p := ⟨wr.heap.size, 7, none⟩) (by simp)).trans (by simp)
        have f8 : w2.cell? ⟨wr.heap.size, 8, none⟩ = some (.int .u64 x.held.c) := (hb2.cell (p := ⟨wr.heap.size, 8, none⟩) (by simp)).trans (by simp)
        have f9 : w2.cell? ⟨wr.heap.size, 9, none⟩ = some (.int .u64 x.held.d) := (hb2.cell (p := ⟨wr.heap.size, 9, none⟩) (by simp)).trans (by simp)
        have g0 : w2.cell? ⟨w.heap.size, 0, none⟩ = some (.int .i64 0) := (k2.cell (p := ⟨w.heap.size, 0, none⟩) (by show w.heap.size < w.heap.size + 1; omega)).trans (by simp)
        have h0 : w2.frozen? ⟨w.heap.size, 0, none⟩ = false := (k2.frozen (p := ⟨w.heap.size, 0, none⟩) (by show w.heap.size < w.heap.size + 1; omega)).trans (by simp)
        have g1 : w2.cell? ⟨w.heap.size, 1, none⟩ = some (.int .i64 0) := (k2.cell (p := ⟨w.heap.size, 1, none⟩) (by show w.heap.size < w.heap.size + 1; omega)).trans (by simp)
        have h1 : w2.frozen? ⟨w.heap.size, 1, none⟩ = false := (k2.frozen (p := ⟨w.heap.size, 1, none⟩) (by show w.heap.size < w.heap.size + 1; omega)).trans (by simp)
        have g2 : w2.cell? ⟨w.heap.size, 2, none⟩ = some (.int .u64 0) := (k2.cell (p := ⟨w.heap.size, 2, none⟩) (by show w.heap.size < w.heap.size + 1; omega)).trans (by simp)
        have h2 : w2.frozen? ⟨w.heap.size, 2, none⟩ = false := (k2.frozen (p := ⟨w.heap.size, 2, none⟩) (by show w.heap.size < w.heap.size + 1; omega)).trans (by simp)
        have g3 : w2.cell? ⟨w.heap.size, 3, none⟩ = some (.int .u64 0) := (k2.cell (p := ⟨w.heap.size, 3, none⟩) (by show w.heap.size < w.heap.size + 1; omega)).trans (by simp)
        have h3 : w2.frozen? ⟨w.heap.size, 3, none⟩ = false := (k2.frozen (p := ⟨w.heap.size, 3, none⟩) (by show w.heap.size < w.heap.size + 1; omega)).trans (by simp)
        have g4 : w2.cell? ⟨w.heap.size, 4, none⟩ = some (.int .u64 0) := (k2.cell (p := ⟨w.heap.size, 4, none⟩) (by show w.heap.size < w.heap.size + 1; omega)).trans (by simp)
        have h4 : w2.frozen? ⟨w.heap.size, 4, none⟩ = false := (k2.frozen (p := ⟨w.heap.size, 4, none⟩) (by show w.heap.size < w.heap.size + 1; omega)).trans (by simp)
        have g5 : w2.cell? ⟨w.heap.size, 5, none⟩ = some (.int .u64 0) := (k2.cell (p := ⟨w.heap.size, 5, none⟩) (by show w.heap.size < w.heap.size + 1; omega)).trans (by simp)
        have h5 : w2.frozen? ⟨w.heap.size, 5, none⟩ = false := (k2.frozen (p := ⟨w.heap.size, 5, none⟩) (by show w.heap.size < w.heap.size + 1; omega)).trans (by simp)
        have g6 : w2.cell? ⟨w.heap.size, 6, none⟩ = some (.int .u64 0) := (k2.cell (p := ⟨w.heap.size, 6, none⟩) (by show w.heap.size < w.heap.size + 1; omega)).trans (by simp)
        have h6 : w2.frozen? ⟨w.heap.size, 6, none⟩ = false := (k2.frozen (p := ⟨w.heap.size, 6, none⟩) (by show w.heap.size < w.heap.size + 1; omega)).trans (by simp)
        have g7 : w2.cell? ⟨w.heap.size, 7, none⟩ = some (.int .u64 0) := (k2.cell (p := ⟨w.heap.size, 7, none⟩) (by show w.heap.size < w.heap.size + 1; omega)).trans (by simp)
        have h7 : w2.frozen? ⟨w.heap.size, 7, none⟩ = false := (k2.frozen (p := ⟨w.heap.size, 7, none⟩) (by show w.heap.size < w.heap.size + 1; omega)).trans (by simp)
        have g8 : w2.cell? ⟨w.heap.size, 8, none⟩ = some (.int .u64 0) := (k2.cell (p := ⟨w.heap.size, 8, none⟩) (by show w.heap.size < w.heap.size + 1; omega)).trans (by simp)
        have h8 : w2.frozen? ⟨w.heap.size, 8, none⟩ = false := (k2.frozen (p := ⟨w.heap.size, 8, none⟩) (by show w.heap.size < w.heap.size + 1; omega)).trans (by simp)
        have g9 : w2.cell? ⟨w.heap.size, 9, none⟩ = some (.int .u64 0) := (k2.cell (p := ⟨w.heap.size, 9, none⟩) (by show w.heap.size < w.heap.size + 1; omega)).trans (by simp)
        have h9 : w2.frozen? ⟨w.heap.size, 9, none⟩ = false := (k2.frozen (p := ⟨w.heap.size, 9, none⟩) (by show w.heap.size < w.heap.size + 1; omega)).trans (by simp)
        go_wp2
        refine bodyPost_ret (v := .tuple #[aggN x, .bool true]) ?_ rfl ?_
        · simp [results, Tryd.results39, go_sem, *]
        · refine ⟨.inr ⟨k, hkl, HE.out, by rw [HX.out]⟩, ?_⟩
          repeat (first | with_reducible exact kw2 | with_reducible refine Below.setCell ?_ ?_ _)
          all_goals exact Nat.le_refl _
      · have HE := Lib.hid (place_step hkl (by rw [HX.out]; exact hid) HP.out)
        go_wp2
        go_roundw
        case rel => exact ⟨k + 1, by omega, by go_num, HE.out, k2⟩
        case measure => simp [intOf]; omega
    · have HE := Lib.hid (place_end (by have := HN.out; omega) HP.out)
      have g0 : wr.cell? ⟨w.heap.size, 0, none⟩ = some (.int .i64 0) := (hbr.cell (p := ⟨w.heap.size, 0, none⟩) (by show w.heap.size < w.heap.size + 1; omega)).trans (by simp)
      have h0 : wr.frozen? ⟨w.heap.size, 0, none⟩ = false := (hbr.frozen (p := ⟨w.heap.size, 0, none⟩) (by show w.heap.size < w.heap.size + 1; omega)).trans (by simp)
      have g1 : wr.cell? ⟨w.heap.size, 1, none⟩ = some (.int .i64 0) := (hbr.cell (p := ⟨w.heap.size, 1, none⟩) (by show w.heap.size < w.heap.size + 1; omega)).trans (by simp)
      have h1 : wr.frozen? ⟨w.heap.size, 1, none⟩ = false := (hbr.frozen (p := ⟨w.heap.size, 1, none⟩) (by show w.heap.size < w.heap.size + 1; omega)).trans (by simp)
      have g2 : wr.cell? ⟨w.heap.size, 2, none⟩ = some (.int .u64 0) := (hbr.cell (p := ⟨w.heap.size, 2, none⟩) (by show w.heap.size < w.heap.size + 1; omega)).trans (by simp)
      have h2 : wr.frozen? ⟨w.heap.size, 2, none⟩ = false := (hbr.frozen (p := ⟨w.heap.size, 2, none⟩) (by show w.heap.size < w.heap.size + 1; omega)).trans (by simp)
      have g3 : wr.cell? ⟨w.heap.size, 3, none⟩ = some (.int .u64 0) := (hbr.cell (p := ⟨w.heap.size, 3, none⟩) (by show w.heap.size < w.heap.size + 1; omega)).trans (by simp)
      have h3 : wr.frozen? ⟨w.heap.size, 3, none⟩ = false := (hbr.frozen (p := ⟨w.heap.size, 3, none⟩) (by show w.heap.size < w.heap.size + 1; omega)).trans (by simp)
      have g4 : wr.cell? ⟨w.heap.size, 4, none⟩ = some (.int .u64 0) := (hbr.cell (p := ⟨w.heap.size, 4, none⟩) (by show w.heap.size < w.heap.size + 1; omega)).trans (by simp)
      have h4 : wr.frozen? ⟨w.heap.size, 4, none⟩ = false := (hbr.frozen (p := ⟨w.heap.size, 4, none⟩) (by show w.heap.size < w.heap.size + 1; omega)).trans (by simp)
      have g5 : wr.cell? ⟨w.heap.size, 5, none⟩ = some (.int .u64 0) := (hbr.cell (p := ⟨w.heap.size, 5, none⟩) (by show w.heap.size < w.heap.size + 1; omega)).trans (by simp)
      have h5 : wr.frozen? ⟨w.heap.size, 5, none⟩ = false := (hbr.frozen (p := ⟨w.heap.size, 5, none⟩) (by show w.heap.size < w.heap.size + 1; omega)).trans (by simp)
      have g6 : wr.cell? ⟨w.heap.size, 6, none⟩ = some (.int .u64 0) := (hbr.cell (p := ⟨w.heap.size, 6, none⟩) (by show w.heap.size < w.heap.size + 1; omega)).trans (by simp)
      have h6 : wr.frozen? ⟨w.heap.size, 6, none⟩ = false := (hbr.frozen (p := ⟨w.heap.size, 6, none⟩) (by show w.heap.size < w.heap.size + 1; omega)).trans (by simp)
      have g7 : wr.cell? ⟨w.heap.size, 7, none⟩ = some (.int .u64 0) := (hbr.cell (p := ⟨w.heap.size, 7, none⟩) (by show w.heap.size < w.heap.size + 1; omega)).trans (by simp)
      have h7 : wr.frozen? ⟨w.heap.size, 7, none⟩ = false := (hbr.frozen (p := ⟨w.heap.size, 7, none⟩) (by show w.heap.size < w.heap.size + 1; omega)).trans (by simp)
      have g8 : wr.cell? ⟨w.heap.size, 8, none⟩ = some (.int .u64 0) := (hbr.cell (p := ⟨w.heap.size, 8, none⟩) (by show w.heap.size < w.heap.size + 1; omega)).trans (by simp)
      have h8 : wr.frozen? ⟨w.heap.size, 8, none⟩ = false := (hbr.frozen (p := ⟨w.heap.size, 8, none⟩) (by show w.heap.size < w.heap.size + 1; omega)).trans (by simp)
      have g9 : wr.cell? ⟨w.heap.size, 9, none⟩ = some (.int .u64 0) := (hbr.cell (p := ⟨w.heap.size, 9, none⟩) (by show w.heap.size < w.heap.size + 1; omega)).trans (by simp)
      have h9 : wr.frozen? ⟨w.heap.size, 9, none⟩ = false := (hbr.frozen (p := ⟨w.heap.size, 9, none⟩) (by show w.heap.size < w.heap.size + 1; omega)).trans (by simp)
      have hwl : w.heap.size < wr.heap.size := by omega
      have hne : w.heap.size ≠ wr.heap.size := by omega
      go_wp2
      refine bodyPost_ret (v := .tuple #[zeroN, .bool false]) ?_ rfl ?_
      · simp [results, Tryd.results39, go_sem, *]
      · refine ⟨.inl ⟨by rw [HE.out]; decide, rfl⟩, ?_⟩
        have kwa : Below w.heap.size w (wr.alloc (.cells #[.int .i64 0, .int .i64 0, .int .u64 0, .int .u64 0, .int .u64 0, .int .u64 0, .int .u64 0, .int .u64 0, .int .u64 0, .int .u64 0] 74)) := kwr.alloc (by omega) _
        clear kwa
        repeat (first | with_reducible exact kwr | with_reducible refine Below.setCell ?_ ?_ _ | with_reducible refine Below.alloc ?_ ?_ _)
        all_goals first | (simp; done) | (simp; omega)

end Go.Proofs.YtokghlmccecpfaaDoor

/- The program's find, at one kind of record. -/
namespace Go.Proofs.YtokghlmccecpfaaDoor
set_option linter.unusedSimpArgs false
open Go.RowKit
set_option linter.unusedVariables false

abbrev zeroL : Value := .agg #[.int .i64 0, .bool false, .int .i64 0, .int .i64 0, .int .i64 0]
end Go.Proofs.YtokghlmccecpfaaDoor

/- The program's find, at one kind of record. -/
namespace Go.Proofs.YtokghlmccecpfaaDoor
set_option linter.unusedSimpArgs false
open Go.RowKit
set_option linter.unusedVariables false

abbrev zeroP : Value := .agg #[.int .i64 0, .int .i64 0, .int .i64 0, .int .u64 0, .int .u64 0, .int .u64 0, .int .u64 0, .int .i64 0]
end Go.Proofs.YtokghlmccecpfaaDoor

namespace Go.Proofs.YtokghlmccecpfaaDoor
set_option linter.unusedSimpArgs false
open Go.RowKit
set_option linter.unusedVariables false

abbrev zeroW : Value := .agg #[.int .i64 0, .int .u64 0, .int .u64 0, .int .u64 0, .int .u64 0, .bool false]
set_option maxHeartbeats 3200000 in
set_option maxRecDepth 100000 in
theorem findW_any (l : List WantD) (id : Int) (A : Option Addr) (n c : Nat) (w : World) (hn : n = l.length) (hl : n ≤ 1000) (hr : Recs 6 cellsW w w.heap.size A l) :
    Calls Tryd.prog 44 #[.slice A n c, .int .i64 id, .func (.func 45) #[] #[]] w (FindTo aggW zeroW WantD.pod l id w) := by
  have HR := Lib.hid hr
  have HN := Lib.hid hn
  clear hr hn
  have b00 : Below w.heap.size w (w.alloc (.cells #[.int .i64 0, .int .u64 0, .int .u64 0, .int .u64 0, .int .u64 0, .bool false] 99)) := (Below.refl _ _).alloc (Nat.le_refl _) _
  go_enter Tryd.func44, Tryd.ntmps44
  go_wp2
  go_loopw [13] (FRel WantD.pod id l (w.alloc (.cells #[.int .i64 0, .int .u64 0, .int .u64 0, .int .u64 0, .int .u64 0, .bool false] 99)) (w.heap.size + 1)) (fun i _ => n - (intOf i).toNat)
  case atStart => exact ⟨0, by omega, rfl, rfl, Below.refl _ _⟩
  case round =>
    obtain ⟨k, hk, rfl, hp, hbr⟩ := hrel
    have HP := Lib.hid hp
    have hzr : w.heap.size + 1 ≤ wr.heap.size := by have := hbr.size; simpa using this
    have kwr : Below w.heap.size w wr := b00.trans (hbr.mono (by omega))
    clear hp
    by_cases hlt : k < n
    · have hkl : k < l.length := by have := HN.out; omega
      obtain ⟨b, o, rfl, hb, he⟩ := HR.out.at hkl
      generalize hx : l[k] = x at *
      have HX := Lib.hid hx
      clear hx
      have e0 : wr.cell? ⟨b, o + k * 6, none⟩ = some (.int .i64 x.pod) := (kwr.cell (p := ⟨b, o + k * 6, none⟩) hb).trans (he 0 _ rfl)
      have e1 : wr.cell? ⟨b, o + k * 6 + 1, none⟩ = some (.int .u64 x.req.a) := (kwr.cell (p := ⟨b, o + k * 6 + 1, none⟩) hb).trans (he 1 _ rfl)
      have e2 : wr.cell? ⟨b, o + k * 6 + 2, none⟩ = some (.int .u64 x.req.b) := (kwr.cell (p := ⟨b, o + k * 6 + 2, none⟩) hb).trans (he 2 _ rfl)
      have e3 : wr.cell? ⟨b, o + k * 6 + 3, none⟩ = some (.int .u64 x.req.c) := (kwr.cell (p := ⟨b, o + k * 6 + 3, none⟩) hb).trans (he 3 _ rfl)
      have e4 : wr.cell? ⟨b, o + k * 6 + 4, none⟩ = some (.int .u64 x.req.d) := (kwr.cell (p := ⟨b, o + k * 6 + 4, none⟩) hb).trans (he 4 _ rfl)
      have e5 : wr.cell? ⟨b, o + k * 6 + 5, none⟩ = some (.bool x.stay) := (kwr.cell (p := ⟨b, o + k * 6 + 5, none⟩) hb).trans (he 5 _ rfl)
      have hbw : b < wr.heap.size := by omega
      clear he
      go_wp2_with fail
      refine (idW_any x _).mono ?_
      rintro e w2 ⟨rfl, hb2⟩
      have k1 : Below (w.heap.size + 1) (w.alloc (.cells #[.int .i64 0, .int .u64 0, .int .u64 0, .int .u64 0, .int .u64 0, .bool false] 99)) (wr.alloc (.cells #[.int .i64 x.pod, .int .u64 x.req.a, .int .u64 x.req.b, .int .u64 x.req.c, .int .u64 x.req.d, .bool x.stay] 99)) := hbr.alloc hzr _
      have k2 : Below (w.heap.size + 1) (w.alloc (.cells #[.int .i64 0, .int .u64 0, .int .u64 0, .int .u64 0, .int .u64 0, .bool false] 99)) w2 := k1.trans (hb2.mono (by simp; omega))
      have kw2 : Below w.heap.size w w2 := b00.trans (k2.mono (by omega))
      clear e0 e1 e2 e3 e4 e5
      by_cases hid : x.pod = id
      · have HE := Lib.hid (place_found hkl (by rw [HX.out]; exact hid) HP.out)
        subst hid
        have f0 : w2.cell? ⟨wr.heap.size, 0, none⟩ = some (.int .i64 x.pod) := (hb2.cell (p := ⟨wr.heap.size, 0, none⟩) (by simp)).trans (by simp)
        have f1 : w2.cell? ⟨wr.heap.size, 1, none⟩ = some (.int .u64 x.req.a) := (hb2.cell (p := ⟨wr.heap.size, 1, none⟩) (by simp)).trans (by simp)
        have f2 : w2.cell? ⟨wr.heap.size, 2, none⟩ = some (.int .u64 x.req.b) := (hb2.cell (p := ⟨wr.heap.size, 2, none⟩) (by simp)).trans (by simp)
        have f3 : w2.cell? ⟨wr.heap.size, 3, none⟩ = some (.int .u64 x.req.c) := (hb2.cell (p := ⟨wr.heap.size, 3, none⟩) (by simp)).trans (by simp)
        have f4 : w2.cell? ⟨wr.heap.size, 4, none⟩ = some (.int .u64 x.req.d) := (hb2.cell (p := ⟨wr.heap.size, 4, none⟩) (by simp)).trans (by simp)
        have f5 : w2.cell? ⟨wr.heap.size, 5, none⟩ = some (.bool x.stay) := (hb2.cell (p := ⟨wr.heap.size, 5, none⟩) (by simp)).trans (by simp)
        have g0 : w2.cell? ⟨w.heap.size, 0, none⟩ = some (.int .i64 0) := (k2.cell (p := ⟨w.heap.size, 0, none⟩) (by show w.heap.size < w.heap.size + 1; omega)).trans (by simp)
        have h0 : w2.frozen? ⟨w.heap.size, 0, none⟩ = false := (k2.frozen (p := ⟨w.heap.size, 0, none⟩) (by show w.heap.size < w.heap.size + 1; omega)).trans (by simp)
        have g1 : w2.cell? ⟨w.heap.size, 1, none⟩ = some (.int .u64 0) := (k2.cell (p := ⟨w.heap.size, 1, none⟩) (by show w.heap.size < w.heap.size + 1; omega)).trans (by simp)
        have h1 : w2.frozen? ⟨w.heap.size, 1, none⟩ = false := (k2.frozen (p := ⟨w.heap.size, 1, none⟩) (by show w.heap.size < w.heap.size + 1; omega)).trans (by simp)
        have g2 : w2.cell? ⟨w.heap.size, 2, none⟩ = some (.int .u64 0) := (k2.cell (p := ⟨w.heap.size, 2, none⟩) (by show w.heap.size < w.heap.size + 1; omega)).trans (by simp)
        have h2 : w2.frozen? ⟨w.heap.size, 2, none⟩ = false := (k2.frozen (p := ⟨w.heap.size, 2, none⟩) (by show w.heap.size < w.heap.size + 1; omega)).trans (by simp)
        have g3 : w2.cell? ⟨w.heap.size, 3, none⟩ = some (.int .u64 0) := (k2.cell (p := ⟨w.heap.size, 3, none⟩) (by show w.heap.size < w.heap.size + 1; omega)).trans (by simp)
        have h3 : w2.frozen? ⟨w.heap.size, 3, none⟩ = false := (k2.frozen (p := ⟨w.heap.size, 3, none⟩) (by show w.heap.size < w.heap.size + 1; omega)).trans (by simp)
        have g4 : w2.cell? ⟨w.heap.size, 4, none⟩ = some (.int .u64 0) := (k2.cell (p := ⟨w.heap.size, 4, none⟩) (by show w.heap.size < w.heap.size + 1; omega)).trans (by simp)
        have h4 : w2.frozen? ⟨w.heap.size, 4, none⟩ = false := (k2.frozen (p := ⟨w.heap.size, 4, none⟩) (by show w.heap.size < w.heap.size + 1; omega)).trans (by simp)
        have g5 : w2.cell? ⟨w.heap.size, 5, none⟩ = some (.bool false) := (k2.cell (p := ⟨w.heap.size, 5, none⟩) (by show w.heap.size < w.heap.size + 1; omega)).trans (by simp)
        have h5 : w2.frozen? ⟨w.heap.size, 5, none⟩ = false := (k2.frozen (p := ⟨w.heap.size, 5, none⟩) (by show w.heap.size < w.heap.size + 1; omega)).trans (by simp)
        go_wp2
        refine bodyPost_ret (v := .tuple #[aggW x, .bool true]) ?_ rfl ?_
        · simp [results, Tryd.results44, go_sem, *]
        · refine ⟨.inr ⟨k, hkl, HE.out, by rw [HX.out]⟩, ?_⟩
          repeat (first | with_reducible exact kw2 | with_reducible refine Below.setCell ?_ ?_ _)
          all_goals exact Nat.le_refl _
      · have HE := Lib.hid (place_step hkl (by rw [HX.out]; exact hid) HP.out)
        go_wp2
        go_roundw
        case rel => exact ⟨k + 1, by omega, by go_num, HE.out, k2⟩
        case measure => simp [intOf]; omega
    · have HE := Lib.hid (place_end (by have := HN.out; omega) HP.out)
      have g0 : wr.cell? ⟨w.heap.size, 0, none⟩ = some (.int .i64 0) := (hbr.cell (p := ⟨w.heap.size, 0, none⟩) (by show w.heap.size < w.heap.size + 1; omega)).trans (by simp)
      have h0 : wr.frozen? ⟨w.heap.size, 0, none⟩ = false := (hbr.frozen (p := ⟨w.heap.size, 0, none⟩) (by show w.heap.size < w.heap.size + 1; omega)).trans (by simp)
      have g1 : wr.cell? ⟨w.heap.size, 1, none⟩ = some (.int .u64 0) := (hbr.cell (p := ⟨w.heap.size, 1, none⟩) (by show w.heap.size < w.heap.size + 1; omega)).trans (by simp)
      have h1 : wr.frozen? ⟨w.heap.size, 1, none⟩ = false := (hbr.frozen (p := ⟨w.heap.size, 1, none⟩) (by show w.heap.size < w.heap.size + 1; omega)).trans (by simp)
      have g2 : wr.cell? ⟨w.heap.size, 2, none⟩ = some (.int .u64 0) := (hbr.cell (p := ⟨w.heap.size, 2, none⟩) (by show w.heap.size < w.heap.size + 1; omega)).trans (by simp)
      have h2 : wr.frozen? ⟨w.heap.size, 2, none⟩ = false := (hbr.frozen (p := ⟨w.heap.size, 2, none⟩) (by show w.heap.size < w.heap.size + 1; omega)).trans (by simp)
      have g3 : wr.cell? ⟨w.heap.size, 3, none⟩ = some (.int .u64 0) := (hbr.cell (p := ⟨w.heap.size, 3, none⟩) (by show w.heap.size < w.heap.size + 1; omega)).trans (by simp)
      have h3 : wr.frozen? ⟨w.heap.size, 3, none⟩ = false := (hbr.frozen (p := ⟨w.heap.size, 3, none⟩) (by show w.heap.size < w.heap.size + 1; omega)).trans (by simp)
      have g4 : wr.cell? ⟨w.heap.size, 4, none⟩ = some (.int .u64 0) := (hbr.cell (p := ⟨w.heap.size, 4, none⟩) (by show w.heap.size < w.heap.size + 1; omega)).trans (by simp)
      have h4 : wr.frozen? ⟨w.heap.size, 4, none⟩ = false := (hbr.frozen (p := ⟨w.heap.size, 4, none⟩) (by show w.heap.size < w.heap.size + 1; omega)).trans (by simp)
      have g5 : wr.cell? ⟨w.heap.size, 5, none⟩ = some (.bool false) := (hbr.cell (p := ⟨w.heap.size, 5, none⟩) (by show w.heap.size < w.heap.size + 1; omega)).trans (by simp)
      have h5 : wr.frozen? ⟨w.heap.size, 5, none⟩ = false := (hbr.frozen (p := ⟨w.heap.size, 5, none⟩) (by show w.heap.size < w.heap.size + 1; omega)).trans (by simp)
      have hwl : w.heap.size < wr.heap.size := by omega
      have hne : w.heap.size ≠ wr.heap.size := by omega
      go_wp2
      refine bodyPost_ret (v := .tuple #[zeroW, .bool false]) ?_ rfl ?_
      · simp [results, Tryd.results44, go_sem, *]
      · refine ⟨.inl ⟨by rw [HE.out]; decide, rfl⟩, ?_⟩
        have kwa : Below w.heap.size w (wr.alloc (.cells #[.int .i64 0, .int .u64 0, .int .u64 0, .int .u64 0, .int .u64 0, .bool false] 99)) := kwr.alloc (by omega) _
        clear kwa
        repeat (first | with_reducible exact kwr | with_reducible refine Below.setCell ?_ ?_ _ | with_reducible refine Below.alloc ?_ ?_ _)
        all_goals first | (simp; done) | (simp; omega)

end Go.Proofs.YtokghlmccecpfaaDoor
