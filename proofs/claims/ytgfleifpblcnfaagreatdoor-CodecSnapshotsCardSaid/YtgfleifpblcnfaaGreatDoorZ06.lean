/- Joined texts, part 6: FM FN FO FP GA. -/
import Derived.Test.YtgfleifpblcnfaaGreatDoorZ01
import Derived.Test.YtgfleifpblcnfaaGreatDoorZ02
import Derived.Test.YtgfleifpblcnfaaGreatDoorZ05

/- Plain mathematics of layer 4: records as numbers, one behind the other, and back; no program stands in it. -/
namespace Go.Proofs.YtgfleifpblcnfaaGreatDoor
set_option linter.unusedSimpArgs false

structure MoveD where
  kind : Int
  pod : Int
  node : Int
  over : Int

/-- A kind of record: how many numbers it has, what they are, and back; which numbers may be one's. -/
structure Kind (α : Type) where
  size : Nat
  nums : α → List Int
  get : List Int → α
  ok : List Int → Bool
  len : ∀ x, (nums x).length = size
  back : ∀ x, get (nums x) = x
  once : ∀ c, c.length = size → ok c = true → nums (get c) = c

section
variable {α : Type} (K : Kind α)
def parse : Nat → List Int → List α
  | 0, _ => []
  | n + 1, l => K.get (l.take K.size) :: parse n (l.drop K.size)
def fine : Nat → List Int → Bool
  | 0, _ => true
  | n + 1, l => K.ok (l.take K.size) && fine n (l.drop K.size)
theorem parse_length : ∀ (n : Nat) (l : List Int), (parse K n l).length = n
  | 0, _ => rfl
  | n + 1, l => by simp [parse, parse_length n]
/-- What was written is read as it was. -/
theorem parse_flat : ∀ (xs : List α) (rest : List Int), parse K xs.length (xs.flatMap K.nums ++ rest) = xs
  | [], rest => rfl
  | x :: r, rest => by
    have e : (x :: r).flatMap K.nums ++ rest = K.nums x ++ (r.flatMap K.nums ++ rest) := by simp
    show parse K (r.length + 1) _ = _
    rw [e, parse, List.take_left' (K.len x), List.drop_left' (K.len x), K.back, parse_flat r rest]
/-- What is read is written as it was. -/
theorem flat_parse : ∀ (n : Nat) (l : List Int), n * K.size ≤ l.length → fine K n l = true → (parse K n l).flatMap K.nums = l.take (n * K.size)
  | 0, l, _, _ => by simp [parse]
  | n + 1, l, hl, hf => by
    simp only [fine, Bool.and_eq_true] at hf
    have hs : K.size ≤ l.length := by rw [Nat.add_one_mul] at hl; omega
    have h1 := K.once (l.take K.size) (by simp; omega) hf.1
    have h2 := flat_parse n (l.drop K.size) (by rw [List.length_drop]; rw [Nat.add_one_mul] at hl; omega) hf.2
    simp only [parse, List.flatMap_cons, h1, h2]
    rw [Nat.add_one_mul, Nat.add_comm, List.take_add]
theorem flat_length (xs : List α) : (xs.flatMap K.nums).length = xs.length * K.size := by
  induction xs with
  | nil => simp
  | cons x r ih => simp only [List.flatMap_cons, List.length_append, List.length_cons, ih, K.len, Nat.add_one_mul]; omega
theorem parse_get : ∀ (n : Nat) (l : List Int) (i : Nat) (h : i < n), (parse K n l)[i]'(by rw [parse_length]; exact h) = K.get ((l.drop (i * K.size)).take K.size)
  | 0, _, _, h => by omega
  | n + 1, l, 0, _ => by simp [parse]
  | n + 1, l, i + 1, h => by
    have := parse_get n (l.drop K.size) i (by omega)
    simp only [parse, List.getElem_cons_succ, this, List.drop_drop, Nat.add_one_mul]
    rw [Nat.add_comm]
theorem fine_iff : ∀ (n : Nat) (l : List Int), fine K n l = true ↔ ∀ i, i < n → K.ok ((l.drop (i * K.size)).take K.size) = true
  | 0, l => by simp [fine]
  | n + 1, l => by
    simp only [fine, Bool.and_eq_true, fine_iff n]
    constructor
    · rintro ⟨h1, h2⟩ i hi
      cases i with
      | zero => simpa using h1
      | succ i =>
        have := h2 i (by omega)
        rw [List.drop_drop] at this
        rwa [Nat.add_one_mul, Nat.add_comm]
    · intro h
      refine ⟨by simpa using h 0 (by omega), fun i hi => ?_⟩
      have := h (i + 1) (by omega)
      rw [List.drop_drop]
      rwa [Nat.add_one_mul, Nat.add_comm] at this
end

def truthN (b : Bool) : Int := if b then 1 else 0
def smallN (n : Int) : Bool := decide (n ≤ 2147483647)
def bitN (n : Int) : Bool := decide (n = 0 ∨ n = 1)
theorem truth_back (b : Bool) : (truthN b == 1) = b := by cases b <;> rfl
theorem truth_once {n : Int} (h : bitN n = true) : truthN (n == 1) = n := by
  unfold bitN at h
  rcases of_decide_eq_true h with h | h <;> subst h <;> rfl

theorem take_5 {l : List Int} (h : l.length = 5) : ∃ a b c d e, l = [a, b, c, d, e] := by
  match l, h with
  | [a, b, c, d, e], _ => exact ⟨a, b, c, d, e, rfl⟩
theorem take_4 {l : List Int} (h : l.length = 4) : ∃ a b c d, l = [a, b, c, d] := by
  match l, h with
  | [a, b, c, d], _ => exact ⟨a, b, c, d, rfl⟩
theorem take_6 {l : List Int} (h : l.length = 6) : ∃ a b c d e f, l = [a, b, c, d, e, f] := by
  match l, h with
  | [a, b, c, d, e, f], _ => exact ⟨a, b, c, d, e, f, rfl⟩
theorem take_8 {l : List Int} (h : l.length = 8) : ∃ a b c d e f g i, l = [a, b, c, d, e, f, g, i] := by
  match l, h with
  | [a, b, c, d, e, f, g, i], _ => exact ⟨a, b, c, d, e, f, g, i, rfl⟩
theorem take_10 {l : List Int} (h : l.length = 10) : ∃ a b c d e f g i j k, l = [a, b, c, d, e, f, g, i, j, k] := by
  match l, h with
  | [a, b, c, d, e, f, g, i, j, k], _ => exact ⟨a, b, c, d, e, f, g, i, j, k, rfl⟩

def nodeK : Kind NodeD where
  size := 10
  nums n := [n.id, n.zone, n.cap.a, n.cap.b, n.cap.c, n.cap.d, n.held.a, n.held.b, n.held.c, n.held.d]
  get c := ⟨c.getD 0 0, c.getD 1 0, ⟨c.getD 2 0, c.getD 3 0, c.getD 4 0, c.getD 5 0⟩, ⟨c.getD 6 0, c.getD 7 0, c.getD 8 0, c.getD 9 0⟩⟩
  ok c := smallN (c.getD 0 0) && smallN (c.getD 1 0)
  len _ := rfl
  back _ := rfl
  once c h _ := by obtain ⟨a, b, c, d, e, f, g, i, j, k, rfl⟩ := take_10 h; rfl
def loadK : Kind LoadD where
  size := 5
  nums l := [l.id, truthN l.apart, l.skew, l.min, l.max]
  get c := ⟨c.getD 0 0, c.getD 1 0 == 1, c.getD 2 0, c.getD 3 0, c.getD 4 0⟩
  ok c := smallN (c.getD 0 0) && (smallN (c.getD 2 0) && (smallN (c.getD 3 0) && (smallN (c.getD 4 0) && bitN (c.getD 1 0))))
  len _ := rfl
  back l := by obtain ⟨a, b, c, d, e⟩ := l; simp [truth_back]
  once c h ho := by
    obtain ⟨a, b, c, d, e, rfl⟩ := take_5 h
    simp only [Bool.and_eq_true] at ho
    have := truth_once ho.2.2.2.2
    simp at this ⊢
    exact this
def podK : Kind PodD where
  size := 8
  nums p := [p.id, p.load, p.prio, p.req.a, p.req.b, p.req.c, p.req.d, p.node]
  get c := ⟨c.getD 0 0, c.getD 1 0, c.getD 2 0, ⟨c.getD 3 0, c.getD 4 0, c.getD 5 0, c.getD 6 0⟩, c.getD 7 0⟩
  ok c := smallN (c.getD 0 0) && (smallN (c.getD 1 0) && (smallN (c.getD 2 0) && smallN (c.getD 7 0)))
  len _ := rfl
  back _ := rfl
  once c h _ := by obtain ⟨a, b, c, d, e, f, g, i, rfl⟩ := take_8 h; rfl
def wantK : Kind WantD where
  size := 6
  nums x := [x.pod, x.req.a, x.req.b, x.req.c, x.req.d, truthN x.stay]
  get c := ⟨c.getD 0 0, ⟨c.getD 1 0, c.getD 2 0, c.getD 3 0, c.getD 4 0⟩, c.getD 5 0 == 1⟩
  ok c := smallN (c.getD 0 0) && bitN (c.getD 5 0)
  len _ := rfl
  back x := by obtain ⟨a, b, c⟩ := x; simp [truth_back]
  once c h ho := by
    obtain ⟨a, b, c, d, e, f, rfl⟩ := take_6 h
    simp only [Bool.and_eq_true] at ho
    have := truth_once ho.2
    simp at this ⊢
    exact this
def moveK : Kind MoveD where
  size := 4
  nums m := [m.kind, m.pod, m.node, m.over]
  get c := ⟨c.getD 0 0, c.getD 1 0, c.getD 2 0, c.getD 3 0⟩
  ok c := smallN (c.getD 0 0) && (smallN (c.getD 1 0) && (smallN (c.getD 2 0) && smallN (c.getD 3 0)))
  len _ := rfl
  back _ := rfl
  once c h _ := by obtain ⟨a, b, c, d, rfl⟩ := take_4 h; rfl

def snapNums (s : SnapD) : List Int := [(s.nodes.length : Int), (s.loads.length : Int), (s.pods.length : Int)] ++ (s.nodes.flatMap nodeK.nums ++ (s.loads.flatMap loadK.nums ++ s.pods.flatMap podK.nums))
def specNums (x : SpecD) : List Int := [(x.wants.length : Int), x.preempts, x.shifts] ++ x.wants.flatMap wantK.nums
def moveNums (m : List MoveD) : List Int := (m.length : Int) :: m.flatMap moveK.nums

/-- The snapshot of so many nodes, loads and pods whose numbers these are. -/
def snapOf (a b c : Nat) (l : List Int) : SnapD := ⟨parse nodeK a l, parse loadK b (l.drop (a * 10)), parse podK c (l.drop (a * 10 + b * 5))⟩
def snapFine (a b c : Nat) (l : List Int) : Bool := fine nodeK a l && (fine loadK b (l.drop (a * 10)) && fine podK c (l.drop (a * 10 + b * 5)))
theorem snap_back (s : SnapD) : snapOf s.nodes.length s.loads.length s.pods.length ((snapNums s).drop 3) = s := by
  obtain ⟨n, l, p⟩ := s
  have h1 : (n.flatMap nodeK.nums).length = n.length * 10 := flat_length nodeK n
  have h2 : (l.flatMap loadK.nums).length = l.length * 5 := flat_length loadK l
  have e : (snapNums ⟨n, l, p⟩).drop 3 = n.flatMap nodeK.nums ++ (l.flatMap loadK.nums ++ p.flatMap podK.nums) := rfl
  rw [e]
  show SnapD.mk _ _ _ = _
  simp only []
  rw [parse_flat nodeK n, List.drop_left' h1, parse_flat loadK l, ← List.drop_drop, List.drop_left' h1, List.drop_left' h2]
  have := parse_flat podK p []
  rw [List.append_nil] at this
  rw [this]
theorem snap_once {a b c : Nat} {l : List Int} (hl : l.length = a * 10 + b * 5 + c * 8) (hf : snapFine a b c l = true) : snapNums (snapOf a b c l) = [(a : Int), (b : Int), (c : Int)] ++ l := by
  simp only [snapFine, Bool.and_eq_true] at hf
  have s10 : nodeK.size = 10 := rfl
  have s5 : loadK.size = 5 := rfl
  have s8 : podK.size = 8 := rfl
  have h1 := flat_parse nodeK a l (by rw [s10]; omega) hf.1
  have h2 := flat_parse loadK b (l.drop (a * 10)) (by rw [s5, List.length_drop]; omega) hf.2.1
  have h3 := flat_parse podK c (l.drop (a * 10 + b * 5)) (by rw [s8, List.length_drop]; omega) hf.2.2
  simp only [snapNums, snapOf, parse_length, h1, h2, h3, s10, s5, s8]
  congr 1
  rw [List.take_of_length_le (i := c * 8) (by rw [List.length_drop]; omega), ← List.drop_drop, List.take_append_drop, List.take_append_drop]
theorem spec_back (x : SpecD) : parse wantK x.wants.length ((specNums x).drop 3) = x.wants := by
  have := parse_flat wantK x.wants []
  rw [List.append_nil] at this
  simpa [specNums] using this
theorem spec_once {a : Nat} {p q : Int} {l : List Int} (hl : l.length = a * 6) (hf : fine wantK a l = true) : specNums ⟨parse wantK a l, p, q⟩ = [(a : Int), p, q] ++ l := by
  have s6 : wantK.size = 6 := rfl
  have h := flat_parse wantK a l (by rw [s6]; omega) hf
  simp only [specNums, parse_length, h, s6]
  rw [List.take_of_length_le (by omega)]
theorem move_back (m : List MoveD) : parse moveK m.length ((moveNums m).drop 1) = m := by
  have := parse_flat moveK m []
  rw [List.append_nil] at this
  simpa [moveNums] using this
theorem move_once {a : Nat} {l : List Int} (hl : l.length = a * 4) (hf : fine moveK a l = true) : moveNums (parse moveK a l) = (a : Int) :: l := by
  have s4 : moveK.size = 4 := rfl
  have h := flat_parse moveK a l (by rw [s4]; omega) hf
  simp only [moveNums, parse_length, h, s4]
  rw [List.take_of_length_le (by omega)]
end Go.Proofs.YtgfleifpblcnfaaGreatDoor

/- Plain mathematics of layer 4: what numbers are read as, and that what was written is read as it was, and what is read is written as it was; no program stands in it. -/
namespace Go.Proofs.YtgfleifpblcnfaaGreatDoor
set_option linter.unusedSimpArgs false

theorem fine_flat {α : Type} (K : Kind α) : ∀ (xs : List α) (rest : List Int), (∀ x ∈ xs, K.ok (K.nums x) = true) → fine K xs.length (xs.flatMap K.nums ++ rest) = true
  | [], _, _ => rfl
  | x :: r, rest, h => by
    have e : (x :: r).flatMap K.nums ++ rest = K.nums x ++ (r.flatMap K.nums ++ rest) := by simp
    show fine K (r.length + 1) _ = _
    rw [e, fine, List.take_left' (K.len x), List.drop_left' (K.len x), h x (by simp), fine_flat K r rest fun y hy => h y (by simp [hy])]
    rfl
theorem firstBad_each {α : Type} {bad : Int → α → Int} {f : α → Int} : ∀ {l : List α} {last : Int} {k : Nat}, firstBad bad f last k l = none → ∀ x ∈ l, ∃ la, bad la x = 0
  | [], _, _, _, x, hx => by simp at hx
  | y :: r, last, k, h, x, hx => by
    simp only [firstBad] at h
    split at h
    · cases h
    · rename_i h0
      rcases List.mem_cons.1 hx with rfl | hx
      · exact ⟨last, by simpa using h0⟩
      · exact firstBad_each h x hx
theorem small_of {n : Int} (h : n ≤ 2147483647) : smallN n = true := by simp [smallN, h]
theorem node_ok {la : Int} {x : NodeD} (h : nodeBad la x = 0) : 1 ≤ x.id ∧ x.id ≤ 2147483647 ∧ 1 ≤ x.zone ∧ x.zone ≤ 8 := by
  unfold nodeBad at h
  split at h
  · cases h
  · rename_i h1
    have h2 := idBad_ok h
    refine ⟨h2.1, h2.2.1, ?_, ?_⟩
    · by_cases e : x.zone < 1
      · exact absurd ⟨h, .inl e⟩ h1
      · omega
    · by_cases e : 8 < x.zone
      · exact absurd ⟨h, .inr (.inl e)⟩ h1
      · omega
theorem count_of {n : Int} (h : countOk n = true) : 0 ≤ n ∧ n ≤ 100 := by simpa [countOk] using h
theorem load_ok {la : Int} {x : LoadD} (h : loadBad la x = 0) : 1 ≤ x.id ∧ x.id ≤ 2147483647 ∧ (0 ≤ x.skew ∧ x.skew ≤ 100) ∧ (0 ≤ x.min ∧ x.min ≤ 100) ∧ (0 ≤ x.max ∧ x.max ≤ 100) := by
  unfold loadBad at h
  split at h
  · cases h
  · rename_i h1
    have h2 := idBad_ok h
    refine ⟨h2.1, h2.2.1, count_of ?_, count_of ?_, count_of ?_⟩
    · cases e : countOk x.skew
      · exact absurd ⟨h, .inl e⟩ h1
      · rfl
    · cases e : countOk x.min
      · exact absurd ⟨h, .inr (.inl e)⟩ h1
      · rfl
    · cases e : countOk x.max
      · exact absurd ⟨h, .inr (.inr (.inl e))⟩ h1
      · rfl
theorem pod_ok {nodes : List NodeD} {loads : List LoadD} {la : Int} {x : PodD} (h : podBad nodes loads la x = 0) : 1 ≤ x.id ∧ x.id ≤ 2147483647 ∧ (0 ≤ x.prio ∧ x.prio ≤ 100) ∧ (∃ l ∈ loads, l.id = x.load) ∧ (x.node = 0 ∨ ∃ n ∈ nodes, n.id = x.node) := by
  unfold podBad at h
  split at h
  · rename_i h1; exact absurd h h1
  · rename_i h1
    have h2 := idBad_ok (by simpa using h1)
    split at h
    · cases h
    · rename_i h3
      split at h
      · cases h
      · rename_i h4
        refine ⟨h2.1, h2.2.1, count_of (by simpa using h3), ?_, ?_⟩
        · have : ¬ place LoadD.id x.load loads 0 < 0 := fun e => h4 (.inl e)
          rw [place_neg (by omega)] at this
          simpa using this
        · by_cases e : x.node = 0
          · exact .inl e
          · have : ¬ place NodeD.id x.node nodes 0 < 0 := fun q => h4 (.inr ⟨e, q⟩)
            rw [place_neg (by omega)] at this
            exact .inr (by simpa using this)
theorem nums_fine {s : SnapD} (h : (check s).1 = 0) : snapFine s.nodes.length s.loads.length s.pods.length ((snapNums s).drop 3) = true := by
  obtain ⟨_, h1, h2, h3⟩ := check_ok.1 h
  have n1 := firstBad_each h1
  have n2 := firstBad_each h2
  have n3 := firstBad_each h3
  obtain ⟨n, l, p⟩ := s
  simp only at n1 n2 n3
  have e : (snapNums ⟨n, l, p⟩).drop 3 = n.flatMap nodeK.nums ++ (l.flatMap loadK.nums ++ p.flatMap podK.nums) := rfl
  have g1 : (n.flatMap nodeK.nums).length = n.length * 10 := flat_length nodeK n
  have g2 : (l.flatMap loadK.nums).length = l.length * 5 := flat_length loadK l
  have f1 : ∀ x ∈ n, nodeK.ok (nodeK.nums x) = true := fun x hx => by
    obtain ⟨la, hb⟩ := n1 x hx
    have := node_ok hb
    simp [nodeK, smallN]; omega
  have f2 : ∀ x ∈ l, loadK.ok (loadK.nums x) = true := fun x hx => by
    obtain ⟨la, hb⟩ := n2 x hx
    have := load_ok hb
    have ht : bitN (truthN x.apart) = true := by cases x.apart <;> rfl
    simp [loadK, smallN, ht]; omega
  have f3 : ∀ x ∈ p, podK.ok (podK.nums x) = true := fun x hx => by
    obtain ⟨la, hb⟩ := n3 x hx
    obtain ⟨a1, a2, a3, ⟨y, hy, ey⟩, a5⟩ := pod_ok hb
    obtain ⟨lb, hlb⟩ := n2 y hy
    have := load_ok hlb
    have hn : x.node ≤ 2147483647 := by
      rcases a5 with a5 | ⟨z, hz, ez⟩
      · omega
      · obtain ⟨lc, hlc⟩ := n1 z hz
        have := node_ok hlc
        omega
    simp [podK, smallN]; omega
  rw [e]
  simp only [snapFine]
  have q1 := fine_flat nodeK n (l.flatMap loadK.nums ++ p.flatMap podK.nums) f1
  have q2 := fine_flat loadK l (p.flatMap podK.nums) f2
  have q3 := fine_flat podK p [] f3
  rw [List.append_nil] at q3
  rw [q1, List.drop_left' g1, q2, ← List.drop_drop, List.drop_left' g1, List.drop_left' g2, q3]
  rfl

abbrev noSnap : SnapD := ⟨[], [], []⟩
/-- What numbers are read as: a snapshot, or an error's number and its place (-1: itself). -/
def rdSnap (l : List Int) : SnapD × Int × Int :=
  if l.length < 3 then (noSnap, 2, -1)
  else if 8 < l.getD 0 0 ∨ 8 < l.getD 1 0 ∨ 12 < l.getD 2 0 then (noSnap, 3, -1)
  else if l.length ≠ 3 + 10 * (l.getD 0 0).toNat + 5 * (l.getD 1 0).toNat + 8 * (l.getD 2 0).toNat then (noSnap, 2, -1)
  else if snapFine (l.getD 0 0).toNat (l.getD 1 0).toNat (l.getD 2 0).toNat (l.drop 3) = false then (noSnap, 2, -1)
  else if (check (snapOf (l.getD 0 0).toNat (l.getD 1 0).toNat (l.getD 2 0).toNat (l.drop 3))).1 ≠ 0 then (noSnap, check (snapOf (l.getD 0 0).toNat (l.getD 1 0).toNat (l.getD 2 0).toNat (l.drop 3)))
  else (snapOf (l.getD 0 0).toNat (l.getD 1 0).toNat (l.getD 2 0).toNat (l.drop 3), 0, -1)
theorem snapNums_length (s : SnapD) : (snapNums s).length = 3 + 10 * s.nodes.length + 5 * s.loads.length + 8 * s.pods.length := by
  have g1 : (s.nodes.flatMap nodeK.nums).length = s.nodes.length * 10 := flat_length nodeK _
  have g2 : (s.loads.flatMap loadK.nums).length = s.loads.length * 5 := flat_length loadK _
  have g3 : (s.pods.flatMap podK.nums).length = s.pods.length * 8 := flat_length podK _
  simp only [snapNums, List.length_append, g1, g2, g3, List.length_cons, List.length_nil]
  omega
/-- What was written is read as it was. -/
theorem rd_back {s : SnapD} (h : (check s).1 = 0) : rdSnap (snapNums s) = (s, 0, -1) := by
  have hl := snapNums_length s
  have hb := snap_back s
  have hf := nums_fine h
  have hg := (check_ok.1 h).1
  have e0 : (snapNums s).getD 0 0 = (s.nodes.length : Int) := rfl
  have e1 : (snapNums s).getD 1 0 = (s.loads.length : Int) := rfl
  have e2 : (snapNums s).getD 2 0 = (s.pods.length : Int) := rfl
  have hg' : ¬ (s.nodes.length = 0 ∨ 8 < s.nodes.length ∨ 8 < s.loads.length ∨ 12 < s.pods.length) := by simpa only [large, decide_eq_false_iff_not] using hg
  unfold rdSnap
  rw [e0, e1, e2]
  simp only [Int.toNat_natCast]
  rw [hb, hf, if_neg (by omega), if_neg (by omega), if_neg (by omega), if_neg (by decide), if_neg (by simpa using h)]
/-- What is read is written as it was. -/
theorem rd_once {l : List Int} (hp : ∀ x ∈ l, 0 ≤ x) {s : SnapD} (h : rdSnap l = (s, 0, -1)) : snapNums s = l ∧ (check s).1 = 0 := by
  unfold rdSnap at h
  split at h
  · simp at h
  · rename_i h1
    split at h
    · simp at h
    · rename_i h2
      split at h
      · simp at h
      · rename_i h3
        split at h
        · simp at h
        · rename_i h4
          split at h
          · rename_i h5
            have : (check (snapOf (l.getD 0 0).toNat (l.getD 1 0).toNat (l.getD 2 0).toNat (l.drop 3))).1 = 0 := by
              have := congrArg (fun q => q.2.1) h
              exact this
            exact absurd this h5
          · rename_i h5
            have hs : snapOf (l.getD 0 0).toNat (l.getD 1 0).toNat (l.getD 2 0).toNat (l.drop 3) = s := congrArg (fun q => q.1) h
            match l, h1, hp, h3, h4, h5, hs with
            | a :: b :: c :: r, _, hp, h3, h4, h5, hs =>
              have pa := hp a (by simp)
              have pb := hp b (by simp)
              have pc := hp c (by simp)
              simp only [List.getD_cons_zero, List.getD_cons_succ, List.drop_succ_cons, List.drop_zero, List.length_cons, ne_eq, Decidable.not_not, Bool.not_eq_false] at h3 h4 h5 hs
              rw [← hs]
              refine ⟨?_, h5⟩
              rw [snap_once (by omega) h4, Int.toNat_of_nonneg pa, Int.toNat_of_nonneg pb, Int.toNat_of_nonneg pc]
              rfl
            | [], h1, _, _, _, _, _ => simp at h1
            | [_], h1, _, _, _, _, _ => simp at h1
            | [_, _], h1, _, _, _, _, _ => simp at h1
end Go.Proofs.YtgfleifpblcnfaaGreatDoor

/- Plain mathematics of layer 4: specs and moves as numbers, written and read; no program stands in it. -/
namespace Go.Proofs.YtgfleifpblcnfaaGreatDoor
set_option linter.unusedSimpArgs false

def inId (n : Int) : Bool := decide (0 ≤ n ∧ n ≤ 2147483647)
theorem inId_iff {n : Int} : inId n = true ↔ 0 ≤ n ∧ n ≤ 2147483647 := by simp [inId]
/-- May a spec be written? May moves? -/
def specOk (x : SpecD) : Bool := decide (x.wants.length ≤ 12) && (inId x.preempts && (inId x.shifts && x.wants.all fun y => inId y.pod))
def moveOk (m : MoveD) : Bool := inId m.kind && (inId m.pod && (inId m.node && inId m.over))
def movesOk (m : List MoveD) : Bool := decide (m.length ≤ 40) && m.all moveOk

abbrev noSpec : SpecD := ⟨[], 0, 0⟩
def rdSpec (l : List Int) : SpecD × Int × Int :=
  if l.length < 3 then (noSpec, 2, -1)
  else if 12 < l.getD 0 0 then (noSpec, 3, -1)
  else if l.length ≠ 3 + 6 * (l.getD 0 0).toNat then (noSpec, 2, -1)
  else if (smallN (l.getD 1 0) && (smallN (l.getD 2 0) && fine wantK (l.getD 0 0).toNat (l.drop 3))) = false then (noSpec, 2, -1)
  else (⟨parse wantK (l.getD 0 0).toNat (l.drop 3), l.getD 1 0, l.getD 2 0⟩, 0, -1)
def rdMoves (l : List Int) : List MoveD × Int × Int :=
  if l.length < 1 then ([], 2, -1)
  else if 40 < l.getD 0 0 then ([], 3, -1)
  else if l.length ≠ 1 + 4 * (l.getD 0 0).toNat then ([], 2, -1)
  else if fine moveK (l.getD 0 0).toNat (l.drop 1) = false then ([], 2, -1)
  else (parse moveK (l.getD 0 0).toNat (l.drop 1), 0, -1)
theorem rd_spec_back {x : SpecD} (h : specOk x = true) : rdSpec (specNums x) = (x, 0, -1) := by
  simp only [specOk, Bool.and_eq_true, decide_eq_true_eq, inId_iff, List.all_eq_true] at h
  obtain ⟨h1, h2, h3, h4⟩ := h
  have g1 : (x.wants.flatMap wantK.nums).length = x.wants.length * 6 := flat_length wantK _
  have hl : (specNums x).length = 3 + 6 * x.wants.length := by
    simp only [specNums, List.length_append, g1, List.length_cons, List.length_nil]; omega
  have hf : fine wantK x.wants.length ((specNums x).drop 3) = true := by
    have := fine_flat wantK x.wants [] fun y hy => by
      have := h4 y hy
      have ht : bitN (truthN y.stay) = true := by cases y.stay <;> rfl
      simp [wantK, smallN, ht]; omega
    rw [List.append_nil] at this
    exact this
  have hb := spec_back x
  have e0 : (specNums x).getD 0 0 = (x.wants.length : Int) := rfl
  have e1 : (specNums x).getD 1 0 = x.preempts := rfl
  have e2 : (specNums x).getD 2 0 = x.shifts := rfl
  unfold rdSpec
  rw [e0, e1, e2]
  simp only [Int.toNat_natCast]
  rw [hb, hf, small_of h2.2, small_of h3.2, if_neg (by omega), if_neg (by omega), if_neg (by omega), if_neg (by decide)]
theorem rd_spec_once {l : List Int} (hp : ∀ x ∈ l, 0 ≤ x) {x : SpecD} (h : rdSpec l = (x, 0, -1)) : specNums x = l ∧ specOk x = true := by
  unfold rdSpec at h
  split at h
  · simp at h
  · rename_i h1
    split at h
    · simp at h
    · rename_i h2
      split at h
      · simp at h
      · rename_i h3
        split at h
        · simp at h
        · rename_i h4
          have hs : (⟨parse wantK (l.getD 0 0).toNat (l.drop 3), l.getD 1 0, l.getD 2 0⟩ : SpecD) = x := congrArg (fun q => q.1) h
          match l, h1, hp, h2, h3, h4, hs with
          | a :: b :: c :: r, _, hp, h2, h3, h4, hs =>
            have pa := hp a (by simp)
            have pb := hp b (by simp)
            have pc := hp c (by simp)
            simp only [List.getD_cons_zero, List.getD_cons_succ, List.drop_succ_cons, List.drop_zero, List.length_cons, ne_eq, Decidable.not_not, Bool.not_eq_false, Bool.and_eq_true] at h2 h3 h4 hs
            obtain ⟨s1, s2, s3⟩ := h4
            rw [← hs]
            refine ⟨?_, ?_⟩
            · rw [spec_once (by omega) s3, Int.toNat_of_nonneg pa]; rfl
            · have q1 : b ≤ 2147483647 := by simpa [smallN] using s1
              have q2 : c ≤ 2147483647 := by simpa [smallN] using s2
              simp only [specOk, Bool.and_eq_true, decide_eq_true_eq, inId_iff, List.all_eq_true, parse_length]
              refine ⟨by omega, ⟨pb, q1⟩, ⟨pc, q2⟩, fun y hy => ?_⟩
              obtain ⟨i, hi, rfl⟩ := List.mem_iff_getElem.1 hy
              have hi' : i < a.toNat := by rw [parse_length] at hi; exact hi
              have hfi := (fine_iff wantK _ _).1 s3 i hi'
              rw [parse_get wantK _ _ i hi']
              have s6 : wantK.size = 6 := rfl
              have hlen : ((r.drop (i * wantK.size)).take wantK.size).length = 6 := by rw [s6]; simp only [List.length_take, List.length_drop]; omega
              have hall : ∀ z ∈ (r.drop (i * wantK.size)).take wantK.size, 0 ≤ z := fun z hz => hp z (by
                have := List.mem_of_mem_drop (List.mem_of_mem_take hz)
                simp [this])
              obtain ⟨z0, z1, z2, z3, z4, z5, ez⟩ := take_6 hlen
              rw [ez] at hfi hall ⊢
              have k0 := hall z0 (by simp)
              simp [wantK, smallN] at hfi ⊢
              omega
          | [], h1, _, _, _, _, _ => simp at h1
          | [_], h1, _, _, _, _, _ => simp at h1
          | [_, _], h1, _, _, _, _, _ => simp at h1
theorem rd_move_back {m : List MoveD} (h : movesOk m = true) : rdMoves (moveNums m) = (m, 0, -1) := by
  simp only [movesOk, moveOk, Bool.and_eq_true, decide_eq_true_eq, inId_iff, List.all_eq_true] at h
  obtain ⟨h1, h4⟩ := h
  have g1 : (m.flatMap moveK.nums).length = m.length * 4 := flat_length moveK _
  have hl : (moveNums m).length = 1 + 4 * m.length := by simp only [moveNums, List.length_cons, g1]; omega
  have hf : fine moveK m.length ((moveNums m).drop 1) = true := by
    have := fine_flat moveK m [] fun y hy => by
      have := h4 y hy
      simp [moveK, smallN]; omega
    rw [List.append_nil] at this
    exact this
  have hb := move_back m
  have e0 : (moveNums m).getD 0 0 = (m.length : Int) := rfl
  unfold rdMoves
  rw [e0]
  simp only [Int.toNat_natCast]
  rw [hb, hf, if_neg (by omega), if_neg (by omega), if_neg (by omega), if_neg (by decide)]
theorem rd_move_once {l : List Int} (hp : ∀ x ∈ l, 0 ≤ x) {m : List MoveD} (h : rdMoves l = (m, 0, -1)) : moveNums m = l ∧ movesOk m = true := by
  unfold rdMoves at h
  split at h
  · simp at h
  · rename_i h1
    split at h
    · simp at h
    · rename_i h2
      split at h
      · simp at h
      · rename_i h3
        split at h
        · simp at h
        · rename_i h4
          have hs : parse moveK (l.getD 0 0).toNat (l.drop 1) = m := congrArg (fun q => q.1) h
          match l, h1, hp, h2, h3, h4, hs with
          | a :: r, _, hp, h2, h3, h4, hs =>
            have pa := hp a (by simp)
            simp only [List.getD_cons_zero, List.drop_succ_cons, List.drop_zero, List.length_cons, ne_eq, Decidable.not_not, Bool.not_eq_false] at h2 h3 h4 hs
            rw [← hs]
            refine ⟨?_, ?_⟩
            · rw [move_once (by omega) h4, Int.toNat_of_nonneg pa]
            · simp only [movesOk, moveOk, Bool.and_eq_true, decide_eq_true_eq, inId_iff, List.all_eq_true, parse_length]
              refine ⟨by omega, fun y hy => ?_⟩
              obtain ⟨i, hi, rfl⟩ := List.mem_iff_getElem.1 hy
              have hi' : i < a.toNat := by rw [parse_length] at hi; exact hi
              have hfi := (fine_iff moveK _ _).1 h4 i hi'
              rw [parse_get moveK _ _ i hi']
              have s4 : moveK.size = 4 := rfl
              have hlen : ((r.drop (i * moveK.size)).take moveK.size).length = 4 := by rw [s4]; simp only [List.length_take, List.length_drop]; omega
              have hall : ∀ z ∈ (r.drop (i * moveK.size)).take moveK.size, 0 ≤ z := fun z hz => hp z (by
                have := List.mem_of_mem_drop (List.mem_of_mem_take hz)
                simp [this])
              obtain ⟨z0, z1, z2, z3, ez⟩ := take_4 hlen
              rw [ez] at hfi hall ⊢
              have k0 := hall z0 (by simp)
              have k1 := hall z1 (by simp)
              have k2 := hall z2 (by simp)
              have k3 := hall z3 (by simp)
              simp [moveK, smallN] at hfi ⊢
              omega
          | [], h1, _, _, _, _, _ => simp at h1
end Go.Proofs.YtgfleifpblcnfaaGreatDoor

/- Plain mathematics of layer 4: a reader that hands out numbers one after the other, and what it reads; no program stands in it. -/
namespace Go.Proofs.YtgfleifpblcnfaaGreatDoor
set_option linter.unusedSimpArgs false

/-- What a reader has left, and whether something was amiss. -/
abbrev St := List Int × Bool
def rdNext (s : St) : Int × St := (s.1.headD 0, s.1.tail, s.2 || s.1.isEmpty)
def rdNum (s : St) : Int × St := (if smallN (s.1.headD 0) then s.1.headD 0 else 0, s.1.tail, s.2 || s.1.isEmpty || !smallN (s.1.headD 0))
def rdTruth (s : St) : Bool × St := (s.1.headD 0 == 1, s.1.tail, s.2 || s.1.isEmpty || !bitN (s.1.headD 0))
def rdVec (s : St) : V4 × St := (⟨s.1.getD 0 0, s.1.getD 1 0, s.1.getD 2 0, s.1.getD 3 0⟩, s.1.drop 4, s.2 || decide (s.1.length < 4))
def rdNode (s : St) : NodeD × St :=
  let a := rdNum s
  let b := rdNum a.2
  let c := rdVec b.2
  let d := rdVec c.2
  (⟨a.1, b.1, c.1, d.1⟩, d.2)
def rdLoad (s : St) : LoadD × St :=
  let a := rdNum s
  let b := rdTruth a.2
  let c := rdNum b.2
  let d := rdNum c.2
  let e := rdNum d.2
  (⟨a.1, b.1, c.1, d.1, e.1⟩, e.2)
def rdPod (s : St) : PodD × St :=
  let a := rdNum s
  let b := rdNum a.2
  let c := rdNum b.2
  let d := rdVec c.2
  let e := rdNum d.2
  (⟨a.1, b.1, c.1, d.1, e.1⟩, e.2)
def rdWant (s : St) : WantD × St :=
  let a := rdNum s
  let b := rdVec a.2
  let c := rdTruth b.2
  (⟨a.1, b.1, c.1⟩, c.2)
def rdMove (s : St) : MoveD × St :=
  let a := rdNum s
  let b := rdNum a.2
  let c := rdNum b.2
  let d := rdNum c.2
  (⟨a.1, b.1, c.1, d.1⟩, d.2)
def rdList {α : Type} (rd : St → α × St) : Nat → St → List α × St
  | 0, s => ([], s)
  | n + 1, s => ((rd s).1 :: (rdList rd n (rd s).2).1, (rdList rd n (rd s).2).2)

theorem getD_zero (l : List Int) : l.getD 0 0 = l.headD 0 := by cases l <;> rfl
theorem drop_headD (l : List Int) (k : Nat) : (l.drop k).headD 0 = l.getD k 0 := by
  rw [← getD_zero, List.getD_eq_getElem?_getD, List.getD_eq_getElem?_getD, List.getElem?_drop]; simp
theorem take_getD (l : List Int) {k n : Nat} (h : k < n) : (l.take n).getD k 0 = l.getD k 0 := by
  rw [List.getD_eq_getElem?_getD, List.getD_eq_getElem?_getD, List.getElem?_take, if_pos h]
theorem drop_getD (l : List Int) (a k : Nat) : (l.drop a).getD k 0 = l.getD (a + k) 0 := by
  rw [List.getD_eq_getElem?_getD, List.getD_eq_getElem?_getD, List.getElem?_drop]
theorem empty_iff (l : List Int) (k : Nat) : (l.drop k).isEmpty = decide (l.length ≤ k) := by
  rw [Bool.eq_iff_iff]; simp

/-- A reader of a kind of record: what is left, whether something is amiss, and what it is if nothing is. -/
structure Reads {α : Type} (K : Kind α) (rd : St → α × St) : Prop where
  rest : ∀ l f, (rd (l, f)).2.1 = l.drop K.size
  flag : ∀ l f, (rd (l, f)).2.2 = (f || decide (l.length < K.size) || !K.ok (l.take K.size))
  get : ∀ l f, (rd (l, f)).2.2 = false → (rd (l, f)).1 = K.get (l.take K.size)
theorem num_rest (l : List Int) (f : Bool) (k : Nat) : rdNum (l.drop k, f) = (if smallN (l.getD k 0) then l.getD k 0 else 0, l.drop (k + 1), f || decide (l.length ≤ k) || !smallN (l.getD k 0)) := by
  simp only [rdNum, drop_headD, empty_iff, List.tail_drop]
theorem truth_rest (l : List Int) (f : Bool) (k : Nat) : rdTruth (l.drop k, f) = (l.getD k 0 == 1, l.drop (k + 1), f || decide (l.length ≤ k) || !bitN (l.getD k 0)) := by
  simp only [rdTruth, drop_headD, empty_iff, List.tail_drop]
theorem vec_rest (l : List Int) (f : Bool) (k : Nat) : rdVec (l.drop k, f) = (⟨l.getD k 0, l.getD (k + 1) 0, l.getD (k + 2) 0, l.getD (k + 3) 0⟩, l.drop (k + 4), f || decide (l.length - k < 4)) := by
  simp only [rdVec, drop_getD, List.drop_drop, List.length_drop, Nat.add_zero]
theorem flag_form {f a b : Bool} (h : ∀ g : Bool, f = g → a = b) : a = b := h f rfl
theorem at0 (l : List Int) (f : Bool) : (l, f) = (l.drop 0, f) := rfl
theorem flag_1 (n : Nat) (k : Nat) : decide (n ≤ k) = decide (n < k + 1) := by rw [Bool.eq_iff_iff]; simp; omega
theorem small_if {n : Int} (h : smallN n = true) : (if smallN n then n else 0) = n := if_pos h
theorem small_0 : smallN 0 = true := rfl
theorem bit_0 : bitN 0 = true := rfl

theorem node_reads : Reads nodeK rdNode where
  rest l f := by rw [at0 l f]; simp only [rdNode, Nat.zero_add, Nat.reduceAdd, num_rest, vec_rest]; rfl
  flag l f := by
    show _ = (f || decide (l.length < 10) || !nodeK.ok (l.take 10))
    rw [at0 l f]
    simp only [rdNode, Nat.zero_add, Nat.reduceAdd, num_rest, vec_rest, nodeK, take_getD l (show 0 < 10 by decide), take_getD l (show 1 < 10 by decide)]
    rw [Bool.eq_iff_iff]
    generalize smallN (l.getD 0 0) = b0
    generalize l.length = n
    generalize smallN (l.getD 1 0) = b1
    cases b0 <;> cases b1 <;> cases f <;> simp <;> omega
  get l f h := by
    rw [at0 l f] at h ⊢
    simp only [rdNode, Nat.zero_add, Nat.reduceAdd, num_rest, vec_rest, Bool.or_eq_false_iff, Bool.not_eq_false'] at h ⊢
    simp only [nodeK, take_getD l (show 0 < 10 by decide), take_getD l (show 1 < 10 by decide), take_getD l (show 2 < 10 by decide), take_getD l (show 3 < 10 by decide), take_getD l (show 4 < 10 by decide), take_getD l (show 5 < 10 by decide), take_getD l (show 6 < 10 by decide), take_getD l (show 7 < 10 by decide), take_getD l (show 8 < 10 by decide), take_getD l (show 9 < 10 by decide)]
    rw [small_if (by simp only [h]), small_if (by simp only [h])]
theorem load_reads : Reads loadK rdLoad where
  rest l f := by rw [at0 l f]; simp only [rdLoad, Nat.zero_add, Nat.reduceAdd, num_rest, truth_rest]; rfl
  flag l f := by
    show _ = (f || decide (l.length < 5) || !loadK.ok (l.take 5))
    rw [at0 l f]
    simp only [rdLoad, Nat.zero_add, Nat.reduceAdd, num_rest, truth_rest, loadK, take_getD l (show 0 < 5 by decide), take_getD l (show 1 < 5 by decide), take_getD l (show 2 < 5 by decide), take_getD l (show 3 < 5 by decide), take_getD l (show 4 < 5 by decide)]
    rw [Bool.eq_iff_iff]
    generalize smallN (l.getD 0 0) = b0
    generalize l.length = n
    generalize bitN (l.getD 1 0) = b1
    generalize smallN (l.getD 2 0) = b2
    generalize smallN (l.getD 3 0) = b3
    generalize smallN (l.getD 4 0) = b4
    cases b0 <;> cases b1 <;> cases b2 <;> cases b3 <;> cases b4 <;> cases f <;> simp <;> omega
  get l f h := by
    rw [at0 l f] at h ⊢
    simp only [rdLoad, Nat.zero_add, Nat.reduceAdd, num_rest, truth_rest, Bool.or_eq_false_iff, Bool.not_eq_false'] at h ⊢
    simp only [loadK, take_getD l (show 0 < 5 by decide), take_getD l (show 1 < 5 by decide), take_getD l (show 2 < 5 by decide), take_getD l (show 3 < 5 by decide), take_getD l (show 4 < 5 by decide)]
    rw [small_if (by simp only [h]), small_if (by simp only [h]), small_if (by simp only [h]), small_if (by simp only [h])]
theorem pod_reads : Reads podK rdPod where
  rest l f := by rw [at0 l f]; simp only [rdPod, Nat.zero_add, Nat.reduceAdd, num_rest, vec_rest]; rfl
  flag l f := by
    show _ = (f || decide (l.length < 8) || !podK.ok (l.take 8))
    rw [at0 l f]
    simp only [rdPod, Nat.zero_add, Nat.reduceAdd, num_rest, vec_rest, podK, take_getD l (show 0 < 8 by decide), take_getD l (show 1 < 8 by decide), take_getD l (show 2 < 8 by decide), take_getD l (show 7 < 8 by decide)]
    rw [Bool.eq_iff_iff]
    generalize smallN (l.getD 0 0) = b0
    generalize l.length = n
    generalize smallN (l.getD 1 0) = b1
    generalize smallN (l.getD 2 0) = b2
    generalize smallN (l.getD 7 0) = b3
    cases b0 <;> cases b1 <;> cases b2 <;> cases b3 <;> cases f <;> simp <;> omega
  get l f h := by
    rw [at0 l f] at h ⊢
    simp only [rdPod, Nat.zero_add, Nat.reduceAdd, num_rest, vec_rest, Bool.or_eq_false_iff, Bool.not_eq_false'] at h ⊢
    simp only [podK, take_getD l (show 0 < 8 by decide), take_getD l (show 1 < 8 by decide), take_getD l (show 2 < 8 by decide), take_getD l (show 3 < 8 by decide), take_getD l (show 4 < 8 by decide), take_getD l (show 5 < 8 by decide), take_getD l (show 6 < 8 by decide), take_getD l (show 7 < 8 by decide)]
    rw [small_if (by simp only [h]), small_if (by simp only [h]), small_if (by simp only [h]), small_if (by simp only [h])]
theorem want_reads : Reads wantK rdWant where
  rest l f := by rw [at0 l f]; simp only [rdWant, Nat.zero_add, Nat.reduceAdd, num_rest, vec_rest, truth_rest]; rfl
  flag l f := by
    show _ = (f || decide (l.length < 6) || !wantK.ok (l.take 6))
    rw [at0 l f]
    simp only [rdWant, Nat.zero_add, Nat.reduceAdd, num_rest, vec_rest, truth_rest, wantK, take_getD l (show 0 < 6 by decide), take_getD l (show 5 < 6 by decide)]
    rw [Bool.eq_iff_iff]
    generalize smallN (l.getD 0 0) = b0
    generalize l.length = n
    generalize bitN (l.getD 5 0) = b1
    cases b0 <;> cases b1 <;> cases f <;> simp <;> omega
  get l f h := by
    rw [at0 l f] at h ⊢
    simp only [rdWant, Nat.zero_add, Nat.reduceAdd, num_rest, vec_rest, truth_rest, Bool.or_eq_false_iff, Bool.not_eq_false'] at h ⊢
    simp only [wantK, take_getD l (show 0 < 6 by decide), take_getD l (show 1 < 6 by decide), take_getD l (show 2 < 6 by decide), take_getD l (show 3 < 6 by decide), take_getD l (show 4 < 6 by decide), take_getD l (show 5 < 6 by decide)]
    rw [small_if (by simp only [h])]
theorem move_reads : Reads moveK rdMove where
  rest l f := by rw [at0 l f]; simp only [rdMove, Nat.zero_add, Nat.reduceAdd, num_rest]; rfl
  flag l f := by
    show _ = (f || decide (l.length < 4) || !moveK.ok (l.take 4))
    rw [at0 l f]
    simp only [rdMove, Nat.zero_add, Nat.reduceAdd, num_rest, moveK, take_getD l (show 0 < 4 by decide), take_getD l (show 1 < 4 by decide), take_getD l (show 2 < 4 by decide), take_getD l (show 3 < 4 by decide)]
    rw [Bool.eq_iff_iff]
    generalize smallN (l.getD 0 0) = b0
    generalize l.length = n
    generalize smallN (l.getD 1 0) = b1
    generalize smallN (l.getD 2 0) = b2
    generalize smallN (l.getD 3 0) = b3
    cases b0 <;> cases b1 <;> cases b2 <;> cases b3 <;> cases f <;> simp <;> omega
  get l f h := by
    rw [at0 l f] at h ⊢
    simp only [rdMove, Nat.zero_add, Nat.reduceAdd, num_rest, Bool.or_eq_false_iff, Bool.not_eq_false'] at h ⊢
    simp only [moveK, take_getD l (show 0 < 4 by decide), take_getD l (show 1 < 4 by decide), take_getD l (show 2 < 4 by decide), take_getD l (show 3 < 4 by decide)]
    rw [small_if (by simp only [h]), small_if (by simp only [h]), small_if (by simp only [h]), small_if (by simp only [h])]

section
variable {α : Type} {K : Kind α} {rd : St → α × St} (R : Reads K rd)
include R
theorem list_rest : ∀ (n : Nat) (l : List Int) (f : Bool), (rdList rd n (l, f)).2.1 = l.drop (n * K.size)
  | 0, l, f => by simp [rdList]
  | n + 1, l, f => by
    have h := list_rest n (rd (l, f)).2.1 (rd (l, f)).2.2
    have e := R.rest l f
    show (rdList rd n (rd (l, f)).2).2.1 = _
    rw [show (rd (l, f)).2 = ((rd (l, f)).2.1, (rd (l, f)).2.2) from rfl, h, e, List.drop_drop, Nat.add_one_mul, Nat.add_comm]
theorem list_flag : ∀ (n : Nat) (l : List Int) (f : Bool), (rdList rd n (l, f)).2.2 = (f || decide (l.length < n * K.size) || !fine K n l)
  | 0, l, f => by simp [rdList, fine]
  | n + 1, l, f => by
    have h := list_flag n (rd (l, f)).2.1 (rd (l, f)).2.2
    have e := R.rest l f
    have g := R.flag l f
    show (rdList rd n (rd (l, f)).2).2.2 = _
    rw [show (rd (l, f)).2 = ((rd (l, f)).2.1, (rd (l, f)).2.2) from rfl, h, e, g, fine]
    rw [Bool.eq_iff_iff]
    cases K.ok (l.take K.size) <;> cases fine K n (l.drop K.size) <;> cases f <;> simp [Nat.add_one_mul] <;> omega
theorem list_get : ∀ (n : Nat) (l : List Int) (f : Bool), (rdList rd n (l, f)).2.2 = false → (rdList rd n (l, f)).1 = parse K n l
  | 0, l, f, _ => rfl
  | n + 1, l, f, h => by
    have h' : (rdList rd n ((rd (l, f)).2.1, (rd (l, f)).2.2)).2.2 = false := h
    have hf : (rd (l, f)).2.2 = false := by
      rw [list_flag R n] at h'
      cases e : (rd (l, f)).2.2 with
      | false => rfl
      | true => rw [e] at h'; simp at h'
    have h1 := R.get l f hf
    have h2 := list_get n _ _ h'
    rw [R.rest l f] at h2
    show (rd (l, f)).1 :: (rdList rd n ((rd (l, f)).2.1, (rd (l, f)).2.2)).1 = _
    rw [h1, R.rest l f, h2, parse]
omit R in
theorem list_length : ∀ (n : Nat) (s : St), (rdList rd n s).1.length = n
  | 0, s => rfl
  | n + 1, s => by show (_ :: _).length = _; rw [List.length_cons, list_length n]
end
/-- Was all of the form, with nothing left behind it? -/
def wellF (s : St) : Bool := !s.2 && decide (s.1.length = 0)
theorem num_small {a : Int} {l : List Int} (h : smallN a = true) (f : Bool) : rdNum (a :: l, f) = (a, l, f) := by
  simp [rdNum, h]

/-- What the reader reads as a snapshot. -/
def mSnap (l : List Int) : SnapD × St :=
  let a := rdNum (l, false)
  let b := rdNum a.2
  let c := rdNum b.2
  let n := rdList rdNode a.1.toNat c.2
  let o := rdList rdLoad b.1.toNat n.2
  let p := rdList rdPod c.1.toNat o.2
  (⟨n.1, o.1, p.1⟩, p.2)
def mSpec (l : List Int) : SpecD × St :=
  let a := rdNum (l, false)
  let b := rdNum a.2
  let c := rdNum b.2
  let n := rdList rdWant a.1.toNat c.2
  (⟨n.1, b.1, c.1⟩, n.2)
def mMoves (l : List Int) : List MoveD × St :=
  let a := rdNum (l, false)
  rdList rdMove a.1.toNat a.2
theorem st_eta {α : Type} (p : α × St) : p.2 = (p.2.1, p.2.2) := rfl
theorem snap_machine {l : List Int} (hp : ∀ x ∈ l, 0 ≤ x) (h1 : ¬ l.length < 3) (h2 : ¬ (8 < l.getD 0 0 ∨ 8 < l.getD 1 0 ∨ 12 < l.getD 2 0)) :
    (wellF (mSnap l).2 = true ↔ (l.length = 3 + 10 * (l.getD 0 0).toNat + 5 * (l.getD 1 0).toNat + 8 * (l.getD 2 0).toNat ∧ snapFine (l.getD 0 0).toNat (l.getD 1 0).toNat (l.getD 2 0).toNat (l.drop 3) = true)) ∧
    (wellF (mSnap l).2 = true → (mSnap l).1 = snapOf (l.getD 0 0).toNat (l.getD 1 0).toNat (l.getD 2 0).toNat (l.drop 3)) := by
  match l, h1, h2 with
  | a :: b :: c :: r, _, h2 =>
    simp only [List.getD_cons_zero, List.getD_cons_succ, List.drop_succ_cons, List.drop_zero, List.length_cons] at h2 ⊢
    have e : mSnap (a :: b :: c :: r) = (⟨(rdList rdNode a.toNat (r, false)).1, (rdList rdLoad b.toNat (rdList rdNode a.toNat (r, false)).2).1, (rdList rdPod c.toNat (rdList rdLoad b.toNat (rdList rdNode a.toNat (r, false)).2).2).1⟩, (rdList rdPod c.toNat (rdList rdLoad b.toNat (rdList rdNode a.toNat (r, false)).2).2).2) := by
      simp only [mSnap, num_small (small_of (show a ≤ 2147483647 by omega)), num_small (small_of (show b ≤ 2147483647 by omega)), num_small (small_of (show c ≤ 2147483647 by omega))]
    rw [e]
    have s1 := list_rest node_reads a.toNat r false
    have f1 := list_flag node_reads a.toNat r false
    have g1 := list_get node_reads a.toNat r false
    generalize rdList rdNode a.toNat (r, false) = N at *
    obtain ⟨ns, l1, t1⟩ := N
    simp only at s1 f1 g1 ⊢
    have s2 := list_rest load_reads b.toNat l1 t1
    have f2 := list_flag load_reads b.toNat l1 t1
    have g2 := list_get load_reads b.toNat l1 t1
    generalize rdList rdLoad b.toNat (l1, t1) = O at *
    obtain ⟨os, l2, t2⟩ := O
    simp only at s2 f2 g2 ⊢
    have s3 := list_rest pod_reads c.toNat l2 t2
    have f3 := list_flag pod_reads c.toNat l2 t2
    have g3 := list_get pod_reads c.toNat l2 t2
    generalize rdList rdPod c.toNat (l2, t2) = P at *
    obtain ⟨ps, l3, t3⟩ := P
    simp only at s3 f3 g3 ⊢
    have z1 : nodeK.size = 10 := rfl
    have z2 : loadK.size = 5 := rfl
    have z3 : podK.size = 8 := rfl
    rw [z1] at s1 f1
    rw [z2] at s2 f2
    rw [z3] at s3 f3
    rw [s1, List.drop_drop] at s2
    rw [s1] at f2 g2
    rw [s2] at s3 f3 g3
    rw [List.drop_drop] at s3
    have hw : wellF (l3, t3) = true ↔ (t3 = false ∧ l3.length = 0) := by simp [wellF]
    have fold : snapFine a.toNat b.toNat c.toNat r = (fine nodeK a.toNat r && (fine loadK b.toNat (r.drop (a.toNat * 10)) && fine podK c.toNat (r.drop (a.toNat * 10 + b.toNat * 5)))) := rfl
    rw [hw, fold]
    constructor
    · rw [f3, f2, f1, s3]
      cases fine nodeK a.toNat r <;> cases fine loadK b.toNat (r.drop (a.toNat * 10)) <;> cases fine podK c.toNat (r.drop (a.toNat * 10 + b.toNat * 5)) <;> simp [List.length_drop] <;> omega
    · rintro ⟨k1, _⟩
      have k2 : t2 = false := by rw [f3] at k1; simp only [Bool.or_eq_false_iff] at k1; exact k1.1.1
      have k3 : t1 = false := by rw [f2] at k2; simp only [Bool.or_eq_false_iff] at k2; exact k2.1.1
      rw [g1 k3, g2 k2, g3 k1]
      rfl
  | [], h1, _ => simp at h1
  | [_], h1, _ => simp at h1
  | [_, _], h1, _ => simp at h1
theorem spec_machine {l : List Int} (hp : ∀ x ∈ l, 0 ≤ x) (h1 : ¬ l.length < 3) (h2 : ¬ 12 < l.getD 0 0) :
    (wellF (mSpec l).2 = true ↔ (l.length = 3 + 6 * (l.getD 0 0).toNat ∧ (smallN (l.getD 1 0) && (smallN (l.getD 2 0) && fine wantK (l.getD 0 0).toNat (l.drop 3))) = true)) ∧
    (wellF (mSpec l).2 = true → (mSpec l).1 = ⟨parse wantK (l.getD 0 0).toNat (l.drop 3), l.getD 1 0, l.getD 2 0⟩) := by
  match l, h1, h2 with
  | a :: b :: c :: r, _, h2 =>
    simp only [List.getD_cons_zero, List.getD_cons_succ, List.drop_succ_cons, List.drop_zero, List.length_cons] at h2 ⊢
    have e : mSpec (a :: b :: c :: r) = (⟨(rdList rdWant a.toNat (r, !smallN b || !smallN c)).1, if smallN b then b else 0, if smallN c then c else 0⟩, (rdList rdWant a.toNat (r, !smallN b || !smallN c)).2) := by
      simp only [mSpec, num_small (small_of (show a ≤ 2147483647 by omega))]
      simp [rdNum]
    rw [e]
    have s1 := list_rest want_reads a.toNat r (!smallN b || !smallN c)
    have f1 := list_flag want_reads a.toNat r (!smallN b || !smallN c)
    have g1 := list_get want_reads a.toNat r (!smallN b || !smallN c)
    generalize rdList rdWant a.toNat (r, !smallN b || !smallN c) = N at *
    obtain ⟨ns, l1, t1⟩ := N
    simp only at s1 f1 g1 ⊢
    have z1 : wantK.size = 6 := rfl
    rw [z1] at s1 f1
    have hw : wellF (l1, t1) = true ↔ (t1 = false ∧ l1.length = 0) := by simp [wellF]
    rw [hw]
    constructor
    · rw [f1, s1]
      cases smallN b <;> cases smallN c <;> cases fine wantK a.toNat r <;> simp [List.length_drop] <;> omega
    · rintro ⟨k1, _⟩
      have kb : smallN b = true ∧ smallN c = true := by rw [f1] at k1; cases hb : smallN b <;> cases hc : smallN c <;> simp_all
      rw [g1 k1, if_pos kb.1, if_pos kb.2]
  | [], h1, _ => simp at h1
  | [_], h1, _ => simp at h1
  | [_, _], h1, _ => simp at h1
theorem moves_machine {l : List Int} (hp : ∀ x ∈ l, 0 ≤ x) (h1 : ¬ l.length < 1) (h2 : ¬ 40 < l.getD 0 0) :
    (wellF (mMoves l).2 = true ↔ (l.length = 1 + 4 * (l.getD 0 0).toNat ∧ fine moveK (l.getD 0 0).toNat (l.drop 1) = true)) ∧
    (wellF (mMoves l).2 = true → (mMoves l).1 = parse moveK (l.getD 0 0).toNat (l.drop 1)) := by
  match l, h1, h2 with
  | a :: r, _, h2 =>
    simp only [List.getD_cons_zero, List.drop_succ_cons, List.drop_zero, List.length_cons] at h2 ⊢
    have e : mMoves (a :: r) = rdList rdMove a.toNat (r, false) := by
      simp only [mMoves, num_small (small_of (show a ≤ 2147483647 by omega))]
    rw [e]
    have s1 := list_rest move_reads a.toNat r false
    have f1 := list_flag move_reads a.toNat r false
    have g1 := list_get move_reads a.toNat r false
    generalize rdList rdMove a.toNat (r, false) = N at *
    obtain ⟨ns, l1, t1⟩ := N
    simp only at s1 f1 g1 ⊢
    have z1 : moveK.size = 4 := rfl
    rw [z1] at s1 f1
    have hw : wellF (l1, t1) = true ↔ (t1 = false ∧ l1.length = 0) := by simp [wellF]
    rw [hw]
    constructor
    · rw [f1, s1]
      cases fine moveK a.toNat r <;> simp [List.length_drop] <;> omega
    · rintro ⟨k1, _⟩
      exact g1 k1
  | [], h1, _ => simp at h1
/-- What the reader's way tells is what is told of the numbers. -/
theorem rdMoves_m {l : List Int} (hp : ∀ x ∈ l, 0 ≤ x) (h1 : ¬ l.length < 1) (h2 : ¬ 40 < l.getD 0 0) : rdMoves l = if wellF (mMoves l).2 = true then ((mMoves l).1, 0, -1) else ([], 2, -1) := by
  obtain ⟨a, b⟩ := moves_machine hp h1 h2
  unfold rdMoves
  rw [if_neg h1, if_neg h2]
  by_cases hw : wellF (mMoves l).2 = true
  · obtain ⟨c, d⟩ := a.1 hw
    rw [if_neg (by omega), if_neg (by rw [d]; decide), if_pos hw, b hw]
  · rw [if_neg hw]
    by_cases c : l.length = 1 + 4 * (l.getD 0 0).toNat
    · rw [if_neg (by omega), if_pos]
      cases d : fine moveK (l.getD 0 0).toNat (l.drop 1) with
      | false => rfl
      | true => exact absurd (a.2 ⟨c, d⟩) hw
    · rw [if_pos c]
theorem rdSpec_m {l : List Int} (hp : ∀ x ∈ l, 0 ≤ x) (h1 : ¬ l.length < 3) (h2 : ¬ 12 < l.getD 0 0) : rdSpec l = if wellF (mSpec l).2 = true then ((mSpec l).1, 0, -1) else (noSpec, 2, -1) := by
  obtain ⟨a, b⟩ := spec_machine hp h1 h2
  unfold rdSpec
  rw [if_neg h1, if_neg h2]
  by_cases hw : wellF (mSpec l).2 = true
  · obtain ⟨c, d⟩ := a.1 hw
    rw [if_neg (by omega), if_neg (by rw [d]; decide), if_pos hw, b hw]
  · rw [if_neg hw]
    by_cases c : l.length = 3 + 6 * (l.getD 0 0).toNat
    · rw [if_neg (by omega), if_pos]
      cases d : (smallN (l.getD 1 0) && (smallN (l.getD 2 0) && fine wantK (l.getD 0 0).toNat (l.drop 3))) with
      | false => rfl
      | true => exact absurd (a.2 ⟨c, d⟩) hw
    · rw [if_pos c]
theorem rdSnap_m {l : List Int} (hp : ∀ x ∈ l, 0 ≤ x) (h1 : ¬ l.length < 3) (h2 : ¬ (8 < l.getD 0 0 ∨ 8 < l.getD 1 0 ∨ 12 < l.getD 2 0)) :
    rdSnap l = if wellF (mSnap l).2 = true then (if (check (mSnap l).1).1 ≠ 0 then (noSnap, check (mSnap l).1) else ((mSnap l).1, 0, -1)) else (noSnap, 2, -1) := by
  obtain ⟨a, b⟩ := snap_machine hp h1 h2
  unfold rdSnap
  rw [if_neg h1, if_neg h2]
  by_cases hw : wellF (mSnap l).2 = true
  · obtain ⟨c, d⟩ := a.1 hw
    rw [if_neg (by omega), if_neg (by rw [d]; decide), if_pos hw, ← b hw]
  · rw [if_neg hw]
    by_cases c : l.length = 3 + 10 * (l.getD 0 0).toNat + 5 * (l.getD 1 0).toNat + 8 * (l.getD 2 0).toNat
    · rw [if_neg (by omega), if_pos]
      cases d : snapFine (l.getD 0 0).toNat (l.getD 1 0).toNat (l.getD 2 0).toNat (l.drop 3) with
      | false => rfl
      | true => exact absurd (a.2 ⟨c, d⟩) hw
    · rw [if_pos c]
end Go.Proofs.YtgfleifpblcnfaaGreatDoor

namespace Go.Proofs.YtgfleifpblcnfaaGreatDoor
set_option linter.unusedSimpArgs false
open Go.RowKit
set_option linter.unusedVariables false

abbrev i64s (l : List Int) : List Value := l.map (Value.int .i64)
/-- Numbers that may be written as they are. -/
def Pos (l : List Int) : Prop := ∀ x ∈ l, 0 ≤ x ∧ x ≤ 9223372036854775807
/-- What is told is a row of the call's own that holds these numbers. -/
def NumsTo (l : List Int) (w : World) (e : Ending) (w' : World) : Prop :=
  ∃ v, e = .returned v ∧ w'.ownsRow w.heap.size 65 1 v (u64s l).length (u64s l) ∧ Below w.heap.size w w'
def NumsRel (l : List Int) (w : World) (v i : Value) (wr : World) : Prop :=
  ∃ k : Nat, k ≤ l.length ∧ i = .int .i64 k ∧ wr.ownsRow w.heap.size 65 1 v (u64s (l.take k)).length (u64s (l.take k)) ∧ Below w.heap.size w wr
theorem numsTo_of {l : List Int} {w wr : World} {v : Value} {k : Nat} (hk : l.length ≤ k) (h : wr.ownsRow w.heap.size 65 1 v (u64s (l.take k)).length (u64s (l.take k))) (hb : Below w.heap.size w wr) : NumsTo l w (.returned v) wr := by
  rw [List.take_of_length_le hk] at h
  exact ⟨v, rfl, h, hb⟩

set_option maxHeartbeats 1600000 in
theorem numbers_any (l : List Int) (A : Option Addr) (n c : Nat) (w : World) (hn : n = l.length) (hl : n ≤ 1000) (hp : Pos l) (hr : Row w w.heap.size A (i64s l)) :
    Calls Tryz.prog 25 #[.slice A n c] w (NumsTo l w) := by
  have HN := Lib.hid hn
  have HP := Lib.hid hp
  have HR := Lib.hid hr
  clear hn hp hr
  go_enter Tryz.func25, Tryz.ntmps25
  go_wp2
  go_loopw [3, 8] (NumsRel l w) (fun _ i _ => n - (intOf i).toNat)
  case atStart => exact ⟨0, by omega, rfl, World.ownsRow_nil _ _ _ _, Below.refl _ _⟩
  case round =>
    obtain ⟨k, hk, rfl, hown, hbr⟩ := hrel
    have hz := hbr.size
    by_cases hlt : k < n
    · have hkl : k < l.length := by have := HN.out; omega
      obtain ⟨b, o, rfl, hb, hcell⟩ := HR.out.at (k := k) (by simpa using hkl)
      have hx := HP.out l[k] (List.getElem_mem hkl)
      have hc : wr.cell? ⟨b, o + k, none⟩ = some (.int .i64 l[k]) := (hbr.cell (p := ⟨b, o + k, none⟩) hb).trans ((hcell k (by simpa using hkl)).trans (by simp))
      have HT : Hid (l.take k ++ [l[k]] = l.take (k + 1)) := (List.take_succ_eq_append_getElem hkl).symm
      have HU : Hid ((u64s (l.take k)).length ≤ 2000000) := by show _ ≤ _; simp; omega
      generalize l[k] = x at *
      obtain ⟨hx0, hx1⟩ := hx
      have hx2 : x < 18446744073709551616 := by omega
      clear hcell
      go_wp2_with (at_builtin; refine wpList_push 38 65 (.int .u64 0) 8 Tryz.underlying38 Tryz.info65 rfl (by decide) rfl (.tmp 12) (.tmp 15) rfl w.heap.size _ (u64s (l.take k)) (.int .u64 x) rfl hown hz HU.out rfl rfl ?_; intro v' w1 hown1 hb1 hB1)
      go_roundw
      case rel => exact ⟨k + 1, by omega, by go_num, own64 hown1 HT.out, hbr.trans hb1⟩
      case measure => simp [intOf]; omega
    · go_wp2
      go_ret
      exact numsTo_of (by have := HN.out; omega) hown hbr

def truthI (b : Bool) : Int := truthN b
theorem truth_any (b : Bool) (w : World) : Calls Tryz.prog 75 #[.bool b] w fun e w' => e = .returned (.int .i64 (truthN b)) ∧ w = w' := by
  cases b
  all_goals
    go_enter Tryz.func75, Tryz.ntmps75
    go_wp2
    go_ret
    exact ⟨rfl, rfl⟩

def WritRel (l : List Int) (i : Value) : Prop := ∃ k : Nat, k ≤ l.length ∧ i = .int .i64 k ∧ (l.take k).all inId = true
theorem all_take {α : Type} {p : α → Bool} {l : List α} {k : Nat} (hk : k < l.length) (h : (l.take k).all p = true) {x : α} (hx : l[k] = x) (hp : p x = true) : (l.take (k + 1)).all p = true := by
  rw [List.take_succ_eq_append_getElem hk, List.all_append, h, hx]; simp [hp]
theorem all_false {α : Type} {p : α → Bool} {l : List α} {k : Nat} (hk : k < l.length) {x : α} (hx : l[k] = x) (hp : p x = false) : l.all p = false := by
  rw [List.all_eq_false]
  exact ⟨l[k], List.getElem_mem hk, by rw [hx, hp]; decide⟩
theorem inId_false {n : Int} (h : n < 0 ∨ 2147483647 < n) : inId n = false := by
  simp [inId]; omega
set_option maxHeartbeats 1600000 in
theorem writable_any (l : List Int) (A : Option Addr) (n c : Nat) (w : World) (hn : n = l.length) (hl : n ≤ 1000) (hr : Row w w.heap.size A (i64s l)) :
    Calls Tryz.prog 52 #[.slice A n c] w fun e w' => e = .returned (.bool (l.all inId)) ∧ w = w' := by
  have HN := Lib.hid hn
  have HR := Lib.hid hr
  clear hn hr
  go_enter Tryz.func52, Tryz.ntmps52
  go_wp2
  go_loop [7] (WritRel l) (fun i => n - (intOf i).toNat)
  case atStart => exact ⟨0, by omega, rfl, rfl⟩
  case round =>
    obtain ⟨k, hk, rfl, hall⟩ := hrel
    have HALL := Lib.hid hall
    clear hall
    by_cases hlt : k < n
    · have hkl : k < l.length := by have := HN.out; omega
      obtain ⟨b, o, rfl, hb, hcell⟩ := HR.out.at (k := k) (by simpa using hkl)
      have hc : w.cell? ⟨b, o + k, none⟩ = some (.int .i64 l[k]) := (hcell k (by simpa using hkl)).trans (by simp)
      generalize hx : l[k] = x at *
      have HX := Lib.hid hx
      clear hcell hx
      by_cases h0 : x < 0
      · have HE := Lib.hid (all_false hkl HX.out (inId_false (.inl h0)))
        go_wp2
        go_ret
        exact ⟨ret_bool HE.out.symm, rfl⟩
      · by_cases h1 : 2147483647 < x
        · have HE := Lib.hid (all_false hkl HX.out (inId_false (.inr h1)))
          go_wp2
          go_ret
          exact ⟨ret_bool HE.out.symm, rfl⟩
        · have HE := Lib.hid (all_take hkl HALL.out HX.out (inId_iff.2 (by omega)))
          go_wp2
          go_round
          case rel => exact ⟨k + 1, by omega, by go_num, HE.out⟩
          case measure => simp [intOf]; omega
    · have HE : Hid (l.all inId = true) := by
        have := HALL.out
        rwa [List.take_of_length_le (by have := HN.out; omega)] at this
      go_wp2
      go_ret
      exact ⟨ret_bool HE.out.symm, rfl⟩
end Go.Proofs.YtgfleifpblcnfaaGreatDoor
