/- Plain mathematics of clusters that may be; no program stands in it. -/
import Derived.KernelRfl
namespace Go.Proofs.YtaeklohgheildaaDoor

structure V4 where
  a : Int
  b : Int
  c : Int
  d : Int
structure NodeD where
  id : Int
  zone : Int
  cap : V4
  held : V4
structure LoadD where
  id : Int
  apart : Bool
  skew : Int
  min : Int
  max : Int
structure PodD where
  id : Int
  load : Int
  prio : Int
  req : V4
  node : Int
structure WantD where
  pod : Int
  req : V4
  stay : Bool
structure SnapD where
  nodes : List NodeD
  loads : List LoadD
  pods : List PodD
structure SpecD where
  wants : List WantD
  preempts : Int
  shifts : Int

def V4.le (x y : V4) : Bool := decide (x.a ≤ y.a ∧ x.b ≤ y.b ∧ x.c ≤ y.c ∧ x.d ≤ y.d)
def V4.zero (x : V4) : Bool := decide (x.a = 0 ∧ x.b = 0 ∧ x.c = 0 ∧ x.d = 0)

/-- The place of the first one whose number is id; -1: there is none. -/
def place {α : Type} (f : α → Int) (id : Int) : List α → Int → Int
  | [], _ => -1
  | x :: r, k => if f x = id then k else place f id r (k + 1)
theorem place_neg {α : Type} {f : α → Int} {id : Int} : ∀ {l : List α} {k : Int}, 0 ≤ k → (place f id l k < 0 ↔ ∀ x ∈ l, f x ≠ id)
  | [], k, _ => by simp [place]
  | x :: r, k, hk => by
    by_cases h : f x = id
    · simp [place, h]; omega
    · simp [place, h, place_neg (l := r) (k := k + 1) (by omega)]
theorem place_ge {α : Type} {f : α → Int} {id : Int} : ∀ {l : List α} {k : Int}, 0 ≤ k → -1 ≤ place f id l k ∧ place f id l k < k + l.length
  | [], k, hk => by simp [place]; omega
  | x :: r, k, hk => by
    by_cases h : f x = id
    · simp [place, h]; omega
    · have := place_ge (f := f) (id := id) (l := r) (k := k + 1) (by omega)
      simp [place, h]; omega
theorem place_at {α : Type} {f : α → Int} {id : Int} : ∀ {l : List α} {k : Int} {i : Nat} (h : i < l.length), f l[i] = id → (∀ j (hj : j < i), f (l[j]'(by omega)) ≠ id) → place f id l k = k + i
  | [], _, _, h, _, _ => by simp at h
  | x :: r, k, 0, _, he, _ => by simp [place] at he ⊢; simp [he]
  | x :: r, k, i + 1, h, he, hn => by
    have h0 : f x ≠ id := hn 0 (by omega)
    have := place_at (f := f) (id := id) (l := r) (k := k + 1) (i := i) (by simpa using h) (by simpa using he) (fun j hj => hn (j + 1) (by omega))
    simp [place, h0, this]; omega

def idBad (n last : Int) : Int := if n < 1 ∨ 2147483647 < n then 1 else if n = last then 5 else if n < last then 1 else 0
def countOk (n : Int) : Bool := decide (0 ≤ n ∧ n ≤ 100)
def nodeBad (last : Int) (n : NodeD) : Int := if idBad n.id last = 0 ∧ (n.zone < 1 ∨ 8 < n.zone ∨ n.held.le n.cap = false) then 1 else idBad n.id last
def loadBad (last : Int) (l : LoadD) : Int := if idBad l.id last = 0 ∧ (countOk l.skew = false ∨ countOk l.min = false ∨ countOk l.max = false ∨ l.max < l.min) then 1 else idBad l.id last
def podBad (nodes : List NodeD) (loads : List LoadD) (last : Int) (p : PodD) : Int :=
  if idBad p.id last ≠ 0 then idBad p.id last else if countOk p.prio = false then 1
  else if place LoadD.id p.load loads 0 < 0 ∨ (p.node ≠ 0 ∧ place NodeD.id p.node nodes 0 < 0) then 4 else 0

/-- The first one at fault, and its place. -/
def firstBad {α : Type} (bad : Int → α → Int) (f : α → Int) : Int → Nat → List α → Option (Int × Nat)
  | _, _, [] => none
  | last, k, x :: r => if bad last x ≠ 0 then some (bad last x, k) else firstBad bad f (f x) (k + 1) r

theorem firstBad_take {α : Type} {bad : Int → α → Int} {f : α → Int} : ∀ {l : List α} {last : Int} {k : Nat} (n : Nat), firstBad bad f last k l = none → firstBad bad f last k (l.take n) = none
  | [], _, _, _, _ => by simp [firstBad]
  | x :: r, last, k, 0, _ => by simp [firstBad]
  | x :: r, last, k, n + 1, h => by
    simp only [firstBad] at h
    split at h
    · cases h
    · rename_i h0
      simp only [List.take_succ_cons, firstBad, if_neg h0]
      exact firstBad_take n h

def large (s : SnapD) : Bool := decide (s.nodes.length = 0 ∨ 8 < s.nodes.length ∨ 8 < s.loads.length ∨ 12 < s.pods.length)
/-- What is amiss first with a snapshot, and where (-1: itself); (0, -1): nothing. -/
def check (s : SnapD) : Int × Int :=
  if large s then (3, -1) else
  match firstBad nodeBad NodeD.id 0 0 s.nodes with
  | some (b, k) => (b, k)
  | none => match firstBad loadBad LoadD.id 0 s.nodes.length s.loads with
    | some (b, k) => (b, k)
    | none => match firstBad (podBad s.nodes s.loads) PodD.id 0 (s.nodes.length + s.loads.length) s.pods with
      | some (b, k) => (b, k)
      | none => (0, -1)

def wantBad (s : SnapD) (first : Bool) (last : Int) (w : WantD) : Int :=
  if first = false ∧ w.pod = last then 5 else if first = false ∧ w.pod < last then 1
  else if place PodD.id w.pod s.pods 0 < 0 then 4 else if w.stay = false ∧ w.req.zero = false then 1 else 0
def firstWant (s : SnapD) : Bool → Int → Nat → List WantD → Option (Int × Nat)
  | _, _, _, [] => none
  | first, last, k, w :: r => if wantBad s first last w ≠ 0 then some (wantBad s first last w, k) else firstWant s false w.pod (k + 1) r
def fair (s : SnapD) (x : SpecD) : Int × Int :=
  if (check s).1 ≠ 0 then check s
  else if x.preempts < 0 ∨ 40 < x.preempts ∨ x.shifts < 0 ∨ 40 < x.shifts then (3, -1)
  else match firstWant s true 0 0 x.wants with
    | some (b, k) => (b, k)
    | none => (0, -1)

theorem idBad_vals (n last : Int) : idBad n last = 0 ∨ idBad n last = 1 ∨ idBad n last = 5 := by unfold idBad; split <;> (try split) <;> (try split) <;> simp
theorem idBad_ok {n last : Int} (h : idBad n last = 0) : 1 ≤ n ∧ n ≤ 2147483647 ∧ last < n := by
  unfold idBad at h
  split at h
  · omega
  · split at h
    · omega
    · split at h <;> omega
theorem firstBad_pos {α : Type} {bad : Int → α → Int} {f : α → Int} : ∀ {l : List α} {last : Int} {k : Nat} {b : Int} {j : Nat}, firstBad bad f last k l = some (b, j) → b ≠ 0
  | [], _, _, _, _, h => by simp [firstBad] at h
  | x :: r, last, k, b, j, h => by
    simp only [firstBad] at h
    split at h
    · rename_i h0; simp at h; rw [← h.1]; exact h0
    · exact firstBad_pos h

/-- Nothing amiss: all parts. -/
theorem check_ok {s : SnapD} : (check s).1 = 0 ↔ large s = false ∧ firstBad nodeBad NodeD.id 0 0 s.nodes = none ∧ firstBad loadBad LoadD.id 0 s.nodes.length s.loads = none ∧
    firstBad (podBad s.nodes s.loads) PodD.id 0 (s.nodes.length + s.loads.length) s.pods = none := by
  unfold check
  constructor
  · intro h
    by_cases h1 : large s = true
    · rw [if_pos h1] at h; simp at h
    · rw [if_neg h1] at h
      have h1' : large s = false := by simpa using h1
      split at h
      · rename_i b k e; exact absurd h (firstBad_pos e)
      · rename_i e1
        split at h
        · rename_i b k e; exact absurd h (firstBad_pos e)
        · rename_i e2
          split at h
          · rename_i b k e; exact absurd h (firstBad_pos e)
          · rename_i e3; exact ⟨h1', e1, e2, e3⟩
  · rintro ⟨h1, h2, h3, h4⟩
    simp [h1, h2, h3, h4]
theorem check_fewer {s : SnapD} (n : Nat) (h : (check s).1 = 0) : (check { s with pods := s.pods.take n }).1 = 0 := by
  obtain ⟨h1, h2, h3, h4⟩ := check_ok.1 h
  refine check_ok.2 ⟨?_, h2, h3, firstBad_take n h4⟩
  simp only [large, decide_eq_false_iff_not] at h1 ⊢
  have := List.length_take_le n s.pods
  simp only [List.length_take] at this ⊢
  omega
theorem check_zero {s : SnapD} (h : (check s).1 = 0) : check s = (0, -1) := by
  obtain ⟨h1, h2, h3, h4⟩ := check_ok.1 h
  unfold check
  simp [h1, h2, h3, h4]
theorem fair_none {s : SnapD} (h : (check s).1 = 0) : fair s ⟨[], 0, 0⟩ = (0, -1) := by
  unfold fair
  simp [h, firstWant]

/-- Where nothing is amiss the numbers rise. -/
theorem firstBad_rises {α : Type} {bad : Int → α → Int} {f : α → Int} (hbad : ∀ last x, bad last x = 0 → last < f x) : ∀ {l : List α} {last : Int} {k : Nat}, firstBad bad f last k l = none → ∀ i (h : i < l.length), last < f l[i] ∧ ∀ j (hj : j < i), f (l[j]'(by omega)) < f l[i]
  | [], _, _, _, i, h => by simp at h
  | x :: r, last, k, hn, i, h => by
    simp only [firstBad] at hn
    split at hn
    · cases hn
    · rename_i h0
      have hx := hbad last x (by simpa using h0)
      have ih := firstBad_rises hbad hn
      cases i with
      | zero => exact ⟨hx, fun j hj => by omega⟩
      | succ i =>
        obtain ⟨a, b⟩ := ih i (by simpa using h)
        refine ⟨by simp; omega, fun j hj => ?_⟩
        cases j with
        | zero => simpa using a
        | succ j => simpa using b j (by omega)
theorem nodeBad_rises (last : Int) (n : NodeD) (h : nodeBad last n = 0) : last < n.id := by
  unfold nodeBad at h
  split at h
  · cases h
  · exact (idBad_ok h).2.2
theorem loadBad_rises (last : Int) (l : LoadD) (h : loadBad last l = 0) : last < l.id := by
  unfold loadBad at h
  split at h
  · cases h
  · exact (idBad_ok h).2.2
theorem found {α : Type} {bad : Int → α → Int} {f : α → Int} (hbad : ∀ last x, bad last x = 0 → last < f x) {l : List α} {last : Int} {k : Nat} (h : firstBad bad f last k l = none) (i : Nat) (hi : i < l.length) : place f (f l[i]) l 0 = i := by
  have := place_at (f := f) (id := f l[i]) (l := l) (k := 0) hi rfl (fun j hj => by have := (firstBad_rises hbad h i hi).2 j hj; omega)
  omega

/-- Zones, rising, each once: one more. -/
def insZ (z : Int) : List Int → List Int
  | [] => [z]
  | y :: r => if y < z then y :: insZ z r else if y = z then y :: r else z :: y :: r
def zonesOf (l : List NodeD) : List Int := l.foldl (fun acc n => insZ n.zone acc) []
def Rising : List Int → Prop
  | [] => True
  | x :: r => (∀ y ∈ r, x < y) ∧ Rising r
theorem insZ_mem {z y : Int} : ∀ {l : List Int}, y ∈ insZ z l ↔ y = z ∨ y ∈ l
  | [] => by simp [insZ]
  | x :: r => by
    unfold insZ
    split
    · simp [insZ_mem (l := r)]; constructor <;> (rintro (h | h | h) <;> simp [h])
    · split
      · rename_i h; subst h; simp; 
      · simp
theorem insZ_rising {z : Int} : ∀ {l : List Int}, Rising l → Rising (insZ z l)
  | [], _ => ⟨by simp, trivial⟩
  | x :: r, h => by
    unfold insZ
    split
    · rename_i hx
      refine ⟨fun y hy => ?_, insZ_rising h.2⟩
      rcases insZ_mem.1 hy with rfl | hy
      · exact hx
      · exact h.1 y hy
    · split
      · exact h
      · rename_i h1 h2
        refine ⟨fun y hy => ?_, h⟩
        rcases List.mem_cons.1 hy with rfl | hy
        · omega
        · have := h.1 y hy; omega
theorem insZ_len {z : Int} : ∀ {l : List Int}, 1 ≤ (insZ z l).length ∧ (insZ z l).length ≤ l.length + 1
  | [] => by simp [insZ]
  | x :: r => by
    unfold insZ
    split
    · have := insZ_len (z := z) (l := r); simp; omega
    · split <;> simp
theorem zones_fold (l : List NodeD) : ∀ acc : List Int, Rising acc → Rising (l.foldl (fun acc n => insZ n.zone acc) acc) ∧ (l.foldl (fun acc n => insZ n.zone acc) acc).length ≤ acc.length + l.length ∧ (0 < l.length ∨ 0 < acc.length → 1 ≤ (l.foldl (fun acc n => insZ n.zone acc) acc).length) := by
  induction l with
  | nil => intro acc h; exact ⟨h, by simp, by simp; omega⟩
  | cons n r ih =>
    intro acc h
    have h1 := insZ_len (z := n.zone) (l := acc)
    obtain ⟨a, b, c⟩ := ih (insZ n.zone acc) (insZ_rising h)
    exact ⟨a, by simp only [List.foldl_cons, List.length_cons]; omega, fun _ => c (.inr (by omega))⟩
end Go.Proofs.YtaeklohgheildaaDoor
