/- Joined texts, part 1: CM CA CB CC CD CE CI CF E K Is Told CG DA RO. -/
import Derived.KernelRfl
import Derived.Test.YthmddkelfnfhkaaRows
import Derived.WalkKit
import Derived.WalkSpells
import Derived.WalkLawsBesides
import Derived.Lib.Hide
import Derived.OwnWalk
import Derived.LaidEql
import Derived.ChangeKeysEq
import Derived.Laws.StructEq
import Derived.Deep.QuietTactic
import Derived.BigQuiet
import Derived.LaidEqlPtr
import Derived.Stop.Asserts
import Derived.RowKitTokens
import Derived.Deep.RegionHeld3

/- Plain mathematics of clusters that may be; no program stands in it. -/
namespace Go.Proofs.Ythmddkelfnfhkaa
set_option linter.unusedSimpArgs false

structure V4 where
  a : Int
  b : Int
  c : Int
  d : Int
structure NodeD where
  id : Int
  zone : Int
  cap : V4
  held : V4
structure LoadD where
  id : Int
  apart : Bool
  skew : Int
  min : Int
  max : Int
structure PodD where
  id : Int
  load : Int
  prio : Int
  req : V4
  node : Int
structure WantD where
  pod : Int
  req : V4
  stay : Bool
structure SnapD where
  nodes : List NodeD
  loads : List LoadD
  pods : List PodD
structure SpecD where
  wants : List WantD
  preempts : Int
  shifts : Int

def V4.le (x y : V4) : Bool := decide (x.a ≤ y.a ∧ x.b ≤ y.b ∧ x.c ≤ y.c ∧ x.d ≤ y.d)
def V4.zero (x : V4) : Bool := decide (x.a = 0 ∧ x.b = 0 ∧ x.c = 0 ∧ x.d = 0)

/-- The place of the first one whose number is id; -1: there is none. -/
def place {α : Type} (f : α → Int) (id : Int) : List α → Int → Int
  | [], _ => -1
  | x :: r, k => if f x = id then k else place f id r (k + 1)
theorem place_neg {α : Type} {f : α → Int} {id : Int} : ∀ {l : List α} {k : Int}, 0 ≤ k → (place f id l k < 0 ↔ ∀ x ∈ l, f x ≠ id)
  | [], k, _ => by simp [place]
  | x :: r, k, hk => by
    by_cases h : f x = id
    · simp [place, h]; omega
    · simp [place, h, place_neg (l := r) (k := k + 1) (by omega)]
theorem place_ge {α : Type} {f : α → Int} {id : Int} : ∀ {l : List α} {k : Int}, 0 ≤ k → -1 ≤ place f id l k ∧ place f id l k < k + l.length
  | [], k, hk => by simp [place]; omega
  | x :: r, k, hk => by
    by_cases h : f x = id
    · simp [place, h]; omega
    · have := place_ge (f := f) (id := id) (l := r) (k := k + 1) (by omega)
      simp [place, h]; omega
theorem place_at {α : Type} {f : α → Int} {id : Int} : ∀ {l : List α} {k : Int} {i : Nat} (h : i < l.length), f l[i] = id → (∀ j (hj : j < i), f (l[j]'(by omega)) ≠ id) → place f id l k = k + i
  | [], _, _, h, _, _ => by simp at h
  | x :: r, k, 0, _, he, _ => by simp [place] at he ⊢; simp [he]
  | x :: r, k, i + 1, h, he, hn => by
    have h0 : f x ≠ id := hn 0 (by omega)
    have := place_at (f := f) (id := id) (l := r) (k := k + 1) (i := i) (by simpa using h) (by simpa using he) (fun j hj => hn (j + 1) (by omega))
    simp [place, h0, this]; omega

def idBad (n last : Int) : Int := if n < 1 ∨ 2147483647 < n then 1 else if n = last then 5 else if n < last then 1 else 0
def countOk (n : Int) : Bool := decide (0 ≤ n ∧ n ≤ 100)
def nodeBad (last : Int) (n : NodeD) : Int := if idBad n.id last = 0 ∧ (n.zone < 1 ∨ 8 < n.zone ∨ n.held.le n.cap = false) then 1 else idBad n.id last
def loadBad (last : Int) (l : LoadD) : Int := if idBad l.id last = 0 ∧ (countOk l.skew = false ∨ countOk l.min = false ∨ countOk l.max = false ∨ l.max < l.min) then 1 else idBad l.id last
def podBad (nodes : List NodeD) (loads : List LoadD) (last : Int) (p : PodD) : Int :=
  if idBad p.id last ≠ 0 then idBad p.id last else if countOk p.prio = false then 1
  else if place LoadD.id p.load loads 0 < 0 ∨ (p.node ≠ 0 ∧ place NodeD.id p.node nodes 0 < 0) then 4 else 0

/-- The first one at fault, and its place. -/
def firstBad {α : Type} (bad : Int → α → Int) (f : α → Int) : Int → Nat → List α → Option (Int × Nat)
  | _, _, [] => none
  | last, k, x :: r => if bad last x ≠ 0 then some (bad last x, k) else firstBad bad f (f x) (k + 1) r

theorem firstBad_take {α : Type} {bad : Int → α → Int} {f : α → Int} : ∀ {l : List α} {last : Int} {k : Nat} (n : Nat), firstBad bad f last k l = none → firstBad bad f last k (l.take n) = none
  | [], _, _, _, _ => by simp [firstBad]
  | x :: r, last, k, 0, _ => by simp [firstBad]
  | x :: r, last, k, n + 1, h => by
    simp only [firstBad] at h
    split at h
    · cases h
    · rename_i h0
      simp only [List.take_succ_cons, firstBad, if_neg h0]
      exact firstBad_take n h

def large (s : SnapD) : Bool := decide (s.nodes.length = 0 ∨ 8 < s.nodes.length ∨ 8 < s.loads.length ∨ 12 < s.pods.length)
/-- What is amiss first with a snapshot, and where (-1: itself); (0, -1): nothing. -/
def check (s : SnapD) : Int × Int :=
  if large s then (3, -1) else
  match firstBad nodeBad NodeD.id 0 0 s.nodes with
  | some (b, k) => (b, k)
  | none => match firstBad loadBad LoadD.id 0 s.nodes.length s.loads with
    | some (b, k) => (b, k)
    | none => match firstBad (podBad s.nodes s.loads) PodD.id 0 (s.nodes.length + s.loads.length) s.pods with
      | some (b, k) => (b, k)
      | none => (0, -1)

def wantBad (s : SnapD) (first : Bool) (last : Int) (w : WantD) : Int :=
  if first = false ∧ w.pod = last then 5 else if first = false ∧ w.pod < last then 1
  else if place PodD.id w.pod s.pods 0 < 0 then 4 else if w.stay = false ∧ w.req.zero = false then 1 else 0
def firstWant (s : SnapD) : Bool → Int → Nat → List WantD → Option (Int × Nat)
  | _, _, _, [] => none
  | first, last, k, w :: r => if wantBad s first last w ≠ 0 then some (wantBad s first last w, k) else firstWant s false w.pod (k + 1) r
def fair (s : SnapD) (x : SpecD) : Int × Int :=
  if (check s).1 ≠ 0 then check s
  else if x.preempts < 0 ∨ 40 < x.preempts ∨ x.shifts < 0 ∨ 40 < x.shifts then (3, -1)
  else match firstWant s true 0 0 x.wants with
    | some (b, k) => (b, k)
    | none => (0, -1)

theorem idBad_vals (n last : Int) : idBad n last = 0 ∨ idBad n last = 1 ∨ idBad n last = 5 := by unfold idBad; split <;> (try split) <;> (try split) <;> simp
theorem idBad_ok {n last : Int} (h : idBad n last = 0) : 1 ≤ n ∧ n ≤ 2147483647 ∧ last < n := by
  unfold idBad at h
  split at h
  · omega
  · split at h
    · omega
    · split at h <;> omega
theorem firstBad_pos {α : Type} {bad : Int → α → Int} {f : α → Int} : ∀ {l : List α} {last : Int} {k : Nat} {b : Int} {j : Nat}, firstBad bad f last k l = some (b, j) → b ≠ 0
  | [], _, _, _, _, h => by simp [firstBad] at h
  | x :: r, last, k, b, j, h => by
    simp only [firstBad] at h
    split at h
    · rename_i h0; simp at h; rw [← h.1]; exact h0
    · exact firstBad_pos h

/-- Nothing amiss: all parts. -/
theorem check_ok {s : SnapD} : (check s).1 = 0 ↔ large s = false ∧ firstBad nodeBad NodeD.id 0 0 s.nodes = none ∧ firstBad loadBad LoadD.id 0 s.nodes.length s.loads = none ∧
    firstBad (podBad s.nodes s.loads) PodD.id 0 (s.nodes.length + s.loads.length) s.pods = none := by
  unfold check
  constructor
  · intro h
    by_cases h1 : large s = true
    · rw [if_pos h1] at h; simp at h
    · rw [if_neg h1] at h
      have h1' : large s = false := by simpa using h1
      split at h
      · rename_i b k e; exact absurd h (firstBad_pos e)
      · rename_i e1
        split at h
        · rename_i b k e; exact absurd h (firstBad_pos e)
        · rename_i e2
          split at h
          · rename_i b k e; exact absurd h (firstBad_pos e)
          · rename_i e3; exact ⟨h1', e1, e2, e3⟩
  · rintro ⟨h1, h2, h3, h4⟩
    simp [h1, h2, h3, h4]
theorem check_fewer {s : SnapD} (n : Nat) (h : (check s).1 = 0) : (check { s with pods := s.pods.take n }).1 = 0 := by
  obtain ⟨h1, h2, h3, h4⟩ := check_ok.1 h
  refine check_ok.2 ⟨?_, h2, h3, firstBad_take n h4⟩
  simp only [large, decide_eq_false_iff_not] at h1 ⊢
  have := List.length_take_le n s.pods
  simp only [List.length_take] at this ⊢
  omega
theorem check_zero {s : SnapD} (h : (check s).1 = 0) : check s = (0, -1) := by
  obtain ⟨h1, h2, h3, h4⟩ := check_ok.1 h
  unfold check
  simp [h1, h2, h3, h4]
theorem fair_none {s : SnapD} (h : (check s).1 = 0) : fair s ⟨[], 0, 0⟩ = (0, -1) := by
  unfold fair
  simp [h, firstWant]

/-- Where nothing is amiss the numbers rise. -/
theorem firstBad_rises {α : Type} {bad : Int → α → Int} {f : α → Int} (hbad : ∀ last x, bad last x = 0 → last < f x) : ∀ {l : List α} {last : Int} {k : Nat}, firstBad bad f last k l = none → ∀ i (h : i < l.length), last < f l[i] ∧ ∀ j (hj : j < i), f (l[j]'(by omega)) < f l[i]
  | [], _, _, _, i, h => by simp at h
  | x :: r, last, k, hn, i, h => by
    simp only [firstBad] at hn
    split at hn
    · cases hn
    · rename_i h0
      have hx := hbad last x (by simpa using h0)
      have ih := firstBad_rises hbad hn
      cases i with
      | zero => exact ⟨hx, fun j hj => by omega⟩
      | succ i =>
        obtain ⟨a, b⟩ := ih i (by simpa using h)
        refine ⟨by simp; omega, fun j hj => ?_⟩
        cases j with
        | zero => simpa using a
        | succ j => simpa using b j (by omega)
theorem nodeBad_rises (last : Int) (n : NodeD) (h : nodeBad last n = 0) : last < n.id := by
  unfold nodeBad at h
  split at h
  · cases h
  · exact (idBad_ok h).2.2
theorem loadBad_rises (last : Int) (l : LoadD) (h : loadBad last l = 0) : last < l.id := by
  unfold loadBad at h
  split at h
  · cases h
  · exact (idBad_ok h).2.2
theorem found {α : Type} {bad : Int → α → Int} {f : α → Int} (hbad : ∀ last x, bad last x = 0 → last < f x) {l : List α} {last : Int} {k : Nat} (h : firstBad bad f last k l = none) (i : Nat) (hi : i < l.length) : place f (f l[i]) l 0 = i := by
  have := place_at (f := f) (id := f l[i]) (l := l) (k := 0) hi rfl (fun j hj => by have := (firstBad_rises hbad h i hi).2 j hj; omega)
  omega

/-- Zones, rising, each once: one more. -/
def insZ (z : Int) : List Int → List Int
  | [] => [z]
  | y :: r => if y < z then y :: insZ z r else if y = z then y :: r else z :: y :: r
def zonesOf (l : List NodeD) : List Int := l.foldl (fun acc n => insZ n.zone acc) []
def Rising : List Int → Prop
  | [] => True
  | x :: r => (∀ y ∈ r, x < y) ∧ Rising r
theorem insZ_mem {z y : Int} : ∀ {l : List Int}, y ∈ insZ z l ↔ y = z ∨ y ∈ l
  | [] => by simp [insZ]
  | x :: r => by
    unfold insZ
    split
    · simp [insZ_mem (l := r)]; constructor <;> (rintro (h | h | h) <;> simp [h])
    · split
      · rename_i h; subst h; simp; 
      · simp
theorem insZ_rising {z : Int} : ∀ {l : List Int}, Rising l → Rising (insZ z l)
  | [], _ => ⟨by simp, trivial⟩
  | x :: r, h => by
    unfold insZ
    split
    · rename_i hx
      refine ⟨fun y hy => ?_, insZ_rising h.2⟩
      rcases insZ_mem.1 hy with rfl | hy
      · exact hx
      · exact h.1 y hy
    · split
      · exact h
      · rename_i h1 h2
        refine ⟨fun y hy => ?_, h⟩
        rcases List.mem_cons.1 hy with rfl | hy
        · omega
        · have := h.1 y hy; omega
theorem insZ_len {z : Int} : ∀ {l : List Int}, 1 ≤ (insZ z l).length ∧ (insZ z l).length ≤ l.length + 1
  | [] => by simp [insZ]
  | x :: r => by
    unfold insZ
    split
    · have := insZ_len (z := z) (l := r); simp; omega
    · split <;> simp
theorem zones_fold (l : List NodeD) : ∀ acc : List Int, Rising acc → Rising (l.foldl (fun acc n => insZ n.zone acc) acc) ∧ (l.foldl (fun acc n => insZ n.zone acc) acc).length ≤ acc.length + l.length ∧ (0 < l.length ∨ 0 < acc.length → 1 ≤ (l.foldl (fun acc n => insZ n.zone acc) acc).length) := by
  induction l with
  | nil => intro acc h; exact ⟨h, by simp, by simp; omega⟩
  | cons n r ih =>
    intro acc h
    have h1 := insZ_len (z := n.zone) (l := acc)
    obtain ⟨a, b, c⟩ := ih (insZ n.zone acc) (insZ_rising h)
    exact ⟨a, by simp only [List.foldl_cons, List.length_cons]; omega, fun _ => c (.inr (by omega))⟩
end Go.Proofs.Ythmddkelfnfhkaa

/- How nodes, loads, pods and wants lie in memory; the reference's small functions of layer 3. -/
namespace Go.Proofs.Ythmddkelfnfhkaa
set_option linter.unusedSimpArgs false
open Go.RowKit
set_option linter.unusedVariables false

def cellsV (x : V4) : List Value := [.int .u64 x.a, .int .u64 x.b, .int .u64 x.c, .int .u64 x.d]
def cellsN (n : NodeD) : List Value := [.int .i64 n.id, .int .i64 n.zone, .int .u64 n.cap.a, .int .u64 n.cap.b, .int .u64 n.cap.c, .int .u64 n.cap.d, .int .u64 n.held.a, .int .u64 n.held.b, .int .u64 n.held.c, .int .u64 n.held.d]
def cellsL (l : LoadD) : List Value := [.int .i64 l.id, .bool l.apart, .int .i64 l.skew, .int .i64 l.min, .int .i64 l.max]
def cellsP (p : PodD) : List Value := [.int .i64 p.id, .int .i64 p.load, .int .i64 p.prio, .int .u64 p.req.a, .int .u64 p.req.b, .int .u64 p.req.c, .int .u64 p.req.d, .int .i64 p.node]
def cellsW (x : WantD) : List Value := [.int .i64 x.pod, .int .u64 x.req.a, .int .u64 x.req.b, .int .u64 x.req.c, .int .u64 x.req.d, .bool x.stay]

/-- The slice '.slice A xs.length c' of records of so many cells reads as xs in w, and lies below block B. -/
def Recs {α : Type} (size : Nat) (cells : α → List Value) (w : World) (B : Nat) (A : Option Addr) (xs : List α) : Prop :=
  xs = [] ∨ ∃ b o, A = some ⟨b, o, none⟩ ∧ b < B ∧ ∀ i (h : i < xs.length) j u, (cells xs[i])[j]? = some u → w.cell? ⟨b, o + i * size + j, none⟩ = some u

section
variable {α : Type} {size : Nat} {cells : α → List Value} {w w' : World} {B B' : Nat} {A : Option Addr} {xs : List α}
theorem Recs.nil : Recs size cells w B A [] := .inl rfl
theorem Recs.below (h : Recs size cells w B A xs) (hb : Below B' w w') (hB : B ≤ B') : Recs size cells w' B A xs := by
  rcases h with h | ⟨b, o, h1, h2, h3⟩
  · exact .inl h
  · exact .inr ⟨b, o, h1, h2, fun i hi j u hu => (hb.cell (p := ⟨b, o + i * size + j, none⟩) (Nat.lt_of_lt_of_le h2 hB)).trans (h3 i hi j u hu)⟩
theorem Recs.more (h : Recs size cells w B A xs) (hB : B ≤ B') : Recs size cells w B' A xs := by
  rcases h with h | ⟨b, o, h1, h2, h3⟩
  · exact .inl h
  · exact .inr ⟨b, o, h1, Nat.lt_of_lt_of_le h2 hB, h3⟩
theorem Recs.at (h : Recs size cells w B A xs) {k : Nat} (hk : k < xs.length) :
    ∃ b o, A = some ⟨b, o, none⟩ ∧ b < B ∧ ∀ j u, (cells xs[k])[j]? = some u → w.cell? ⟨b, o + k * size + j, none⟩ = some u := by
  rcases h with h | ⟨b, o, h1, h2, h3⟩
  · subst h; simp at hk
  · exact ⟨b, o, h1, h2, h3 k hk⟩
theorem Recs.take (h : Recs size cells w B A xs) (n : Nat) : Recs size cells w B A (xs.take n) := by
  rcases h with h | ⟨b, o, h1, h2, h3⟩
  · exact .inl (by simp [h])
  · exact .inr ⟨b, o, h1, h2, fun i hi j u hu => h3 i (by simp at hi; omega) j u (by rw [List.getElem_take] at hu; exact hu)⟩
end

/-- A snapshot as it is handed over: three slices. -/
structure Snap (w : World) (B : Nat) (s : SnapD) (v : Value) : Prop where
  is : ∃ A1 c1 A2 c2 A3 c3, v = .agg #[.slice A1 s.nodes.length c1, .slice A2 s.loads.length c2, .slice A3 s.pods.length c3] ∧
    Recs 10 cellsN w B A1 s.nodes ∧ Recs 5 cellsL w B A2 s.loads ∧ Recs 8 cellsP w B A3 s.pods

theorem place_step {α : Type} {f : α → Int} {id : Int} {l : List α} {k : Nat} (h : k < l.length) (hne : f l[k] ≠ id) (hp : place f id (l.drop k) k = place f id l 0) : place f id (l.drop (k + 1)) ((k + 1 : Nat) : Int) = place f id l 0 := by
  rw [← hp, List.drop_eq_getElem_cons h, place, if_neg hne]; rfl
theorem place_here {α : Type} {f : α → Int} {id : Int} {l : List α} {k : Nat} (h : k < l.length) (he : f l[k] = id) (hp : place f id (l.drop k) k = place f id l 0) : place f id l 0 = k := by
  rw [← hp, List.drop_eq_getElem_cons h, place, if_pos he]
theorem place_end {α : Type} {f : α → Int} {id : Int} {l : List α} {k : Nat} (h : l.length ≤ k) (hp : place f id (l.drop k) k = place f id l 0) : place f id l 0 = -1 := by
  rw [← hp, List.drop_of_length_le h, place]
def FindRel {α : Type} (f : α → Int) (id : Int) (l : List α) (i : Value) : Prop := ∃ k : Nat, k ≤ l.length ∧ i = .int .i64 k ∧ place f id (l.drop k) k = place f id l 0
theorem ret_int {a b : Int} (h : a = b) : Ending.returned (.int .i64 a) = .returned (.int .i64 b) := by rw [h]

end Go.Proofs.Ythmddkelfnfhkaa

/- The reference's functions of layer 3 that look for one, and its small functions. -/
namespace Go.Proofs.Ythmddkelfnfhkaa
set_option linter.unusedSimpArgs false
open Go.RowKit
set_option linter.unusedVariables false

theorem ret_bool {a b : Bool} (h : a = b) : Ending.returned (.bool a) = .returned (.bool b) := by rw [h]
set_option maxHeartbeats 800000 in
theorem few_any (A1 A2 A3 : Option Addr) (n1 c1 n2 c2 n3 c3 : Nat) (w : World) :
    Calls Try.prog 15 #[.agg #[.slice A1 n1 c1, .slice A2 n2 c2, .slice A3 n3 c3]] w fun e w' => e = .returned (.bool (decide (n1 ≤ 40 ∧ n2 ≤ 40 ∧ n3 ≤ 40))) ∧ Below w.heap.size w w' := by
  by_cases h1 : n1 ≤ 40
  · by_cases h2 : n2 ≤ 40
    · by_cases h3 : n3 ≤ 40
      · have HE := Lib.hid (show decide (n1 ≤ 40 ∧ n2 ≤ 40 ∧ n3 ≤ 40) = true by simp [h1, h2, h3])
        have hd : decide ((n3 : Int) ≤ 40) = true := decide_eq_true (by omega)
        go_enter Try.func15, Try.ntmps15
        go_wp2
        go_ret
        exact ⟨ret_bool HE.out.symm, (Below.refl _ _).alloc (Nat.le_refl _) _⟩
      · have HE := Lib.hid (show decide (n1 ≤ 40 ∧ n2 ≤ 40 ∧ n3 ≤ 40) = false by simp; omega)
        have hd : decide ((n3 : Int) ≤ 40) = false := decide_eq_false (by omega)
        go_enter Try.func15, Try.ntmps15
        go_wp2
        go_ret
        exact ⟨ret_bool HE.out.symm, (Below.refl _ _).alloc (Nat.le_refl _) _⟩
    · have HE := Lib.hid (show decide (n1 ≤ 40 ∧ n2 ≤ 40 ∧ n3 ≤ 40) = false by simp; omega)
      have hd : decide ((n2 : Int) ≤ 40) = false := decide_eq_false (by omega)
      go_enter Try.func15, Try.ntmps15
      go_wp2
      go_ret
      exact ⟨ret_bool HE.out.symm, (Below.refl _ _).alloc (Nat.le_refl _) _⟩
  · have HE := Lib.hid (show decide (n1 ≤ 40 ∧ n2 ≤ 40 ∧ n3 ≤ 40) = false by simp; omega)
    have hd : decide ((n1 : Int) ≤ 40) = false := decide_eq_false (by omega)
    go_enter Try.func15, Try.ntmps15
    go_wp2
    go_ret
    exact ⟨ret_bool HE.out.symm, (Below.refl _ _).alloc (Nat.le_refl _) _⟩
end Go.Proofs.Ythmddkelfnfhkaa

/- dunnageref01.Fits, dunnagelaw00.Code and Told. -/
namespace Go.Proofs.Ythmddkelfnfhkaa
set_option linter.unusedSimpArgs false
open Go.RowKit
set_option linter.unusedVariables false

abbrev aggV (x : V4) : Value := .agg #[.int .u64 x.a, .int .u64 x.b, .int .u64 x.c, .int .u64 x.d]
theorem below_two (w : World) (o o' : Obj) : Below w.heap.size w ((w.alloc o).alloc o') := ((Below.refl _ _).alloc (Nat.le_refl _) o).alloc (by simp) o'
end Go.Proofs.Ythmddkelfnfhkaa

/- dunnageref03.Check. -/
namespace Go.Proofs.Ythmddkelfnfhkaa
set_option linter.unusedSimpArgs false
open Go.RowKit
set_option linter.unusedVariables false

theorem box_cells {w wr : World} {x y z : Value} {t : TypeId} (hb : Below (w.heap.size + 1) (w.alloc (.cells #[x, y, z] t)) wr) :
    wr.cell? ⟨w.heap.size, 0, none⟩ = some x ∧ wr.cell? ⟨w.heap.size, 1, none⟩ = some y ∧ wr.cell? ⟨w.heap.size, 2, none⟩ = some z := by
  refine ⟨?_, ?_, ?_⟩
  all_goals
    rw [hb.cell (by show w.heap.size < w.heap.size + 1; omega)]
    simp

theorem firstBad_at {α : Type} {bad : Int → α → Int} {f : α → Int} {l : List α} {la : Int} {k m : Nat} {F : Option (Int × Nat)} (h : k < l.length) {x : α} (hx : l[k] = x) (hf : firstBad bad f la m (l.drop k) = F) :
    (bad la x ≠ 0 → F = some (bad la x, m)) ∧ (bad la x = 0 → firstBad bad f (f x) (m + 1) (l.drop (k + 1)) = F) := by
  rw [List.drop_eq_getElem_cons h, hx, firstBad] at hf
  constructor
  · intro hb; rw [if_pos hb] at hf; exact hf.symm
  · intro hb; rw [if_neg (by simpa using hb)] at hf; exact hf
theorem firstBad_end {α : Type} {bad : Int → α → Int} {f : α → Int} {l : List α} {la : Int} {k m : Nat} {F : Option (Int × Nat)} (h : l.length ≤ k) (hf : firstBad bad f la m (l.drop k) = F) : F = none := by
  rw [List.drop_of_length_le h, firstBad] at hf
  exact hf.symm
theorem check_large {s : SnapD} (h : large s = true) : check s = (3, -1) := by unfold check; rw [if_pos h]
theorem check_node {s : SnapD} (h : ¬ large s = true) {b : Int} {k : Nat} (hf : firstBad nodeBad NodeD.id 0 0 s.nodes = some (b, k)) : check s = (b, (k : Int)) := by unfold check; rw [if_neg h, hf]
theorem check_load {s : SnapD} (h : ¬ large s = true) (h1 : firstBad nodeBad NodeD.id 0 0 s.nodes = none) {b : Int} {k : Nat} (hf : firstBad loadBad LoadD.id 0 s.nodes.length s.loads = some (b, k)) : check s = (b, (k : Int)) := by unfold check; rw [if_neg h, h1, hf]
theorem check_pod {s : SnapD} (h : ¬ large s = true) (h1 : firstBad nodeBad NodeD.id 0 0 s.nodes = none) (h2 : firstBad loadBad LoadD.id 0 s.nodes.length s.loads = none) {b : Int} {k : Nat} (hf : firstBad (podBad s.nodes s.loads) PodD.id 0 (s.nodes.length + s.loads.length) s.pods = some (b, k)) : check s = (b, (k : Int)) := by
  unfold check; rw [if_neg h, h1, h2, hf]
theorem check_fine {s : SnapD} (h : ¬ large s = true) (h1 : firstBad nodeBad NodeD.id 0 0 s.nodes = none) (h2 : firstBad loadBad LoadD.id 0 s.nodes.length s.loads = none) (hf : firstBad (podBad s.nodes s.loads) PodD.id 0 (s.nodes.length + s.loads.length) s.pods = none) : check s = (0, -1) := by
  unfold check; rw [if_neg h, h1, h2, hf]
theorem ret_pair {a b c d : Int} {p : Int × Int} (h : p = (a, b)) (e1 : c = a) (e2 : d = b) : Ending.returned (.tuple #[.int .i64 c, .int .i64 d]) = .returned (.tuple #[.int .i64 p.1, .int .i64 p.2]) := by rw [h, e1, e2]

def NodesRel (s : SnapD) (W : World) (B : Nat) (last at_ i : Value) (wr : World) : Prop :=
  ∃ (k : Nat) (la : Int), k ≤ s.nodes.length ∧ i = .int .i64 k ∧ at_ = .int .i64 k ∧ last = .int .i64 la ∧ firstBad nodeBad NodeD.id la k (s.nodes.drop k) = firstBad nodeBad NodeD.id 0 0 s.nodes ∧ Below B W wr

def LoadsRel (s : SnapD) (W : World) (B : Nat) (last at_ i : Value) (wr : World) : Prop :=
  ∃ (k m : Nat) (la : Int), k ≤ s.loads.length ∧ m = s.nodes.length + k ∧ i = .int .i64 k ∧ at_ = .int .i64 m ∧ last = .int .i64 la ∧ firstBad loadBad LoadD.id la m (s.loads.drop k) = firstBad loadBad LoadD.id 0 s.nodes.length s.loads ∧ Below B W wr
def PodsRel (s : SnapD) (W : World) (B : Nat) (last at_ i : Value) (wr : World) : Prop :=
  ∃ (k m : Nat) (la : Int), k ≤ s.pods.length ∧ m = s.nodes.length + s.loads.length + k ∧ i = .int .i64 k ∧ at_ = .int .i64 m ∧ last = .int .i64 la ∧ firstBad (podBad s.nodes s.loads) PodD.id la m (s.pods.drop k) = firstBad (podBad s.nodes s.loads) PodD.id 0 (s.nodes.length + s.loads.length) s.pods ∧ Below B W wr

end Go.Proofs.Ythmddkelfnfhkaa

/- '==' and '!=' on amounts. -/
namespace Go.Proofs.Ythmddkelfnfhkaa
set_option linter.unusedSimpArgs false
open Go.RowKit
set_option linter.unusedVariables false

theorem num_eqIn (d : Nat) (a b : Int) (w : World) : (Op.equalIn (d + 1) 34 (.int .u64 a) (.int .u64 b)).run Try.prog w = .ok (a == b) w := by
  simp [Op.equalIn, run_underlying Try.underlying34]
theorem part_num (cs : Array Value) (j : Nat) (v : Value) (h : cs[j]? = some v) (w : World) : (part 34 cs j).run Try.prog w = .ok v w := by
  have hf : ∀ w : World, (isAgg 34).run Try.prog w = .ok false w := fun _ => by kernel_rfl
  simp [part, hf, h]
theorem vec_eqlIn (d : Nat) (a0 a1 a2 a3 b0 b1 b2 b3 : Int) (w : World) :
    (Op.equalIn (d + 2) 36 (.agg #[.int .u64 a0, .int .u64 a1, .int .u64 a2, .int .u64 a3]) (.agg #[.int .u64 b0, .int .u64 b1, .int .u64 b2, .int .u64 b3])).run Try.prog w
      = .ok (a0 == b0 && (a1 == b1 && (a2 == b2 && a3 == b3))) w := by
  obtain ⟨i, hi⟩ := Option.isSome_iff_exists.1 (show (Try.prog.info? 34).isSome = true by kernel_rfl)
  rw [run_equalIn_array w (d + 1) _ _ Try.underlying36 hi]
  have hc : Try.prog.cellsOf 34 = 1 := by kernel_rfl
  rw [hc, show List.range 4 = [0, 1, 2, 3] from rfl]
  simp only [Op.eqItems, Sem.run_bind, Nat.mul_one]
  rw [part_num #[.int .u64 a0, .int .u64 a1, .int .u64 a2, .int .u64 a3] 0 (.int .u64 a0) rfl]
  simp only [Result.andThen_ok]
  rw [part_num _ 0 (.int .u64 b0) rfl]
  simp only [Result.andThen_ok, num_eqIn]
  cases h0 : a0 == b0
  · simp
  simp only [Bool.not_true, Bool.false_eq_true, if_false, Sem.run_bind, Bool.true_and]
  rw [part_num _ 1 (.int .u64 a1) rfl]
  simp only [Result.andThen_ok]
  rw [part_num _ 1 (.int .u64 b1) rfl]
  simp only [Result.andThen_ok, num_eqIn]
  cases h1 : a1 == b1
  · simp
  simp only [Bool.not_true, Bool.false_eq_true, if_false, Sem.run_bind, Bool.true_and]
  rw [part_num _ 2 (.int .u64 a2) rfl]
  simp only [Result.andThen_ok]
  rw [part_num _ 2 (.int .u64 b2) rfl]
  simp only [Result.andThen_ok, num_eqIn]
  cases h2 : a2 == b2
  · simp
  simp only [Bool.not_true, Bool.false_eq_true, if_false, Sem.run_bind, Bool.true_and]
  rw [part_num _ 3 (.int .u64 a3) rfl]
  simp only [Result.andThen_ok]
  rw [part_num _ 3 (.int .u64 b3) rfl]
  simp only [Result.andThen_ok, num_eqIn]
  cases h3 : a3 == b3 <;> simp
theorem vec_eql (a0 a1 a2 a3 b0 b1 b2 b3 : Int) (w : World) :
    (binOp .eql 36 (.agg #[.int .u64 a0, .int .u64 a1, .int .u64 a2, .int .u64 a3]) (.agg #[.int .u64 b0, .int .u64 b1, .int .u64 b2, .int .u64 b3])).run Try.prog w
      = .ok (.bool (a0 == b0 && (a1 == b1 && (a2 == b2 && a3 == b3)))) w := by
  simp only [binOp]
  simp [Op.equal, Op.maxDepth, vec_eqlIn 9998]
theorem vec_same (a0 a1 a2 a3 : Int) (w : World) :
    (binOp .eql 36 (.agg #[.int .u64 a0, .int .u64 a1, .int .u64 a2, .int .u64 a3]) (.agg #[.int .u64 a0, .int .u64 a1, .int .u64 a2, .int .u64 a3])).run Try.prog w = .ok (.bool true) w := by
  rw [vec_eql]; simp
theorem vec_neq0 (x : V4) (w : World) :
    (binOp .neq 36 (aggV x) (.agg #[.int .u64 0, .int .u64 0, .int .u64 0, .int .u64 0])).run Try.prog w = .ok (.bool (!x.zero)) w := by
  simp only [binOp]
  have e : x.zero = (x.a == 0 && (x.b == 0 && (x.c == 0 && x.d == 0))) := by
    unfold V4.zero
    rw [Bool.eq_iff_iff]
    simp
  rw [e]
  simp [Op.equal, Op.maxDepth, vec_eqlIn 9998]
end Go.Proofs.Ythmddkelfnfhkaa

/- '!=' of a node, a load, a want and itself. -/
namespace Go.Proofs.Ythmddkelfnfhkaa
set_option linter.unusedSimpArgs false
open Go.RowKit
set_option linter.unusedVariables false

theorem int_eqIn (d : Nat) (a : Int) (w : World) : (Op.equalIn (d + 1) 3 (.int .i64 a) (.int .i64 a)).run Try.prog w = .ok true w := by
  simp [Op.equalIn, run_underlying Try.underlying3]
theorem bool_eqIn (d : Nat) (a : Bool) (w : World) : (Op.equalIn (d + 1) 4 (.bool a) (.bool a)).run Try.prog w = .ok true w := by
  simp [Op.equalIn, run_underlying Try.underlying4]
theorem vec_eqIn (d : Nat) (a0 a1 a2 a3 : Int) (w : World) : (Op.equalIn (d + 2) 36 (.agg #[.int .u64 a0, .int .u64 a1, .int .u64 a2, .int .u64 a3]) (.agg #[.int .u64 a0, .int .u64 a1, .int .u64 a2, .int .u64 a3])).run Try.prog w = .ok true w := by
  rw [vec_eqlIn]; simp
theorem part_int (cs : Array Value) (j : Nat) (v : Value) (h : cs[j]? = some v) (w : World) : (part 3 cs j).run Try.prog w = .ok v w := by
  have hf : ∀ w : World, (isAgg 3).run Try.prog w = .ok false w := fun _ => by kernel_rfl
  simp [part, hf, h]
theorem part_bool (cs : Array Value) (j : Nat) (v : Value) (h : cs[j]? = some v) (w : World) : (part 4 cs j).run Try.prog w = .ok v w := by
  have hf : ∀ w : World, (isAgg 4).run Try.prog w = .ok false w := fun _ => by kernel_rfl
  simp [part, hf, h]
theorem part_vec (cs : Array Value) (j : Nat) (v0 v1 v2 v3 : Value) (h : cs.extract j (j + 4) = #[v0, v1, v2, v3]) (w : World) : (part 36 cs j).run Try.prog w = .ok (.agg #[v0, v1, v2, v3]) w := by
  have hf : ∀ w : World, (isAgg 36).run Try.prog w = .ok true w := fun _ => by kernel_rfl
  have hs : ∀ w : World, (sizeOf 36).run Try.prog w = .ok 4 w := fun _ => by kernel_rfl
  simp [part, hf, hs, h]
theorem eqFields_step {d : Nat} {xs ys : Array Value} {f : Field} {fs : List Field} {a b : Value} {w : World} (hn : f.name ≠ "_") (ha : (part f.type xs f.offset).run Try.prog w = .ok a w) (hb : (part f.type ys f.offset).run Try.prog w = .ok b w) (he : (Op.equalIn d f.type a b).run Try.prog w = .ok true w) :
    (Op.eqFields d xs ys (f :: fs)).run Try.prog w = (Op.eqFields d xs ys fs).run Try.prog w := by
  simp [Op.eqFields, hn, ha, hb, he]
theorem node_same (x : NodeD) (w : World) : (binOp .neq 53 (.agg (cellsN x).toArray) (.agg (cellsN x).toArray)).run Try.prog w = .ok (.bool false) w := by
  have hf : (Try.prog.fieldsOf 53).toList = [(⟨"Id", 3, 0, false, "", "", 0⟩ : Field), (⟨"Zone", 3, 1, false, "", "", 8⟩ : Field), (⟨"Cap", 36, 2, false, "", "", 16⟩ : Field), (⟨"Held", 36, 6, false, "", "", 48⟩ : Field)] := by kernel_rfl
  have hc : (cellsN x).toArray = #[.int .i64 x.id, .int .i64 x.zone, .int .u64 x.cap.a, .int .u64 x.cap.b, .int .u64 x.cap.c, .int .u64 x.cap.d, .int .u64 x.held.a, .int .u64 x.held.b, .int .u64 x.held.c, .int .u64 x.held.d] := rfl
  rw [hc, run_neq_struct, run_equalIn_struct w 9999 53 _ _ (by kernel_rfl) (by kernel_rfl), hf]
  clear hc hf
  have s0 : (Op.eqFields 9999 #[.int .i64 x.id, .int .i64 x.zone, .int .u64 x.cap.a, .int .u64 x.cap.b, .int .u64 x.cap.c, .int .u64 x.cap.d, .int .u64 x.held.a, .int .u64 x.held.b, .int .u64 x.held.c, .int .u64 x.held.d] #[.int .i64 x.id, .int .i64 x.zone, .int .u64 x.cap.a, .int .u64 x.cap.b, .int .u64 x.cap.c, .int .u64 x.cap.d, .int .u64 x.held.a, .int .u64 x.held.b, .int .u64 x.held.c, .int .u64 x.held.d] ((⟨"Id", 3, 0, false, "", "", 0⟩ : Field) :: [(⟨"Zone", 3, 1, false, "", "", 8⟩ : Field), (⟨"Cap", 36, 2, false, "", "", 16⟩ : Field), (⟨"Held", 36, 6, false, "", "", 48⟩ : Field)])).run Try.prog w = (Op.eqFields 9999 #[.int .i64 x.id, .int .i64 x.zone, .int .u64 x.cap.a, .int .u64 x.cap.b, .int .u64 x.cap.c, .int .u64 x.cap.d, .int .u64 x.held.a, .int .u64 x.held.b, .int .u64 x.held.c, .int .u64 x.held.d] #[.int .i64 x.id, .int .i64 x.zone, .int .u64 x.cap.a, .int .u64 x.cap.b, .int .u64 x.cap.c, .int .u64 x.cap.d, .int .u64 x.held.a, .int .u64 x.held.b, .int .u64 x.held.c, .int .u64 x.held.d] [(⟨"Zone", 3, 1, false, "", "", 8⟩ : Field), (⟨"Cap", 36, 2, false, "", "", 16⟩ : Field), (⟨"Held", 36, 6, false, "", "", 48⟩ : Field)]).run Try.prog w := eqFields_step (a := (.int .i64 x.id)) (b := (.int .i64 x.id)) (by decide) (part_int #[.int .i64 x.id, .int .i64 x.zone, .int .u64 x.cap.a, .int .u64 x.cap.b, .int .u64 x.cap.c, .int .u64 x.cap.d, .int .u64 x.held.a, .int .u64 x.held.b, .int .u64 x.held.c, .int .u64 x.held.d] 0 (.int .i64 x.id) rfl w) (part_int #[.int .i64 x.id, .int .i64 x.zone, .int .u64 x.cap.a, .int .u64 x.cap.b, .int .u64 x.cap.c, .int .u64 x.cap.d, .int .u64 x.held.a, .int .u64 x.held.b, .int .u64 x.held.c, .int .u64 x.held.d] 0 (.int .i64 x.id) rfl w) (int_eqIn 9998 x.id w)
  have s1 : (Op.eqFields 9999 #[.int .i64 x.id, .int .i64 x.zone, .int .u64 x.cap.a, .int .u64 x.cap.b, .int .u64 x.cap.c, .int .u64 x.cap.d, .int .u64 x.held.a, .int .u64 x.held.b, .int .u64 x.held.c, .int .u64 x.held.d] #[.int .i64 x.id, .int .i64 x.zone, .int .u64 x.cap.a, .int .u64 x.cap.b, .int .u64 x.cap.c, .int .u64 x.cap.d, .int .u64 x.held.a, .int .u64 x.held.b, .int .u64 x.held.c, .int .u64 x.held.d] ((⟨"Zone", 3, 1, false, "", "", 8⟩ : Field) :: [(⟨"Cap", 36, 2, false, "", "", 16⟩ : Field), (⟨"Held", 36, 6, false, "", "", 48⟩ : Field)])).run Try.prog w = (Op.eqFields 9999 #[.int .i64 x.id, .int .i64 x.zone, .int .u64 x.cap.a, .int .u64 x.cap.b, .int .u64 x.cap.c, .int .u64 x.cap.d, .int .u64 x.held.a, .int .u64 x.held.b, .int .u64 x.held.c, .int .u64 x.held.d] #[.int .i64 x.id, .int .i64 x.zone, .int .u64 x.cap.a, .int .u64 x.cap.b, .int .u64 x.cap.c, .int .u64 x.cap.d, .int .u64 x.held.a, .int .u64 x.held.b, .int .u64 x.held.c, .int .u64 x.held.d] [(⟨"Cap", 36, 2, false, "", "", 16⟩ : Field), (⟨"Held", 36, 6, false, "", "", 48⟩ : Field)]).run Try.prog w := eqFields_step (a := (.int .i64 x.zone)) (b := (.int .i64 x.zone)) (by decide) (part_int #[.int .i64 x.id, .int .i64 x.zone, .int .u64 x.cap.a, .int .u64 x.cap.b, .int .u64 x.cap.c, .int .u64 x.cap.d, .int .u64 x.held.a, .int .u64 x.held.b, .int .u64 x.held.c, .int .u64 x.held.d] 1 (.int .i64 x.zone) rfl w) (part_int #[.int .i64 x.id, .int .i64 x.zone, .int .u64 x.cap.a, .int .u64 x.cap.b, .int .u64 x.cap.c, .int .u64 x.cap.d, .int .u64 x.held.a, .int .u64 x.held.b, .int .u64 x.held.c, .int .u64 x.held.d] 1 (.int .i64 x.zone) rfl w) (int_eqIn 9998 x.zone w)
  have s2 : (Op.eqFields 9999 #[.int .i64 x.id, .int .i64 x.zone, .int .u64 x.cap.a, .int .u64 x.cap.b, .int .u64 x.cap.c, .int .u64 x.cap.d, .int .u64 x.held.a, .int .u64 x.held.b, .int .u64 x.held.c, .int .u64 x.held.d] #[.int .i64 x.id, .int .i64 x.zone, .int .u64 x.cap.a, .int .u64 x.cap.b, .int .u64 x.cap.c, .int .u64 x.cap.d, .int .u64 x.held.a, .int .u64 x.held.b, .int .u64 x.held.c, .int .u64 x.held.d] ((⟨"Cap", 36, 2, false, "", "", 16⟩ : Field) :: [(⟨"Held", 36, 6, false, "", "", 48⟩ : Field)])).run Try.prog w = (Op.eqFields 9999 #[.int .i64 x.id, .int .i64 x.zone, .int .u64 x.cap.a, .int .u64 x.cap.b, .int .u64 x.cap.c, .int .u64 x.cap.d, .int .u64 x.held.a, .int .u64 x.held.b, .int .u64 x.held.c, .int .u64 x.held.d] #[.int .i64 x.id, .int .i64 x.zone, .int .u64 x.cap.a, .int .u64 x.cap.b, .int .u64 x.cap.c, .int .u64 x.cap.d, .int .u64 x.held.a, .int .u64 x.held.b, .int .u64 x.held.c, .int .u64 x.held.d] [(⟨"Held", 36, 6, false, "", "", 48⟩ : Field)]).run Try.prog w := eqFields_step (a := (.agg #[.int .u64 x.cap.a, .int .u64 x.cap.b, .int .u64 x.cap.c, .int .u64 x.cap.d])) (b := (.agg #[.int .u64 x.cap.a, .int .u64 x.cap.b, .int .u64 x.cap.c, .int .u64 x.cap.d])) (by decide) (part_vec #[.int .i64 x.id, .int .i64 x.zone, .int .u64 x.cap.a, .int .u64 x.cap.b, .int .u64 x.cap.c, .int .u64 x.cap.d, .int .u64 x.held.a, .int .u64 x.held.b, .int .u64 x.held.c, .int .u64 x.held.d] 2 (.int .u64 x.cap.a) (.int .u64 x.cap.b) (.int .u64 x.cap.c) (.int .u64 x.cap.d) rfl w) (part_vec #[.int .i64 x.id, .int .i64 x.zone, .int .u64 x.cap.a, .int .u64 x.cap.b, .int .u64 x.cap.c, .int .u64 x.cap.d, .int .u64 x.held.a, .int .u64 x.held.b, .int .u64 x.held.c, .int .u64 x.held.d] 2 (.int .u64 x.cap.a) (.int .u64 x.cap.b) (.int .u64 x.cap.c) (.int .u64 x.cap.d) rfl w) (vec_eqIn 9997 x.cap.a x.cap.b x.cap.c x.cap.d w)
  have s3 : (Op.eqFields 9999 #[.int .i64 x.id, .int .i64 x.zone, .int .u64 x.cap.a, .int .u64 x.cap.b, .int .u64 x.cap.c, .int .u64 x.cap.d, .int .u64 x.held.a, .int .u64 x.held.b, .int .u64 x.held.c, .int .u64 x.held.d] #[.int .i64 x.id, .int .i64 x.zone, .int .u64 x.cap.a, .int .u64 x.cap.b, .int .u64 x.cap.c, .int .u64 x.cap.d, .int .u64 x.held.a, .int .u64 x.held.b, .int .u64 x.held.c, .int .u64 x.held.d] ((⟨"Held", 36, 6, false, "", "", 48⟩ : Field) :: [])).run Try.prog w = (Op.eqFields 9999 #[.int .i64 x.id, .int .i64 x.zone, .int .u64 x.cap.a, .int .u64 x.cap.b, .int .u64 x.cap.c, .int .u64 x.cap.d, .int .u64 x.held.a, .int .u64 x.held.b, .int .u64 x.held.c, .int .u64 x.held.d] #[.int .i64 x.id, .int .i64 x.zone, .int .u64 x.cap.a, .int .u64 x.cap.b, .int .u64 x.cap.c, .int .u64 x.cap.d, .int .u64 x.held.a, .int .u64 x.held.b, .int .u64 x.held.c, .int .u64 x.held.d] []).run Try.prog w := eqFields_step (a := (.agg #[.int .u64 x.held.a, .int .u64 x.held.b, .int .u64 x.held.c, .int .u64 x.held.d])) (b := (.agg #[.int .u64 x.held.a, .int .u64 x.held.b, .int .u64 x.held.c, .int .u64 x.held.d])) (by decide) (part_vec #[.int .i64 x.id, .int .i64 x.zone, .int .u64 x.cap.a, .int .u64 x.cap.b, .int .u64 x.cap.c, .int .u64 x.cap.d, .int .u64 x.held.a, .int .u64 x.held.b, .int .u64 x.held.c, .int .u64 x.held.d] 6 (.int .u64 x.held.a) (.int .u64 x.held.b) (.int .u64 x.held.c) (.int .u64 x.held.d) rfl w) (part_vec #[.int .i64 x.id, .int .i64 x.zone, .int .u64 x.cap.a, .int .u64 x.cap.b, .int .u64 x.cap.c, .int .u64 x.cap.d, .int .u64 x.held.a, .int .u64 x.held.b, .int .u64 x.held.c, .int .u64 x.held.d] 6 (.int .u64 x.held.a) (.int .u64 x.held.b) (.int .u64 x.held.c) (.int .u64 x.held.d) rfl w) (vec_eqIn 9997 x.held.a x.held.b x.held.c x.held.d w)
  rw [s0, s1, s2, s3]
  simp [Op.eqFields]
theorem load_same (x : LoadD) (w : World) : (binOp .neq 94 (.agg (cellsL x).toArray) (.agg (cellsL x).toArray)).run Try.prog w = .ok (.bool false) w := by
  have hf : (Try.prog.fieldsOf 94).toList = [(⟨"Id", 3, 0, false, "", "", 0⟩ : Field), (⟨"Apart", 4, 1, false, "", "", 8⟩ : Field), (⟨"Skew", 3, 2, false, "", "", 16⟩ : Field), (⟨"Min", 3, 3, false, "", "", 24⟩ : Field), (⟨"Max", 3, 4, false, "", "", 32⟩ : Field)] := by kernel_rfl
  have hc : (cellsL x).toArray = #[.int .i64 x.id, .bool x.apart, .int .i64 x.skew, .int .i64 x.min, .int .i64 x.max] := rfl
  rw [hc, run_neq_struct, run_equalIn_struct w 9999 94 _ _ (by kernel_rfl) (by kernel_rfl), hf]
  clear hc hf
  have s0 : (Op.eqFields 9999 #[.int .i64 x.id, .bool x.apart, .int .i64 x.skew, .int .i64 x.min, .int .i64 x.max] #[.int .i64 x.id, .bool x.apart, .int .i64 x.skew, .int .i64 x.min, .int .i64 x.max] ((⟨"Id", 3, 0, false, "", "", 0⟩ : Field) :: [(⟨"Apart", 4, 1, false, "", "", 8⟩ : Field), (⟨"Skew", 3, 2, false, "", "", 16⟩ : Field), (⟨"Min", 3, 3, false, "", "", 24⟩ : Field), (⟨"Max", 3, 4, false, "", "", 32⟩ : Field)])).run Try.prog w = (Op.eqFields 9999 #[.int .i64 x.id, .bool x.apart, .int .i64 x.skew, .int .i64 x.min, .int .i64 x.max] #[.int .i64 x.id, .bool x.apart, .int .i64 x.skew, .int .i64 x.min, .int .i64 x.max] [(⟨"Apart", 4, 1, false, "", "", 8⟩ : Field), (⟨"Skew", 3, 2, false, "", "", 16⟩ : Field), (⟨"Min", 3, 3, false, "", "", 24⟩ : Field), (⟨"Max", 3, 4, false, "", "", 32⟩ : Field)]).run Try.prog w := eqFields_step (a := (.int .i64 x.id)) (b := (.int .i64 x.id)) (by decide) (part_int #[.int .i64 x.id, .bool x.apart, .int .i64 x.skew, .int .i64 x.min, .int .i64 x.max] 0 (.int .i64 x.id) rfl w) (part_int #[.int .i64 x.id, .bool x.apart, .int .i64 x.skew, .int .i64 x.min, .int .i64 x.max] 0 (.int .i64 x.id) rfl w) (int_eqIn 9998 x.id w)
  have s1 : (Op.eqFields 9999 #[.int .i64 x.id, .bool x.apart, .int .i64 x.skew, .int .i64 x.min, .int .i64 x.max] #[.int .i64 x.id, .bool x.apart, .int .i64 x.skew, .int .i64 x.min, .int .i64 x.max] ((⟨"Apart", 4, 1, false, "", "", 8⟩ : Field) :: [(⟨"Skew", 3, 2, false, "", "", 16⟩ : Field), (⟨"Min", 3, 3, false, "", "", 24⟩ : Field), (⟨"Max", 3, 4, false, "", "", 32⟩ : Field)])).run Try.prog w = (Op.eqFields 9999 #[.int .i64 x.id, .bool x.apart, .int .i64 x.skew, .int .i64 x.min, .int .i64 x.max] #[.int .i64 x.id, .bool x.apart, .int .i64 x.skew, .int .i64 x.min, .int .i64 x.max] [(⟨"Skew", 3, 2, false, "", "", 16⟩ : Field), (⟨"Min", 3, 3, false, "", "", 24⟩ : Field), (⟨"Max", 3, 4, false, "", "", 32⟩ : Field)]).run Try.prog w := eqFields_step (a := (.bool x.apart)) (b := (.bool x.apart)) (by decide) (part_bool #[.int .i64 x.id, .bool x.apart, .int .i64 x.skew, .int .i64 x.min, .int .i64 x.max] 1 (.bool x.apart) rfl w) (part_bool #[.int .i64 x.id, .bool x.apart, .int .i64 x.skew, .int .i64 x.min, .int .i64 x.max] 1 (.bool x.apart) rfl w) (bool_eqIn 9998 x.apart w)
  have s2 : (Op.eqFields 9999 #[.int .i64 x.id, .bool x.apart, .int .i64 x.skew, .int .i64 x.min, .int .i64 x.max] #[.int .i64 x.id, .bool x.apart, .int .i64 x.skew, .int .i64 x.min, .int .i64 x.max] ((⟨"Skew", 3, 2, false, "", "", 16⟩ : Field) :: [(⟨"Min", 3, 3, false, "", "", 24⟩ : Field), (⟨"Max", 3, 4, false, "", "", 32⟩ : Field)])).run Try.prog w = (Op.eqFields 9999 #[.int .i64 x.id, .bool x.apart, .int .i64 x.skew, .int .i64 x.min, .int .i64 x.max] #[.int .i64 x.id, .bool x.apart, .int .i64 x.skew, .int .i64 x.min, .int .i64 x.max] [(⟨"Min", 3, 3, false, "", "", 24⟩ : Field), (⟨"Max", 3, 4, false, "", "", 32⟩ : Field)]).run Try.prog w := eqFields_step (a := (.int .i64 x.skew)) (b := (.int .i64 x.skew)) (by decide) (part_int #[.int .i64 x.id, .bool x.apart, .int .i64 x.skew, .int .i64 x.min, .int .i64 x.max] 2 (.int .i64 x.skew) rfl w) (part_int #[.int .i64 x.id, .bool x.apart, .int .i64 x.skew, .int .i64 x.min, .int .i64 x.max] 2 (.int .i64 x.skew) rfl w) (int_eqIn 9998 x.skew w)
  have s3 : (Op.eqFields 9999 #[.int .i64 x.id, .bool x.apart, .int .i64 x.skew, .int .i64 x.min, .int .i64 x.max] #[.int .i64 x.id, .bool x.apart, .int .i64 x.skew, .int .i64 x.min, .int .i64 x.max] ((⟨"Min", 3, 3, false, "", "", 24⟩ : Field) :: [(⟨"Max", 3, 4, false, "", "", 32⟩ : Field)])).run Try.prog w = (Op.eqFields 9999 #[.int .i64 x.id, .bool x.apart, .int .i64 x.skew, .int .i64 x.min, .int .i64 x.max] #[.int .i64 x.id, .bool x.apart, .int .i64 x.skew, .int .i64 x.min, .int .i64 x.max] [(⟨"Max", 3, 4, false, "", "", 32⟩ : Field)]).run Try.prog w := eqFields_step (a := (.int .i64 x.min)) (b := (.int .i64 x.min)) (by decide) (part_int #[.int .i64 x.id, .bool x.apart, .int .i64 x.skew, .int .i64 x.min, .int .i64 x.max] 3 (.int .i64 x.min) rfl w) (part_int #[.int .i64 x.id, .bool x.apart, .int .i64 x.skew, .int .i64 x.min, .int .i64 x.max] 3 (.int .i64 x.min) rfl w) (int_eqIn 9998 x.min w)
  have s4 : (Op.eqFields 9999 #[.int .i64 x.id, .bool x.apart, .int .i64 x.skew, .int .i64 x.min, .int .i64 x.max] #[.int .i64 x.id, .bool x.apart, .int .i64 x.skew, .int .i64 x.min, .int .i64 x.max] ((⟨"Max", 3, 4, false, "", "", 32⟩ : Field) :: [])).run Try.prog w = (Op.eqFields 9999 #[.int .i64 x.id, .bool x.apart, .int .i64 x.skew, .int .i64 x.min, .int .i64 x.max] #[.int .i64 x.id, .bool x.apart, .int .i64 x.skew, .int .i64 x.min, .int .i64 x.max] []).run Try.prog w := eqFields_step (a := (.int .i64 x.max)) (b := (.int .i64 x.max)) (by decide) (part_int #[.int .i64 x.id, .bool x.apart, .int .i64 x.skew, .int .i64 x.min, .int .i64 x.max] 4 (.int .i64 x.max) rfl w) (part_int #[.int .i64 x.id, .bool x.apart, .int .i64 x.skew, .int .i64 x.min, .int .i64 x.max] 4 (.int .i64 x.max) rfl w) (int_eqIn 9998 x.max w)
  rw [s0, s1, s2, s3, s4]
  simp [Op.eqFields]
theorem want_same (x : WantD) (w : World) : (binOp .neq 59 (.agg (cellsW x).toArray) (.agg (cellsW x).toArray)).run Try.prog w = .ok (.bool false) w := by
  have hf : (Try.prog.fieldsOf 59).toList = [(⟨"Pod", 3, 0, false, "", "", 0⟩ : Field), (⟨"Req", 36, 1, false, "", "", 8⟩ : Field), (⟨"Stay", 4, 5, false, "", "", 40⟩ : Field)] := by kernel_rfl
  have hc : (cellsW x).toArray = #[.int .i64 x.pod, .int .u64 x.req.a, .int .u64 x.req.b, .int .u64 x.req.c, .int .u64 x.req.d, .bool x.stay] := rfl
  rw [hc, run_neq_struct, run_equalIn_struct w 9999 59 _ _ (by kernel_rfl) (by kernel_rfl), hf]
  clear hc hf
  have s0 : (Op.eqFields 9999 #[.int .i64 x.pod, .int .u64 x.req.a, .int .u64 x.req.b, .int .u64 x.req.c, .int .u64 x.req.d, .bool x.stay] #[.int .i64 x.pod, .int .u64 x.req.a, .int .u64 x.req.b, .int .u64 x.req.c, .int .u64 x.req.d, .bool x.stay] ((⟨"Pod", 3, 0, false, "", "", 0⟩ : Field) :: [(⟨"Req", 36, 1, false, "", "", 8⟩ : Field), (⟨"Stay", 4, 5, false, "", "", 40⟩ : Field)])).run Try.prog w = (Op.eqFields 9999 #[.int .i64 x.pod, .int .u64 x.req.a, .int .u64 x.req.b, .int .u64 x.req.c, .int .u64 x.req.d, .bool x.stay] #[.int .i64 x.pod, .int .u64 x.req.a, .int .u64 x.req.b, .int .u64 x.req.c, .int .u64 x.req.d, .bool x.stay] [(⟨"Req", 36, 1, false, "", "", 8⟩ : Field), (⟨"Stay", 4, 5, false, "", "", 40⟩ : Field)]).run Try.prog w := eqFields_step (a := (.int .i64 x.pod)) (b := (.int .i64 x.pod)) (by decide) (part_int #[.int .i64 x.pod, .int .u64 x.req.a, .int .u64 x.req.b, .int .u64 x.req.c, .int .u64 x.req.d, .bool x.stay] 0 (.int .i64 x.pod) rfl w) (part_int #[.int .i64 x.pod, .int .u64 x.req.a, .int .u64 x.req.b, .int .u64 x.req.c, .int .u64 x.req.d, .bool x.stay] 0 (.int .i64 x.pod) rfl w) (int_eqIn 9998 x.pod w)
  have s1 : (Op.eqFields 9999 #[.int .i64 x.pod, .int .u64 x.req.a, .int .u64 x.req.b, .int .u64 x.req.c, .int .u64 x.req.d, .bool x.stay] #[.int .i64 x.pod, .int .u64 x.req.a, .int .u64 x.req.b, .int .u64 x.req.c, .int .u64 x.req.d, .bool x.stay] ((⟨"Req", 36, 1, false, "", "", 8⟩ : Field) :: [(⟨"Stay", 4, 5, false, "", "", 40⟩ : Field)])).run Try.prog w = (Op.eqFields 9999 #[.int .i64 x.pod, .int .u64 x.req.a, .int .u64 x.req.b, .int .u64 x.req.c, .int .u64 x.req.d, .bool x.stay] #[.int .i64 x.pod, .int .u64 x.req.a, .int .u64 x.req.b, .int .u64 x.req.c, .int .u64 x.req.d, .bool x.stay] [(⟨"Stay", 4, 5, false, "", "", 40⟩ : Field)]).run Try.prog w := eqFields_step (a := (.agg #[.int .u64 x.req.a, .int .u64 x.req.b, .int .u64 x.req.c, .int .u64 x.req.d])) (b := (.agg #[.int .u64 x.req.a, .int .u64 x.req.b, .int .u64 x.req.c, .int .u64 x.req.d])) (by decide) (part_vec #[.int .i64 x.pod, .int .u64 x.req.a, .int .u64 x.req.b, .int .u64 x.req.c, .int .u64 x.req.d, .bool x.stay] 1 (.int .u64 x.req.a) (.int .u64 x.req.b) (.int .u64 x.req.c) (.int .u64 x.req.d) rfl w) (part_vec #[.int .i64 x.pod, .int .u64 x.req.a, .int .u64 x.req.b, .int .u64 x.req.c, .int .u64 x.req.d, .bool x.stay] 1 (.int .u64 x.req.a) (.int .u64 x.req.b) (.int .u64 x.req.c) (.int .u64 x.req.d) rfl w) (vec_eqIn 9997 x.req.a x.req.b x.req.c x.req.d w)
  have s2 : (Op.eqFields 9999 #[.int .i64 x.pod, .int .u64 x.req.a, .int .u64 x.req.b, .int .u64 x.req.c, .int .u64 x.req.d, .bool x.stay] #[.int .i64 x.pod, .int .u64 x.req.a, .int .u64 x.req.b, .int .u64 x.req.c, .int .u64 x.req.d, .bool x.stay] ((⟨"Stay", 4, 5, false, "", "", 40⟩ : Field) :: [])).run Try.prog w = (Op.eqFields 9999 #[.int .i64 x.pod, .int .u64 x.req.a, .int .u64 x.req.b, .int .u64 x.req.c, .int .u64 x.req.d, .bool x.stay] #[.int .i64 x.pod, .int .u64 x.req.a, .int .u64 x.req.b, .int .u64 x.req.c, .int .u64 x.req.d, .bool x.stay] []).run Try.prog w := eqFields_step (a := (.bool x.stay)) (b := (.bool x.stay)) (by decide) (part_bool #[.int .i64 x.pod, .int .u64 x.req.a, .int .u64 x.req.b, .int .u64 x.req.c, .int .u64 x.req.d, .bool x.stay] 5 (.bool x.stay) rfl w) (part_bool #[.int .i64 x.pod, .int .u64 x.req.a, .int .u64 x.req.b, .int .u64 x.req.c, .int .u64 x.req.d, .bool x.stay] 5 (.bool x.stay) rfl w) (bool_eqIn 9998 x.stay w)
  rw [s0, s1, s2]
  simp [Op.eqFields]
end Go.Proofs.Ythmddkelfnfhkaa

/- dunnageref03.Fair. -/
namespace Go.Proofs.Ythmddkelfnfhkaa
set_option linter.unusedSimpArgs false
open Go.RowKit
set_option linter.unusedVariables false
set_option linter.unusedSimpArgs false

theorem below_draws {B : Nat} {a w : World} (h : Below B a w) (n : Nat) : Below B a (w.drewN n) := ⟨h.os, h.tape, h.output, h.size, h.block⟩
theorem box2_cells {w wr : World} {x y z x' y' z' : Value} {t t' : TypeId} (hb : Below (w.heap.size + 2) ((w.alloc (.cells #[x, y, z] t)).alloc (.cells #[x', y', z'] t')) wr) :
    (wr.cell? ⟨w.heap.size, 0, none⟩ = some x ∧ wr.cell? ⟨w.heap.size, 1, none⟩ = some y ∧ wr.cell? ⟨w.heap.size, 2, none⟩ = some z) ∧
    (wr.cell? ⟨w.heap.size + 1, 0, none⟩ = some x' ∧ wr.cell? ⟨w.heap.size + 1, 1, none⟩ = some y' ∧ wr.cell? ⟨w.heap.size + 1, 2, none⟩ = some z') := by
  refine ⟨⟨?_, ?_, ?_⟩, ?_, ?_, ?_⟩
  all_goals
    rw [hb.cell (by simp)]
    simp
def FairRel (s : SnapD) (x : SpecD) (W : World) (B : Nat) (i : Value) (wr : World) : Prop :=
  ∃ (k : Nat) (fst : Bool) (la : Int), k ≤ x.wants.length ∧ i = .int .i64 k ∧ (k = 0 → fst = true) ∧ (∀ j (hj : j < x.wants.length), k = j + 1 → fst = false ∧ la = x.wants[j].pod) ∧
    firstWant s fst la k (x.wants.drop k) = firstWant s true 0 0 x.wants ∧ Below B W wr
theorem fairRel_next {s : SnapD} {x : SpecD} {W wr : World} {B k : Nat} {wd : WantD} (hk : k < x.wants.length) (hx : x.wants[k] = wd) (h : firstWant s false wd.pod (k + 1) (x.wants.drop (k + 1)) = firstWant s true 0 0 x.wants) (hb : Below B W wr) : FairRel s x W B (.int .i64 ((k : Int) + 1)) wr := by
  refine ⟨k + 1, false, wd.pod, by omega, by simp, fun h => by omega, fun j hj h => ⟨rfl, ?_⟩, h, hb⟩
  obtain rfl : j = k := by omega
  rw [hx]
theorem firstWant_at {s : SnapD} {l : List WantD} {fst : Bool} {la : Int} {k m : Nat} {F : Option (Int × Nat)} (h : k < l.length) {x : WantD} (hx : l[k] = x) (hf : firstWant s fst la m (l.drop k) = F) :
    (wantBad s fst la x ≠ 0 → F = some (wantBad s fst la x, m)) ∧ (wantBad s fst la x = 0 → firstWant s false x.pod (m + 1) (l.drop (k + 1)) = F) := by
  rw [List.drop_eq_getElem_cons h, hx, firstWant] at hf
  constructor
  · intro hb; rw [if_pos hb] at hf; exact hf.symm
  · intro hb; rw [if_neg (by simpa using hb)] at hf; exact hf
theorem fair_bad {s : SnapD} {x : SpecD} (h : (check s).1 ≠ 0) : fair s x = check s := by unfold fair; rw [if_pos h]
theorem fair_large {s : SnapD} {x : SpecD} (h : (check s).1 = 0) (h1 : x.preempts < 0 ∨ 40 < x.preempts ∨ x.shifts < 0 ∨ 40 < x.shifts) : fair s x = (3, -1) := by unfold fair; rw [if_neg (by simpa using h), if_pos h1]
theorem fair_some {s : SnapD} {x : SpecD} (h : (check s).1 = 0) (h1 : ¬ (x.preempts < 0 ∨ 40 < x.preempts ∨ x.shifts < 0 ∨ 40 < x.shifts)) {b : Int} {k : Nat} (hf : firstWant s true 0 0 x.wants = some (b, k)) : fair s x = (b, (k : Int)) := by
  unfold fair; rw [if_neg (by simpa using h), if_neg h1, hf]
theorem fair_fine {s : SnapD} {x : SpecD} (h : (check s).1 = 0) (h1 : ¬ (x.preempts < 0 ∨ 40 < x.preempts ∨ x.shifts < 0 ∨ 40 < x.shifts)) (hf : firstWant s true 0 0 x.wants = none) : fair s x = (0, -1) := by
  unfold fair; rw [if_neg (by simpa using h), if_neg h1, hf]
theorem ret_pair' {p q : Int × Int} (h : p = q) : Ending.returned (.tuple #[.int .i64 q.1, .int .i64 q.2]) = .returned (.tuple #[.int .i64 p.1, .int .i64 p.2]) := by rw [h]

end Go.Proofs.Ythmddkelfnfhkaa

/- errors.As and errors.Is at the errors that package wire tells: a nil error, and a *api.Spot. -/
namespace Go.Proofs.Ythmddkelfnfhkaa
set_option linter.unusedSimpArgs false
open Go.RowKit Go.Extern.Stop Go.Stop Go.Extern
set_option linter.unusedVariables false

/-! ### CLOSED FACTS ON THE MODEL's ENTRIES FOR internal/reflectlite, at this program's types: 51: *api.Spot, 53: **api.Spot, 28: error, 73: reflectlite's rtype; 1: how many package-level variables the dump has -/
/-! ### THE ENTRIES THAT READ OR WRITE MEMORY: laws with a premise on the cell (after Derived/Lib/ReflectliteSlice.lean's manner: each unfolding a lemma of its own, by rfl) -/
theorem rlm (z : Sem Value) (f : TypeId → Addr → Nat → Nat → Sem Value) (v : Value) :
    ReflectliteValue.method z f #[v] = (do match ← ReflectliteValue.parts v with | none => z | some (t, a, fl) => f t a fl (fl % 32)) := rfl
end Go.Proofs.Ythmddkelfnfhkaa

/- errors.Is of a *api.Spot and its own Code; dunnagelaw00.Is of such an error. -/
namespace Go.Proofs.Ythmddkelfnfhkaa
set_option linter.unusedSimpArgs false
open Go.RowKit Go.Extern.Stop Go.Stop Go.Extern
set_option linter.unusedVariables false

theorem Try.compCode : (Try.prog.info? 54).map (·.comparable) = some true := by kernel_rfl
theorem eql_codes (a : Int) (w : World) : (binOp .eql 47 (.iface 54 (.int .i64 a)) (.iface 54 (.int .i64 a))).run Try.prog w = .ok (.bool true) w := by
  obtain ⟨i, hi, hcmp⟩ := Option.map_eq_some_iff.1 Try.compCode
  have h : ∀ d : Nat, (Op.equalIn (d + 2) 47 (.iface 54 (.int .i64 a)) (.iface 54 (.int .i64 a))).run Try.prog w = .ok true w := fun d => by
    simp [Op.equalIn, run_underlying Try.underlying47, run_underlying Try.underlying54, typeInfo, hi, hcmp]
  simp only [binOp]
  simp [Op.equal, Op.maxDepth, h 9998]
end Go.Proofs.Ythmddkelfnfhkaa

/- errors.As and dunnagelaw00.Is of a Spot: what they tell, and what stays. -/
namespace Go.Proofs.Ythmddkelfnfhkaa
set_option linter.unusedSimpArgs false
open Go.RowKit
set_option linter.unusedVariables false

end Go.Proofs.Ythmddkelfnfhkaa

/- dunnagelaw00.Code and Told, at the errors that a layer tells: none, a Code itself, a Spot. -/
namespace Go.Proofs.Ythmddkelfnfhkaa
set_option linter.unusedSimpArgs false
open Go.RowKit
set_option linter.unusedVariables false

theorem eql_code (a b : Int) (w : World) : (binOp .eql 47 (.iface 54 (.int .i64 a)) (.iface 54 (.int .i64 b))).run Try.prog w = .ok (.bool (a == b)) w := by
  obtain ⟨i, hi, hcmp⟩ := Option.map_eq_some_iff.1 Try.compCode
  have h : ∀ d : Nat, (Op.equalIn (d + 2) 47 (.iface 54 (.int .i64 a)) (.iface 54 (.int .i64 b))).run Try.prog w = .ok (a == b) w := fun d => by
    simp [Op.equalIn, run_underlying Try.underlying47, run_underlying Try.underlying54, typeInfo, hi, hcmp]
  simp only [binOp]
  simp [Op.equal, Op.maxDepth, h 9998]
def CodeRel (c : Int) (x : Value) : Prop := ∃ k : Int, 1 ≤ k ∧ k ≤ c ∧ x = .int .i64 k
end Go.Proofs.Ythmddkelfnfhkaa

/- What a call of layer 3 that tells an error comes to; the law ClusterChecks, walked, from what its callees come to. -/
namespace Go.Proofs.Ythmddkelfnfhkaa
set_option linter.unusedSimpArgs false
open Go.RowKit
set_option linter.unusedVariables false

abbrev snapV (A1 A2 A3 : Option Addr) (n1 c1 n2 c2 n3 c3 : Nat) : Value := .agg #[.slice A1 n1 c1, .slice A2 n2 c2, .slice A3 n3 c3]
abbrev specV (A4 : Option Addr) (n4 c4 : Nat) (x : SpecD) : Value := .agg #[.slice A4 n4 c4, .int .i64 x.preempts, .int .i64 x.shifts]
end Go.Proofs.Ythmddkelfnfhkaa

/- The program's small functions of layer 3: within, isCount, cmp.Compare, cmp.Or, spot, the Ids of records. -/
namespace Go.Proofs.Ythmddkelfnfhkaa
set_option linter.unusedSimpArgs false
open Go.RowKit
set_option linter.unusedVariables false

def inB (n lo hi : Int) : Bool := decide (lo ≤ n ∧ n ≤ hi)
def cmpI (a b : Int) : Int := if a < b then -1 else if b < a then 1 else 0
def orI (a b : Int) : Int := if a = 0 then b else a
abbrev aggN (x : NodeD) : Value := .agg #[.int .i64 x.id, .int .i64 x.zone, .int .u64 x.cap.a, .int .u64 x.cap.b, .int .u64 x.cap.c, .int .u64 x.cap.d, .int .u64 x.held.a, .int .u64 x.held.b, .int .u64 x.held.c, .int .u64 x.held.d]
theorem idN_any (x : NodeD) (w : World) : Calls Try.prog 30 #[aggN x] w fun e w' => e = .returned (.int .i64 x.id) ∧ Below w.heap.size w w' := by
  go_enter Try.func30, Try.ntmps30
  go_wp2
  go_ret
  exact ⟨rfl, (Below.refl _ _).alloc (Nat.le_refl _) _⟩

abbrev aggL (x : LoadD) : Value := .agg #[.int .i64 x.id, .bool x.apart, .int .i64 x.skew, .int .i64 x.min, .int .i64 x.max]
abbrev aggP (x : PodD) : Value := .agg #[.int .i64 x.id, .int .i64 x.load, .int .i64 x.prio, .int .u64 x.req.a, .int .u64 x.req.b, .int .u64 x.req.c, .int .u64 x.req.d, .int .i64 x.node]
abbrev aggW (x : WantD) : Value := .agg #[.int .i64 x.pod, .int .u64 x.req.a, .int .u64 x.req.b, .int .u64 x.req.c, .int .u64 x.req.d, .bool x.stay]
theorem idW_any (x : WantD) (w : World) : Calls Try.prog 33 #[aggW x] w fun e w' => e = .returned (.int .i64 x.pod) ∧ Below w.heap.size w w' := by
  go_enter Try.func33, Try.ntmps33
  go_wp2
  go_ret
  exact ⟨rfl, (Below.refl _ _).alloc (Nat.le_refl _) _⟩

theorem fits_below (w : World) (o o' : Obj) (n : Nat) : Below w.heap.size w (((w.alloc o).alloc o').drewN n) := let k := below_two w o o'; ⟨k.os, k.tape, k.output, k.size, k.block⟩
theorem fits_below2 (w : World) (o o' : Obj) (n m : Nat) : Below w.heap.size w ((((w.alloc o).alloc o').drewN n).drewN m) := let k := fits_below w o o' n; ⟨k.os, k.tape, k.output, k.size, k.block⟩
end Go.Proofs.Ythmddkelfnfhkaa

namespace Go.Proofs.Ythmddkelfnfhkaa
set_option linter.unusedSimpArgs false
open Go.RowKit
set_option linter.unusedVariables false

theorem flatMap_get {α : Type} {size : Nat} {cells : α → List Value} (hc : ∀ x, (cells x).length = size) : ∀ {xs : List α} {i j : Nat} (hi : i < xs.length), j < size → (xs.flatMap cells)[i * size + j]? = (cells xs[i])[j]?
  | [], i, j, hi, _ => by simp at hi
  | x :: r, 0, j, _, hj => by
    rw [List.flatMap_cons, Nat.zero_mul, Nat.zero_add, List.getElem?_append_left (by rw [hc]; exact hj)]; rfl
  | x :: r, i + 1, j, hi, hj => by
    rw [List.flatMap_cons, List.getElem?_append_right (by rw [hc, Nat.add_one_mul]; omega), hc]
    have e : (i + 1) * size + j - size = i * size + j := by rw [Nat.add_one_mul]; omega
    rw [e, flatMap_get hc (xs := r) (by simpa using hi) hj]; rfl
theorem recs_of_own {α : Type} {size : Nat} {cells : α → List Value} (hc : ∀ x, (cells x).length = size) {w : World} {B n : Nat} {e : TypeId} {v : Value} {xs : List α} (hn : n = xs.length) (h : w.ownsRow B e size v n (xs.flatMap cells)) :
    ∃ A c, v = .slice A n c ∧ n ≤ c ∧ c ≤ maxLen ∧ (A = none → c = 0) ∧ Recs size cells w w.heap.size A xs := by
  subst hn
  have hcs := fun g hg => h.cells (g := g) hg
  rcases h.2 with ⟨hv, h0⟩ | ⟨g, cap, cur, hv, hb, hg, hnc, hm, _⟩
  · exact ⟨none, 0, by rw [hv, h0], by omega, by decide, fun _ => rfl, .inl (List.eq_nil_of_length_eq_zero h0)⟩
  · refine ⟨_, cap, hv, hnc, hm, (by intro h; cases h), .inr ⟨g, 0, rfl, (Array.getElem?_eq_some_iff.1 hg).1, fun i hi j u hu => ?_⟩⟩
    have hj : j < size := by have := (List.getElem?_eq_some_iff.1 hu).1; rw [hc] at this; exact this
    have := hcs g (by rw [hv]; rfl) (i * size + j) u (by rw [flatMap_get hc hi hj]; exact hu)
    rw [Addr.add_lit] at this
    simpa using this
/-- Records as they are told: a slice that reads as these. -/
def Out {α : Type} (size : Nat) (cells : α → List Value) (w : World) (xs : List α) (A : Option Addr) (c : Nat) : Prop := xs.length ≤ c ∧ c ≤ maxLen ∧ (A = none → c = 0) ∧ Recs size cells w w.heap.size A xs
theorem Out.nil {α : Type} {size : Nat} {cells : α → List Value} {w : World} {xs : List α} (h : xs = []) : Out size cells w xs none 0 := ⟨by rw [h]; exact Nat.le_refl _, by decide, fun _ => rfl, .inl h⟩
theorem out_of_own {α : Type} {size : Nat} {cells : α → List Value} (hc : ∀ x, (cells x).length = size) {w : World} {B n c : Nat} {e : TypeId} {A : Option Addr} {xs : List α} (hn : n = xs.length) (h : w.ownsRow B e size (.slice A n c) n (xs.flatMap cells)) : Out size cells w xs A c := by
  obtain ⟨A', c', e1, p1, p2, p3, p4⟩ := recs_of_own hc hn h
  injection e1 with e1 _ e2
  subst e1 e2 hn
  exact ⟨p1, p2, p3, p4⟩
theorem Out.recs {α : Type} {size : Nat} {cells : α → List Value} {w : World} {xs : List α} {A : Option Addr} {c : Nat} (h : Out size cells w xs A c) : Recs size cells w w.heap.size A xs := h.2.2.2
end Go.Proofs.Ythmddkelfnfhkaa
