/- Joined texts, part 1: EPG CM CA CB CC CD CE CI CF E K Is Told CG DA RO FM MC. -/
import Derived.Shelf.SlSortCmp.NoneTotal
import Derived.Test.YtpjoihafpjnipaaProg
import Derived.KernelRfl
import Derived.Test.YtpjoihafpjnipaaRows
import Derived.WalkKit
import Derived.WalkSpells
import Derived.WalkLawsBesides
import Derived.Lib.Hide
import Derived.OwnWalk
import Derived.LaidEql
import Derived.ChangeKeysEq
import Derived.Laws.StructEq
import Derived.Deep.QuietTactic
import Derived.BigQuiet
import Derived.LaidEqlPtr
import Derived.Stop.Asserts
import Derived.RowKitTokens
import Derived.Deep.RegionHeld3

/- The library's generic functions at records as they stand in this program: the tables of numbers under which its contracts hold here. -/
namespace Go.Proofs.Ytpjoihafpjnipaa
set_option linter.unusedSimpArgs false
open Go.Shelf
def Try.laysSortF_ren : Go.Shelf.Ren := ⟨fun | 6 => 12 | 15 => 17 | 14 => 16 | 28 => 30 | 29 => 31 | 20 => 22 | 21 => 23 | 22 => 24 | 23 => 25 | 24 => 26 | 25 => 27 | 26 => 28 | 27 => 29 | 46 => 33 | 47 => 34 | 48 => 35 | 49 => 36 | 50 => 37 | 57 => 38 | n => n, fun | 22 => 22 | 24 => 32 | 25 => 46 | 3 => 3 | 39 => 50 | 0 => 0 | 53 => 64 | 55 => 28 | 4 => 4 | 46 => 57 | 45 => 56 | 50 => 61 | 5 => 5 | 9 => 9 | 66 => 67 | 70 => 71 | 76 => 73 | 77 => 74 | n => n, fun | n => n⟩
theorem Try.laysSortF : Go.Proofs.SlLaysF0.n6 Try.prog Try.laysSortF_ren := {
  mixed := by kernel_rfl
  f6 := ⟨Try.f12.name, by decide, Try.func12.trans (congrArg some (by kernel_rfl))⟩
  f14 := ⟨Try.f16.name, by decide, Try.func16.trans (congrArg some (by kernel_rfl))⟩
  f15 := Try.func17.trans (congrArg some (by kernel_rfl))
  f20 := ⟨Try.f22.name, by decide, Try.func22.trans (congrArg some (by kernel_rfl))⟩
  f21 := ⟨Try.f23.name, by decide, Try.func23.trans (congrArg some (by kernel_rfl))⟩
  f22 := ⟨Try.f24.name, by decide, Try.func24.trans (congrArg some (by kernel_rfl))⟩
  f23 := ⟨Try.f25.name, by decide, Try.func25.trans (congrArg some (by kernel_rfl))⟩
  f24 := ⟨Try.f26.name, by decide, Try.func26.trans (congrArg some (by kernel_rfl))⟩
  f25 := ⟨Try.f27.name, by decide, Try.func27.trans (congrArg some (by kernel_rfl))⟩
  f26 := ⟨Try.f28.name, by decide, Try.func28.trans (congrArg some (by kernel_rfl))⟩
  f27 := ⟨Try.f29.name, by decide, Try.func29.trans (congrArg some (by kernel_rfl))⟩
  f28 := Try.func30.trans (congrArg some (by kernel_rfl))
  f29 := Try.func31.trans (congrArg some (by kernel_rfl))
  f46 := ⟨Try.f33.name, by decide, Try.func33.trans (congrArg some (by kernel_rfl))⟩
  f47 := Try.func34.trans (congrArg some (by kernel_rfl))
  f48 := Try.func35.trans (congrArg some (by kernel_rfl))
  f49 := ⟨Try.f36.name, by decide, Try.func36.trans (congrArg some (by kernel_rfl))⟩
  f50 := ⟨Try.f37.name, by decide, Try.func37.trans (congrArg some (by kernel_rfl))⟩
  f57 := ⟨Try.f38.name, by decide, Try.func38.trans (congrArg some (by kernel_rfl))⟩
  t0 := Try.underlying0
  a0 := Try.isAgg0
  z0 := Try.sizeOf0
  v0 := Try.zeroValue0
  t3 := Try.underlying3
  a3 := Try.isAgg3
  z3 := Try.sizeOf3
  v3 := Try.zeroValue3
  t4 := Try.underlying4
  a4 := Try.isAgg4
  z4 := Try.sizeOf4
  v4 := Try.zeroValue4
  t5 := Try.underlying5
  a5 := Try.isAgg5
  z5 := Try.sizeOf5
  v5 := Try.zeroValue5
  t9 := Try.underlying9
  a9 := Try.isAgg9
  z9 := Try.sizeOf9
  v9 := Try.zeroValue9
  t22 := Try.underlying22
  a22 := Try.isAgg22
  z22 := Try.sizeOf22
  v22 := Try.zeroValue22
  t25 := Try.underlying46
  a25 := Try.isAgg46
  z25 := Try.sizeOf46
  v25 := Try.zeroValue46
  t39 := Try.underlying50
  a39 := Try.isAgg50
  z39 := Try.sizeOf50
  v39 := Try.zeroValue50
  t45 := Try.underlying56
  a45 := Try.isAgg56
  z45 := Try.sizeOf56
  v45 := Try.zeroValue56
  t46 := Try.underlying57
  a46 := Try.isAgg57
  z46 := Try.sizeOf57
  v46 := Try.zeroValue57
  t50 := Try.underlying61
  a50 := Try.isAgg61
  z50 := Try.sizeOf61
  v50 := Try.zeroValue61
  t53 := Try.underlying64
  a53 := Try.isAgg64
  z53 := Try.sizeOf64
  v53 := Try.zeroValue64
  t55 := Try.underlying28
  a55 := Try.isAgg28
  z55 := Try.sizeOf28
  v55 := Try.zeroValue28
  t66 := Try.underlying67
  a66 := Try.isAgg67
  z66 := Try.sizeOf67
  v66 := Try.zeroValue67
  t70 := Try.underlying71
  a70 := Try.isAgg71
  z70 := Try.sizeOf71
  v70 := Try.zeroValue71
  t76 := Try.underlying73
  a76 := Try.isAgg73
  z76 := Try.sizeOf73
  v76 := Try.zeroValue73
  t77 := Try.underlying74
  a77 := Try.isAgg74
  z77 := Try.sizeOf74
  v77 := Try.zeroValue74 }
end Go.Proofs.Ytpjoihafpjnipaa

/- Plain mathematics of clusters that may be; no program stands in it. -/
namespace Go.Proofs.Ytpjoihafpjnipaa
set_option linter.unusedSimpArgs false

structure V4 where
  a : Int
  b : Int
  c : Int
  d : Int
structure NodeD where
  id : Int
  zone : Int
  cap : V4
  held : V4
structure LoadD where
  id : Int
  apart : Bool
  skew : Int
  min : Int
  max : Int
structure PodD where
  id : Int
  load : Int
  prio : Int
  req : V4
  node : Int
structure WantD where
  pod : Int
  req : V4
  stay : Bool
structure SnapD where
  nodes : List NodeD
  loads : List LoadD
  pods : List PodD
structure SpecD where
  wants : List WantD
  preempts : Int
  shifts : Int

def V4.le (x y : V4) : Bool := decide (x.a ≤ y.a ∧ x.b ≤ y.b ∧ x.c ≤ y.c ∧ x.d ≤ y.d)
def V4.zero (x : V4) : Bool := decide (x.a = 0 ∧ x.b = 0 ∧ x.c = 0 ∧ x.d = 0)

/-- The place of the first one whose number is id; -1: there is none. -/
def place {α : Type} (f : α → Int) (id : Int) : List α → Int → Int
  | [], _ => -1
  | x :: r, k => if f x = id then k else place f id r (k + 1)
theorem place_neg {α : Type} {f : α → Int} {id : Int} : ∀ {l : List α} {k : Int}, 0 ≤ k → (place f id l k < 0 ↔ ∀ x ∈ l, f x ≠ id)
  | [], k, _ => by simp [place]
  | x :: r, k, hk => by
    by_cases h : f x = id
    · simp [place, h]; omega
    · simp [place, h, place_neg (l := r) (k := k + 1) (by omega)]
theorem place_ge {α : Type} {f : α → Int} {id : Int} : ∀ {l : List α} {k : Int}, 0 ≤ k → -1 ≤ place f id l k ∧ place f id l k < k + l.length
  | [], k, hk => by simp [place]; omega
  | x :: r, k, hk => by
    by_cases h : f x = id
    · simp [place, h]; omega
    · have := place_ge (f := f) (id := id) (l := r) (k := k + 1) (by omega)
      simp [place, h]; omega
theorem place_at {α : Type} {f : α → Int} {id : Int} : ∀ {l : List α} {k : Int} {i : Nat} (h : i < l.length), f l[i] = id → (∀ j (hj : j < i), f (l[j]'(by omega)) ≠ id) → place f id l k = k + i
  | [], _, _, h, _, _ => by simp at h
  | x :: r, k, 0, _, he, _ => by simp [place] at he ⊢; simp [he]
  | x :: r, k, i + 1, h, he, hn => by
    have h0 : f x ≠ id := hn 0 (by omega)
    have := place_at (f := f) (id := id) (l := r) (k := k + 1) (i := i) (by simpa using h) (by simpa using he) (fun j hj => hn (j + 1) (by omega))
    simp [place, h0, this]; omega

def idBad (n last : Int) : Int := if n < 1 ∨ 2147483647 < n then 1 else if n = last then 5 else if n < last then 1 else 0
def countOk (n : Int) : Bool := decide (0 ≤ n ∧ n ≤ 100)
def nodeBad (last : Int) (n : NodeD) : Int := if idBad n.id last = 0 ∧ (n.zone < 1 ∨ 8 < n.zone ∨ n.held.le n.cap = false) then 1 else idBad n.id last
def loadBad (last : Int) (l : LoadD) : Int := if idBad l.id last = 0 ∧ (countOk l.skew = false ∨ countOk l.min = false ∨ countOk l.max = false ∨ l.max < l.min) then 1 else idBad l.id last
def podBad (nodes : List NodeD) (loads : List LoadD) (last : Int) (p : PodD) : Int :=
  if idBad p.id last ≠ 0 then idBad p.id last else if countOk p.prio = false then 1
  else if place LoadD.id p.load loads 0 < 0 ∨ (p.node ≠ 0 ∧ place NodeD.id p.node nodes 0 < 0) then 4 else 0

/-- The first one at fault, and its place. -/
def firstBad {α : Type} (bad : Int → α → Int) (f : α → Int) : Int → Nat → List α → Option (Int × Nat)
  | _, _, [] => none
  | last, k, x :: r => if bad last x ≠ 0 then some (bad last x, k) else firstBad bad f (f x) (k + 1) r

theorem firstBad_take {α : Type} {bad : Int → α → Int} {f : α → Int} : ∀ {l : List α} {last : Int} {k : Nat} (n : Nat), firstBad bad f last k l = none → firstBad bad f last k (l.take n) = none
  | [], _, _, _, _ => by simp [firstBad]
  | x :: r, last, k, 0, _ => by simp [firstBad]
  | x :: r, last, k, n + 1, h => by
    simp only [firstBad] at h
    split at h
    · cases h
    · rename_i h0
      simp only [List.take_succ_cons, firstBad, if_neg h0]
      exact firstBad_take n h

def large (s : SnapD) : Bool := decide (s.nodes.length = 0 ∨ 8 < s.nodes.length ∨ 8 < s.loads.length ∨ 12 < s.pods.length)
/-- What is amiss first with a snapshot, and where (-1: itself); (0, -1): nothing. -/
def check (s : SnapD) : Int × Int :=
  if large s then (3, -1) else
  match firstBad nodeBad NodeD.id 0 0 s.nodes with
  | some (b, k) => (b, k)
  | none => match firstBad loadBad LoadD.id 0 s.nodes.length s.loads with
    | some (b, k) => (b, k)
    | none => match firstBad (podBad s.nodes s.loads) PodD.id 0 (s.nodes.length + s.loads.length) s.pods with
      | some (b, k) => (b, k)
      | none => (0, -1)

def wantBad (s : SnapD) (first : Bool) (last : Int) (w : WantD) : Int :=
  if first = false ∧ w.pod = last then 5 else if first = false ∧ w.pod < last then 1
  else if place PodD.id w.pod s.pods 0 < 0 then 4 else if w.stay = false ∧ w.req.zero = false then 1 else 0
def firstWant (s : SnapD) : Bool → Int → Nat → List WantD → Option (Int × Nat)
  | _, _, _, [] => none
  | first, last, k, w :: r => if wantBad s first last w ≠ 0 then some (wantBad s first last w, k) else firstWant s false w.pod (k + 1) r
def fair (s : SnapD) (x : SpecD) : Int × Int :=
  if (check s).1 ≠ 0 then check s
  else if x.preempts < 0 ∨ 40 < x.preempts ∨ x.shifts < 0 ∨ 40 < x.shifts then (3, -1)
  else match firstWant s true 0 0 x.wants with
    | some (b, k) => (b, k)
    | none => (0, -1)

theorem idBad_vals (n last : Int) : idBad n last = 0 ∨ idBad n last = 1 ∨ idBad n last = 5 := by unfold idBad; split <;> (try split) <;> (try split) <;> simp
theorem idBad_ok {n last : Int} (h : idBad n last = 0) : 1 ≤ n ∧ n ≤ 2147483647 ∧ last < n := by
  unfold idBad at h
  split at h
  · omega
  · split at h
    · omega
    · split at h <;> omega
theorem firstBad_pos {α : Type} {bad : Int → α → Int} {f : α → Int} : ∀ {l : List α} {last : Int} {k : Nat} {b : Int} {j : Nat}, firstBad bad f last k l = some (b, j) → b ≠ 0
  | [], _, _, _, _, h => by simp [firstBad] at h
  | x :: r, last, k, b, j, h => by
    simp only [firstBad] at h
    split at h
    · rename_i h0; simp at h; rw [← h.1]; exact h0
    · exact firstBad_pos h

/-- Nothing amiss: all parts. -/
theorem check_ok {s : SnapD} : (check s).1 = 0 ↔ large s = false ∧ firstBad nodeBad NodeD.id 0 0 s.nodes = none ∧ firstBad loadBad LoadD.id 0 s.nodes.length s.loads = none ∧
    firstBad (podBad s.nodes s.loads) PodD.id 0 (s.nodes.length + s.loads.length) s.pods = none := by
  unfold check
  constructor
  · intro h
    by_cases h1 : large s = true
    · rw [if_pos h1] at h; simp at h
    · rw [if_neg h1] at h
      have h1' : large s = false := by simpa using h1
      split at h
      · rename_i b k e; exact absurd h (firstBad_pos e)
      · rename_i e1
        split at h
        · rename_i b k e; exact absurd h (firstBad_pos e)
        · rename_i e2
          split at h
          · rename_i b k e; exact absurd h (firstBad_pos e)
          · rename_i e3; exact ⟨h1', e1, e2, e3⟩
  · rintro ⟨h1, h2, h3, h4⟩
    simp [h1, h2, h3, h4]
theorem check_fewer {s : SnapD} (n : Nat) (h : (check s).1 = 0) : (check { s with pods := s.pods.take n }).1 = 0 := by
  obtain ⟨h1, h2, h3, h4⟩ := check_ok.1 h
  refine check_ok.2 ⟨?_, h2, h3, firstBad_take n h4⟩
  simp only [large, decide_eq_false_iff_not] at h1 ⊢
  have := List.length_take_le n s.pods
  simp only [List.length_take] at this ⊢
  omega
theorem check_zero {s : SnapD} (h : (check s).1 = 0) : check s = (0, -1) := by
  obtain ⟨h1, h2, h3, h4⟩ := check_ok.1 h
  unfold check
  simp [h1, h2, h3, h4]
theorem fair_none {s : SnapD} (h : (check s).1 = 0) : fair s ⟨[], 0, 0⟩ = (0, -1) := by
  unfold fair
  simp [h, firstWant]

/-- Where nothing is amiss the numbers rise. -/
theorem firstBad_rises {α : Type} {bad : Int → α → Int} {f : α → Int} (hbad : ∀ last x, bad last x = 0 → last < f x) : ∀ {l : List α} {last : Int} {k : Nat}, firstBad bad f last k l = none → ∀ i (h : i < l.length), last < f l[i] ∧ ∀ j (hj : j < i), f (l[j]'(by omega)) < f l[i]
  | [], _, _, _, i, h => by simp at h
  | x :: r, last, k, hn, i, h => by
    simp only [firstBad] at hn
    split at hn
    · cases hn
    · rename_i h0
      have hx := hbad last x (by simpa using h0)
      have ih := firstBad_rises hbad hn
      cases i with
      | zero => exact ⟨hx, fun j hj => by omega⟩
      | succ i =>
        obtain ⟨a, b⟩ := ih i (by simpa using h)
        refine ⟨by simp; omega, fun j hj => ?_⟩
        cases j with
        | zero => simpa using a
        | succ j => simpa using b j (by omega)
theorem nodeBad_rises (last : Int) (n : NodeD) (h : nodeBad last n = 0) : last < n.id := by
  unfold nodeBad at h
  split at h
  · cases h
  · exact (idBad_ok h).2.2
theorem loadBad_rises (last : Int) (l : LoadD) (h : loadBad last l = 0) : last < l.id := by
  unfold loadBad at h
  split at h
  · cases h
  · exact (idBad_ok h).2.2
theorem found {α : Type} {bad : Int → α → Int} {f : α → Int} (hbad : ∀ last x, bad last x = 0 → last < f x) {l : List α} {last : Int} {k : Nat} (h : firstBad bad f last k l = none) (i : Nat) (hi : i < l.length) : place f (f l[i]) l 0 = i := by
  have := place_at (f := f) (id := f l[i]) (l := l) (k := 0) hi rfl (fun j hj => by have := (firstBad_rises hbad h i hi).2 j hj; omega)
  omega

/-- Zones, rising, each once: one more. -/
def insZ (z : Int) : List Int → List Int
  | [] => [z]
  | y :: r => if y < z then y :: insZ z r else if y = z then y :: r else z :: y :: r
def zonesOf (l : List NodeD) : List Int := l.foldl (fun acc n => insZ n.zone acc) []
def Rising : List Int → Prop
  | [] => True
  | x :: r => (∀ y ∈ r, x < y) ∧ Rising r
theorem insZ_mem {z y : Int} : ∀ {l : List Int}, y ∈ insZ z l ↔ y = z ∨ y ∈ l
  | [] => by simp [insZ]
  | x :: r => by
    unfold insZ
    split
    · simp [insZ_mem (l := r)]; constructor <;> (rintro (h | h | h) <;> simp [h])
    · split
      · rename_i h; subst h; simp; 
      · simp
theorem insZ_rising {z : Int} : ∀ {l : List Int}, Rising l → Rising (insZ z l)
  | [], _ => ⟨by simp, trivial⟩
  | x :: r, h => by
    unfold insZ
    split
    · rename_i hx
      refine ⟨fun y hy => ?_, insZ_rising h.2⟩
      rcases insZ_mem.1 hy with rfl | hy
      · exact hx
      · exact h.1 y hy
    · split
      · exact h
      · rename_i h1 h2
        refine ⟨fun y hy => ?_, h⟩
        rcases List.mem_cons.1 hy with rfl | hy
        · omega
        · have := h.1 y hy; omega
theorem insZ_len {z : Int} : ∀ {l : List Int}, 1 ≤ (insZ z l).length ∧ (insZ z l).length ≤ l.length + 1
  | [] => by simp [insZ]
  | x :: r => by
    unfold insZ
    split
    · have := insZ_len (z := z) (l := r); simp; omega
    · split <;> simp
theorem zones_fold (l : List NodeD) : ∀ acc : List Int, Rising acc → Rising (l.foldl (fun acc n => insZ n.zone acc) acc) ∧ (l.foldl (fun acc n => insZ n.zone acc) acc).length ≤ acc.length + l.length ∧ (0 < l.length ∨ 0 < acc.length → 1 ≤ (l.foldl (fun acc n => insZ n.zone acc) acc).length) := by
  induction l with
  | nil => intro acc h; exact ⟨h, by simp, by simp; omega⟩
  | cons n r ih =>
    intro acc h
    have h1 := insZ_len (z := n.zone) (l := acc)
    obtain ⟨a, b, c⟩ := ih (insZ n.zone acc) (insZ_rising h)
    exact ⟨a, by simp only [List.foldl_cons, List.length_cons]; omega, fun _ => c (.inr (by omega))⟩
end Go.Proofs.Ytpjoihafpjnipaa

/- How nodes, loads, pods and wants lie in memory; the reference's small functions of layer 3. -/
namespace Go.Proofs.Ytpjoihafpjnipaa
set_option linter.unusedSimpArgs false
open Go.RowKit
set_option linter.unusedVariables false

def cellsV (x : V4) : List Value := [.int .u64 x.a, .int .u64 x.b, .int .u64 x.c, .int .u64 x.d]
def cellsN (n : NodeD) : List Value := [.int .i64 n.id, .int .i64 n.zone, .int .u64 n.cap.a, .int .u64 n.cap.b, .int .u64 n.cap.c, .int .u64 n.cap.d, .int .u64 n.held.a, .int .u64 n.held.b, .int .u64 n.held.c, .int .u64 n.held.d]
def cellsL (l : LoadD) : List Value := [.int .i64 l.id, .bool l.apart, .int .i64 l.skew, .int .i64 l.min, .int .i64 l.max]
def cellsP (p : PodD) : List Value := [.int .i64 p.id, .int .i64 p.load, .int .i64 p.prio, .int .u64 p.req.a, .int .u64 p.req.b, .int .u64 p.req.c, .int .u64 p.req.d, .int .i64 p.node]
def cellsW (x : WantD) : List Value := [.int .i64 x.pod, .int .u64 x.req.a, .int .u64 x.req.b, .int .u64 x.req.c, .int .u64 x.req.d, .bool x.stay]

/-- The slice '.slice A xs.length c' of records of so many cells reads as xs in w, and lies below block B. -/
def Recs {α : Type} (size : Nat) (cells : α → List Value) (w : World) (B : Nat) (A : Option Addr) (xs : List α) : Prop :=
  xs = [] ∨ ∃ b o, A = some ⟨b, o, none⟩ ∧ b < B ∧ ∀ i (h : i < xs.length) j u, (cells xs[i])[j]? = some u → w.cell? ⟨b, o + i * size + j, none⟩ = some u

section
variable {α : Type} {size : Nat} {cells : α → List Value} {w w' : World} {B B' : Nat} {A : Option Addr} {xs : List α}
theorem Recs.nil : Recs size cells w B A [] := .inl rfl
theorem Recs.below (h : Recs size cells w B A xs) (hb : Below B' w w') (hB : B ≤ B') : Recs size cells w' B A xs := by
  rcases h with h | ⟨b, o, h1, h2, h3⟩
  · exact .inl h
  · exact .inr ⟨b, o, h1, h2, fun i hi j u hu => (hb.cell (p := ⟨b, o + i * size + j, none⟩) (Nat.lt_of_lt_of_le h2 hB)).trans (h3 i hi j u hu)⟩
theorem Recs.more (h : Recs size cells w B A xs) (hB : B ≤ B') : Recs size cells w B' A xs := by
  rcases h with h | ⟨b, o, h1, h2, h3⟩
  · exact .inl h
  · exact .inr ⟨b, o, h1, Nat.lt_of_lt_of_le h2 hB, h3⟩
theorem Recs.at (h : Recs size cells w B A xs) {k : Nat} (hk : k < xs.length) :
    ∃ b o, A = some ⟨b, o, none⟩ ∧ b < B ∧ ∀ j u, (cells xs[k])[j]? = some u → w.cell? ⟨b, o + k * size + j, none⟩ = some u := by
  rcases h with h | ⟨b, o, h1, h2, h3⟩
  · subst h; simp at hk
  · exact ⟨b, o, h1, h2, h3 k hk⟩
theorem Recs.take (h : Recs size cells w B A xs) (n : Nat) : Recs size cells w B A (xs.take n) := by
  rcases h with h | ⟨b, o, h1, h2, h3⟩
  · exact .inl (by simp [h])
  · exact .inr ⟨b, o, h1, h2, fun i hi j u hu => h3 i (by simp at hi; omega) j u (by rw [List.getElem_take] at hu; exact hu)⟩
end

/-- A snapshot as it is handed over: three slices. -/
structure Snap (w : World) (B : Nat) (s : SnapD) (v : Value) : Prop where
  is : ∃ A1 c1 A2 c2 A3 c3, v = .agg #[.slice A1 s.nodes.length c1, .slice A2 s.loads.length c2, .slice A3 s.pods.length c3] ∧
    Recs 10 cellsN w B A1 s.nodes ∧ Recs 5 cellsL w B A2 s.loads ∧ Recs 8 cellsP w B A3 s.pods

theorem place_step {α : Type} {f : α → Int} {id : Int} {l : List α} {k : Nat} (h : k < l.length) (hne : f l[k] ≠ id) (hp : place f id (l.drop k) k = place f id l 0) : place f id (l.drop (k + 1)) ((k + 1 : Nat) : Int) = place f id l 0 := by
  rw [← hp, List.drop_eq_getElem_cons h, place, if_neg hne]; rfl
theorem place_here {α : Type} {f : α → Int} {id : Int} {l : List α} {k : Nat} (h : k < l.length) (he : f l[k] = id) (hp : place f id (l.drop k) k = place f id l 0) : place f id l 0 = k := by
  rw [← hp, List.drop_eq_getElem_cons h, place, if_pos he]
theorem place_end {α : Type} {f : α → Int} {id : Int} {l : List α} {k : Nat} (h : l.length ≤ k) (hp : place f id (l.drop k) k = place f id l 0) : place f id l 0 = -1 := by
  rw [← hp, List.drop_of_length_le h, place]
def FindRel {α : Type} (f : α → Int) (id : Int) (l : List α) (i : Value) : Prop := ∃ k : Nat, k ≤ l.length ∧ i = .int .i64 k ∧ place f id (l.drop k) k = place f id l 0
theorem ret_int {a b : Int} (h : a = b) : Ending.returned (.int .i64 a) = .returned (.int .i64 b) := by rw [h]

end Go.Proofs.Ytpjoihafpjnipaa

/- The reference's functions of layer 3 that look for one, and its small functions. -/
namespace Go.Proofs.Ytpjoihafpjnipaa
set_option linter.unusedSimpArgs false
open Go.RowKit
set_option linter.unusedVariables false

theorem ret_bool {a b : Bool} (h : a = b) : Ending.returned (.bool a) = .returned (.bool b) := by rw [h]
end Go.Proofs.Ytpjoihafpjnipaa

/- dunnageref01.Fits, dunnagelaw00.Code and Told. -/
namespace Go.Proofs.Ytpjoihafpjnipaa
set_option linter.unusedSimpArgs false
open Go.RowKit
set_option linter.unusedVariables false

abbrev aggV (x : V4) : Value := .agg #[.int .u64 x.a, .int .u64 x.b, .int .u64 x.c, .int .u64 x.d]
theorem below_two (w : World) (o o' : Obj) : Below w.heap.size w ((w.alloc o).alloc o') := ((Below.refl _ _).alloc (Nat.le_refl _) o).alloc (by simp) o'
end Go.Proofs.Ytpjoihafpjnipaa

/- dunnageref03.Check. -/
namespace Go.Proofs.Ytpjoihafpjnipaa
set_option linter.unusedSimpArgs false
open Go.RowKit
set_option linter.unusedVariables false

theorem box_cells {w wr : World} {x y z : Value} {t : TypeId} (hb : Below (w.heap.size + 1) (w.alloc (.cells #[x, y, z] t)) wr) :
    wr.cell? ⟨w.heap.size, 0, none⟩ = some x ∧ wr.cell? ⟨w.heap.size, 1, none⟩ = some y ∧ wr.cell? ⟨w.heap.size, 2, none⟩ = some z := by
  refine ⟨?_, ?_, ?_⟩
  all_goals
    rw [hb.cell (by show w.heap.size < w.heap.size + 1; omega)]
    simp

theorem firstBad_at {α : Type} {bad : Int → α → Int} {f : α → Int} {l : List α} {la : Int} {k m : Nat} {F : Option (Int × Nat)} (h : k < l.length) {x : α} (hx : l[k] = x) (hf : firstBad bad f la m (l.drop k) = F) :
    (bad la x ≠ 0 → F = some (bad la x, m)) ∧ (bad la x = 0 → firstBad bad f (f x) (m + 1) (l.drop (k + 1)) = F) := by
  rw [List.drop_eq_getElem_cons h, hx, firstBad] at hf
  constructor
  · intro hb; rw [if_pos hb] at hf; exact hf.symm
  · intro hb; rw [if_neg (by simpa using hb)] at hf; exact hf
theorem firstBad_end {α : Type} {bad : Int → α → Int} {f : α → Int} {l : List α} {la : Int} {k m : Nat} {F : Option (Int × Nat)} (h : l.length ≤ k) (hf : firstBad bad f la m (l.drop k) = F) : F = none := by
  rw [List.drop_of_length_le h, firstBad] at hf
  exact hf.symm
theorem check_large {s : SnapD} (h : large s = true) : check s = (3, -1) := by unfold check; rw [if_pos h]
theorem check_node {s : SnapD} (h : ¬ large s = true) {b : Int} {k : Nat} (hf : firstBad nodeBad NodeD.id 0 0 s.nodes = some (b, k)) : check s = (b, (k : Int)) := by unfold check; rw [if_neg h, hf]
theorem check_load {s : SnapD} (h : ¬ large s = true) (h1 : firstBad nodeBad NodeD.id 0 0 s.nodes = none) {b : Int} {k : Nat} (hf : firstBad loadBad LoadD.id 0 s.nodes.length s.loads = some (b, k)) : check s = (b, (k : Int)) := by unfold check; rw [if_neg h, h1, hf]
theorem check_pod {s : SnapD} (h : ¬ large s = true) (h1 : firstBad nodeBad NodeD.id 0 0 s.nodes = none) (h2 : firstBad loadBad LoadD.id 0 s.nodes.length s.loads = none) {b : Int} {k : Nat} (hf : firstBad (podBad s.nodes s.loads) PodD.id 0 (s.nodes.length + s.loads.length) s.pods = some (b, k)) : check s = (b, (k : Int)) := by
  unfold check; rw [if_neg h, h1, h2, hf]
theorem check_fine {s : SnapD} (h : ¬ large s = true) (h1 : firstBad nodeBad NodeD.id 0 0 s.nodes = none) (h2 : firstBad loadBad LoadD.id 0 s.nodes.length s.loads = none) (hf : firstBad (podBad s.nodes s.loads) PodD.id 0 (s.nodes.length + s.loads.length) s.pods = none) : check s = (0, -1) := by
  unfold check; rw [if_neg h, h1, h2, hf]
theorem ret_pair {a b c d : Int} {p : Int × Int} (h : p = (a, b)) (e1 : c = a) (e2 : d = b) : Ending.returned (.tuple #[.int .i64 c, .int .i64 d]) = .returned (.tuple #[.int .i64 p.1, .int .i64 p.2]) := by rw [h, e1, e2]

def NodesRel (s : SnapD) (W : World) (B : Nat) (last at_ i : Value) (wr : World) : Prop :=
  ∃ (k : Nat) (la : Int), k ≤ s.nodes.length ∧ i = .int .i64 k ∧ at_ = .int .i64 k ∧ last = .int .i64 la ∧ firstBad nodeBad NodeD.id la k (s.nodes.drop k) = firstBad nodeBad NodeD.id 0 0 s.nodes ∧ Below B W wr

def LoadsRel (s : SnapD) (W : World) (B : Nat) (last at_ i : Value) (wr : World) : Prop :=
  ∃ (k m : Nat) (la : Int), k ≤ s.loads.length ∧ m = s.nodes.length + k ∧ i = .int .i64 k ∧ at_ = .int .i64 m ∧ last = .int .i64 la ∧ firstBad loadBad LoadD.id la m (s.loads.drop k) = firstBad loadBad LoadD.id 0 s.nodes.length s.loads ∧ Below B W wr
def PodsRel (s : SnapD) (W : World) (B : Nat) (last at_ i : Value) (wr : World) : Prop :=
  ∃ (k m : Nat) (la : Int), k ≤ s.pods.length ∧ m = s.nodes.length + s.loads.length + k ∧ i = .int .i64 k ∧ at_ = .int .i64 m ∧ last = .int .i64 la ∧ firstBad (podBad s.nodes s.loads) PodD.id la m (s.pods.drop k) = firstBad (podBad s.nodes s.loads) PodD.id 0 (s.nodes.length + s.loads.length) s.pods ∧ Below B W wr

end Go.Proofs.Ytpjoihafpjnipaa

/- '==' and '!=' on amounts. -/
namespace Go.Proofs.Ytpjoihafpjnipaa
set_option linter.unusedSimpArgs false
open Go.RowKit
set_option linter.unusedVariables false

theorem num_eqIn (d : Nat) (a b : Int) (w : World) : (Op.equalIn (d + 1) 28 (.int .u64 a) (.int .u64 b)).run Try.prog w = .ok (a == b) w := by
  simp [Op.equalIn, run_underlying Try.underlying28]
theorem part_num (cs : Array Value) (j : Nat) (v : Value) (h : cs[j]? = some v) (w : World) : (part 28 cs j).run Try.prog w = .ok v w := by
  have hf : ∀ w : World, (isAgg 28).run Try.prog w = .ok false w := fun _ => by kernel_rfl
  simp [part, hf, h]
theorem vec_eqlIn (d : Nat) (a0 a1 a2 a3 b0 b1 b2 b3 : Int) (w : World) :
    (Op.equalIn (d + 2) 30 (.agg #[.int .u64 a0, .int .u64 a1, .int .u64 a2, .int .u64 a3]) (.agg #[.int .u64 b0, .int .u64 b1, .int .u64 b2, .int .u64 b3])).run Try.prog w
      = .ok (a0 == b0 && (a1 == b1 && (a2 == b2 && a3 == b3))) w := by
  obtain ⟨i, hi⟩ := Option.isSome_iff_exists.1 (show (Try.prog.info? 28).isSome = true by kernel_rfl)
  rw [run_equalIn_array w (d + 1) _ _ Try.underlying30 hi]
  have hc : Try.prog.cellsOf 28 = 1 := by kernel_rfl
  rw [hc, show List.range 4 = [0, 1, 2, 3] from rfl]
  simp only [Op.eqItems, Sem.run_bind, Nat.mul_one]
  rw [part_num #[.int .u64 a0, .int .u64 a1, .int .u64 a2, .int .u64 a3] 0 (.int .u64 a0) rfl]
  simp only [Result.andThen_ok]
  rw [part_num _ 0 (.int .u64 b0) rfl]
  simp only [Result.andThen_ok, num_eqIn]
  cases h0 : a0 == b0
  · simp
  simp only [Bool.not_true, Bool.false_eq_true, if_false, Sem.run_bind, Bool.true_and]
  rw [part_num _ 1 (.int .u64 a1) rfl]
  simp only [Result.andThen_ok]
  rw [part_num _ 1 (.int .u64 b1) rfl]
  simp only [Result.andThen_ok, num_eqIn]
  cases h1 : a1 == b1
  · simp
  simp only [Bool.not_true, Bool.false_eq_true, if_false, Sem.run_bind, Bool.true_and]
  rw [part_num _ 2 (.int .u64 a2) rfl]
  simp only [Result.andThen_ok]
  rw [part_num _ 2 (.int .u64 b2) rfl]
  simp only [Result.andThen_ok, num_eqIn]
  cases h2 : a2 == b2
  · simp
  simp only [Bool.not_true, Bool.false_eq_true, if_false, Sem.run_bind, Bool.true_and]
  rw [part_num _ 3 (.int .u64 a3) rfl]
  simp only [Result.andThen_ok]
  rw [part_num _ 3 (.int .u64 b3) rfl]
  simp only [Result.andThen_ok, num_eqIn]
  cases h3 : a3 == b3 <;> simp
theorem vec_eql (a0 a1 a2 a3 b0 b1 b2 b3 : Int) (w : World) :
    (binOp .eql 30 (.agg #[.int .u64 a0, .int .u64 a1, .int .u64 a2, .int .u64 a3]) (.agg #[.int .u64 b0, .int .u64 b1, .int .u64 b2, .int .u64 b3])).run Try.prog w
      = .ok (.bool (a0 == b0 && (a1 == b1 && (a2 == b2 && a3 == b3)))) w := by
  simp only [binOp]
  simp [Op.equal, Op.maxDepth, vec_eqlIn 9998]
theorem vec_same (a0 a1 a2 a3 : Int) (w : World) :
    (binOp .eql 30 (.agg #[.int .u64 a0, .int .u64 a1, .int .u64 a2, .int .u64 a3]) (.agg #[.int .u64 a0, .int .u64 a1, .int .u64 a2, .int .u64 a3])).run Try.prog w = .ok (.bool true) w := by
  rw [vec_eql]; simp
theorem vec_neq0 (x : V4) (w : World) :
    (binOp .neq 30 (aggV x) (.agg #[.int .u64 0, .int .u64 0, .int .u64 0, .int .u64 0])).run Try.prog w = .ok (.bool (!x.zero)) w := by
  simp only [binOp]
  have e : x.zero = (x.a == 0 && (x.b == 0 && (x.c == 0 && x.d == 0))) := by
    unfold V4.zero
    rw [Bool.eq_iff_iff]
    simp
  rw [e]
  simp [Op.equal, Op.maxDepth, vec_eqlIn 9998]
end Go.Proofs.Ytpjoihafpjnipaa

/- '!=' of a node, a load, a want and itself. -/
namespace Go.Proofs.Ytpjoihafpjnipaa
set_option linter.unusedSimpArgs false
open Go.RowKit
set_option linter.unusedVariables false

theorem int_eqIn (d : Nat) (a : Int) (w : World) : (Op.equalIn (d + 1) 3 (.int .i64 a) (.int .i64 a)).run Try.prog w = .ok true w := by
  simp [Op.equalIn, run_underlying Try.underlying3]
theorem bool_eqIn (d : Nat) (a : Bool) (w : World) : (Op.equalIn (d + 1) 4 (.bool a) (.bool a)).run Try.prog w = .ok true w := by
  simp [Op.equalIn, run_underlying Try.underlying4]
theorem vec_eqIn (d : Nat) (a0 a1 a2 a3 : Int) (w : World) : (Op.equalIn (d + 2) 30 (.agg #[.int .u64 a0, .int .u64 a1, .int .u64 a2, .int .u64 a3]) (.agg #[.int .u64 a0, .int .u64 a1, .int .u64 a2, .int .u64 a3])).run Try.prog w = .ok true w := by
  rw [vec_eqlIn]; simp
theorem part_int (cs : Array Value) (j : Nat) (v : Value) (h : cs[j]? = some v) (w : World) : (part 3 cs j).run Try.prog w = .ok v w := by
  have hf : ∀ w : World, (isAgg 3).run Try.prog w = .ok false w := fun _ => by kernel_rfl
  simp [part, hf, h]
theorem part_bool (cs : Array Value) (j : Nat) (v : Value) (h : cs[j]? = some v) (w : World) : (part 4 cs j).run Try.prog w = .ok v w := by
  have hf : ∀ w : World, (isAgg 4).run Try.prog w = .ok false w := fun _ => by kernel_rfl
  simp [part, hf, h]
theorem part_vec (cs : Array Value) (j : Nat) (v0 v1 v2 v3 : Value) (h : cs.extract j (j + 4) = #[v0, v1, v2, v3]) (w : World) : (part 30 cs j).run Try.prog w = .ok (.agg #[v0, v1, v2, v3]) w := by
  have hf : ∀ w : World, (isAgg 30).run Try.prog w = .ok true w := fun _ => by kernel_rfl
  have hs : ∀ w : World, (sizeOf 30).run Try.prog w = .ok 4 w := fun _ => by kernel_rfl
  simp [part, hf, hs, h]
theorem eqFields_step {d : Nat} {xs ys : Array Value} {f : Field} {fs : List Field} {a b : Value} {w : World} (hn : f.name ≠ "_") (ha : (part f.type xs f.offset).run Try.prog w = .ok a w) (hb : (part f.type ys f.offset).run Try.prog w = .ok b w) (he : (Op.equalIn d f.type a b).run Try.prog w = .ok true w) :
    (Op.eqFields d xs ys (f :: fs)).run Try.prog w = (Op.eqFields d xs ys fs).run Try.prog w := by
  simp [Op.eqFields, hn, ha, hb, he]
end Go.Proofs.Ytpjoihafpjnipaa

/- dunnageref03.Fair. -/
namespace Go.Proofs.Ytpjoihafpjnipaa
set_option linter.unusedSimpArgs false
open Go.RowKit
set_option linter.unusedVariables false
set_option linter.unusedSimpArgs false

theorem below_draws {B : Nat} {a w : World} (h : Below B a w) (n : Nat) : Below B a (w.drewN n) := ⟨h.os, h.tape, h.output, h.size, h.block⟩
theorem box2_cells {w wr : World} {x y z x' y' z' : Value} {t t' : TypeId} (hb : Below (w.heap.size + 2) ((w.alloc (.cells #[x, y, z] t)).alloc (.cells #[x', y', z'] t')) wr) :
    (wr.cell? ⟨w.heap.size, 0, none⟩ = some x ∧ wr.cell? ⟨w.heap.size, 1, none⟩ = some y ∧ wr.cell? ⟨w.heap.size, 2, none⟩ = some z) ∧
    (wr.cell? ⟨w.heap.size + 1, 0, none⟩ = some x' ∧ wr.cell? ⟨w.heap.size + 1, 1, none⟩ = some y' ∧ wr.cell? ⟨w.heap.size + 1, 2, none⟩ = some z') := by
  refine ⟨⟨?_, ?_, ?_⟩, ?_, ?_, ?_⟩
  all_goals
    rw [hb.cell (by simp)]
    simp
def FairRel (s : SnapD) (x : SpecD) (W : World) (B : Nat) (i : Value) (wr : World) : Prop :=
  ∃ (k : Nat) (fst : Bool) (la : Int), k ≤ x.wants.length ∧ i = .int .i64 k ∧ (k = 0 → fst = true) ∧ (∀ j (hj : j < x.wants.length), k = j + 1 → fst = false ∧ la = x.wants[j].pod) ∧
    firstWant s fst la k (x.wants.drop k) = firstWant s true 0 0 x.wants ∧ Below B W wr
theorem fairRel_next {s : SnapD} {x : SpecD} {W wr : World} {B k : Nat} {wd : WantD} (hk : k < x.wants.length) (hx : x.wants[k] = wd) (h : firstWant s false wd.pod (k + 1) (x.wants.drop (k + 1)) = firstWant s true 0 0 x.wants) (hb : Below B W wr) : FairRel s x W B (.int .i64 ((k : Int) + 1)) wr := by
  refine ⟨k + 1, false, wd.pod, by omega, by simp, fun h => by omega, fun j hj h => ⟨rfl, ?_⟩, h, hb⟩
  obtain rfl : j = k := by omega
  rw [hx]
theorem firstWant_at {s : SnapD} {l : List WantD} {fst : Bool} {la : Int} {k m : Nat} {F : Option (Int × Nat)} (h : k < l.length) {x : WantD} (hx : l[k] = x) (hf : firstWant s fst la m (l.drop k) = F) :
    (wantBad s fst la x ≠ 0 → F = some (wantBad s fst la x, m)) ∧ (wantBad s fst la x = 0 → firstWant s false x.pod (m + 1) (l.drop (k + 1)) = F) := by
  rw [List.drop_eq_getElem_cons h, hx, firstWant] at hf
  constructor
  · intro hb; rw [if_pos hb] at hf; exact hf.symm
  · intro hb; rw [if_neg (by simpa using hb)] at hf; exact hf
theorem fair_bad {s : SnapD} {x : SpecD} (h : (check s).1 ≠ 0) : fair s x = check s := by unfold fair; rw [if_pos h]
theorem fair_large {s : SnapD} {x : SpecD} (h : (check s).1 = 0) (h1 : x.preempts < 0 ∨ 40 < x.preempts ∨ x.shifts < 0 ∨ 40 < x.shifts) : fair s x = (3, -1) := by unfold fair; rw [if_neg (by simpa using h), if_pos h1]
theorem fair_some {s : SnapD} {x : SpecD} (h : (check s).1 = 0) (h1 : ¬ (x.preempts < 0 ∨ 40 < x.preempts ∨ x.shifts < 0 ∨ 40 < x.shifts)) {b : Int} {k : Nat} (hf : firstWant s true 0 0 x.wants = some (b, k)) : fair s x = (b, (k : Int)) := by
  unfold fair; rw [if_neg (by simpa using h), if_neg h1, hf]
theorem fair_fine {s : SnapD} {x : SpecD} (h : (check s).1 = 0) (h1 : ¬ (x.preempts < 0 ∨ 40 < x.preempts ∨ x.shifts < 0 ∨ 40 < x.shifts)) (hf : firstWant s true 0 0 x.wants = none) : fair s x = (0, -1) := by
  unfold fair; rw [if_neg (by simpa using h), if_neg h1, hf]
theorem ret_pair' {p q : Int × Int} (h : p = q) : Ending.returned (.tuple #[.int .i64 q.1, .int .i64 q.2]) = .returned (.tuple #[.int .i64 p.1, .int .i64 p.2]) := by rw [h]

end Go.Proofs.Ytpjoihafpjnipaa

/- errors.As and errors.Is at the errors that package wire tells: a nil error, and a *api.Spot. -/
namespace Go.Proofs.Ytpjoihafpjnipaa
set_option linter.unusedSimpArgs false
open Go.RowKit Go.Extern.Stop Go.Stop Go.Extern
set_option linter.unusedVariables false

/-! ### CLOSED FACTS ON THE MODEL's ENTRIES FOR internal/reflectlite, at this program's types: 51: *api.Spot, 53: **api.Spot, 28: error, 73: reflectlite's rtype; 1: how many package-level variables the dump has -/
/-! ### THE ENTRIES THAT READ OR WRITE MEMORY: laws with a premise on the cell (after Derived/Lib/ReflectliteSlice.lean's manner: each unfolding a lemma of its own, by rfl) -/
theorem rlm (z : Sem Value) (f : TypeId → Addr → Nat → Nat → Sem Value) (v : Value) :
    ReflectliteValue.method z f #[v] = (do match ← ReflectliteValue.parts v with | none => z | some (t, a, fl) => f t a fl (fl % 32)) := rfl
end Go.Proofs.Ytpjoihafpjnipaa

/- errors.Is of a *api.Spot and its own Code; dunnagelaw00.Is of such an error. -/
namespace Go.Proofs.Ytpjoihafpjnipaa
set_option linter.unusedSimpArgs false
open Go.RowKit Go.Extern.Stop Go.Stop Go.Extern
set_option linter.unusedVariables false

theorem Try.compCode : (Try.prog.info? 41).map (·.comparable) = some true := by kernel_rfl
theorem eql_codes (a : Int) (w : World) : (binOp .eql 37 (.iface 41 (.int .i64 a)) (.iface 41 (.int .i64 a))).run Try.prog w = .ok (.bool true) w := by
  obtain ⟨i, hi, hcmp⟩ := Option.map_eq_some_iff.1 Try.compCode
  have h : ∀ d : Nat, (Op.equalIn (d + 2) 37 (.iface 41 (.int .i64 a)) (.iface 41 (.int .i64 a))).run Try.prog w = .ok true w := fun d => by
    simp [Op.equalIn, run_underlying Try.underlying37, run_underlying Try.underlying41, typeInfo, hi, hcmp]
  simp only [binOp]
  simp [Op.equal, Op.maxDepth, h 9998]
end Go.Proofs.Ytpjoihafpjnipaa

/- errors.As and dunnagelaw00.Is of a Spot: what they tell, and what stays. -/
namespace Go.Proofs.Ytpjoihafpjnipaa
set_option linter.unusedSimpArgs false
open Go.RowKit
set_option linter.unusedVariables false

end Go.Proofs.Ytpjoihafpjnipaa

/- dunnagelaw00.Code and Told, at the errors that a layer tells: none, a Code itself, a Spot. -/
namespace Go.Proofs.Ytpjoihafpjnipaa
set_option linter.unusedSimpArgs false
open Go.RowKit
set_option linter.unusedVariables false

theorem eql_code (a b : Int) (w : World) : (binOp .eql 37 (.iface 41 (.int .i64 a)) (.iface 41 (.int .i64 b))).run Try.prog w = .ok (.bool (a == b)) w := by
  obtain ⟨i, hi, hcmp⟩ := Option.map_eq_some_iff.1 Try.compCode
  have h : ∀ d : Nat, (Op.equalIn (d + 2) 37 (.iface 41 (.int .i64 a)) (.iface 41 (.int .i64 b))).run Try.prog w = .ok (a == b) w := fun d => by
    simp [Op.equalIn, run_underlying Try.underlying37, run_underlying Try.underlying41, typeInfo, hi, hcmp]
  simp only [binOp]
  simp [Op.equal, Op.maxDepth, h 9998]
def CodeRel (c : Int) (x : Value) : Prop := ∃ k : Int, 1 ≤ k ∧ k ≤ c ∧ x = .int .i64 k
end Go.Proofs.Ytpjoihafpjnipaa

/- What a call of layer 3 that tells an error comes to; the law ClusterChecks, walked, from what its callees come to. -/
namespace Go.Proofs.Ytpjoihafpjnipaa
set_option linter.unusedSimpArgs false
open Go.RowKit
set_option linter.unusedVariables false

abbrev snapV (A1 A2 A3 : Option Addr) (n1 c1 n2 c2 n3 c3 : Nat) : Value := .agg #[.slice A1 n1 c1, .slice A2 n2 c2, .slice A3 n3 c3]
abbrev specV (A4 : Option Addr) (n4 c4 : Nat) (x : SpecD) : Value := .agg #[.slice A4 n4 c4, .int .i64 x.preempts, .int .i64 x.shifts]
end Go.Proofs.Ytpjoihafpjnipaa

/- The program's small functions of layer 3: within, isCount, cmp.Compare, cmp.Or, spot, the Ids of records. -/
namespace Go.Proofs.Ytpjoihafpjnipaa
set_option linter.unusedSimpArgs false
open Go.RowKit
set_option linter.unusedVariables false

def inB (n lo hi : Int) : Bool := decide (lo ≤ n ∧ n ≤ hi)
theorem isNaN_any (n : Int) (w : World) : Calls Try.prog 32 #[.int .i64 n] w fun e w' => e = .returned (.bool false) ∧ w = w' := by
  have hd : (n != n) = false := by simp
  go_enter Try.func32, Try.ntmps32
  go_wp2
  go_ret
  exact ⟨rfl, rfl⟩
def cmpI (a b : Int) : Int := if a < b then -1 else if b < a then 1 else 0
theorem compare_any (a b : Int) (w : World) : Calls Try.prog 19 #[.int .i64 a, .int .i64 b] w fun e w' => e = .returned (.int .i64 (cmpI a b)) ∧ w = w' := by
  by_cases h1 : a < b
  · have HE := Lib.hid (show cmpI a b = -1 by simp [cmpI, h1])
    go_enter Try.func19, Try.ntmps19
    go_wp2_with (go_at_call 32; refine (isNaN_any _ _).mono ?_; rintro e w' ⟨rfl, rfl⟩)
    go_ret
    exact ⟨ret_int HE.out.symm, rfl⟩
  · by_cases h2 : b < a
    · have HE := Lib.hid (show cmpI a b = 1 by simp [cmpI, h1, h2])
      go_enter Try.func19, Try.ntmps19
      go_wp2_with (go_at_call 32; refine (isNaN_any _ _).mono ?_; rintro e w' ⟨rfl, rfl⟩)
      go_ret
      exact ⟨ret_int HE.out.symm, rfl⟩
    · have HE := Lib.hid (show cmpI a b = 0 by simp [cmpI, h1, h2])
      go_enter Try.func19, Try.ntmps19
      go_wp2_with (go_at_call 32; refine (isNaN_any _ _).mono ?_; rintro e w' ⟨rfl, rfl⟩)
      go_ret
      exact ⟨ret_int HE.out.symm, rfl⟩
def orI (a b : Int) : Int := if a = 0 then b else a
abbrev aggN (x : NodeD) : Value := .agg #[.int .i64 x.id, .int .i64 x.zone, .int .u64 x.cap.a, .int .u64 x.cap.b, .int .u64 x.cap.c, .int .u64 x.cap.d, .int .u64 x.held.a, .int .u64 x.held.b, .int .u64 x.held.c, .int .u64 x.held.d]
abbrev aggL (x : LoadD) : Value := .agg #[.int .i64 x.id, .bool x.apart, .int .i64 x.skew, .int .i64 x.min, .int .i64 x.max]
abbrev aggP (x : PodD) : Value := .agg #[.int .i64 x.id, .int .i64 x.load, .int .i64 x.prio, .int .u64 x.req.a, .int .u64 x.req.b, .int .u64 x.req.c, .int .u64 x.req.d, .int .i64 x.node]
abbrev aggW (x : WantD) : Value := .agg #[.int .i64 x.pod, .int .u64 x.req.a, .int .u64 x.req.b, .int .u64 x.req.c, .int .u64 x.req.d, .bool x.stay]
theorem fits_below (w : World) (o o' : Obj) (n : Nat) : Below w.heap.size w (((w.alloc o).alloc o').drewN n) := let k := below_two w o o'; ⟨k.os, k.tape, k.output, k.size, k.block⟩
theorem fits_below2 (w : World) (o o' : Obj) (n m : Nat) : Below w.heap.size w ((((w.alloc o).alloc o').drewN n).drewN m) := let k := fits_below w o o' n; ⟨k.os, k.tape, k.output, k.size, k.block⟩
end Go.Proofs.Ytpjoihafpjnipaa

/- Records in a row of the call's own read as these records. -/
namespace Go.Proofs.Ytpjoihafpjnipaa
set_option linter.unusedSimpArgs false
open Go.RowKit
set_option linter.unusedVariables false

theorem flatMap_get {α : Type} {size : Nat} {cells : α → List Value} (hc : ∀ x, (cells x).length = size) : ∀ {xs : List α} {i j : Nat} (hi : i < xs.length), j < size → (xs.flatMap cells)[i * size + j]? = (cells xs[i])[j]?
  | [], i, j, hi, _ => by simp at hi
  | x :: r, 0, j, _, hj => by
    rw [List.flatMap_cons, Nat.zero_mul, Nat.zero_add, List.getElem?_append_left (by rw [hc]; exact hj)]; rfl
  | x :: r, i + 1, j, hi, hj => by
    rw [List.flatMap_cons, List.getElem?_append_right (by rw [hc, Nat.add_one_mul]; omega), hc]
    have e : (i + 1) * size + j - size = i * size + j := by rw [Nat.add_one_mul]; omega
    rw [e, flatMap_get hc (xs := r) (by simpa using hi) hj]; rfl
theorem recs_of_own {α : Type} {size : Nat} {cells : α → List Value} (hc : ∀ x, (cells x).length = size) {w : World} {B n : Nat} {e : TypeId} {v : Value} {xs : List α} (hn : n = xs.length) (h : w.ownsRow B e size v n (xs.flatMap cells)) :
    ∃ A c, v = .slice A n c ∧ n ≤ c ∧ c ≤ maxLen ∧ (A = none → c = 0) ∧ Recs size cells w w.heap.size A xs := by
  subst hn
  have hcs := fun g hg => h.cells (g := g) hg
  rcases h.2 with ⟨hv, h0⟩ | ⟨g, cap, cur, hv, hb, hg, hnc, hm, _⟩
  · exact ⟨none, 0, by rw [hv, h0], by omega, by decide, fun _ => rfl, .inl (List.eq_nil_of_length_eq_zero h0)⟩
  · refine ⟨_, cap, hv, hnc, hm, (by intro h; cases h), .inr ⟨g, 0, rfl, (Array.getElem?_eq_some_iff.1 hg).1, fun i hi j u hu => ?_⟩⟩
    have hj : j < size := by have := (List.getElem?_eq_some_iff.1 hu).1; rw [hc] at this; exact this
    have := hcs g (by rw [hv]; rfl) (i * size + j) u (by rw [flatMap_get hc hi hj]; exact hu)
    rw [Addr.add_lit] at this
    simpa using this
/-- Records as they are told: a slice that reads as these. -/
def Out {α : Type} (size : Nat) (cells : α → List Value) (w : World) (xs : List α) (A : Option Addr) (c : Nat) : Prop := xs.length ≤ c ∧ c ≤ maxLen ∧ (A = none → c = 0) ∧ Recs size cells w w.heap.size A xs
theorem Out.nil {α : Type} {size : Nat} {cells : α → List Value} {w : World} {xs : List α} (h : xs = []) : Out size cells w xs none 0 := ⟨by rw [h]; exact Nat.le_refl _, by decide, fun _ => rfl, .inl h⟩
theorem out_of_own {α : Type} {size : Nat} {cells : α → List Value} (hc : ∀ x, (cells x).length = size) {w : World} {B n c : Nat} {e : TypeId} {A : Option Addr} {xs : List α} (hn : n = xs.length) (h : w.ownsRow B e size (.slice A n c) n (xs.flatMap cells)) : Out size cells w xs A c := by
  obtain ⟨A', c', e1, p1, p2, p3, p4⟩ := recs_of_own hc hn h
  injection e1 with e1 _ e2
  subst e1 e2 hn
  exact ⟨p1, p2, p3, p4⟩
theorem Out.recs {α : Type} {size : Nat} {cells : α → List Value} {w : World} {xs : List α} {A : Option Addr} {c : Nat} (h : Out size cells w xs A c) : Recs size cells w w.heap.size A xs := h.2.2.2
end Go.Proofs.Ytpjoihafpjnipaa

/- Plain mathematics of layer 4: records as numbers, one behind the other, and back; no program stands in it. -/
namespace Go.Proofs.Ytpjoihafpjnipaa
set_option linter.unusedSimpArgs false

structure MoveD where
  kind : Int
  pod : Int
  node : Int
  over : Int

/-- A kind of record: how many numbers it has, what they are, and back; which numbers may be one's. -/
structure Kind (α : Type) where
  size : Nat
  nums : α → List Int
  get : List Int → α
  ok : List Int → Bool
  len : ∀ x, (nums x).length = size
  back : ∀ x, get (nums x) = x
  once : ∀ c, c.length = size → ok c = true → nums (get c) = c

section
variable {α : Type} (K : Kind α)
def parse : Nat → List Int → List α
  | 0, _ => []
  | n + 1, l => K.get (l.take K.size) :: parse n (l.drop K.size)
def fine : Nat → List Int → Bool
  | 0, _ => true
  | n + 1, l => K.ok (l.take K.size) && fine n (l.drop K.size)
theorem parse_length : ∀ (n : Nat) (l : List Int), (parse K n l).length = n
  | 0, _ => rfl
  | n + 1, l => by simp [parse, parse_length n]
/-- What was written is read as it was. -/
theorem parse_flat : ∀ (xs : List α) (rest : List Int), parse K xs.length (xs.flatMap K.nums ++ rest) = xs
  | [], rest => rfl
  | x :: r, rest => by
    have e : (x :: r).flatMap K.nums ++ rest = K.nums x ++ (r.flatMap K.nums ++ rest) := by simp
    show parse K (r.length + 1) _ = _
    rw [e, parse, List.take_left' (K.len x), List.drop_left' (K.len x), K.back, parse_flat r rest]
/-- What is read is written as it was. -/
theorem flat_parse : ∀ (n : Nat) (l : List Int), n * K.size ≤ l.length → fine K n l = true → (parse K n l).flatMap K.nums = l.take (n * K.size)
  | 0, l, _, _ => by simp [parse]
  | n + 1, l, hl, hf => by
    simp only [fine, Bool.and_eq_true] at hf
    have hs : K.size ≤ l.length := by rw [Nat.add_one_mul] at hl; omega
    have h1 := K.once (l.take K.size) (by simp; omega) hf.1
    have h2 := flat_parse n (l.drop K.size) (by rw [List.length_drop]; rw [Nat.add_one_mul] at hl; omega) hf.2
    simp only [parse, List.flatMap_cons, h1, h2]
    rw [Nat.add_one_mul, Nat.add_comm, List.take_add]
theorem flat_length (xs : List α) : (xs.flatMap K.nums).length = xs.length * K.size := by
  induction xs with
  | nil => simp
  | cons x r ih => simp only [List.flatMap_cons, List.length_append, List.length_cons, ih, K.len, Nat.add_one_mul]; omega
theorem parse_get : ∀ (n : Nat) (l : List Int) (i : Nat) (h : i < n), (parse K n l)[i]'(by rw [parse_length]; exact h) = K.get ((l.drop (i * K.size)).take K.size)
  | 0, _, _, h => by omega
  | n + 1, l, 0, _ => by simp [parse]
  | n + 1, l, i + 1, h => by
    have := parse_get n (l.drop K.size) i (by omega)
    simp only [parse, List.getElem_cons_succ, this, List.drop_drop, Nat.add_one_mul]
    rw [Nat.add_comm]
theorem fine_iff : ∀ (n : Nat) (l : List Int), fine K n l = true ↔ ∀ i, i < n → K.ok ((l.drop (i * K.size)).take K.size) = true
  | 0, l => by simp [fine]
  | n + 1, l => by
    simp only [fine, Bool.and_eq_true, fine_iff n]
    constructor
    · rintro ⟨h1, h2⟩ i hi
      cases i with
      | zero => simpa using h1
      | succ i =>
        have := h2 i (by omega)
        rw [List.drop_drop] at this
        rwa [Nat.add_one_mul, Nat.add_comm]
    · intro h
      refine ⟨by simpa using h 0 (by omega), fun i hi => ?_⟩
      have := h (i + 1) (by omega)
      rw [List.drop_drop]
      rwa [Nat.add_one_mul, Nat.add_comm] at this
end

def truthN (b : Bool) : Int := if b then 1 else 0
def smallN (n : Int) : Bool := decide (n ≤ 2147483647)
def bitN (n : Int) : Bool := decide (n = 0 ∨ n = 1)
theorem truth_back (b : Bool) : (truthN b == 1) = b := by cases b <;> rfl
theorem truth_once {n : Int} (h : bitN n = true) : truthN (n == 1) = n := by
  unfold bitN at h
  rcases of_decide_eq_true h with h | h <;> subst h <;> rfl

theorem take_5 {l : List Int} (h : l.length = 5) : ∃ a b c d e, l = [a, b, c, d, e] := by
  match l, h with
  | [a, b, c, d, e], _ => exact ⟨a, b, c, d, e, rfl⟩
theorem take_4 {l : List Int} (h : l.length = 4) : ∃ a b c d, l = [a, b, c, d] := by
  match l, h with
  | [a, b, c, d], _ => exact ⟨a, b, c, d, rfl⟩
theorem take_6 {l : List Int} (h : l.length = 6) : ∃ a b c d e f, l = [a, b, c, d, e, f] := by
  match l, h with
  | [a, b, c, d, e, f], _ => exact ⟨a, b, c, d, e, f, rfl⟩
theorem take_8 {l : List Int} (h : l.length = 8) : ∃ a b c d e f g i, l = [a, b, c, d, e, f, g, i] := by
  match l, h with
  | [a, b, c, d, e, f, g, i], _ => exact ⟨a, b, c, d, e, f, g, i, rfl⟩
theorem take_10 {l : List Int} (h : l.length = 10) : ∃ a b c d e f g i j k, l = [a, b, c, d, e, f, g, i, j, k] := by
  match l, h with
  | [a, b, c, d, e, f, g, i, j, k], _ => exact ⟨a, b, c, d, e, f, g, i, j, k, rfl⟩

def nodeK : Kind NodeD where
  size := 10
  nums n := [n.id, n.zone, n.cap.a, n.cap.b, n.cap.c, n.cap.d, n.held.a, n.held.b, n.held.c, n.held.d]
  get c := ⟨c.getD 0 0, c.getD 1 0, ⟨c.getD 2 0, c.getD 3 0, c.getD 4 0, c.getD 5 0⟩, ⟨c.getD 6 0, c.getD 7 0, c.getD 8 0, c.getD 9 0⟩⟩
  ok c := smallN (c.getD 0 0) && smallN (c.getD 1 0)
  len _ := rfl
  back _ := rfl
  once c h _ := by obtain ⟨a, b, c, d, e, f, g, i, j, k, rfl⟩ := take_10 h; rfl
def loadK : Kind LoadD where
  size := 5
  nums l := [l.id, truthN l.apart, l.skew, l.min, l.max]
  get c := ⟨c.getD 0 0, c.getD 1 0 == 1, c.getD 2 0, c.getD 3 0, c.getD 4 0⟩
  ok c := smallN (c.getD 0 0) && (smallN (c.getD 2 0) && (smallN (c.getD 3 0) && (smallN (c.getD 4 0) && bitN (c.getD 1 0))))
  len _ := rfl
  back l := by obtain ⟨a, b, c, d, e⟩ := l; simp [truth_back]
  once c h ho := by
    obtain ⟨a, b, c, d, e, rfl⟩ := take_5 h
    simp only [Bool.and_eq_true] at ho
    have := truth_once ho.2.2.2.2
    simp at this ⊢
    exact this
def podK : Kind PodD where
  size := 8
  nums p := [p.id, p.load, p.prio, p.req.a, p.req.b, p.req.c, p.req.d, p.node]
  get c := ⟨c.getD 0 0, c.getD 1 0, c.getD 2 0, ⟨c.getD 3 0, c.getD 4 0, c.getD 5 0, c.getD 6 0⟩, c.getD 7 0⟩
  ok c := smallN (c.getD 0 0) && (smallN (c.getD 1 0) && (smallN (c.getD 2 0) && smallN (c.getD 7 0)))
  len _ := rfl
  back _ := rfl
  once c h _ := by obtain ⟨a, b, c, d, e, f, g, i, rfl⟩ := take_8 h; rfl
def wantK : Kind WantD where
  size := 6
  nums x := [x.pod, x.req.a, x.req.b, x.req.c, x.req.d, truthN x.stay]
  get c := ⟨c.getD 0 0, ⟨c.getD 1 0, c.getD 2 0, c.getD 3 0, c.getD 4 0⟩, c.getD 5 0 == 1⟩
  ok c := smallN (c.getD 0 0) && bitN (c.getD 5 0)
  len _ := rfl
  back x := by obtain ⟨a, b, c⟩ := x; simp [truth_back]
  once c h ho := by
    obtain ⟨a, b, c, d, e, f, rfl⟩ := take_6 h
    simp only [Bool.and_eq_true] at ho
    have := truth_once ho.2
    simp at this ⊢
    exact this
def moveK : Kind MoveD where
  size := 4
  nums m := [m.kind, m.pod, m.node, m.over]
  get c := ⟨c.getD 0 0, c.getD 1 0, c.getD 2 0, c.getD 3 0⟩
  ok c := smallN (c.getD 0 0) && (smallN (c.getD 1 0) && (smallN (c.getD 2 0) && smallN (c.getD 3 0)))
  len _ := rfl
  back _ := rfl
  once c h _ := by obtain ⟨a, b, c, d, rfl⟩ := take_4 h; rfl

def snapNums (s : SnapD) : List Int := [(s.nodes.length : Int), (s.loads.length : Int), (s.pods.length : Int)] ++ (s.nodes.flatMap nodeK.nums ++ (s.loads.flatMap loadK.nums ++ s.pods.flatMap podK.nums))
def specNums (x : SpecD) : List Int := [(x.wants.length : Int), x.preempts, x.shifts] ++ x.wants.flatMap wantK.nums
def moveNums (m : List MoveD) : List Int := (m.length : Int) :: m.flatMap moveK.nums

/-- The snapshot of so many nodes, loads and pods whose numbers these are. -/
def snapOf (a b c : Nat) (l : List Int) : SnapD := ⟨parse nodeK a l, parse loadK b (l.drop (a * 10)), parse podK c (l.drop (a * 10 + b * 5))⟩
def snapFine (a b c : Nat) (l : List Int) : Bool := fine nodeK a l && (fine loadK b (l.drop (a * 10)) && fine podK c (l.drop (a * 10 + b * 5)))
theorem snap_back (s : SnapD) : snapOf s.nodes.length s.loads.length s.pods.length ((snapNums s).drop 3) = s := by
  obtain ⟨n, l, p⟩ := s
  have h1 : (n.flatMap nodeK.nums).length = n.length * 10 := flat_length nodeK n
  have h2 : (l.flatMap loadK.nums).length = l.length * 5 := flat_length loadK l
  have e : (snapNums ⟨n, l, p⟩).drop 3 = n.flatMap nodeK.nums ++ (l.flatMap loadK.nums ++ p.flatMap podK.nums) := rfl
  rw [e]
  show SnapD.mk _ _ _ = _
  simp only []
  rw [parse_flat nodeK n, List.drop_left' h1, parse_flat loadK l, ← List.drop_drop, List.drop_left' h1, List.drop_left' h2]
  have := parse_flat podK p []
  rw [List.append_nil] at this
  rw [this]
theorem snap_once {a b c : Nat} {l : List Int} (hl : l.length = a * 10 + b * 5 + c * 8) (hf : snapFine a b c l = true) : snapNums (snapOf a b c l) = [(a : Int), (b : Int), (c : Int)] ++ l := by
  simp only [snapFine, Bool.and_eq_true] at hf
  have s10 : nodeK.size = 10 := rfl
  have s5 : loadK.size = 5 := rfl
  have s8 : podK.size = 8 := rfl
  have h1 := flat_parse nodeK a l (by rw [s10]; omega) hf.1
  have h2 := flat_parse loadK b (l.drop (a * 10)) (by rw [s5, List.length_drop]; omega) hf.2.1
  have h3 := flat_parse podK c (l.drop (a * 10 + b * 5)) (by rw [s8, List.length_drop]; omega) hf.2.2
  simp only [snapNums, snapOf, parse_length, h1, h2, h3, s10, s5, s8]
  congr 1
  rw [List.take_of_length_le (i := c * 8) (by rw [List.length_drop]; omega), ← List.drop_drop, List.take_append_drop, List.take_append_drop]
theorem spec_back (x : SpecD) : parse wantK x.wants.length ((specNums x).drop 3) = x.wants := by
  have := parse_flat wantK x.wants []
  rw [List.append_nil] at this
  simpa [specNums] using this
theorem spec_once {a : Nat} {p q : Int} {l : List Int} (hl : l.length = a * 6) (hf : fine wantK a l = true) : specNums ⟨parse wantK a l, p, q⟩ = [(a : Int), p, q] ++ l := by
  have s6 : wantK.size = 6 := rfl
  have h := flat_parse wantK a l (by rw [s6]; omega) hf
  simp only [specNums, parse_length, h, s6]
  rw [List.take_of_length_le (by omega)]
theorem move_back (m : List MoveD) : parse moveK m.length ((moveNums m).drop 1) = m := by
  have := parse_flat moveK m []
  rw [List.append_nil] at this
  simpa [moveNums] using this
theorem move_once {a : Nat} {l : List Int} (hl : l.length = a * 4) (hf : fine moveK a l = true) : moveNums (parse moveK a l) = (a : Int) :: l := by
  have s4 : moveK.size = 4 := rfl
  have h := flat_parse moveK a l (by rw [s4]; omega) hf
  simp only [moveNums, parse_length, h, s4]
  rw [List.take_of_length_le (by omega)]
end Go.Proofs.Ytpjoihafpjnipaa

namespace Go.Proofs.Ytpjoihafpjnipaa
set_option linter.unusedSimpArgs false

abbrev aggM (x : MoveD) : Value := .agg #[.int .i64 x.kind, .int .i64 x.pod, .int .i64 x.node, .int .i64 x.over]
def cellsM (x : MoveD) : List Value := [.int .i64 x.kind, .int .i64 x.pod, .int .i64 x.node, .int .i64 x.over]
end Go.Proofs.Ytpjoihafpjnipaa
