/- Joined texts, part 1: CM CA CR RR CB CC CD CE CI CF E K Is Told CG DA RO FM MC UA UO YO. -/
import Derived.KernelRfl
import Derived.Test.YtkipfalolfleaaaGreatDoorRows
import Derived.WalkKit
import Derived.WalkSpells
import Derived.WalkLawsBesides
import Derived.Lib.Hide
import Derived.OwnWalk
import Derived.ChangeSame
import Derived.RowKit
import Derived.RowKitTokens
import Derived.Carry
import Derived.Deep.Slices
import Derived.Laws.IdiomArrays
import Derived.Lib.SmallJoins
import Derived.Test.YtkipfalolfleaaaGreatDoorTie
import Derived.Test.YtkipfalolfleaaaGreatDoorCards
import Derived.ChangeVars
import Derived.JoinedOf
import Derived.LaidLaws
import Derived.LaidHandle
import Derived.Stop.Joined
import Derived.ChangeSlices
import Derived.LaidEql
import Derived.ChangeKeysEq
import Derived.Laws.StructEq
import Derived.Deep.QuietTactic
import Derived.BigQuiet
import Derived.LaidEqlPtr
import Derived.Stop.Asserts
import Derived.Deep.RegionHeld3

/- Plain mathematics of clusters that may be; no program stands in it. -/
namespace Go.Proofs.YtkipfalolfleaaaGreatDoor
set_option linter.unusedSimpArgs false

structure V4 where
  a : Int
  b : Int
  c : Int
  d : Int
structure NodeD where
  id : Int
  zone : Int
  cap : V4
  held : V4
structure LoadD where
  id : Int
  apart : Bool
  skew : Int
  min : Int
  max : Int
structure PodD where
  id : Int
  load : Int
  prio : Int
  req : V4
  node : Int
structure WantD where
  pod : Int
  req : V4
  stay : Bool
structure SnapD where
  nodes : List NodeD
  loads : List LoadD
  pods : List PodD
structure SpecD where
  wants : List WantD
  preempts : Int
  shifts : Int

def V4.le (x y : V4) : Bool := decide (x.a ≤ y.a ∧ x.b ≤ y.b ∧ x.c ≤ y.c ∧ x.d ≤ y.d)
def V4.zero (x : V4) : Bool := decide (x.a = 0 ∧ x.b = 0 ∧ x.c = 0 ∧ x.d = 0)

/-- The place of the first one whose number is id; -1: there is none. -/
def place {α : Type} (f : α → Int) (id : Int) : List α → Int → Int
  | [], _ => -1
  | x :: r, k => if f x = id then k else place f id r (k + 1)
theorem place_neg {α : Type} {f : α → Int} {id : Int} : ∀ {l : List α} {k : Int}, 0 ≤ k → (place f id l k < 0 ↔ ∀ x ∈ l, f x ≠ id)
  | [], k, _ => by simp [place]
  | x :: r, k, hk => by
    by_cases h : f x = id
    · simp [place, h]; omega
    · simp [place, h, place_neg (l := r) (k := k + 1) (by omega)]
theorem place_ge {α : Type} {f : α → Int} {id : Int} : ∀ {l : List α} {k : Int}, 0 ≤ k → -1 ≤ place f id l k ∧ place f id l k < k + l.length
  | [], k, hk => by simp [place]; omega
  | x :: r, k, hk => by
    by_cases h : f x = id
    · simp [place, h]; omega
    · have := place_ge (f := f) (id := id) (l := r) (k := k + 1) (by omega)
      simp [place, h]; omega
/-- Zones, rising, each once: one more. -/
def insZ (z : Int) : List Int → List Int
  | [] => [z]
  | y :: r => if y < z then y :: insZ z r else if y = z then y :: r else z :: y :: r
def zonesOf (l : List NodeD) : List Int := l.foldl (fun acc n => insZ n.zone acc) []
def Rising : List Int → Prop
  | [] => True
  | x :: r => (∀ y ∈ r, x < y) ∧ Rising r
theorem insZ_mem {z y : Int} : ∀ {l : List Int}, y ∈ insZ z l ↔ y = z ∨ y ∈ l
  | [] => by simp [insZ]
  | x :: r => by
    unfold insZ
    split
    · simp [insZ_mem (l := r)]; constructor <;> (rintro (h | h | h) <;> simp [h])
    · split
      · rename_i h; subst h; simp; 
      · simp
theorem insZ_rising {z : Int} : ∀ {l : List Int}, Rising l → Rising (insZ z l)
  | [], _ => ⟨by simp, trivial⟩
  | x :: r, h => by
    unfold insZ
    split
    · rename_i hx
      refine ⟨fun y hy => ?_, insZ_rising h.2⟩
      rcases insZ_mem.1 hy with rfl | hy
      · exact hx
      · exact h.1 y hy
    · split
      · exact h
      · rename_i h1 h2
        refine ⟨fun y hy => ?_, h⟩
        rcases List.mem_cons.1 hy with rfl | hy
        · omega
        · have := h.1 y hy; omega
theorem insZ_len {z : Int} : ∀ {l : List Int}, 1 ≤ (insZ z l).length ∧ (insZ z l).length ≤ l.length + 1
  | [] => by simp [insZ]
  | x :: r => by
    unfold insZ
    split
    · have := insZ_len (z := z) (l := r); simp; omega
    · split <;> simp
theorem zones_fold (l : List NodeD) : ∀ acc : List Int, Rising acc → Rising (l.foldl (fun acc n => insZ n.zone acc) acc) ∧ (l.foldl (fun acc n => insZ n.zone acc) acc).length ≤ acc.length + l.length ∧ (0 < l.length ∨ 0 < acc.length → 1 ≤ (l.foldl (fun acc n => insZ n.zone acc) acc).length) := by
  induction l with
  | nil => intro acc h; exact ⟨h, by simp, by simp; omega⟩
  | cons n r ih =>
    intro acc h
    have h1 := insZ_len (z := n.zone) (l := acc)
    obtain ⟨a, b, c⟩ := ih (insZ n.zone acc) (insZ_rising h)
    exact ⟨a, by simp only [List.foldl_cons, List.length_cons]; omega, fun _ => c (.inr (by omega))⟩
end Go.Proofs.YtkipfalolfleaaaGreatDoor

/- How nodes, loads, pods and wants lie in memory; the reference's small functions of layer 3. -/
namespace Go.Proofs.YtkipfalolfleaaaGreatDoor
set_option linter.unusedSimpArgs false
open Go.RowKit
set_option linter.unusedVariables false

def cellsV (x : V4) : List Value := [.int .u64 x.a, .int .u64 x.b, .int .u64 x.c, .int .u64 x.d]
def cellsN (n : NodeD) : List Value := [.int .i64 n.id, .int .i64 n.zone, .int .u64 n.cap.a, .int .u64 n.cap.b, .int .u64 n.cap.c, .int .u64 n.cap.d, .int .u64 n.held.a, .int .u64 n.held.b, .int .u64 n.held.c, .int .u64 n.held.d]
def cellsL (l : LoadD) : List Value := [.int .i64 l.id, .bool l.apart, .int .i64 l.skew, .int .i64 l.min, .int .i64 l.max]
def cellsP (p : PodD) : List Value := [.int .i64 p.id, .int .i64 p.load, .int .i64 p.prio, .int .u64 p.req.a, .int .u64 p.req.b, .int .u64 p.req.c, .int .u64 p.req.d, .int .i64 p.node]
def cellsW (x : WantD) : List Value := [.int .i64 x.pod, .int .u64 x.req.a, .int .u64 x.req.b, .int .u64 x.req.c, .int .u64 x.req.d, .bool x.stay]

/-- The slice '.slice A xs.length c' of records of so many cells reads as xs in w, and lies below block B. -/
def Recs {α : Type} (size : Nat) (cells : α → List Value) (w : World) (B : Nat) (A : Option Addr) (xs : List α) : Prop :=
  xs = [] ∨ ∃ b o, A = some ⟨b, o, none⟩ ∧ b < B ∧ ∀ i (h : i < xs.length) j u, (cells xs[i])[j]? = some u → w.cell? ⟨b, o + i * size + j, none⟩ = some u

section
variable {α : Type} {size : Nat} {cells : α → List Value} {w w' : World} {B B' : Nat} {A : Option Addr} {xs : List α}
theorem Recs.nil : Recs size cells w B A [] := .inl rfl
theorem Recs.below (h : Recs size cells w B A xs) (hb : Below B' w w') (hB : B ≤ B') : Recs size cells w' B A xs := by
  rcases h with h | ⟨b, o, h1, h2, h3⟩
  · exact .inl h
  · exact .inr ⟨b, o, h1, h2, fun i hi j u hu => (hb.cell (p := ⟨b, o + i * size + j, none⟩) (Nat.lt_of_lt_of_le h2 hB)).trans (h3 i hi j u hu)⟩
theorem Recs.more (h : Recs size cells w B A xs) (hB : B ≤ B') : Recs size cells w B' A xs := by
  rcases h with h | ⟨b, o, h1, h2, h3⟩
  · exact .inl h
  · exact .inr ⟨b, o, h1, Nat.lt_of_lt_of_le h2 hB, h3⟩
theorem Recs.at (h : Recs size cells w B A xs) {k : Nat} (hk : k < xs.length) :
    ∃ b o, A = some ⟨b, o, none⟩ ∧ b < B ∧ ∀ j u, (cells xs[k])[j]? = some u → w.cell? ⟨b, o + k * size + j, none⟩ = some u := by
  rcases h with h | ⟨b, o, h1, h2, h3⟩
  · subst h; simp at hk
  · exact ⟨b, o, h1, h2, h3 k hk⟩
theorem Recs.take (h : Recs size cells w B A xs) (n : Nat) : Recs size cells w B A (xs.take n) := by
  rcases h with h | ⟨b, o, h1, h2, h3⟩
  · exact .inl (by simp [h])
  · exact .inr ⟨b, o, h1, h2, fun i hi j u hu => h3 i (by simp at hi; omega) j u (by rw [List.getElem_take] at hu; exact hu)⟩
end

/-- A snapshot as it is handed over: three slices. -/
structure Snap (w : World) (B : Nat) (s : SnapD) (v : Value) : Prop where
  is : ∃ A1 c1 A2 c2 A3 c3, v = .agg #[.slice A1 s.nodes.length c1, .slice A2 s.loads.length c2, .slice A3 s.pods.length c3] ∧
    Recs 10 cellsN w B A1 s.nodes ∧ Recs 5 cellsL w B A2 s.loads ∧ Recs 8 cellsP w B A3 s.pods

theorem place_step {α : Type} {f : α → Int} {id : Int} {l : List α} {k : Nat} (h : k < l.length) (hne : f l[k] ≠ id) (hp : place f id (l.drop k) k = place f id l 0) : place f id (l.drop (k + 1)) ((k + 1 : Nat) : Int) = place f id l 0 := by
  rw [← hp, List.drop_eq_getElem_cons h, place, if_neg hne]; rfl
theorem place_here {α : Type} {f : α → Int} {id : Int} {l : List α} {k : Nat} (h : k < l.length) (he : f l[k] = id) (hp : place f id (l.drop k) k = place f id l 0) : place f id l 0 = k := by
  rw [← hp, List.drop_eq_getElem_cons h, place, if_pos he]
theorem place_end {α : Type} {f : α → Int} {id : Int} {l : List α} {k : Nat} (h : l.length ≤ k) (hp : place f id (l.drop k) k = place f id l 0) : place f id l 0 = -1 := by
  rw [← hp, List.drop_of_length_le h, place]
def FindRel {α : Type} (f : α → Int) (id : Int) (l : List α) (i : Value) : Prop := ∃ k : Nat, k ≤ l.length ∧ i = .int .i64 k ∧ place f id (l.drop k) k = place f id l 0
theorem ret_int {a b : Int} (h : a = b) : Ending.returned (.int .i64 a) = .returned (.int .i64 b) := by rw [h]

end Go.Proofs.YtkipfalolfleaaaGreatDoor

/- How snapshots and specs are read as data. -/
namespace Go.Proofs.YtkipfalolfleaaaGreatDoor
set_option linter.unusedSimpArgs false
open Go.ChangeShapes Go.WideShapes Go.RowKit

def I64 (n : Int) : Prop := -9223372036854775808 ≤ n ∧ n ≤ 9223372036854775807
def U64 (n : Int) : Prop := 0 ≤ n ∧ n < 18446744073709551616
def V4.Ok (x : V4) : Prop := U64 x.a ∧ U64 x.b ∧ U64 x.c ∧ U64 x.d
def NodeD.Ok (x : NodeD) : Prop := I64 x.id ∧ I64 x.zone ∧ x.cap.Ok ∧ x.held.Ok
def LoadD.Ok (x : LoadD) : Prop := I64 x.id ∧ I64 x.skew ∧ I64 x.min ∧ I64 x.max
def PodD.Ok (x : PodD) : Prop := I64 x.id ∧ I64 x.load ∧ I64 x.prio ∧ x.req.Ok ∧ I64 x.node
def WantD.Ok (x : WantD) : Prop := I64 x.pod ∧ x.req.Ok

theorem wf_i64' {n : Int} (h : (Lit.int .i64 n).wf = true) : I64 n := by
  simp [Lit.wf, IntKind.min, IntKind.max, IntKind.signed, IntKind.bits] at h
  exact ⟨by omega, by omega⟩
theorem wf_u64' {n : Int} (h : (Lit.int .u64 n).wf = true) : U64 n := by
  simp [Lit.wf, IntKind.min, IntKind.max, IntKind.signed, IntKind.bits] at h
  exact ⟨by omega, by omega⟩
theorem Tryz.cells36 : Tryz.prog.cellsOf 36 = 1 := by kernel_rfl
theorem Tryz.cells38 : Tryz.prog.cellsOf 38 = 4 := by kernel_rfl
theorem Tryz.cells3 : Tryz.prog.cellsOf 3 = 1 := by kernel_rfl
theorem Tryz.cells4 : Tryz.prog.cellsOf 4 = 1 := by kernel_rfl
theorem Tryz.cellsN : Tryz.prog.cellsOf 49 = 10 := by kernel_rfl
theorem Tryz.cellsL : Tryz.prog.cellsOf 51 = 5 := by kernel_rfl
theorem Tryz.cellsP : Tryz.prog.cellsOf 55 = 8 := by kernel_rfl
theorem Tryz.cellsW : Tryz.prog.cellsOf 40 = 6 := by kernel_rfl
theorem Tryz.cellsS : Tryz.prog.cellsOf 26 = 3 := by kernel_rfl
theorem Tryz.cellsX : Tryz.prog.cellsOf 29 = 3 := by kernel_rfl

theorem list5 {α : Type} (l : List α) (h : l.length = 5) : ∃ c0 c1 c2 c3 c4, l = [c0, c1, c2, c3, c4] := by
  match l, h with
  | [c0, c1, c2, c3, c4], _ => exact ⟨c0, c1, c2, c3, c4, rfl⟩
theorem list6 {α : Type} (l : List α) (h : l.length = 6) : ∃ c0 c1 c2 c3 c4 c5, l = [c0, c1, c2, c3, c4, c5] := by
  match l, h with
  | [c0, c1, c2, c3, c4, c5], _ => exact ⟨c0, c1, c2, c3, c4, c5, rfl⟩
theorem list8 {α : Type} (l : List α) (h : l.length = 8) : ∃ c0 c1 c2 c3 c4 c5 c6 c7, l = [c0, c1, c2, c3, c4, c5, c6, c7] := by
  match l, h with
  | [c0, c1, c2, c3, c4, c5, c6, c7], _ => exact ⟨c0, c1, c2, c3, c4, c5, c6, c7, rfl⟩
theorem list10 {α : Type} (l : List α) (h : l.length = 10) : ∃ c0 c1 c2 c3 c4 c5 c6 c7 c8 c9, l = [c0, c1, c2, c3, c4, c5, c6, c7, c8, c9] := by
  match l, h with
  | [c0, c1, c2, c3, c4, c5, c6, c7, c8, c9], _ => exact ⟨c0, c1, c2, c3, c4, c5, c6, c7, c8, c9, rfl⟩

section
variable {H : Type} {enc : TypeId × Value → H} {w : World} {base : Nat} {sp : Nat → Bool} {held : Bool}
theorem int_of {n : Nat} {c : Value} {x : Option (DataW H × List MemPlace)} (hx : x.isSome = true) (h : DataW.trod enc Tryz.prog w base sp held n 3 [c] = x) : ∃ k, c = .int .i64 k ∧ I64 k := by
  obtain ⟨y, rfl⟩ := Option.isSome_iff_exists.1 hx
  obtain ⟨k, e, _, hw⟩ := DataW.trod_int Tryz.underlying3 h
  exact ⟨k, by simpa using e, wf_i64' hw⟩
theorem bool_of {n : Nat} {c : Value} {x : Option (DataW H × List MemPlace)} (hx : x.isSome = true) (h : DataW.trod enc Tryz.prog w base sp held n 4 [c] = x) : ∃ k, c = .bool k := by
  obtain ⟨y, rfl⟩ := Option.isSome_iff_exists.1 hx
  obtain ⟨k, e, _⟩ := DataW.trod_bool Tryz.underlying4 h
  exact ⟨k, by simpa using e⟩
theorem vec_of {n : Nat} {c0 c1 c2 c3 : Value} {x : Option (DataW H × List MemPlace)} (hx : x.isSome = true) (h : DataW.trod enc Tryz.prog w base sp held n 38 [c0, c1, c2, c3] = x) :
    ∃ v : V4, c0 = .int .u64 v.a ∧ c1 = .int .u64 v.b ∧ c2 = .int .u64 v.c ∧ c3 = .int .u64 v.d ∧ v.Ok := by
  obtain ⟨y, rfl⟩ := Option.isSome_iff_exists.1 hx
  obtain ⟨y0, y1, y2, y3, m, _, hy0, hy1, hy2, hy3⟩ := trod_array4 Tryz.underlying38 Tryz.cells36 h
  obtain ⟨x0, e0, _, w0⟩ := DataW.trod_int Tryz.underlying36 hy0
  obtain ⟨x1, e1, _, w1⟩ := DataW.trod_int Tryz.underlying36 hy1
  obtain ⟨x2, e2, _, w2⟩ := DataW.trod_int Tryz.underlying36 hy2
  obtain ⟨x3, e3, _, w3⟩ := DataW.trod_int Tryz.underlying36 hy3
  exact ⟨⟨x0, x1, x2, x3⟩, by simpa using e0, by simpa using e1, by simpa using e2, by simpa using e3, wf_u64' w0, wf_u64' w1, wf_u64' w2, wf_u64' w3⟩
theorem some_at {α : Type} {l : List α} {i n : Nat} (h : l.length = n) (hi : i < n) : (l[i]?).isSome = true := by
  rw [List.getElem?_eq_getElem (by omega)]; rfl

theorem node_of {n : Nat} {cs : List Value} {x : DataW H × List MemPlace} (hl : cs.length = 10) (h : DataW.trod enc Tryz.prog w base sp held n 49 cs = some x) : ∃ a : NodeD, cs = cellsN a ∧ a.Ok := by
  obtain ⟨xs, m, rfl, _, _, hxl, hf⟩ := DataW.trod_struct Tryz.underlying49 h
  obtain ⟨c0, c1, c2, c3, c4, c5, c6, c7, c8, c9, rfl⟩ := list10 cs hl
  have h0 : DataW.trod enc Tryz.prog w base sp held m 3 (([c0, c1, c2, c3, c4, c5, c6, c7, c8, c9].drop 0).take (Tryz.prog.cellsOf 3)) = xs[0]? := hf 0 _ rfl
  rw [Tryz.cells3, show ([c0, c1, c2, c3, c4, c5, c6, c7, c8, c9].drop 0).take 1 = [c0] from rfl] at h0
  have h1 : DataW.trod enc Tryz.prog w base sp held m 3 (([c0, c1, c2, c3, c4, c5, c6, c7, c8, c9].drop 1).take (Tryz.prog.cellsOf 3)) = xs[1]? := hf 1 _ rfl
  rw [Tryz.cells3, show ([c0, c1, c2, c3, c4, c5, c6, c7, c8, c9].drop 1).take 1 = [c1] from rfl] at h1
  have h2 : DataW.trod enc Tryz.prog w base sp held m 38 (([c0, c1, c2, c3, c4, c5, c6, c7, c8, c9].drop 2).take (Tryz.prog.cellsOf 38)) = xs[2]? := hf 2 _ rfl
  rw [Tryz.cells38, show ([c0, c1, c2, c3, c4, c5, c6, c7, c8, c9].drop 2).take 4 = [c2, c3, c4, c5] from rfl] at h2
  have h3 : DataW.trod enc Tryz.prog w base sp held m 38 (([c0, c1, c2, c3, c4, c5, c6, c7, c8, c9].drop 6).take (Tryz.prog.cellsOf 38)) = xs[3]? := hf 3 _ rfl
  rw [Tryz.cells38, show ([c0, c1, c2, c3, c4, c5, c6, c7, c8, c9].drop 6).take 4 = [c6, c7, c8, c9] from rfl] at h3
  obtain ⟨k0, rfl, i0⟩ := int_of (some_at hxl (by simp)) h0
  obtain ⟨k1, rfl, i1⟩ := int_of (some_at hxl (by simp)) h1
  obtain ⟨v2, rfl, rfl, rfl, rfl, i2⟩ := vec_of (some_at hxl (by simp)) h2
  obtain ⟨v3, rfl, rfl, rfl, rfl, i3⟩ := vec_of (some_at hxl (by simp)) h3
  exact ⟨⟨k0, k1, v2, v3⟩, rfl, i0, i1, i2, i3⟩
theorem load_of {n : Nat} {cs : List Value} {x : DataW H × List MemPlace} (hl : cs.length = 5) (h : DataW.trod enc Tryz.prog w base sp held n 51 cs = some x) : ∃ a : LoadD, cs = cellsL a ∧ a.Ok := by
  obtain ⟨xs, m, rfl, _, _, hxl, hf⟩ := DataW.trod_struct Tryz.underlying51 h
  obtain ⟨c0, c1, c2, c3, c4, rfl⟩ := list5 cs hl
  have h0 : DataW.trod enc Tryz.prog w base sp held m 3 (([c0, c1, c2, c3, c4].drop 0).take (Tryz.prog.cellsOf 3)) = xs[0]? := hf 0 _ rfl
  rw [Tryz.cells3, show ([c0, c1, c2, c3, c4].drop 0).take 1 = [c0] from rfl] at h0
  have h1 : DataW.trod enc Tryz.prog w base sp held m 4 (([c0, c1, c2, c3, c4].drop 1).take (Tryz.prog.cellsOf 4)) = xs[1]? := hf 1 _ rfl
  rw [Tryz.cells4, show ([c0, c1, c2, c3, c4].drop 1).take 1 = [c1] from rfl] at h1
  have h2 : DataW.trod enc Tryz.prog w base sp held m 3 (([c0, c1, c2, c3, c4].drop 2).take (Tryz.prog.cellsOf 3)) = xs[2]? := hf 2 _ rfl
  rw [Tryz.cells3, show ([c0, c1, c2, c3, c4].drop 2).take 1 = [c2] from rfl] at h2
  have h3 : DataW.trod enc Tryz.prog w base sp held m 3 (([c0, c1, c2, c3, c4].drop 3).take (Tryz.prog.cellsOf 3)) = xs[3]? := hf 3 _ rfl
  rw [Tryz.cells3, show ([c0, c1, c2, c3, c4].drop 3).take 1 = [c3] from rfl] at h3
  have h4 : DataW.trod enc Tryz.prog w base sp held m 3 (([c0, c1, c2, c3, c4].drop 4).take (Tryz.prog.cellsOf 3)) = xs[4]? := hf 4 _ rfl
  rw [Tryz.cells3, show ([c0, c1, c2, c3, c4].drop 4).take 1 = [c4] from rfl] at h4
  obtain ⟨k0, rfl, i0⟩ := int_of (some_at hxl (by simp)) h0
  obtain ⟨k1, rfl⟩ := bool_of (some_at hxl (by simp)) h1
  obtain ⟨k2, rfl, i2⟩ := int_of (some_at hxl (by simp)) h2
  obtain ⟨k3, rfl, i3⟩ := int_of (some_at hxl (by simp)) h3
  obtain ⟨k4, rfl, i4⟩ := int_of (some_at hxl (by simp)) h4
  exact ⟨⟨k0, k1, k2, k3, k4⟩, rfl, i0, i2, i3, i4⟩
theorem pod_of {n : Nat} {cs : List Value} {x : DataW H × List MemPlace} (hl : cs.length = 8) (h : DataW.trod enc Tryz.prog w base sp held n 55 cs = some x) : ∃ a : PodD, cs = cellsP a ∧ a.Ok := by
  obtain ⟨xs, m, rfl, _, _, hxl, hf⟩ := DataW.trod_struct Tryz.underlying55 h
  obtain ⟨c0, c1, c2, c3, c4, c5, c6, c7, rfl⟩ := list8 cs hl
  have h0 : DataW.trod enc Tryz.prog w base sp held m 3 (([c0, c1, c2, c3, c4, c5, c6, c7].drop 0).take (Tryz.prog.cellsOf 3)) = xs[0]? := hf 0 _ rfl
  rw [Tryz.cells3, show ([c0, c1, c2, c3, c4, c5, c6, c7].drop 0).take 1 = [c0] from rfl] at h0
  have h1 : DataW.trod enc Tryz.prog w base sp held m 3 (([c0, c1, c2, c3, c4, c5, c6, c7].drop 1).take (Tryz.prog.cellsOf 3)) = xs[1]? := hf 1 _ rfl
  rw [Tryz.cells3, show ([c0, c1, c2, c3, c4, c5, c6, c7].drop 1).take 1 = [c1] from rfl] at h1
  have h2 : DataW.trod enc Tryz.prog w base sp held m 3 (([c0, c1, c2, c3, c4, c5, c6, c7].drop 2).take (Tryz.prog.cellsOf 3)) = xs[2]? := hf 2 _ rfl
  rw [Tryz.cells3, show ([c0, c1, c2, c3, c4, c5, c6, c7].drop 2).take 1 = [c2] from rfl] at h2
  have h3 : DataW.trod enc Tryz.prog w base sp held m 38 (([c0, c1, c2, c3, c4, c5, c6, c7].drop 3).take (Tryz.prog.cellsOf 38)) = xs[3]? := hf 3 _ rfl
  rw [Tryz.cells38, show ([c0, c1, c2, c3, c4, c5, c6, c7].drop 3).take 4 = [c3, c4, c5, c6] from rfl] at h3
  have h4 : DataW.trod enc Tryz.prog w base sp held m 3 (([c0, c1, c2, c3, c4, c5, c6, c7].drop 7).take (Tryz.prog.cellsOf 3)) = xs[4]? := hf 4 _ rfl
  rw [Tryz.cells3, show ([c0, c1, c2, c3, c4, c5, c6, c7].drop 7).take 1 = [c7] from rfl] at h4
  obtain ⟨k0, rfl, i0⟩ := int_of (some_at hxl (by simp)) h0
  obtain ⟨k1, rfl, i1⟩ := int_of (some_at hxl (by simp)) h1
  obtain ⟨k2, rfl, i2⟩ := int_of (some_at hxl (by simp)) h2
  obtain ⟨v3, rfl, rfl, rfl, rfl, i3⟩ := vec_of (some_at hxl (by simp)) h3
  obtain ⟨k4, rfl, i4⟩ := int_of (some_at hxl (by simp)) h4
  exact ⟨⟨k0, k1, k2, v3, k4⟩, rfl, i0, i1, i2, i3, i4⟩
theorem want_of {n : Nat} {cs : List Value} {x : DataW H × List MemPlace} (hl : cs.length = 6) (h : DataW.trod enc Tryz.prog w base sp held n 40 cs = some x) : ∃ a : WantD, cs = cellsW a ∧ a.Ok := by
  obtain ⟨xs, m, rfl, _, _, hxl, hf⟩ := DataW.trod_struct Tryz.underlying40 h
  obtain ⟨c0, c1, c2, c3, c4, c5, rfl⟩ := list6 cs hl
  have h0 : DataW.trod enc Tryz.prog w base sp held m 3 (([c0, c1, c2, c3, c4, c5].drop 0).take (Tryz.prog.cellsOf 3)) = xs[0]? := hf 0 _ rfl
  rw [Tryz.cells3, show ([c0, c1, c2, c3, c4, c5].drop 0).take 1 = [c0] from rfl] at h0
  have h1 : DataW.trod enc Tryz.prog w base sp held m 38 (([c0, c1, c2, c3, c4, c5].drop 1).take (Tryz.prog.cellsOf 38)) = xs[1]? := hf 1 _ rfl
  rw [Tryz.cells38, show ([c0, c1, c2, c3, c4, c5].drop 1).take 4 = [c1, c2, c3, c4] from rfl] at h1
  have h2 : DataW.trod enc Tryz.prog w base sp held m 4 (([c0, c1, c2, c3, c4, c5].drop 5).take (Tryz.prog.cellsOf 4)) = xs[2]? := hf 2 _ rfl
  rw [Tryz.cells4, show ([c0, c1, c2, c3, c4, c5].drop 5).take 1 = [c5] from rfl] at h2
  obtain ⟨k0, rfl, i0⟩ := int_of (some_at hxl (by simp)) h0
  obtain ⟨v1, rfl, rfl, rfl, rfl, i1⟩ := vec_of (some_at hxl (by simp)) h1
  obtain ⟨k2, rfl⟩ := bool_of (some_at hxl (by simp)) h2
  exact ⟨⟨k0, v1, k2⟩, rfl, i0, i1⟩

/-- A slice of records that came in: nil or not. -/
theorem open_recs {α : Type} {size : Nat} {cells : α → List Value} {Ok : α → Prop} {t e : TypeId} {v : Value} {fuel : Nat} {x : DataW H × List MemPlace} (ht : Tryz.prog.underlying t = some (.slice e)) (hC : Tryz.prog.cellsOf e = size) (hs : 0 < size)
    (hof : ∀ (n : Nat) (cs : List Value) (x : DataW H × List MemPlace), cs.length = size → DataW.trod enc Tryz.prog w base sp held n e cs = some x → ∃ a : α, cs = cells a ∧ Ok a)
    (h : DataW.trod enc Tryz.prog w base sp held fuel t [v] = some x) :
    ∃ (A : Option Addr) (c : Nat) (l : List α), v = .slice A l.length c ∧ l.length ≤ c ∧ c ≤ maxLen ∧ (A = none → c = 0) ∧ Recs size cells w w.heap.size A l ∧ ∀ a ∈ l, Ok a := by
  rcases Go.Deep.open_slice ht h with ⟨hc, _⟩ | ⟨a, n, cap, m, fu, D, Pl, hc, _, hl, hm, hmm, _, hel⟩
  · have hv : v = .slice none 0 0 := by simpa using hc
    exact ⟨none, 0, [], hv, by simp, by unfold maxLen; omega, fun _ => rfl, Recs.nil, fun _ h => by simp at h⟩
  · have hv : v = .slice (some a) n cap := by simpa using hc
    have hnm : n ≤ m := by rw [hmm]; split <;> omega
    have key : ∀ i, i < n → ∃ r : α, (∀ j u, (cells r)[j]? = some u → w.cell? ((a.add (i * size)).add j) = some u) ∧ Ok r ∧ (cells r).length = size := by
      intro i hi
      obtain ⟨cs, h1, h2⟩ := hel i (by omega)
      rw [hC] at h1
      obtain ⟨_, hlen, hat⟩ := World.cells?_some h1
      obtain ⟨r, rfl, hr⟩ := hof _ cs _ hlen h2
      refine ⟨r, fun j u hu => ?_, hr, hlen⟩
      have hj : j < size := by rw [← hlen]; exact (List.getElem?_eq_some_iff.1 hu).1
      exact (hat j hj).trans hu
    rcases Nat.eq_zero_or_pos n with hn0 | hn0
    · subst hn0
      exact ⟨some a, cap, [], by simp [hv], by simp, hm, fun h => by (cases h), Recs.nil, fun _ h => by simp at h⟩
    haveI : Inhabited α := ⟨Classical.choose (key 0 hn0)⟩
    obtain ⟨r, hr⟩ := Go.Deep.choose_lt key
    refine ⟨some a, cap, (List.range n).map r, by simp [hv], by simpa using hl, hm, fun h => by (cases h), ?_, fun y hy => ?_⟩
    · by_cases h0 : n = 0
      · exact .inl (by simp [h0])
      · obtain ⟨ab, ao, spot⟩ := a
        have hl0 := (hr 0 (by omega)).2.2
        have hc0 := (hr 0 (by omega)).1 0 _ (List.getElem?_eq_getElem (show 0 < (cells (r 0)).length by omega))
        have hspot : spot = none := by simpa [Addr.add] using World.cell?_spot hc0
        subst hspot
        have hlt := World.block_lt_of_cell? _ _ hc0
        simp only [Addr.add_lit] at hlt
        refine .inr ⟨ab, ao, rfl, hlt, fun i hi j u hu => ?_⟩
        have hi' : i < n := by simpa using hi
        simp only [List.getElem_map, List.getElem_range] at hu
        have := (hr i hi').1 j u hu
        simpa [Addr.add_lit] using this
    · simp only [List.mem_map, List.mem_range] at hy
      obtain ⟨i, hi, rfl⟩ := hy
      exact (hr i hi).2.1
set_option maxRecDepth 100000 in
/-- A snapshot by value. -/
theorem open_snap {r : Reach} {b0 : Nat} {v : Value} {d : DataW H} {ps : List MemPlace} (hval : Value.okWide Tryz.prog w r b0 26 v) (h : DataW.Trod enc Tryz.prog w base sp held 26 v d ps) :
    ∃ (s : SnapD) (A1 A2 A3 : Option Addr) (c1 c2 c3 : Nat), v = .agg #[.slice A1 s.nodes.length c1, .slice A2 s.loads.length c2, .slice A3 s.pods.length c3] ∧
      (s.nodes.length ≤ c1 ∧ c1 ≤ maxLen ∧ (A1 = none → c1 = 0) ∧ Recs 10 cellsN w w.heap.size A1 s.nodes ∧ ∀ a ∈ s.nodes, a.Ok) ∧
      (s.loads.length ≤ c2 ∧ c2 ≤ maxLen ∧ (A2 = none → c2 = 0) ∧ Recs 5 cellsL w w.heap.size A2 s.loads ∧ ∀ a ∈ s.loads, a.Ok) ∧
      (s.pods.length ≤ c3 ∧ c3 ≤ maxLen ∧ (A3 = none → c3 = 0) ∧ Recs 8 cellsP w w.heap.size A3 s.pods ∧ ∀ a ∈ s.pods, a.Ok) := by
  obtain ⟨v0, v1, v2, y0, y1, y2, n, rfl, _, _, h0, h1, h2⟩ := Go.Joins.open_agg3 Tryz.underlying26 (by kernel_rfl) Tryz.cellsS hval h
  obtain ⟨A1, c1, l1, rfl, p1⟩ := open_recs (Ok := NodeD.Ok) Tryz.underlying22 Tryz.cellsN (by decide) (fun _ _ _ hl h => node_of hl h) h0
  obtain ⟨A2, c2, l2, rfl, p2⟩ := open_recs (Ok := LoadD.Ok) Tryz.underlying23 Tryz.cellsL (by decide) (fun _ _ _ hl h => load_of hl h) h1
  obtain ⟨A3, c3, l3, rfl, p3⟩ := open_recs (Ok := PodD.Ok) Tryz.underlying24 Tryz.cellsP (by decide) (fun _ _ _ hl h => pod_of hl h) h2
  exact ⟨⟨l1, l2, l3⟩, A1, A2, A3, c1, c2, c3, rfl, p1, p2, p3⟩
set_option maxRecDepth 100000 in
/-- A spec by value. -/
theorem open_spec {r : Reach} {b0 : Nat} {v : Value} {d : DataW H} {ps : List MemPlace} (hval : Value.okWide Tryz.prog w r b0 29 v) (h : DataW.Trod enc Tryz.prog w base sp held 29 v d ps) :
    ∃ (x : SpecD) (A : Option Addr) (c : Nat), v = .agg #[.slice A x.wants.length c, .int .i64 x.preempts, .int .i64 x.shifts] ∧ I64 x.preempts ∧ I64 x.shifts ∧
      (x.wants.length ≤ c ∧ c ≤ maxLen ∧ (A = none → c = 0) ∧ Recs 6 cellsW w w.heap.size A x.wants ∧ ∀ a ∈ x.wants, a.Ok) := by
  obtain ⟨v0, v1, v2, y0, y1, y2, n, rfl, _, _, h0, h1, h2⟩ := Go.Joins.open_agg3 Tryz.underlying29 (by kernel_rfl) Tryz.cellsX hval h
  obtain ⟨A, c, l, rfl, p⟩ := open_recs (Ok := WantD.Ok) Tryz.underlying27 Tryz.cellsW (by decide) (fun _ _ _ hl h => want_of hl h) h0
  obtain ⟨k1, rfl, i1⟩ := int_of rfl h1
  obtain ⟨k2, rfl, i2⟩ := int_of rfl h2
  exact ⟨⟨l, k1, k2⟩, A, c, rfl, i1, i2, p⟩
end
end Go.Proofs.YtkipfalolfleaaaGreatDoor

/- What the package-level variable errors.errorType holds; a world that meets that; how a snapshot and a spec are read. -/
namespace Go.Proofs.YtkipfalolfleaaaGreatDoor
set_option linter.unusedSimpArgs false
open Go.ChangeShapes Go.WideShapes Go.RowKit

theorem Tryz.own : ownKnob Tryz.prog.godebug = none := by kernel_rfl
theorem Tryz.laidOut : laidOutB Tryz.prog = true := by kernel_rfl
theorem Tryz.et : Tryz.prog.globalNamed "errors.errorType" = some 0 := by kernel_rfl
def rtypeName : String := match Rows.laid_errors_errorType (H := Unit) with
  | .iface n _ => n
  | _ => ""
theorem Tryz.rt : (Tryz.prog.cutTypes.find? (·.1 == rtypeName)).map (·.2) = some 108 := by kernel_rfl
theorem Tryz.oneRow : ((List.range 220).filter fun t => Tryz.prog.rowNamed t [101, 114, 114, 111, 114]) = [44] := by kernel_rfl
theorem Tryz.typesSize : Tryz.prog.types.size = 220 := by kernel_rfl

/-- What the condition on the package-level variable gives a walk: its one cell. -/
theorem handle_of_laid {W : World} (h : laidMetH Tryz.prog [("errors.errorType", Rows.laid_errors_errorType)] W) : W.cell? ⟨0, 0, none⟩ = some (.iface 108 (.agg #[.pointer (some ⟨1, 44, none⟩)])) := by
  have h' : laidMet Tryz.prog [] W ∧ handlesMet Tryz.prog [("errors.errorType", Rows.laid_errors_errorType)] W := h
  obtain ⟨name, u, ty, e1, e2, e3, e4, e5⟩ := h'.2 _ (List.mem_singleton.2 rfl)
  have en : name = [101, 114, 114, 111, 114] := (Option.some.inj e1).symm
  subst en
  obtain rfl := Option.some.inj (Tryz.rt.symm.trans e2)
  have hm : ty ∈ (List.range 220).filter fun t => Tryz.prog.rowNamed t [101, 114, 114, 111, 114] := List.mem_filter.2 ⟨List.mem_range.2 (by rw [← Tryz.typesSize]; exact e3), e4⟩
  rw [Tryz.oneRow] at hm
  obtain rfl := List.mem_singleton.1 hm
  have hh : typeHandle Tryz.prog 44 = .pointer (some ⟨1, 44, none⟩) := by kernel_rfl
  rw [hh] at e5
  simpa using World.var?_cell Tryz.et e5 0

/-- A world that meets the condition. -/
noncomputable def laidWorld (os : Os) : World :=
  let w0 := World.holding Tryz.prog os ⟨#[], #[], []⟩
  { w0 with heap := w0.heap.modify 0 fun
      | .cells _ t frozen => .cells #[.iface 108 (.agg #[.pointer (some ⟨1, 44, none⟩)])] t frozen
      | o => o }
theorem laidWorld_met (os : Os) (args : Array Value) : laidMetH Tryz.prog [("errors.errorType", Rows.laid_errors_errorType)] ((laidWorld os).forCall (fun _ _ => 0) ⟨#[], args, []⟩).memory :=
  laidMetH_of_parts (laidMet_nil _ _) (by kernel_rfl)
end Go.Proofs.YtkipfalolfleaaaGreatDoor

/- The reference's functions of layer 3 that look for one, and its small functions. -/
namespace Go.Proofs.YtkipfalolfleaaaGreatDoor
set_option linter.unusedSimpArgs false
open Go.RowKit
set_option linter.unusedVariables false

theorem ret_bool {a b : Bool} (h : a = b) : Ending.returned (.bool a) = .returned (.bool b) := by rw [h]
set_option maxHeartbeats 800000 in
theorem few_any (A1 A2 A3 : Option Addr) (n1 c1 n2 c2 n3 c3 : Nat) (w : World) :
    Calls Tryz.prog 10 #[.agg #[.slice A1 n1 c1, .slice A2 n2 c2, .slice A3 n3 c3]] w fun e w' => e = .returned (.bool (decide (n1 ≤ 40 ∧ n2 ≤ 40 ∧ n3 ≤ 40))) ∧ Below w.heap.size w w' := by
  by_cases h1 : n1 ≤ 40
  · by_cases h2 : n2 ≤ 40
    · by_cases h3 : n3 ≤ 40
      · have HE := Lib.hid (show decide (n1 ≤ 40 ∧ n2 ≤ 40 ∧ n3 ≤ 40) = true by simp [h1, h2, h3])
        have hd : decide ((n3 : Int) ≤ 40) = true := decide_eq_true (by omega)
        go_enter Tryz.func10, Tryz.ntmps10
        go_wp2
        go_ret
        exact ⟨ret_bool HE.out.symm, (Below.refl _ _).alloc (Nat.le_refl _) _⟩
      · have HE := Lib.hid (show decide (n1 ≤ 40 ∧ n2 ≤ 40 ∧ n3 ≤ 40) = false by simp; omega)
        have hd : decide ((n3 : Int) ≤ 40) = false := decide_eq_false (by omega)
        go_enter Tryz.func10, Tryz.ntmps10
        go_wp2
        go_ret
        exact ⟨ret_bool HE.out.symm, (Below.refl _ _).alloc (Nat.le_refl _) _⟩
    · have HE := Lib.hid (show decide (n1 ≤ 40 ∧ n2 ≤ 40 ∧ n3 ≤ 40) = false by simp; omega)
      have hd : decide ((n2 : Int) ≤ 40) = false := decide_eq_false (by omega)
      go_enter Tryz.func10, Tryz.ntmps10
      go_wp2
      go_ret
      exact ⟨ret_bool HE.out.symm, (Below.refl _ _).alloc (Nat.le_refl _) _⟩
  · have HE := Lib.hid (show decide (n1 ≤ 40 ∧ n2 ≤ 40 ∧ n3 ≤ 40) = false by simp; omega)
    have hd : decide ((n1 : Int) ≤ 40) = false := decide_eq_false (by omega)
    go_enter Tryz.func10, Tryz.ntmps10
    go_wp2
    go_ret
    exact ⟨ret_bool HE.out.symm, (Below.refl _ _).alloc (Nat.le_refl _) _⟩
end Go.Proofs.YtkipfalolfleaaaGreatDoor

/- dunnageref01.Fits, dunnagelaw00.Code and Told. -/
namespace Go.Proofs.YtkipfalolfleaaaGreatDoor
set_option linter.unusedSimpArgs false
open Go.RowKit
set_option linter.unusedVariables false

abbrev aggV (x : V4) : Value := .agg #[.int .u64 x.a, .int .u64 x.b, .int .u64 x.c, .int .u64 x.d]
theorem below_two (w : World) (o o' : Obj) : Below w.heap.size w ((w.alloc o).alloc o') := ((Below.refl _ _).alloc (Nat.le_refl _) o).alloc (by simp) o'
end Go.Proofs.YtkipfalolfleaaaGreatDoor

/- dunnageref03.Check. -/
namespace Go.Proofs.YtkipfalolfleaaaGreatDoor
set_option linter.unusedSimpArgs false
open Go.RowKit
set_option linter.unusedVariables false

end Go.Proofs.YtkipfalolfleaaaGreatDoor

/- '==' and '!=' on amounts. -/
namespace Go.Proofs.YtkipfalolfleaaaGreatDoor
set_option linter.unusedSimpArgs false
open Go.RowKit
set_option linter.unusedVariables false

theorem num_eqIn (d : Nat) (a b : Int) (w : World) : (Op.equalIn (d + 1) 36 (.int .u64 a) (.int .u64 b)).run Tryz.prog w = .ok (a == b) w := by
  simp [Op.equalIn, run_underlying Tryz.underlying36]
theorem part_num (cs : Array Value) (j : Nat) (v : Value) (h : cs[j]? = some v) (w : World) : (part 36 cs j).run Tryz.prog w = .ok v w := by
  have hf : ∀ w : World, (isAgg 36).run Tryz.prog w = .ok false w := fun _ => by kernel_rfl
  simp [part, hf, h]
theorem vec_eqlIn (d : Nat) (a0 a1 a2 a3 b0 b1 b2 b3 : Int) (w : World) :
    (Op.equalIn (d + 2) 38 (.agg #[.int .u64 a0, .int .u64 a1, .int .u64 a2, .int .u64 a3]) (.agg #[.int .u64 b0, .int .u64 b1, .int .u64 b2, .int .u64 b3])).run Tryz.prog w
      = .ok (a0 == b0 && (a1 == b1 && (a2 == b2 && a3 == b3))) w := by
  obtain ⟨i, hi⟩ := Option.isSome_iff_exists.1 (show (Tryz.prog.info? 36).isSome = true by kernel_rfl)
  rw [run_equalIn_array w (d + 1) _ _ Tryz.underlying38 hi]
  have hc : Tryz.prog.cellsOf 36 = 1 := by kernel_rfl
  rw [hc, show List.range 4 = [0, 1, 2, 3] from rfl]
  simp only [Op.eqItems, Sem.run_bind, Nat.mul_one]
  rw [part_num #[.int .u64 a0, .int .u64 a1, .int .u64 a2, .int .u64 a3] 0 (.int .u64 a0) rfl]
  simp only [Result.andThen_ok]
  rw [part_num _ 0 (.int .u64 b0) rfl]
  simp only [Result.andThen_ok, num_eqIn]
  cases h0 : a0 == b0
  · simp
  simp only [Bool.not_true, Bool.false_eq_true, if_false, Sem.run_bind, Bool.true_and]
  rw [part_num _ 1 (.int .u64 a1) rfl]
  simp only [Result.andThen_ok]
  rw [part_num _ 1 (.int .u64 b1) rfl]
  simp only [Result.andThen_ok, num_eqIn]
  cases h1 : a1 == b1
  · simp
  simp only [Bool.not_true, Bool.false_eq_true, if_false, Sem.run_bind, Bool.true_and]
  rw [part_num _ 2 (.int .u64 a2) rfl]
  simp only [Result.andThen_ok]
  rw [part_num _ 2 (.int .u64 b2) rfl]
  simp only [Result.andThen_ok, num_eqIn]
  cases h2 : a2 == b2
  · simp
  simp only [Bool.not_true, Bool.false_eq_true, if_false, Sem.run_bind, Bool.true_and]
  rw [part_num _ 3 (.int .u64 a3) rfl]
  simp only [Result.andThen_ok]
  rw [part_num _ 3 (.int .u64 b3) rfl]
  simp only [Result.andThen_ok, num_eqIn]
  cases h3 : a3 == b3 <;> simp
theorem vec_eql (a0 a1 a2 a3 b0 b1 b2 b3 : Int) (w : World) :
    (binOp .eql 38 (.agg #[.int .u64 a0, .int .u64 a1, .int .u64 a2, .int .u64 a3]) (.agg #[.int .u64 b0, .int .u64 b1, .int .u64 b2, .int .u64 b3])).run Tryz.prog w
      = .ok (.bool (a0 == b0 && (a1 == b1 && (a2 == b2 && a3 == b3)))) w := by
  simp only [binOp]
  simp [Op.equal, Op.maxDepth, vec_eqlIn 9998]
end Go.Proofs.YtkipfalolfleaaaGreatDoor

/- '!=' of a node, a load, a want and itself. -/
namespace Go.Proofs.YtkipfalolfleaaaGreatDoor
set_option linter.unusedSimpArgs false
open Go.RowKit
set_option linter.unusedVariables false

theorem part_int (cs : Array Value) (j : Nat) (v : Value) (h : cs[j]? = some v) (w : World) : (part 3 cs j).run Tryz.prog w = .ok v w := by
  have hf : ∀ w : World, (isAgg 3).run Tryz.prog w = .ok false w := fun _ => by kernel_rfl
  simp [part, hf, h]
end Go.Proofs.YtkipfalolfleaaaGreatDoor

/- dunnageref03.Fair. -/
namespace Go.Proofs.YtkipfalolfleaaaGreatDoor
set_option linter.unusedSimpArgs false
open Go.RowKit
set_option linter.unusedVariables false
set_option linter.unusedSimpArgs false

theorem below_draws {B : Nat} {a w : World} (h : Below B a w) (n : Nat) : Below B a (w.drewN n) := ⟨h.os, h.tape, h.output, h.size, h.block⟩
theorem box2_cells {w wr : World} {x y z x' y' z' : Value} {t t' : TypeId} (hb : Below (w.heap.size + 2) ((w.alloc (.cells #[x, y, z] t)).alloc (.cells #[x', y', z'] t')) wr) :
    (wr.cell? ⟨w.heap.size, 0, none⟩ = some x ∧ wr.cell? ⟨w.heap.size, 1, none⟩ = some y ∧ wr.cell? ⟨w.heap.size, 2, none⟩ = some z) ∧
    (wr.cell? ⟨w.heap.size + 1, 0, none⟩ = some x' ∧ wr.cell? ⟨w.heap.size + 1, 1, none⟩ = some y' ∧ wr.cell? ⟨w.heap.size + 1, 2, none⟩ = some z') := by
  refine ⟨⟨?_, ?_, ?_⟩, ?_, ?_, ?_⟩
  all_goals
    rw [hb.cell (by simp)]
    simp
end Go.Proofs.YtkipfalolfleaaaGreatDoor

/- errors.As and errors.Is at the errors that package wire tells: a nil error, and a *api.Spot. -/
namespace Go.Proofs.YtkipfalolfleaaaGreatDoor
set_option linter.unusedSimpArgs false
open Go.RowKit Go.Extern.Stop Go.Stop Go.Extern
set_option linter.unusedVariables false

/-- errors.As(nil, target). -/
theorem as_nil (t : Value) (w : World) :
    Calls Tryz.prog 24 #[.nilIface, t] w fun e w' => e = .returned (.bool false) ∧ w' = w := by
  go_enter Tryz.func24, Tryz.ntmps24
  go_wp2
  go_ret
  exact ⟨rfl, rfl⟩

/-! ### CLOSED FACTS ON THE MODEL's ENTRIES FOR internal/reflectlite, at this program's types: 51: *api.Spot, 53: **api.Spot, 28: error, 73: reflectlite's rtype; 1: how many package-level variables the dump has -/
theorem Tryz.methodKind (h : Value) (w : World) : (Go.method 320 108 (.agg #[h]) "Kind").run Tryz.prog w = .ok (141, h) w := by kernel_rfl
/-! ### THE ENTRIES THAT READ OR WRITE MEMORY: laws with a premise on the cell (after Derived/Lib/ReflectliteSlice.lean's manner: each unfolding a lemma of its own, by rfl) -/
theorem rlm (z : Sem Value) (f : TypeId → Addr → Nat → Nat → Sem Value) (v : Value) :
    ReflectliteValue.method z f #[v] = (do match ← ReflectliteValue.parts v with | none => z | some (t, a, fl) => f t a fl (fl % 32)) := rfl
theorem Tryz.methodElem (h : Value) (w : World) : (Go.method 320 108 (.agg #[h]) "Elem").run Tryz.prog w = .ok (151, .agg #[h]) w := by kernel_rfl
theorem Tryz.methodImplements (h : Value) (w : World) : (Go.method 320 108 (.agg #[h]) "Implements").run Tryz.prog w = .ok (152, .agg #[h]) w := by kernel_rfl
theorem Tryz.methodAssignableTo (h : Value) (w : World) : (Go.method 320 108 (.agg #[h]) "AssignableTo").run Tryz.prog w = .ok (149, .agg #[h]) w := by kernel_rfl
theorem Tryz.typeOfSpot (v : Value) (w : World) : (ReflectliteType.typeOf #[.iface 135 v]).run Tryz.prog w = .ok (.iface 108 (.agg #[.pointer (some ⟨1, 135, none⟩)])) w := by kernel_rfl
end Go.Proofs.YtkipfalolfleaaaGreatDoor

/- errors.Is of a *api.Spot and its own Code; dunnagelaw00.Is of such an error. -/
namespace Go.Proofs.YtkipfalolfleaaaGreatDoor
set_option linter.unusedSimpArgs false
open Go.RowKit Go.Extern.Stop Go.Stop Go.Extern
set_option linter.unusedVariables false

theorem Tryz.hasUnwrapSpot (v : Value) (xT : TypeId) (w : World) : (Instr.typeAssert (.iface 135 v) xT 116 true).run Tryz.prog w = .ok (.tuple #[.iface 135 v, .bool true]) w := run_typeAssert_hasB Tryz.underlying116 (by kernel_rfl) v xT w
theorem Tryz.methodUnwrap (v : Value) (w : World) : (Go.method 320 135 v "Unwrap").run Tryz.prog w = .ok (160, v) w := by kernel_rfl
end Go.Proofs.YtkipfalolfleaaaGreatDoor

/- errors.As and dunnagelaw00.Is of a Spot: what they tell, and what stays. -/
namespace Go.Proofs.YtkipfalolfleaaaGreatDoor
set_option linter.unusedSimpArgs false
open Go.RowKit
set_option linter.unusedVariables false

end Go.Proofs.YtkipfalolfleaaaGreatDoor

/- dunnagelaw00.Code and Told, at the errors that a layer tells: none, a Code itself, a Spot. -/
namespace Go.Proofs.YtkipfalolfleaaaGreatDoor
set_option linter.unusedSimpArgs false
open Go.RowKit
set_option linter.unusedVariables false

end Go.Proofs.YtkipfalolfleaaaGreatDoor

/- What a call of layer 3 that tells an error comes to; the law ClusterChecks, walked, from what its callees come to. -/
namespace Go.Proofs.YtkipfalolfleaaaGreatDoor
set_option linter.unusedSimpArgs false
open Go.RowKit
set_option linter.unusedVariables false

/-- The error's number and its place (-1: itself) as an error: none, a Code itself, or a Spot of the call's own. -/
def ErrIs (p : Int × Int) (B : Nat) (w' : World) (u : Value) : Prop :=
  (p = (0, -1) ∧ u = .nilIface) ∨ (p.2 = -1 ∧ 1 ≤ p.1 ∧ p.1 ≤ 17 ∧ u = .iface 67 (.int .i64 p.1)) ∨
  ∃ k g : Nat, p.2 = k ∧ u = .iface 135 (.pointer (some ⟨g, 0, none⟩)) ∧ B ≤ g ∧ w'.heap[g]? = some (.cells #[.int .i64 (k : Int), .int .i64 p.1] 137 (0, 0))
def ErrTo (p : Int × Int) (w : World) (e : Ending) (w' : World) : Prop := ∃ u, e = .returned u ∧ ErrIs p w.heap.size w' u ∧ Below w.heap.size w w'
abbrev Laid (w : World) : Prop := w.cell? ⟨0, 0, none⟩ = some (.iface 108 (.agg #[.pointer (some ⟨1, 44, none⟩)]))
theorem Laid.below {w w' : World} {B : Nat} (h : Laid w) (hb : Below B w w') (hB : w.heap.size ≤ B) : Laid w' :=
  (hb.cell (p := ⟨0, 0, none⟩) (Nat.lt_of_lt_of_le (World.block_lt_of_cell? w _ h) hB)).trans h

theorem ErrIs.below {p : Int × Int} {B : Nat} {w w' : World} {u : Value} (h : ErrIs p B w u) (hb : Below w.heap.size w w') : ErrIs p B w' u := by
  rcases h with h | h | ⟨k, g, h1, h2, h3, h4⟩
  · exact .inl h
  · exact .inr (.inl h)
  · exact .inr (.inr ⟨k, g, h1, h2, h3, (hb.block g (Array.getElem?_eq_some_iff.1 h4).1).trans h4⟩)

end Go.Proofs.YtkipfalolfleaaaGreatDoor

/- The program's small functions of layer 3: within, isCount, cmp.Compare, cmp.Or, spot, the Ids of records. -/
namespace Go.Proofs.YtkipfalolfleaaaGreatDoor
set_option linter.unusedSimpArgs false
open Go.RowKit
set_option linter.unusedVariables false

theorem isNaN_any (n : Int) (w : World) : Calls Tryz.prog 86 #[.int .i64 n] w fun e w' => e = .returned (.bool false) ∧ w = w' := by
  have hd : (n != n) = false := by simp
  go_enter Tryz.func86, Tryz.ntmps86
  go_wp2
  go_ret
  exact ⟨rfl, rfl⟩
def cmpI (a b : Int) : Int := if a < b then -1 else if b < a then 1 else 0
theorem compare_any (a b : Int) (w : World) : Calls Tryz.prog 65 #[.int .i64 a, .int .i64 b] w fun e w' => e = .returned (.int .i64 (cmpI a b)) ∧ w = w' := by
  by_cases h1 : a < b
  · have HE := Lib.hid (show cmpI a b = -1 by simp [cmpI, h1])
    go_enter Tryz.func65, Tryz.ntmps65
    go_wp2_with (go_at_call 86; refine (isNaN_any _ _).mono ?_; rintro e w' ⟨rfl, rfl⟩)
    go_ret
    exact ⟨ret_int HE.out.symm, rfl⟩
  · by_cases h2 : b < a
    · have HE := Lib.hid (show cmpI a b = 1 by simp [cmpI, h1, h2])
      go_enter Tryz.func65, Tryz.ntmps65
      go_wp2_with (go_at_call 86; refine (isNaN_any _ _).mono ?_; rintro e w' ⟨rfl, rfl⟩)
      go_ret
      exact ⟨ret_int HE.out.symm, rfl⟩
    · have HE := Lib.hid (show cmpI a b = 0 by simp [cmpI, h1, h2])
      go_enter Tryz.func65, Tryz.ntmps65
      go_wp2_with (go_at_call 86; refine (isNaN_any _ _).mono ?_; rintro e w' ⟨rfl, rfl⟩)
      go_ret
      exact ⟨ret_int HE.out.symm, rfl⟩
def orI (a b : Int) : Int := if a = 0 then b else a
abbrev aggN (x : NodeD) : Value := .agg #[.int .i64 x.id, .int .i64 x.zone, .int .u64 x.cap.a, .int .u64 x.cap.b, .int .u64 x.cap.c, .int .u64 x.cap.d, .int .u64 x.held.a, .int .u64 x.held.b, .int .u64 x.held.c, .int .u64 x.held.d]
theorem idN_any (x : NodeD) (w : World) : Calls Tryz.prog 47 #[aggN x] w fun e w' => e = .returned (.int .i64 x.id) ∧ Below w.heap.size w w' := by
  go_enter Tryz.func47, Tryz.ntmps47
  go_wp2
  go_ret
  exact ⟨rfl, (Below.refl _ _).alloc (Nat.le_refl _) _⟩

abbrev aggL (x : LoadD) : Value := .agg #[.int .i64 x.id, .bool x.apart, .int .i64 x.skew, .int .i64 x.min, .int .i64 x.max]
theorem idL_any (x : LoadD) (w : World) : Calls Tryz.prog 110 #[aggL x] w fun e w' => e = .returned (.int .i64 x.id) ∧ Below w.heap.size w w' := by
  go_enter Tryz.func110, Tryz.ntmps110
  go_wp2
  go_ret
  exact ⟨rfl, (Below.refl _ _).alloc (Nat.le_refl _) _⟩

abbrev aggP (x : PodD) : Value := .agg #[.int .i64 x.id, .int .i64 x.load, .int .i64 x.prio, .int .u64 x.req.a, .int .u64 x.req.b, .int .u64 x.req.c, .int .u64 x.req.d, .int .i64 x.node]
abbrev aggW (x : WantD) : Value := .agg #[.int .i64 x.pod, .int .u64 x.req.a, .int .u64 x.req.b, .int .u64 x.req.c, .int .u64 x.req.d, .bool x.stay]
theorem idW_any (x : WantD) (w : World) : Calls Tryz.prog 67 #[aggW x] w fun e w' => e = .returned (.int .i64 x.pod) ∧ Below w.heap.size w w' := by
  go_enter Tryz.func67, Tryz.ntmps67
  go_wp2
  go_ret
  exact ⟨rfl, (Below.refl _ _).alloc (Nat.le_refl _) _⟩

end Go.Proofs.YtkipfalolfleaaaGreatDoor

/- Records in a row of the call's own read as these records. -/
namespace Go.Proofs.YtkipfalolfleaaaGreatDoor
set_option linter.unusedSimpArgs false
open Go.RowKit
set_option linter.unusedVariables false

theorem flatMap_get {α : Type} {size : Nat} {cells : α → List Value} (hc : ∀ x, (cells x).length = size) : ∀ {xs : List α} {i j : Nat} (hi : i < xs.length), j < size → (xs.flatMap cells)[i * size + j]? = (cells xs[i])[j]?
  | [], i, j, hi, _ => by simp at hi
  | x :: r, 0, j, _, hj => by
    rw [List.flatMap_cons, Nat.zero_mul, Nat.zero_add, List.getElem?_append_left (by rw [hc]; exact hj)]; rfl
  | x :: r, i + 1, j, hi, hj => by
    rw [List.flatMap_cons, List.getElem?_append_right (by rw [hc, Nat.add_one_mul]; omega), hc]
    have e : (i + 1) * size + j - size = i * size + j := by rw [Nat.add_one_mul]; omega
    rw [e, flatMap_get hc (xs := r) (by simpa using hi) hj]; rfl
theorem recs_of_own {α : Type} {size : Nat} {cells : α → List Value} (hc : ∀ x, (cells x).length = size) {w : World} {B n : Nat} {e : TypeId} {v : Value} {xs : List α} (hn : n = xs.length) (h : w.ownsRow B e size v n (xs.flatMap cells)) :
    ∃ A c, v = .slice A n c ∧ n ≤ c ∧ c ≤ maxLen ∧ (A = none → c = 0) ∧ Recs size cells w w.heap.size A xs := by
  subst hn
  have hcs := fun g hg => h.cells (g := g) hg
  rcases h.2 with ⟨hv, h0⟩ | ⟨g, cap, cur, hv, hb, hg, hnc, hm, _⟩
  · exact ⟨none, 0, by rw [hv, h0], by omega, by decide, fun _ => rfl, .inl (List.eq_nil_of_length_eq_zero h0)⟩
  · refine ⟨_, cap, hv, hnc, hm, (by intro h; cases h), .inr ⟨g, 0, rfl, (Array.getElem?_eq_some_iff.1 hg).1, fun i hi j u hu => ?_⟩⟩
    have hj : j < size := by have := (List.getElem?_eq_some_iff.1 hu).1; rw [hc] at this; exact this
    have := hcs g (by rw [hv]; rfl) (i * size + j) u (by rw [flatMap_get hc hi hj]; exact hu)
    rw [Addr.add_lit] at this
    simpa using this
/-- Records as they are told: a slice that reads as these. -/
def Out {α : Type} (size : Nat) (cells : α → List Value) (w : World) (xs : List α) (A : Option Addr) (c : Nat) : Prop := xs.length ≤ c ∧ c ≤ maxLen ∧ (A = none → c = 0) ∧ Recs size cells w w.heap.size A xs
theorem Out.nil {α : Type} {size : Nat} {cells : α → List Value} {w : World} {xs : List α} (h : xs = []) : Out size cells w xs none 0 := ⟨by rw [h]; exact Nat.le_refl _, by decide, fun _ => rfl, .inl h⟩
theorem out_of_own {α : Type} {size : Nat} {cells : α → List Value} (hc : ∀ x, (cells x).length = size) {w : World} {B n c : Nat} {e : TypeId} {A : Option Addr} {xs : List α} (hn : n = xs.length) (h : w.ownsRow B e size (.slice A n c) n (xs.flatMap cells)) : Out size cells w xs A c := by
  obtain ⟨A', c', e1, p1, p2, p3, p4⟩ := recs_of_own hc hn h
  injection e1 with e1 _ e2
  subst e1 e2 hn
  exact ⟨p1, p2, p3, p4⟩
theorem Out.recs {α : Type} {size : Nat} {cells : α → List Value} {w : World} {xs : List α} {A : Option Addr} {c : Nat} (h : Out size cells w xs A c) : Recs size cells w w.heap.size A xs := h.2.2.2
end Go.Proofs.YtkipfalolfleaaaGreatDoor

/- Plain mathematics of layer 4: records as numbers, one behind the other, and back; no program stands in it. -/
namespace Go.Proofs.YtkipfalolfleaaaGreatDoor
set_option linter.unusedSimpArgs false

structure MoveD where
  kind : Int
  pod : Int
  node : Int
  over : Int

/-- A kind of record: how many numbers it has, what they are, and back; which numbers may be one's. -/
structure Kind (α : Type) where
  size : Nat
  nums : α → List Int
  get : List Int → α
  ok : List Int → Bool
  len : ∀ x, (nums x).length = size
  back : ∀ x, get (nums x) = x
  once : ∀ c, c.length = size → ok c = true → nums (get c) = c

section
variable {α : Type} (K : Kind α)
end

end Go.Proofs.YtkipfalolfleaaaGreatDoor

/- The cells of a move. -/
namespace Go.Proofs.YtkipfalolfleaaaGreatDoor
set_option linter.unusedSimpArgs false

abbrev aggM (x : MoveD) : Value := .agg #[.int .i64 x.kind, .int .i64 x.pod, .int .i64 x.node, .int .i64 x.over]
def cellsM (x : MoveD) : List Value := [.int .i64 x.kind, .int .i64 x.pod, .int .i64 x.node, .int .i64 x.over]
end Go.Proofs.YtkipfalolfleaaaGreatDoor

/- Plain mathematics of states; '!=' of any two pods. -/
namespace Go.Proofs.YtkipfalolfleaaaGreatDoor
set_option linter.unusedSimpArgs false
open Go.RowKit
set_option linter.unusedVariables false

structure StateD where
  pods : List PodD
  preempts : Int
  shifts : Int
def vecEq (x y : V4) : Bool := x.a == y.a && (x.b == y.b && (x.c == y.c && x.d == y.d))
/-- The first pod of an Id. -/
def podAt (id : Int) : List PodD → Option PodD
  | [] => none
  | x :: r => if x.id = id then some x else podAt id r
theorem podAt_none {id : Int} : ∀ {l : List PodD} {k : Int}, 0 ≤ k → (podAt id l = none ↔ place PodD.id id l k < 0)
  | [], k, _ => by simp [podAt, place]
  | x :: r, k, hk => by
    by_cases h : x.id = id
    · simp [podAt, place, h]; omega
    · simp only [podAt, place, if_neg h]; exact podAt_none (by omega)
theorem place_or {α : Type} {f : α → Int} {id : Int} : ∀ (r : List α) (k : Int), 0 ≤ k → place f id r k < 0 ∨ k ≤ place f id r k
  | [], _, _ => by simp [place]
  | x :: r, k, hk => by
    simp only [place]
    split
    · right; omega
    · rcases place_or r (k + 1) (by omega) with h | h
      · exact .inl h
      · exact .inr (by omega)
theorem podAt_some {id : Int} : ∀ {l : List PodD} {k : Int} {i : Nat} (hi : i < l.length), place PodD.id id l k = k + i → 0 ≤ k → podAt id l = some l[i]
  | [], _, _, hi, _, _ => by simp at hi
  | x :: r, k, i, hi, h, hk => by
    by_cases hx : x.id = id
    · simp only [place, if_pos hx] at h
      obtain rfl : i = 0 := by omega
      simp [podAt, hx]
    · simp only [place, if_neg hx] at h
      cases i with
      | zero =>
        have := (place_neg (f := PodD.id) (id := id) (l := r) (k := k + 1) (by omega))
        have h2 := place_ge (f := PodD.id) (id := id) (l := r) (k := k + 1) (by omega)
        have h3 : place PodD.id id r (k + 1) < 0 ∨ k + 1 ≤ place PodD.id id r (k + 1) := place_or r (k + 1) (by omega)
        omega
      | succ i =>
        simp only [podAt, if_neg hx, List.getElem_cons_succ]
        exact podAt_some (by simpa using hi) (by rw [h]; omega) (by omega)
/-- Is a want met? -/
def metD (l : List PodD) (w : WantD) : Bool :=
  match podAt w.pod l with
  | none => false
  | some p => if w.stay then p.node != 0 && vecEq p.req w.req else p.node == 0
def goalD (x : List WantD) (l : List PodD) : Bool := x.all (metD l)
theorem goal_at {x : List WantD} {l : List PodD} {k : Nat} {b : Bool} (h : k < x.length) {w : WantD} (hx : x[k] = w) (hg : goalD (x.drop k) l = b) :
    (metD l w = false → b = false) ∧ (metD l w = true → goalD (x.drop (k + 1)) l = b) := by
  rw [List.drop_eq_getElem_cons h, hx, goalD, List.all_cons] at hg
  constructor
  · intro e; rw [e] at hg; exact hg.symm
  · intro e; rw [e, Bool.true_and] at hg; exact hg
theorem goal_end {x : List WantD} {l : List PodD} {k : Nat} {b : Bool} (h : x.length ≤ k) (hg : goalD (x.drop k) l = b) : b = true := by
  rw [List.drop_of_length_le h] at hg
  exact hg.symm
theorem met_none {l : List PodD} {w : WantD} (h : place PodD.id w.pod l 0 < 0) : metD l w = false := by
  rw [metD, (podAt_none (l := l) (k := 0) (by omega)).2 h]
theorem met_some {l : List PodD} {w : WantD} {i : Nat} (hi : i < l.length) (h : place PodD.id w.pod l 0 = i) {p : PodD} (hp : l[i] = p) : metD l w = if w.stay then p.node != 0 && vecEq p.req w.req else p.node == 0 := by
  rw [metD, podAt_some (l := l) (k := 0) hi (by rw [h]; omega) (by omega), hp]

theorem eqFields_cons {d : Nat} {xs ys : Array Value} {f : Field} {fs : List Field} {a b : Value} {c : Bool} {w : World} (hn : f.name ≠ "_") (ha : (part f.type xs f.offset).run Tryz.prog w = .ok a w) (hb : (part f.type ys f.offset).run Tryz.prog w = .ok b w) (he : (Op.equalIn d f.type a b).run Tryz.prog w = .ok c w) {r : Bool} (hr : (Op.eqFields d xs ys fs).run Tryz.prog w = .ok r w) :
    (Op.eqFields d xs ys (f :: fs)).run Tryz.prog w = .ok (c && r) w := by
  cases c <;> simp [Op.eqFields, hn, ha, hb, he, hr]
theorem int_eqIn2 (d : Nat) (a b : Int) (w : World) : (Op.equalIn (d + 1) 3 (.int .i64 a) (.int .i64 b)).run Tryz.prog w = .ok (a == b) w := by
  simp [Op.equalIn, run_underlying Tryz.underlying3]
theorem vec_neq (x y : V4) (w : World) : (binOp .neq 38 (aggV x) (aggV y)).run Tryz.prog w = .ok (.bool (!vecEq x y)) w := by
  simp only [binOp]
  simp [Op.equal, Op.maxDepth, vec_eqlIn 9998, vecEq]
theorem vec_is (x y : V4) (w : World) : (binOp .eql 38 (aggV x) (aggV y)).run Tryz.prog w = .ok (.bool (vecEq x y)) w := vec_eql _ _ _ _ _ _ _ _ w
end Go.Proofs.YtkipfalolfleaaaGreatDoor

/- How a state is read as data; five arguments. -/
namespace Go.Proofs.YtkipfalolfleaaaGreatDoor
set_option linter.unusedSimpArgs false
open Go.ChangeShapes Go.WideShapes Go.ChangeAt Go.RowKit

theorem Tryz.cellsT : Tryz.prog.cellsOf 31 = 3 := by kernel_rfl
section
variable {H : Type} {enc : TypeId × Value → H} {w : World} {base : Nat} {sp : Nat → Bool} {held : Bool}
set_option maxRecDepth 100000 in
/-- A state by value. -/
theorem open_state {r : Reach} {b0 : Nat} {v : Value} {d : DataW H} {ps : List MemPlace} (hval : Value.okWide Tryz.prog w r b0 31 v) (h : DataW.Trod enc Tryz.prog w base sp held 31 v d ps) :
    ∃ (t : StateD) (A : Option Addr) (c : Nat), v = .agg #[.slice A t.pods.length c, .int .i64 t.preempts, .int .i64 t.shifts] ∧ I64 t.preempts ∧ I64 t.shifts ∧
      (t.pods.length ≤ c ∧ c ≤ maxLen ∧ (A = none → c = 0) ∧ Recs 8 cellsP w w.heap.size A t.pods ∧ ∀ a ∈ t.pods, a.Ok) := by
  obtain ⟨v0, v1, v2, y0, y1, y2, n, rfl, _, _, h0, h1, h2⟩ := Go.Joins.open_agg3 Tryz.underlying31 (by kernel_rfl) Tryz.cellsT hval h
  obtain ⟨A, c, l, rfl, p⟩ := open_recs (Ok := PodD.Ok) Tryz.underlying24 Tryz.cellsP (by decide) (fun _ _ _ hl h => pod_of hl h) h0
  obtain ⟨k1, rfl, i1⟩ := int_of rfl h1
  obtain ⟨k2, rfl, i2⟩ := int_of rfl h2
  exact ⟨⟨l, k1, k2⟩, A, c, rfl, i1, i2, p⟩
end
section
variable {H : Type} {enc : TypeId × Value → H} {P : Program} {w : World} {base : Nat} {spare : Nat → Bool} {held : Bool}
end
end Go.Proofs.YtkipfalolfleaaaGreatDoor

namespace Go.Proofs.YtkipfalolfleaaaGreatDoor
set_option linter.unusedSimpArgs false
open Go.ChangeShapes Go.WideShapes Go.ChangeAt Go.RowKit

theorem Tryz.cellsMv : Tryz.prog.cellsOf 33 = 4 := by kernel_rfl
section
variable {H : Type} {enc : TypeId × Value → H} {w : World} {base : Nat} {sp : Nat → Bool} {held : Bool}
set_option maxRecDepth 100000 in
/-- A move by value. -/
theorem open_move {r : Reach} {b0 : Nat} {v : Value} {d : DataW H} {ps : List MemPlace} (hval : Value.okWide Tryz.prog w r b0 33 v) (h : DataW.Trod enc Tryz.prog w base sp held 33 v d ps) :
    ∃ m : MoveD, v = aggM m ∧ I64 m.kind ∧ I64 m.pod ∧ I64 m.node ∧ I64 m.over := by
  obtain ⟨v0, v1, v2, v3, y0, y1, y2, y3, n, rfl, _, _, h0, h1, h2, h3⟩ := Go.Joins.open_agg4 Tryz.underlying33 (by kernel_rfl) Tryz.cellsMv hval h
  obtain ⟨k0, rfl, i0⟩ := int_of rfl h0
  obtain ⟨k1, rfl, i1⟩ := int_of rfl h1
  obtain ⟨k2, rfl, i2⟩ := int_of rfl h2
  obtain ⟨k3, rfl, i3⟩ := int_of rfl h3
  exact ⟨⟨k0, k1, k2, k3⟩, rfl, i0, i1, i2, i3⟩
end
end Go.Proofs.YtkipfalolfleaaaGreatDoor
