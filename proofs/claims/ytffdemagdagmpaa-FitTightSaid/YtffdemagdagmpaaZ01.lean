/- Joined texts, part 1: CM CA CR WM CB CC CD CE CF E K Is Told CG DA FA VecA. -/
import Derived.KernelRfl
import Derived.Test.YtffdemagdagmpaaRows
import Derived.WalkKit
import Derived.WalkSpells
import Derived.WalkLawsBesides
import Derived.Lib.Hide
import Derived.OwnWalk
import Derived.ChangeSame
import Derived.RowKit
import Derived.RowKitTokens
import Derived.Carry
import Derived.Deep.Slices
import Derived.Laws.IdiomArrays
import Derived.Lib.SmallJoins
import Derived.LaidEql
import Derived.ChangeKeysEq
import Derived.Deep.QuietTactic
import Derived.BigQuiet
import Derived.LaidEqlPtr
import Derived.Stop.Asserts
import Derived.Deep.RegionHeld3
import Derived.Laws.Externs
import Derived.Shelf.Spec.BitsCarry

/- Plain mathematics of clusters that may be; no program stands in it. -/
namespace Go.Proofs.Ytffdemagdagmpaa
set_option linter.unusedSimpArgs false

structure V4 where
  a : Int
  b : Int
  c : Int
  d : Int
structure NodeD where
  id : Int
  zone : Int
  cap : V4
  held : V4
structure LoadD where
  id : Int
  apart : Bool
  skew : Int
  min : Int
  max : Int
structure PodD where
  id : Int
  load : Int
  prio : Int
  req : V4
  node : Int
structure WantD where
  pod : Int
  req : V4
  stay : Bool
structure SnapD where
  nodes : List NodeD
  loads : List LoadD
  pods : List PodD
structure SpecD where
  wants : List WantD
  preempts : Int
  shifts : Int

def V4.le (x y : V4) : Bool := decide (x.a ≤ y.a ∧ x.b ≤ y.b ∧ x.c ≤ y.c ∧ x.d ≤ y.d)
def V4.zero (x : V4) : Bool := decide (x.a = 0 ∧ x.b = 0 ∧ x.c = 0 ∧ x.d = 0)

/-- The place of the first one whose number is id; -1: there is none. -/
def place {α : Type} (f : α → Int) (id : Int) : List α → Int → Int
  | [], _ => -1
  | x :: r, k => if f x = id then k else place f id r (k + 1)
theorem place_ge {α : Type} {f : α → Int} {id : Int} : ∀ {l : List α} {k : Int}, 0 ≤ k → -1 ≤ place f id l k ∧ place f id l k < k + l.length
  | [], k, hk => by simp [place]; omega
  | x :: r, k, hk => by
    by_cases h : f x = id
    · simp [place, h]; omega
    · have := place_ge (f := f) (id := id) (l := r) (k := k + 1) (by omega)
      simp [place, h]; omega
end Go.Proofs.Ytffdemagdagmpaa

/- How nodes, loads, pods and wants lie in memory; the reference's small functions of layer 3. -/
namespace Go.Proofs.Ytffdemagdagmpaa
set_option linter.unusedSimpArgs false
open Go.RowKit
set_option linter.unusedVariables false

def cellsV (x : V4) : List Value := [.int .u64 x.a, .int .u64 x.b, .int .u64 x.c, .int .u64 x.d]
def cellsN (n : NodeD) : List Value := [.int .i64 n.id, .int .i64 n.zone, .int .u64 n.cap.a, .int .u64 n.cap.b, .int .u64 n.cap.c, .int .u64 n.cap.d, .int .u64 n.held.a, .int .u64 n.held.b, .int .u64 n.held.c, .int .u64 n.held.d]
def cellsL (l : LoadD) : List Value := [.int .i64 l.id, .bool l.apart, .int .i64 l.skew, .int .i64 l.min, .int .i64 l.max]
def cellsP (p : PodD) : List Value := [.int .i64 p.id, .int .i64 p.load, .int .i64 p.prio, .int .u64 p.req.a, .int .u64 p.req.b, .int .u64 p.req.c, .int .u64 p.req.d, .int .i64 p.node]
/-- The slice '.slice A xs.length c' of records of so many cells reads as xs in w, and lies below block B. -/
def Recs {α : Type} (size : Nat) (cells : α → List Value) (w : World) (B : Nat) (A : Option Addr) (xs : List α) : Prop :=
  xs = [] ∨ ∃ b o, A = some ⟨b, o, none⟩ ∧ b < B ∧ ∀ i (h : i < xs.length) j u, (cells xs[i])[j]? = some u → w.cell? ⟨b, o + i * size + j, none⟩ = some u

section
variable {α : Type} {size : Nat} {cells : α → List Value} {w w' : World} {B B' : Nat} {A : Option Addr} {xs : List α}
theorem Recs.nil : Recs size cells w B A [] := .inl rfl
theorem Recs.below (h : Recs size cells w B A xs) (hb : Below B' w w') (hB : B ≤ B') : Recs size cells w' B A xs := by
  rcases h with h | ⟨b, o, h1, h2, h3⟩
  · exact .inl h
  · exact .inr ⟨b, o, h1, h2, fun i hi j u hu => (hb.cell (p := ⟨b, o + i * size + j, none⟩) (Nat.lt_of_lt_of_le h2 hB)).trans (h3 i hi j u hu)⟩
theorem Recs.more (h : Recs size cells w B A xs) (hB : B ≤ B') : Recs size cells w B' A xs := by
  rcases h with h | ⟨b, o, h1, h2, h3⟩
  · exact .inl h
  · exact .inr ⟨b, o, h1, Nat.lt_of_lt_of_le h2 hB, h3⟩
theorem Recs.at (h : Recs size cells w B A xs) {k : Nat} (hk : k < xs.length) :
    ∃ b o, A = some ⟨b, o, none⟩ ∧ b < B ∧ ∀ j u, (cells xs[k])[j]? = some u → w.cell? ⟨b, o + k * size + j, none⟩ = some u := by
  rcases h with h | ⟨b, o, h1, h2, h3⟩
  · subst h; simp at hk
  · exact ⟨b, o, h1, h2, h3 k hk⟩
theorem Recs.take (h : Recs size cells w B A xs) (n : Nat) : Recs size cells w B A (xs.take n) := by
  rcases h with h | ⟨b, o, h1, h2, h3⟩
  · exact .inl (by simp [h])
  · exact .inr ⟨b, o, h1, h2, fun i hi j u hu => h3 i (by simp at hi; omega) j u (by rw [List.getElem_take] at hu; exact hu)⟩
end

/-- A snapshot as it is handed over: three slices. -/
structure Snap (w : World) (B : Nat) (s : SnapD) (v : Value) : Prop where
  is : ∃ A1 c1 A2 c2 A3 c3, v = .agg #[.slice A1 s.nodes.length c1, .slice A2 s.loads.length c2, .slice A3 s.pods.length c3] ∧
    Recs 10 cellsN w B A1 s.nodes ∧ Recs 5 cellsL w B A2 s.loads ∧ Recs 8 cellsP w B A3 s.pods

theorem place_step {α : Type} {f : α → Int} {id : Int} {l : List α} {k : Nat} (h : k < l.length) (hne : f l[k] ≠ id) (hp : place f id (l.drop k) k = place f id l 0) : place f id (l.drop (k + 1)) ((k + 1 : Nat) : Int) = place f id l 0 := by
  rw [← hp, List.drop_eq_getElem_cons h, place, if_neg hne]; rfl
theorem place_here {α : Type} {f : α → Int} {id : Int} {l : List α} {k : Nat} (h : k < l.length) (he : f l[k] = id) (hp : place f id (l.drop k) k = place f id l 0) : place f id l 0 = k := by
  rw [← hp, List.drop_eq_getElem_cons h, place, if_pos he]
theorem place_end {α : Type} {f : α → Int} {id : Int} {l : List α} {k : Nat} (h : l.length ≤ k) (hp : place f id (l.drop k) k = place f id l 0) : place f id l 0 = -1 := by
  rw [← hp, List.drop_of_length_le h, place]
theorem ret_int {a b : Int} (h : a = b) : Ending.returned (.int .i64 a) = .returned (.int .i64 b) := by rw [h]

end Go.Proofs.Ytffdemagdagmpaa

/- How snapshots and specs are read as data. -/
namespace Go.Proofs.Ytffdemagdagmpaa
set_option linter.unusedSimpArgs false
open Go.ChangeShapes Go.WideShapes Go.RowKit

def I64 (n : Int) : Prop := -9223372036854775808 ≤ n ∧ n ≤ 9223372036854775807
def U64 (n : Int) : Prop := 0 ≤ n ∧ n < 18446744073709551616
def V4.Ok (x : V4) : Prop := U64 x.a ∧ U64 x.b ∧ U64 x.c ∧ U64 x.d
def NodeD.Ok (x : NodeD) : Prop := I64 x.id ∧ I64 x.zone ∧ x.cap.Ok ∧ x.held.Ok
def LoadD.Ok (x : LoadD) : Prop := I64 x.id ∧ I64 x.skew ∧ I64 x.min ∧ I64 x.max
def PodD.Ok (x : PodD) : Prop := I64 x.id ∧ I64 x.load ∧ I64 x.prio ∧ x.req.Ok ∧ I64 x.node
def WantD.Ok (x : WantD) : Prop := I64 x.pod ∧ x.req.Ok

theorem wf_i64' {n : Int} (h : (Lit.int .i64 n).wf = true) : I64 n := by
  simp [Lit.wf, IntKind.min, IntKind.max, IntKind.signed, IntKind.bits] at h
  exact ⟨by omega, by omega⟩
theorem wf_u64' {n : Int} (h : (Lit.int .u64 n).wf = true) : U64 n := by
  simp [Lit.wf, IntKind.min, IntKind.max, IntKind.signed, IntKind.bits] at h
  exact ⟨by omega, by omega⟩
theorem Try.cells29 : Try.prog.cellsOf 29 = 1 := by kernel_rfl
theorem Try.cells31 : Try.prog.cellsOf 31 = 4 := by kernel_rfl
theorem Try.cells3 : Try.prog.cellsOf 3 = 1 := by kernel_rfl
theorem Try.cells4 : Try.prog.cellsOf 4 = 1 := by kernel_rfl
theorem Try.cellsN : Try.prog.cellsOf 51 = 10 := by kernel_rfl
theorem Try.cellsL : Try.prog.cellsOf 129 = 5 := by kernel_rfl
theorem Try.cellsP : Try.prog.cellsOf 79 = 8 := by kernel_rfl
theorem Try.cellsS : Try.prog.cellsOf 26 = 3 := by kernel_rfl
theorem list5 {α : Type} (l : List α) (h : l.length = 5) : ∃ c0 c1 c2 c3 c4, l = [c0, c1, c2, c3, c4] := by
  match l, h with
  | [c0, c1, c2, c3, c4], _ => exact ⟨c0, c1, c2, c3, c4, rfl⟩
theorem list8 {α : Type} (l : List α) (h : l.length = 8) : ∃ c0 c1 c2 c3 c4 c5 c6 c7, l = [c0, c1, c2, c3, c4, c5, c6, c7] := by
  match l, h with
  | [c0, c1, c2, c3, c4, c5, c6, c7], _ => exact ⟨c0, c1, c2, c3, c4, c5, c6, c7, rfl⟩
theorem list10 {α : Type} (l : List α) (h : l.length = 10) : ∃ c0 c1 c2 c3 c4 c5 c6 c7 c8 c9, l = [c0, c1, c2, c3, c4, c5, c6, c7, c8, c9] := by
  match l, h with
  | [c0, c1, c2, c3, c4, c5, c6, c7, c8, c9], _ => exact ⟨c0, c1, c2, c3, c4, c5, c6, c7, c8, c9, rfl⟩

section
variable {H : Type} {enc : TypeId × Value → H} {w : World} {base : Nat} {sp : Nat → Bool} {held : Bool}
theorem int_of {n : Nat} {c : Value} {x : Option (DataW H × List MemPlace)} (hx : x.isSome = true) (h : DataW.trod enc Try.prog w base sp held n 3 [c] = x) : ∃ k, c = .int .i64 k ∧ I64 k := by
  obtain ⟨y, rfl⟩ := Option.isSome_iff_exists.1 hx
  obtain ⟨k, e, _, hw⟩ := DataW.trod_int Try.underlying3 h
  exact ⟨k, by simpa using e, wf_i64' hw⟩
theorem bool_of {n : Nat} {c : Value} {x : Option (DataW H × List MemPlace)} (hx : x.isSome = true) (h : DataW.trod enc Try.prog w base sp held n 4 [c] = x) : ∃ k, c = .bool k := by
  obtain ⟨y, rfl⟩ := Option.isSome_iff_exists.1 hx
  obtain ⟨k, e, _⟩ := DataW.trod_bool Try.underlying4 h
  exact ⟨k, by simpa using e⟩
theorem vec_of {n : Nat} {c0 c1 c2 c3 : Value} {x : Option (DataW H × List MemPlace)} (hx : x.isSome = true) (h : DataW.trod enc Try.prog w base sp held n 31 [c0, c1, c2, c3] = x) :
    ∃ v : V4, c0 = .int .u64 v.a ∧ c1 = .int .u64 v.b ∧ c2 = .int .u64 v.c ∧ c3 = .int .u64 v.d ∧ v.Ok := by
  obtain ⟨y, rfl⟩ := Option.isSome_iff_exists.1 hx
  obtain ⟨y0, y1, y2, y3, m, _, hy0, hy1, hy2, hy3⟩ := trod_array4 Try.underlying31 Try.cells29 h
  obtain ⟨x0, e0, _, w0⟩ := DataW.trod_int Try.underlying29 hy0
  obtain ⟨x1, e1, _, w1⟩ := DataW.trod_int Try.underlying29 hy1
  obtain ⟨x2, e2, _, w2⟩ := DataW.trod_int Try.underlying29 hy2
  obtain ⟨x3, e3, _, w3⟩ := DataW.trod_int Try.underlying29 hy3
  exact ⟨⟨x0, x1, x2, x3⟩, by simpa using e0, by simpa using e1, by simpa using e2, by simpa using e3, wf_u64' w0, wf_u64' w1, wf_u64' w2, wf_u64' w3⟩
theorem some_at {α : Type} {l : List α} {i n : Nat} (h : l.length = n) (hi : i < n) : (l[i]?).isSome = true := by
  rw [List.getElem?_eq_getElem (by omega)]; rfl

theorem node_of {n : Nat} {cs : List Value} {x : DataW H × List MemPlace} (hl : cs.length = 10) (h : DataW.trod enc Try.prog w base sp held n 51 cs = some x) : ∃ a : NodeD, cs = cellsN a ∧ a.Ok := by
  obtain ⟨xs, m, rfl, _, _, hxl, hf⟩ := DataW.trod_struct Try.underlying51 h
  obtain ⟨c0, c1, c2, c3, c4, c5, c6, c7, c8, c9, rfl⟩ := list10 cs hl
  have h0 : DataW.trod enc Try.prog w base sp held m 3 (([c0, c1, c2, c3, c4, c5, c6, c7, c8, c9].drop 0).take (Try.prog.cellsOf 3)) = xs[0]? := hf 0 _ rfl
  rw [Try.cells3, show ([c0, c1, c2, c3, c4, c5, c6, c7, c8, c9].drop 0).take 1 = [c0] from rfl] at h0
  have h1 : DataW.trod enc Try.prog w base sp held m 3 (([c0, c1, c2, c3, c4, c5, c6, c7, c8, c9].drop 1).take (Try.prog.cellsOf 3)) = xs[1]? := hf 1 _ rfl
  rw [Try.cells3, show ([c0, c1, c2, c3, c4, c5, c6, c7, c8, c9].drop 1).take 1 = [c1] from rfl] at h1
  have h2 : DataW.trod enc Try.prog w base sp held m 31 (([c0, c1, c2, c3, c4, c5, c6, c7, c8, c9].drop 2).take (Try.prog.cellsOf 31)) = xs[2]? := hf 2 _ rfl
  rw [Try.cells31, show ([c0, c1, c2, c3, c4, c5, c6, c7, c8, c9].drop 2).take 4 = [c2, c3, c4, c5] from rfl] at h2
  have h3 : DataW.trod enc Try.prog w base sp held m 31 (([c0, c1, c2, c3, c4, c5, c6, c7, c8, c9].drop 6).take (Try.prog.cellsOf 31)) = xs[3]? := hf 3 _ rfl
  rw [Try.cells31, show ([c0, c1, c2, c3, c4, c5, c6, c7, c8, c9].drop 6).take 4 = [c6, c7, c8, c9] from rfl] at h3
  obtain ⟨k0, rfl, i0⟩ := int_of (some_at hxl (by simp)) h0
  obtain ⟨k1, rfl, i1⟩ := int_of (some_at hxl (by simp)) h1
  obtain ⟨v2, rfl, rfl, rfl, rfl, i2⟩ := vec_of (some_at hxl (by simp)) h2
  obtain ⟨v3, rfl, rfl, rfl, rfl, i3⟩ := vec_of (some_at hxl (by simp)) h3
  exact ⟨⟨k0, k1, v2, v3⟩, rfl, i0, i1, i2, i3⟩
theorem load_of {n : Nat} {cs : List Value} {x : DataW H × List MemPlace} (hl : cs.length = 5) (h : DataW.trod enc Try.prog w base sp held n 129 cs = some x) : ∃ a : LoadD, cs = cellsL a ∧ a.Ok := by
  obtain ⟨xs, m, rfl, _, _, hxl, hf⟩ := DataW.trod_struct Try.underlying129 h
  obtain ⟨c0, c1, c2, c3, c4, rfl⟩ := list5 cs hl
  have h0 : DataW.trod enc Try.prog w base sp held m 3 (([c0, c1, c2, c3, c4].drop 0).take (Try.prog.cellsOf 3)) = xs[0]? := hf 0 _ rfl
  rw [Try.cells3, show ([c0, c1, c2, c3, c4].drop 0).take 1 = [c0] from rfl] at h0
  have h1 : DataW.trod enc Try.prog w base sp held m 4 (([c0, c1, c2, c3, c4].drop 1).take (Try.prog.cellsOf 4)) = xs[1]? := hf 1 _ rfl
  rw [Try.cells4, show ([c0, c1, c2, c3, c4].drop 1).take 1 = [c1] from rfl] at h1
  have h2 : DataW.trod enc Try.prog w base sp held m 3 (([c0, c1, c2, c3, c4].drop 2).take (Try.prog.cellsOf 3)) = xs[2]? := hf 2 _ rfl
  rw [Try.cells3, show ([c0, c1, c2, c3, c4].drop 2).take 1 = [c2] from rfl] at h2
  have h3 : DataW.trod enc Try.prog w base sp held m 3 (([c0, c1, c2, c3, c4].drop 3).take (Try.prog.cellsOf 3)) = xs[3]? := hf 3 _ rfl
  rw [Try.cells3, show ([c0, c1, c2, c3, c4].drop 3).take 1 = [c3] from rfl] at h3
  have h4 : DataW.trod enc Try.prog w base sp held m 3 (([c0, c1, c2, c3, c4].drop 4).take (Try.prog.cellsOf 3)) = xs[4]? := hf 4 _ rfl
  rw [Try.cells3, show ([c0, c1, c2, c3, c4].drop 4).take 1 = [c4] from rfl] at h4
  obtain ⟨k0, rfl, i0⟩ := int_of (some_at hxl (by simp)) h0
  obtain ⟨k1, rfl⟩ := bool_of (some_at hxl (by simp)) h1
  obtain ⟨k2, rfl, i2⟩ := int_of (some_at hxl (by simp)) h2
  obtain ⟨k3, rfl, i3⟩ := int_of (some_at hxl (by simp)) h3
  obtain ⟨k4, rfl, i4⟩ := int_of (some_at hxl (by simp)) h4
  exact ⟨⟨k0, k1, k2, k3, k4⟩, rfl, i0, i2, i3, i4⟩
theorem pod_of {n : Nat} {cs : List Value} {x : DataW H × List MemPlace} (hl : cs.length = 8) (h : DataW.trod enc Try.prog w base sp held n 79 cs = some x) : ∃ a : PodD, cs = cellsP a ∧ a.Ok := by
  obtain ⟨xs, m, rfl, _, _, hxl, hf⟩ := DataW.trod_struct Try.underlying79 h
  obtain ⟨c0, c1, c2, c3, c4, c5, c6, c7, rfl⟩ := list8 cs hl
  have h0 : DataW.trod enc Try.prog w base sp held m 3 (([c0, c1, c2, c3, c4, c5, c6, c7].drop 0).take (Try.prog.cellsOf 3)) = xs[0]? := hf 0 _ rfl
  rw [Try.cells3, show ([c0, c1, c2, c3, c4, c5, c6, c7].drop 0).take 1 = [c0] from rfl] at h0
  have h1 : DataW.trod enc Try.prog w base sp held m 3 (([c0, c1, c2, c3, c4, c5, c6, c7].drop 1).take (Try.prog.cellsOf 3)) = xs[1]? := hf 1 _ rfl
  rw [Try.cells3, show ([c0, c1, c2, c3, c4, c5, c6, c7].drop 1).take 1 = [c1] from rfl] at h1
  have h2 : DataW.trod enc Try.prog w base sp held m 3 (([c0, c1, c2, c3, c4, c5, c6, c7].drop 2).take (Try.prog.cellsOf 3)) = xs[2]? := hf 2 _ rfl
  rw [Try.cells3, show ([c0, c1, c2, c3, c4, c5, c6, c7].drop 2).take 1 = [c2] from rfl] at h2
  have h3 : DataW.trod enc Try.prog w base sp held m 31 (([c0, c1, c2, c3, c4, c5, c6, c7].drop 3).take (Try.prog.cellsOf 31)) = xs[3]? := hf 3 _ rfl
  rw [Try.cells31, show ([c0, c1, c2, c3, c4, c5, c6, c7].drop 3).take 4 = [c3, c4, c5, c6] from rfl] at h3
  have h4 : DataW.trod enc Try.prog w base sp held m 3 (([c0, c1, c2, c3, c4, c5, c6, c7].drop 7).take (Try.prog.cellsOf 3)) = xs[4]? := hf 4 _ rfl
  rw [Try.cells3, show ([c0, c1, c2, c3, c4, c5, c6, c7].drop 7).take 1 = [c7] from rfl] at h4
  obtain ⟨k0, rfl, i0⟩ := int_of (some_at hxl (by simp)) h0
  obtain ⟨k1, rfl, i1⟩ := int_of (some_at hxl (by simp)) h1
  obtain ⟨k2, rfl, i2⟩ := int_of (some_at hxl (by simp)) h2
  obtain ⟨v3, rfl, rfl, rfl, rfl, i3⟩ := vec_of (some_at hxl (by simp)) h3
  obtain ⟨k4, rfl, i4⟩ := int_of (some_at hxl (by simp)) h4
  exact ⟨⟨k0, k1, k2, v3, k4⟩, rfl, i0, i1, i2, i3, i4⟩
/-- A slice of records that came in: nil or not. -/
theorem open_recs {α : Type} {size : Nat} {cells : α → List Value} {Ok : α → Prop} {t e : TypeId} {v : Value} {fuel : Nat} {x : DataW H × List MemPlace} (ht : Try.prog.underlying t = some (.slice e)) (hC : Try.prog.cellsOf e = size) (hs : 0 < size)
    (hof : ∀ (n : Nat) (cs : List Value) (x : DataW H × List MemPlace), cs.length = size → DataW.trod enc Try.prog w base sp held n e cs = some x → ∃ a : α, cs = cells a ∧ Ok a)
    (h : DataW.trod enc Try.prog w base sp held fuel t [v] = some x) :
    ∃ (A : Option Addr) (c : Nat) (l : List α), v = .slice A l.length c ∧ l.length ≤ c ∧ c ≤ maxLen ∧ (A = none → c = 0) ∧ Recs size cells w w.heap.size A l ∧ ∀ a ∈ l, Ok a := by
  rcases Go.Deep.open_slice ht h with ⟨hc, _⟩ | ⟨a, n, cap, m, fu, D, Pl, hc, _, hl, hm, hmm, _, hel⟩
  · have hv : v = .slice none 0 0 := by simpa using hc
    exact ⟨none, 0, [], hv, by simp, by unfold maxLen; omega, fun _ => rfl, Recs.nil, fun _ h => by simp at h⟩
  · have hv : v = .slice (some a) n cap := by simpa using hc
    have hnm : n ≤ m := by rw [hmm]; split <;> omega
    have key : ∀ i, i < n → ∃ r : α, (∀ j u, (cells r)[j]? = some u → w.cell? ((a.add (i * size)).add j) = some u) ∧ Ok r ∧ (cells r).length = size := by
      intro i hi
      obtain ⟨cs, h1, h2⟩ := hel i (by omega)
      rw [hC] at h1
      obtain ⟨_, hlen, hat⟩ := World.cells?_some h1
      obtain ⟨r, rfl, hr⟩ := hof _ cs _ hlen h2
      refine ⟨r, fun j u hu => ?_, hr, hlen⟩
      have hj : j < size := by rw [← hlen]; exact (List.getElem?_eq_some_iff.1 hu).1
      exact (hat j hj).trans hu
    rcases Nat.eq_zero_or_pos n with hn0 | hn0
    · subst hn0
      exact ⟨some a, cap, [], by simp [hv], by simp, hm, fun h => by (cases h), Recs.nil, fun _ h => by simp at h⟩
    haveI : Inhabited α := ⟨Classical.choose (key 0 hn0)⟩
    obtain ⟨r, hr⟩ := Go.Deep.choose_lt key
    refine ⟨some a, cap, (List.range n).map r, by simp [hv], by simpa using hl, hm, fun h => by (cases h), ?_, fun y hy => ?_⟩
    · by_cases h0 : n = 0
      · exact .inl (by simp [h0])
      · obtain ⟨ab, ao, spot⟩ := a
        have hl0 := (hr 0 (by omega)).2.2
        have hc0 := (hr 0 (by omega)).1 0 _ (List.getElem?_eq_getElem (show 0 < (cells (r 0)).length by omega))
        have hspot : spot = none := by simpa [Addr.add] using World.cell?_spot hc0
        subst hspot
        have hlt := World.block_lt_of_cell? _ _ hc0
        simp only [Addr.add_lit] at hlt
        refine .inr ⟨ab, ao, rfl, hlt, fun i hi j u hu => ?_⟩
        have hi' : i < n := by simpa using hi
        simp only [List.getElem_map, List.getElem_range] at hu
        have := (hr i hi').1 j u hu
        simpa [Addr.add_lit] using this
    · simp only [List.mem_map, List.mem_range] at hy
      obtain ⟨i, hi, rfl⟩ := hy
      exact (hr i hi).2.1
set_option maxRecDepth 100000 in
/-- A snapshot by value. -/
theorem open_snap {r : Reach} {b0 : Nat} {v : Value} {d : DataW H} {ps : List MemPlace} (hval : Value.okWide Try.prog w r b0 26 v) (h : DataW.Trod enc Try.prog w base sp held 26 v d ps) :
    ∃ (s : SnapD) (A1 A2 A3 : Option Addr) (c1 c2 c3 : Nat), v = .agg #[.slice A1 s.nodes.length c1, .slice A2 s.loads.length c2, .slice A3 s.pods.length c3] ∧
      (s.nodes.length ≤ c1 ∧ c1 ≤ maxLen ∧ (A1 = none → c1 = 0) ∧ Recs 10 cellsN w w.heap.size A1 s.nodes ∧ ∀ a ∈ s.nodes, a.Ok) ∧
      (s.loads.length ≤ c2 ∧ c2 ≤ maxLen ∧ (A2 = none → c2 = 0) ∧ Recs 5 cellsL w w.heap.size A2 s.loads ∧ ∀ a ∈ s.loads, a.Ok) ∧
      (s.pods.length ≤ c3 ∧ c3 ≤ maxLen ∧ (A3 = none → c3 = 0) ∧ Recs 8 cellsP w w.heap.size A3 s.pods ∧ ∀ a ∈ s.pods, a.Ok) := by
  obtain ⟨v0, v1, v2, y0, y1, y2, n, rfl, _, _, h0, h1, h2⟩ := Go.Joins.open_agg3 Try.underlying26 (by kernel_rfl) Try.cellsS hval h
  obtain ⟨A1, c1, l1, rfl, p1⟩ := open_recs (Ok := NodeD.Ok) Try.underlying22 Try.cellsN (by decide) (fun _ _ _ hl h => node_of hl h) h0
  obtain ⟨A2, c2, l2, rfl, p2⟩ := open_recs (Ok := LoadD.Ok) Try.underlying23 Try.cellsL (by decide) (fun _ _ _ hl h => load_of hl h) h1
  obtain ⟨A3, c3, l3, rfl, p3⟩ := open_recs (Ok := PodD.Ok) Try.underlying24 Try.cellsP (by decide) (fun _ _ _ hl h => pod_of hl h) h2
  exact ⟨⟨l1, l2, l3⟩, A1, A2, A3, c1, c2, c3, rfl, p1, p2, p3⟩
end
end Go.Proofs.Ytffdemagdagmpaa

/- Plain mathematics of nodes' room; no program stands in it. -/
namespace Go.Proofs.Ytffdemagdagmpaa
set_option linter.unusedSimpArgs false
open Go.RowKit
set_option linter.unusedVariables false

def V4.add (x y : V4) : V4 := ⟨x.a + y.a, x.b + y.b, x.c + y.c, x.d + y.d⟩
def V4.sub (x y : V4) : V4 := ⟨x.a - y.a, x.b - y.b, x.c - y.c, x.d - y.d⟩
def V4.zer : V4 := ⟨0, 0, 0, 0⟩
def V4.small (x : V4) : Bool := decide (x.a < 18446744073709551616 ∧ x.b < 18446744073709551616 ∧ x.c < 18446744073709551616 ∧ x.d < 18446744073709551616)
/-- The difference, or none: it goes below 0. -/
def subV (x y : V4) : Option V4 := if y.le x then some (x.sub y) else none
def totV : List V4 → V4
  | [] => .zer
  | x :: r => x.add (totV r)
def sumV (l : List V4) : Option V4 := if (totV l).small then some (totV l) else none
def reqsAt (node : Int) : List PodD → List V4
  | [] => []
  | p :: r => if p.node = node then p.req :: reqsAt node r else reqsAt node r
/-- A node's use, or none: it goes over. -/
def useD (l : List PodD) (node : Int) : Option V4 := sumV (reqsAt node l)
/-- What is left of a node beside a use, or none. -/
def leftD (n : NodeD) (u : V4) : Option V4 := match subV n.cap n.held with
  | none => none
  | some f => subV f u
def nodeAt (id : Int) : List NodeD → Option NodeD
  | [] => none
  | x :: r => if x.id = id then some x else nodeAt id r
/-- A node's rest, and an error's number. -/
def restD (ns : List NodeD) (l : List PodD) (id : Int) : V4 × Int :=
  match nodeAt id ns with
  | none => (.zer, 4)
  | some n => match useD l id with
    | none => (.zer, 8)
    | some u => match leftD n u with
      | none => (.zer, 9)
      | some r => (r, 0)
theorem rest_none {ns : List NodeD} {l : List PodD} {id : Int} (h : nodeAt id ns = none) : restD ns l id = (.zer, 4) := by simp only [restD, h]
theorem rest_over {ns : List NodeD} {l : List PodD} {id : Int} {n : NodeD} (h : nodeAt id ns = some n) (h2 : useD l id = none) : restD ns l id = (.zer, 8) := by simp only [restD, h, h2]
theorem rest_room {ns : List NodeD} {l : List PodD} {id : Int} {n : NodeD} {u : V4} (h : nodeAt id ns = some n) (h2 : useD l id = some u) (h3 : leftD n u = none) : restD ns l id = (.zer, 9) := by simp only [restD, h, h2, h3]
theorem rest_some {ns : List NodeD} {l : List PodD} {id : Int} {n : NodeD} {u r : V4} (h : nodeAt id ns = some n) (h2 : useD l id = some u) (h3 : leftD n u = some r) : restD ns l id = (r, 0) := by simp only [restD, h, h2, h3]
theorem left_none {n : NodeD} {u : V4} (h : subV n.cap n.held = none) : leftD n u = none := by simp only [leftD, h]
theorem left_some {n : NodeD} {u f : V4} (h : subV n.cap n.held = some f) : leftD n u = subV f u := by simp only [leftD, h]
theorem rest_vals (ns : List NodeD) (l : List PodD) (id : Int) : ((restD ns l id).2 = 0) ∨ ((restD ns l id).1 = .zer ∧ ((restD ns l id).2 = 4 ∨ (restD ns l id).2 = 8 ∨ (restD ns l id).2 = 9)) := by
  rcases h1 : nodeAt id ns with _ | n
  · rw [rest_none h1]; simp
  · rcases h2 : useD l id with _ | u
    · rw [rest_over h1 h2]; simp
    · rcases h3 : leftD n u with _ | r
      · rw [rest_room h1 h2 h3]; simp
      · rw [rest_some h1 h2 h3]; simp
theorem rest_zero {ns : List NodeD} {l : List PodD} {id : Int} : (restD ns l id).2 = 0 ↔ ∃ n u r, nodeAt id ns = some n ∧ useD l id = some u ∧ leftD n u = some r ∧ restD ns l id = (r, 0) := by
  constructor
  · intro h
    rcases h1 : nodeAt id ns with _ | n
    · rw [rest_none h1] at h; cases h
    · rcases h2 : useD l id with _ | u
      · rw [rest_over h1 h2] at h; cases h
      · rcases h3 : leftD n u with _ | r
        · rw [rest_room h1 h2 h3] at h; cases h
        · exact ⟨n, u, r, rfl, rfl, h3, rest_some h1 h2 h3⟩
  · rintro ⟨n, u, r, _, _, _, h⟩; rw [h]

theorem nodeAt_no {id : Int} : ∀ {l : List NodeD} {k : Int}, 0 ≤ k → place NodeD.id id l k < 0 → nodeAt id l = none
  | [], _, _, _ => rfl
  | x :: r, k, hk, h => by
    by_cases e : x.id = id
    · simp [place, e] at h; omega
    · simp only [place, if_neg e] at h
      simp only [nodeAt, if_neg e]
      exact nodeAt_no (k := k + 1) (by omega) h
theorem nodeAt_yes {id : Int} : ∀ {l : List NodeD} {k : Int} {i : Nat} (h : i < l.length), 0 ≤ k → place NodeD.id id l k = k + i → nodeAt id l = some l[i]
  | [], _, _, h, _, _ => by simp at h
  | x :: r, k, i, h, hk, hp => by
    by_cases e : x.id = id
    · simp only [place, if_pos e] at hp
      obtain rfl : i = 0 := by omega
      simp [nodeAt, e]
    · simp only [place, if_neg e] at hp
      cases i with
      | zero => have := place_ge (f := NodeD.id) (id := id) (l := r) (k := k + 1) (by omega); rw [hp] at this; exfalso
                have h2 : k + 1 ≤ place NodeD.id id r (k + 1) ∨ place NodeD.id id r (k + 1) < 0 := by
                  by_cases hn : place NodeD.id id r (k + 1) < 0
                  · exact .inr hn
                  · left
                    have : ∀ (r : List NodeD) (k : Int), 0 ≤ k → place NodeD.id id r k < 0 ∨ k ≤ place NodeD.id id r k := by
                      intro r
                      induction r with
                      | nil => intro k _; left; simp [place]
                      | cons y r ih => intro k hk; by_cases e : y.id = id <;> simp only [place, e, if_true, if_false]; exact .inr (Int.le_refl _); rcases ih (k + 1) (by omega) with h | h; exact .inl h; exact .inr (by omega)
                    rcases this r (k + 1) (by omega) with h | h
                    · exact absurd h hn
                    · exact h
                omega
      | succ i =>
        simp only [nodeAt, if_neg e]
        rw [nodeAt_yes (l := r) (k := k + 1) (i := i) (by simpa using h) (by omega) (by omega)]
        simp
theorem sub_le {x y z : V4} (h : subV x y = some z) : z = x.sub y ∧ y.le x = true := by
  unfold subV at h
  split at h
  · rename_i hs; exact ⟨(Option.some.inj h).symm, hs⟩
  · cases h
theorem sub_ok4 {x y z : V4} (hx : x.Ok) (hy : y.Ok) (h : subV x y = some z) : z.Ok := by
  obtain ⟨rfl, hl⟩ := sub_le h
  simp only [V4.le, decide_eq_true_eq] at hl
  simp only [V4.Ok, U64, V4.sub] at *
  omega
theorem tot_pos : ∀ {l : List V4}, (∀ x ∈ l, x.Ok) → 0 ≤ (totV l).a ∧ 0 ≤ (totV l).b ∧ 0 ≤ (totV l).c ∧ 0 ≤ (totV l).d
  | [], _ => by simp [totV, V4.zer]
  | x :: r, h => by
    have h1 := tot_pos (l := r) (fun y hy => h y (List.mem_cons_of_mem _ hy))
    have h2 := h x (List.mem_cons_self ..)
    simp only [V4.Ok, U64] at h2
    simp only [totV, V4.add]
    omega
theorem sum_ok4 {l : List V4} {u : V4} (h : ∀ x ∈ l, x.Ok) (hu : sumV l = some u) : u.Ok := by
  have hp := tot_pos h
  unfold sumV at hu
  split at hu
  · rename_i hs
    have := Option.some.inj hu
    subst this
    simp only [V4.small, decide_eq_true_eq] at hs
    simp only [V4.Ok, U64]
    omega
  · cases hu
theorem reqs_ok {node : Int} : ∀ {l : List PodD}, (∀ p ∈ l, p.Ok) → ∀ x ∈ reqsAt node l, x.Ok
  | [], _, x, hx => by simp [reqsAt] at hx
  | p :: r, h, x, hx => by
    unfold reqsAt at hx
    split at hx
    · rcases List.mem_cons.1 hx with rfl | hx
      · exact (h p (List.mem_cons_self ..)).2.2.2.1
      · exact reqs_ok (fun q hq => h q (List.mem_cons_of_mem _ hq)) x hx
    · exact reqs_ok (fun q hq => h q (List.mem_cons_of_mem _ hq)) x hx
theorem use_ok {l : List PodD} {node : Int} {u : V4} (h : ∀ p ∈ l, p.Ok) (hu : useD l node = some u) : u.Ok := sum_ok4 (reqs_ok h) hu
theorem reqs_len (node : Int) : ∀ l : List PodD, (reqsAt node l).length ≤ l.length
  | [] => Nat.le_refl _
  | p :: r => by
    have := reqs_len node r
    unfold reqsAt
    split <;> simp <;> omega
theorem reqs_append (node : Int) : ∀ (l m : List PodD), reqsAt node (l ++ m) = reqsAt node l ++ reqsAt node m
  | [], m => rfl
  | p :: r, m => by
    rw [List.cons_append, reqsAt, reqsAt, reqs_append node r m]
    split <;> simp
theorem reqs_take {node : Int} {l : List PodD} {k : Nat} (h : k < l.length) {p : PodD} (hp : l[k] = p) :
    (p.node = node → reqsAt node (l.take (k + 1)) = reqsAt node (l.take k) ++ [p.req]) ∧ (p.node ≠ node → reqsAt node (l.take (k + 1)) = reqsAt node (l.take k)) := by
  rw [List.take_succ_eq_append_getElem h, reqs_append, hp]
  constructor
  · intro e; simp [reqsAt, e]
  · intro e; simp [reqsAt, e]
theorem nodeAt_ok {id : Int} {n : NodeD} : ∀ {l : List NodeD}, (∀ x ∈ l, x.Ok) → nodeAt id l = some n → n.Ok
  | [], _, h => by simp [nodeAt] at h
  | x :: r, ho, h => by
    unfold nodeAt at h
    split at h
    · obtain rfl := Option.some.inj h; exact ho _ (List.mem_cons_self ..)
    · exact nodeAt_ok (fun y hy => ho y (List.mem_cons_of_mem _ hy)) h
theorem left_ok {n : NodeD} {u r : V4} (hn : n.Ok) (hu : u.Ok) (h : leftD n u = some r) : r.Ok := by
  unfold leftD at h
  split at h
  · cases h
  · rename_i f hf
    exact sub_ok4 (sub_ok4 hn.2.2.1 hn.2.2.2 hf) hu h
theorem tot_append : ∀ (l m : List V4), totV (l ++ m) = (totV l).add (totV m)
  | [], m => by simp [totV, V4.add, V4.zer]
  | x :: r, m => by rw [List.cons_append, totV, tot_append r m]; simp [totV, V4.add, Int.add_assoc]
end Go.Proofs.Ytffdemagdagmpaa

/- The reference's functions of layer 3 that look for one, and its small functions. -/
namespace Go.Proofs.Ytffdemagdagmpaa
set_option linter.unusedSimpArgs false
open Go.RowKit
set_option linter.unusedVariables false

theorem ret_bool {a b : Bool} (h : a = b) : Ending.returned (.bool a) = .returned (.bool b) := by rw [h]
set_option maxHeartbeats 800000 in
theorem few_any (A1 A2 A3 : Option Addr) (n1 c1 n2 c2 n3 c3 : Nat) (w : World) :
    Calls Try.prog 17 #[.agg #[.slice A1 n1 c1, .slice A2 n2 c2, .slice A3 n3 c3]] w fun e w' => e = .returned (.bool (decide (n1 ≤ 40 ∧ n2 ≤ 40 ∧ n3 ≤ 40))) ∧ Below w.heap.size w w' := by
  by_cases h1 : n1 ≤ 40
  · by_cases h2 : n2 ≤ 40
    · by_cases h3 : n3 ≤ 40
      · have HE := Lib.hid (show decide (n1 ≤ 40 ∧ n2 ≤ 40 ∧ n3 ≤ 40) = true by simp [h1, h2, h3])
        have hd : decide ((n3 : Int) ≤ 40) = true := decide_eq_true (by omega)
        go_enter Try.func17, Try.ntmps17
        go_wp2
        go_ret
        exact ⟨ret_bool HE.out.symm, (Below.refl _ _).alloc (Nat.le_refl _) _⟩
      · have HE := Lib.hid (show decide (n1 ≤ 40 ∧ n2 ≤ 40 ∧ n3 ≤ 40) = false by simp; omega)
        have hd : decide ((n3 : Int) ≤ 40) = false := decide_eq_false (by omega)
        go_enter Try.func17, Try.ntmps17
        go_wp2
        go_ret
        exact ⟨ret_bool HE.out.symm, (Below.refl _ _).alloc (Nat.le_refl _) _⟩
    · have HE := Lib.hid (show decide (n1 ≤ 40 ∧ n2 ≤ 40 ∧ n3 ≤ 40) = false by simp; omega)
      have hd : decide ((n2 : Int) ≤ 40) = false := decide_eq_false (by omega)
      go_enter Try.func17, Try.ntmps17
      go_wp2
      go_ret
      exact ⟨ret_bool HE.out.symm, (Below.refl _ _).alloc (Nat.le_refl _) _⟩
  · have HE := Lib.hid (show decide (n1 ≤ 40 ∧ n2 ≤ 40 ∧ n3 ≤ 40) = false by simp; omega)
    have hd : decide ((n1 : Int) ≤ 40) = false := decide_eq_false (by omega)
    go_enter Try.func17, Try.ntmps17
    go_wp2
    go_ret
    exact ⟨ret_bool HE.out.symm, (Below.refl _ _).alloc (Nat.le_refl _) _⟩
end Go.Proofs.Ytffdemagdagmpaa

/- dunnageref01.Fits, dunnagelaw00.Code and Told. -/
namespace Go.Proofs.Ytffdemagdagmpaa
set_option linter.unusedSimpArgs false
open Go.RowKit
set_option linter.unusedVariables false

abbrev aggV (x : V4) : Value := .agg #[.int .u64 x.a, .int .u64 x.b, .int .u64 x.c, .int .u64 x.d]
theorem below_two (w : World) (o o' : Obj) : Below w.heap.size w ((w.alloc o).alloc o') := ((Below.refl _ _).alloc (Nat.le_refl _) o).alloc (by simp) o'
end Go.Proofs.Ytffdemagdagmpaa

/- dunnageref03.Check. -/
namespace Go.Proofs.Ytffdemagdagmpaa
set_option linter.unusedSimpArgs false
open Go.RowKit
set_option linter.unusedVariables false

end Go.Proofs.Ytffdemagdagmpaa

/- '==' and '!=' on amounts. -/
namespace Go.Proofs.Ytffdemagdagmpaa
set_option linter.unusedSimpArgs false
open Go.RowKit
set_option linter.unusedVariables false

end Go.Proofs.Ytffdemagdagmpaa

/- dunnageref03.Fair. -/
namespace Go.Proofs.Ytffdemagdagmpaa
set_option linter.unusedSimpArgs false
open Go.RowKit
set_option linter.unusedVariables false
set_option linter.unusedSimpArgs false

end Go.Proofs.Ytffdemagdagmpaa

/- errors.As and errors.Is at the errors that package wire tells: a nil error, and a *api.Spot. -/
namespace Go.Proofs.Ytffdemagdagmpaa
set_option linter.unusedSimpArgs false
open Go.RowKit Go.Extern.Stop Go.Stop Go.Extern
set_option linter.unusedVariables false

/-! ### CLOSED FACTS ON THE MODEL's ENTRIES FOR internal/reflectlite, at this program's types: 51: *api.Spot, 53: **api.Spot, 28: error, 73: reflectlite's rtype; 1: how many package-level variables the dump has -/
/-! ### THE ENTRIES THAT READ OR WRITE MEMORY: laws with a premise on the cell (after Derived/Lib/ReflectliteSlice.lean's manner: each unfolding a lemma of its own, by rfl) -/
end Go.Proofs.Ytffdemagdagmpaa

/- errors.Is of a *api.Spot and its own Code; dunnagelaw00.Is of such an error. -/
namespace Go.Proofs.Ytffdemagdagmpaa
set_option linter.unusedSimpArgs false
open Go.RowKit Go.Extern.Stop Go.Stop Go.Extern
set_option linter.unusedVariables false

end Go.Proofs.Ytffdemagdagmpaa

/- errors.As and dunnagelaw00.Is of a Spot: what they tell, and what stays. -/
namespace Go.Proofs.Ytffdemagdagmpaa
set_option linter.unusedSimpArgs false
open Go.RowKit
set_option linter.unusedVariables false

end Go.Proofs.Ytffdemagdagmpaa

/- dunnagelaw00.Code and Told, at the errors that a layer tells: none, a Code itself, a Spot. -/
namespace Go.Proofs.Ytffdemagdagmpaa
set_option linter.unusedSimpArgs false
open Go.RowKit
set_option linter.unusedVariables false

end Go.Proofs.Ytffdemagdagmpaa

/- What a call of layer 3 that tells an error comes to; the law ClusterChecks, walked, from what its callees come to. -/
namespace Go.Proofs.Ytffdemagdagmpaa
set_option linter.unusedSimpArgs false
open Go.RowKit
set_option linter.unusedVariables false

end Go.Proofs.Ytffdemagdagmpaa

/- The program's small functions of layer 3: within, isCount, cmp.Compare, cmp.Or, spot, the Ids of records. -/
namespace Go.Proofs.Ytffdemagdagmpaa
set_option linter.unusedSimpArgs false
open Go.RowKit
set_option linter.unusedVariables false

def cmpI (a b : Int) : Int := if a < b then -1 else if b < a then 1 else 0
abbrev aggN (x : NodeD) : Value := .agg #[.int .i64 x.id, .int .i64 x.zone, .int .u64 x.cap.a, .int .u64 x.cap.b, .int .u64 x.cap.c, .int .u64 x.cap.d, .int .u64 x.held.a, .int .u64 x.held.b, .int .u64 x.held.c, .int .u64 x.held.d]
theorem idN_any (x : NodeD) (w : World) : Calls Try.prog 33 #[aggN x] w fun e w' => e = .returned (.int .i64 x.id) ∧ Below w.heap.size w w' := by
  go_enter Try.func33, Try.ntmps33
  go_wp2
  go_ret
  exact ⟨rfl, (Below.refl _ _).alloc (Nat.le_refl _) _⟩

end Go.Proofs.Ytffdemagdagmpaa

/- Plain mathematics of what fits: four numbers from the greatest on, what is tighter, where a request fits, and the best one; no program stands in it. -/
namespace Go.Proofs.Ytffdemagdagmpaa
set_option linter.unusedSimpArgs false
open Go.RowKit
set_option linter.unusedVariables false

def V4.x01 (v : V4) : V4 := if v.b > v.a then ⟨v.b, v.a, v.c, v.d⟩ else v
def V4.x02 (v : V4) : V4 := if v.c > v.a then ⟨v.c, v.b, v.a, v.d⟩ else v
def V4.x03 (v : V4) : V4 := if v.d > v.a then ⟨v.d, v.b, v.c, v.a⟩ else v
def V4.x12 (v : V4) : V4 := if v.c > v.b then ⟨v.a, v.c, v.b, v.d⟩ else v
def V4.x13 (v : V4) : V4 := if v.d > v.b then ⟨v.a, v.d, v.c, v.b⟩ else v
def V4.x23 (v : V4) : V4 := if v.d > v.c then ⟨v.a, v.b, v.d, v.c⟩ else v
/-- The four numbers from the greatest on. -/
def downV (v : V4) : V4 := v.x01.x02.x03.x12.x13.x23
def V4.row (v : V4) : List Int := [v.a, v.b, v.c, v.d]

theorem x01_perm (v : V4) : v.x01.row.Perm v.row := by
  unfold V4.x01; split
  · rw [List.perm_iff_count]; intro a; simp only [V4.row, List.count_cons, List.count_nil]; omega
  · exact .refl _
theorem x02_perm (v : V4) : v.x02.row.Perm v.row := by
  unfold V4.x02; split
  · rw [List.perm_iff_count]; intro a; simp only [V4.row, List.count_cons, List.count_nil]; omega
  · exact .refl _
theorem x03_perm (v : V4) : v.x03.row.Perm v.row := by
  unfold V4.x03; split
  · rw [List.perm_iff_count]; intro a; simp only [V4.row, List.count_cons, List.count_nil]; omega
  · exact .refl _
theorem x12_perm (v : V4) : v.x12.row.Perm v.row := by
  unfold V4.x12; split
  · rw [List.perm_iff_count]; intro a; simp only [V4.row, List.count_cons, List.count_nil]; omega
  · exact .refl _
theorem x13_perm (v : V4) : v.x13.row.Perm v.row := by
  unfold V4.x13; split
  · rw [List.perm_iff_count]; intro a; simp only [V4.row, List.count_cons, List.count_nil]; omega
  · exact .refl _
theorem x23_perm (v : V4) : v.x23.row.Perm v.row := by
  unfold V4.x23; split
  · rw [List.perm_iff_count]; intro a; simp only [V4.row, List.count_cons, List.count_nil]; omega
  · exact .refl _
theorem down_perm (v : V4) : (downV v).row.Perm v.row :=
  (x23_perm _).trans ((x13_perm _).trans ((x12_perm _).trans ((x03_perm _).trans ((x02_perm _).trans (x01_perm _)))))
theorem down_one (v : V4) : v.x01.x02.x03.b ≤ v.x01.x02.x03.a ∧ v.x01.x02.x03.c ≤ v.x01.x02.x03.a ∧ v.x01.x02.x03.d ≤ v.x01.x02.x03.a := by
  have h1 : v.x01.b ≤ v.x01.a := by unfold V4.x01; split <;> first | omega | (dsimp only; omega)
  have h2 : v.x01.x02.b ≤ v.x01.x02.a ∧ v.x01.x02.c ≤ v.x01.x02.a := by
    generalize v.x01 = u at *
    unfold V4.x02; split <;> first | omega | (dsimp only; omega)
  generalize v.x01.x02 = u at *
  unfold V4.x03; split <;> first | omega | (dsimp only; omega)
theorem down_two (u : V4) (h : u.b ≤ u.a ∧ u.c ≤ u.a ∧ u.d ≤ u.a) : u.x12.x13.b ≤ u.x12.x13.a ∧ u.x12.x13.c ≤ u.x12.x13.b ∧ u.x12.x13.d ≤ u.x12.x13.b := by
  have h2 : u.x12.b ≤ u.x12.a ∧ u.x12.c ≤ u.x12.b ∧ u.x12.d ≤ u.x12.a := by
    unfold V4.x12; split <;> first | omega | (dsimp only; omega)
  generalize u.x12 = v at *
  unfold V4.x13; split <;> first | omega | (dsimp only; omega)
theorem down_falls (v : V4) : (downV v).b ≤ (downV v).a ∧ (downV v).c ≤ (downV v).b ∧ (downV v).d ≤ (downV v).c := by
  have h := down_two _ (down_one v)
  unfold downV
  generalize v.x01.x02.x03.x12.x13 = u at *
  unfold V4.x23; split <;> first | omega | (dsimp only; omega)
theorem down_row (v : V4) : (downV v).row.Pairwise fun x y => y ≤ x := by
  obtain ⟨h1, h2, h3⟩ := down_falls v
  simp only [V4.row, List.pairwise_cons, List.mem_cons, List.not_mem_nil, or_false, forall_eq_or_imp, forall_eq, List.Pairwise.nil, false_imp_iff, implies_true, and_true]
  omega
/-- Of four numbers there is one falling order. -/
theorem down_is {v : V4} {l : List Int} (hp : l.Perm v.row) (hs : l.Pairwise fun x y => y ≤ x) : l = (downV v).row :=
  List.Perm.eq_of_pairwise (fun a b _ _ h1 h2 => Int.le_antisymm h2 h1) hs (down_row v) (hp.trans (down_perm v).symm)

def lexV (x y : V4) : Bool := decide (x.a < y.a ∨ x.a = y.a ∧ (x.b < y.b ∨ x.b = y.b ∧ (x.c < y.c ∨ x.c = y.c ∧ x.d < y.d)))
/-- What is tighter. -/
def tightV (a b : V4) : Bool := lexV (downV a) (downV b)
def cmpL (x y : V4) : Int := if cmpI x.a y.a ≠ 0 then cmpI x.a y.a else if cmpI x.b y.b ≠ 0 then cmpI x.b y.b else if cmpI x.c y.c ≠ 0 then cmpI x.c y.c else cmpI x.d y.d
def cmpV (a b : V4) : Int := cmpL (downV a) (downV b)
theorem cmpI_cases (a b : Int) : (a < b ∧ cmpI a b = -1) ∨ (a = b ∧ cmpI a b = 0) ∨ (b < a ∧ cmpI a b = 1) := by
  unfold cmpI
  by_cases h : a < b
  · exact .inl ⟨h, by simp [h]⟩
  · by_cases h2 : b < a
    · exact .inr (.inr ⟨h2, by simp [h, h2]⟩)
    · exact .inr (.inl ⟨by omega, by simp [h, h2]⟩)
theorem cmpL_neg (x y : V4) : decide (cmpL x y < 0) = lexV x y := by
  unfold lexV cmpL
  refine decide_eq_decide.2 ?_
  rcases cmpI_cases x.a y.a with ⟨h1, h2⟩ | ⟨h1, h2⟩ | ⟨h1, h2⟩ <;> rw [h2]
  · simp; omega
  · simp only [ne_eq, not_true_eq_false, if_false]
    rcases cmpI_cases x.b y.b with ⟨h3, h4⟩ | ⟨h3, h4⟩ | ⟨h3, h4⟩ <;> rw [h4]
    · simp; omega
    · simp only [ne_eq, not_true_eq_false, if_false]
      rcases cmpI_cases x.c y.c with ⟨h5, h6⟩ | ⟨h5, h6⟩ | ⟨h5, h6⟩ <;> rw [h6]
      · simp; omega
      · simp only [ne_eq, not_true_eq_false, if_false]
        rcases cmpI_cases x.d y.d with ⟨h7, h8⟩ | ⟨h7, h8⟩ | ⟨h7, h8⟩ <;> rw [h8]
        · simp; omega
        · simp; omega
        · simp; omega
      · simp; omega
    · simp; omega
  · simp; omega
theorem cmpV_neg (a b : V4) : decide (cmpV a b < 0) = tightV a b := cmpL_neg _ _
theorem tight_irrefl (a : V4) : tightV a a = false := by
  unfold tightV lexV
  simp
theorem tight_trans {a b c : V4} (h1 : tightV a b = true) (h2 : tightV b c = true) : tightV a c = true := by
  unfold tightV lexV at *
  simp only [decide_eq_true_eq] at *
  omega

/-- A node where a request fits, and what is left there then. -/
structure SiteD where
  node : Int
  left : V4
def leftAt (ns : List NodeD) (l : List PodD) (req : V4) (id : Int) : Option V4 := if (restD ns l id).2 = 0 then subV (restD ns l id).1 req else none
def siteAt (ns : List NodeD) (l : List PodD) (req : V4) (id : Int) : List SiteD := match leftAt ns l req id with
  | some v => [⟨id, v⟩]
  | none => []
def sitesD (ns : List NodeD) (l : List PodD) (req : V4) : List NodeD → List SiteD
  | [] => []
  | n :: r => siteAt ns l req n.id ++ sitesD ns l req r
theorem sites_append (ns : List NodeD) (l : List PodD) (req : V4) : ∀ (m k : List NodeD), sitesD ns l req (m ++ k) = sitesD ns l req m ++ sitesD ns l req k
  | [], k => rfl
  | n :: r, k => by simp only [List.cons_append, sitesD, sites_append ns l req r k, List.append_assoc]
theorem sites_take {ns : List NodeD} {l : List PodD} {req : V4} {m : List NodeD} {k : Nat} (h : k < m.length) {n : NodeD} (hn : m[k] = n) :
    sitesD ns l req (m.take (k + 1)) = sitesD ns l req (m.take k) ++ siteAt ns l req n.id := by
  rw [List.take_succ_eq_append_getElem h, hn, sites_append]
  simp [sitesD]
theorem sites_len (ns : List NodeD) (l : List PodD) (req : V4) : ∀ m : List NodeD, (sitesD ns l req m).length ≤ m.length
  | [] => by simp [sitesD]
  | n :: r => by
    have := sites_len ns l req r
    simp only [sitesD, siteAt]
    split <;> simp <;> omega
theorem siteAt_some {ns : List NodeD} {l : List PodD} {req : V4} {id : Int} {v : V4} (h : leftAt ns l req id = some v) : siteAt ns l req id = [⟨id, v⟩] := by simp only [siteAt, h]
theorem siteAt_none {ns : List NodeD} {l : List PodD} {req : V4} {id : Int} (h : leftAt ns l req id = none) : siteAt ns l req id = [] := by simp only [siteAt, h]
theorem site_left {ns : List NodeD} {l : List PodD} {req : V4} {x : SiteD} : ∀ {m : List NodeD}, x ∈ sitesD ns l req m → leftAt ns l req x.node = some x.left
  | [], h => by simp [sitesD] at h
  | n :: r, h => by
    rw [sitesD, List.mem_append] at h
    rcases h with h | h
    · rcases hl : leftAt ns l req n.id with _ | v
      · rw [siteAt_none hl] at h; simp at h
      · rw [siteAt_some hl] at h
        simp only [List.mem_cons, List.not_mem_nil, or_false] at h
        subst h
        exact hl
    · exact site_left h
theorem left_rest {ns : List NodeD} {l : List PodD} {req v : V4} {id : Int} (h : leftAt ns l req id = some v) : (restD ns l id).2 = 0 ∧ subV (restD ns l id).1 req = some v := by
  unfold leftAt at h
  split at h
  · exact ⟨by assumption, h⟩
  · cases h
/-- The first one with which none leaves something tighter. -/
def pickS (m : SiteD) (l : List SiteD) : SiteD := l.foldl (fun m x => if tightV x.left m.left = true then x else m) m
def firstS : List SiteD → Int
  | [] => 0
  | x :: _ => x.node
def bestS : List SiteD → Int
  | [] => 0
  | x :: r => (pickS x r).node
theorem pick_mem : ∀ {l : List SiteD} {m : SiteD}, pickS m l = m ∨ pickS m l ∈ l
  | [], m => .inl rfl
  | x :: r, m => by
    show pickS (if tightV x.left m.left = true then x else m) r = m ∨ pickS (if tightV x.left m.left = true then x else m) r ∈ x :: r
    split
    · rcases pick_mem (l := r) (m := x) with h | h
      · exact .inr (by rw [h]; simp)
      · exact .inr (List.mem_cons_of_mem _ h)
    · rcases pick_mem (l := r) (m := m) with h | h
      · exact .inl h
      · exact .inr (List.mem_cons_of_mem _ h)
theorem pick_in (m : SiteD) (l : List SiteD) : pickS m l ∈ m :: l := by
  rcases pick_mem (l := l) (m := m) with h | h
  · rw [h]; simp
  · exact List.mem_cons_of_mem _ h
theorem pick_snoc (m : SiteD) (l : List SiteD) (x : SiteD) : pickS m (l ++ [x]) = if tightV x.left (pickS m l).left = true then x else pickS m l := by
  unfold pickS
  rw [List.foldl_append]; rfl
theorem pick_not : ∀ {l : List SiteD} {m : SiteD} {k : V4}, tightV k m.left = false → tightV k (pickS m l).left = false
  | [], m, k, h => h
  | x :: r, m, k, h => by
    show tightV k (pickS (if tightV x.left m.left = true then x else m) r).left = false
    split
    · rename_i hx
      refine pick_not ?_
      cases hk : tightV k x.left with
      | false => rfl
      | true => rw [tight_trans hk hx] at h; cases h
    · exact pick_not h
/-- None leaves something tighter than the best one. -/
theorem pick_least : ∀ {l : List SiteD} {m x : SiteD}, x ∈ m :: l → tightV x.left (pickS m l).left = false
  | l, m, x, h => by
    rcases List.mem_cons.1 h with h | h
    · subst h
      exact pick_not (tight_irrefl _)
    · induction l generalizing m with
      | nil => simp at h
      | cons y r ih =>
        show tightV x.left (pickS (if tightV y.left m.left = true then y else m) r).left = false
        rcases List.mem_cons.1 h with h2 | h2
        · subst h2
          split
          · exact pick_not (tight_irrefl _)
          · rename_i hx
            exact pick_not (by simpa using hx)
        · split
          · exact ih _ (List.mem_cons_of_mem _ h2) h2
          · exact ih _ (List.mem_cons_of_mem _ h2) h2
end Go.Proofs.Ytffdemagdagmpaa

namespace Go.Proofs.Ytffdemagdagmpaa
set_option linter.unusedSimpArgs false
open Go.RowKit
set_option linter.unusedVariables false

theorem below_drewN {B : Nat} {a w : World} (h : Below B a w) (n : Nat) : Below B a (w.drewN n) := ⟨h.os, h.tape, h.output, h.size, h.block⟩
theorem add64_ok (x y : Int) (hx : 0 ≤ x) (hy : 0 ≤ y) (h : x + y < 18446744073709551616) (w : World) :
    (callFunc 46 #[.int .u64 x, .int .u64 y, .int .u64 0]).run Try.prog w = .ok (.value (.tuple #[.int .u64 (x + y), .int .u64 0])) w := by
  rw [run_callFunc_extern Try.func46 (by kernel_rfl) (by kernel_rfl) (by kernel_rfl) (e := add64Entry) (by kernel_rfl),
    run_add64 (P := Try.prog) x y 0 hx hy (by omega) (by omega) w]
  rw [show (x + y + 0) % 18446744073709551616 = x + y by omega, show (x + y + 0) / 18446744073709551616 = 0 by omega]
  rfl
theorem add64_over (x y : Int) (hx : 0 ≤ x) (hy : 0 ≤ y) (hx1 : x < 18446744073709551616) (hy1 : y < 18446744073709551616) (h : 18446744073709551616 ≤ x + y) (w : World) :
    (callFunc 46 #[.int .u64 x, .int .u64 y, .int .u64 0]).run Try.prog w = .ok (.value (.tuple #[.int .u64 ((x + y) % 18446744073709551616), .int .u64 1])) w := by
  rw [run_callFunc_extern Try.func46 (by kernel_rfl) (by kernel_rfl) (by kernel_rfl) (e := add64Entry) (by kernel_rfl),
    run_add64 (P := Try.prog) x y 0 hx hy (by omega) (by omega) w]
  rw [show x + y + 0 = x + y by omega, show (x + y) / 18446744073709551616 = 1 by omega]
  rfl
theorem sub64_ok (x y : Int) (hx : 0 ≤ x) (hy : 0 ≤ y) (hx1 : x < 18446744073709551616) (h : y ≤ x) (w : World) :
    (callFunc 27 #[.int .u64 x, .int .u64 y, .int .u64 0]).run Try.prog w = .ok (.value (.tuple #[.int .u64 (x - y), .int .u64 0])) w := by
  obtain ⟨x, rfl⟩ := Int.eq_ofNat_of_zero_le hx
  obtain ⟨y, rfl⟩ := Int.eq_ofNat_of_zero_le hy
  rw [run_callFunc_extern Try.func27 (by kernel_rfl) (by kernel_rfl) (by kernel_rfl) (e := sub64Entry) (by kernel_rfl), show (sub64Entry #[.int .u64 x, .int .u64 y, .int .u64 0]).run Try.prog w = _ from run_sub64 x y 0 (by omega) w]
  rw [if_neg (by omega), show (((x + 18446744073709551616 - y - 0) % 18446744073709551616 : Nat) : Int) = x - y by omega]
  rfl
theorem sub64_over (x y : Int) (hx : 0 ≤ x) (hy : 0 ≤ y) (h : x < y) (w : World) :
    (callFunc 27 #[.int .u64 x, .int .u64 y, .int .u64 0]).run Try.prog w = .ok (.value (.tuple #[.int .u64 ((x + 18446744073709551616 - y).toNat % 18446744073709551616 : Nat), .int .u64 1])) w := by
  obtain ⟨x, rfl⟩ := Int.eq_ofNat_of_zero_le hx
  obtain ⟨y, rfl⟩ := Int.eq_ofNat_of_zero_le hy
  rw [run_callFunc_extern Try.func27 (by kernel_rfl) (by kernel_rfl) (by kernel_rfl) (e := sub64Entry) (by kernel_rfl), show (sub64Entry #[.int .u64 x, .int .u64 y, .int .u64 0]).run Try.prog w = _ from run_sub64 x y 0 (by omega) w]
  rw [if_pos (by omega), show ((x : Int) + 18446744073709551616 - y).toNat = x + 18446744073709551616 - y - 0 by omega]
  rfl

end Go.Proofs.Ytffdemagdagmpaa
