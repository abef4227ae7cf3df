/- Joined texts, part 3: CR WM IA CZ IB VecA. -/
import Derived.Test.YtedcmchdapfhhaaZ01
import Derived.ChangeSame
import Derived.RowKit
import Derived.RowKitTokens
import Derived.Carry
import Derived.Deep.Slices
import Derived.Laws.IdiomArrays
import Derived.Lib.SmallJoins
import Derived.Test.YtedcmchdapfhhaaZ02
import Derived.Deep.QuietTactic
import Derived.BigQuiet
import Derived.RangeFuncBox
import Derived.RangeFuncLeaves
import Derived.Shelf.Abstract
import Derived.WalkKit
import Derived.OwnWalkIn
import Derived.TacticsInMore
import Derived.LoopNIn
import Derived.LoopIn
import Derived.Maps.AppendAt
import Derived.Sort.OwnSortedInts
import Derived.Lib.OwnBridge
import Derived.Sort.Grow
import Derived.Test.YtedcmchdapfhhaaRows
import Derived.WalkSpells
import Derived.WalkLawsBesides
import Derived.Laws.Externs
import Derived.Shelf.Spec.BitsCarry
import Derived.Lib.Hide

/- How snapshots and specs are read as data. -/
namespace Go.Proofs.Ytedcmchdapfhhaa
set_option linter.unusedSimpArgs false
open Go.ChangeShapes Go.WideShapes Go.RowKit

def I64 (n : Int) : Prop := -9223372036854775808 ≤ n ∧ n ≤ 9223372036854775807
def U64 (n : Int) : Prop := 0 ≤ n ∧ n < 18446744073709551616
def V4.Ok (x : V4) : Prop := U64 x.a ∧ U64 x.b ∧ U64 x.c ∧ U64 x.d
def NodeD.Ok (x : NodeD) : Prop := I64 x.id ∧ I64 x.zone ∧ x.cap.Ok ∧ x.held.Ok
def LoadD.Ok (x : LoadD) : Prop := I64 x.id ∧ I64 x.skew ∧ I64 x.min ∧ I64 x.max
def PodD.Ok (x : PodD) : Prop := I64 x.id ∧ I64 x.load ∧ I64 x.prio ∧ x.req.Ok ∧ I64 x.node
def WantD.Ok (x : WantD) : Prop := I64 x.pod ∧ x.req.Ok

theorem wf_i64' {n : Int} (h : (Lit.int .i64 n).wf = true) : I64 n := by
  simp [Lit.wf, IntKind.min, IntKind.max, IntKind.signed, IntKind.bits] at h
  exact ⟨by omega, by omega⟩
theorem wf_u64' {n : Int} (h : (Lit.int .u64 n).wf = true) : U64 n := by
  simp [Lit.wf, IntKind.min, IntKind.max, IntKind.signed, IntKind.bits] at h
  exact ⟨by omega, by omega⟩
theorem Try.cells34 : Try.prog.cellsOf 34 = 1 := by kernel_rfl
theorem Try.cells36 : Try.prog.cellsOf 36 = 4 := by kernel_rfl
theorem Try.cells3 : Try.prog.cellsOf 3 = 1 := by kernel_rfl
theorem Try.cells4 : Try.prog.cellsOf 4 = 1 := by kernel_rfl
theorem Try.cellsN : Try.prog.cellsOf 48 = 10 := by kernel_rfl
theorem Try.cellsL : Try.prog.cellsOf 151 = 5 := by kernel_rfl
theorem Try.cellsP : Try.prog.cellsOf 38 = 8 := by kernel_rfl
theorem Try.cellsW : Try.prog.cellsOf 82 = 6 := by kernel_rfl
theorem Try.cellsS : Try.prog.cellsOf 26 = 3 := by kernel_rfl
theorem Try.cellsX : Try.prog.cellsOf 29 = 3 := by kernel_rfl

theorem list5 {α : Type} (l : List α) (h : l.length = 5) : ∃ c0 c1 c2 c3 c4, l = [c0, c1, c2, c3, c4] := by
  match l, h with
  | [c0, c1, c2, c3, c4], _ => exact ⟨c0, c1, c2, c3, c4, rfl⟩
theorem list6 {α : Type} (l : List α) (h : l.length = 6) : ∃ c0 c1 c2 c3 c4 c5, l = [c0, c1, c2, c3, c4, c5] := by
  match l, h with
  | [c0, c1, c2, c3, c4, c5], _ => exact ⟨c0, c1, c2, c3, c4, c5, rfl⟩
theorem list8 {α : Type} (l : List α) (h : l.length = 8) : ∃ c0 c1 c2 c3 c4 c5 c6 c7, l = [c0, c1, c2, c3, c4, c5, c6, c7] := by
  match l, h with
  | [c0, c1, c2, c3, c4, c5, c6, c7], _ => exact ⟨c0, c1, c2, c3, c4, c5, c6, c7, rfl⟩
theorem list10 {α : Type} (l : List α) (h : l.length = 10) : ∃ c0 c1 c2 c3 c4 c5 c6 c7 c8 c9, l = [c0, c1, c2, c3, c4, c5, c6, c7, c8, c9] := by
  match l, h with
  | [c0, c1, c2, c3, c4, c5, c6, c7, c8, c9], _ => exact ⟨c0, c1, c2, c3, c4, c5, c6, c7, c8, c9, rfl⟩

section
variable {H : Type} {enc : TypeId × Value → H} {w : World} {base : Nat} {sp : Nat → Bool} {held : Bool}
theorem int_of {n : Nat} {c : Value} {x : Option (DataW H × List MemPlace)} (hx : x.isSome = true) (h : DataW.trod enc Try.prog w base sp held n 3 [c] = x) : ∃ k, c = .int .i64 k ∧ I64 k := by
  obtain ⟨y, rfl⟩ := Option.isSome_iff_exists.1 hx
  obtain ⟨k, e, _, hw⟩ := DataW.trod_int Try.underlying3 h
  exact ⟨k, by simpa using e, wf_i64' hw⟩
theorem bool_of {n : Nat} {c : Value} {x : Option (DataW H × List MemPlace)} (hx : x.isSome = true) (h : DataW.trod enc Try.prog w base sp held n 4 [c] = x) : ∃ k, c = .bool k := by
  obtain ⟨y, rfl⟩ := Option.isSome_iff_exists.1 hx
  obtain ⟨k, e, _⟩ := DataW.trod_bool Try.underlying4 h
  exact ⟨k, by simpa using e⟩
theorem vec_of {n : Nat} {c0 c1 c2 c3 : Value} {x : Option (DataW H × List MemPlace)} (hx : x.isSome = true) (h : DataW.trod enc Try.prog w base sp held n 36 [c0, c1, c2, c3] = x) :
    ∃ v : V4, c0 = .int .u64 v.a ∧ c1 = .int .u64 v.b ∧ c2 = .int .u64 v.c ∧ c3 = .int .u64 v.d ∧ v.Ok := by
  obtain ⟨y, rfl⟩ := Option.isSome_iff_exists.1 hx
  obtain ⟨y0, y1, y2, y3, m, _, hy0, hy1, hy2, hy3⟩ := trod_array4 Try.underlying36 Try.cells34 h
  obtain ⟨x0, e0, _, w0⟩ := DataW.trod_int Try.underlying34 hy0
  obtain ⟨x1, e1, _, w1⟩ := DataW.trod_int Try.underlying34 hy1
  obtain ⟨x2, e2, _, w2⟩ := DataW.trod_int Try.underlying34 hy2
  obtain ⟨x3, e3, _, w3⟩ := DataW.trod_int Try.underlying34 hy3
  exact ⟨⟨x0, x1, x2, x3⟩, by simpa using e0, by simpa using e1, by simpa using e2, by simpa using e3, wf_u64' w0, wf_u64' w1, wf_u64' w2, wf_u64' w3⟩
theorem some_at {α : Type} {l : List α} {i n : Nat} (h : l.length = n) (hi : i < n) : (l[i]?).isSome = true := by
  rw [List.getElem?_eq_getElem (by omega)]; rfl

theorem node_of {n : Nat} {cs : List Value} {x : DataW H × List MemPlace} (hl : cs.length = 10) (h : DataW.trod enc Try.prog w base sp held n 48 cs = some x) : ∃ a : NodeD, cs = cellsN a ∧ a.Ok := by
  obtain ⟨xs, m, rfl, _, _, hxl, hf⟩ := DataW.trod_struct Try.underlying48 h
  obtain ⟨c0, c1, c2, c3, c4, c5, c6, c7, c8, c9, rfl⟩ := list10 cs hl
  have h0 : DataW.trod enc Try.prog w base sp held m 3 (([c0, c1, c2, c3, c4, c5, c6, c7, c8, c9].drop 0).take (Try.prog.cellsOf 3)) = xs[0]? := hf 0 _ rfl
  rw [Try.cells3, show ([c0, c1, c2, c3, c4, c5, c6, c7, c8, c9].drop 0).take 1 = [c0] from rfl] at h0
  have h1 : DataW.trod enc Try.prog w base sp held m 3 (([c0, c1, c2, c3, c4, c5, c6, c7, c8, c9].drop 1).take (Try.prog.cellsOf 3)) = xs[1]? := hf 1 _ rfl
  rw [Try.cells3, show ([c0, c1, c2, c3, c4, c5, c6, c7, c8, c9].drop 1).take 1 = [c1] from rfl] at h1
  have h2 : DataW.trod enc Try.prog w base sp held m 36 (([c0, c1, c2, c3, c4, c5, c6, c7, c8, c9].drop 2).take (Try.prog.cellsOf 36)) = xs[2]? := hf 2 _ rfl
  rw [Try.cells36, show ([c0, c1, c2, c3, c4, c5, c6, c7, c8, c9].drop 2).take 4 = [c2, c3, c4, c5] from rfl] at h2
  have h3 : DataW.trod enc Try.prog w base sp held m 36 (([c0, c1, c2, c3, c4, c5, c6, c7, c8, c9].drop 6).take (Try.prog.cellsOf 36)) = xs[3]? := hf 3 _ rfl
  rw [Try.cells36, show ([c0, c1, c2, c3, c4, c5, c6, c7, c8, c9].drop 6).take 4 = [c6, c7, c8, c9] from rfl] at h3
  obtain ⟨k0, rfl, i0⟩ := int_of (some_at hxl (by simp)) h0
  obtain ⟨k1, rfl, i1⟩ := int_of (some_at hxl (by simp)) h1
  obtain ⟨v2, rfl, rfl, rfl, rfl, i2⟩ := vec_of (some_at hxl (by simp)) h2
  obtain ⟨v3, rfl, rfl, rfl, rfl, i3⟩ := vec_of (some_at hxl (by simp)) h3
  exact ⟨⟨k0, k1, v2, v3⟩, rfl, i0, i1, i2, i3⟩
theorem load_of {n : Nat} {cs : List Value} {x : DataW H × List MemPlace} (hl : cs.length = 5) (h : DataW.trod enc Try.prog w base sp held n 151 cs = some x) : ∃ a : LoadD, cs = cellsL a ∧ a.Ok := by
  obtain ⟨xs, m, rfl, _, _, hxl, hf⟩ := DataW.trod_struct Try.underlying151 h
  obtain ⟨c0, c1, c2, c3, c4, rfl⟩ := list5 cs hl
  have h0 : DataW.trod enc Try.prog w base sp held m 3 (([c0, c1, c2, c3, c4].drop 0).take (Try.prog.cellsOf 3)) = xs[0]? := hf 0 _ rfl
  rw [Try.cells3, show ([c0, c1, c2, c3, c4].drop 0).take 1 = [c0] from rfl] at h0
  have h1 : DataW.trod enc Try.prog w base sp held m 4 (([c0, c1, c2, c3, c4].drop 1).take (Try.prog.cellsOf 4)) = xs[1]? := hf 1 _ rfl
  rw [Try.cells4, show ([c0, c1, c2, c3, c4].drop 1).take 1 = [c1] from rfl] at h1
  have h2 : DataW.trod enc Try.prog w base sp held m 3 (([c0, c1, c2, c3, c4].drop 2).take (Try.prog.cellsOf 3)) = xs[2]? := hf 2 _ rfl
  rw [Try.cells3, show ([c0, c1, c2, c3, c4].drop 2).take 1 = [c2] from rfl] at h2
  have h3 : DataW.trod enc Try.prog w base sp held m 3 (([c0, c1, c2, c3, c4].drop 3).take (Try.prog.cellsOf 3)) = xs[3]? := hf 3 _ rfl
  rw [Try.cells3, show ([c0, c1, c2, c3, c4].drop 3).take 1 = [c3] from rfl] at h3
  have h4 : DataW.trod enc Try.prog w base sp held m 3 (([c0, c1, c2, c3, c4].drop 4).take (Try.prog.cellsOf 3)) = xs[4]? := hf 4 _ rfl
  rw [Try.cells3, show ([c0, c1, c2, c3, c4].drop 4).take 1 = [c4] from rfl] at h4
  obtain ⟨k0, rfl, i0⟩ := int_of (some_at hxl (by simp)) h0
  obtain ⟨k1, rfl⟩ := bool_of (some_at hxl (by simp)) h1
  obtain ⟨k2, rfl, i2⟩ := int_of (some_at hxl (by simp)) h2
  obtain ⟨k3, rfl, i3⟩ := int_of (some_at hxl (by simp)) h3
  obtain ⟨k4, rfl, i4⟩ := int_of (some_at hxl (by simp)) h4
  exact ⟨⟨k0, k1, k2, k3, k4⟩, rfl, i0, i2, i3, i4⟩
theorem pod_of {n : Nat} {cs : List Value} {x : DataW H × List MemPlace} (hl : cs.length = 8) (h : DataW.trod enc Try.prog w base sp held n 38 cs = some x) : ∃ a : PodD, cs = cellsP a ∧ a.Ok := by
  obtain ⟨xs, m, rfl, _, _, hxl, hf⟩ := DataW.trod_struct Try.underlying38 h
  obtain ⟨c0, c1, c2, c3, c4, c5, c6, c7, rfl⟩ := list8 cs hl
  have h0 : DataW.trod enc Try.prog w base sp held m 3 (([c0, c1, c2, c3, c4, c5, c6, c7].drop 0).take (Try.prog.cellsOf 3)) = xs[0]? := hf 0 _ rfl
  rw [Try.cells3, show ([c0, c1, c2, c3, c4, c5, c6, c7].drop 0).take 1 = [c0] from rfl] at h0
  have h1 : DataW.trod enc Try.prog w base sp held m 3 (([c0, c1, c2, c3, c4, c5, c6, c7].drop 1).take (Try.prog.cellsOf 3)) = xs[1]? := hf 1 _ rfl
  rw [Try.cells3, show ([c0, c1, c2, c3, c4, c5, c6, c7].drop 1).take 1 = [c1] from rfl] at h1
  have h2 : DataW.trod enc Try.prog w base sp held m 3 (([c0, c1, c2, c3, c4, c5, c6, c7].drop 2).take (Try.prog.cellsOf 3)) = xs[2]? := hf 2 _ rfl
  rw [Try.cells3, show ([c0, c1, c2, c3, c4, c5, c6, c7].drop 2).take 1 = [c2] from rfl] at h2
  have h3 : DataW.trod enc Try.prog w base sp held m 36 (([c0, c1, c2, c3, c4, c5, c6, c7].drop 3).take (Try.prog.cellsOf 36)) = xs[3]? := hf 3 _ rfl
  rw [Try.cells36, show ([c0, c1, c2, c3, c4, c5, c6, c7].drop 3).take 4 = [c3, c4, c5, c6] from rfl] at h3
  have h4 : DataW.trod enc Try.prog w base sp held m 3 (([c0, c1, c2, c3, c4, c5, c6, c7].drop 7).take (Try.prog.cellsOf 3)) = xs[4]? := hf 4 _ rfl
  rw [Try.cells3, show ([c0, c1, c2, c3, c4, c5, c6, c7].drop 7).take 1 = [c7] from rfl] at h4
  obtain ⟨k0, rfl, i0⟩ := int_of (some_at hxl (by simp)) h0
  obtain ⟨k1, rfl, i1⟩ := int_of (some_at hxl (by simp)) h1
  obtain ⟨k2, rfl, i2⟩ := int_of (some_at hxl (by simp)) h2
  obtain ⟨v3, rfl, rfl, rfl, rfl, i3⟩ := vec_of (some_at hxl (by simp)) h3
  obtain ⟨k4, rfl, i4⟩ := int_of (some_at hxl (by simp)) h4
  exact ⟨⟨k0, k1, k2, v3, k4⟩, rfl, i0, i1, i2, i3, i4⟩
theorem want_of {n : Nat} {cs : List Value} {x : DataW H × List MemPlace} (hl : cs.length = 6) (h : DataW.trod enc Try.prog w base sp held n 82 cs = some x) : ∃ a : WantD, cs = cellsW a ∧ a.Ok := by
  obtain ⟨xs, m, rfl, _, _, hxl, hf⟩ := DataW.trod_struct Try.underlying82 h
  obtain ⟨c0, c1, c2, c3, c4, c5, rfl⟩ := list6 cs hl
  have h0 : DataW.trod enc Try.prog w base sp held m 3 (([c0, c1, c2, c3, c4, c5].drop 0).take (Try.prog.cellsOf 3)) = xs[0]? := hf 0 _ rfl
  rw [Try.cells3, show ([c0, c1, c2, c3, c4, c5].drop 0).take 1 = [c0] from rfl] at h0
  have h1 : DataW.trod enc Try.prog w base sp held m 36 (([c0, c1, c2, c3, c4, c5].drop 1).take (Try.prog.cellsOf 36)) = xs[1]? := hf 1 _ rfl
  rw [Try.cells36, show ([c0, c1, c2, c3, c4, c5].drop 1).take 4 = [c1, c2, c3, c4] from rfl] at h1
  have h2 : DataW.trod enc Try.prog w base sp held m 4 (([c0, c1, c2, c3, c4, c5].drop 5).take (Try.prog.cellsOf 4)) = xs[2]? := hf 2 _ rfl
  rw [Try.cells4, show ([c0, c1, c2, c3, c4, c5].drop 5).take 1 = [c5] from rfl] at h2
  obtain ⟨k0, rfl, i0⟩ := int_of (some_at hxl (by simp)) h0
  obtain ⟨v1, rfl, rfl, rfl, rfl, i1⟩ := vec_of (some_at hxl (by simp)) h1
  obtain ⟨k2, rfl⟩ := bool_of (some_at hxl (by simp)) h2
  exact ⟨⟨k0, v1, k2⟩, rfl, i0, i1⟩

/-- A slice of records that came in: nil or not. -/
theorem open_recs {α : Type} {size : Nat} {cells : α → List Value} {Ok : α → Prop} {t e : TypeId} {v : Value} {fuel : Nat} {x : DataW H × List MemPlace} (ht : Try.prog.underlying t = some (.slice e)) (hC : Try.prog.cellsOf e = size) (hs : 0 < size)
    (hof : ∀ (n : Nat) (cs : List Value) (x : DataW H × List MemPlace), cs.length = size → DataW.trod enc Try.prog w base sp held n e cs = some x → ∃ a : α, cs = cells a ∧ Ok a)
    (h : DataW.trod enc Try.prog w base sp held fuel t [v] = some x) :
    ∃ (A : Option Addr) (c : Nat) (l : List α), v = .slice A l.length c ∧ l.length ≤ c ∧ c ≤ maxLen ∧ (A = none → c = 0) ∧ Recs size cells w w.heap.size A l ∧ ∀ a ∈ l, Ok a := by
  rcases Go.Deep.open_slice ht h with ⟨hc, _⟩ | ⟨a, n, cap, m, fu, D, Pl, hc, _, hl, hm, hmm, _, hel⟩
  · have hv : v = .slice none 0 0 := by simpa using hc
    exact ⟨none, 0, [], hv, by simp, by unfold maxLen; omega, fun _ => rfl, Recs.nil, fun _ h => by simp at h⟩
  · have hv : v = .slice (some a) n cap := by simpa using hc
    have hnm : n ≤ m := by rw [hmm]; split <;> omega
    have key : ∀ i, i < n → ∃ r : α, (∀ j u, (cells r)[j]? = some u → w.cell? ((a.add (i * size)).add j) = some u) ∧ Ok r ∧ (cells r).length = size := by
      intro i hi
      obtain ⟨cs, h1, h2⟩ := hel i (by omega)
      rw [hC] at h1
      obtain ⟨_, hlen, hat⟩ := World.cells?_some h1
      obtain ⟨r, rfl, hr⟩ := hof _ cs _ hlen h2
      refine ⟨r, fun j u hu => ?_, hr, hlen⟩
      have hj : j < size := by rw [← hlen]; exact (List.getElem?_eq_some_iff.1 hu).1
      exact (hat j hj).trans hu
    rcases Nat.eq_zero_or_pos n with hn0 | hn0
    · subst hn0
      exact ⟨some a, cap, [], by simp [hv], by simp, hm, fun h => by (cases h), Recs.nil, fun _ h => by simp at h⟩
    haveI : Inhabited α := ⟨Classical.choose (key 0 hn0)⟩
    obtain ⟨r, hr⟩ := Go.Deep.choose_lt key
    refine ⟨some a, cap, (List.range n).map r, by simp [hv], by simpa using hl, hm, fun h => by (cases h), ?_, fun y hy => ?_⟩
    · by_cases h0 : n = 0
      · exact .inl (by simp [h0])
      · obtain ⟨ab, ao, spot⟩ := a
        have hl0 := (hr 0 (by omega)).2.2
        have hc0 := (hr 0 (by omega)).1 0 _ (List.getElem?_eq_getElem (show 0 < (cells (r 0)).length by omega))
        have hspot : spot = none := by simpa [Addr.add] using World.cell?_spot hc0
        subst hspot
        have hlt := World.block_lt_of_cell? _ _ hc0
        simp only [Addr.add_lit] at hlt
        refine .inr ⟨ab, ao, rfl, hlt, fun i hi j u hu => ?_⟩
        have hi' : i < n := by simpa using hi
        simp only [List.getElem_map, List.getElem_range] at hu
        have := (hr i hi').1 j u hu
        simpa [Addr.add_lit] using this
    · simp only [List.mem_map, List.mem_range] at hy
      obtain ⟨i, hi, rfl⟩ := hy
      exact (hr i hi).2.1
set_option maxRecDepth 100000 in
/-- A snapshot by value. -/
theorem open_snap {r : Reach} {b0 : Nat} {v : Value} {d : DataW H} {ps : List MemPlace} (hval : Value.okWide Try.prog w r b0 26 v) (h : DataW.Trod enc Try.prog w base sp held 26 v d ps) :
    ∃ (s : SnapD) (A1 A2 A3 : Option Addr) (c1 c2 c3 : Nat), v = .agg #[.slice A1 s.nodes.length c1, .slice A2 s.loads.length c2, .slice A3 s.pods.length c3] ∧
      (s.nodes.length ≤ c1 ∧ c1 ≤ maxLen ∧ (A1 = none → c1 = 0) ∧ Recs 10 cellsN w w.heap.size A1 s.nodes ∧ ∀ a ∈ s.nodes, a.Ok) ∧
      (s.loads.length ≤ c2 ∧ c2 ≤ maxLen ∧ (A2 = none → c2 = 0) ∧ Recs 5 cellsL w w.heap.size A2 s.loads ∧ ∀ a ∈ s.loads, a.Ok) ∧
      (s.pods.length ≤ c3 ∧ c3 ≤ maxLen ∧ (A3 = none → c3 = 0) ∧ Recs 8 cellsP w w.heap.size A3 s.pods ∧ ∀ a ∈ s.pods, a.Ok) := by
  obtain ⟨v0, v1, v2, y0, y1, y2, n, rfl, _, _, h0, h1, h2⟩ := Go.Joins.open_agg3 Try.underlying26 (by kernel_rfl) Try.cellsS hval h
  obtain ⟨A1, c1, l1, rfl, p1⟩ := open_recs (Ok := NodeD.Ok) Try.underlying22 Try.cellsN (by decide) (fun _ _ _ hl h => node_of hl h) h0
  obtain ⟨A2, c2, l2, rfl, p2⟩ := open_recs (Ok := LoadD.Ok) Try.underlying23 Try.cellsL (by decide) (fun _ _ _ hl h => load_of hl h) h1
  obtain ⟨A3, c3, l3, rfl, p3⟩ := open_recs (Ok := PodD.Ok) Try.underlying24 Try.cellsP (by decide) (fun _ _ _ hl h => pod_of hl h) h2
  exact ⟨⟨l1, l2, l3⟩, A1, A2, A3, c1, c2, c3, rfl, p1, p2, p3⟩
set_option maxRecDepth 100000 in
/-- A spec by value. -/
theorem open_spec {r : Reach} {b0 : Nat} {v : Value} {d : DataW H} {ps : List MemPlace} (hval : Value.okWide Try.prog w r b0 29 v) (h : DataW.Trod enc Try.prog w base sp held 29 v d ps) :
    ∃ (x : SpecD) (A : Option Addr) (c : Nat), v = .agg #[.slice A x.wants.length c, .int .i64 x.preempts, .int .i64 x.shifts] ∧ I64 x.preempts ∧ I64 x.shifts ∧
      (x.wants.length ≤ c ∧ c ≤ maxLen ∧ (A = none → c = 0) ∧ Recs 6 cellsW w w.heap.size A x.wants ∧ ∀ a ∈ x.wants, a.Ok) := by
  obtain ⟨v0, v1, v2, y0, y1, y2, n, rfl, _, _, h0, h1, h2⟩ := Go.Joins.open_agg3 Try.underlying29 (by kernel_rfl) Try.cellsX hval h
  obtain ⟨A, c, l, rfl, p⟩ := open_recs (Ok := WantD.Ok) Try.underlying27 Try.cellsW (by decide) (fun _ _ _ hl h => want_of hl h) h0
  obtain ⟨k1, rfl, i1⟩ := int_of rfl h1
  obtain ⟨k2, rfl, i2⟩ := int_of rfl h2
  exact ⟨⟨l, k1, k2⟩, A, c, rfl, i1, i2, p⟩
end
end Go.Proofs.Ytedcmchdapfhhaa

/- Plain mathematics of nodes' room; no program stands in it. -/
namespace Go.Proofs.Ytedcmchdapfhhaa
set_option linter.unusedSimpArgs false
open Go.RowKit
set_option linter.unusedVariables false

def V4.add (x y : V4) : V4 := ⟨x.a + y.a, x.b + y.b, x.c + y.c, x.d + y.d⟩
def V4.sub (x y : V4) : V4 := ⟨x.a - y.a, x.b - y.b, x.c - y.c, x.d - y.d⟩
def V4.zer : V4 := ⟨0, 0, 0, 0⟩
def V4.small (x : V4) : Bool := decide (x.a < 18446744073709551616 ∧ x.b < 18446744073709551616 ∧ x.c < 18446744073709551616 ∧ x.d < 18446744073709551616)
/-- The difference, or none: it goes below 0. -/
def subV (x y : V4) : Option V4 := if y.le x then some (x.sub y) else none
def totV : List V4 → V4
  | [] => .zer
  | x :: r => x.add (totV r)
def sumV (l : List V4) : Option V4 := if (totV l).small then some (totV l) else none
def reqsAt (node : Int) : List PodD → List V4
  | [] => []
  | p :: r => if p.node = node then p.req :: reqsAt node r else reqsAt node r
/-- A node's use, or none: it goes over. -/
def useD (l : List PodD) (node : Int) : Option V4 := sumV (reqsAt node l)
/-- What is left of a node beside a use, or none. -/
def leftD (n : NodeD) (u : V4) : Option V4 := match subV n.cap n.held with
  | none => none
  | some f => subV f u
def nodeAt (id : Int) : List NodeD → Option NodeD
  | [] => none
  | x :: r => if x.id = id then some x else nodeAt id r
/-- A node's rest, and an error's number. -/
def restD (ns : List NodeD) (l : List PodD) (id : Int) : V4 × Int :=
  match nodeAt id ns with
  | none => (.zer, 4)
  | some n => match useD l id with
    | none => (.zer, 8)
    | some u => match leftD n u with
      | none => (.zer, 9)
      | some r => (r, 0)
theorem rest_none {ns : List NodeD} {l : List PodD} {id : Int} (h : nodeAt id ns = none) : restD ns l id = (.zer, 4) := by simp only [restD, h]
theorem rest_over {ns : List NodeD} {l : List PodD} {id : Int} {n : NodeD} (h : nodeAt id ns = some n) (h2 : useD l id = none) : restD ns l id = (.zer, 8) := by simp only [restD, h, h2]
theorem rest_room {ns : List NodeD} {l : List PodD} {id : Int} {n : NodeD} {u : V4} (h : nodeAt id ns = some n) (h2 : useD l id = some u) (h3 : leftD n u = none) : restD ns l id = (.zer, 9) := by simp only [restD, h, h2, h3]
theorem rest_some {ns : List NodeD} {l : List PodD} {id : Int} {n : NodeD} {u r : V4} (h : nodeAt id ns = some n) (h2 : useD l id = some u) (h3 : leftD n u = some r) : restD ns l id = (r, 0) := by simp only [restD, h, h2, h3]
theorem left_none {n : NodeD} {u : V4} (h : subV n.cap n.held = none) : leftD n u = none := by simp only [leftD, h]
theorem left_some {n : NodeD} {u f : V4} (h : subV n.cap n.held = some f) : leftD n u = subV f u := by simp only [leftD, h]
theorem rest_zero {ns : List NodeD} {l : List PodD} {id : Int} : (restD ns l id).2 = 0 ↔ ∃ n u r, nodeAt id ns = some n ∧ useD l id = some u ∧ leftD n u = some r ∧ restD ns l id = (r, 0) := by
  constructor
  · intro h
    rcases h1 : nodeAt id ns with _ | n
    · rw [rest_none h1] at h; cases h
    · rcases h2 : useD l id with _ | u
      · rw [rest_over h1 h2] at h; cases h
      · rcases h3 : leftD n u with _ | r
        · rw [rest_room h1 h2 h3] at h; cases h
        · exact ⟨n, u, r, rfl, rfl, h3, rest_some h1 h2 h3⟩
  · rintro ⟨n, u, r, _, _, _, h⟩; rw [h]

theorem nodeAt_no {id : Int} : ∀ {l : List NodeD} {k : Int}, 0 ≤ k → place NodeD.id id l k < 0 → nodeAt id l = none
  | [], _, _, _ => rfl
  | x :: r, k, hk, h => by
    by_cases e : x.id = id
    · simp [place, e] at h; omega
    · simp only [place, if_neg e] at h
      simp only [nodeAt, if_neg e]
      exact nodeAt_no (k := k + 1) (by omega) h
theorem nodeAt_yes {id : Int} : ∀ {l : List NodeD} {k : Int} {i : Nat} (h : i < l.length), 0 ≤ k → place NodeD.id id l k = k + i → nodeAt id l = some l[i]
  | [], _, _, h, _, _ => by simp at h
  | x :: r, k, i, h, hk, hp => by
    by_cases e : x.id = id
    · simp only [place, if_pos e] at hp
      obtain rfl : i = 0 := by omega
      simp [nodeAt, e]
    · simp only [place, if_neg e] at hp
      cases i with
      | zero => have := place_ge (f := NodeD.id) (id := id) (l := r) (k := k + 1) (by omega); rw [hp] at this; exfalso
                have h2 : k + 1 ≤ place NodeD.id id r (k + 1) ∨ place NodeD.id id r (k + 1) < 0 := by
                  by_cases hn : place NodeD.id id r (k + 1) < 0
                  · exact .inr hn
                  · left
                    have : ∀ (r : List NodeD) (k : Int), 0 ≤ k → place NodeD.id id r k < 0 ∨ k ≤ place NodeD.id id r k := by
                      intro r
                      induction r with
                      | nil => intro k _; left; simp [place]
                      | cons y r ih => intro k hk; by_cases e : y.id = id <;> simp only [place, e, if_true, if_false]; exact .inr (Int.le_refl _); rcases ih (k + 1) (by omega) with h | h; exact .inl h; exact .inr (by omega)
                    rcases this r (k + 1) (by omega) with h | h
                    · exact absurd h hn
                    · exact h
                omega
      | succ i =>
        simp only [nodeAt, if_neg e]
        rw [nodeAt_yes (l := r) (k := k + 1) (i := i) (by simpa using h) (by omega) (by omega)]
        simp
theorem sub_le {x y z : V4} (h : subV x y = some z) : z = x.sub y ∧ y.le x = true := by
  unfold subV at h
  split at h
  · rename_i hs; exact ⟨(Option.some.inj h).symm, hs⟩
  · cases h
theorem sub_ok4 {x y z : V4} (hx : x.Ok) (hy : y.Ok) (h : subV x y = some z) : z.Ok := by
  obtain ⟨rfl, hl⟩ := sub_le h
  simp only [V4.le, decide_eq_true_eq] at hl
  simp only [V4.Ok, U64, V4.sub] at *
  omega
theorem tot_pos : ∀ {l : List V4}, (∀ x ∈ l, x.Ok) → 0 ≤ (totV l).a ∧ 0 ≤ (totV l).b ∧ 0 ≤ (totV l).c ∧ 0 ≤ (totV l).d
  | [], _ => by simp [totV, V4.zer]
  | x :: r, h => by
    have h1 := tot_pos (l := r) (fun y hy => h y (List.mem_cons_of_mem _ hy))
    have h2 := h x (List.mem_cons_self ..)
    simp only [V4.Ok, U64] at h2
    simp only [totV, V4.add]
    omega
theorem sum_ok4 {l : List V4} {u : V4} (h : ∀ x ∈ l, x.Ok) (hu : sumV l = some u) : u.Ok := by
  have hp := tot_pos h
  unfold sumV at hu
  split at hu
  · rename_i hs
    have := Option.some.inj hu
    subst this
    simp only [V4.small, decide_eq_true_eq] at hs
    simp only [V4.Ok, U64]
    omega
  · cases hu
theorem reqs_ok {node : Int} : ∀ {l : List PodD}, (∀ p ∈ l, p.Ok) → ∀ x ∈ reqsAt node l, x.Ok
  | [], _, x, hx => by simp [reqsAt] at hx
  | p :: r, h, x, hx => by
    unfold reqsAt at hx
    split at hx
    · rcases List.mem_cons.1 hx with rfl | hx
      · exact (h p (List.mem_cons_self ..)).2.2.2.1
      · exact reqs_ok (fun q hq => h q (List.mem_cons_of_mem _ hq)) x hx
    · exact reqs_ok (fun q hq => h q (List.mem_cons_of_mem _ hq)) x hx
theorem use_ok {l : List PodD} {node : Int} {u : V4} (h : ∀ p ∈ l, p.Ok) (hu : useD l node = some u) : u.Ok := sum_ok4 (reqs_ok h) hu
theorem reqs_len (node : Int) : ∀ l : List PodD, (reqsAt node l).length ≤ l.length
  | [] => Nat.le_refl _
  | p :: r => by
    have := reqs_len node r
    unfold reqsAt
    split <;> simp <;> omega
theorem reqs_append (node : Int) : ∀ (l m : List PodD), reqsAt node (l ++ m) = reqsAt node l ++ reqsAt node m
  | [], m => rfl
  | p :: r, m => by
    rw [List.cons_append, reqsAt, reqsAt, reqs_append node r m]
    split <;> simp
theorem reqs_take {node : Int} {l : List PodD} {k : Nat} (h : k < l.length) {p : PodD} (hp : l[k] = p) :
    (p.node = node → reqsAt node (l.take (k + 1)) = reqsAt node (l.take k) ++ [p.req]) ∧ (p.node ≠ node → reqsAt node (l.take (k + 1)) = reqsAt node (l.take k)) := by
  rw [List.take_succ_eq_append_getElem h, reqs_append, hp]
  constructor
  · intro e; simp [reqsAt, e]
  · intro e; simp [reqsAt, e]
theorem le_trans4 {x y z : V4} (h : x.le y = true) (h2 : y.le z = true) : x.le z = true := by
  simp only [V4.le, decide_eq_true_eq] at *; omega
theorem tot_append : ∀ (l m : List V4), totV (l ++ m) = (totV l).add (totV m)
  | [], m => by simp [totV, V4.add, V4.zer]
  | x :: r, m => by rw [List.cons_append, totV, tot_append r m]; simp [totV, V4.add, Int.add_assoc]
end Go.Proofs.Ytedcmchdapfhhaa

/- Plain mathematics of who makes way; no program stands in it. -/
namespace Go.Proofs.Ytedcmchdapfhhaa
set_option linter.unusedSimpArgs false
open Go.RowKit
set_option linter.unusedVariables false

abbrev cellG (z : Int) : List Value := [.int .i64 z]
/-- A pod of one of these Ids at this node, made nowhere. -/
def goneD (node : Int) (ids : List Int) (p : PodD) : PodD := if ids.contains p.id = true ∧ p.node = node then { p with node := 0 } else p
def outD (node : Int) (ids : List Int) (l : List PodD) : List PodD := l.map (goneD node ids)
/-- What a pod asks for, once it comes to a node. -/
def reqD (xs : List WantD) (p : PodD) : V4 :=
  if place WantD.pod p.id xs 0 < 0 then p.req else match xs[(place WantD.pod p.id xs 0).toNat]? with
    | none => p.req
    | some x => if x.stay = true then x.req else p.req
/-- Do these make room? -/
def makesD (ns : List NodeD) (xs : List WantD) (l : List PodD) (pod node : Int) (ids : List Int) : Bool :=
  hasP pod l && ((restD ns (outD node ids l) node).2 == 0 && (reqD xs (podZ pod l)).le (restD ns (outD node ids l) node).1)

theorem gone_yes {node : Int} {ids : List Int} {p : PodD} (h : ids.contains p.id = true) (k : p.node = node) : goneD node ids p = { p with node := 0 } := by rw [goneD, if_pos ⟨h, k⟩]
theorem gone_no1 {node : Int} {ids : List Int} {p : PodD} (h : ids.contains p.id = false) : goneD node ids p = p := by rw [goneD, if_neg (by rw [h]; simp)]
theorem gone_no2 {node : Int} {ids : List Int} {p : PodD} (k : p.node ≠ node) : goneD node ids p = p := by rw [goneD, if_neg (fun h => k h.2)]
theorem out_len (node : Int) (ids : List Int) (l : List PodD) : (outD node ids l).length = l.length := List.length_map _
theorem gone_ok {node : Int} {ids : List Int} {p : PodD} (h : p.Ok) : (goneD node ids p).Ok := by
  unfold goneD
  split
  · exact ⟨h.1, h.2.1, h.2.2.1, h.2.2.2.1, by simp [I64]⟩
  · exact h
theorem out_ok {node : Int} {ids : List Int} {l : List PodD} (h : ∀ p ∈ l, p.Ok) : ∀ p ∈ outD node ids l, p.Ok := fun p hp => by
  obtain ⟨q, hq, rfl⟩ := List.mem_map.1 hp
  exact gone_ok (h q hq)
theorem out_step {node : Int} {ids : List Int} {l : List PodD} {k : Nat} (h : k < l.length) {p : PodD} (hp : l[k] = p) :
    ((l.take k).map (goneD node ids) ++ l.drop k).set k (goneD node ids p) = (l.take (k + 1)).map (goneD node ids) ++ l.drop (k + 1) := by
  subst hp
  apply List.ext_getElem
  · simp; omega
  · intro i h1 h2
    by_cases e : k = i
    · subst e
      rw [List.getElem_set_self, List.getElem_append_left (by simp; omega)]
      simp
    · rw [List.getElem_set_ne (by omega)]
      by_cases e2 : i < k
      · rw [List.getElem_append_left (by simp; omega), List.getElem_append_left (by simp; omega)]
        simp
      · rw [List.getElem_append_right (by simp; omega), List.getElem_append_right (by simp; omega)]
        simp only [List.getElem_drop, List.length_map, List.length_take]
        congr 1
        omega
theorem out_same {node : Int} {ids : List Int} {l : List PodD} {k : Nat} (h : k < l.length) {p : PodD} (hp : l[k] = p) (hg : goneD node ids p = p) :
    (l.take k).map (goneD node ids) ++ l.drop k = (l.take (k + 1)).map (goneD node ids) ++ l.drop (k + 1) := by
  subst hp
  rw [List.take_succ_eq_append_getElem h, List.map_append, List.map_singleton, hg, List.append_assoc, List.singleton_append, ← List.drop_eq_getElem_cons h]
theorem out_end {node : Int} {ids : List Int} {l : List PodD} {k : Nat} (h : l.length ≤ k) : (l.take k).map (goneD node ids) ++ l.drop k = outD node ids l := by
  rw [List.take_of_length_le h, List.drop_of_length_le h, List.append_nil, outD]
theorem out_here {node : Int} {ids : List Int} {l : List PodD} {k : Nat} (h : k < l.length) : ((l.take k).map (goneD node ids) ++ l.drop k)[k]'(by simp; omega) = l[k] := by
  rw [List.getElem_append_right (by simp; omega)]
  simp [Nat.min_eq_left (Nat.le_of_lt h)]
theorem req_none {xs : List WantD} {p : PodD} (h : place WantD.pod p.id xs 0 < 0) : reqD xs p = p.req := by rw [reqD, if_pos h]
theorem req_some {xs : List WantD} {p : PodD} {i : Nat} (hi : i < xs.length) (h : place WantD.pod p.id xs 0 = i) : reqD xs p = if xs[i].stay = true then xs[i].req else p.req := by
  rw [reqD, if_neg (by omega), h, Int.toNat_natCast, List.getElem?_eq_getElem hi]

/-! More that go leave no less room. -/
theorem tot_out {node : Int} {a b : List Int} (hn : node ≠ 0) (hs : ∀ x ∈ a, x ∈ b) : ∀ {l : List PodD}, (∀ p ∈ l, p.Ok) → (totV (reqsAt node (outD node b l))).le (totV (reqsAt node (outD node a l))) = true
  | [], _ => by simp [outD, reqsAt, totV, V4.le, V4.zer]
  | p :: r, h => by
    have ih := tot_out (a := a) (b := b) hn hs (l := r) (fun q hq => h q (List.mem_cons_of_mem _ hq))
    have hp := (h p (List.mem_cons_self ..)).2.2.2.1
    have e : ∀ c : List Int, outD node c (p :: r) = goneD node c p :: outD node c r := fun c => rfl
    rw [e, e]
    by_cases hpn : p.node = node
    · by_cases hb : b.contains p.id = true
      · rw [gone_yes hb hpn, show reqsAt node ({ p with node := 0 } :: outD node b r) = reqsAt node (outD node b r) by rw [reqsAt, if_neg (by simpa using Ne.symm hn)]]
        by_cases ha : a.contains p.id = true
        · rw [gone_yes ha hpn, show reqsAt node ({ p with node := 0 } :: outD node a r) = reqsAt node (outD node a r) by rw [reqsAt, if_neg (by simpa using Ne.symm hn)]]
          exact ih
        · rw [gone_no1 (by simpa using ha), reqsAt, if_pos hpn, totV]
          simp only [V4.le, V4.add, decide_eq_true_eq, V4.Ok, U64] at ih hp ⊢
          exact decide_eq_true ⟨by omega, by omega, by omega, by omega⟩
      · have ha : ¬ a.contains p.id = true := fun ha => hb (by simp only [List.contains_iff_mem] at *; exact hs _ ha)
        rw [gone_no1 (by simpa using hb), gone_no1 (by simpa using ha), reqsAt, if_pos hpn, reqsAt, if_pos hpn, totV, totV]
        simp only [V4.le, V4.add, decide_eq_true_eq] at ih ⊢
        exact decide_eq_true ⟨by omega, by omega, by omega, by omega⟩
    · rw [gone_no2 hpn, gone_no2 hpn, reqsAt, if_neg hpn, reqsAt, if_neg hpn]
      exact ih
theorem out_zero (ids : List Int) (l : List PodD) : outD 0 ids l = l := by
  unfold outD
  have : ∀ p ∈ l, goneD 0 ids p = p := fun p _ => by
    unfold goneD
    split
    · rename_i h; cases p; simp only at h; rw [h.2]
    · rfl
  rw [List.map_congr_left this, List.map_id']
theorem sum_down {l m : List V4} {u : V4} (h : (totV m).le (totV l) = true) (hu : sumV l = some u) : ∃ u', sumV m = some u' ∧ u'.le u = true := by
  unfold sumV at hu
  split at hu
  · rename_i hs
    have hu := Option.some.inj hu
    subst hu
    refine ⟨totV m, ?_, h⟩
    unfold sumV
    rw [if_pos]
    simp only [V4.small, V4.le, decide_eq_true_eq] at *
    omega
  · cases hu
theorem left_more {n : NodeD} {u u' r : V4} (hu : u'.le u = true) (h : leftD n u = some r) : ∃ r', leftD n u' = some r' ∧ r.le r' = true := by
  unfold leftD at h ⊢
  split at h
  · cases h
  · rename_i f hf
    obtain ⟨rfl, hl⟩ := sub_le h
    refine ⟨f.sub u', by unfold subV; rw [if_pos (le_trans4 hu hl)], ?_⟩
    simp only [V4.le, V4.sub, decide_eq_true_eq] at hu ⊢
    exact decide_eq_true ⟨by omega, by omega, by omega, by omega⟩
theorem makes_more {ns : List NodeD} {xs : List WantD} {l : List PodD} {pod node : Int} {a b : List Int} (ho : ∀ p ∈ l, p.Ok) (hs : ∀ x ∈ a, x ∈ b) (h : makesD ns xs l pod node a = true) : makesD ns xs l pod node b = true := by
  by_cases hn : node = 0
  · subst hn
    unfold makesD at *
    rw [out_zero] at *
    exact h
  · unfold makesD at *
    simp only [Bool.and_eq_true, beq_iff_eq] at h ⊢
    obtain ⟨h1, h2, h3⟩ := h
    refine ⟨h1, ?_⟩
    obtain ⟨n, u, r, e1, e2, e3, e4⟩ := rest_zero.1 h2
    obtain ⟨u', e5, e6⟩ := sum_down (tot_out hn hs ho) e2
    obtain ⟨r', e7, e8⟩ := left_more e6 e3
    rw [rest_some e1 (show useD _ _ = some u' from e5) e7]
    rw [e4] at h3
    exact ⟨rfl, le_trans4 h3 e8⟩

/-! Those without which the others don't: the last ones are left out first. -/
def needG (mk : List Int → Bool) : List Int → Nat → List Int
  | l, 0 => l
  | l, i + 1 => needG mk (if mk (l.eraseIdx i) = true then l.eraseIdx i else l) i
theorem need_yes {mk : List Int → Bool} {l : List Int} {i : Nat} (h : mk (l.eraseIdx i) = true) : needG mk l (i + 1) = needG mk (l.eraseIdx i) i := by rw [needG, if_pos h]
theorem need_no {mk : List Int → Bool} {l : List Int} {i : Nat} (h : mk (l.eraseIdx i) = false) : needG mk l (i + 1) = needG mk l i := by rw [needG, if_neg (by simp [h])]
theorem need_sub (mk : List Int → Bool) : ∀ (i : Nat) (l : List Int), (needG mk l i).Sublist l
  | 0, l => List.Sublist.refl _
  | i + 1, l => by
    rw [needG]
    split
    · exact (need_sub mk i _).trans (List.eraseIdx_sublist l i)
    · exact need_sub mk i _
theorem need_makes {mk : List Int → Bool} : ∀ {i : Nat} {l : List Int}, mk l = true → mk (needG mk l i) = true
  | 0, l, h => h
  | i + 1, l, h => by
    rw [needG]
    split
    · rename_i e; exact need_makes e
    · exact need_makes h
theorem erase_two {α : Type} : ∀ (l : List α) {i j : Nat}, i ≤ j → (l.eraseIdx i).eraseIdx j = (l.eraseIdx (j + 1)).eraseIdx i
  | [], i, j, _ => by simp
  | x :: r, 0, j, _ => by simp
  | x :: r, i + 1, 0, h => by omega
  | x :: r, i + 1, j + 1, h => by
    rw [List.eraseIdx_cons_succ, List.eraseIdx_cons_succ, List.eraseIdx_cons_succ, List.eraseIdx_cons_succ, erase_two r (by omega)]
theorem need_least {mk : List Int → Bool} (hm : ∀ a b : List Int, (∀ x ∈ a, x ∈ b) → mk a = true → mk b = true) : ∀ {i : Nat} {l : List Int}, (∀ j, i ≤ j → j < l.length → mk (l.eraseIdx j) = false) → ∀ j, j < (needG mk l i).length → mk ((needG mk l i).eraseIdx j) = false
  | 0, l, h, j, hj => h j (Nat.zero_le _) hj
  | i + 1, l, h, j, hj => by
    rcases he : mk (l.eraseIdx i) with _ | _
    · rw [need_no he] at hj ⊢
      refine need_least hm (fun k hk hkl => ?_) j hj
      by_cases e : k = i
      · subst e; exact he
      · exact h k (by omega) hkl
    · rw [need_yes he] at hj ⊢
      refine need_least hm (fun k hk hkl => ?_) j hj
      by_cases hi : i < l.length
      · rw [erase_two l hk]
        rw [List.length_eraseIdx_of_lt hi] at hkl
        have h0 := h (k + 1) (by omega) (by omega)
        rcases e : mk ((l.eraseIdx (k + 1)).eraseIdx i) with _ | _
        · rfl
        · rw [hm _ _ (fun x hx => List.mem_of_mem_eraseIdx hx) e] at h0; cases h0
      · rw [List.eraseIdx_of_length_le (by omega)] at hkl he ⊢
        omega
/-- The chosen ones, among those that may go. -/
structure ChosenD (mk : List Int → Bool) (zs R : List Int) : Prop where
  sub : R.Sublist zs
  makes : mk R = true
  least : ∀ j, j < R.length → mk (R.eraseIdx j) = false
theorem chosen_of {mk : List Int → Bool} (hm : ∀ a b : List Int, (∀ x ∈ a, x ∈ b) → mk a = true → mk b = true) {zs : List Int} {k : Nat} (h : mk (zs.take k) = true) : ChosenD mk zs (needG mk (zs.take k) (zs.take k).length) :=
  ⟨(need_sub mk _ _).trans (List.take_sublist k zs), need_makes h, need_least hm fun j h1 h2 => absurd h2 (by omega)⟩
end Go.Proofs.Ytedcmchdapfhhaa

/- dunnageref03.Zones. -/
namespace Go.Proofs.Ytedcmchdapfhhaa
set_option linter.unusedSimpArgs false
open Go.RowKit
set_option linter.unusedVariables false

abbrev i64s (l : List Int) : List Value := l.map (Value.int .i64)
theorem one_i64s (l : List Int) : ∀ u ∈ i64s l, u.oneCell' = true := by
  intro u hu; simp at hu; obtain ⟨x, _, rfl⟩ := hu; rfl
theorem Try.info3 : (Try.prog.info? 3).map (fun i => (i.zero, i.size, i.bytes)) = some (some (.int .i64 0), 1, 8) := by kernel_rfl

theorem own_mono {w : World} {base base' n : Nat} {e : TypeId} {v : Value} {xs : List Value} (h : w.ownsRow base e 1 v n xs) (hb : base' ≤ base) : w.ownsRow base' e 1 v n xs := by
  refine ⟨h.1, ?_⟩
  rcases h.2 with h0 | ⟨g, cap, cur, h1, h2, rest⟩
  · exact .inl h0
  · exact .inr ⟨g, cap, cur, h1, Nat.le_trans hb h2, rest⟩
end Go.Proofs.Ytedcmchdapfhhaa

/- slices.Sorted of slices.Values at a slice of ints: a row of the call's own that holds them in order. -/
namespace Go.Proofs.Ytedcmchdapfhhaa
set_option linter.unusedSimpArgs false
open Go.RowKit Go.Shelf Go.Sort
set_option linter.unusedVariables false

attribute [local go_sem] Oper.semAt_some

theorem flatG : ∀ zs : List Int, zs.flatMap cellG = i64s zs
  | [] => rfl
  | z :: r => by rw [List.flatMap_cons, flatG r]; rfl
theorem recsG {w : World} {B n : Nat} {v : Value} {zs : List Int} (hn : n = zs.length) (h : w.ownsRow B 3 1 v n (i64s zs)) : ∃ A c, v = .slice A n c ∧ n ≤ c ∧ c ≤ maxLen ∧ (A = none → c = 0) ∧ Recs 1 cellG w w.heap.size A zs :=
  recs_of_own (cells := cellG) (size := 1) (fun _ => rfl) hn (by rw [flatG]; exact h)
theorem recsG_at {w : World} {B : Nat} {A : Option Addr} {zs : List Int} (h : Recs 1 cellG w B A zs) {k : Nat} (hk : k < zs.length) : ∃ b o, A = some ⟨b, o, none⟩ ∧ b < B ∧ w.cell? ⟨b, o + k, none⟩ = some (.int .i64 zs[k]) := by
  obtain ⟨b, o, h1, h2, h3⟩ := h.at hk
  exact ⟨b, o, h1, h2, by have := h3 0 _ rfl; rwa [Nat.mul_one, Nat.add_zero] at this⟩

set_option maxRecDepth 100000 in
set_option maxHeartbeats 2000000 in
/-- The iterator that slices.Values hands back: each value in turn, for every loop body that keeps what lay. -/
theorem values1_in (n : Nat) (hn : 1 ≤ n) (l Bs n₀ len cap : Nat) (A : Option Addr) (zs : List Int) (hlen : len = zs.length) (hreach : len ≤ 1000) (J Jx : List Int → World → Prop)
    (hY : ∀ pre x W, J pre W → pre.length < len → YieldAt Fence.wide (n - 1) Try.prog l #[.int .i64 x] W fun e W' =>
      (e = .returned (.bool true) ∧ J (pre ++ [x]) W' ∧ Below n₀ W W') ∨ (e = .returned (.bool false) ∧ Jx (pre ++ [x]) W'))
    (W : World) (hBs : W.cell? ⟨Bs, 0, none⟩ = some (.slice A len cap)) (hr : Recs 1 cellG W n₀ A zs) (h0 : J [] W) :
    CallsIn Fence.wide n Try.prog 47 #[.func (.yield l) #[] #[], .pointer (some ⟨Bs, 0, none⟩)] W fun e W' => (∃ v, e = .returned v) ∧
      ((∃ ys, ys = zs ∧ J ys W') ∨ (∃ pre, pre <+: zs ∧ Jx pre W')) := by
  refine callsIn_of_wp Try.func47 rfl trivial ?_ rfl
  simp only [Try.ntmps47, List.size_toArray, List.length_cons, List.length_nil, Nat.reduceAdd, Nat.reduceSub, Array.replicate_succ, Array.replicate_zero, List.push_toArray, List.append_toArray, List.nil_append, List.cons_append]
  gi_wp2
  gi_loopw [7] (fun i wr => ∃ k : Nat, k ≤ len ∧ i = .int .i64 k ∧ J (zs.take k) wr ∧ Below n₀ W wr)
    (fun i _ => len - (intOf i).toNat)
  case atStart => exact ⟨0, Nat.zero_le _, rfl, h0, Below.refl _ _⟩
  case round =>
    obtain ⟨k, hk, rfl, hJs, hnx⟩ := hrel
    by_cases hlt : k < len
    · have hkz : k < zs.length := by omega
      obtain ⟨b, off, rfl, hb, hc⟩ := recsG_at hr hkz
      have hcx := (hnx.cell (p := ⟨b, off + k, none⟩) hb).trans hc
      obtain ⟨fn, tmps, assign, body, hy, hR⟩ := hY _ zs[k] wr hJs (by rw [List.length_take]; omega)
      generalize hz : zs[k] = z at *
      gi_wp2
      refine hR.mono ?_
      rintro e W3 (⟨rfl, hJ3, hk3⟩ | ⟨rfl, hJx3⟩)
      · gi_wp2
        go_roundw
        case rel => exact ⟨k + 1, by omega, by simp, by rw [List.take_succ_eq_append_getElem hkz, hz]; exact hJ3, hnx.trans hk3⟩
        case measure => simp [intOf]; omega
      · gi_wp2
        refine bodyPost_ret (results_none rfl _ _ _) rfl ?_
        exact ⟨⟨_, rfl⟩, .inr ⟨_, by rw [← hz, ← List.take_succ_eq_append_getElem hkz]; exact List.take_prefix _ _, hJx3⟩⟩
    · obtain rfl : k = len := by omega
      gi_wp2
      go_end0
      exact ⟨⟨_, rfl⟩, .inl ⟨_, by rw [hlen, List.take_length], hJs⟩⟩

set_option maxHeartbeats 1000000 in
/-- slices.Values boxes the slice; the function value holds the box. -/
theorem values_any (A : Option Addr) (len cap : Nat) (w : World) :
    Calls Try.prog 30 #[.slice A len cap] w fun e w' => e = .returned (.func (.func 47) #[] #[.pointer (some ⟨w.heap.size, 0, none⟩)]) ∧ w' = w.alloc (.cells #[.slice A len cap] 39) := by
  go_enter Try.func30, Try.ntmps30
  go_wp2
  go_ret
  exact ⟨rfl, rfl⟩

theorem values_stops (n : Nat) (hn : 1 ≤ n) (Bs n₀ len cap : Nat) (A : Option Addr) (zs : List Int) (hlen : len = zs.length) (hreach : len ≤ 1000) (w : World) (hBs : Bs < w.heap.size) (hn₀ : n₀ ≤ w.heap.size)
    (hc : w.cell? ⟨Bs, 0, none⟩ = some (.slice A len cap)) (hr : Recs 1 cellG w n₀ A zs) :
    SeqStopsK Fence.wide n Try.prog 47 #[.pointer (some ⟨Bs, 0, none⟩)] (fun x : Int => #[Value.int .i64 x]) (Below n₀) (fun ys => ys = zs) (fun pre => pre <+: zs) len w := fun l J Jx W hW _ _ hY h0 =>
  values1_in n hn l Bs n₀ len cap A zs hlen hreach J Jx hY W ((hW.cell (p := ⟨Bs, 0, none⟩) hBs).trans hc) (hr.below (hW.mono hn₀) (Nat.le_refl _)) h0

set_option maxRecDepth 100000 in
set_option maxHeartbeats 4000000 in
/-- slices.AppendSeq of nil: the values, in a row of the call's own. -/
theorem appendSeq_any (n : Nat) (hn : 3 ≤ n) (Bs len cap : Nat) (A : Option Addr) (zs : List Int) (hlen : len = zs.length) (hreach : len ≤ 1000) (w : World) (hBs : Bs < w.heap.size)
    (hc : w.cell? ⟨Bs, 0, none⟩ = some (.slice A len cap)) (hr : Recs 1 cellG w w.heap.size A zs) :
    CallsIn Fence.wide n Try.prog 65 #[.slice none 0 0, .func (.func 47) #[] #[.pointer (some ⟨Bs, 0, none⟩)]] w fun e W' => ∃ v, e = .returned v ∧ W'.ownsRow w.heap.size 3 1 v zs.length (i64s zs) ∧ Below w.heap.size w W' := by
  have h1 : 1 ≤ n := by omega
  obtain ⟨i0, hi, hz0, hz1, hz2⟩ := info_parts Try.info3
  refine callsIn_of_wp_marks Try.func65 rfl trivial ?_ rfl
  simp only [Try.ntmps65, List.size_toArray, List.length_cons, List.length_nil, Nat.reduceAdd, Nat.reduceSub, Array.replicate_succ, Array.replicate_zero, List.push_toArray, List.append_toArray, List.nil_append, List.cons_append]
  gi_wp2
  have bO := Boxed.new w 39 (.slice none 0 0)
  have hB0 : Below w.heap.size w (w.alloc (.cells #[.slice none 0 0] 39)) := (Below.refl _ w).alloc (Nat.le_refl _) _
  have hc0 := (hB0.cell (p := ⟨Bs, 0, none⟩) hBs).trans hc
  have hr0 := hr.below hB0 (Nat.le_refl _)
  refine wpIn_rangeFunc_ownG rfl h1 (gf := 47) (lb := #[.pointer (some ⟨Bs, 0, none⟩)]) rfl trivial (enters_of Try.func47 (by kernel_rfl) rfl)
    (values_stops (n - 1) (by omega) Bs w.heap.size len cap A zs hlen hreach _ (by simp; omega) (by simp) hc0 hr0) belowK_t (belowK_b (by simp)) (Below.refl _ _) (fun _ => rfl)
    (fun pre W => (∃ v, Boxed W w.heap.size 39 v ∧ W.ownsRow w.heap.size 3 1 v pre.length (i64s pre) ∧ True) ∧ Below w.heap.size w W)
    (fun _ _ _ => False)
    (OwnFrom.and (Own.from (holdsRow_own w.heap.size w.heap.size 39 3 1 (fun pre : List Int => pre.length) (fun pre => i64s pre) (fun _ _ => True)) _) (ownFrom_below (Nat.le_refl _) (by simp)))
    (fun _ _ _ _ _ hs _ _ => hs)
    ⟨⟨_, bO, World.ownsRow_nil _ _ _ _, trivial⟩, hB0⟩
    (fun x => { tmps := #[.slice none 0 0, .func (.func 47) #[] #[.pointer (some ⟨Bs, 0, none⟩)], .pointer (some ⟨w.heap.size, 0, none⟩), undef, .slice none 0 0, .int .i64 x, .func (.func 47) #[] #[.pointer (some ⟨Bs, 0, none⟩)], .int .i64 x, undef, undef, undef, undef, undef], defers := [] }) ?assign ?body ?done ?stop
  case assign =>
    intro l x W K hK
    gi_wp2
    exact hK
  case body =>
    rintro l pre x W ⟨⟨v, hv, hrow, _⟩, hB⟩ hlt
    have hc := hv.cell
    gi_wp2_with (gi_at_builtin; refine wpListIn_append_own _ rfl _ _ 39 rfl w.heap.size 3 i0 (.int .i64 0) 1 8 Try.underlying39 hi hz0 hz1 hz2 rfl (by decide) _ _ _ rfl (hrow.alloc _) ⟨W.heap.size, 0, none⟩ 1 1 [.int .i64 x] rfl rfl (cell_one_new _ _ _) (by simp [Value.oneCell']) (by unfold maxLen; omega) (by omega) (by have := hB.size; simp; omega) ?_; intro v' w1 hown' hgrow _; obtain ⟨g', cap', rfl⟩ := ownsRow_succ hown'; obtain ⟨hv1, hv2, hr2, hk2, hb2⟩ := hv.appended (by decide) hrow hB.size (Nat.le_refl _) hown' hgrow; have hc1 := hv1.cell; have hf1 := hv1.frozen)
    exact ⟨hk2.from _, hb2, ⟨_, hv2, by simpa using hr2, trivial⟩, hB.trans hb2⟩
  case done =>
    rintro D ys W hD rfl ⟨⟨v, hv, hrow, _⟩, hB⟩ hK
    have hc := hv.cell
    gi_wp2
    refine ⟨by simp, .inl ⟨_, _, rfl, run_takeDeferred hK, ?_⟩⟩
    exact ⟨_, results_tmp rfl _ _ _, v, rfl, ownsRow_putObj hrow _ hK rfl, hB.trans (belowK_b (w := w) (Nat.le_refl _) W D _ _ (by simp at hD; omega) hK rfl rfl)⟩
  case stop =>
    rintro D c pre W _ _ h _
    exact h.elim

/-- Numbers in order. -/
def sortG (zs : List Int) : List Int := zs.mergeSort fun x y => decide (x ≤ y)
theorem sortG_len (zs : List Int) : (sortG zs).length = zs.length := List.length_mergeSort zs
theorem sortG_perm (zs : List Int) : (sortG zs).Perm zs := List.mergeSort_perm zs _
theorem sortG_le (zs : List Int) : (sortG zs).Pairwise (· ≤ ·) := by
  have h := List.pairwise_mergeSort (le := fun x y : Int => decide (x ≤ y)) (fun a b c h1 h2 => by simp only [decide_eq_true_eq] at *; omega) (fun a b => by simp only [Bool.or_eq_true, decide_eq_true_eq]; omega) zs
  exact h.imp fun h => by simpa using h
theorem sortG_contains (zs : List Int) (x : Int) : (sortG zs).contains x = zs.contains x := by
  rw [Bool.eq_iff_iff, List.contains_iff_mem, List.contains_iff_mem, (sortG_perm zs).mem_iff]
theorem sortG_shape {w : World} {B n : Nat} {v : Value} {zs : List Int} (hn : n = zs.length) (h : w.ownsRow B 3 1 v n (i64s zs)) : (v = .slice none 0 0 ∧ zs = []) ∨ ∃ g cap cur, v = .slice (some ⟨g, 0, none⟩) zs.length cap ∧ B ≤ g ∧ w.heap[g]? = some (.cells cur 3 (0, 0)) ∧ zs.length ≤ cap ∧ cap ≤ maxLen ∧ cur.size = cap * 1 ∧ cur.toList.take zs.length = i64s zs := by
  subst hn
  rcases h.2 with ⟨h1, h2⟩ | ⟨g, cap, cur, h1, h2, h3, h4, h5, h6, h7⟩
  · exact .inl ⟨h1, List.eq_nil_of_length_eq_zero h2⟩
  · exact .inr ⟨g, cap, cur, h1, h2, h3, h4, h5, h6, by rw [Nat.mul_one] at h7; exact h7⟩
/-- slices.Sort at a row of the call's own. -/
theorem sortG_any (B : Nat) (v : Value) (zs : List Int) (w : World) (hB : B ≤ w.heap.size) (hown : w.ownsRow B 3 1 v zs.length (i64s zs)) (hl : zs.length ≤ 1000) :
    Calls Try.prog 46 #[v] w fun e w' => e = .returned (.tuple #[]) ∧ w'.ownsRow B 3 1 v zs.length (i64s (sortG zs)) ∧ Below B w w' := by
  rcases sortG_shape rfl hown with ⟨rfl, rfl⟩ | ⟨g, cap, cur, rfl, hbase, hb, h1, h2, h3, h4⟩
  · exact (Any.slices_Sort_int_none Try.laysSort none 0 w).mono fun e w' ⟨he, hw⟩ => ⟨he, by subst hw; rw [show sortG [] = [] by simp [sortG]]; exact hown, by subst hw; exact Below.refl _ _⟩
  · have hgl : g < w.heap.size := (Array.getElem?_eq_some_iff.1 hb).1
    refine (Any.slices_Sort_int Try.laysSort g 0 cap zs w (holds_of_blockI hb h4) hgl (by omega)).mono fun e w' ⟨he, n, os, hw⟩ => ⟨he, ?_, ?_⟩
    · subst hw
      exact ownsRow_sortedI (ss := zs) (ts := sortG zs) (List.length_mergeSort zs) hbase hb h1 h2 h3
    · subst hw
      exact (Below.refl B w).grown (grownBy_sortedI _) hB (fun j hj => by cases hj; exact hbase)

set_option maxHeartbeats 1000000 in
theorem collect_any (Bs len cap : Nat) (A : Option Addr) (zs : List Int) (hlen : len = zs.length) (hreach : len ≤ 1000) (w : World) (hBs : Bs < w.heap.size)
    (hc : w.cell? ⟨Bs, 0, none⟩ = some (.slice A len cap)) (hr : Recs 1 cellG w w.heap.size A zs) :
    Calls Try.prog 45 #[.func (.func 47) #[] #[.pointer (some ⟨Bs, 0, none⟩)]] w fun e W' => ∃ v, e = .returned v ∧ W'.ownsRow w.heap.size 3 1 v zs.length (i64s zs) ∧ Below w.heap.size w W' := by
  have HC := Lib.hid ((callsIn_wide (n := 3)).1 (appendSeq_any 3 (by omega) Bs len cap A zs hlen hreach w hBs hc hr))
  clear hr hc hBs hreach hlen
  go_enter Try.func45, Try.ntmps45
  go_wp2_with (go_at_call 65; refine HC.out.mono ?_; rintro e w' ⟨v, rfl, ho, hb⟩)
  go_ret
  exact ⟨v, rfl, ho, hb⟩
set_option maxHeartbeats 1000000 in
/-- slices.Sorted of slices.Values: a row of the call's own, in order. -/
theorem sorted_any (Bs len cap : Nat) (A : Option Addr) (zs : List Int) (hlen : len = zs.length) (hreach : len ≤ 1000) (w : World) (hBs : Bs < w.heap.size)
    (hc : w.cell? ⟨Bs, 0, none⟩ = some (.slice A len cap)) (hr : Recs 1 cellG w w.heap.size A zs) :
    Calls Try.prog 29 #[.func (.func 47) #[] #[.pointer (some ⟨Bs, 0, none⟩)]] w fun e W' => ∃ v, e = .returned v ∧ W'.ownsRow w.heap.size 3 1 v zs.length (i64s (sortG zs)) ∧ Below w.heap.size w W' := by
  have HC := Lib.hid (collect_any Bs len cap A zs hlen hreach w hBs hc hr)
  have HL := Lib.hid (show zs.length ≤ 1000 by omega)
  clear hr hc hBs hreach hlen
  go_enter Try.func29, Try.ntmps29
  go_wp2_with (go_at_call 45; refine HC.out.mono ?_; rintro e w1 ⟨v, rfl, ho, hb⟩)
  have HS := Lib.hid (sortG_any w.heap.size v zs w1 hb.size ho HL.out)
  have HB := Lib.hid hb
  clear ho hb
  go_wp2_with (go_at_call 46; refine HS.out.mono ?_; rintro e w2 ⟨rfl, ho, hb2⟩)
  go_ret
  exact ⟨v, rfl, ho, HB.out.trans hb2⟩
end Go.Proofs.Ytedcmchdapfhhaa

namespace Go.Proofs.Ytedcmchdapfhhaa
set_option linter.unusedSimpArgs false
open Go.RowKit
set_option linter.unusedVariables false

theorem below_drewN {B : Nat} {a w : World} (h : Below B a w) (n : Nat) : Below B a (w.drewN n) := ⟨h.os, h.tape, h.output, h.size, h.block⟩
theorem add64_ok (x y : Int) (hx : 0 ≤ x) (hy : 0 ≤ y) (h : x + y < 18446744073709551616) (w : World) :
    (callFunc 72 #[.int .u64 x, .int .u64 y, .int .u64 0]).run Try.prog w = .ok (.value (.tuple #[.int .u64 (x + y), .int .u64 0])) w := by
  rw [run_callFunc_extern Try.func72 (by kernel_rfl) (by kernel_rfl) (by kernel_rfl) (e := add64Entry) (by kernel_rfl),
    run_add64 (P := Try.prog) x y 0 hx hy (by omega) (by omega) w]
  rw [show (x + y + 0) % 18446744073709551616 = x + y by omega, show (x + y + 0) / 18446744073709551616 = 0 by omega]
  rfl
theorem add64_over (x y : Int) (hx : 0 ≤ x) (hy : 0 ≤ y) (hx1 : x < 18446744073709551616) (hy1 : y < 18446744073709551616) (h : 18446744073709551616 ≤ x + y) (w : World) :
    (callFunc 72 #[.int .u64 x, .int .u64 y, .int .u64 0]).run Try.prog w = .ok (.value (.tuple #[.int .u64 ((x + y) % 18446744073709551616), .int .u64 1])) w := by
  rw [run_callFunc_extern Try.func72 (by kernel_rfl) (by kernel_rfl) (by kernel_rfl) (e := add64Entry) (by kernel_rfl),
    run_add64 (P := Try.prog) x y 0 hx hy (by omega) (by omega) w]
  rw [show x + y + 0 = x + y by omega, show (x + y) / 18446744073709551616 = 1 by omega]
  rfl
theorem sub64_ok (x y : Int) (hx : 0 ≤ x) (hy : 0 ≤ y) (hx1 : x < 18446744073709551616) (h : y ≤ x) (w : World) :
    (callFunc 64 #[.int .u64 x, .int .u64 y, .int .u64 0]).run Try.prog w = .ok (.value (.tuple #[.int .u64 (x - y), .int .u64 0])) w := by
  obtain ⟨x, rfl⟩ := Int.eq_ofNat_of_zero_le hx
  obtain ⟨y, rfl⟩ := Int.eq_ofNat_of_zero_le hy
  rw [run_callFunc_extern Try.func64 (by kernel_rfl) (by kernel_rfl) (by kernel_rfl) (e := sub64Entry) (by kernel_rfl), show (sub64Entry #[.int .u64 x, .int .u64 y, .int .u64 0]).run Try.prog w = _ from run_sub64 x y 0 (by omega) w]
  rw [if_neg (by omega), show (((x + 18446744073709551616 - y - 0) % 18446744073709551616 : Nat) : Int) = x - y by omega]
  rfl
theorem sub64_over (x y : Int) (hx : 0 ≤ x) (hy : 0 ≤ y) (h : x < y) (w : World) :
    (callFunc 64 #[.int .u64 x, .int .u64 y, .int .u64 0]).run Try.prog w = .ok (.value (.tuple #[.int .u64 ((x + 18446744073709551616 - y).toNat % 18446744073709551616 : Nat), .int .u64 1])) w := by
  obtain ⟨x, rfl⟩ := Int.eq_ofNat_of_zero_le hx
  obtain ⟨y, rfl⟩ := Int.eq_ofNat_of_zero_le hy
  rw [run_callFunc_extern Try.func64 (by kernel_rfl) (by kernel_rfl) (by kernel_rfl) (e := sub64Entry) (by kernel_rfl), show (sub64Entry #[.int .u64 x, .int .u64 y, .int .u64 0]).run Try.prog w = _ from run_sub64 x y 0 (by omega) w]
  rw [if_pos (by omega), show ((x : Int) + 18446744073709551616 - y).toNat = x + 18446744073709551616 - y - 0 by omega]
  rfl

end Go.Proofs.Ytedcmchdapfhhaa
