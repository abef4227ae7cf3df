/- Joined texts, part 7: CR. -/
import Derived.Test.YthmddkelfnfhkaaZ01
import Derived.ChangeSame
import Derived.RowKit
import Derived.RowKitTokens
import Derived.Carry
import Derived.Deep.Slices
import Derived.Laws.IdiomArrays
import Derived.Lib.SmallJoins

namespace Go.Proofs.Ythmddkelfnfhkaa
set_option linter.unusedSimpArgs false
open Go.ChangeShapes Go.WideShapes Go.RowKit

def I64 (n : Int) : Prop := -9223372036854775808 ≤ n ∧ n ≤ 9223372036854775807
def U64 (n : Int) : Prop := 0 ≤ n ∧ n < 18446744073709551616
def V4.Ok (x : V4) : Prop := U64 x.a ∧ U64 x.b ∧ U64 x.c ∧ U64 x.d
def NodeD.Ok (x : NodeD) : Prop := I64 x.id ∧ I64 x.zone ∧ x.cap.Ok ∧ x.held.Ok
def LoadD.Ok (x : LoadD) : Prop := I64 x.id ∧ I64 x.skew ∧ I64 x.min ∧ I64 x.max
def PodD.Ok (x : PodD) : Prop := I64 x.id ∧ I64 x.load ∧ I64 x.prio ∧ x.req.Ok ∧ I64 x.node
def WantD.Ok (x : WantD) : Prop := I64 x.pod ∧ x.req.Ok

theorem wf_i64' {n : Int} (h : (Lit.int .i64 n).wf = true) : I64 n := by
  simp [Lit.wf, IntKind.min, IntKind.max, IntKind.signed, IntKind.bits] at h
  exact ⟨by omega, by omega⟩
theorem wf_u64' {n : Int} (h : (Lit.int .u64 n).wf = true) : U64 n := by
  simp [Lit.wf, IntKind.min, IntKind.max, IntKind.signed, IntKind.bits] at h
  exact ⟨by omega, by omega⟩
theorem Try.cells34 : Try.prog.cellsOf 34 = 1 := by kernel_rfl
theorem Try.cells36 : Try.prog.cellsOf 36 = 4 := by kernel_rfl
theorem Try.cells3 : Try.prog.cellsOf 3 = 1 := by kernel_rfl
theorem Try.cells4 : Try.prog.cellsOf 4 = 1 := by kernel_rfl
theorem Try.cellsN : Try.prog.cellsOf 53 = 10 := by kernel_rfl
theorem Try.cellsL : Try.prog.cellsOf 94 = 5 := by kernel_rfl
theorem Try.cellsP : Try.prog.cellsOf 38 = 8 := by kernel_rfl
theorem Try.cellsW : Try.prog.cellsOf 59 = 6 := by kernel_rfl
theorem Try.cellsS : Try.prog.cellsOf 26 = 3 := by kernel_rfl
theorem Try.cellsX : Try.prog.cellsOf 29 = 3 := by kernel_rfl

theorem list5 {α : Type} (l : List α) (h : l.length = 5) : ∃ c0 c1 c2 c3 c4, l = [c0, c1, c2, c3, c4] := by
  match l, h with
  | [c0, c1, c2, c3, c4], _ => exact ⟨c0, c1, c2, c3, c4, rfl⟩
theorem list6 {α : Type} (l : List α) (h : l.length = 6) : ∃ c0 c1 c2 c3 c4 c5, l = [c0, c1, c2, c3, c4, c5] := by
  match l, h with
  | [c0, c1, c2, c3, c4, c5], _ => exact ⟨c0, c1, c2, c3, c4, c5, rfl⟩
theorem list8 {α : Type} (l : List α) (h : l.length = 8) : ∃ c0 c1 c2 c3 c4 c5 c6 c7, l = [c0, c1, c2, c3, c4, c5, c6, c7] := by
  match l, h with
  | [c0, c1, c2, c3, c4, c5, c6, c7], _ => exact ⟨c0, c1, c2, c3, c4, c5, c6, c7, rfl⟩
theorem list10 {α : Type} (l : List α) (h : l.length = 10) : ∃ c0 c1 c2 c3 c4 c5 c6 c7 c8 c9, l = [c0, c1, c2, c3, c4, c5, c6, c7, c8, c9] := by
  match l, h with
  | [c0, c1, c2, c3, c4, c5, c6, c7, c8, c9], _ => exact ⟨c0, c1, c2, c3, c4, c5, c6, c7, c8, c9, rfl⟩

section
variable {H : Type} {enc : TypeId × Value → H} {w : World} {base : Nat} {sp : Nat → Bool} {held : Bool}
theorem int_of {n : Nat} {c : Value} {x : Option (DataW H × List MemPlace)} (hx : x.isSome = true) (h : DataW.trod enc Try.prog w base sp held n 3 [c] = x) : ∃ k, c = .int .i64 k ∧ I64 k := by
  obtain ⟨y, rfl⟩ := Option.isSome_iff_exists.1 hx
  obtain ⟨k, e, _, hw⟩ := DataW.trod_int Try.underlying3 h
  exact ⟨k, by simpa using e, wf_i64' hw⟩
theorem bool_of {n : Nat} {c : Value} {x : Option (DataW H × List MemPlace)} (hx : x.isSome = true) (h : DataW.trod enc Try.prog w base sp held n 4 [c] = x) : ∃ k, c = .bool k := by
  obtain ⟨y, rfl⟩ := Option.isSome_iff_exists.1 hx
  obtain ⟨k, e, _⟩ := DataW.trod_bool Try.underlying4 h
  exact ⟨k, by simpa using e⟩
theorem vec_of {n : Nat} {c0 c1 c2 c3 : Value} {x : Option (DataW H × List MemPlace)} (hx : x.isSome = true) (h : DataW.trod enc Try.prog w base sp held n 36 [c0, c1, c2, c3] = x) :
    ∃ v : V4, c0 = .int .u64 v.a ∧ c1 = .int .u64 v.b ∧ c2 = .int .u64 v.c ∧ c3 = .int .u64 v.d ∧ v.Ok := by
  obtain ⟨y, rfl⟩ := Option.isSome_iff_exists.1 hx
  obtain ⟨y0, y1, y2, y3, m, _, hy0, hy1, hy2, hy3⟩ := trod_array4 Try.underlying36 Try.cells34 h
  obtain ⟨x0, e0, _, w0⟩ := DataW.trod_int Try.underlying34 hy0
  obtain ⟨x1, e1, _, w1⟩ := DataW.trod_int Try.underlying34 hy1
  obtain ⟨x2, e2, _, w2⟩ := DataW.trod_int Try.underlying34 hy2
  obtain ⟨x3, e3, _, w3⟩ := DataW.trod_int Try.underlying34 hy3
  exact ⟨⟨x0, x1, x2, x3⟩, by simpa using e0, by simpa using e1, by simpa using e2, by simpa using e3, wf_u64' w0, wf_u64' w1, wf_u64' w2, wf_u64' w3⟩
theorem some_at {α : Type} {l : List α} {i n : Nat} (h : l.length = n) (hi : i < n) : (l[i]?).isSome = true := by
  rw [List.getElem?_eq_getElem (by omega)]; rfl

theorem node_of {n : Nat} {cs : List Value} {x : DataW H × List MemPlace} (hl : cs.length = 10) (h : DataW.trod enc Try.prog w base sp held n 53 cs = some x) : ∃ a : NodeD, cs = cellsN a ∧ a.Ok := by
  obtain ⟨xs, m, rfl, _, _, hxl, hf⟩ := DataW.trod_struct Try.underlying53 h
  obtain ⟨c0, c1, c2, c3, c4, c5, c6, c7, c8, c9, rfl⟩ := list10 cs hl
  have h0 : DataW.trod enc Try.prog w base sp held m 3 (([c0, c1, c2, c3, c4, c5, c6, c7, c8, c9].drop 0).take (Try.prog.cellsOf 3)) = xs[0]? := hf 0 _ rfl
  rw [Try.cells3, show ([c0, c1, c2, c3, c4, c5, c6, c7, c8, c9].drop 0).take 1 = [c0] from rfl] at h0
  have h1 : DataW.trod enc Try.prog w base sp held m 3 (([c0, c1, c2, c3, c4, c5, c6, c7, c8, c9].drop 1).take (Try.prog.cellsOf 3)) = xs[1]? := hf 1 _ rfl
  rw [Try.cells3, show ([c0, c1, c2, c3, c4, c5, c6, c7, c8, c9].drop 1).take 1 = [c1] from rfl] at h1
  have h2 : DataW.trod enc Try.prog w base sp held m 36 (([c0, c1, c2, c3, c4, c5, c6, c7, c8, c9].drop 2).take (Try.prog.cellsOf 36)) = xs[2]? := hf 2 _ rfl
  rw [Try.cells36, show ([c0, c1, c2, c3, c4, c5, c6, c7, c8, c9].drop 2).take 4 = [c2, c3, c4, c5] from rfl] at h2
  have h3 : DataW.trod enc Try.prog w base sp held m 36 (([c0, c1, c2, c3, c4, c5, c6, c7, c8, c9].drop 6).take (Try.prog.cellsOf 36)) = xs[3]? := hf 3 _ rfl
  rw [Try.cells36, show ([c0, c1, c2, c3, c4, c5, c6, c7, c8, c9].drop 6).take 4 = [c6, c7, c8, c9] from rfl] at h3
  obtain ⟨k0, rfl, i0⟩ := int_of (some_at hxl (by simp)) h0
  obtain ⟨k1, rfl, i1⟩ := int_of (some_at hxl (by simp)) h1
  obtain ⟨v2, rfl, rfl, rfl, rfl, i2⟩ := vec_of (some_at hxl (by simp)) h2
  obtain ⟨v3, rfl, rfl, rfl, rfl, i3⟩ := vec_of (some_at hxl (by simp)) h3
  exact ⟨⟨k0, k1, v2, v3⟩, rfl, i0, i1, i2, i3⟩
theorem load_of {n : Nat} {cs : List Value} {x : DataW H × List MemPlace} (hl : cs.length = 5) (h : DataW.trod enc Try.prog w base sp held n 94 cs = some x) : ∃ a : LoadD, cs = cellsL a ∧ a.Ok := by
  obtain ⟨xs, m, rfl, _, _, hxl, hf⟩ := DataW.trod_struct Try.underlying94 h
  obtain ⟨c0, c1, c2, c3, c4, rfl⟩ := list5 cs hl
  have h0 : DataW.trod enc Try.prog w base sp held m 3 (([c0, c1, c2, c3, c4].drop 0).take (Try.prog.cellsOf 3)) = xs[0]? := hf 0 _ rfl
  rw [Try.cells3, show ([c0, c1, c2, c3, c4].drop 0).take 1 = [c0] from rfl] at h0
  have h1 : DataW.trod enc Try.prog w base sp held m 4 (([c0, c1, c2, c3, c4].drop 1).take (Try.prog.cellsOf 4)) = xs[1]? := hf 1 _ rfl
  rw [Try.cells4, show ([c0, c1, c2, c3, c4].drop 1).take 1 = [c1] from rfl] at h1
  have h2 : DataW.trod enc Try.prog w base sp held m 3 (([c0, c1, c2, c3, c4].drop 2).take (Try.prog.cellsOf 3)) = xs[2]? := hf 2 _ rfl
  rw [Try.cells3, show ([c0, c1, c2, c3, c4].drop 2).take 1 = [c2] from rfl] at h2
  have h3 : DataW.trod enc Try.prog w base sp held m 3 (([c0, c1, c2, c3, c4].drop 3).take (Try.prog.cellsOf 3)) = xs[3]? := hf 3 _ rfl
  rw [Try.cells3, show ([c0, c1, c2, c3, c4].drop 3).take 1 = [c3] from rfl] at h3
  have h4 : DataW.trod enc Try.prog w base sp held m 3 (([c0, c1, c2, c3, c4].drop 4).take (Try.prog.cellsOf 3)) = xs[4]? := hf 4 _ rfl
  rw [Try.cells3, show ([c0, c1, c2, c3, c4].drop 4).take 1 = [c4] from rfl] at h4
  obtain ⟨k0, rfl, i0⟩ := int_of (some_at hxl (by simp)) h0
  obtain ⟨k1, rfl⟩ := bool_of (some_at hxl (by simp)) h1
  obtain ⟨k2, rfl, i2⟩ := int_of (some_at hxl (by simp)) h2
  obtain ⟨k3, rfl, i3⟩ := int_of (some_at hxl (by simp)) h3
  obtain ⟨k4, rfl, i4⟩ := int_of (some_at hxl (by simp)) h4
  exact ⟨⟨k0, k1, k2, k3, k4⟩, rfl, i0, i2, i3, i4⟩
theorem pod_of {n : Nat} {cs : List Value} {x : DataW H × List MemPlace} (hl : cs.length = 8) (h : DataW.trod enc Try.prog w base sp held n 38 cs = some x) : ∃ a : PodD, cs = cellsP a ∧ a.Ok := by
  obtain ⟨xs, m, rfl, _, _, hxl, hf⟩ := DataW.trod_struct Try.underlying38 h
  obtain ⟨c0, c1, c2, c3, c4, c5, c6, c7, rfl⟩ := list8 cs hl
  have h0 : DataW.trod enc Try.prog w base sp held m 3 (([c0, c1, c2, c3, c4, c5, c6, c7].drop 0).take (Try.prog.cellsOf 3)) = xs[0]? := hf 0 _ rfl
  rw [Try.cells3, show ([c0, c1, c2, c3, c4, c5, c6, c7].drop 0).take 1 = [c0] from rfl] at h0
  have h1 : DataW.trod enc Try.prog w base sp held m 3 (([c0, c1, c2, c3, c4, c5, c6, c7].drop 1).take (Try.prog.cellsOf 3)) = xs[1]? := hf 1 _ rfl
  rw [Try.cells3, show ([c0, c1, c2, c3, c4, c5, c6, c7].drop 1).take 1 = [c1] from rfl] at h1
  have h2 : DataW.trod enc Try.prog w base sp held m 3 (([c0, c1, c2, c3, c4, c5, c6, c7].drop 2).take (Try.prog.cellsOf 3)) = xs[2]? := hf 2 _ rfl
  rw [Try.cells3, show ([c0, c1, c2, c3, c4, c5, c6, c7].drop 2).take 1 = [c2] from rfl] at h2
  have h3 : DataW.trod enc Try.prog w base sp held m 36 (([c0, c1, c2, c3, c4, c5, c6, c7].drop 3).take (Try.prog.cellsOf 36)) = xs[3]? := hf 3 _ rfl
  rw [Try.cells36, show ([c0, c1, c2, c3, c4, c5, c6, c7].drop 3).take 4 = [c3, c4, c5, c6] from rfl] at h3
  have h4 : DataW.trod enc Try.prog w base sp held m 3 (([c0, c1, c2, c3, c4, c5, c6, c7].drop 7).take (Try.prog.cellsOf 3)) = xs[4]? := hf 4 _ rfl
  rw [Try.cells3, show ([c0, c1, c2, c3, c4, c5, c6, c7].drop 7).take 1 = [c7] from rfl] at h4
  obtain ⟨k0, rfl, i0⟩ := int_of (some_at hxl (by simp)) h0
  obtain ⟨k1, rfl, i1⟩ := int_of (some_at hxl (by simp)) h1
  obtain ⟨k2, rfl, i2⟩ := int_of (some_at hxl (by simp)) h2
  obtain ⟨v3, rfl, rfl, rfl, rfl, i3⟩ := vec_of (some_at hxl (by simp)) h3
  obtain ⟨k4, rfl, i4⟩ := int_of (some_at hxl (by simp)) h4
  exact ⟨⟨k0, k1, k2, v3, k4⟩, rfl, i0, i1, i2, i3, i4⟩
theorem want_of {n : Nat} {cs : List Value} {x : DataW H × List MemPlace} (hl : cs.length = 6) (h : DataW.trod enc Try.prog w base sp held n 59 cs = some x) : ∃ a : WantD, cs = cellsW a ∧ a.Ok := by
  obtain ⟨xs, m, rfl, _, _, hxl, hf⟩ := DataW.trod_struct Try.underlying59 h
  obtain ⟨c0, c1, c2, c3, c4, c5, rfl⟩ := list6 cs hl
  have h0 : DataW.trod enc Try.prog w base sp held m 3 (([c0, c1, c2, c3, c4, c5].drop 0).take (Try.prog.cellsOf 3)) = xs[0]? := hf 0 _ rfl
  rw [Try.cells3, show ([c0, c1, c2, c3, c4, c5].drop 0).take 1 = [c0] from rfl] at h0
  have h1 : DataW.trod enc Try.prog w base sp held m 36 (([c0, c1, c2, c3, c4, c5].drop 1).take (Try.prog.cellsOf 36)) = xs[1]? := hf 1 _ rfl
  rw [Try.cells36, show ([c0, c1, c2, c3, c4, c5].drop 1).take 4 = [c1, c2, c3, c4] from rfl] at h1
  have h2 : DataW.trod enc Try.prog w base sp held m 4 (([c0, c1, c2, c3, c4, c5].drop 5).take (Try.prog.cellsOf 4)) = xs[2]? := hf 2 _ rfl
  rw [Try.cells4, show ([c0, c1, c2, c3, c4, c5].drop 5).take 1 = [c5] from rfl] at h2
  obtain ⟨k0, rfl, i0⟩ := int_of (some_at hxl (by simp)) h0
  obtain ⟨v1, rfl, rfl, rfl, rfl, i1⟩ := vec_of (some_at hxl (by simp)) h1
  obtain ⟨k2, rfl⟩ := bool_of (some_at hxl (by simp)) h2
  exact ⟨⟨k0, v1, k2⟩, rfl, i0, i1⟩

/-- A slice of records that came in: nil or not. -/
theorem open_recs {α : Type} {size : Nat} {cells : α → List Value} {Ok : α → Prop} {t e : TypeId} {v : Value} {fuel : Nat} {x : DataW H × List MemPlace} (ht : Try.prog.underlying t = some (.slice e)) (hC : Try.prog.cellsOf e = size) (hs : 0 < size)
    (hof : ∀ (n : Nat) (cs : List Value) (x : DataW H × List MemPlace), cs.length = size → DataW.trod enc Try.prog w base sp held n e cs = some x → ∃ a : α, cs = cells a ∧ Ok a)
    (h : DataW.trod enc Try.prog w base sp held fuel t [v] = some x) :
    ∃ (A : Option Addr) (c : Nat) (l : List α), v = .slice A l.length c ∧ l.length ≤ c ∧ c ≤ maxLen ∧ (A = none → c = 0) ∧ Recs size cells w w.heap.size A l ∧ ∀ a ∈ l, Ok a := by
  rcases Go.Deep.open_slice ht h with ⟨hc, _⟩ | ⟨a, n, cap, m, fu, D, Pl, hc, _, hl, hm, hmm, _, hel⟩
  · have hv : v = .slice none 0 0 := by simpa using hc
    exact ⟨none, 0, [], hv, by simp, by unfold maxLen; omega, fun _ => rfl, Recs.nil, fun _ h => by simp at h⟩
  · have hv : v = .slice (some a) n cap := by simpa using hc
    have hnm : n ≤ m := by rw [hmm]; split <;> omega
    have key : ∀ i, i < n → ∃ r : α, (∀ j u, (cells r)[j]? = some u → w.cell? ((a.add (i * size)).add j) = some u) ∧ Ok r ∧ (cells r).length = size := by
      intro i hi
      obtain ⟨cs, h1, h2⟩ := hel i (by omega)
      rw [hC] at h1
      obtain ⟨_, hlen, hat⟩ := World.cells?_some h1
      obtain ⟨r, rfl, hr⟩ := hof _ cs _ hlen h2
      refine ⟨r, fun j u hu => ?_, hr, hlen⟩
      have hj : j < size := by rw [← hlen]; exact (List.getElem?_eq_some_iff.1 hu).1
      exact (hat j hj).trans hu
    rcases Nat.eq_zero_or_pos n with hn0 | hn0
    · subst hn0
      exact ⟨some a, cap, [], by simp [hv], by simp, hm, fun h => by (cases h), Recs.nil, fun _ h => by simp at h⟩
    haveI : Inhabited α := ⟨Classical.choose (key 0 hn0)⟩
    obtain ⟨r, hr⟩ := Go.Deep.choose_lt key
    refine ⟨some a, cap, (List.range n).map r, by simp [hv], by simpa using hl, hm, fun h => by (cases h), ?_, fun y hy => ?_⟩
    · by_cases h0 : n = 0
      · exact .inl (by simp [h0])
      · obtain ⟨ab, ao, spot⟩ := a
        have hl0 := (hr 0 (by omega)).2.2
        have hc0 := (hr 0 (by omega)).1 0 _ (List.getElem?_eq_getElem (show 0 < (cells (r 0)).length by omega))
        have hspot : spot = none := by simpa [Addr.add] using World.cell?_spot hc0
        subst hspot
        have hlt := World.block_lt_of_cell? _ _ hc0
        simp only [Addr.add_lit] at hlt
        refine .inr ⟨ab, ao, rfl, hlt, fun i hi j u hu => ?_⟩
        have hi' : i < n := by simpa using hi
        simp only [List.getElem_map, List.getElem_range] at hu
        have := (hr i hi').1 j u hu
        simpa [Addr.add_lit] using this
    · simp only [List.mem_map, List.mem_range] at hy
      obtain ⟨i, hi, rfl⟩ := hy
      exact (hr i hi).2.1
set_option maxRecDepth 100000 in
/-- A snapshot by value. -/
theorem open_snap {r : Reach} {b0 : Nat} {v : Value} {d : DataW H} {ps : List MemPlace} (hval : Value.okWide Try.prog w r b0 26 v) (h : DataW.Trod enc Try.prog w base sp held 26 v d ps) :
    ∃ (s : SnapD) (A1 A2 A3 : Option Addr) (c1 c2 c3 : Nat), v = .agg #[.slice A1 s.nodes.length c1, .slice A2 s.loads.length c2, .slice A3 s.pods.length c3] ∧
      (s.nodes.length ≤ c1 ∧ c1 ≤ maxLen ∧ (A1 = none → c1 = 0) ∧ Recs 10 cellsN w w.heap.size A1 s.nodes ∧ ∀ a ∈ s.nodes, a.Ok) ∧
      (s.loads.length ≤ c2 ∧ c2 ≤ maxLen ∧ (A2 = none → c2 = 0) ∧ Recs 5 cellsL w w.heap.size A2 s.loads ∧ ∀ a ∈ s.loads, a.Ok) ∧
      (s.pods.length ≤ c3 ∧ c3 ≤ maxLen ∧ (A3 = none → c3 = 0) ∧ Recs 8 cellsP w w.heap.size A3 s.pods ∧ ∀ a ∈ s.pods, a.Ok) := by
  obtain ⟨v0, v1, v2, y0, y1, y2, n, rfl, _, _, h0, h1, h2⟩ := Go.Joins.open_agg3 Try.underlying26 (by kernel_rfl) Try.cellsS hval h
  obtain ⟨A1, c1, l1, rfl, p1⟩ := open_recs (Ok := NodeD.Ok) Try.underlying22 Try.cellsN (by decide) (fun _ _ _ hl h => node_of hl h) h0
  obtain ⟨A2, c2, l2, rfl, p2⟩ := open_recs (Ok := LoadD.Ok) Try.underlying23 Try.cellsL (by decide) (fun _ _ _ hl h => load_of hl h) h1
  obtain ⟨A3, c3, l3, rfl, p3⟩ := open_recs (Ok := PodD.Ok) Try.underlying24 Try.cellsP (by decide) (fun _ _ _ hl h => pod_of hl h) h2
  exact ⟨⟨l1, l2, l3⟩, A1, A2, A3, c1, c2, c3, rfl, p1, p2, p3⟩
set_option maxRecDepth 100000 in
/-- A spec by value. -/
theorem open_spec {r : Reach} {b0 : Nat} {v : Value} {d : DataW H} {ps : List MemPlace} (hval : Value.okWide Try.prog w r b0 29 v) (h : DataW.Trod enc Try.prog w base sp held 29 v d ps) :
    ∃ (x : SpecD) (A : Option Addr) (c : Nat), v = .agg #[.slice A x.wants.length c, .int .i64 x.preempts, .int .i64 x.shifts] ∧ I64 x.preempts ∧ I64 x.shifts ∧
      (x.wants.length ≤ c ∧ c ≤ maxLen ∧ (A = none → c = 0) ∧ Recs 6 cellsW w w.heap.size A x.wants ∧ ∀ a ∈ x.wants, a.Ok) := by
  obtain ⟨v0, v1, v2, y0, y1, y2, n, rfl, _, _, h0, h1, h2⟩ := Go.Joins.open_agg3 Try.underlying29 (by kernel_rfl) Try.cellsX hval h
  obtain ⟨A, c, l, rfl, p⟩ := open_recs (Ok := WantD.Ok) Try.underlying27 Try.cellsW (by decide) (fun _ _ _ hl h => want_of hl h) h0
  obtain ⟨k1, rfl, i1⟩ := int_of rfl h1
  obtain ⟨k2, rfl, i2⟩ := int_of rfl h2
  exact ⟨⟨l, k1, k2⟩, A, c, rfl, i1, i2, p⟩
end
end Go.Proofs.Ythmddkelfnfhkaa
