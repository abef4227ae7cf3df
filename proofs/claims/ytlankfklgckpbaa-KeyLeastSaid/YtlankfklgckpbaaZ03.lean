/- Joined texts, part 3: LF UO LO KO. -/
import Derived.Test.YtlankfklgckpbaaZ02
import Derived.Deep.CutRange
import Derived.Test.YtlankfklgckpbaaZ01
import Derived.ChangeSame
import Derived.ChangeVars
import Derived.JoinedOf
import Derived.RowKit
import Derived.RowKitTokens
import Derived.Carry
import Derived.ChangeSlices
import Derived.Test.YtlankfklgckpbaaRows

/- The head of the laws of layer 17; the law KeyTells, walked. -/
namespace Go.Proofs.Ytlankfklgckpbaa
set_option linter.unusedSimpArgs false
open Go.RowKit
set_option linter.unusedVariables false

theorem keyS_zero : keyS ⟨[], 0, 0⟩ = ⟨#[0, 0, 0]⟩ := by
  have h : numsT ⟨[], 0, 0⟩ = [0, 0, 0] := by simp [numsT, podNums, w64_is]
  have e : encs [0, 0, 0] = [0, 0, 0] := by simp [encs, enc_lt (show (0 : Int) < 128 by decide)]
  rw [keyS, h, e]; rfl
theorem ok_zero : StateD.Ok ⟨[], 0, 0⟩ := ⟨fun _ h => by simp at h, ⟨by decide, by decide⟩, ⟨by decide, by decide⟩⟩
theorem least_none {b : Int} (h : Best (keysL []) 0 b) : b = -1 := by
  rcases h with ⟨_, h⟩ | ⟨j, _, h, _⟩
  · exact h
  · omega
set_option maxHeartbeats 800000 in
theorem up17_any (w : World) : Calls Try.prog 6 #[] w fun e w' => e = .returned (.bool true) ∧ Below w.heap.size w w' := by
  have HF := Lib.hid (keyOf_any ⟨[], 0, 0⟩ none 0 0 w ok_zero rfl (by decide) Recs.nil)
  have hse := str_eq ⟨#[0, 0, 0]⟩
  go_enter Try.func6, Try.ntmps6
  go_wp2_with fail
  refine HF.out.mono ?_
  rintro e w1 ⟨rfl, hb1⟩
  rw [keyS_zero]
  go_wp2_with fail
  refine (keyLeast_any [] none 0 0 w1 rfl (by decide) (fun _ h => by simp at h) ⟨Recs.nil, fun _ h => by simp at h⟩).mono ?_
  rintro e w2 ⟨b, rfl, hb, hb2⟩
  obtain rfl := least_none hb
  go_wp2
  go_ret
  exact ⟨rfl, hb1.trans (hb2.mono hb1.size)⟩

/-- States as they are handed in: numbers that fit. -/
def OkL (l : List StL) : Prop := ∀ x ∈ l, x.t.Ok ∧ x.t.pods.length ≤ maxLen
def FewRel (l : List StL) (W : World) (i : Value) (wr : World) : Prop := ∃ k : Nat, k ≤ l.length ∧ i = .int .i64 k ∧ (∀ x ∈ l.take k, x.t.pods.length ≤ 40) ∧ Below W.heap.size W wr
theorem few_next {l : List StL} {k : Nat} (h : k < l.length) (hf : ∀ x ∈ l.take k, x.t.pods.length ≤ 40) {x : StL} (e : l[k] = x) (hx : x.t.pods.length ≤ 40) : ∀ x ∈ l.take (k + 1), x.t.pods.length ≤ 40 := by
  intro y hy
  rw [List.take_succ_eq_append_getElem h] at hy
  rcases List.mem_append.1 hy with h1 | h1
  · exact hf y h1
  · simp only [List.mem_singleton] at h1
    subst h1; subst e; exact hx
theorem few_all {l : List StL} {k : Nat} (h : l.length ≤ k) (ho : OkL l) (hf : ∀ x ∈ l.take k, x.t.pods.length ≤ 40) : FineS17 l := by
  rw [List.take_of_length_le h] at hf
  exact fun x hx => ⟨(ho x hx).1, by have := hf x hx; omega⟩

set_option maxHeartbeats 6400000 in
set_option maxRecDepth 100000 in
theorem keyTells_in (l : List StL) (A : Option Addr) (n c : Nat) (w : World) (hn : n = l.length) (hl : n ≤ maxLen) (ho : OkL l) (hr : Sts w w.heap.size A l) :
    Calls Try.prog 3 #[.slice A n c] w fun e w' => e = .returned (.bool true) ∧ Below w.heap.size w w' := by
  unfold maxLen at hl
  have HR := Lib.hid hr
  have HN := Lib.hid hn
  have HO := Lib.hid ho
  clear hr hn ho
  go_enter Try.func3, Try.ntmps3
  go_wp2_with fail
  refine (up17_any _).mono ?_
  rintro e w1 ⟨rfl, kw1⟩
  by_cases hbig : 30 < n
  · go_wp2
    go_ret
    exact ⟨rfl, kw1⟩
  have hsz1 := kw1.size
  go_wp2
  go_loopw [4] (FewRel l w1) (fun i _ => n - (intOf i).toNat)
  case atStart => exact ⟨0, by omega, rfl, fun _ h => by simp at h, Below.refl _ _⟩
  case round =>
    obtain ⟨k, hk, rfl, hf, hbr⟩ := hrel
    have hz := hbr.size
    have HFW := Lib.hid hf
    have kW := kw1.trans (hbr.mono hsz1)
    clear hf
    by_cases hlt : k < n
    · have hkl : k < l.length := by have := HN.out; omega
      have HX := Lib.hid (fun hx => few_next hkl HFW.out rfl hx)
      have hx := HO.out _ (List.getElem_mem hkl)
      have hp := HR.out.each _ (List.getElem_mem hkl)
      obtain ⟨b, o, rfl, hb, he⟩ := HR.out.row.at hkl
      have hbl : b < wr.heap.size := by omega
      generalize l[k] = x at *
      have e0 : wr.cell? ⟨b, o + k * 3, none⟩ = some (.slice x.A x.t.pods.length x.c) := (kW.cell (p := ⟨b, o + k * 3, none⟩) hb).trans (he 0 _ rfl)
      have e1 : wr.cell? ⟨b, o + k * 3 + 1, none⟩ = some (.int .i64 x.t.preempts) := (kW.cell (p := ⟨b, o + k * 3 + 1, none⟩) hb).trans (he 1 _ rfl)
      have e2 : wr.cell? ⟨b, o + k * 3 + 2, none⟩ = some (.int .i64 x.t.shifts) := (kW.cell (p := ⟨b, o + k * 3 + 2, none⟩) hb).trans (he 2 _ rfl)
      have hk0 : (0 : Int) ≤ (k : Int) := by omega
      have hk1 : (k : Int) < (n : Int) := by omega
      have hpm := hx.2
      unfold maxLen at hpm
      by_cases hmany : 40 < x.t.pods.length
      · clear he hp hx HX
        go_wp2
        go_ret
        exact ⟨rfl, kW⟩
      · have HCX : Hid (∀ V : World, ((∀ b o, b < wr.heap.size → V.cell? ⟨b, o, none⟩ = wr.cell? ⟨b, o, none⟩) ∧ Below wr.heap.size wr V) → Calls Try.prog 8 #[.agg #[.slice x.A x.t.pods.length x.c, .int .i64 x.t.preempts, .int .i64 x.t.shifts]] V fun e w' => e = .returned (.string (keyS x.t)) ∧ Below V.heap.size V w') := fun V hV =>
          rKey_any x.t x.A x.t.pods.length x.c V hx.1 rfl (by omega) (((hp.below kW (Nat.le_refl _)).below hV.2 kW.size).more (Nat.le_trans kW.size hV.2.size))
        have HCO : Hid (∀ V : World, ((∀ b o, b < wr.heap.size → V.cell? ⟨b, o, none⟩ = wr.cell? ⟨b, o, none⟩) ∧ Below wr.heap.size wr V) → Calls Try.prog 7 #[.agg #[.slice x.A x.t.pods.length x.c, .int .i64 x.t.preempts, .int .i64 x.t.shifts]] V fun e w' => e = .returned (.string (keyS x.t)) ∧ Below V.heap.size V w') := fun V hV =>
          keyOf_any x.t x.A x.t.pods.length x.c V hx.1 rfl (by omega) (((hp.below kW (Nat.le_refl _)).below hV.2 kW.size).more (Nat.le_trans kW.size hV.2.size))
        have hse := str_neq (keyS x.t)
        have HNX := Lib.hid (HX.out (by omega))
        clear he hp hx HX
        go_wp2
        go_region_held3 (fun w' => (∀ b o, b < wr.heap.size → w'.cell? ⟨b, o, none⟩ = wr.cell? ⟨b, o, none⟩) ∧ Below wr.heap.size wr w')
          (first | (with_reducible assumption) | (show Keeps wr _; with_reducible (repeat (first | exact Keeps.refl _ | assumption | refine Keeps.drew ?_ | refine Keeps.alloc ?_ _ | refine Keeps.step ?_ (by assumption)))))
          (first
            | (go_at_call 7; (with_reducible refine (HCO.out _ (by assumption)).mono ?_); rintro e w6 ⟨rfl, hb6⟩)
            | (go_at_call 8; (with_reducible refine (HCX.out _ (by assumption)).mono ?_); rintro e w7 ⟨rfl, hb7⟩))
        all_goals
          rename_i hK
          have kV := hK.2
          clear hK
          go_wp2
          go_roundw
          case rel => exact ⟨k + 1, by omega, by go_num, HNX.out, hbr.trans (kV.mono hz)⟩
          case measure => simp [intOf]; omega
    · have HFA := Lib.hid (few_all (by have := HN.out; omega) HO.out HFW.out)
      have HRW := Lib.hid ((HR.out.below kW (Nat.le_refl _)).more kW.size)
      go_wp2_with fail
      refine (keyLeast_any l A n c wr HN.out (by omega) HFA.out HRW.out).mono ?_
      rintro e w2 ⟨b1, rfl, hbest1, hb2⟩
      have HRW2 := Lib.hid ((HRW.out.below hb2 (Nat.le_refl _)).more hb2.size)
      have HB1 := Lib.hid hbest1
      clear hbest1
      go_wp2_with fail
      refine (rLeast_any l A n c w2 HN.out (by omega) HFA.out HRW2.out).mono ?_
      rintro e w3 ⟨b2, rfl, hbest2, hb3⟩
      obtain rfl := hbest2.same HB1.out
      clear hbest2
      go_wp2
      go_ret
      exact ⟨rfl, (kW.trans (hb2.mono kW.size)).trans (hb3.mono (Nat.le_trans kW.size hb2.size))⟩
end Go.Proofs.Ytlankfklgckpbaa

/- How a state is read as data; five arguments. -/
namespace Go.Proofs.Ytlankfklgckpbaa
set_option linter.unusedSimpArgs false
open Go.ChangeShapes Go.WideShapes Go.ChangeAt Go.RowKit

theorem Try.cellsT : Try.prog.cellsOf 26 = 3 := by kernel_rfl
section
variable {H : Type} {enc : TypeId × Value → H} {w : World} {base : Nat} {sp : Nat → Bool} {held : Bool}
set_option maxRecDepth 100000 in
/-- A state by value. -/
theorem open_state {r : Reach} {b0 : Nat} {v : Value} {d : DataW H} {ps : List MemPlace} (hval : Value.okWide Try.prog w r b0 26 v) (h : DataW.Trod enc Try.prog w base sp held 26 v d ps) :
    ∃ (t : StateD) (A : Option Addr) (c : Nat), v = .agg #[.slice A t.pods.length c, .int .i64 t.preempts, .int .i64 t.shifts] ∧ I64 t.preempts ∧ I64 t.shifts ∧
      (t.pods.length ≤ c ∧ c ≤ maxLen ∧ (A = none → c = 0) ∧ Recs 8 cellsP w w.heap.size A t.pods ∧ ∀ a ∈ t.pods, a.Ok) := by
  obtain ⟨v0, v1, v2, y0, y1, y2, n, rfl, _, _, h0, h1, h2⟩ := Go.Joins.open_agg3 Try.underlying26 (by kernel_rfl) Try.cellsT hval h
  obtain ⟨A, c, l, rfl, p⟩ := open_recs (Ok := PodD.Ok) Try.underlying24 Try.cellsP (by decide) (fun _ _ _ hl h => pod_of hl h) h0
  obtain ⟨k1, rfl, i1⟩ := int_of rfl h1
  obtain ⟨k2, rfl, i2⟩ := int_of rfl h2
  exact ⟨⟨l, k1, k2⟩, A, c, rfl, i1, i2, p⟩
end
section
variable {H : Type} {enc : TypeId × Value → H} {P : Program} {w : World} {base : Nat} {spare : Nat → Bool} {held : Bool}
end
end Go.Proofs.Ytlankfklgckpbaa

/- How a list of states is read as data. -/
namespace Go.Proofs.Ytlankfklgckpbaa
set_option linter.unusedSimpArgs false
open Go.ChangeShapes Go.WideShapes Go.ChangeAt Go.RowKit

theorem list3_st {α : Type} (l : List α) (h : l.length = 3) : ∃ c0 c1 c2, l = [c0, c1, c2] := by
  match l, h with
  | [c0, c1, c2], _ => exact ⟨c0, c1, c2, rfl⟩
theorem Try.cellsLP17 : Try.prog.cellsOf 24 = 1 := by kernel_rfl
section
variable {H : Type} {enc : TypeId × Value → H} {w : World} {base : Nat} {sp : Nat → Bool} {held : Bool}
/-- What is known of a state that came in. -/
def StOk (w : World) (x : StL) : Prop := (x.t.Ok ∧ x.t.pods.length ≤ maxLen) ∧ Recs 8 cellsP w w.heap.size x.A x.t.pods
set_option maxRecDepth 100000 in
theorem state_of {n : Nat} {cs : List Value} {x : DataW H × List MemPlace} (hl : cs.length = 3) (h : DataW.trod enc Try.prog w base sp held n 26 cs = some x) : ∃ a : StL, cs = cellsSL a ∧ StOk w a := by
  obtain ⟨xs, m, rfl, _, _, hxl, hf⟩ := DataW.trod_struct Try.underlying26 h
  obtain ⟨c0, c1, c2, rfl⟩ := list3_st cs hl
  have h0 : DataW.trod enc Try.prog w base sp held m 24 (([c0, c1, c2].drop 0).take (Try.prog.cellsOf 24)) = xs[0]? := hf 0 _ rfl
  rw [Try.cellsLP17, show ([c0, c1, c2].drop 0).take 1 = [c0] from rfl] at h0
  have h1 : DataW.trod enc Try.prog w base sp held m 3 (([c0, c1, c2].drop 1).take (Try.prog.cellsOf 3)) = xs[1]? := hf 1 _ rfl
  rw [Try.cells3, show ([c0, c1, c2].drop 1).take 1 = [c1] from rfl] at h1
  have h2 : DataW.trod enc Try.prog w base sp held m 3 (([c0, c1, c2].drop 2).take (Try.prog.cellsOf 3)) = xs[2]? := hf 2 _ rfl
  rw [Try.cells3, show ([c0, c1, c2].drop 2).take 1 = [c2] from rfl] at h2
  obtain ⟨y0, hy0⟩ := Option.isSome_iff_exists.1 (some_at (i := 0) hxl (by simp))
  rw [hy0] at h0
  obtain ⟨A, c, l, rfl, p1, p2, _, p4, p5⟩ := open_recs (Ok := PodD.Ok) Try.underlying24 Try.cellsP (by decide) (fun _ _ _ hl h => pod_of hl h) h0
  obtain ⟨k1, rfl, i1⟩ := int_of (some_at hxl (by simp)) h1
  obtain ⟨k2, rfl, i2⟩ := int_of (some_at hxl (by simp)) h2
  exact ⟨⟨A, c, ⟨l, k1, k2⟩⟩, rfl, ⟨⟨p5, i1, i2⟩, Nat.le_trans p1 p2⟩, p4⟩
set_option maxRecDepth 100000 in
/-- A slice of states. -/
theorem open_states {r : Reach} {b0 : Nat} {v : Value} {d : DataW H} {ps : List MemPlace} (hval : Value.okWide Try.prog w r b0 22 v) (h : DataW.Trod enc Try.prog w base sp held 22 v d ps) :
    ∃ (l : List StL) (A : Option Addr) (c : Nat), v = .slice A l.length c ∧ l.length ≤ maxLen ∧ OkL l ∧ Sts w w.heap.size A l := by
  obtain ⟨av, n0, cap0, rfl⟩ := okWide_slice Try.underlying22 hval
  obtain ⟨fuel, hf⟩ := h
  have hf' : DataW.trod enc Try.prog w base sp held fuel 22 [.slice av n0 cap0] = some (d, ps) := hf
  obtain ⟨A, c, l, e, h1, h2, _, h3, h4⟩ := open_recs (cells := cellsSL) (size := 3) (Ok := StOk w) Try.underlying22 Try.cellsT (by decide) (fun n cs x hl h => state_of hl h) hf'
  exact ⟨l, A, c, e, Nat.le_trans h1 h2, fun x hx => (h4 x hx).1, h3, fun x hx => (h4 x hx).2⟩
end
end Go.Proofs.Ytlankfklgckpbaa

namespace Go.Proofs.Ytlankfklgckpbaa
set_option linter.unusedSimpArgs false
theorem Try.own : ownKnob Try.prog.godebug = none := by kernel_rfl
theorem Try.laidOut : laidOutB Try.prog = true := by kernel_rfl
end Go.Proofs.Ytlankfklgckpbaa
