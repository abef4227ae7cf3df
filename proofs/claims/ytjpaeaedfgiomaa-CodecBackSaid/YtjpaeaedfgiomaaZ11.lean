/- Joined texts, part 11: JB KR KO. -/
import Derived.Test.YtjpaeaedfgiomaaZ10
import Derived.Test.YtjpaeaedfgiomaaZ01
import Derived.ChangeSame
import Derived.ChangeVars
import Derived.JoinedOf
import Derived.RowKit
import Derived.RowKitTokens
import Derived.Carry
import Derived.ChangeSlices

/- The law CodecBack, walked. -/
namespace Go.Proofs.Ytjpaeaedfgiomaa
set_option linter.unusedSimpArgs false
open Go.RowKit
set_option linter.unusedVariables false

theorem Out.recs {α : Type} {size : Nat} {cells : α → List Value} {w : World} {xs : List α} {A : Option Addr} {c : Nat} (h : Out size cells w xs A c) : Recs size cells w w.heap.size A xs := h.2.2.2
theorem back_snap {s : SnapD} (h : (check s).1 = 0) : rdB noSnap rdSnap (snapNums s) [] = (s, 0, -1) := by rw [rdB, if_pos rfl, rd_back h]
theorem back_spec {x : SpecD} (h : specOk x = true) : rdB noSpec rdSpec (specNums x) [] = (x, 0, -1) := by rw [rdB, if_pos rfl, rd_spec_back h]
theorem back_moves {m : List MoveD} (h : movesOk m = true) : rdB [] rdMoves (moveNums m) [] = (m, 0, -1) := by rw [rdB, if_pos rfl, rd_move_back h]
/-- What a writer told is a row of bytes. -/
theorem WriteTo.row {l : List Int} {w w' : World} {e : Ending} {ok : Bool} (hok : ok = true) (h : WriteTo ok l w e w') : ∃ A c, e = .returned (.tuple #[.slice A (encs l).length c, .nilIface]) ∧ (encs l).length ≤ c ∧ c ≤ maxLen ∧ Row w' w'.heap.size A (u8s (encs l)) ∧ Below w.heap.size w w' := by
  obtain ⟨⟨_, v, rfl, ho⟩ | ⟨h0, _⟩, hb⟩ := h
  · obtain ⟨A, c, rfl, h1, h2, _, _⟩ := own_cap ho
    have hlen : (u8s (encs l)).length = (encs l).length := by simp
    have hr := (Row.of_own ho).1
    rw [hlen] at h1 ⊢
    exact ⟨A, c, rfl, h1, h2, hr, hb⟩
  · rw [hok] at h0; cases h0
theorem WriteTo.no {l : List Int} {w w' : World} {e : Ending} {ok : Bool} (hok : ok = false) (h : WriteTo ok l w e w') : e = .returned (.tuple #[.slice none 0 0, .iface 51 (.int .i64 1)]) ∧ Below w.heap.size w w' := by
  obtain ⟨⟨h0, _⟩ | ⟨_, rfl⟩, hb⟩ := h
  · rw [hok] at h0; cases h0
  · exact ⟨rfl, hb⟩
theorem moveNums_le {m : List MoveD} (h : movesOk m = true) : (encs (moveNums m)).length ≤ 100000 := by
  have h1 := encs_len_le (move_nums h)
  have h2 : (m.flatMap moveK.nums).length = m.length * 4 := flat_length moveK m
  have h3 : (moveNums m).length = 1 + m.length * 4 := by show (_ :: _).length = _; rw [List.length_cons, h2]; omega
  simp only [movesOk, Bool.and_eq_true, decide_eq_true_eq] at h
  omega
theorem specNums_le {x : SpecD} (h : specOk x = true) (hq : ∀ y ∈ x.wants, y.Ok) : (encs (specNums x)).length ≤ 100000 := by
  have h1 := encs_len_le (spec_nums h hq)
  have h2 : (x.wants.flatMap wantK.nums).length = x.wants.length * 6 := flat_length wantK _
  have h3 : (specNums x).length = 3 + x.wants.length * 6 := by unfold specNums; rw [List.length_append, h2]; rfl
  simp only [specOk, Bool.and_eq_true, decide_eq_true_eq] at h
  omega
theorem snapNums_le {s : SnapD} (h : (check s).1 = 0) (hok : s.Ok) : (encs (snapNums s)).length ≤ 100000 := by
  have h1 := encs_len_le (snap_okn h hok).2.2.2
  have h2 := snapNums_length s
  have h3 : ¬ (s.nodes.length = 0 ∨ 8 < s.nodes.length ∨ 8 < s.loads.length ∨ 12 < s.pods.length) := by simpa only [large, decide_eq_false_iff_not] using (check_ok.1 h).1
  omega
end Go.Proofs.Ytjpaeaedfgiomaa

/- How moves and bytes that come in are read as data. -/
namespace Go.Proofs.Ytjpaeaedfgiomaa
set_option linter.unusedSimpArgs false
open Go.ChangeShapes Go.WideShapes Go.RowKit

theorem Try.cellsU8 : Try.prog.cellsOf 5 = 1 := by kernel_rfl
theorem Try.cellsM : Try.prog.cellsOf 90 = 4 := by kernel_rfl
theorem fits_u8 {n : Int} (h : (Lit.int .u8 n).wf = true) : 0 ≤ n ∧ n < 256 := by
  simp [Lit.wf, IntKind.min, IntKind.max, IntKind.signed, IntKind.bits] at h
  omega

theorem list4 {α : Type} (l : List α) (h : l.length = 4) : ∃ c0 c1 c2 c3, l = [c0, c1, c2, c3] := by
  match l, h with
  | [c0, c1, c2, c3], _ => exact ⟨c0, c1, c2, c3, rfl⟩
section
variable {H : Type} {enc : TypeId × Value → H} {w : World} {base : Nat} {sp : Nat → Bool} {held : Bool}
set_option maxRecDepth 100000 in
theorem move_of {n : Nat} {cs : List Value} {x : DataW H × List MemPlace} (hl : cs.length = 4) (h : DataW.trod enc Try.prog w base sp held n 90 cs = some x) : ∃ a : MoveD, cs = cellsM a ∧ True := by
  obtain ⟨xs, m, rfl, _, _, hxl, hf⟩ := DataW.trod_struct Try.underlying90 h
  obtain ⟨c0, c1, c2, c3, rfl⟩ := list4 cs hl
  have h0 : DataW.trod enc Try.prog w base sp held m 3 (([c0, c1, c2, c3].drop 0).take (Try.prog.cellsOf 3)) = xs[0]? := hf 0 _ rfl
  rw [Try.cells3, show ([c0, c1, c2, c3].drop 0).take 1 = [c0] from rfl] at h0
  have h1 : DataW.trod enc Try.prog w base sp held m 3 (([c0, c1, c2, c3].drop 1).take (Try.prog.cellsOf 3)) = xs[1]? := hf 1 _ rfl
  rw [Try.cells3, show ([c0, c1, c2, c3].drop 1).take 1 = [c1] from rfl] at h1
  have h2 : DataW.trod enc Try.prog w base sp held m 3 (([c0, c1, c2, c3].drop 2).take (Try.prog.cellsOf 3)) = xs[2]? := hf 2 _ rfl
  rw [Try.cells3, show ([c0, c1, c2, c3].drop 2).take 1 = [c2] from rfl] at h2
  have h3 : DataW.trod enc Try.prog w base sp held m 3 (([c0, c1, c2, c3].drop 3).take (Try.prog.cellsOf 3)) = xs[3]? := hf 3 _ rfl
  rw [Try.cells3, show ([c0, c1, c2, c3].drop 3).take 1 = [c3] from rfl] at h3
  obtain ⟨k0, rfl, _⟩ := int_of (some_at hxl (by decide)) h0
  obtain ⟨k1, rfl, _⟩ := int_of (some_at hxl (by decide)) h1
  obtain ⟨k2, rfl, _⟩ := int_of (some_at hxl (by decide)) h2
  obtain ⟨k3, rfl, _⟩ := int_of (some_at hxl (by decide)) h3
  exact ⟨⟨k0, k1, k2, k3⟩, rfl, trivial⟩
set_option maxRecDepth 100000 in
/-- A slice of moves. -/
theorem open_moves {r : Reach} {b0 : Nat} {v : Value} {d : DataW H} {ps : List MemPlace} (hval : Value.okWide Try.prog w r b0 30 v) (h : DataW.Trod enc Try.prog w base sp held 30 v d ps) :
    ∃ (m : List MoveD) (A : Option Addr) (c : Nat), v = .slice A m.length c ∧ m.length ≤ c ∧ c ≤ maxLen ∧ Recs 4 cellsM w w.heap.size A m := by
  obtain ⟨av, n0, cap0, rfl⟩ := okWide_slice Try.underlying30 hval
  obtain ⟨fuel, hf⟩ := h
  have hf' : DataW.trod enc Try.prog w base sp held fuel 30 [.slice av n0 cap0] = some (d, ps) := hf
  obtain ⟨A, c, l, e, h1, h2, _, h3, _⟩ := open_recs (cells := cellsM) (size := 4) (Ok := fun _ : MoveD => True) Try.underlying30 Try.cellsM (by decide) (fun n cs x hl h => move_of hl h) hf'
  exact ⟨l, A, c, e, h1, h2, h3⟩
end
section
variable {H : Type} {enc : TypeId × Value → H} {W : World}
set_option maxRecDepth 100000 in
/-- A slice of integers that came in: nil or not. -/
theorem open_row {t e : TypeId} {k : IntKind} (ht : Try.prog.underlying t = some (.slice e)) (he : Try.prog.underlying e = some (.int k)) (hc : Try.prog.cellsOf e = 1)
    {r : Reach} {b0 base : Nat} {sp : Nat → Bool} {held : Bool} {v : Value} {d : DataW H} {ps : List MemPlace} (hval : Value.okWide Try.prog W r b0 t v) (h : DataW.Trod enc Try.prog W base sp held t v d ps) :
    ∃ (A : Option Addr) (c : Nat) (l : List Int), v = .slice A l.length c ∧ l.length ≤ c ∧ c ≤ maxLen ∧ (A = none → c = 0) ∧ Row W W.heap.size A (l.map (Value.int k)) ∧ ∀ x ∈ l, (Lit.int k x).wf = true := by
  obtain ⟨av, n0, cap0, rfl⟩ := okWide_slice ht hval
  obtain ⟨fuel, hf⟩ := h
  rcases open_ints ht he hc hf with ⟨hcs, _⟩ | ⟨a, len, cap, zs, hcs, _, hl, hm, hz, _, hcell, hwz⟩
  · have hcs' : av = none ∧ n0 = 0 ∧ cap0 = 0 := by simpa [Value.cells] using hcs
    obtain ⟨rfl, rfl, rfl⟩ := hcs'
    exact ⟨none, 0, [], rfl, by simp, by unfold maxLen; omega, fun _ => rfl, Row.nil, fun _ h => by simp at h⟩
  · have hcs' : av = some a ∧ n0 = len ∧ cap0 = cap := by simpa [Value.cells] using hcs
    obtain ⟨rfl, rfl, rfl⟩ := hcs'
    have hnz : n0 ≤ zs.length := by rw [hz]; split <;> omega
    have hlen : (zs.take n0).length = n0 := by simp; omega
    refine ⟨some a, cap0, zs.take n0, by rw [hlen], by omega, hm, fun h => by (cases h), ?_, fun x hx => hwz x (List.mem_of_mem_take hx)⟩
    by_cases h0 : n0 = 0
    · exact .inl (by simp [h0])
    · obtain ⟨ab, ao, spot⟩ := a
      have hs0 := hcell 0 (by omega)
      have hspot : spot = none := by simpa [Addr.add] using World.cell?_spot hs0
      subst hspot
      have hlt := World.block_lt_of_cell? _ _ hs0
      rw [Addr.add_lit] at hlt
      refine .inr ⟨ab, ao, rfl, hlt, fun j hj => ?_⟩
      have hj' : j < n0 := by simp at hj; omega
      have := hcell j (by omega)
      rw [Addr.add_lit] at this
      rw [this]
      simp [List.getD, List.getElem?_eq_getElem (show j < zs.length by omega)]
end
end Go.Proofs.Ytjpaeaedfgiomaa

namespace Go.Proofs.Ytjpaeaedfgiomaa
set_option linter.unusedSimpArgs false
theorem Try.own : ownKnob Try.prog.godebug = none := by kernel_rfl
theorem Try.laidOut : laidOutB Try.prog = true := by kernel_rfl
end Go.Proofs.Ytjpaeaedfgiomaa
