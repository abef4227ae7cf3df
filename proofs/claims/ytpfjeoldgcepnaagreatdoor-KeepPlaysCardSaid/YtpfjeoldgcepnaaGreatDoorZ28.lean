/- Joined texts, part 28: V9O. -/
import Derived.Test.YtpfjeoldgcepnaaGreatDoorZ03
import Derived.Test.YtpfjeoldgcepnaaGreatDoorZ27

namespace Go.Proofs.YtpfjeoldgcepnaaGreatDoor
set_option linter.unusedSimpArgs false
open Go.ChangeShapes Go.WideShapes Go.ChangeAt Go.RowKit

theorem list5_pl {α : Type} (l : List α) (h : l.length = 5) : ∃ c0 c1 c2 c3 c4, l = [c0, c1, c2, c3, c4] := by
  match l, h with
  | [c0, c1, c2, c3, c4], _ => exact ⟨c0, c1, c2, c3, c4, rfl⟩
theorem Tryz.cellsPl13 : Tryz.prog.cellsOf 50 = 5 := by kernel_rfl
section
variable {H : Type} {enc : TypeId × Value → H} {w : World} {base : Nat} {sp : Nat → Bool} {held : Bool}
set_option maxRecDepth 100000 in
theorem play_ofV {n : Nat} {cs : List Value} {x : DataW H × List MemPlace} (hl : cs.length = 5) (h : DataW.trod enc Tryz.prog w base sp held n 50 cs = some x) : ∃ a : PlayD, cs = cellsPl a ∧ True := by
  obtain ⟨xs, m, rfl, _, _, hxl, hf⟩ := DataW.trod_struct Tryz.underlying50 h
  obtain ⟨c0, c1, c2, c3, c4, rfl⟩ := list5_pl cs hl
  have h0 : DataW.trod enc Tryz.prog w base sp held m 4 (([c0, c1, c2, c3, c4].drop 0).take (Tryz.prog.cellsOf 4)) = xs[0]? := hf 0 _ rfl
  rw [Tryz.cells4, show ([c0, c1, c2, c3, c4].drop 0).take 1 = [c0] from rfl] at h0
  have h1 : DataW.trod enc Tryz.prog w base sp held m 48 (([c0, c1, c2, c3, c4].drop 1).take (Tryz.prog.cellsOf 48)) = xs[1]? := hf 1 _ rfl
  rw [Tryz.cellsMv, show ([c0, c1, c2, c3, c4].drop 1).take 4 = [c1, c2, c3, c4] from rfl] at h1
  obtain ⟨k0, rfl⟩ := bool_of (some_at hxl (by simp)) h0
  obtain ⟨y1, hy1⟩ := Option.isSome_iff_exists.1 (some_at (i := 1) hxl (by simp))
  rw [hy1] at h1
  obtain ⟨a, ha, _⟩ := move_ofV rfl h1
  simp only [cellsM, List.cons.injEq, and_true] at ha
  obtain ⟨rfl, rfl, rfl, rfl⟩ := ha
  exact ⟨⟨k0, a⟩, rfl, trivial⟩
set_option maxRecDepth 100000 in
/-- A slice of moves that are to be done, or taken back. -/
theorem open_plays {r : Reach} {b0 : Nat} {v : Value} {d : DataW H} {ps : List MemPlace} (hval : Value.okWide Tryz.prog w r b0 30 v) (h : DataW.Trod enc Tryz.prog w base sp held 30 v d ps) :
    ∃ (m : List PlayD) (A : Option Addr) (c : Nat), v = .slice A m.length c ∧ m.length ≤ c ∧ c ≤ maxLen ∧ Recs 5 cellsPl w w.heap.size A m := by
  obtain ⟨av, n0, cap0, rfl⟩ := okWide_slice Tryz.underlying30 hval
  obtain ⟨fuel, hf⟩ := h
  have hf' : DataW.trod enc Tryz.prog w base sp held fuel 30 [.slice av n0 cap0] = some (d, ps) := hf
  obtain ⟨A, c, l, e, h1, h2, _, h3, _⟩ := open_recs (cells := cellsPl) (size := 5) (Ok := fun _ : PlayD => True) Tryz.underlying30 Tryz.cellsPl13 (by decide) (fun n cs x hl h => play_ofV hl h) hf'
  exact ⟨l, A, c, e, h1, h2, h3⟩
end
end Go.Proofs.YtpfjeoldgcepnaaGreatDoor
