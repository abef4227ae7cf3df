/- dunnagelaw00.Is of an error that package wire tells; the head of all statements of layer 2. -/
import Derived.Test.YtglblaeplibjmaaDoorK
import Derived.Test.YtglblaeplibjmaaDoorJ
namespace Go.Proofs.YtglblaeplibjmaaDoor
open Go.RowKit
set_option linter.unusedVariables false

/-- errors.As of a Spot: the target points to it; nothing below the target's block has turned. -/
theorem as_told (e : Addr) (B : Nat) (old : Value) (w : World) (hg : w.cell? ⟨0, 0, none⟩ = some (.iface 73 (.agg #[.pointer (some ⟨1, 28, none⟩)]))) (ht0 : w.cell? ⟨B, 0, none⟩ = some old) (hf0 : w.frozen? ⟨B, 0, none⟩ = false) :
    Calls Tryd.prog 22 #[.iface 51 (.pointer (some e)), .iface 53 (.pointer (some ⟨B, 0, none⟩))] w fun ev w' => ev = .returned (.bool true) ∧ w'.cell? ⟨B, 0, none⟩ = some (.pointer (some e)) ∧ Below B w w' := by
  have htl : B < w.heap.size := World.block_lt_of_cell? w ⟨B, 0, none⟩ ht0
  refine (as_hit e ⟨B, 0, none⟩ old w hg ht0 hf0).mono ?_
  rintro ev w' ⟨h1, h2⟩
  subst h2
  have hold : ((((w.alloc (.cells #[.pointer (some ⟨B, 0, none⟩)] 53)).alloc (.cells #[.pointer (some ⟨1, 53, none⟩), .pointer (some ⟨w.heap.size, 0, none⟩), .int .u64 150] 61)).alloc (.cells #[.pointer (some ⟨1, 53, none⟩), .pointer (some ⟨w.heap.size, 0, none⟩), .int .u64 150] 61)).alloc (.cells #[.pointer (some e)] 51)).cell? ⟨B, 0, none⟩ = some old := by
    rw [World.cell?_alloc_lt _ _ ⟨B, 0, none⟩ (by simp; omega), World.cell?_alloc_lt _ _ ⟨B, 0, none⟩ (by simp; omega), World.cell?_alloc_lt _ _ ⟨B, 0, none⟩ (by simp; omega), World.cell?_alloc_lt _ _ ⟨B, 0, none⟩ htl]; exact ht0
  refine ⟨h1, World.cell?_setCell_same _ _ _ hold, ?_⟩
  · exact (((((Below.refl B w).alloc (by omega) _).alloc (by simp; omega) _).alloc (by simp; omega) _).alloc (by simp; omega) _).setCell (p := ⟨B, 0, none⟩) (Nat.le_refl _) _

set_option maxHeartbeats 800000 in
/-- dunnagelaw00.Is of a Spot itself, at its place, with its Code. -/
theorem Is_yes (g : Nat) (p k : Int) (w : World) (hg : w.cell? ⟨0, 0, none⟩ = some (.iface 73 (.agg #[.pointer (some ⟨1, 28, none⟩)]))) (hb : w.heap[g]? = some (.cells #[.int .i64 p, .int .i64 k] 56 (0, 0))) :
    Calls Tryd.prog 13 #[.iface 51 (.pointer (some ⟨g, 0, none⟩)), .int .i64 p, .int .i64 k] w fun e w' => e = .returned (.bool true) ∧ Below w.heap.size w w' := by
  have hgl : g < w.heap.size := (Array.getElem?_eq_some_iff.1 hb).1
  have h0l : 0 < w.heap.size := by omega
  have hgA : (w.alloc (.cells #[.pointer none] 51)).cell? ⟨0, 0, none⟩ = some (.iface 73 (.agg #[.pointer (some ⟨1, 28, none⟩)])) := by rw [World.cell?_alloc_lt _ _ ⟨0, 0, none⟩ h0l]; exact hg
  have htA : (w.alloc (.cells #[.pointer none] 51)).cell? ⟨w.heap.size, 0, none⟩ = some (.pointer none) := by simp
  have hfA : (w.alloc (.cells #[.pointer none] 51)).frozen? ⟨w.heap.size, 0, none⟩ = false := by simp
  have hne := neq_spots ⟨g, 0, none⟩
  have HB := Lib.hid hb
  have HG := Lib.hid hgA
  have HT := Lib.hid htA
  have HF := Lib.hid hfA
  clear hb hg hgA htA hfA
  go_enter Tryd.func13, Tryd.ntmps13
  go_wp2_with fail
  refine (as_told ⟨g, 0, none⟩ w.heap.size (.pointer none) _ HG.out HT.out HF.out).mono ?_
  rintro e w1 ⟨rfl, hcs, hb1⟩
  have hbw : Below w.heap.size w w1 := ((Below.refl _ w).alloc (Nat.le_refl _) _).trans hb1
  have hc0 : w1.cell? ⟨g, 0, none⟩ = some (.int .i64 p) := by rw [hbw.cell (p := ⟨g, 0, none⟩) hgl]; simp [World.cell?, HB.out]
  have hc1 : w1.cell? ⟨g, 1, none⟩ = some (.int .i64 k) := by rw [hbw.cell (p := ⟨g, 1, none⟩) hgl]; simp [World.cell?, HB.out]
  go_wp2_with fail
  refine (is_code g k _ hc1).mono ?_
  rintro e w1 ⟨rfl, rfl⟩
  go_wp2
  go_ret
  exact ⟨rfl, hbw⟩

/-- string(b) of bytes that read as a list, nil or not. -/
theorem conv_row (l : List Int) (A : Option Addr) (n c R : Nat) (w : World) (hn : n = l.length) (hr : Row w R A (u8s l)) : (convert 24 9 (.slice A n c)).run Tryd.prog w = .ok (.string (strOfNums l)) w := by
  subst hn
  rcases hr with h0 | ⟨b, o, rfl, _, hcell⟩
  · have h1 : l = [] := by simpa using h0
    subst h1
    rw [run_convert_bytes_string w 24 9 5 A _ c Tryd.underlying24 Tryd.underlying5 Tryd.underlying9]
    rcases A with _ | a
    · simp [Conv.bytesToString]; rfl
    · exact run_bytesToString w a 0 c [] (by simp [loadCells, loadCellsFrom])
  · refine run_convert_bytes_arg w 24 5 Tryd.underlying24 Tryd.underlying5 b o l.length c l rfl (fun i hi => ?_) 9 Tryd.underlying9
    have := hcell i (by simpa using hi)
    rw [this]
    simp [List.getD, List.getElem?_eq_getElem hi]

theorem enc_300 : encs [300] = [172, 2] := by
  rw [encs_one, enc_ge (by decide), enc_lt (by decide)]; rfl

theorem enc_1 : encs [1] = [1] := by
  rw [encs_one, enc_lt (by decide)]

set_option maxHeartbeats 800000 in
/-- The head of all statements of layer 2. -/
theorem up_any (w : World) (hg : w.cell? ⟨0, 0, none⟩ = some (.iface 73 (.agg #[.pointer (some ⟨1, 28, none⟩)]))) :
    Calls Tryd.prog 8 #[] w fun e w' => e = .returned (.bool true) ∧ Below w.heap.size w w' := by
  have HG := Lib.hid hg
  clear hg
  go_enter Tryd.func8, Tryd.ntmps8
  go_wp2_with fail
  refine (Put_any [300] _ _ _ (by decide) (by intro n hn; simp at hn; omega) ?_).mono ?_
  · exact .inr ⟨w.heap.size, 0, rfl, by simp, fun j hj => by
      rcases j with _ | j
      · simp
      · simp at hj⟩
  rw [enc_300]
  rintro e w1 ⟨v, rfl, hown, hb1⟩
  obtain ⟨A1, c1, rfl, _, _, _⟩ := own_form hown
  have hrow := (Row.of_own hown).1
  have hz1 := hb1.size
  have k1 : Below w.heap.size w w1 := ((Below.refl _ w).alloc (Nat.le_refl _) _).trans (hb1.mono (by simp))
  have hz1' : w.heap.size < w1.heap.size := by simp at hz1; omega
  have HROW := Lib.hid hrow
  clear hrow hown hz1
  go_wp2_with fail
  refine (All_any [1] [128, 0] _ 3 3 _ (by rw [enc_1]; rfl) (by decide) (by decide) (by decide) (by intro n hn; simp at hn; omega) (by intro n hn; simp at hn; omega) (.inr ⟨by simp, by simp [Miss, scan]⟩) ?_).mono ?_
  · rw [enc_1]
    exact .inr ⟨w1.heap.size, 0, rfl, by simp, fun j hj => by
      rcases j with _ | _ | _ | j
      · simp
      · simp
      · simp
      · exact absurd hj (by simp)⟩
  rintro e w2 ⟨⟨h0, _⟩ | ⟨_, u, rfl, g, rfl, hgB, hblk⟩, hb2⟩
  · exact absurd h0 (by simp)
  have hz2 := hb2.size
  have k2 : Below w.heap.size w w2 := (k1.alloc (by omega) _).trans (hb2.mono (by simp; omega))
  have k12 : Below w1.heap.size w1 w2 := ((Below.refl _ w1).alloc (Nat.le_refl _) _).trans (hb2.mono (by simp))
  have hconv : (convert 24 9 (.slice A1 2 c1)).run Tryd.prog w2 = .ok (.string ⟨#[172, 2]⟩) w2 := conv_row [172, 2] A1 2 c1 _ w2 rfl (HROW.out.below k12 (Nat.le_refl _))
  have HG2 : Hid (w2.cell? ⟨0, 0, none⟩ = _) := (k2.cell (p := ⟨0, 0, none⟩) (World.block_lt_of_cell? w _ HG.out)).trans HG.out
  have HBLK := Lib.hid hblk
  clear hblk hgB HROW
  have hs : ∀ w : World, (binOp .eql 9 (.string ⟨#[172, 2]⟩) (.string ⟨#[172, 2]⟩)).run Tryd.prog w = .ok (.bool true) w := fun _ => by kernel_rfl
  go_wp2_with fail
  refine (Is_yes g 1 2 w2 HG2.out (by have := HBLK.out; rw [enc_1] at this; exact this)).mono ?_
  rintro e w3 ⟨rfl, hb3⟩
  go_wp2
  go_ret
  exact ⟨rfl, k2.trans (hb3.mono (by simp at hz2; omega))⟩
end Go.Proofs.YtglblaeplibjmaaDoor
