/- errors.As and dunnagelaw00.Is of a Spot: what they tell, and what stays. -/
import Derived.Test.YtaeklohgheildaaDoorK
namespace Go.Proofs.YtaeklohgheildaaDoor
open Go.RowKit
set_option linter.unusedVariables false

/-- errors.As of a Spot: the target points to it; nothing below the target's block has turned. -/
theorem as_told (e : Addr) (B : Nat) (old : Value) (w : World) (hg : w.cell? ⟨0, 0, none⟩ = some (.iface 133 (.agg #[.pointer (some ⟨1, 37, none⟩)]))) (ht0 : w.cell? ⟨B, 0, none⟩ = some old) (hf0 : w.frozen? ⟨B, 0, none⟩ = false) :
    Calls Tryd.prog 50 #[.iface 91 (.pointer (some e)), .iface 93 (.pointer (some ⟨B, 0, none⟩))] w fun ev w' => ev = .returned (.bool true) ∧ w'.cell? ⟨B, 0, none⟩ = some (.pointer (some e)) ∧ Below B w w' := by
  have htl : B < w.heap.size := World.block_lt_of_cell? w ⟨B, 0, none⟩ ht0
  refine (as_hit e ⟨B, 0, none⟩ old w hg ht0 hf0).mono ?_
  rintro ev w' ⟨h1, h2⟩
  subst h2
  have hold : ((((w.alloc (.cells #[.pointer (some ⟨B, 0, none⟩)] 93)).alloc (.cells #[.pointer (some ⟨1, 93, none⟩), .pointer (some ⟨w.heap.size, 0, none⟩), .int .u64 150] 109)).alloc (.cells #[.pointer (some ⟨1, 93, none⟩), .pointer (some ⟨w.heap.size, 0, none⟩), .int .u64 150] 109)).alloc (.cells #[.pointer (some e)] 91)).cell? ⟨B, 0, none⟩ = some old := by
    rw [World.cell?_alloc_lt _ _ ⟨B, 0, none⟩ (by simp; omega), World.cell?_alloc_lt _ _ ⟨B, 0, none⟩ (by simp; omega), World.cell?_alloc_lt _ _ ⟨B, 0, none⟩ (by simp; omega), World.cell?_alloc_lt _ _ ⟨B, 0, none⟩ htl]; exact ht0
  refine ⟨h1, World.cell?_setCell_same _ _ _ hold, ?_⟩
  · exact (((((Below.refl B w).alloc (by omega) _).alloc (by simp; omega) _).alloc (by simp; omega) _).alloc (by simp; omega) _).setCell (p := ⟨B, 0, none⟩) (Nat.le_refl _) _

set_option maxHeartbeats 800000 in
/-- dunnagelaw00.Is of a Spot itself, at its place, with its Code. -/
theorem Is_yes (g : Nat) (p k : Int) (w : World) (hg : w.cell? ⟨0, 0, none⟩ = some (.iface 133 (.agg #[.pointer (some ⟨1, 37, none⟩)]))) (hb : w.heap[g]? = some (.cells #[.int .i64 p, .int .i64 k] 96 (0, 0))) :
    Calls Tryd.prog 22 #[.iface 91 (.pointer (some ⟨g, 0, none⟩)), .int .i64 p, .int .i64 k] w fun e w' => e = .returned (.bool true) ∧ Below w.heap.size w w' := by
  have hgl : g < w.heap.size := (Array.getElem?_eq_some_iff.1 hb).1
  have h0l : 0 < w.heap.size := by omega
  have hgA : (w.alloc (.cells #[.pointer none] 91)).cell? ⟨0, 0, none⟩ = some (.iface 133 (.agg #[.pointer (some ⟨1, 37, none⟩)])) := by rw [World.cell?_alloc_lt _ _ ⟨0, 0, none⟩ h0l]; exact hg
  have htA : (w.alloc (.cells #[.pointer none] 91)).cell? ⟨w.heap.size, 0, none⟩ = some (.pointer none) := by simp
  have hfA : (w.alloc (.cells #[.pointer none] 91)).frozen? ⟨w.heap.size, 0, none⟩ = false := by simp
  have hne := neq_spots ⟨g, 0, none⟩
  have HB := Lib.hid hb
  have HG := Lib.hid hgA
  have HT := Lib.hid htA
  have HF := Lib.hid hfA
  clear hb hg hgA htA hfA
  go_enter Tryd.func22, Tryd.ntmps22
  go_wp2_with fail
  refine (as_told ⟨g, 0, none⟩ w.heap.size (.pointer none) _ HG.out HT.out HF.out).mono ?_
  rintro e w1 ⟨rfl, hcs, hb1⟩
  have hbw : Below w.heap.size w w1 := ((Below.refl _ w).alloc (Nat.le_refl _) _).trans hb1
  have hc0 : w1.cell? ⟨g, 0, none⟩ = some (.int .i64 p) := by rw [hbw.cell (p := ⟨g, 0, none⟩) hgl]; simp [World.cell?, HB.out]
  have hc1 : w1.cell? ⟨g, 1, none⟩ = some (.int .i64 k) := by rw [hbw.cell (p := ⟨g, 1, none⟩) hgl]; simp [World.cell?, HB.out]
  go_wp2_with fail
  refine (is_code g k _ hc1).mono ?_
  rintro e w1 ⟨rfl, rfl⟩
  go_wp2
  go_ret
  exact ⟨rfl, hbw⟩

end Go.Proofs.YtaeklohgheildaaDoor
