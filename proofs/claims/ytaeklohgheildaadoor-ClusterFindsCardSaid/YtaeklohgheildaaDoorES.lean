/- slices.Sort and slices.Compact at a slice of the call's own. -/
import Derived.Test.YtaeklohgheildaaDoorEP
import Derived.Test.YtaeklohgheildaaDoorEZ
import Derived.Sort.OwnSortedInts
import Derived.Lib.OwnBridge
import Derived.Sort.Grow
namespace Go.Proofs.YtaeklohgheildaaDoor
open Go.RowKit Go.Shelf Go.Sort
set_option linter.unusedVariables false

theorem slice_shape {w : World} {B : Nat} {v : Value} {zs : List Int} (h : w.ownsRow B 3 1 v zs.length (i64s zs)) : (v = .slice none 0 0 ∧ zs = []) ∨ ∃ g cap cur, v = .slice (some ⟨g, 0, none⟩) zs.length cap ∧ B ≤ g ∧ w.heap[g]? = some (.cells cur 3 (0, 0)) ∧ zs.length ≤ cap ∧ cap ≤ maxLen ∧ cur.size = cap * 1 ∧ cur.toList.take zs.length = i64s zs := by
  rcases h.2 with ⟨h1, h2⟩ | ⟨g, cap, cur, h1, h2, h3, h4, h5, h6, h7⟩
  · exact .inl ⟨h1, List.eq_nil_of_length_eq_zero h2⟩
  · exact .inr ⟨g, cap, cur, h1, h2, h3, h4, h5, h6, by rw [Nat.mul_one] at h7; exact h7⟩
theorem sort_own : SortOwn := by
  intro B v zs w hB hown hl
  rcases slice_shape hown with ⟨rfl, rfl⟩ | ⟨g, cap, cur, rfl, hbase, hb, h1, h2, h3, h4⟩
  · exact (Any.slices_Sort_int_none Tryd.laysSort none 0 w).mono fun e w' ⟨he, hw⟩ => ⟨he, by subst hw; rw [show sortI [] = [] by simp [sortI]]; exact hown, by subst hw; exact Below.refl _ _⟩
  · have hgl : g < w.heap.size := (Array.getElem?_eq_some_iff.1 hb).1
    refine (Any.slices_Sort_int Tryd.laysSort g 0 cap zs w (holds_of_blockI hb h4) hgl (by omega)).mono fun e w' ⟨he, n, os, hw⟩ => ⟨he, ?_, ?_⟩
    · subst hw
      exact ownsRow_sortedI (ss := zs) (ts := sortI zs) (List.length_mergeSort zs) hbase hb h1 h2 h3
    · subst hw
      exact (Below.refl B w).grown (grownBy_sortedI _) hB (fun j hj => by cases hj; exact hbase)
theorem comp_own : CompOwn := by
  intro B v zs w hB hown hl
  rcases slice_shape hown with ⟨rfl, rfl⟩ | ⟨g, cap, cur, rfl, hbase, hb, h1, h2, h3, h4⟩
  · exact (Any.slices_Compact_int_empty Tryd.laysCompact none 0 w).mono fun e w' ⟨he, hw⟩ => ⟨_, he, by subst hw; exact hown, by subst hw; exact Below.refl _ _⟩
  · refine (Any.slices_Compact_int Tryd.laysCompact g 0 cap zs w (holds_of_blockI hb h4) (by omega) h1).mono fun e w' ⟨he, q, hw⟩ => ⟨_, he, ?_, ?_⟩
    · subst hw
      have hle : (Lib.compact zs).length ≤ zs.length := Lib.compact_length_le zs
      have hc := Lib.ownsRow_putRow (enc := Value.int .i64) (q := q) (k := (Lib.compact zs).length) (ys := Lib.compact zs ++ List.replicate (zs.length - (Lib.compact zs).length) 0) hown (by simp; omega) hle
      rw [List.take_left] at hc
      exact hc
    · subst hw
      exact Lib.below_putRow (Below.refl _ _) hbase
end Go.Proofs.YtaeklohgheildaaDoor
