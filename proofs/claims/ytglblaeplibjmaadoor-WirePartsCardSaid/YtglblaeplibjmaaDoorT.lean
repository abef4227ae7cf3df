/- The laws WireAlls and WireGets, walked. -/
import Derived.Test.YtglblaeplibjmaaDoorS
namespace Go.Proofs.YtglblaeplibjmaaDoor
open Go.RowKit
set_option linter.unusedVariables false

theorem Laid.below {w w' : World} {B : Nat} (h : Laid w) (hb : Below B w w') (hB : w.heap.size ≤ B) : Laid w' :=
  (hb.cell (p := ⟨0, 0, none⟩) (Nat.lt_of_lt_of_le (World.block_lt_of_cell? w _ h) hB)).trans h

set_option maxHeartbeats 800000 in
theorem wireAlls_long (A : Option Addr) (n c : Nat) (w : World) (hg : Laid w) (hn : 5000 < n) (hm : n ≤ maxLen) :
    Calls Tryd.prog 5 #[.slice A n c] w fun e w' => e = .returned (.bool true) ∧ Below w.heap.size w w' := by
  unfold maxLen at hm
  have HG := Lib.hid hg
  clear hg
  go_enter Tryd.func5, Tryd.ntmps5
  go_wp2_with fail
  refine (up_any _ HG.out).mono ?_
  rintro e w1 ⟨rfl, hb1⟩
  go_wp2
  go_ret
  exact ⟨rfl, hb1⟩

set_option maxHeartbeats 1600000 in
theorem wireAlls_in (ns rest : List Int) (A : Option Addr) (n c : Nat) (w : World) (hg : Laid w) (hn : n = (encs ns ++ rest).length) (hl : n ≤ 5000) (hc : n ≤ c) (hc' : c ≤ maxLen) (hns : Nums ns) (hb : Octs rest) (hm : rest = [] ∨ (rest ≠ [] ∧ Miss rest)) (hr : Row w w.heap.size A (u8s (encs ns ++ rest))) :
    Calls Tryd.prog 5 #[.slice A n c] w fun e w' => e = .returned (.bool true) ∧ Below w.heap.size w w' := by
  have HG := Lib.hid hg
  have HN := Lib.hid hn
  have HS := Lib.hid hns
  have HB := Lib.hid hb
  have HM := Lib.hid hm
  have HR := Lib.hid hr
  have HC := Lib.hid hc'
  clear hg hn hns hb hm hr hc'
  go_enter Tryd.func5, Tryd.ntmps5
  go_wp2_with fail
  refine (up_any _ HG.out).mono ?_
  rintro e w1 ⟨rfl, hb1⟩
  have hz1 := hb1.size
  have HG1 := Lib.hid (HG.out.below hb1 (Nat.le_refl _))
  have HR1 := Lib.hid ((HR.out.below hb1 (Nat.le_refl _)).more hz1)
  go_wp2_with fail
  refine (All_any ns rest A n c _ HN.out (by omega) hc HC.out HS.out HB.out HM.out HR1.out).mono ?_
  rintro e w2 ⟨⟨hre, v, rfl, hown2⟩ | ⟨hre, u, rfl, g, rfl, hgB, hblk⟩, hb2⟩
  · obtain ⟨A2, c2, rfl, _, _, _⟩ := own_form hown2
    have HROW2 := Lib.hid (Row.of_own hown2).1
    have HRE := Lib.hid hre
    clear hre hown2
    have hz2 := hb2.size
    have HR2 := Lib.hid ((HR1.out.below hb2 (Nat.le_refl _)).more hz2)
    go_wp2_with fail
    refine (rAll_any ns rest A n c _ HN.out (by omega) HS.out HB.out HM.out HR2.out).mono ?_
    rintro e w3 ⟨⟨_, v, rfl, hown3⟩ | ⟨hre, _⟩, hb3⟩
    · obtain ⟨A3, c3, rfl, _, _, _⟩ := own_form hown3
      have HROW3 := Lib.hid (Row.of_own hown3).1
      clear hown3
      have hz3 := hb3.size
      have HL : Hid (ns.length ≤ 100000) := by
        have := encs_len_ge ns
        have h1 := HN.out
        show _ ≤ _
        simp at h1; omega
      go_wp2_with fail
      refine (Same_yes ns A2 A3 ns.length c2 c3 _ _ _ rfl HL.out (HROW2.out.below hb3 (Nat.le_refl _)) HROW3.out).mono ?_
      rintro e w4 ⟨rfl, hb4⟩
      go_wp2
      go_ret
      exact ⟨rfl, ((hb1.trans (hb2.mono hz1)).trans (hb3.mono (by omega))).trans (hb4.mono (by omega))⟩
    · exact absurd HRE.out hre
  · have HBLK := Lib.hid hblk
    have HRE := Lib.hid hre
    clear hre hblk hgB
    have hz2 := hb2.size
    have HR2 := Lib.hid ((HR1.out.below hb2 (Nat.le_refl _)).more hz2)
    have HG2 := Lib.hid (HG1.out.below hb2 (Nat.le_refl _))
    go_wp2_with fail
    refine (rAll_any ns rest A n c _ HN.out (by omega) HS.out HB.out HM.out HR2.out).mono ?_
    rintro e w3 ⟨⟨hre, _⟩ | ⟨_, rfl⟩, hb3⟩
    · exact absurd hre HRE.out
    · have hz3 := hb3.size
      have hgl : g < w2.heap.size := (Array.getElem?_eq_some_iff.1 HBLK.out).1
      go_wp2_with fail
      refine (Is_yes g _ 2 _ (HG2.out.below hb3 (Nat.le_refl _)) ((hb3.block g hgl).trans HBLK.out)).mono ?_
      rintro e w4 ⟨rfl, hb4⟩
      go_wp2
      go_ret
      exact ⟨rfl, ((hb1.trans (hb2.mono hz1)).trans (hb3.mono (by omega))).trans (hb4.mono (by omega))⟩
end Go.Proofs.YtglblaeplibjmaaDoor
