/- The law WirePuts, walked. -/
import Derived.Test.YtglblaeplibjmaaDoorN
import Derived.Deep.RegionHeld3
import Derived.Deep.RegionWith
namespace Go.Proofs.YtglblaeplibjmaaDoor
open Go.RowKit
set_option linter.unusedVariables false

theorem str_eq (b : ByteArray) (w : World) : (binOp .eql 9 (.string b) (.string b)).run Tryd.prog w = .ok (.bool true) w := by
  simp [go_sem]
theorem str_neq (b : ByteArray) (w : World) : (binOp .neq 9 (.string b) (.string b)).run Tryd.prog w = .ok (.bool false) w := by
  simp [go_sem]

abbrev Laid (w : World) : Prop := w.cell? ⟨0, 0, none⟩ = some (.iface 73 (.agg #[.pointer (some ⟨1, 28, none⟩)]))

set_option maxHeartbeats 800000 in
theorem wirePuts_long (A : Option Addr) (n c : Nat) (w : World) (hg : Laid w) (hn : 1000 < n) (hm : n ≤ maxLen) :
    Calls Tryd.prog 3 #[.slice A n c] w fun e w' => e = .returned (.bool true) ∧ Below w.heap.size w w' := by
  unfold maxLen at hm
  have HG := Lib.hid hg
  clear hg
  go_enter Tryd.func3, Tryd.ntmps3
  go_wp2_with fail
  refine (up_any _ HG.out).mono ?_
  rintro e w1 ⟨rfl, hb1⟩
  go_wp2
  go_ret
  exact ⟨rfl, hb1⟩

set_option maxHeartbeats 800000 in
theorem wirePuts_in (l : List Int) (A : Option Addr) (n c : Nat) (w : World) (hg : Laid w) (hn : n = l.length) (hl : n ≤ 1000) (hns : Nums l) (hr : Row w w.heap.size A (u64s l)) :
    Calls Tryd.prog 3 #[.slice A n c] w fun e w' => e = .returned (.bool true) ∧ Below w.heap.size w w' := by
  have HG := Lib.hid hg
  have HN := Lib.hid hn
  have HS := Lib.hid hns
  have HR := Lib.hid hr
  clear hg hn hns hr
  go_enter Tryd.func3, Tryd.ntmps3
  go_wp2_with fail
  refine (up_any _ HG.out).mono ?_
  rintro e w1 ⟨rfl, hb1⟩
  have hz1 := hb1.size
  have hpu : ∀ v : World, Below w1.heap.size w1 v → Calls Tryd.prog 9 #[.slice A n c] v (PutTo v.heap.size (encs l) v) := fun v hv => by
    have h := (HR.out.below hb1 (Nat.le_refl _)).below hv hz1
    have e := HN.out
    subst e
    exact Put_any l A c v (by omega) HS.out (h.more (Nat.le_trans hz1 hv.size))
  have hpr : ∀ v : World, Below w1.heap.size w1 v → Calls Tryd.prog 10 #[.slice A n c] v (PutTo v.heap.size (encs l) v) := fun v hv => by
    have h := (HR.out.below hb1 (Nat.le_refl _)).below hv hz1
    have e := HN.out
    subst e
    exact rPut_any l A c v (by omega) HS.out (h.more (Nat.le_trans hz1 hv.size))
  have HPU := Lib.hid hpu
  have HPR := Lib.hid hpr
  clear hpu hpr
  have hse := str_eq (strOfNums (encs l))
  go_wp2
  go_region_with (first
    | (go_at_call 9; refine (HPU.out _ ?_).mono ?_; exact Below.drew (Below.refl _ _); rintro e w2 ⟨v, rfl, hown2, hb2⟩; obtain ⟨A2, c2, rfl, _, _, _⟩ := own_form hown2; have HROW2 := Lib.hid (Row.of_own hown2).1; have hcv2 := conv_row (encs l) A2 (encs l).length c2 _ w2 rfl HROW2.out; clear hown2)
    | (go_at_call 10; refine (HPR.out _ ?_).mono ?_; exact (Below.drew (Below.refl w1.heap.size w1)).trans hb2; rintro e w3 ⟨v, rfl, hown3, hb3⟩; obtain ⟨A3, c3, rfl, _, _, _⟩ := own_form hown3; have HROW3 := Lib.hid (Row.of_own hown3).1; have hcv2' := conv_row (encs l) A2 (encs l).length c2 _ w3 rfl (HROW2.out.below hb3 (Nat.le_refl _)); have hcv3 := conv_row (encs l) A3 (encs l).length c3 _ w3 rfl HROW3.out; clear hown3))
  all_goals
    go_wp2
    go_ret
    exact ⟨rfl, hb1.trans ((((Below.drew (Below.refl w1.heap.size w1)).trans hb2).trans (hb3.mono hb2.size)).mono hz1)⟩
end Go.Proofs.YtglblaeplibjmaaDoor
