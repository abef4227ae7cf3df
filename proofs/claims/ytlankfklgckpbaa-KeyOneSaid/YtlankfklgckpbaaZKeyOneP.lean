/- The law KeyOne: for every two states the call returns true, and each argument reads afterwards as it read before. There is no condition. -/
import Derived.Test.YtlankfklgckpbaaZ03

/- The law KeyOne, walked. -/
namespace Go.Proofs.Ytlankfklgckpbaa
set_option linter.unusedSimpArgs false
open Go.RowKit
set_option linter.unusedVariables false

set_option maxHeartbeats 6400000 in
set_option maxRecDepth 100000 in
theorem keyOne_in (t u : StateD) (A A' : Option Addr) (n c n' c' : Nat) (w : World) (ht : t.Ok) (hu : u.Ok) (hn : n = t.pods.length) (hm : n ≤ maxLen) (hr : Recs 8 cellsP w w.heap.size A t.pods) (hn' : n' = u.pods.length) (hm' : n' ≤ maxLen) (hr' : Recs 8 cellsP w w.heap.size A' u.pods) :
    Calls Try.prog 4 #[.agg #[.slice A n c, .int .i64 t.preempts, .int .i64 t.shifts], .agg #[.slice A' n' c', .int .i64 u.preempts, .int .i64 u.shifts]] w fun e w' => e = .returned (.bool true) ∧ Below w.heap.size w w' := by
  unfold maxLen at hm hm'
  have b00 := below_two w (.cells #[.slice A n c, .int .i64 t.preempts, .int .i64 t.shifts] 26) (.cells #[.slice A' n' c', .int .i64 u.preempts, .int .i64 u.shifts] 26)
  have HB00 := Lib.hid b00
  have HR := Lib.hid hr
  have HR' := Lib.hid hr'
  have HN := Lib.hid hn
  have HN' := Lib.hid hn'
  have HT := Lib.hid ht
  have HU := Lib.hid hu
  clear hr hr' hn hn' ht hu b00
  go_enter Try.func4, Try.ntmps4
  go_wp2_with fail
  refine (up17_any _).mono ?_
  rintro e w1 ⟨rfl, hb1⟩
  obtain ⟨⟨a0, a1, a2⟩, d0, d1, d2⟩ := box2_cells (hb1.mono (show w.heap.size + 2 ≤ _ by simp))
  have kw1 := HB00.out.trans (hb1.mono HB00.out.size)
  have hsz : w.heap.size + 2 ≤ w1.heap.size := by have := hb1.size; simpa using this
  have s0 : w.heap.size < w1.heap.size := by omega
  have s1 : w.heap.size + 1 < w1.heap.size := by omega
  clear hb1
  by_cases h1 : 40 < n
  · go_wp2
    go_ret
    exact ⟨rfl, kw1⟩
  by_cases h2 : 40 < n'
  · go_wp2
    go_ret
    exact ⟨rfl, kw1⟩
  have HQ := Lib.hid (key_one HT.out HU.out (by have := HN.out; omega) (by have := HN'.out; omega))
  have HCT : Hid (∀ V : World, ((∀ b o, b < w1.heap.size → V.cell? ⟨b, o, none⟩ = w1.cell? ⟨b, o, none⟩) ∧ Below w1.heap.size w1 V) → Calls Try.prog 7 #[.agg #[.slice A n c, .int .i64 t.preempts, .int .i64 t.shifts]] V fun e w' => e = .returned (.string (keyS t)) ∧ Below V.heap.size V w') := fun V hV =>
    keyOf_any t A n c V HT.out HN.out (by omega) (((HR.out.below kw1 (Nat.le_refl _)).below hV.2 kw1.size).more (Nat.le_trans kw1.size hV.2.size))
  have HCU : Hid (∀ V : World, ((∀ b o, b < w1.heap.size → V.cell? ⟨b, o, none⟩ = w1.cell? ⟨b, o, none⟩) ∧ Below w1.heap.size w1 V) → Calls Try.prog 7 #[.agg #[.slice A' n' c', .int .i64 u.preempts, .int .i64 u.shifts]] V fun e w' => e = .returned (.string (keyS u)) ∧ Below V.heap.size V w') := fun V hV =>
    keyOf_any u A' n' c' V HU.out HN'.out (by omega) (((HR'.out.below kw1 (Nat.le_refl _)).below hV.2 kw1.size).more (Nat.le_trans kw1.size hV.2.size))
  have HCS : Hid (∀ V : World, ((∀ b o, b < w1.heap.size → V.cell? ⟨b, o, none⟩ = w1.cell? ⟨b, o, none⟩) ∧ Below w1.heap.size w1 V) → Calls Try.prog 11 #[.agg #[.slice A n c, .int .i64 t.preempts, .int .i64 t.shifts], .agg #[.slice A' n' c', .int .i64 u.preempts, .int .i64 u.shifts]] V fun e w' => e = .returned (.bool (stateEq t u)) ∧ Below V.heap.size V w') := fun V hV =>
    stateSame_any t u A A' n c n' c' V HN.out (by omega) HN'.out (by omega) (((HR.out.below kw1 (Nat.le_refl _)).below hV.2 kw1.size).more (Nat.le_trans kw1.size hV.2.size)) (((HR'.out.below kw1 (Nat.le_refl _)).below hV.2 kw1.size).more (Nat.le_trans kw1.size hV.2.size))
  have hq := HQ.out
  clear HQ
  generalize stateEq t u = q at *
  have HQ2 := Lib.hid hq
  clear hq
  go_wp2
  go_region_held3 (fun w' => (∀ b o, b < w1.heap.size → w'.cell? ⟨b, o, none⟩ = w1.cell? ⟨b, o, none⟩) ∧ Below w1.heap.size w1 w')
    (first | (with_reducible assumption) | (show Keeps w1 _; with_reducible (repeat (first | exact Keeps.refl _ | assumption | refine Keeps.drew ?_ | refine Keeps.alloc ?_ _ | refine Keeps.step ?_ (by assumption)))))
    (first
      | (go_at_call 7; (with_reducible refine (HCT.out _ (by assumption)).mono ?_); rintro e w6 ⟨rfl, hb6⟩)
      | (go_at_call 7; (with_reducible refine (HCU.out _ (by assumption)).mono ?_); rintro e w7 ⟨rfl, hb7⟩)
      | (go_at_call 11; (with_reducible refine (HCS.out _ (by assumption)).mono ?_); rintro e w8 ⟨rfl, hb8⟩))
  all_goals
    rename_i hK
    have kV := hK.2
    clear hK
    go_wp2
    go_ret
    exact ⟨ret_bool (by rw [HQ2.out]; simp), kw1.trans (kV.mono kw1.size)⟩
end Go.Proofs.Ytlankfklgckpbaa

namespace Go.Proofs.Ytlankfklgckpbaa
set_option linter.unusedSimpArgs false
open Go.ChangeShapes Go.WideShapes Go.ChangeAt Go.RowKit

set_option maxHeartbeats 400000 in
set_option maxRecDepth 100000 in
theorem keyOne_lifted (os : Os) (started : os.Started) (H : Type) (enc : TypeId × Value → H) :
    ReturnsInHanded {} Try.checked os 4 .any (Rows.keyOneSpec.pre6 enc Try.prog Try.f4 Rows.keyOneRow.domain false) (Rows.keyOneSpec.post enc Try.prog Try.f4 false true false false) := by
  refine returnsInHanded_of_change (C := Try.checked) Try.own started (by kernel_rfl) Try.func4
    (ChangeSpec.witness6 (enc := enc) (C := Try.checked) false ⟨#[], #[.agg #[.slice none 0 0, .int .i64 0, .int .i64 0], .agg #[.slice none 0 0, .int .i64 0, .int .i64 0]], []⟩ 8 (by kernel_rfl) (by kernel_rfl) (by kernel_rfl) (by kernel_rfl)) ?_
  intro W base args ds gs before hval0 hW _ _
  have hval : ∀ (j : Nat) t v, Try.f4.params[j]? = some t → args[j]? = some v → Value.okWide Try.prog W .any base t v := hval0
  have hW' := hW
  have hlt : ∀ x ∈ before, x.block < W.heap.size := fun x hx => hW.lt x hx
  obtain ⟨p, q, hA0, hV, rfl, _, _⟩ := hW
  have hA : DataW.TrodAll enc Try.prog W 0 (fun _ => true) true Try.f4.params.toList args.toList ds p := hA0
  rw [Try.params4] at hA hval
  obtain ⟨v0, v1, d0, d1, p0, p1, rfl, rfl, rfl, h0, h1⟩ := trodAll_two hA
  obtain ⟨rfl, rfl⟩ := trodVars_none hV
  have hv0 := hval 0 26 v0 rfl rfl
  have hv1 := hval 1 26 v1 rfl rfl
  clear hA0 hval0
  simp only [List.append_nil] at hW' hlt
  obtain ⟨t, A1, c1, e0, i1, i2, g1⟩ := open_state hv0 h0
  obtain ⟨u, A2, c2, e1, j1, j2, g2⟩ := open_state hv1 h1
  have key := keyOne_in t u A1 A2 t.pods.length c1 u.pods.length c2 W ⟨g1.2.2.2.2, i1, i2⟩ ⟨g2.2.2.2.2, j1, j2⟩ rfl (Nat.le_trans g1.1 g1.2.1) g1.2.2.2.1 rfl (Nat.le_trans g2.1 g2.2.1) g2.2.2.2.1
  rw [← e0, ← e1] at key
  refine key.mono fun e W' ⟨he, hb⟩ => ?_
  subst he
  exact ⟨_, rfl, _, _, _, [], _, [], hW', trodAll_mk1 (shut_bool Try.underlying4 true), trodAll_mk2 (hb.trod Try.laidOut (by kernel_rfl) (of_decide_eq_true (by kernel_rfl)) h0 (fun x hx => hlt x (by simp [hx]))) (hb.trod Try.laidOut (by kernel_rfl) (of_decide_eq_true (by kernel_rfl)) h1 (fun x hx => hlt x (by simp [hx]))), rfl, hb.frame _, fun h => by cases h⟩

theorem keyOne_holds : Rows.KeyOneSaid :=
  OpenClaim.holds_of_wide 4 Try.f4 rfl rfl rfl rfl rfl rfl rfl ⟨rfl, rfl, rfl, rfl, rfl⟩ rfl rfl rfl rfl rfl (by kernel_rfl) Try.func4 (by kernel_rfl)
    (of_decide_eq_true (by kernel_rfl)) (by unfold Func.isWrapper; first | (rw [if_pos (by decide +kernel)]; kernel_rfl) | (rw [if_neg (by decide +kernel)]; exact ⟨rfl, rfl⟩))
    (fun os started H enc _ => keyOne_lifted os started H enc)
end Go.Proofs.Ytlankfklgckpbaa
