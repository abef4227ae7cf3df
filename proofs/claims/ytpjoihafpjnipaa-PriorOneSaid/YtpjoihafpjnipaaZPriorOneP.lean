/- The law PriorOne: for every state and any three Ids the call returns true, and each argument reads afterwards as it read before. There is no condition. -/
import Derived.Test.YtpjoihafpjnipaaZ05
import Derived.Test.YtpjoihafpjnipaaZ06

/- The law PriorOne. -/
namespace Go.Proofs.Ytpjoihafpjnipaa
set_option linter.unusedSimpArgs false
open Go.RowKit
set_option linter.unusedVariables false

set_option maxHeartbeats 6400000 in
set_option maxRecDepth 100000 in
theorem priorOne_in (t : StateD) (a b k : Int) (A : Option Addr) (n c : Nat) (w : World) (hn : n = t.pods.length) (hr : Recs 8 cellsP w w.heap.size A t.pods) :
    Calls Try.prog 3 #[.agg #[.slice A n c, .int .i64 t.preempts, .int .i64 t.shifts], .int .i64 a, .int .i64 b, .int .i64 k] w fun e w' => e = .returned (.bool true) ∧ Below w.heap.size w w' := by
  have B0 : Bf (w.alloc (.cells #[.slice A n c, .int .i64 t.preempts, .int .i64 t.shifts] 24)) w.heap.size [.slice A n c, .int .i64 t.preempts, .int .i64 t.shifts] := Bf.new w [.slice A n c, .int .i64 t.preempts, .int .i64 t.shifts] 24 rfl
  have k0 : Below w.heap.size w (w.alloc (.cells #[.slice A n c, .int .i64 t.preempts, .int .i64 t.shifts] 24)) := (Below.refl _ _).alloc (Nat.le_refl _) _
  have HR := Lib.hid hr
  have HN := Lib.hid hn
  clear hr hn
  go_enter Try.func3, Try.ntmps3
  go_wp2_with fail
  refine (up10_any _).mono ?_
  rintro e w1 ⟨rfl, hb1⟩
  have k1 := k0.trans (hb1.mono k0.size)
  have B1 := B0.below hb1 B0.lt
  clear hb1 B0 k0
  obtain ⟨a0, a1, a2, a3⟩ := B1.cells3
  by_cases hl : n ≤ 40
  · have hd : decide ((n : Int) > 40) = false := decide_eq_false (by omega)
    have HC : Hid (∀ (x y : Int) (V : World), Below w.heap.size w V → Calls Try.prog 6 #[.agg #[.slice A n c, .int .i64 t.preempts, .int .i64 t.shifts], .int .i64 x, .int .i64 y] V fun e w' => e = .returned (.bool (mayD x y t.pods)) ∧ Below V.heap.size V w') := fun x y V hV =>
      priorMay_any t.pods x y A n c _ _ V HN.out (by omega) ((HR.out.below hV (Nat.le_refl _)).more hV.size)
    have H1 : Hid (mayD a a t.pods = false) := may_self a t.pods
    have H2 : Hid (mayD a b t.pods = true → mayD b a t.pods = false) := may_two
    have H3 : Hid (mayD a b t.pods = true → mayD b k t.pods = true → mayD a k t.pods = true) := may_three
    have C1 : Hid (∀ (V : World), Below w.heap.size w V → Calls Try.prog 6 #[.agg #[.slice A n c, .int .i64 t.preempts, .int .i64 t.shifts], .int .i64 a, .int .i64 a] V fun e w' => e = .returned (.bool false) ∧ Below V.heap.size V w') := fun V hV => by
      have h := HC.out a a V hV
      rw [H1.out] at h
      exact h
    clear hl
    go_wp2_with fail
    refine (HC.out a b _ k1).mono ?_
    rintro e w2 ⟨rfl, hb2⟩
    have k2 := k1.trans (hb2.mono k1.size)
    have B2 := B1.below hb2 B1.lt
    clear hb2 B1 k1 a0 a1 a2 a3
    obtain ⟨a0, a1, a2, a3⟩ := B2.cells3
    go_wp2_with fail
    refine (HC.out b k _ k2).mono ?_
    rintro e w3 ⟨rfl, hb3⟩
    have k3 := k2.trans (hb3.mono k2.size)
    have B3 := B2.below hb3 B2.lt
    clear hb3 B2 k2 a0 a1 a2 a3
    obtain ⟨a0, a1, a2, a3⟩ := B3.cells3
    go_wp2_with fail
    refine (C1.out _ k3).mono ?_
    rintro e w4 ⟨rfl, hb4⟩
    have k4 := k3.trans (hb4.mono k3.size)
    have B4 := B3.below hb4 B3.lt
    clear hb4 B3 k3 a0 a1 a2 a3
    obtain ⟨a0, a1, a2, a3⟩ := B4.cells3
    cases hx : mayD a b t.pods with
    | false =>
      clear hx
      go_wp2
      go_ret
      exact ⟨rfl, k4⟩
    | true =>
      have C2 : Hid (∀ (V : World), Below w.heap.size w V → Calls Try.prog 6 #[.agg #[.slice A n c, .int .i64 t.preempts, .int .i64 t.shifts], .int .i64 b, .int .i64 a] V fun e w' => e = .returned (.bool false) ∧ Below V.heap.size V w') := fun V hV => by
        have h := HC.out b a V hV
        rw [H2.out hx] at h
        exact h
      have H4 := Lib.hid (H3.out hx)
      clear hx
      go_wp2_with fail
      refine (C2.out _ k4).mono ?_
      rintro e w5 ⟨rfl, hb5⟩
      have k5 := k4.trans (hb5.mono k4.size)
      have B5 := B4.below hb5 B4.lt
      clear hb5 B4 k4 a0 a1 a2 a3
      obtain ⟨a0, a1, a2, a3⟩ := B5.cells3
      cases hy : mayD b k t.pods with
      | false =>
        clear hy
        go_wp2
        go_ret
        exact ⟨rfl, k5⟩
      | true =>
        have C3 : Hid (∀ (V : World), Below w.heap.size w V → Calls Try.prog 6 #[.agg #[.slice A n c, .int .i64 t.preempts, .int .i64 t.shifts], .int .i64 a, .int .i64 k] V fun e w' => e = .returned (.bool true) ∧ Below V.heap.size V w') := fun V hV => by
          have h := HC.out a k V hV
          rw [H4.out hy] at h
          exact h
        clear hy
        go_wp2_with fail
        refine (C3.out _ k5).mono ?_
        rintro e w6 ⟨rfl, hb6⟩
        have k6 := k5.trans (hb6.mono k5.size)
        clear hb6
        go_wp2
        go_ret
        exact ⟨rfl, k6⟩
  · have hd : decide ((n : Int) > 40) = true := decide_eq_true (by omega)
    clear hl
    go_wp2
    go_ret
    exact ⟨rfl, k1⟩
end Go.Proofs.Ytpjoihafpjnipaa

namespace Go.Proofs.Ytpjoihafpjnipaa
set_option linter.unusedSimpArgs false
open Go.ChangeShapes Go.WideShapes Go.ChangeAt Go.RowKit

set_option maxHeartbeats 400000 in
set_option maxRecDepth 100000 in
theorem priorOne_lifted (os : Os) (started : os.Started) (H : Type) (enc : TypeId × Value → H) :
    ReturnsInHanded {} Try.checked os 3 .any (Rows.priorOneSpec.pre6 enc Try.prog Try.f3 Rows.priorOneRow.domain false) (Rows.priorOneSpec.post enc Try.prog Try.f3 false true false false) := by
  refine returnsInHanded_of_change (C := Try.checked) Try.own started (by kernel_rfl) Try.func3
    (ChangeSpec.witness6 (enc := enc) (C := Try.checked) false ⟨#[], #[.agg #[.slice none 0 0, .int .i64 0, .int .i64 0], .int .i64 0, .int .i64 0, .int .i64 0], []⟩ 8 (by kernel_rfl) (by kernel_rfl) (by kernel_rfl) (by kernel_rfl)) ?_
  intro W base args ds gs before hval0 hW _ _
  have hval : ∀ (j : Nat) t v, Try.f3.params[j]? = some t → args[j]? = some v → Value.okWide Try.prog W .any base t v := hval0
  have hW' := hW
  have hlt : ∀ x ∈ before, x.block < W.heap.size := fun x hx => hW.lt x hx
  obtain ⟨p, q, hA0, hV, rfl, _, _⟩ := hW
  have hA : DataW.TrodAll enc Try.prog W 0 (fun _ => true) true Try.f3.params.toList args.toList ds p := hA0
  rw [Try.params3] at hA hval
  obtain ⟨v0, v1, v2, v3, d0, d1, d2, d3, p0, p1, p2, p3, rfl, rfl, rfl, h0, h1, h2, h3⟩ := trodAll_four hA
  obtain ⟨rfl, rfl⟩ := trodVars_none hV
  have hv0 := hval 0 24 v0 rfl rfl
  have hv1 := hval 1 3 v1 rfl rfl
  have hv2 := hval 2 3 v2 rfl rfl
  have hv3 := hval 3 3 v3 rfl rfl
  clear hA0 hval0
  simp only [List.append_nil] at hW' hlt
  obtain ⟨t, A1, c1, e0, _, _, g1⟩ := open_state hv0 h0
  obtain ⟨a, e1, _, _, _⟩ := open_int Try.underlying3 hv1 h1
  obtain ⟨b, e2, _, _, _⟩ := open_int Try.underlying3 hv2 h2
  obtain ⟨k, e3, _, _, _⟩ := open_int Try.underlying3 hv3 h3
  have key := priorOne_in t a b k A1 _ c1 W rfl g1.2.2.2.1
  rw [← e0, ← e1, ← e2, ← e3] at key
  refine key.mono fun e W' ⟨he, hb⟩ => ?_
  subst he
  exact ⟨_, rfl, _, _, _, [], _, [], hW', trodAll_mk1 (shut_bool Try.underlying4 true), trodAll_mk4 (hb.trod Try.laidOut (by kernel_rfl) (of_decide_eq_true (by kernel_rfl)) h0 (fun x hx => hlt x (by simp [hx]))) (hb.trod Try.laidOut (by kernel_rfl) (of_decide_eq_true (by kernel_rfl)) h1 (fun x hx => hlt x (by simp [hx]))) (hb.trod Try.laidOut (by kernel_rfl) (of_decide_eq_true (by kernel_rfl)) h2 (fun x hx => hlt x (by simp [hx]))) (hb.trod Try.laidOut (by kernel_rfl) (of_decide_eq_true (by kernel_rfl)) h3 (fun x hx => hlt x (by simp [hx]))), rfl, hb.frame _, fun h => by cases h⟩

theorem priorOne_holds : Rows.PriorOneSaid :=
  OpenClaim.holds_of_wide 3 Try.f3 rfl rfl rfl rfl rfl rfl rfl ⟨rfl, rfl, rfl, rfl, rfl⟩ rfl rfl rfl rfl rfl (by kernel_rfl) Try.func3 (by kernel_rfl)
    (of_decide_eq_true (by kernel_rfl)) (by unfold Func.isWrapper; first | (rw [if_pos (by decide +kernel)]; kernel_rfl) | (rw [if_neg (by decide +kernel)]; exact ⟨rfl, rfl⟩))
    (fun os started H enc _ => priorOne_lifted os started H enc)
end Go.Proofs.Ytpjoihafpjnipaa
