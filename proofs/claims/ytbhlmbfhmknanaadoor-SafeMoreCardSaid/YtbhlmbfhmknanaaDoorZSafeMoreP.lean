/- The law SafeMore: for every snapshot, every spec, every state and every number the call returns true, and each argument reads afterwards as it read before; the package-level variable errors.errorType starts as the program's text lays it (the card ties it). There is no other condition. -/
import Derived.Test.YtbhlmbfhmknanaaDoorZ04
import Derived.Test.YtbhlmbfhmknanaaDoorZ11
import Derived.Deep.CutRange
import Derived.Test.YtbhlmbfhmknanaaDoorZ01
import Derived.Test.YtbhlmbfhmknanaaDoorZ03
import Derived.SevenTiedAt

/- The reference's Place and Goal of layer 5. -/
namespace Go.Proofs.YtbhlmbfhmknanaaDoor
set_option linter.unusedSimpArgs false
open Go.RowKit
set_option linter.unusedVariables false

end Go.Proofs.YtbhlmbfhmknanaaDoor

/- The law StateTells where there are too many of something. -/
namespace Go.Proofs.YtbhlmbfhmknanaaDoor
set_option linter.unusedSimpArgs false
open Go.RowKit
set_option linter.unusedVariables false

/-- Four boxes of the call's own. -/
structure Fo (a b c d : List Value) (w V : World) : Prop where
  one : Bf V w.heap.size a
  two : Bf V (w.heap.size + 1) b
  three : Bf V (w.heap.size + 2) c
  four : Bf V (w.heap.size + 3) d
  below : Below w.heap.size w V
section
variable {a b c d : List Value} {w V V' : World}
theorem Fo.keep (h : Fo a b c d w V) (hb : Below V.heap.size V V') : Fo a b c d w V' :=
  ⟨h.one.below hb h.one.lt, h.two.below hb h.two.lt, h.three.below hb h.three.lt, h.four.below hb h.four.lt, h.below.trans (hb.mono h.below.size)⟩
theorem Fo.alloc (h : Fo a b c d w V) (o : Obj) : Fo a b c d w (V.alloc o) := h.keep ((Below.refl _ V).alloc (Nat.le_refl _) o)
theorem Fo.new (w : World) (a b c d : List Value) (t1 t2 t3 t4 : TypeId) : Fo a b c d w ((((w.alloc (.cells a.toArray t1)).alloc (.cells b.toArray t2)).alloc (.cells c.toArray t3)).alloc (.cells d.toArray t4)) :=
  ⟨(((Bf.new w a t1 rfl).alloc _).alloc _).alloc _, ((Bf.new (w.alloc (.cells a.toArray t1)) b t2 (b := w.heap.size + 1) (by simp)).alloc _).alloc _,
    (Bf.new ((w.alloc (.cells a.toArray t1)).alloc (.cells b.toArray t2)) c t3 (b := w.heap.size + 2) (by simp)).alloc _, Bf.new (((w.alloc (.cells a.toArray t1)).alloc (.cells b.toArray t2)).alloc (.cells c.toArray t3)) d t4 (b := w.heap.size + 3) (by simp),
    below_four w _ _ _ _⟩
theorem Fo.facts {a0 a1 a2 b0 b1 b2 c0 c1 c2 d0 d1 d2 : Value} (h : Fo [a0, a1, a2] [b0, b1, b2] [c0, c1, c2] [d0, d1, d2] w V) :
    (V.cell? ⟨w.heap.size, 0, none⟩ = some a0 ∧ V.cell? ⟨w.heap.size, 1, none⟩ = some a1 ∧ V.cell? ⟨w.heap.size, 2, none⟩ = some a2) ∧
    (V.cell? ⟨w.heap.size + 1, 0, none⟩ = some b0 ∧ V.cell? ⟨w.heap.size + 1, 1, none⟩ = some b1 ∧ V.cell? ⟨w.heap.size + 1, 2, none⟩ = some b2) ∧
    (V.cell? ⟨w.heap.size + 2, 0, none⟩ = some c0 ∧ V.cell? ⟨w.heap.size + 2, 1, none⟩ = some c1 ∧ V.cell? ⟨w.heap.size + 2, 2, none⟩ = some c2) ∧
    (V.cell? ⟨w.heap.size + 3, 0, none⟩ = some d0 ∧ V.cell? ⟨w.heap.size + 3, 1, none⟩ = some d1 ∧ V.cell? ⟨w.heap.size + 3, 2, none⟩ = some d2) ∧ w.heap.size < V.heap.size ∧ w.heap.size + 1 < V.heap.size ∧ w.heap.size + 2 < V.heap.size ∧ w.heap.size + 3 < V.heap.size :=
  ⟨⟨h.one.cell 0 _ rfl, h.one.cell 1 _ rfl, h.one.cell 2 _ rfl⟩, ⟨h.two.cell 0 _ rfl, h.two.cell 1 _ rfl, h.two.cell 2 _ rfl⟩, ⟨h.three.cell 0 _ rfl, h.three.cell 1 _ rfl, h.three.cell 2 _ rfl⟩, ⟨h.four.cell 0 _ rfl, h.four.cell 1 _ rfl, h.four.cell 2 _ rfl⟩, h.one.lt, h.two.lt, h.three.lt, h.four.lt⟩
end
end Go.Proofs.YtbhlmbfhmknanaaDoor

/- The law SafeMore. -/
namespace Go.Proofs.YtbhlmbfhmknanaaDoor
set_option linter.unusedSimpArgs false
open Go.RowKit
set_option linter.unusedVariables false

theorem T3.put2 {a b c : List Value} {w V : World} (h : T3 a b c w V) (i : Nat) (v : Value) : T3 a (b.set i v) c w (V.setCell ⟨w.heap.size + 1, i, none⟩ v) :=
  ⟨h.one.other (by simp) _, h.two.set i v, h.three.other (by simp) _, h.below.setCell (by simp) _⟩
theorem more_ok {ns : List NodeD} {ls : List LoadD} {l : List PodD} {x1 x2 t1 t2 m : Int} (hm : 0 ≤ m) (h : okP (whyP (fiveP ns ls l x1 x2 t1 t2)) = true) : okP (whyP (fiveP ns ls l (x1 + m) (x2 + m) t1 t2)) = true := by
  have h0 : badK (fiveP ns ls l x1 x2 t1 t2) 1 5 = [] := by
    cases e : badK (fiveP ns ls l x1 x2 t1 t2) 1 5 with
    | nil => rfl
    | cons p r =>
      have hp : p ∈ badK (fiveP ns ls l x1 x2 t1 t2) 1 5 := by rw [e]; simp
      have := badK_bad hp
      rw [whyP, e] at h
      simp only [List.headD_cons] at h
      rw [h] at this; cases this
  exact (why_nil (five_more hm h0)).2

set_option maxHeartbeats 12800000 in
set_option maxRecDepth 100000 in
theorem safeMore_in (s : SnapD) (x : SpecD) (t : StateD) (more : Int) (hno : ∀ a ∈ s.nodes, a.Ok) (hlo : ∀ a ∈ t.pods, a.Ok) (hi1 : I64 x.preempts) (hi2 : I64 x.shifts) (A1 A2 A3 A4 A5 : Option Addr) (n1 c1 n2 c2 n3 c3 n4 c4 n5 c5 : Nat) (w : World) (hg : Laid w)
    (hn1 : n1 = s.nodes.length) (hr1 : Recs 10 cellsN w w.heap.size A1 s.nodes) (hn2 : n2 = s.loads.length) (hr2 : Recs 5 cellsL w w.heap.size A2 s.loads) (hn4 : n4 = t.pods.length) (hc4 : n4 ≤ c4) (hr4 : Recs 8 cellsP w w.heap.size A4 t.pods) :
    Calls Tryd.prog 4 #[.agg #[.slice A1 n1 c1, .slice A2 n2 c2, .slice A3 n3 c3], .agg #[.slice A5 n5 c5, .int .i64 x.preempts, .int .i64 x.shifts], .agg #[.slice A4 n4 c4, .int .i64 t.preempts, .int .i64 t.shifts], .int .i64 more] w fun e w' => e = .returned (.bool true) ∧ Below w.heap.size w w' := by
  have T0 := T3.new w [.slice A1 n1 c1, .slice A2 n2 c2, .slice A3 n3 c3] [.slice A5 n5 c5, .int .i64 x.preempts, .int .i64 x.shifts] [.slice A4 n4 c4, .int .i64 t.preempts, .int .i64 t.shifts] 26 29 31
  have HG := Lib.hid hg
  have HUP := Lib.hid (up11_any _ (Laid.below hg T0.below (Nat.le_refl _)))
  have HS : Hid (n1 ≤ 40 → n2 ≤ 40 → n4 ≤ 40 → SafeArgs s.nodes s.loads t.pods A1 A2 A4 n1 n2 n4 c4 w) := fun l1 l2 l4 => ⟨hg, hno, hlo, hn1, by omega, hr1, hn2, by omega, hr2, hn4, by omega, hc4, hr4⟩
  have HI1 : Hid (-9223372036854775808 ≤ x.preempts) := hi1.1
  have HI2 : Hid (-9223372036854775808 ≤ x.shifts) := hi2.1
  generalize x.preempts = x1 at *
  generalize x.shifts = x2 at *
  generalize t.preempts = t1 at *
  generalize t.shifts = t2 at *
  clear hg hr1 hr2 hr4 hn1 hn2 hn4 hc4 hno hlo hi1 hi2
  go_enter Tryd.func4, Tryd.ntmps4
  go_wp2_with fail
  refine HUP.out.mono ?_
  rintro e w1 ⟨rfl, hb1⟩
  have T1 := T0.keep hb1
  clear hb1 T0 HUP
  obtain ⟨a0, a1, a2, a3⟩ := T1.one.cells3
  obtain ⟨b0, b1, b2, b3⟩ := T1.two.cells3
  obtain ⟨d0, d1, d2, d3⟩ := T1.three.cells3
  go_wp2_with fail
  refine (few05_any _ _ _ _ _ _ _ _ _ _ _ _ _ _ _ _ _ _ _ _).mono ?_
  rintro e w2 ⟨rfl, hb2⟩
  have T2' := T1.keep hb2
  have HK2 := Lib.hid T2'.below
  have HT2 := Lib.hid T2'
  clear hb2 T1 a0 a1 a2 a3 b0 b1 b2 b3 d0 d1 d2 d3
  cases hfew : few05 n1 n2 n3 n5 n4 with
  | false =>
    clear hfew T2'
    go_wp2
    go_ret
    exact ⟨rfl, HK2.out⟩
  | true =>
    obtain ⟨hl1, hl2, hl3, hl5, hl4⟩ := few11 hfew
    have HA := Lib.hid (HS.out hl1 hl2 hl4)
    have HIS := Lib.hid (fun (V : World) (hV : Below w.heap.size w V) (z1 z2 : Int) => safeIs_any s.nodes s.loads t.pods z1 z2 t1 t2 A1 A2 A3 A4 A5 n1 c1 n2 c2 n3 c3 n4 c4 n5 c5 V (HA.out.at hV))
    have HMO := Lib.hid (fun (hm : 0 ≤ more) => more_ok (ns := s.nodes) (ls := s.loads) (l := t.pods) (x1 := x1) (x2 := x2) (t1 := t1) (t2 := t2) hm)
    clear hfew hl1 hl2 hl3 hl4 hl5 HS HA
    obtain ⟨a0, a1, a2, a3⟩ := T2'.one.cells3
    obtain ⟨b0, b1, b2, b3⟩ := T2'.two.cells3
    obtain ⟨d0, d1, d2, d3⟩ := T2'.three.cells3
    clear T2'
    by_cases q1 : more < 0
    · have d1' : decide (more < 0) = true := decide_eq_true q1
      clear q1
      go_wp2
      go_ret
      exact ⟨rfl, HK2.out⟩
    have f1 : decide (more < 0) = false := decide_eq_false q1
    by_cases q2 : 1000 < more
    · have d2' : decide (1000 < more) = true := decide_eq_true q2
      clear q1 q2
      go_wp2
      go_ret
      exact ⟨rfl, HK2.out⟩
    have f2 : decide (1000 < more) = false := decide_eq_false q2
    by_cases q3 : 1000 < x1
    · have d3' : decide (1000 < x1) = true := decide_eq_true q3
      clear q1 q2 q3
      go_wp2
      go_ret
      exact ⟨rfl, HK2.out⟩
    have f3 : decide (1000 < x1) = false := decide_eq_false q3
    by_cases q4 : 1000 < x2
    · have d4' : decide (1000 < x2) = true := decide_eq_true q4
      clear q1 q2 q3 q4
      go_wp2
      go_ret
      exact ⟨rfl, HK2.out⟩
    have f4 : decide (1000 < x2) = false := decide_eq_false q4
    have w1' : IntKind.i64.wrap (x1 + more) = x1 + more := IntWalk.i64_in _ (by have := HI1.out; omega)
    have w2' : IntKind.i64.wrap (x2 + more) = x2 + more := IntWalk.i64_in _ (by have := HI2.out; omega)
    have w3' : wrap64 (x1 + more) = x1 + more := IntWalk.wrap64_in _ (by have := HI1.out; omega)
    have w4' : wrap64 (x2 + more) = x2 + more := IntWalk.wrap64_in _ (by have := HI2.out; omega)
    have HM := Lib.hid (show 0 ≤ more by omega)
    clear q1 q2 q3 q4
    go_wp2_with fail
    refine (HIS.out _ HK2.out x1 x2).mono ?_
    rintro e w3 ⟨rfl, hb3⟩
    have T3' := HT2.out.keep hb3
    have HT3 := Lib.hid T3'
    have HK3 := Lib.hid T3'.below
    clear hb3 HT2 HK2 a0 a1 a2 a3 b0 b1 b2 b3 d0 d1 d2 d3
    cases hok : okP (whyP (fiveP s.nodes s.loads t.pods x1 x2 t1 t2)) with
    | false =>
      clear hok T3'
      go_wp2
      go_ret
      exact ⟨rfl, HK3.out⟩
    | true =>
      have HOK := Lib.hid (HMO.out HM.out hok)
      have hz : w.heap.size + 1 < w3.heap.size := T3'.two.lt
      have T4 : T3 [.slice A1 n1 c1, .slice A2 n2 c2, .slice A3 n3 c3] [.slice A5 n5 c5, .int .i64 (x1 + more), .int .i64 (x2 + more)] [.slice A4 n4 c4, .int .i64 t1, .int .i64 t2] w ((w3.setCell ⟨w.heap.size + 1, 1, none⟩ (.int .i64 (x1 + more))).setCell ⟨w.heap.size + 1, 2, none⟩ (.int .i64 (x2 + more))) := (T3'.put2 1 (.int .i64 (x1 + more))).put2 2 (.int .i64 (x2 + more))
      obtain ⟨a0, a1, a2, a3⟩ := T3'.one.cells3
      obtain ⟨b0, b1, b2, b3⟩ := T3'.two.cells3
      obtain ⟨d0, d1, d2, d3⟩ := T3'.three.cells3
      have z1 := T3'.two.frozen 1
      have z2 := T3'.two.frozen 2
      clear hok T3'
      go_upto_region 7 with fail
      generalize (w3.setCell ⟨w.heap.size + 1, 1, none⟩ (.int .i64 (x1 + more))).setCell ⟨w.heap.size + 1, 2, none⟩ (.int .i64 (x2 + more)) = W at *
      clear a0 a1 a2 a3 b0 b1 b2 b3 d0 d1 d2 d3 z1 z2
      have HT4 := Lib.hid T4
      have HK4 := Lib.hid T4.below
      obtain ⟨a0, a1, a2, a3⟩ := T4.one.cells3
      obtain ⟨b0, b1, b2, b3⟩ := T4.two.cells3
      obtain ⟨d0, d1, d2, d3⟩ := T4.three.cells3
      clear T4
      go_wp2_with fail
      refine (HIS.out _ HK4.out (x1 + more) (x2 + more)).mono ?_
      rintro e w5 ⟨rfl, hb5⟩
      rw [HOK.out]
      have HK5 := Lib.hid (HT4.out.keep hb5).below
      clear hb5
      go_wp2
      go_ret
      exact ⟨rfl, HK5.out⟩
end Go.Proofs.YtbhlmbfhmknanaaDoor

namespace Go.Proofs.YtbhlmbfhmknanaaDoor
set_option linter.unusedSimpArgs false
open Go.ChangeShapes Go.WideShapes Go.ChangeAt Go.RowKit

set_option maxHeartbeats 400000 in
set_option maxRecDepth 100000 in
theorem safeMore_lifted (os : Os) (started : os.Started) (H : Type) (enc : TypeId × Value → H) :
    ReturnsInHanded {} Tryd.checked os 4 .any (fun w args => (Rows.safeMoreSpec.pre enc Tryd.prog Tryd.f4 [] false w args ∧ laidMetH Tryd.prog [("errors.errorType", Rows.laid_errors_errorType)] w) ∧ sizedMet enc Tryd.prog Tryd.f4 (OpenSpec.ofChange Rows.safeMoreSpec) false w args)
      (Rows.safeMoreSpec.post enc Tryd.prog Tryd.f4 false true false false) := by
  refine returnsInHanded_of_change_and (C := Tryd.checked) (X := fun w _ => laidMetH Tryd.prog [("errors.errorType", Rows.laid_errors_errorType)] w) (fun _ _ _ hh h => h.of_heap hh) Tryd.own started (by kernel_rfl) Tryd.func4
    (ChangeSpec.witness_at (enc := enc) (C := Tryd.checked) (os := os) (X := fun w _ => laidMetH Tryd.prog [("errors.errorType", Rows.laid_errors_errorType)] w) false (laidWorld os) #[.agg #[.slice none 0 0, .slice none 0 0, .slice none 0 0], .agg #[.slice none 0 0, .int .i64 0, .int .i64 0], .agg #[.slice none 0 0, .int .i64 0, .int .i64 0], .int .i64 0] 8 rfl (by kernel_rfl) (by kernel_rfl) (by kernel_rfl) (by kernel_rfl) (by kernel_rfl) (laidWorld_met os _)) ?_
  intro W base args ds gs before hval0 hW _ _ hL _
  have hval : ∀ (j : Nat) t v, Tryd.f4.params[j]? = some t → args[j]? = some v → Value.okWide Tryd.prog W .any base t v := hval0
  have hW' := hW
  have hlt : ∀ x ∈ before, x.block < W.heap.size := fun x hx => hW.lt x hx
  obtain ⟨p, q, hA0, hV, rfl, _, _⟩ := hW
  have hA : DataW.TrodAll enc Tryd.prog W 0 (fun _ => true) true Tryd.f4.params.toList args.toList ds p := hA0
  rw [Tryd.params4] at hA hval
  obtain ⟨v0, v1, v2, v3, d0, d1, d2, d3, p0, p1, p2, p3, rfl, rfl, rfl, h0, h1, h2, h3⟩ := trodAll_four hA
  obtain ⟨rfl, rfl⟩ := trodVars_none hV
  have hv0 := hval 0 26 v0 rfl rfl
  have hv1 := hval 1 29 v1 rfl rfl
  have hv2 := hval 2 31 v2 rfl rfl
  have hv3 := hval 3 3 v3 rfl rfl
  clear hA0 hval0
  simp only [List.append_nil] at hW' hlt
  obtain ⟨s, A1, A2, A3, c1, c2, c3, e0, g1, g2, g3⟩ := open_snap hv0 h0
  obtain ⟨x, A5, c5, e1, i5, j5, g5⟩ := open_spec hv1 h1
  obtain ⟨t, A4, c4, e2, _, _, g4⟩ := open_state hv2 h2
  obtain ⟨id, e3, i3, _, _⟩ := open_int Tryd.underlying3 hv3 h3
  subst e0 e1 e2 e3
  refine (safeMore_in s x t id g1.2.2.2.2 g4.2.2.2.2 i5 j5 A1 A2 A3 A4 A5 _ c1 _ c2 _ c3 _ c4 _ c5 W (handle_of_laid hL) rfl g1.2.2.2.1 rfl g2.2.2.2.1 rfl g4.1 g4.2.2.2.1).mono fun e W' ⟨he, hb⟩ => ?_
  subst he
  exact ⟨_, rfl, _, _, _, [], _, [], hW', trodAll_mk1 (shut_bool Tryd.underlying4 true), trodAll_mk4 (hb.trod Tryd.laidOut (by kernel_rfl) (of_decide_eq_true (by kernel_rfl)) h0 (fun x hx => hlt x (by simp [hx]))) (hb.trod Tryd.laidOut (by kernel_rfl) (of_decide_eq_true (by kernel_rfl)) h1 (fun x hx => hlt x (by simp [hx]))) (hb.trod Tryd.laidOut (by kernel_rfl) (of_decide_eq_true (by kernel_rfl)) h2 (fun x hx => hlt x (by simp [hx]))) (hb.trod Tryd.laidOut (by kernel_rfl) (of_decide_eq_true (by kernel_rfl)) h3 (fun x hx => hlt x (by simp [hx]))), rfl, hb.frame _, fun h => by cases h⟩

theorem safeMore_row : Rows.SafeMoreSaid :=
  OpenClaim.holds_of_wide 4 Tryd.f4 rfl rfl rfl rfl rfl rfl rfl ⟨rfl, rfl, rfl, rfl, rfl⟩ rfl rfl rfl rfl rfl (by kernel_rfl) Tryd.func4 (by kernel_rfl)
    (of_decide_eq_true (by kernel_rfl)) (by unfold Func.isWrapper; first | (rw [if_pos (by decide +kernel)]; kernel_rfl) | (rw [if_neg (by decide +kernel)]; exact ⟨rfl, rfl⟩))
    (fun os started H enc _ => safeMore_lifted os started H enc)

theorem safeMore_holds : Rows.SafeMoreCardSaid :=
  Claim7.holds_tied_plain_at .later [] [.handle] true (true, "826d7ec7b26e9d63508b9a1b6734daba155b8253bb3111857c1a00cd218b8e48") true
    safeMore_row (fun _ h => by cases h) (by kernel_rfl) (fun _ h => by cases h) safeMore_row_tie rfl ⟨rfl, rfl⟩ (by kernel_rfl) rfl
    (fun f fn hf hfn => by
      obtain rfl : f = 4 := Option.some.inj ((show Tryd.prog.funcNamed Rows.safeMoreRow.func = some 4 by kernel_rfl).symm.trans hf) |>.symm
      obtain rfl : fn = Tryd.f4 := (Option.some.inj (Tryd.func4.symm.trans hfn)).symm
      exact ⟨by kernel_rfl, fun j t ht => by
        rw [Tryd.params4] at ht
        rcases j with _ | j
        · obtain rfl : t = 26 := by simpa using ht.symm
          exact (show Tryd.prog.wantsStandIn 26 = false by kernel_rfl)
        rcases j with _ | j
        · obtain rfl : t = 29 := by simpa using ht.symm
          exact (show Tryd.prog.wantsStandIn 29 = false by kernel_rfl)
        rcases j with _ | j
        · obtain rfl : t = 31 := by simpa using ht.symm
          exact (show Tryd.prog.wantsStandIn 31 = false by kernel_rfl)
        rcases j with _ | j
        · obtain rfl : t = 3 := by simpa using ht.symm
          exact (show Tryd.prog.wantsStandIn 3 = false by kernel_rfl)
        · simp at ht⟩)
    (by kernel_rfl)
end Go.Proofs.YtbhlmbfhmknanaaDoor
