/- The law StateTells: for every snapshot, every spec, any two states and any Id the call returns true, and each argument reads afterwards as it read before. There is no condition. -/
import Derived.Test.YthmddkelfnfhkaaZ06
import Derived.Test.YthmddkelfnfhkaaZ07
import Derived.ChangeSame
import Derived.ChangeVars
import Derived.JoinedOf
import Derived.RowKit
import Derived.RowKitTokens
import Derived.Carry
import Derived.ChangeSlices

namespace Go.Proofs.Ythmddkelfnfhkaa
set_option linter.unusedSimpArgs false
open Go.ChangeShapes Go.WideShapes Go.ChangeAt Go.RowKit

theorem Try.own : ownKnob Try.prog.godebug = none := by kernel_rfl
theorem Try.laidOut : laidOutB Try.prog = true := by kernel_rfl
theorem Try.cellsT : Try.prog.cellsOf 31 = 3 := by kernel_rfl
section
variable {H : Type} {enc : TypeId × Value → H} {w : World} {base : Nat} {sp : Nat → Bool} {held : Bool}
set_option maxRecDepth 100000 in
/-- A state by value. -/
theorem open_state {r : Reach} {b0 : Nat} {v : Value} {d : DataW H} {ps : List MemPlace} (hval : Value.okWide Try.prog w r b0 31 v) (h : DataW.Trod enc Try.prog w base sp held 31 v d ps) :
    ∃ (t : StateD) (A : Option Addr) (c : Nat), v = .agg #[.slice A t.pods.length c, .int .i64 t.preempts, .int .i64 t.shifts] ∧ I64 t.preempts ∧ I64 t.shifts ∧
      (t.pods.length ≤ c ∧ c ≤ maxLen ∧ (A = none → c = 0) ∧ Recs 8 cellsP w w.heap.size A t.pods ∧ ∀ a ∈ t.pods, a.Ok) := by
  obtain ⟨v0, v1, v2, y0, y1, y2, n, rfl, _, _, h0, h1, h2⟩ := Go.Joins.open_agg3 Try.underlying31 (by kernel_rfl) Try.cellsT hval h
  obtain ⟨A, c, l, rfl, p⟩ := open_recs (Ok := PodD.Ok) Try.underlying24 Try.cellsP (by decide) (fun _ _ _ hl h => pod_of hl h) h0
  obtain ⟨k1, rfl, i1⟩ := int_of rfl h1
  obtain ⟨k2, rfl, i2⟩ := int_of rfl h2
  exact ⟨⟨l, k1, k2⟩, A, c, rfl, i1, i2, p⟩
end
section
variable {H : Type} {enc : TypeId × Value → H} {P : Program} {w : World} {base : Nat} {spare : Nat → Bool} {held : Bool}
theorem trodAll_five {t0 t1 t2 t3 t4 : TypeId} {args : Array Value} {ds : List (DataW H)} {ps : List MemPlace} (h : DataW.TrodAll enc P w base spare held [t0, t1, t2, t3, t4] args.toList ds ps) :
    ∃ v0 v1 v2 v3 v4 d0 d1 d2 d3 d4 p0 p1 p2 p3 p4, args = #[v0, v1, v2, v3, v4] ∧ ds = [d0, d1, d2, d3, d4] ∧ ps = p0 ++ p1 ++ p2 ++ p3 ++ p4 ∧ DataW.Trod enc P w base spare held t0 v0 d0 p0 ∧ DataW.Trod enc P w base spare held t1 v1 d1 p1 ∧ DataW.Trod enc P w base spare held t2 v2 d2 p2 ∧ DataW.Trod enc P w base spare held t3 v3 d3 p3 ∧ DataW.Trod enc P w base spare held t4 v4 d4 p4 := by
  obtain ⟨v0, vs0, d0, ds0, p0, q0, hargs, rfl, rfl, hd0, hrest0⟩ := trodAll_cons h
  obtain ⟨v1, vs1, d1, ds1, p1, q1, rfl, rfl, rfl, hd1, hrest1⟩ := trodAll_cons hrest0
  obtain ⟨v2, vs2, d2, ds2, p2, q2, rfl, rfl, rfl, hd2, hrest2⟩ := trodAll_cons hrest1
  obtain ⟨v3, vs3, d3, ds3, p3, q3, rfl, rfl, rfl, hd3, hrest3⟩ := trodAll_cons hrest2
  obtain ⟨v4, vs4, d4, ds4, p4, q4, rfl, rfl, rfl, hd4, hrest4⟩ := trodAll_cons hrest3
  obtain ⟨rfl, rfl, rfl⟩ := trodAll_nil hrest4
  exact ⟨v0, v1, v2, v3, v4, d0, d1, d2, d3, d4, p0, p1, p2, p3, p4, by cases args; simp_all, rfl, by simp, hd0, hd1, hd2, hd3, hd4⟩
theorem trodAll_mk5 {t0 t1 t2 t3 t4 : TypeId} {v0 v1 v2 v3 v4 : Value} {d0 d1 d2 d3 d4 : DataW H} {p0 p1 p2 p3 p4 : List MemPlace} (h0 : DataW.Trod enc P w base spare held t0 v0 d0 p0) (h1 : DataW.Trod enc P w base spare held t1 v1 d1 p1)
    (h2 : DataW.Trod enc P w base spare held t2 v2 d2 p2) (h3 : DataW.Trod enc P w base spare held t3 v3 d3 p3) (h4 : DataW.Trod enc P w base spare held t4 v4 d4 p4) : DataW.TrodAll enc P w base spare held [t0, t1, t2, t3, t4] [v0, v1, v2, v3, v4] [d0, d1, d2, d3, d4] (p0 ++ (p1 ++ (p2 ++ (p3 ++ p4)))) :=
  ⟨p0, p1 ++ (p2 ++ (p3 ++ p4)), h0, trodAll_mk4 h1 h2 h3 h4, rfl⟩
end
theorem stateTells_any (v0 v1 v2 v3 v4 : Value) (s : SnapD) (x : SpecD) (t u : StateD) (id : Int) (A1 A2 A3 A4 A5 A6 : Option Addr) (c1 c2 c3 c4 c5 c6 : Nat) (w : World)
    (g3 : (A3 = none → c3 = 0) ∧ Recs 8 cellsP w w.heap.size A3 s.pods) (g4 : Recs 6 cellsW w w.heap.size A4 x.wants) (g5 : Recs 8 cellsP w w.heap.size A5 t.pods) (g6 : Recs 8 cellsP w w.heap.size A6 u.pods)
    (h0 : v0 = .agg #[.slice A1 s.nodes.length c1, .slice A2 s.loads.length c2, .slice A3 s.pods.length c3]) (h1 : v1 = .agg #[.slice A4 x.wants.length c4, .int .i64 x.preempts, .int .i64 x.shifts])
    (h2 : v2 = .agg #[.slice A5 t.pods.length c5, .int .i64 t.preempts, .int .i64 t.shifts]) (h3 : v3 = .agg #[.slice A6 u.pods.length c6, .int .i64 u.preempts, .int .i64 u.shifts]) (h4 : v4 = .int .i64 id) :
    Calls Try.prog 3 #[v0, v1, v2, v3, v4] w fun e w' => e = .returned (.bool true) ∧ Below w.heap.size w w' := by
  subst h0 h1 h2 h3 h4
  by_cases h6 : u.pods.length ≤ 40
  · cases hf : few05 s.nodes.length s.loads.length s.pods.length x.wants.length t.pods.length with
    | true =>
      have hh := hf
      simp only [few05, Bool.and_eq_true, decide_eq_true_eq] at hh
      exact stateTells_in s x t u id A1 A2 A3 A4 A5 A6 _ c1 _ c2 _ c3 _ c4 _ c5 _ c6 w hf h6 (by omega) (by omega) (by omega) rfl rfl rfl rfl g3.1 g3.2 g4 g5 g6
    | false => exact stateTells_long A1 A2 A3 A4 A5 A6 _ c1 _ c2 _ c3 _ c4 _ c5 _ c6 x t u id w (.inl hf)
  · exact stateTells_long A1 A2 A3 A4 A5 A6 _ c1 _ c2 _ c3 _ c4 _ c5 _ c6 x t u id w (.inr h6)

set_option maxHeartbeats 400000 in
set_option maxRecDepth 100000 in
theorem stateTells_lifted (os : Os) (started : os.Started) (H : Type) (enc : TypeId × Value → H) :
    ReturnsInHanded {} Try.checked os 3 .any (Rows.stateTellsSpec.pre6 enc Try.prog Try.f3 Rows.stateTellsRow.domain false) (Rows.stateTellsSpec.post enc Try.prog Try.f3 false true false false) := by
  refine returnsInHanded_of_change (C := Try.checked) Try.own started (by kernel_rfl) Try.func3
    (ChangeSpec.witness6 (enc := enc) (C := Try.checked) false ⟨#[], #[.agg #[.slice none 0 0, .slice none 0 0, .slice none 0 0], .agg #[.slice none 0 0, .int .i64 0, .int .i64 0], .agg #[.slice none 0 0, .int .i64 0, .int .i64 0], .agg #[.slice none 0 0, .int .i64 0, .int .i64 0], .int .i64 0], []⟩ 8 (by kernel_rfl) (by kernel_rfl) (by kernel_rfl) (by kernel_rfl)) ?_
  intro W base args ds gs before hval0 hW _ _
  have hval : ∀ (j : Nat) t v, Try.f3.params[j]? = some t → args[j]? = some v → Value.okWide Try.prog W .any base t v := hval0
  have hW' := hW
  have hlt : ∀ x ∈ before, x.block < W.heap.size := fun x hx => hW.lt x hx
  obtain ⟨p, q, hA0, hV, rfl, _, _⟩ := hW
  have hA : DataW.TrodAll enc Try.prog W 0 (fun _ => true) true Try.f3.params.toList args.toList ds p := hA0
  rw [Try.params3] at hA hval
  obtain ⟨v0, v1, v2, v3, v4, d0, d1, d2, d3, d4, p0, p1, p2, p3, p4, rfl, rfl, rfl, h0, h1, h2, h3, h4⟩ := trodAll_five hA
  obtain ⟨rfl, rfl⟩ := trodVars_none hV
  have hv0 := hval 0 26 v0 rfl rfl
  have hv1 := hval 1 29 v1 rfl rfl
  have hv2 := hval 2 31 v2 rfl rfl
  have hv3 := hval 3 31 v3 rfl rfl
  have hv4 := hval 4 3 v4 rfl rfl
  clear hA0 hval0
  simp only [List.append_nil] at hW' hlt
  obtain ⟨s, A1, A2, A3, c1, c2, c3, e0, g1, g2, g3⟩ := open_snap hv0 h0
  obtain ⟨x, A4, c4, e1, _, _, g4⟩ := open_spec hv1 h1
  obtain ⟨t, A5, c5, e2, _, _, g5⟩ := open_state hv2 h2
  obtain ⟨u, A6, c6, e3, _, _, g6⟩ := open_state hv3 h3
  obtain ⟨id, e4, _, _, _⟩ := open_int Try.underlying3 hv4 h4
  refine (stateTells_any v0 v1 v2 v3 v4 s x t u id A1 A2 A3 A4 A5 A6 c1 c2 c3 c4 c5 c6 W ⟨g3.2.2.1, g3.2.2.2.1⟩ g4.2.2.2.1 g5.2.2.2.1 g6.2.2.2.1 e0 e1 e2 e3 e4).mono fun e W' ⟨he, hb⟩ => ?_
  subst he
  exact ⟨_, rfl, _, _, _, [], _, [], hW', trodAll_mk1 (shut_bool Try.underlying4 true), trodAll_mk5 (hb.trod Try.laidOut (by kernel_rfl) (of_decide_eq_true (by kernel_rfl)) h0 (fun x hx => hlt x (by simp [hx]))) (hb.trod Try.laidOut (by kernel_rfl) (of_decide_eq_true (by kernel_rfl)) h1 (fun x hx => hlt x (by simp [hx]))) (hb.trod Try.laidOut (by kernel_rfl) (of_decide_eq_true (by kernel_rfl)) h2 (fun x hx => hlt x (by simp [hx]))) (hb.trod Try.laidOut (by kernel_rfl) (of_decide_eq_true (by kernel_rfl)) h3 (fun x hx => hlt x (by simp [hx]))) (hb.trod Try.laidOut (by kernel_rfl) (of_decide_eq_true (by kernel_rfl)) h4 (fun x hx => hlt x (by simp [hx]))), rfl, hb.frame _, fun h => by cases h⟩

theorem stateTells_holds : Rows.StateTellsSaid :=
  OpenClaim.holds_of_wide 3 Try.f3 rfl rfl rfl rfl rfl rfl rfl ⟨rfl, rfl, rfl, rfl, rfl⟩ rfl rfl rfl rfl rfl (by kernel_rfl) Try.func3 (by kernel_rfl)
    (of_decide_eq_true (by kernel_rfl)) (by unfold Func.isWrapper; first | (rw [if_pos (by decide +kernel)]; kernel_rfl) | (rw [if_neg (by decide +kernel)]; exact ⟨rfl, rfl⟩))
    (fun os started H enc _ => stateTells_lifted os started H enc)
end Go.Proofs.Ythmddkelfnfhkaa
