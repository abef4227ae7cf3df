/- The law ClusterFound: for every snapshot the call returns true, and each argument reads afterwards as it read before; the package-level variable errors.errorType starts as the program's text lays it (the card ties it). There is no other condition. -/
import Derived.Test.YtaeklohgheildaaDoorRR
import Derived.Test.YtaeklohgheildaaDoorDK
import Derived.Test.YtaeklohgheildaaDoorEF
import Derived.SevenTiedAt
namespace Go.Proofs.YtaeklohgheildaaDoor
open Go.ChangeShapes Go.WideShapes Go.RowKit

theorem clusterFound_any (v : Value) (s : SnapD) (A1 A2 A3 : Option Addr) (c1 c2 c3 : Nat) (w : World) (hg : Laid w)
    (g1 : s.nodes.length ≤ c1 ∧ c1 ≤ maxLen ∧ (A1 = none → c1 = 0) ∧ Recs 10 cellsN w w.heap.size A1 s.nodes ∧ ∀ a ∈ s.nodes, a.Ok) (g2 : s.loads.length ≤ c2 ∧ c2 ≤ maxLen ∧ (A2 = none → c2 = 0) ∧ Recs 5 cellsL w w.heap.size A2 s.loads ∧ ∀ a ∈ s.loads, a.Ok) (g3 : s.pods.length ≤ c3 ∧ c3 ≤ maxLen ∧ (A3 = none → c3 = 0) ∧ Recs 8 cellsP w w.heap.size A3 s.pods ∧ ∀ a ∈ s.pods, a.Ok) (hv : v = .agg #[.slice A1 s.nodes.length c1, .slice A2 s.loads.length c2, .slice A3 s.pods.length c3]) :
    Calls Tryd.prog 6 #[v] w fun e w' => e = .returned (.bool true) ∧ Below w.heap.size w w' := by
  subst hv
  obtain ⟨p1, q1, _, r1, o1⟩ := g1
  obtain ⟨p2, q2, _, r2, o2⟩ := g2
  obtain ⟨p3, q3, _, r3, o3⟩ := g3
  by_cases h : s.nodes.length ≤ 40 ∧ s.loads.length ≤ 40 ∧ s.pods.length ≤ 40
  · obtain ⟨l1, l2, l3⟩ := h
    exact clusterFound_in s A1 A2 A3 _ c1 _ c2 _ c3 w hg ⟨o1, o2, o3⟩ rfl rfl rfl l1 l2 l3 p1 p2 p3 q1 q2 q3 r1 r2 r3
  · exact clusterFound_long A1 A2 A3 _ c1 _ c2 _ c3 w hg (by omega)

set_option maxRecDepth 100000 in
theorem clusterFound_lifted (os : Os) (started : os.Started) (H : Type) (enc : TypeId × Value → H) :
    ReturnsInHanded {} Tryd.checked os 6 .any (fun w args => (Rows.clusterFoundSpec.pre enc Tryd.prog Tryd.f6 [] false w args ∧ laidMetH Tryd.prog [("errors.errorType", Rows.laid_errors_errorType)] w) ∧ sizedMet enc Tryd.prog Tryd.f6 (OpenSpec.ofChange Rows.clusterFoundSpec) false w args)
      (Rows.clusterFoundSpec.post enc Tryd.prog Tryd.f6 false true false false) := by
  refine returnsInHanded_of_change_and (C := Tryd.checked) (X := fun w _ => laidMetH Tryd.prog [("errors.errorType", Rows.laid_errors_errorType)] w) (fun _ _ _ hh h => h.of_heap hh) Tryd.own started (by kernel_rfl) Tryd.func6
    (ChangeSpec.witness_at (enc := enc) (C := Tryd.checked) (os := os) (X := fun w _ => laidMetH Tryd.prog [("errors.errorType", Rows.laid_errors_errorType)] w) false (laidWorld os) #[.agg #[.slice none 0 0, .slice none 0 0, .slice none 0 0]] 8 rfl (by kernel_rfl) (by kernel_rfl) (by kernel_rfl) (by kernel_rfl) (by kernel_rfl) (laidWorld_met os _)) ?_
  intro W base args ds gs before hval0 hW _ _ hL _
  have hval : ∀ (j : Nat) t v, Tryd.f6.params[j]? = some t → args[j]? = some v → Value.okWide Tryd.prog W .any base t v := hval0
  have hW' := hW
  have hlt : ∀ x ∈ before, x.block < W.heap.size := fun x hx => hW.lt x hx
  obtain ⟨p, q, hA0, hV, rfl, _, _⟩ := hW
  have hA : DataW.TrodAll enc Tryd.prog W 0 (fun _ => true) true Tryd.f6.params.toList args.toList ds p := hA0
  rw [Tryd.params6] at hA hval
  obtain ⟨v0, d0, rfl, rfl, h0⟩ := trodAll_one hA
  obtain ⟨rfl, rfl⟩ := trodVars_none hV
  have hv0 := hval 0 26 v0 rfl rfl
  clear hA0 hval0
  simp only [List.append_nil] at hW' hlt
  obtain ⟨s, A1, A2, A3, c1, c2, c3, e0, g1, g2, g3⟩ := open_snap hv0 h0
  refine (clusterFound_any v0 s A1 A2 A3 c1 c2 c3 W (handle_of_laid hL) g1 g2 g3 e0).mono fun e W' ⟨he, hb⟩ => ?_
  subst he
  exact ⟨_, rfl, _, _, _, [], p, [], hW', trodAll_mk1 (shut_bool Tryd.underlying4 true), trodAll_mk1 (hb.trod Tryd.laidOut (by kernel_rfl) (of_decide_eq_true (by kernel_rfl)) h0 hlt), rfl, hb.frame _, fun h => by cases h⟩

theorem clusterFound_row : Rows.ClusterFoundSaid :=
  OpenClaim.holds_of_wide 6 Tryd.f6 rfl rfl rfl rfl rfl rfl rfl ⟨rfl, rfl, rfl, rfl, rfl⟩ rfl rfl rfl rfl rfl (by kernel_rfl) Tryd.func6 (by kernel_rfl)
    (of_decide_eq_true (by kernel_rfl)) (by unfold Func.isWrapper; first | (rw [if_pos (by decide +kernel)]; kernel_rfl) | (rw [if_neg (by decide +kernel)]; exact ⟨rfl, rfl⟩))
    (fun os started H enc _ => clusterFound_lifted os started H enc)

theorem clusterFound_holds : Rows.ClusterFoundCardSaid :=
  Claim7.holds_tied_plain_at .later [] [.handle] true (true, "5ffc4fef95bb1ba83192c0e588930dd444d85ed6e0ecddcb19b093b7e76cf2d1") true
    clusterFound_row (fun _ h => by cases h) (by kernel_rfl) (fun _ h => by cases h) clusterFound_row_tie rfl ⟨rfl, rfl⟩ (by kernel_rfl) rfl
    (fun f fn hf hfn => by
      obtain rfl : f = 6 := Option.some.inj ((show Tryd.prog.funcNamed Rows.clusterFoundRow.func = some 6 by kernel_rfl).symm.trans hf) |>.symm
      obtain rfl : fn = Tryd.f6 := (Option.some.inj (Tryd.func6.symm.trans hfn)).symm
      exact ⟨by kernel_rfl, fun j t ht => by
        rw [Tryd.params6] at ht
        rcases j with _ | j
        · obtain rfl : t = 26 := by simpa using ht.symm
          exact (show Tryd.prog.wantsStandIn 26 = false by kernel_rfl)
        · simp at ht⟩)
    (by kernel_rfl)
end Go.Proofs.YtaeklohgheildaaDoor
