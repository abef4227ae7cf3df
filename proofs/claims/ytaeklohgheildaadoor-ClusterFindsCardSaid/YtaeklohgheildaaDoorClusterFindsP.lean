/- The law ClusterFinds: for every snapshot, every spec and every number the call returns true, and each argument reads afterwards as it read before; the package-level variable errors.errorType starts as the program's text lays it (the card ties it). There is no other condition. -/
import Derived.Test.YtaeklohgheildaaDoorRR
import Derived.Test.YtaeklohgheildaaDoorDK
import Derived.Test.YtaeklohgheildaaDoorEG
import Derived.SevenTiedAt
namespace Go.Proofs.YtaeklohgheildaaDoor
open Go.ChangeShapes Go.WideShapes Go.RowKit

theorem clusterFinds_any (v u t : Value) (s : SnapD) (A1 A2 A3 : Option Addr) (c1 c2 c3 : Nat) (w : World) (hg : Laid w)
    (g1 : s.nodes.length ≤ c1 ∧ c1 ≤ maxLen ∧ (A1 = none → c1 = 0) ∧ Recs 10 cellsN w w.heap.size A1 s.nodes ∧ ∀ a ∈ s.nodes, a.Ok) (g2 : s.loads.length ≤ c2 ∧ c2 ≤ maxLen ∧ (A2 = none → c2 = 0) ∧ Recs 5 cellsL w w.heap.size A2 s.loads ∧ ∀ a ∈ s.loads, a.Ok) (g3 : s.pods.length ≤ c3 ∧ c3 ≤ maxLen ∧ (A3 = none → c3 = 0) ∧ Recs 8 cellsP w w.heap.size A3 s.pods ∧ ∀ a ∈ s.pods, a.Ok) (x : SpecD) (A4 : Option Addr) (c4 : Nat) (i1 : I64 x.preempts) (i2 : I64 x.shifts) (g4 : x.wants.length ≤ c4 ∧ c4 ≤ maxLen ∧ (A4 = none → c4 = 0) ∧ Recs 6 cellsW w w.heap.size A4 x.wants ∧ ∀ a ∈ x.wants, a.Ok) (n : Int) (hv : v = .agg #[.slice A1 s.nodes.length c1, .slice A2 s.loads.length c2, .slice A3 s.pods.length c3]) (hu : u = .agg #[.slice A4 x.wants.length c4, .int .i64 x.preempts, .int .i64 x.shifts]) (ht : t = .int .i64 n) :
    Calls Tryd.prog 4 #[v, u, t] w fun e w' => e = .returned (.bool true) ∧ Below w.heap.size w w' := by
  subst hv hu ht
  obtain ⟨p1, q1, _, r1, o1⟩ := g1
  obtain ⟨p2, q2, _, r2, o2⟩ := g2
  obtain ⟨p3, q3, _, r3, o3⟩ := g3
  obtain ⟨p4, q4, _, r4, o4⟩ := g4
  by_cases h : s.nodes.length ≤ 40 ∧ s.loads.length ≤ 40 ∧ s.pods.length ≤ 40 ∧ x.wants.length ≤ 40
  · obtain ⟨l1, l2, l3, l4⟩ := h
    exact clusterFinds_in s x A1 A2 A3 A4 _ c1 _ c2 _ c3 _ c4 n w hg ⟨o1, o2, o3⟩ rfl rfl rfl rfl l1 l2 l3 l4 r1 r2 r3 r4
  · exact clusterFinds_long x A1 A2 A3 A4 _ c1 _ c2 _ c3 _ c4 n w hg (by omega)

set_option maxRecDepth 100000 in
theorem clusterFinds_lifted (os : Os) (started : os.Started) (H : Type) (enc : TypeId × Value → H) :
    ReturnsInHanded {} Tryd.checked os 4 .any (fun w args => (Rows.clusterFindsSpec.pre enc Tryd.prog Tryd.f4 [] false w args ∧ laidMetH Tryd.prog [("errors.errorType", Rows.laid_errors_errorType)] w) ∧ sizedMet enc Tryd.prog Tryd.f4 (OpenSpec.ofChange Rows.clusterFindsSpec) false w args)
      (Rows.clusterFindsSpec.post enc Tryd.prog Tryd.f4 false true false false) := by
  refine returnsInHanded_of_change_and (C := Tryd.checked) (X := fun w _ => laidMetH Tryd.prog [("errors.errorType", Rows.laid_errors_errorType)] w) (fun _ _ _ hh h => h.of_heap hh) Tryd.own started (by kernel_rfl) Tryd.func4
    (ChangeSpec.witness_at (enc := enc) (C := Tryd.checked) (os := os) (X := fun w _ => laidMetH Tryd.prog [("errors.errorType", Rows.laid_errors_errorType)] w) false (laidWorld os) #[.agg #[.slice none 0 0, .slice none 0 0, .slice none 0 0], .agg #[.slice none 0 0, .int .i64 0, .int .i64 0], .int .i64 0] 8 rfl (by kernel_rfl) (by kernel_rfl) (by kernel_rfl) (by kernel_rfl) (by kernel_rfl) (laidWorld_met os _)) ?_
  intro W base args ds gs before hval0 hW _ _ hL _
  have hval : ∀ (j : Nat) t v, Tryd.f4.params[j]? = some t → args[j]? = some v → Value.okWide Tryd.prog W .any base t v := hval0
  have hW' := hW
  have hlt : ∀ x ∈ before, x.block < W.heap.size := fun x hx => hW.lt x hx
  obtain ⟨p, q, hA0, hV, rfl, _, _⟩ := hW
  have hA : DataW.TrodAll enc Tryd.prog W 0 (fun _ => true) true Tryd.f4.params.toList args.toList ds p := hA0
  rw [Tryd.params4] at hA hval
  obtain ⟨v0, v1, v2, d0, d1, d2, p0, p1, p2, rfl, rfl, rfl, h0, h1, h2⟩ := trodAll_three hA
  obtain ⟨rfl, rfl⟩ := trodVars_none hV
  have hv0 := hval 0 26 v0 rfl rfl
  have hv1 := hval 1 29 v1 rfl rfl
  have hv2 := hval 2 3 v2 rfl rfl
  clear hA0 hval0
  simp only [List.append_nil] at hW' hlt
  obtain ⟨s, A1, A2, A3, c1, c2, c3, e0, g1, g2, g3⟩ := open_snap hv0 h0
  obtain ⟨x, A4, c4, e1, i1, i2, g4⟩ := open_spec hv1 h1
  obtain ⟨n, e2, _, _, f2⟩ := open_int Tryd.underlying3 hv2 h2
  refine (clusterFinds_any v0 v1 v2 s A1 A2 A3 c1 c2 c3 W (handle_of_laid hL) g1 g2 g3 x A4 c4 i1 i2 g4 n e0 e1 e2).mono fun e W' ⟨he, hb⟩ => ?_
  subst he
  exact ⟨_, rfl, _, _, _, [], _, [], hW', trodAll_mk1 (shut_bool Tryd.underlying4 true), trodAll_mk3 (hb.trod Tryd.laidOut (by kernel_rfl) (of_decide_eq_true (by kernel_rfl)) h0 (fun x hx => hlt x (by simp [hx]))) (hb.trod Tryd.laidOut (by kernel_rfl) (of_decide_eq_true (by kernel_rfl)) h1 (fun x hx => hlt x (by simp [hx]))) (hb.trod Tryd.laidOut (by kernel_rfl) (of_decide_eq_true (by kernel_rfl)) h2 (fun x hx => hlt x (by simp [hx]))), rfl, hb.frame _, fun h => by cases h⟩

theorem clusterFinds_row : Rows.ClusterFindsSaid :=
  OpenClaim.holds_of_wide 4 Tryd.f4 rfl rfl rfl rfl rfl rfl rfl ⟨rfl, rfl, rfl, rfl, rfl⟩ rfl rfl rfl rfl rfl (by kernel_rfl) Tryd.func4 (by kernel_rfl)
    (of_decide_eq_true (by kernel_rfl)) (by unfold Func.isWrapper; first | (rw [if_pos (by decide +kernel)]; kernel_rfl) | (rw [if_neg (by decide +kernel)]; exact ⟨rfl, rfl⟩))
    (fun os started H enc _ => clusterFinds_lifted os started H enc)

theorem clusterFinds_holds : Rows.ClusterFindsCardSaid :=
  Claim7.holds_tied_plain_at .later [] [.handle] true (true, "5ffc4fef95bb1ba83192c0e588930dd444d85ed6e0ecddcb19b093b7e76cf2d1") true
    clusterFinds_row (fun _ h => by cases h) (by kernel_rfl) (fun _ h => by cases h) clusterFinds_row_tie rfl ⟨rfl, rfl⟩ (by kernel_rfl) rfl
    (fun f fn hf hfn => by
      obtain rfl : f = 4 := Option.some.inj ((show Tryd.prog.funcNamed Rows.clusterFindsRow.func = some 4 by kernel_rfl).symm.trans hf) |>.symm
      obtain rfl : fn = Tryd.f4 := (Option.some.inj (Tryd.func4.symm.trans hfn)).symm
      exact ⟨by kernel_rfl, fun j t ht => by
        rw [Tryd.params4] at ht
        rcases j with _ | j
        · obtain rfl : t = 26 := by simpa using ht.symm
          exact (show Tryd.prog.wantsStandIn 26 = false by kernel_rfl)
        rcases j with _ | j
        · obtain rfl : t = 29 := by simpa using ht.symm
          exact (show Tryd.prog.wantsStandIn 29 = false by kernel_rfl)
        rcases j with _ | j
        · obtain rfl : t = 3 := by simpa using ht.symm
          exact (show Tryd.prog.wantsStandIn 3 = false by kernel_rfl)
        · simp at ht⟩)
    (by kernel_rfl)
end Go.Proofs.YtaeklohgheildaaDoor
