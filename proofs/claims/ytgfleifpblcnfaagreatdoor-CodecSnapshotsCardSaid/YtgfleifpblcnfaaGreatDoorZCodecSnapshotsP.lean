/- The law CodecSnapshots: for every snapshot and every slice of bytes the call returns true, and each argument reads afterwards as it read before; the package-level variable errors.errorType starts as the program's text lays it (the card ties it). There is no other condition. -/
import Derived.Test.YtgfleifpblcnfaaGreatDoorZ01
import Derived.Test.YtgfleifpblcnfaaGreatDoorZ12
import Derived.Test.YtgfleifpblcnfaaGreatDoorZ17
import Derived.SevenTiedAt

namespace Go.Proofs.YtgfleifpblcnfaaGreatDoor
set_option linter.unusedSimpArgs false
open Go.ChangeShapes Go.WideShapes Go.RowKit

theorem codecSnapshots_any (v u : Value) (s : SnapD) (A1 A2 A3 B : Option Addr) (c1 c2 c3 d : Nat) (l : List Int) (w : World) (hg : Laid w) (hv : v = .agg #[.slice A1 s.nodes.length c1, .slice A2 s.loads.length c2, .slice A3 s.pods.length c3]) (hu : u = .slice B l.length d)
    (g1 : s.nodes.length ≤ c1 ∧ c1 ≤ maxLen ∧ (A1 = none → c1 = 0) ∧ Recs 10 cellsN w w.heap.size A1 s.nodes ∧ ∀ a ∈ s.nodes, a.Ok) (g2 : s.loads.length ≤ c2 ∧ c2 ≤ maxLen ∧ (A2 = none → c2 = 0) ∧ Recs 5 cellsL w w.heap.size A2 s.loads ∧ ∀ a ∈ s.loads, a.Ok) (g3 : s.pods.length ≤ c3 ∧ c3 ≤ maxLen ∧ (A3 = none → c3 = 0) ∧ Recs 8 cellsP w w.heap.size A3 s.pods ∧ ∀ a ∈ s.pods, a.Ok)
    (hl : l.length ≤ d) (hd : d ≤ maxLen) (hrb : Row w w.heap.size B (u8s l)) (hw : ∀ x ∈ l, (Lit.int .u8 x).wf = true) :
    Calls Tryz.prog 3 #[v, u] w fun e w' => e = .returned (.bool true) ∧ Below w.heap.size w w' := by
  subst hv hu
  obtain ⟨p1, q1, _, r1, o1⟩ := g1
  obtain ⟨p2, q2, _, r2, o2⟩ := g2
  obtain ⟨p3, q3, _, r3, o3⟩ := g3
  have ho : Octs l := fun x hx => fits_u8 (hw x hx)
  by_cases h : (s.nodes.length ≤ 40 ∧ s.loads.length ≤ 40 ∧ s.pods.length ≤ 40) ∧ l.length ≤ 5000
  · obtain ⟨ns, rest, rfl, h1, h2⟩ := all_parts l.length l (Nat.le_refl _) ho
    obtain ⟨⟨k1, k2, k3⟩, k4⟩ := h
    exact codecSnapshots_in s ns rest A1 A2 A3 B _ c1 _ c2 _ c3 _ d w hg ⟨o1, o2, o3⟩ rfl rfl rfl k1 k2 k3 p1 p2 p3 q1 q2 q3 r1 r2 r3 rfl k4 hl hd h1 (fun x hx => ho x (by simp [hx])) h2 hrb
  · exact codecSnapshots_long s A1 A2 A3 B _ c1 _ c2 _ c3 l.length d w (by omega) (by omega)

set_option maxHeartbeats 400000 in
set_option maxRecDepth 100000 in
theorem codecSnapshots_lifted (os : Os) (started : os.Started) (H : Type) (enc : TypeId × Value → H) :
    ReturnsInHanded {} Tryz.checked os 3 .any (fun w args => (Rows.codecSnapshotsSpec.pre enc Tryz.prog Tryz.f3 [] false w args ∧ laidMetH Tryz.prog [("errors.errorType", Rows.laid_errors_errorType)] w) ∧ sizedMet enc Tryz.prog Tryz.f3 (OpenSpec.ofChange Rows.codecSnapshotsSpec) false w args)
      (Rows.codecSnapshotsSpec.post enc Tryz.prog Tryz.f3 false true false false) := by
  refine returnsInHanded_of_change_and (C := Tryz.checked) (X := fun w _ => laidMetH Tryz.prog [("errors.errorType", Rows.laid_errors_errorType)] w) (fun _ _ _ hh h => h.of_heap hh) Tryz.own started (by kernel_rfl) Tryz.func3
    (ChangeSpec.witness_at (enc := enc) (C := Tryz.checked) (os := os) (X := fun w _ => laidMetH Tryz.prog [("errors.errorType", Rows.laid_errors_errorType)] w) false (laidWorld os) #[.agg #[.slice none 0 0, .slice none 0 0, .slice none 0 0], .slice none 0 0] 8 rfl (by kernel_rfl) (by kernel_rfl) (by kernel_rfl) (by kernel_rfl) (by kernel_rfl) (laidWorld_met os _)) ?_
  intro W base args ds gs before hval0 hW _ _ hL _
  have hval : ∀ (j : Nat) t v, Tryz.f3.params[j]? = some t → args[j]? = some v → Value.okWide Tryz.prog W .any base t v := hval0
  have hW' := hW
  have hlt : ∀ x ∈ before, x.block < W.heap.size := fun x hx => hW.lt x hx
  obtain ⟨p, q, hA0, hV, rfl, _, _⟩ := hW
  have hA : DataW.TrodAll enc Tryz.prog W 0 (fun _ => true) true Tryz.f3.params.toList args.toList ds p := hA0
  rw [Tryz.params3] at hA hval
  obtain ⟨v0, v1, d0, d1, p0, p1, rfl, rfl, rfl, h0, h1⟩ := trodAll_two hA
  obtain ⟨rfl, rfl⟩ := trodVars_none hV
  have hv0 := hval 0 26 v0 rfl rfl
  have hv1 := hval 1 27 v1 rfl rfl
  clear hA0 hval0
  simp only [List.append_nil] at hW' hlt
  obtain ⟨s, A01, A02, A03, c01, c02, c03, e0, g1, g2, g3⟩ := open_snap hv0 h0
  obtain ⟨A1, c1, l1, e1, m1, n1, o1, r1, f1⟩ := open_row Tryz.underlying27 Tryz.underlying5 Tryz.cellsU8 hv1 h1
  refine (codecSnapshots_any v0 v1 s A01 A02 A03 A1 c01 c02 c03 c1 l1 W (handle_of_laid hL) e0 e1 g1 g2 g3 m1 n1 r1 f1).mono fun e W' ⟨he, hb⟩ => ?_
  subst he
  exact ⟨_, rfl, _, _, _, [], _, [], hW', trodAll_mk1 (shut_bool Tryz.underlying4 true), trodAll_mk2 (hb.trod Tryz.laidOut (by kernel_rfl) (of_decide_eq_true (by kernel_rfl)) h0 (fun x hx => hlt x (by simp [hx]))) (hb.trod Tryz.laidOut (by kernel_rfl) (of_decide_eq_true (by kernel_rfl)) h1 (fun x hx => hlt x (by simp [hx]))), rfl, hb.frame _, fun h => by cases h⟩

theorem codecSnapshots_row : Rows.CodecSnapshotsSaid :=
  OpenClaim.holds_of_wide 3 Tryz.f3 rfl rfl rfl rfl rfl rfl rfl ⟨rfl, rfl, rfl, rfl, rfl⟩ rfl rfl rfl rfl rfl (by kernel_rfl) Tryz.func3 (by kernel_rfl)
    (of_decide_eq_true (by kernel_rfl)) (by unfold Func.isWrapper; first | (rw [if_pos (by decide +kernel)]; kernel_rfl) | (rw [if_neg (by decide +kernel)]; exact ⟨rfl, rfl⟩))
    (fun os started H enc _ => codecSnapshots_lifted os started H enc)

theorem codecSnapshots_holds : Rows.CodecSnapshotsCardSaid :=
  Claim7.holds_tied_plain_at .later [] [.handle] true (true, "da33b3cf211165ee29c2d30194db5749179d89b58d9bd70f5e7068fd7593174e") true
    codecSnapshots_row (fun _ h => by cases h) (by kernel_rfl) (fun _ h => by cases h) codecSnapshots_row_tie rfl ⟨rfl, rfl⟩ (by kernel_rfl) rfl
    (fun f fn hf hfn => by
      obtain rfl : f = 3 := Option.some.inj ((show Tryz.prog.funcNamed Rows.codecSnapshotsRow.func = some 3 by kernel_rfl).symm.trans hf) |>.symm
      obtain rfl : fn = Tryz.f3 := (Option.some.inj (Tryz.func3.symm.trans hfn)).symm
      exact ⟨by kernel_rfl, fun j t ht => by
        rw [Tryz.params3] at ht
        rcases j with _ | j
        · obtain rfl : t = 26 := by simpa using ht.symm
          exact (show Tryz.prog.wantsStandIn 26 = false by kernel_rfl)
        rcases j with _ | j
        · obtain rfl : t = 27 := by simpa using ht.symm
          exact (show Tryz.prog.wantsStandIn 27 = false by kernel_rfl)
        · simp at ht⟩)
    (by kernel_rfl)
end Go.Proofs.YtgfleifpblcnfaaGreatDoor
