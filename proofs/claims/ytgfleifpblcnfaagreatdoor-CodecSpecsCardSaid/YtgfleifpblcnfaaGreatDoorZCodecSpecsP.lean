/- The law CodecSpecs: for every spec and every slice of bytes the call returns true, and each argument reads afterwards as it read before; the package-level variable errors.errorType starts as the program's text lays it (the card ties it). There is no other condition. -/
import Derived.Test.YtgfleifpblcnfaaGreatDoorZ01
import Derived.Test.YtgfleifpblcnfaaGreatDoorZ12
import Derived.Test.YtgfleifpblcnfaaGreatDoorZ13
import Derived.SevenTiedAt

namespace Go.Proofs.YtgfleifpblcnfaaGreatDoor
set_option linter.unusedSimpArgs false
open Go.ChangeShapes Go.WideShapes Go.RowKit

theorem codecSpecs_any (v u : Value) (x : SpecD) (A B : Option Addr) (c d : Nat) (l : List Int) (w : World) (hg : Laid w) (hv : v = .agg #[.slice A x.wants.length c, .int .i64 x.preempts, .int .i64 x.shifts]) (hu : u = .slice B l.length d)
    (hr : x.wants.length ≤ c ∧ c ≤ maxLen ∧ (A = none → c = 0) ∧ Recs 6 cellsW w w.heap.size A x.wants ∧ ∀ a ∈ x.wants, a.Ok) (hl : l.length ≤ d) (hd : d ≤ maxLen) (hrb : Row w w.heap.size B (u8s l)) (hw : ∀ x ∈ l, (Lit.int .u8 x).wf = true) :
    Calls Tryz.prog 4 #[v, u] w fun e w' => e = .returned (.bool true) ∧ Below w.heap.size w w' := by
  subst hv hu
  obtain ⟨p, q, _, r, ok⟩ := hr
  have ho : Octs l := fun x hx => fits_u8 (hw x hx)
  by_cases h : x.wants.length ≤ 40 ∧ l.length ≤ 5000
  · obtain ⟨ns, rest, rfl, h1, h2⟩ := all_parts l.length l (Nat.le_refl _) ho
    exact codecSpecs_in x ns rest A B _ c _ d w hg rfl h.1 ok r rfl h.2 hl hd h1 (fun x hx => ho x (by simp [hx])) h2 hrb
  · exact codecSpecs_long x A B x.wants.length c l.length d w (by omega) (by omega) (by omega)

set_option maxHeartbeats 400000 in
set_option maxRecDepth 100000 in
theorem codecSpecs_lifted (os : Os) (started : os.Started) (H : Type) (enc : TypeId × Value → H) :
    ReturnsInHanded {} Tryz.checked os 4 .any (fun w args => (Rows.codecSpecsSpec.pre enc Tryz.prog Tryz.f4 [] false w args ∧ laidMetH Tryz.prog [("errors.errorType", Rows.laid_errors_errorType)] w) ∧ sizedMet enc Tryz.prog Tryz.f4 (OpenSpec.ofChange Rows.codecSpecsSpec) false w args)
      (Rows.codecSpecsSpec.post enc Tryz.prog Tryz.f4 false true false false) := by
  refine returnsInHanded_of_change_and (C := Tryz.checked) (X := fun w _ => laidMetH Tryz.prog [("errors.errorType", Rows.laid_errors_errorType)] w) (fun _ _ _ hh h => h.of_heap hh) Tryz.own started (by kernel_rfl) Tryz.func4
    (ChangeSpec.witness_at (enc := enc) (C := Tryz.checked) (os := os) (X := fun w _ => laidMetH Tryz.prog [("errors.errorType", Rows.laid_errors_errorType)] w) false (laidWorld os) #[.agg #[.slice none 0 0, .int .i64 0, .int .i64 0], .slice none 0 0] 8 rfl (by kernel_rfl) (by kernel_rfl) (by kernel_rfl) (by kernel_rfl) (by kernel_rfl) (laidWorld_met os _)) ?_
  intro W base args ds gs before hval0 hW _ _ hL _
  have hval : ∀ (j : Nat) t v, Tryz.f4.params[j]? = some t → args[j]? = some v → Value.okWide Tryz.prog W .any base t v := hval0
  have hW' := hW
  have hlt : ∀ x ∈ before, x.block < W.heap.size := fun x hx => hW.lt x hx
  obtain ⟨p, q, hA0, hV, rfl, _, _⟩ := hW
  have hA : DataW.TrodAll enc Tryz.prog W 0 (fun _ => true) true Tryz.f4.params.toList args.toList ds p := hA0
  rw [Tryz.params4] at hA hval
  obtain ⟨v0, v1, d0, d1, p0, p1, rfl, rfl, rfl, h0, h1⟩ := trodAll_two hA
  obtain ⟨rfl, rfl⟩ := trodVars_none hV
  have hv0 := hval 0 48 v0 rfl rfl
  have hv1 := hval 1 27 v1 rfl rfl
  clear hA0 hval0
  simp only [List.append_nil] at hW' hlt
  obtain ⟨x, A0, c0, e0, _, _, g0⟩ := open_spec hv0 h0
  obtain ⟨A1, c1, l1, e1, m1, n1, o1, r1, f1⟩ := open_row Tryz.underlying27 Tryz.underlying5 Tryz.cellsU8 hv1 h1
  refine (codecSpecs_any v0 v1 x A0 A1 c0 c1 l1 W (handle_of_laid hL) e0 e1 g0 m1 n1 r1 f1).mono fun e W' ⟨he, hb⟩ => ?_
  subst he
  exact ⟨_, rfl, _, _, _, [], _, [], hW', trodAll_mk1 (shut_bool Tryz.underlying4 true), trodAll_mk2 (hb.trod Tryz.laidOut (by kernel_rfl) (of_decide_eq_true (by kernel_rfl)) h0 (fun x hx => hlt x (by simp [hx]))) (hb.trod Tryz.laidOut (by kernel_rfl) (of_decide_eq_true (by kernel_rfl)) h1 (fun x hx => hlt x (by simp [hx]))), rfl, hb.frame _, fun h => by cases h⟩

theorem codecSpecs_row : Rows.CodecSpecsSaid :=
  OpenClaim.holds_of_wide 4 Tryz.f4 rfl rfl rfl rfl rfl rfl rfl ⟨rfl, rfl, rfl, rfl, rfl⟩ rfl rfl rfl rfl rfl (by kernel_rfl) Tryz.func4 (by kernel_rfl)
    (of_decide_eq_true (by kernel_rfl)) (by unfold Func.isWrapper; first | (rw [if_pos (by decide +kernel)]; kernel_rfl) | (rw [if_neg (by decide +kernel)]; exact ⟨rfl, rfl⟩))
    (fun os started H enc _ => codecSpecs_lifted os started H enc)

theorem codecSpecs_holds : Rows.CodecSpecsCardSaid :=
  Claim7.holds_tied_plain_at .later [] [.handle] true (true, "da33b3cf211165ee29c2d30194db5749179d89b58d9bd70f5e7068fd7593174e") true
    codecSpecs_row (fun _ h => by cases h) (by kernel_rfl) (fun _ h => by cases h) codecSpecs_row_tie rfl ⟨rfl, rfl⟩ (by kernel_rfl) rfl
    (fun f fn hf hfn => by
      obtain rfl : f = 4 := Option.some.inj ((show Tryz.prog.funcNamed Rows.codecSpecsRow.func = some 4 by kernel_rfl).symm.trans hf) |>.symm
      obtain rfl : fn = Tryz.f4 := (Option.some.inj (Tryz.func4.symm.trans hfn)).symm
      exact ⟨by kernel_rfl, fun j t ht => by
        rw [Tryz.params4] at ht
        rcases j with _ | j
        · obtain rfl : t = 48 := by simpa using ht.symm
          exact (show Tryz.prog.wantsStandIn 48 = false by kernel_rfl)
        rcases j with _ | j
        · obtain rfl : t = 27 := by simpa using ht.symm
          exact (show Tryz.prog.wantsStandIn 27 = false by kernel_rfl)
        · simp at ht⟩)
    (by kernel_rfl)
end Go.Proofs.YtgfleifpblcnfaaGreatDoor
