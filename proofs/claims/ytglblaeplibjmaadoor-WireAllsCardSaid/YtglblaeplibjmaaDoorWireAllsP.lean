/- The law WireAlls: for every slice of bytes the call returns true, and each argument reads afterwards as it read before; the package-level variable errors.errorType starts as the program's text lays it (the card ties it). There is no other condition. -/
import Derived.Test.YtglblaeplibjmaaDoorR
import Derived.Test.YtglblaeplibjmaaDoorT
import Derived.SevenTiedAt
namespace Go.Proofs.YtglblaeplibjmaaDoor
open Go.ChangeShapes Go.WideShapes Go.RowKit

theorem wireAlls_any (v : Value) (A : Option Addr) (c : Nat) (l : List Int) (w : World) (hv : v = .slice A l.length c) (hl : l.length ≤ c) (hc : c ≤ maxLen) (hr : Row w w.heap.size A (u8s l)) (hw : ∀ x ∈ l, (Lit.int .u8 x).wf = true) (hg : Laid w) :
    Calls Tryd.prog 5 #[v] w fun e w' => e = .returned (.bool true) ∧ Below w.heap.size w w' := by
  subst hv
  have ho : Octs l := fun x hx => fits_u8 (hw x hx)
  by_cases hn : l.length ≤ 5000
  · obtain ⟨ns, rest, rfl, h1, h2⟩ := all_parts l.length l (Nat.le_refl _) ho
    exact wireAlls_in ns rest A _ c w hg rfl hn hl hc h1 (fun x hx => ho x (by simp [hx])) h2 hr
  · exact wireAlls_long A l.length c w hg (by omega) (by omega)

set_option maxRecDepth 100000 in
theorem wireAlls_lifted (os : Os) (started : os.Started) (H : Type) (enc : TypeId × Value → H) :
    ReturnsInHanded {} Tryd.checked os 5 .any (fun w args => (Rows.wireAllsSpec.pre enc Tryd.prog Tryd.f5 [] false w args ∧ laidMetH Tryd.prog [("errors.errorType", Rows.laid_errors_errorType)] w) ∧ sizedMet enc Tryd.prog Tryd.f5 (OpenSpec.ofChange Rows.wireAllsSpec) false w args)
      (Rows.wireAllsSpec.post enc Tryd.prog Tryd.f5 false true false false) := by
  refine returnsInHanded_of_change_and (C := Tryd.checked) (X := fun w _ => laidMetH Tryd.prog [("errors.errorType", Rows.laid_errors_errorType)] w) (fun _ _ _ hh h => h.of_heap hh) Tryd.own started (by kernel_rfl) Tryd.func5
    (ChangeSpec.witness_at (enc := enc) (C := Tryd.checked) (os := os) (X := fun w _ => laidMetH Tryd.prog [("errors.errorType", Rows.laid_errors_errorType)] w) false (laidWorld os) #[.slice none 0 0] 8 rfl (by kernel_rfl) (by kernel_rfl) (by kernel_rfl) (by kernel_rfl) (by kernel_rfl) (laidWorld_met os _)) ?_
  intro W base args ds gs before hval0 hW _ _ hL _
  have hval : ∀ (j : Nat) t v, Tryd.f5.params[j]? = some t → args[j]? = some v → Value.okWide Tryd.prog W .any base t v := hval0
  have hW' := hW
  have hlt : ∀ x ∈ before, x.block < W.heap.size := fun x hx => hW.lt x hx
  obtain ⟨p, q, hA0, hV, rfl, _, _⟩ := hW
  have hA : DataW.TrodAll enc Tryd.prog W 0 (fun _ => true) true Tryd.f5.params.toList args.toList ds p := hA0
  rw [Tryd.params5] at hA hval
  obtain ⟨v0, d0, rfl, rfl, h0⟩ := trodAll_one hA
  obtain ⟨rfl, rfl⟩ := trodVars_none hV
  have hv0 := hval 0 24 v0 rfl rfl
  clear hA0 hval0
  simp only [List.append_nil] at hW' hlt
  obtain ⟨A0, c0, l0, e0, m0, n0, o0, r0, f0⟩ := open_row Tryd.underlying24 Tryd.underlying5 Tryd.cells5 hv0 h0
  refine (wireAlls_any v0 A0 c0 l0 W e0 m0 n0 r0 f0 (handle_of_laid hL)).mono fun e W' ⟨he, hb⟩ => ?_
  subst he
  exact ⟨_, rfl, _, _, _, [], p, [], hW', trodAll_mk1 (shut_bool Tryd.underlying4 true), trodAll_mk1 (hb.trod Tryd.laidOut (by kernel_rfl) (of_decide_eq_true (by kernel_rfl)) h0 hlt), rfl, hb.frame _, fun h => by cases h⟩

theorem wireAlls_row : Rows.WireAllsSaid :=
  OpenClaim.holds_of_wide 5 Tryd.f5 rfl rfl rfl rfl rfl rfl rfl ⟨rfl, rfl, rfl, rfl, rfl⟩ rfl rfl rfl rfl rfl (by kernel_rfl) Tryd.func5 (by kernel_rfl)
    (of_decide_eq_true (by kernel_rfl)) (by unfold Func.isWrapper; first | (rw [if_pos (by decide +kernel)]; kernel_rfl) | (rw [if_neg (by decide +kernel)]; exact ⟨rfl, rfl⟩))
    (fun os started H enc _ => wireAlls_lifted os started H enc)

theorem wireAlls_holds : Rows.WireAllsCardSaid :=
  Claim7.holds_tied_plain_at .later [] [.handle] true (true, "db8e3bbdef35ddbb06b105f11c96a511bb239f1dcfbdd892b4c2a31a33a1b505") true
    wireAlls_row (fun _ h => by cases h) (by kernel_rfl) (fun _ h => by cases h) wireAlls_row_tie rfl ⟨rfl, rfl⟩ (by kernel_rfl) rfl
    (fun f fn hf hfn => by
      obtain rfl : f = 5 := Option.some.inj ((show Tryd.prog.funcNamed Rows.wireAllsRow.func = some 5 by kernel_rfl).symm.trans hf) |>.symm
      obtain rfl : fn = Tryd.f5 := (Option.some.inj (Tryd.func5.symm.trans hfn)).symm
      exact ⟨by kernel_rfl, fun j t ht => by
        rw [Tryd.params5] at ht
        rcases j with _ | j
        · obtain rfl : t = 24 := by simpa using ht.symm
          exact (show Tryd.prog.wantsStandIn 24 = false by kernel_rfl)
        · simp at ht⟩)
    (by kernel_rfl)
end Go.Proofs.YtglblaeplibjmaaDoor
