/- The law WireBack: for every slice of numbers and every slice of bytes the call returns true, and each argument reads afterwards as it read before; the package-level variable errors.errorType starts as the program's text lays it (the card ties it). There is no other condition. -/
import Derived.Test.YtglblaeplibjmaaDoorR
import Derived.Test.YtglblaeplibjmaaDoorV
import Derived.SevenTiedAt
namespace Go.Proofs.YtglblaeplibjmaaDoor
open Go.ChangeShapes Go.WideShapes Go.RowKit

theorem wireBack_any (v u : Value) (A B : Option Addr) (c d : Nat) (l bs : List Int) (w : World) (hv : v = .slice A l.length c) (hu : u = .slice B bs.length d) (hl : l.length ≤ c) (hc : c ≤ maxLen) (hl' : bs.length ≤ d) (hd : d ≤ maxLen) (hnil : B = none → d = 0)
    (hr : Row w w.heap.size A (u64s l)) (hr' : Row w w.heap.size B (u8s bs)) (hw : ∀ x ∈ l, (Lit.int .u64 x).wf = true) (hw' : ∀ x ∈ bs, (Lit.int .u8 x).wf = true) (hg : Laid w) :
    Calls Tryd.prog 6 #[v, u] w fun e w' => e = .returned (.bool true) ∧ Below w.heap.size w w' := by
  subst hv hu
  have ho : Octs bs := fun x hx => fits_u8 (hw' x hx)
  by_cases hn : l.length ≤ 1000 ∧ bs.length ≤ 5000
  · obtain ⟨ns, rest, rfl, h1, h2⟩ := all_parts bs.length bs (Nat.le_refl _) ho
    exact wireBack_in l ns rest A B _ c _ d w hg rfl hn.1 (fun x hx => fits_u64 (hw x hx)) hr rfl hn.2 hnil h1 (fun x hx => ho x (by simp [hx])) h2 hr'
  · exact wireBack_long A B l.length c bs.length d w hg (by omega) (by omega) (by omega)

set_option maxRecDepth 100000 in
theorem wireBack_lifted (os : Os) (started : os.Started) (H : Type) (enc : TypeId × Value → H) :
    ReturnsInHanded {} Tryd.checked os 6 .any (fun w args => (Rows.wireBackSpec.pre enc Tryd.prog Tryd.f6 [] false w args ∧ laidMetH Tryd.prog [("errors.errorType", Rows.laid_errors_errorType)] w) ∧ sizedMet enc Tryd.prog Tryd.f6 (OpenSpec.ofChange Rows.wireBackSpec) false w args)
      (Rows.wireBackSpec.post enc Tryd.prog Tryd.f6 false true false false) := by
  refine returnsInHanded_of_change_and (C := Tryd.checked) (X := fun w _ => laidMetH Tryd.prog [("errors.errorType", Rows.laid_errors_errorType)] w) (fun _ _ _ hh h => h.of_heap hh) Tryd.own started (by kernel_rfl) Tryd.func6
    (ChangeSpec.witness_at (enc := enc) (C := Tryd.checked) (os := os) (X := fun w _ => laidMetH Tryd.prog [("errors.errorType", Rows.laid_errors_errorType)] w) false (laidWorld os) #[.slice none 0 0, .slice none 0 0] 8 rfl (by kernel_rfl) (by kernel_rfl) (by kernel_rfl) (by kernel_rfl) (by kernel_rfl) (laidWorld_met os _)) ?_
  intro W base args ds gs before hval0 hW _ _ hL _
  have hval : ∀ (j : Nat) t v, Tryd.f6.params[j]? = some t → args[j]? = some v → Value.okWide Tryd.prog W .any base t v := hval0
  have hW' := hW
  have hlt : ∀ x ∈ before, x.block < W.heap.size := fun x hx => hW.lt x hx
  obtain ⟨p, q, hA0, hV, rfl, _, _⟩ := hW
  have hA : DataW.TrodAll enc Tryd.prog W 0 (fun _ => true) true Tryd.f6.params.toList args.toList ds p := hA0
  rw [Tryd.params6] at hA hval
  obtain ⟨v0, v1, d0, d1, p0, p1, rfl, rfl, rfl, h0, h1⟩ := trodAll_two hA
  obtain ⟨rfl, rfl⟩ := trodVars_none hV
  have hv0 := hval 0 22 v0 rfl rfl
  have hv1 := hval 1 24 v1 rfl rfl
  clear hA0 hval0
  simp only [List.append_nil] at hW' hlt
  obtain ⟨A0, c0, l0, e0, m0, n0, o0, r0, f0⟩ := open_row Tryd.underlying22 Tryd.underlying44 Tryd.cells44 hv0 h0
  obtain ⟨A1, c1, l1, e1, m1, n1, o1, r1, f1⟩ := open_row Tryd.underlying24 Tryd.underlying5 Tryd.cells5 hv1 h1
  refine (wireBack_any v0 v1 A0 A1 c0 c1 l0 l1 W e0 e1 m0 n0 m1 n1 o1 r0 r1 f0 f1 (handle_of_laid hL)).mono fun e W' ⟨he, hb⟩ => ?_
  subst he
  exact ⟨_, rfl, _, _, _, [], _, [], hW', trodAll_mk1 (shut_bool Tryd.underlying4 true), trodAll_mk2 (hb.trod Tryd.laidOut (by kernel_rfl) (of_decide_eq_true (by kernel_rfl)) h0 (fun x hx => hlt x (by simp [hx]))) (hb.trod Tryd.laidOut (by kernel_rfl) (of_decide_eq_true (by kernel_rfl)) h1 (fun x hx => hlt x (by simp [hx]))), rfl, hb.frame _, fun h => by cases h⟩

theorem wireBack_row : Rows.WireBackSaid :=
  OpenClaim.holds_of_wide 6 Tryd.f6 rfl rfl rfl rfl rfl rfl rfl ⟨rfl, rfl, rfl, rfl, rfl⟩ rfl rfl rfl rfl rfl (by kernel_rfl) Tryd.func6 (by kernel_rfl)
    (of_decide_eq_true (by kernel_rfl)) (by unfold Func.isWrapper; first | (rw [if_pos (by decide +kernel)]; kernel_rfl) | (rw [if_neg (by decide +kernel)]; exact ⟨rfl, rfl⟩))
    (fun os started H enc _ => wireBack_lifted os started H enc)

theorem wireBack_holds : Rows.WireBackCardSaid :=
  Claim7.holds_tied_plain_at .later [] [.handle] true (true, "db8e3bbdef35ddbb06b105f11c96a511bb239f1dcfbdd892b4c2a31a33a1b505") true
    wireBack_row (fun _ h => by cases h) (by kernel_rfl) (fun _ h => by cases h) wireBack_row_tie rfl ⟨rfl, rfl⟩ (by kernel_rfl) rfl
    (fun f fn hf hfn => by
      obtain rfl : f = 6 := Option.some.inj ((show Tryd.prog.funcNamed Rows.wireBackRow.func = some 6 by kernel_rfl).symm.trans hf) |>.symm
      obtain rfl : fn = Tryd.f6 := (Option.some.inj (Tryd.func6.symm.trans hfn)).symm
      exact ⟨by kernel_rfl, fun j t ht => by
        rw [Tryd.params6] at ht
        rcases j with _ | j
        · obtain rfl : t = 22 := by simpa using ht.symm
          exact (show Tryd.prog.wantsStandIn 22 = false by kernel_rfl)
        rcases j with _ | j
        · obtain rfl : t = 24 := by simpa using ht.symm
          exact (show Tryd.prog.wantsStandIn 24 = false by kernel_rfl)
        · simp at ht⟩)
    (by kernel_rfl)
end Go.Proofs.YtglblaeplibjmaaDoor
