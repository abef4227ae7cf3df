/- The law WireParts: for every two slices of numbers and every number the call returns true, and each argument reads afterwards as it read before; the package-level variable errors.errorType starts as the program's text lays it (the card ties it). There is no other condition. -/
import Derived.Test.YtglblaeplibjmaaDoorR
import Derived.Test.YtglblaeplibjmaaDoorY
import Derived.SevenTiedAt
namespace Go.Proofs.YtglblaeplibjmaaDoor
open Go.ChangeShapes Go.WideShapes Go.RowKit

theorem wireParts_any (v u x : Value) (A B : Option Addr) (c d : Nat) (la lb : List Int) (many : Int) (w : World) (hv : v = .slice A la.length c) (hu : u = .slice B lb.length d) (hx : x = .int .i64 many) (hl : la.length ≤ c) (hc : c ≤ maxLen) (hna : A = none → c = 0) (hl' : lb.length ≤ d) (hd : d ≤ maxLen) (hnb : B = none → d = 0)
    (hr : Row w w.heap.size A (u64s la)) (hr' : Row w w.heap.size B (u64s lb)) (hw : ∀ x ∈ la, (Lit.int .u64 x).wf = true) (hw' : ∀ x ∈ lb, (Lit.int .u64 x).wf = true) (hg : Laid w) :
    Calls Tryd.prog 7 #[v, u, x] w fun e w' => e = .returned (.bool true) ∧ Below w.heap.size w w' := by
  subst hv hu hx
  by_cases hn : la.length ≤ 500 ∧ lb.length ≤ 500 ∧ 0 ≤ many ∧ many ≤ la.length
  · obtain ⟨h1, h2, h3, h4⟩ := hn
    obtain ⟨k, rfl⟩ := Int.eq_ofNat_of_zero_le h3
    exact wireParts_in la lb A B _ c _ d k w hg rfl h1 hl hc hna (fun x hx => fits_u64 (hw x hx)) hr rfl h2 hnb (fun x hx => fits_u64 (hw' x hx)) hr' (by omega)
  · exact wireParts_long A B la.length c lb.length d many w hg (by omega) (by omega) (by omega)

set_option maxRecDepth 100000 in
theorem wireParts_lifted (os : Os) (started : os.Started) (H : Type) (enc : TypeId × Value → H) :
    ReturnsInHanded {} Tryd.checked os 7 .any (fun w args => (Rows.wirePartsSpec.pre enc Tryd.prog Tryd.f7 [] false w args ∧ laidMetH Tryd.prog [("errors.errorType", Rows.laid_errors_errorType)] w) ∧ sizedMet enc Tryd.prog Tryd.f7 (OpenSpec.ofChange Rows.wirePartsSpec) false w args)
      (Rows.wirePartsSpec.post enc Tryd.prog Tryd.f7 false true false false) := by
  refine returnsInHanded_of_change_and (C := Tryd.checked) (X := fun w _ => laidMetH Tryd.prog [("errors.errorType", Rows.laid_errors_errorType)] w) (fun _ _ _ hh h => h.of_heap hh) Tryd.own started (by kernel_rfl) Tryd.func7
    (ChangeSpec.witness_at (enc := enc) (C := Tryd.checked) (os := os) (X := fun w _ => laidMetH Tryd.prog [("errors.errorType", Rows.laid_errors_errorType)] w) false (laidWorld os) #[.slice none 0 0, .slice none 0 0, .int .i64 0] 8 rfl (by kernel_rfl) (by kernel_rfl) (by kernel_rfl) (by kernel_rfl) (by kernel_rfl) (laidWorld_met os _)) ?_
  intro W base args ds gs before hval0 hW _ _ hL _
  have hval : ∀ (j : Nat) t v, Tryd.f7.params[j]? = some t → args[j]? = some v → Value.okWide Tryd.prog W .any base t v := hval0
  have hW' := hW
  have hlt : ∀ x ∈ before, x.block < W.heap.size := fun x hx => hW.lt x hx
  obtain ⟨p, q, hA0, hV, rfl, _, _⟩ := hW
  have hA : DataW.TrodAll enc Tryd.prog W 0 (fun _ => true) true Tryd.f7.params.toList args.toList ds p := hA0
  rw [Tryd.params7] at hA hval
  obtain ⟨v0, v1, v2, d0, d1, d2, p0, p1, p2, rfl, rfl, rfl, h0, h1, h2⟩ := trodAll_three hA
  obtain ⟨rfl, rfl⟩ := trodVars_none hV
  have hv0 := hval 0 22 v0 rfl rfl
  have hv1 := hval 1 22 v1 rfl rfl
  have hv2 := hval 2 3 v2 rfl rfl
  clear hA0 hval0
  simp only [List.append_nil] at hW' hlt
  obtain ⟨A0, c0, l0, e0, m0, n0, o0, r0, f0⟩ := open_row Tryd.underlying22 Tryd.underlying44 Tryd.cells44 hv0 h0
  obtain ⟨A1, c1, l1, e1, m1, n1, o1, r1, f1⟩ := open_row Tryd.underlying22 Tryd.underlying44 Tryd.cells44 hv1 h1
  obtain ⟨x2, e2, _, _, f2⟩ := open_int Tryd.underlying3 hv2 h2
  refine (wireParts_any v0 v1 v2 A0 A1 c0 c1 l0 l1 x2 W e0 e1 e2 m0 n0 o0 m1 n1 o1 r0 r1 f0 f1 (handle_of_laid hL)).mono fun e W' ⟨he, hb⟩ => ?_
  subst he
  exact ⟨_, rfl, _, _, _, [], _, [], hW', trodAll_mk1 (shut_bool Tryd.underlying4 true), trodAll_mk3 (hb.trod Tryd.laidOut (by kernel_rfl) (of_decide_eq_true (by kernel_rfl)) h0 (fun x hx => hlt x (by simp [hx]))) (hb.trod Tryd.laidOut (by kernel_rfl) (of_decide_eq_true (by kernel_rfl)) h1 (fun x hx => hlt x (by simp [hx]))) (hb.trod Tryd.laidOut (by kernel_rfl) (of_decide_eq_true (by kernel_rfl)) h2 (fun x hx => hlt x (by simp [hx]))), rfl, hb.frame _, fun h => by cases h⟩

theorem wireParts_row : Rows.WirePartsSaid :=
  OpenClaim.holds_of_wide 7 Tryd.f7 rfl rfl rfl rfl rfl rfl rfl ⟨rfl, rfl, rfl, rfl, rfl⟩ rfl rfl rfl rfl rfl (by kernel_rfl) Tryd.func7 (by kernel_rfl)
    (of_decide_eq_true (by kernel_rfl)) (by unfold Func.isWrapper; first | (rw [if_pos (by decide +kernel)]; kernel_rfl) | (rw [if_neg (by decide +kernel)]; exact ⟨rfl, rfl⟩))
    (fun os started H enc _ => wireParts_lifted os started H enc)

theorem wireParts_holds : Rows.WirePartsCardSaid :=
  Claim7.holds_tied_plain_at .later [] [.handle] true (true, "db8e3bbdef35ddbb06b105f11c96a511bb239f1dcfbdd892b4c2a31a33a1b505") true
    wireParts_row (fun _ h => by cases h) (by kernel_rfl) (fun _ h => by cases h) wireParts_row_tie rfl ⟨rfl, rfl⟩ (by kernel_rfl) rfl
    (fun f fn hf hfn => by
      obtain rfl : f = 7 := Option.some.inj ((show Tryd.prog.funcNamed Rows.wirePartsRow.func = some 7 by kernel_rfl).symm.trans hf) |>.symm
      obtain rfl : fn = Tryd.f7 := (Option.some.inj (Tryd.func7.symm.trans hfn)).symm
      exact ⟨by kernel_rfl, fun j t ht => by
        rw [Tryd.params7] at ht
        rcases j with _ | j
        · obtain rfl : t = 22 := by simpa using ht.symm
          exact (show Tryd.prog.wantsStandIn 22 = false by kernel_rfl)
        rcases j with _ | j
        · obtain rfl : t = 22 := by simpa using ht.symm
          exact (show Tryd.prog.wantsStandIn 22 = false by kernel_rfl)
        rcases j with _ | j
        · obtain rfl : t = 3 := by simpa using ht.symm
          exact (show Tryd.prog.wantsStandIn 3 = false by kernel_rfl)
        · simp at ht⟩)
    (by kernel_rfl)
end Go.Proofs.YtglblaeplibjmaaDoor
