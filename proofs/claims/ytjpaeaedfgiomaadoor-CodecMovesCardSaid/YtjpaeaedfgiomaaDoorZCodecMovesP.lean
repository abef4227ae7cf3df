/- The law CodecMoves: for every slice of moves and every slice of bytes the call returns true, and each argument reads afterwards as it read before; the package-level variable errors.errorType starts as the program's text lays it (the card ties it). There is no other condition. -/
import Derived.Test.YtjpaeaedfgiomaaDoorZ01
import Derived.Test.YtjpaeaedfgiomaaDoorZ10
import Derived.Test.YtjpaeaedfgiomaaDoorZ11
import Derived.SevenTiedAt

namespace Go.Proofs.YtjpaeaedfgiomaaDoor
set_option linter.unusedSimpArgs false
open Go.ChangeShapes Go.WideShapes Go.RowKit

theorem codecMoves_any (v u : Value) (m : List MoveD) (A B : Option Addr) (c d : Nat) (l : List Int) (w : World) (hg : Laid w) (hv : v = .slice A m.length c) (hu : u = .slice B l.length d)
    (hm : m.length ≤ c) (hc : c ≤ maxLen) (hr : Recs 4 cellsM w w.heap.size A m) (hl : l.length ≤ d) (hd : d ≤ maxLen) (hrb : Row w w.heap.size B (u8s l)) (hw : ∀ x ∈ l, (Lit.int .u8 x).wf = true) :
    Calls Tryd.prog 3 #[v, u] w fun e w' => e = .returned (.bool true) ∧ Below w.heap.size w w' := by
  subst hv hu
  have ho : Octs l := fun x hx => fits_u8 (hw x hx)
  by_cases h : m.length ≤ 100 ∧ l.length ≤ 5000
  · obtain ⟨ns, rest, rfl, h1, h2⟩ := all_parts l.length l (Nat.le_refl _) ho
    exact codecMoves_in m ns rest A B _ c _ d w hg rfl h.1 hr rfl h.2 hl hd h1 (fun x hx => ho x (by simp [hx])) h2 hrb
  · exact codecMoves_long A B m.length c l.length d w (by omega) (by omega) (by omega)

set_option maxHeartbeats 400000 in
set_option maxRecDepth 100000 in
theorem codecMoves_lifted (os : Os) (started : os.Started) (H : Type) (enc : TypeId × Value → H) :
    ReturnsInHanded {} Tryd.checked os 3 .any (fun w args => (Rows.codecMovesSpec.pre enc Tryd.prog Tryd.f3 [] false w args ∧ laidMetH Tryd.prog [("errors.errorType", Rows.laid_errors_errorType)] w) ∧ sizedMet enc Tryd.prog Tryd.f3 (OpenSpec.ofChange Rows.codecMovesSpec) false w args)
      (Rows.codecMovesSpec.post enc Tryd.prog Tryd.f3 false true false false) := by
  refine returnsInHanded_of_change_and (C := Tryd.checked) (X := fun w _ => laidMetH Tryd.prog [("errors.errorType", Rows.laid_errors_errorType)] w) (fun _ _ _ hh h => h.of_heap hh) Tryd.own started (by kernel_rfl) Tryd.func3
    (ChangeSpec.witness_at (enc := enc) (C := Tryd.checked) (os := os) (X := fun w _ => laidMetH Tryd.prog [("errors.errorType", Rows.laid_errors_errorType)] w) false (laidWorld os) #[.slice none 0 0, .slice none 0 0] 8 rfl (by kernel_rfl) (by kernel_rfl) (by kernel_rfl) (by kernel_rfl) (by kernel_rfl) (laidWorld_met os _)) ?_
  intro W base args ds gs before hval0 hW _ _ hL _
  have hval : ∀ (j : Nat) t v, Tryd.f3.params[j]? = some t → args[j]? = some v → Value.okWide Tryd.prog W .any base t v := hval0
  have hW' := hW
  have hlt : ∀ x ∈ before, x.block < W.heap.size := fun x hx => hW.lt x hx
  obtain ⟨p, q, hA0, hV, rfl, _, _⟩ := hW
  have hA : DataW.TrodAll enc Tryd.prog W 0 (fun _ => true) true Tryd.f3.params.toList args.toList ds p := hA0
  rw [Tryd.params3] at hA hval
  obtain ⟨v0, v1, d0, d1, p0, p1, rfl, rfl, rfl, h0, h1⟩ := trodAll_two hA
  obtain ⟨rfl, rfl⟩ := trodVars_none hV
  have hv0 := hval 0 22 v0 rfl rfl
  have hv1 := hval 1 23 v1 rfl rfl
  clear hA0 hval0
  simp only [List.append_nil] at hW' hlt
  obtain ⟨m, A0, c0, e0, m0, n0, r0⟩ := open_moves hv0 h0
  obtain ⟨A1, c1, l1, e1, m1, n1, o1, r1, f1⟩ := open_row Tryd.underlying23 Tryd.underlying5 Tryd.cellsU8 hv1 h1
  refine (codecMoves_any v0 v1 m A0 A1 c0 c1 l1 W (handle_of_laid hL) e0 e1 m0 n0 r0 m1 n1 r1 f1).mono fun e W' ⟨he, hb⟩ => ?_
  subst he
  exact ⟨_, rfl, _, _, _, [], _, [], hW', trodAll_mk1 (shut_bool Tryd.underlying4 true), trodAll_mk2 (hb.trod Tryd.laidOut (by kernel_rfl) (of_decide_eq_true (by kernel_rfl)) h0 (fun x hx => hlt x (by simp [hx]))) (hb.trod Tryd.laidOut (by kernel_rfl) (of_decide_eq_true (by kernel_rfl)) h1 (fun x hx => hlt x (by simp [hx]))), rfl, hb.frame _, fun h => by cases h⟩

theorem codecMoves_row : Rows.CodecMovesSaid :=
  OpenClaim.holds_of_wide 3 Tryd.f3 rfl rfl rfl rfl rfl rfl rfl ⟨rfl, rfl, rfl, rfl, rfl⟩ rfl rfl rfl rfl rfl (by kernel_rfl) Tryd.func3 (by kernel_rfl)
    (of_decide_eq_true (by kernel_rfl)) (by unfold Func.isWrapper; first | (rw [if_pos (by decide +kernel)]; kernel_rfl) | (rw [if_neg (by decide +kernel)]; exact ⟨rfl, rfl⟩))
    (fun os started H enc _ => codecMoves_lifted os started H enc)

theorem codecMoves_holds : Rows.CodecMovesCardSaid :=
  Claim7.holds_tied_plain_at .later [] [.handle] true (true, "70ccde6db076ca37c9e2e7886ef862ff164c83cff5edc6dcd1ec8e015a000c1c") true
    codecMoves_row (fun _ h => by cases h) (by kernel_rfl) (fun _ h => by cases h) codecMoves_row_tie rfl ⟨rfl, rfl⟩ (by kernel_rfl) rfl
    (fun f fn hf hfn => by
      obtain rfl : f = 3 := Option.some.inj ((show Tryd.prog.funcNamed Rows.codecMovesRow.func = some 3 by kernel_rfl).symm.trans hf) |>.symm
      obtain rfl : fn = Tryd.f3 := (Option.some.inj (Tryd.func3.symm.trans hfn)).symm
      exact ⟨by kernel_rfl, fun j t ht => by
        rw [Tryd.params3] at ht
        rcases j with _ | j
        · obtain rfl : t = 22 := by simpa using ht.symm
          exact (show Tryd.prog.wantsStandIn 22 = false by kernel_rfl)
        rcases j with _ | j
        · obtain rfl : t = 23 := by simpa using ht.symm
          exact (show Tryd.prog.wantsStandIn 23 = false by kernel_rfl)
        · simp at ht⟩)
    (by kernel_rfl)
end Go.Proofs.YtjpaeaedfgiomaaDoor
