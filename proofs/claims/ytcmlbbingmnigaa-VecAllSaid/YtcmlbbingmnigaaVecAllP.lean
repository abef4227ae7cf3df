/- The law VecAll: for every slice of amounts the call returns true, and the argument reads afterwards as it read before. There is no condition. -/
import Derived.Test.YtcmlbbingmnigaaVecAll
import Derived.Test.YtcmlbbingmnigaaVecR
namespace Go.Proofs.Ytcmlbbingmnigaa
open Go.ChangeShapes Go.WideShapes Go.ChangeAt Go.RowKit

theorem Try.laidOut : laidOutB Try.prog = true := by kernel_rfl

section
variable {H : Type} {enc : TypeId × Value → H} {W : World}
theorem open_vecs {r : Reach} {b0 base : Nat} {sp : Nat → Bool} {held : Bool} {v : Value} {d : DataW H} {ps : List MemPlace} (hval : Value.okWide Try.prog W r b0 38 v) (h : DataW.Trod enc Try.prog W base sp held 38 v d ps) :
    v = .slice none 0 0 ∨ ∃ (a : Addr) (n cap : Nat) (x0 x1 x2 x3 : Nat → Int), v = .slice (some a) n cap ∧ n ≤ maxLen ∧ VecsAt W a n x0 x1 x2 x3 ∧ Nums x0 x1 x2 x3 n := by
  obtain ⟨av, n0, cap0, rfl⟩ := okWide_slice Try.underlying38 hval
  obtain ⟨fuel, hf⟩ := h
  rcases Go.Deep.open_slice Try.underlying38 hf with ⟨hc, _⟩ | ⟨a, n, cap, m, fu, D, Pl, hc, _, hl, hm, hmm, _, hel⟩
  · left
    simpa [Value.cells] using hc
  · right
    have hc' : av = some a ∧ n0 = n ∧ cap0 = cap := by simpa [Value.cells] using hc
    obtain ⟨rfl, rfl, rfl⟩ := hc'
    have hnm : n0 ≤ m := by rw [hmm]; split <;> omega
    have key : ∀ i, i < n0 → ∃ x : Int × Int × Int × Int, (W.cell? (a.add (i * 4)) = some (.int .u64 x.1) ∧ W.cell? ⟨(a.add (i * 4)).block, (a.add (i * 4)).off + 1, none⟩ = some (.int .u64 x.2.1) ∧ W.cell? ⟨(a.add (i * 4)).block, (a.add (i * 4)).off + 2, none⟩ = some (.int .u64 x.2.2.1) ∧ W.cell? ⟨(a.add (i * 4)).block, (a.add (i * 4)).off + 3, none⟩ = some (.int .u64 x.2.2.2)) ∧
        ((Lit.int .u64 x.1).wf = true ∧ (Lit.int .u64 x.2.1).wf = true ∧ (Lit.int .u64 x.2.2.1).wf = true ∧ (Lit.int .u64 x.2.2.2).wf = true) := by
      intro i hi
      obtain ⟨cs, h1, h2⟩ := hel i (by omega)
      rw [Try.cellsVec] at h1
      obtain ⟨_, hlen, hat⟩ := World.cells?_some h1
      obtain ⟨c0, c1, c2, c3, rfl⟩ := four cs (by simpa using hlen)
      obtain ⟨y0, y1, y2, y3, m', hx, hy0, hy1, hy2, hy3⟩ := trod_array4 Try.underlying24 Try.cellsNum h2
      obtain ⟨x0, e0, rfl, w0⟩ := DataW.trod_int Try.underlying22 hy0
      obtain ⟨x1, e1, rfl, w1⟩ := DataW.trod_int Try.underlying22 hy1
      obtain ⟨x2, e2, rfl, w2⟩ := DataW.trod_int Try.underlying22 hy2
      obtain ⟨x3, e3, rfl, w3⟩ := DataW.trod_int Try.underlying22 hy3
      simp at e0 e1 e2 e3
      subst e0 e1 e2 e3
      exact ⟨(x0, x1, x2, x3), ⟨by simpa [Addr.add] using hat 0 (by omega), by simpa [Addr.add] using hat 1 (by omega), by simpa [Addr.add] using hat 2 (by omega), by simpa [Addr.add] using hat 3 (by omega)⟩, w0, w1, w2, w3⟩
    obtain ⟨x, hx⟩ := Go.Deep.choose_lt key
    refine ⟨a, n0, cap0, fun i => (x i).1, fun i => (x i).2.1, fun i => (x i).2.2.1, fun i => (x i).2.2.2, rfl, by omega, ⟨?_, fun i hi => (hx i hi).1.1, fun i hi => (hx i hi).1.2.1, fun i hi => (hx i hi).1.2.2.1, fun i hi => (hx i hi).1.2.2.2⟩, fun i hi => ⟨wf_u64 (hx i hi).2.1, wf_u64 (hx i hi).2.2.1, wf_u64 (hx i hi).2.2.2.1, wf_u64 (hx i hi).2.2.2.2⟩⟩
    intro h0
    have := World.block_lt_of_cell? _ _ (hx 0 h0).1.1
    rwa [add_block] at this
end

theorem len_some (a : Addr) (n cap : Nat) (w : World) : (Builtin.len_ #[38] 3 #[.slice (some a) n cap]).run Try.prog w = .ok (.int .i64 n) w := by
  simp [go_sem]
theorem len_nil (w : World) : (Builtin.len_ #[38] 3 #[.slice none 0 0]).run Try.prog w = .ok (.int .i64 (0 : Nat)) w := by
  simp [go_sem]

theorem vecAll_nil (w : World) : Calls Try.prog 5 #[.slice none 0 0] w fun e w' => e = .returned (.bool true) ∧ Below w.heap.size w w' :=
  vecAll_in (.slice none 0 0) 0 0 0 0 0 0 0 0 .nilIface true 0 (by omega) w len_nil (fun v _ => vsum_nil v) (fun v _ => rsum_nil v) (fun v => held_yes 0 0 0 0 v)
theorem vecAll_some (a : Addr) (n cap : Nat) (x0 x1 x2 x3 : Nat → Int) (w : World) (hm : n ≤ maxLen) (hv : VecsAt w a n x0 x1 x2 x3) (hx : Nums x0 x1 x2 x3 n) :
    Calls Try.prog 5 #[.slice (some a) n cap] w fun e w' => e = .returned (.bool true) ∧ Below w.heap.size w w' := by
  by_cases hn : n ≤ 500
  · by_cases hf : Fine x0 x1 x2 x3 n
    · refine vecAll_in (.slice (some a) n cap) (psum x0 n) (psum x1 n) (psum x2 n) (psum x3 n) (psum x0 n) (psum x1 n) (psum x2 n) (psum x3 n) .nilIface true n hn w (len_some a n cap)
        (fun v hb => (vsum_any a n cap x0 x1 x2 x3 v hn (hv.below hb (Nat.le_refl _)) hx).mono ?_) (fun v hb => (rsum_any a n cap x0 x1 x2 x3 v hn (hv.below hb (Nat.le_refl _)) hx).mono ?_) (fun v => held_yes _ _ _ _ v)
      all_goals
        rintro e w' ⟨⟨_, h⟩ | ⟨h, _⟩, hb'⟩
        · exact ⟨h, hb'⟩
        · exact absurd hf h
    · refine vecAll_in (.slice (some a) n cap) 0 0 0 0 0 0 0 0 (.iface 43 (.int .i64 8)) false n hn w (len_some a n cap)
        (fun v hb => (vsum_any a n cap x0 x1 x2 x3 v hn (hv.below hb (Nat.le_refl _)) hx).mono ?_) (fun v hb => (rsum_any a n cap x0 x1 x2 x3 v hn (hv.below hb (Nat.le_refl _)) hx).mono ?_) (fun v => held_no _ _ _ _ v)
      all_goals
        rintro e w' ⟨⟨h, _⟩ | ⟨_, h⟩, hb'⟩
        · exact absurd h hf
        · exact ⟨h, hb'⟩
  · exact vecAll_long (.slice (some a) n cap) n (by omega) (by unfold maxLen at hm; omega) w (len_some a n cap)

set_option maxHeartbeats 400000 in
set_option maxRecDepth 100000 in
theorem vecAll_lifted (os : Os) (started : os.Started) (H : Type) (enc : TypeId × Value → H) :
    ReturnsInHanded {} Try.checked os 5 .any (Rows.vecAllSpec.pre6 enc Try.prog Try.f5 Rows.vecAllRow.domain false) (Rows.vecAllSpec.post enc Try.prog Try.f5 false true false false) := by
  refine returnsInHanded_of_change (C := Try.checked) Try.own started (by kernel_rfl) Try.func5
    (ChangeSpec.witness6 (enc := enc) (C := Try.checked) false ⟨#[], #[.slice none 0 0], []⟩ 8 (by kernel_rfl) (by kernel_rfl) (by kernel_rfl) (by kernel_rfl)) ?_
  intro W base args ds gs before hval0 hW _ _
  have hval : ∀ (j : Nat) t v, Try.f5.params[j]? = some t → args[j]? = some v → Value.okWide Try.prog W .any base t v := hval0
  have hW' := hW
  have hlt : ∀ x ∈ before, x.block < W.heap.size := fun x hx => hW.lt x hx
  obtain ⟨p, q, hA0, hV, rfl, _, _⟩ := hW
  have hA : DataW.TrodAll enc Try.prog W 0 (fun _ => true) true Try.f5.params.toList args.toList ds p := hA0
  rw [Try.params5] at hA hval
  obtain ⟨v0, d0, rfl, rfl, h0⟩ := trodAll_one hA
  obtain ⟨rfl, rfl⟩ := trodVars_none hV
  have hv0 := hval 0 38 v0 rfl rfl
  clear hA0 hval0
  simp only [List.append_nil] at hW' hlt
  have walk : Calls Try.prog 5 #[v0] W fun e w' => e = .returned (.bool true) ∧ Below W.heap.size W w' := by
    rcases open_vecs hv0 h0 with rfl | ⟨a, n, cap, x0, x1, x2, x3, rfl, hm, hva, hx⟩
    · exact vecAll_nil W
    · exact vecAll_some a n cap x0 x1 x2 x3 W hm hva hx
  refine walk.mono fun e W' ⟨he, hb⟩ => ?_
  subst he
  exact ⟨_, rfl, _, _, _, [], p, [], hW', trodAll_mk1 (shut_bool Try.underlying4 true), trodAll_mk1 (hb.trod Try.laidOut (by kernel_rfl) (of_decide_eq_true (by kernel_rfl)) h0 hlt), rfl, hb.frame _, fun h => by cases h⟩

theorem vecAll_holds : Rows.VecAllSaid :=
  OpenClaim.holds_of_wide 5 Try.f5 rfl rfl rfl rfl rfl rfl rfl ⟨rfl, rfl, rfl, rfl, rfl⟩ rfl rfl rfl rfl rfl (by kernel_rfl) Try.func5 (by kernel_rfl)
    (of_decide_eq_true (by kernel_rfl)) (by unfold Func.isWrapper; first | (rw [if_pos (by decide +kernel)]; kernel_rfl) | (rw [if_neg (by decide +kernel)]; exact ⟨rfl, rfl⟩))
    (fun os started H enc _ => vecAll_lifted os started H enc)
end Go.Proofs.Ytcmlbbingmnigaa
