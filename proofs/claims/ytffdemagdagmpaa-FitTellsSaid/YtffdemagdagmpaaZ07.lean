/- Joined texts, part 7: FK FL FV UO KO. -/
import Derived.Test.YtffdemagdagmpaaZ06
import Derived.Test.YtffdemagdagmpaaZ05
import Derived.Test.YtffdemagdagmpaaZ01
import Derived.Test.YtffdemagdagmpaaZ03
import Derived.ChangeSame
import Derived.ChangeVars
import Derived.JoinedOf
import Derived.RowKit
import Derived.RowKitTokens
import Derived.Carry
import Derived.ChangeSlices
import Derived.Test.YtffdemagdagmpaaRows

/- The head of layer 14's laws: the document's example, and a request that fits nowhere. -/
namespace Go.Proofs.Ytffdemagdagmpaa
set_option linter.unusedSimpArgs false
open Go.RowKit
set_option linter.unusedVariables false

theorem recsNewF {α : Type} {size : Nat} {cells : α → List Value} (hc : ∀ x, (cells x).length = size) (w : World) (t : TypeId) (xs : List α) (cs : Array Value) (hcs : cs = (xs.flatMap cells).toArray) : Recs size cells (w.alloc (.cells cs t)) (w.heap.size + 1) (some ⟨w.heap.size, 0, none⟩) xs := by
  subst hcs
  refine .inr ⟨w.heap.size, 0, rfl, by omega, fun i hi j u hu => ?_⟩
  have hj : j < size := by have := (List.getElem?_eq_some_iff.1 hu).1; rwa [hc] at this
  have h2 := flatMap_get (size := size) hc hi hj
  rw [hu] at h2
  simpa using h2
def upN14 : List NodeD := [⟨3, 1, ⟨5, 0, 0, 0⟩, ⟨0, 0, 0, 0⟩⟩, ⟨4, 1, ⟨3, 0, 0, 0⟩, ⟨0, 0, 0, 0⟩⟩]
theorem up14_first : firstS (sitesD upN14 [] ⟨2, 0, 0, 0⟩ upN14) = 3 := by decide
theorem up14_best : bestS (sitesD upN14 [] ⟨2, 0, 0, 0⟩ upN14) = 4 := by decide
theorem up14_none : bestS (sitesD upN14 [] ⟨6, 0, 0, 0⟩ upN14) = 0 := by decide
theorem upN14_ok : ∀ x ∈ upN14, x.Ok := by
  intro x hx
  simp only [upN14, List.mem_cons, List.not_mem_nil, or_false] at hx
  rcases hx with rfl | rfl
  · exact ⟨⟨by decide, by decide⟩, ⟨by decide, by decide⟩, ⟨⟨by decide, by decide⟩, ⟨by decide, by decide⟩, ⟨by decide, by decide⟩, ⟨by decide, by decide⟩⟩, ⟨⟨by decide, by decide⟩, ⟨by decide, by decide⟩, ⟨by decide, by decide⟩, ⟨by decide, by decide⟩⟩⟩
  · exact ⟨⟨by decide, by decide⟩, ⟨by decide, by decide⟩, ⟨⟨by decide, by decide⟩, ⟨by decide, by decide⟩, ⟨by decide, by decide⟩, ⟨by decide, by decide⟩⟩, ⟨⟨by decide, by decide⟩, ⟨by decide, by decide⟩, ⟨by decide, by decide⟩, ⟨by decide, by decide⟩⟩⟩
theorem noPod_ok : ∀ p ∈ ([] : List PodD), p.Ok := fun _ h => by simp at h
theorem two_okV : V4.Ok ⟨2, 0, 0, 0⟩ := ⟨⟨by decide, by decide⟩, ⟨by decide, by decide⟩, ⟨by decide, by decide⟩, ⟨by decide, by decide⟩⟩
theorem six_okV : V4.Ok ⟨6, 0, 0, 0⟩ := ⟨⟨by decide, by decide⟩, ⟨by decide, by decide⟩, ⟨by decide, by decide⟩, ⟨by decide, by decide⟩⟩

set_option maxHeartbeats 6400000 in
set_option maxRecDepth 100000 in
theorem up14_any (w : World) : Calls Try.prog 5 #[] w fun e w' => e = .returned (.bool true) ∧ Below w.heap.size w w' := by
  have k0 : Below w.heap.size w ((w.alloc (.cells #[.int .i64 3, .int .i64 1, .int .u64 5, .int .u64 0, .int .u64 0, .int .u64 0, .int .u64 0, .int .u64 0, .int .u64 0, .int .u64 0, .int .i64 4, .int .i64 1, .int .u64 3, .int .u64 0, .int .u64 0, .int .u64 0, .int .u64 0, .int .u64 0, .int .u64 0, .int .u64 0] 51)).alloc (.cells #[.slice (some ⟨w.heap.size, 0, none⟩) 2 2, .slice none 0 0, .slice none 0 0] 26)) := below_two w _ _
  have hr0 : Recs 10 cellsN ((w.alloc (.cells #[.int .i64 3, .int .i64 1, .int .u64 5, .int .u64 0, .int .u64 0, .int .u64 0, .int .u64 0, .int .u64 0, .int .u64 0, .int .u64 0, .int .i64 4, .int .i64 1, .int .u64 3, .int .u64 0, .int .u64 0, .int .u64 0, .int .u64 0, .int .u64 0, .int .u64 0, .int .u64 0] 51)).alloc (.cells #[.slice (some ⟨w.heap.size, 0, none⟩) 2 2, .slice none 0 0, .slice none 0 0] 26)) (w.heap.size + 1) (some ⟨w.heap.size, 0, none⟩) upN14 :=
    (recsNewF (cells := cellsN) (size := 10) (fun _ => rfl) w 51 upN14 _ rfl).below ((Below.refl _ _).alloc (Nat.le_refl _) _) (by simp)
  have hB : Bf ((w.alloc (.cells #[.int .i64 3, .int .i64 1, .int .u64 5, .int .u64 0, .int .u64 0, .int .u64 0, .int .u64 0, .int .u64 0, .int .u64 0, .int .u64 0, .int .i64 4, .int .i64 1, .int .u64 3, .int .u64 0, .int .u64 0, .int .u64 0, .int .u64 0, .int .u64 0, .int .u64 0, .int .u64 0] 51)).alloc (.cells #[.slice (some ⟨w.heap.size, 0, none⟩) 2 2, .slice none 0 0, .slice none 0 0] 26)) (w.heap.size + 1) [.slice (some ⟨w.heap.size, 0, none⟩) 2 2, .slice none 0 0, .slice none 0 0] := Bf.new (w.alloc (.cells #[.int .i64 3, .int .i64 1, .int .u64 5, .int .u64 0, .int .u64 0, .int .u64 0, .int .u64 0, .int .u64 0, .int .u64 0, .int .u64 0, .int .i64 4, .int .i64 1, .int .u64 3, .int .u64 0, .int .u64 0, .int .u64 0, .int .u64 0, .int .u64 0, .int .u64 0, .int .u64 0] 51)) _ _ (by simp)
  go_enter Try.func5, Try.ntmps5
  go_upto_region 2 with fail
  generalize ((w.alloc (.cells #[.int .i64 3, .int .i64 1, .int .u64 5, .int .u64 0, .int .u64 0, .int .u64 0, .int .u64 0, .int .u64 0, .int .u64 0, .int .u64 0, .int .i64 4, .int .i64 1, .int .u64 3, .int .u64 0, .int .u64 0, .int .u64 0, .int .u64 0, .int .u64 0, .int .u64 0, .int .u64 0] 51)).alloc (.cells #[.slice (some ⟨w.heap.size, 0, none⟩) 2 2, .slice none 0 0, .slice none 0 0] 26)) = W at *
  have hz : w.heap.size + 1 ≤ W.heap.size := Nat.le_of_lt hB.lt
  have HN : Hid (∀ V, Below w.heap.size w V → Below W.heap.size W V → Recs 10 cellsN V V.heap.size (some ⟨w.heap.size, 0, none⟩) upN14) := fun V h1 hV => (hr0.below hV hz).more (Nat.le_trans hz hV.size)
  have H1 : Hid (∀ V, Below W.heap.size W V → Calls Try.prog 12 #[.agg #[.slice (some ⟨w.heap.size, 0, none⟩) 2 2, .slice none 0 0, .slice none 0 0], .agg #[.slice none 0 0, .int .i64 0, .int .i64 0], .agg #[.int .u64 2, .int .u64 0, .int .u64 0, .int .u64 0]] V fun e w' => e = .returned (.int .i64 3) ∧ Below V.heap.size V w') := fun V hV => by
    have h := first_any14 upN14 [] ⟨2, 0, 0, 0⟩ upN14_ok noPod_ok two_okV (some ⟨w.heap.size, 0, none⟩) none 2 2 0 0 (.slice none 0 0) (.slice none 0 0) (.int .i64 0) (.int .i64 0) V rfl (by omega) (HN.out V (k0.trans (hV.mono k0.size)) hV) rfl (by omega) Recs.nil
    rw [up14_first] at h
    exact h
  have H2 : Hid (∀ V, Below W.heap.size W V → Calls Try.prog 14 #[.agg #[.slice (some ⟨w.heap.size, 0, none⟩) 2 2, .slice none 0 0, .slice none 0 0], .agg #[.slice none 0 0, .int .i64 0, .int .i64 0], .agg #[.int .u64 2, .int .u64 0, .int .u64 0, .int .u64 0]] V fun e w' => e = .returned (.int .i64 4) ∧ Below V.heap.size V w') := fun V hV => by
    have h := best_any14 upN14 [] ⟨2, 0, 0, 0⟩ upN14_ok noPod_ok two_okV (some ⟨w.heap.size, 0, none⟩) none 2 2 0 0 (.slice none 0 0) (.slice none 0 0) (.int .i64 0) (.int .i64 0) V rfl (by omega) (HN.out V (k0.trans (hV.mono k0.size)) hV) rfl (by omega) Recs.nil
    rw [up14_best] at h
    exact h
  have H3 : Hid (∀ V, Below W.heap.size W V → Calls Try.prog 14 #[.agg #[.slice (some ⟨w.heap.size, 0, none⟩) 2 2, .slice none 0 0, .slice none 0 0], .agg #[.slice none 0 0, .int .i64 0, .int .i64 0], .agg #[.int .u64 6, .int .u64 0, .int .u64 0, .int .u64 0]] V fun e w' => e = .returned (.int .i64 0) ∧ Below V.heap.size V w') := fun V hV => by
    have h := best_any14 upN14 [] ⟨6, 0, 0, 0⟩ upN14_ok noPod_ok six_okV (some ⟨w.heap.size, 0, none⟩) none 2 2 0 0 (.slice none 0 0) (.slice none 0 0) (.int .i64 0) (.int .i64 0) V rfl (by omega) (HN.out V (k0.trans (hV.mono k0.size)) hV) rfl (by omega) Recs.nil
    rw [up14_none] at h
    exact h
  obtain ⟨a0, a1, a2, a3⟩ := hB.cells3
  have HB := Lib.hid hB
  have HK := Lib.hid k0
  clear hr0 hB k0 hz HN
  go_wp2_with fail
  refine (H1.out _ (Below.refl _ _)).mono ?_
  rintro e w1 ⟨rfl, hb1⟩
  have B1 := HB.out.below hb1 HB.out.lt
  clear a0 a1 a2 a3
  obtain ⟨a0, a1, a2, a3⟩ := B1.cells3
  clear B1
  go_wp2_with fail
  refine (H2.out _ hb1).mono ?_
  rintro e w2 ⟨rfl, hb2⟩
  have k2 := hb1.trans (hb2.mono hb1.size)
  have B2 := HB.out.below k2 HB.out.lt
  clear a0 a1 a2 a3 hb1 hb2
  obtain ⟨a0, a1, a2, a3⟩ := B2.cells3
  clear B2
  go_wp2_with fail
  refine (H3.out _ k2).mono ?_
  rintro e w3 ⟨rfl, hb3⟩
  have k3 := HK.out.trans ((k2.trans (hb3.mono k2.size)).mono HK.out.size)
  clear a0 a1 a2 a3 k2 hb3
  go_wp2
  go_ret
  exact ⟨rfl, k3⟩
end Go.Proofs.Ytffdemagdagmpaa

/- The law FitTells. -/
namespace Go.Proofs.Ytffdemagdagmpaa
set_option linter.unusedSimpArgs false
open Go.RowKit
set_option linter.unusedVariables false

theorem few14 {n1 n2 n3 n4 n5 : Nat} (h : few05 n1 n2 n3 n4 n5 = true) : n1 ≤ 40 ∧ n2 ≤ 40 ∧ n3 ≤ 40 ∧ n4 ≤ 40 ∧ n5 ≤ 40 := by
  simp [few05] at h
  omega
set_option maxHeartbeats 25600000 in
set_option maxRecDepth 100000 in
theorem fitTells_in (s : SnapD) (t : StateD) (req oth : V4) (A1 A2 A3 A4 : Option Addr) (n1 c1 n2 c2 n3 c3 n4 c4 : Nat) (w : World) (hno : ∀ x ∈ s.nodes, x.Ok) (hlo : ∀ p ∈ t.pods, p.Ok) (hq : req.Ok)
    (hn1 : n1 = s.nodes.length) (hr1 : Recs 10 cellsN w w.heap.size A1 s.nodes) (hn4 : n4 = t.pods.length) (hr4 : Recs 8 cellsP w w.heap.size A4 t.pods) :
    Calls Try.prog 3 #[.agg #[.slice A1 n1 c1, .slice A2 n2 c2, .slice A3 n3 c3], .agg #[.slice A4 n4 c4, .int .i64 t.preempts, .int .i64 t.shifts], aggV req, aggV oth] w fun e w' => e = .returned (.bool true) ∧ Below w.heap.size w w' := by
  have T0 := Fo.new w [.slice A1 n1 c1, .slice A2 n2 c2, .slice A3 n3 c3] [.slice A4 n4 c4, .int .i64 t.preempts, .int .i64 t.shifts] (cellsV req) (cellsV oth) 26 28 31 31
  have HUP := Lib.hid up14_any
  have HN := Lib.hid (And.intro hno (And.intro hlo hq))
  have HL := Lib.hid (And.intro hn1 hn4)
  have HR1 := Lib.hid (fun (V : World) (hV : Below w.heap.size w V) => (hr1.below hV (Nat.le_refl _)).more hV.size)
  have HR4 := Lib.hid (fun (V : World) (hV : Below w.heap.size w V) => (hr4.below hV (Nat.le_refl _)).more hV.size)
  clear hno hlo hq hn1 hn4 hr1 hr4
  go_enter Try.func3, Try.ntmps3
  go_wp2_with fail
  refine (HUP.out _).mono ?_
  rintro e w1 ⟨rfl, hb1⟩
  have T1 := T0.keep hb1
  clear hb1 T0 HUP
  obtain ⟨a0, a1, a2, a3⟩ := T1.one.cells3
  obtain ⟨b0, b1, b2, b3⟩ := T1.two.cells3
  go_wp2_with fail
  refine (few05_any _ _ _ _ _ _ _ _ _ _ _ _ _ _ _ _ _ _ _ _).mono ?_
  rintro e W ⟨rfl, hb2⟩
  have T2' := T1.keep hb2
  have kw := T2'.below
  clear hb2 T1 a0 a1 a2 a3 b0 b1 b2 b3
  cases hfew : few05 n1 n2 n3 0 n4 with
  | false =>
    clear hfew T2'
    go_wp2
    go_ret
    exact ⟨rfl, kw⟩
  | true =>
    obtain ⟨hl1, hl2, hl3, hl5, hl4⟩ := few14 hfew
    clear hfew
    have HZ : Hid ((nodesS (sitesD s.nodes t.pods req s.nodes)).length ≤ 400) := by
      show _ ≤ _
      have h1 := sites_len s.nodes t.pods req s.nodes
      have h2 := HL.out.1
      simp only [nodesS, List.length_map]
      omega
    have H1 := Lib.hid (fTighter_any req oth)
    have H2 := Lib.hid (rTighter_any14 req oth)
    have H3 : Hid (∀ V : World, ((∀ b o, b < W.heap.size → V.cell? ⟨b, o, none⟩ = W.cell? ⟨b, o, none⟩) ∧ Below W.heap.size W V) → Calls Try.prog 10 #[.agg #[.slice A1 n1 c1, .slice A2 n2 c2, .slice A3 n3 c3], .agg #[.slice A4 n4 c4, .int .i64 t.preempts, .int .i64 t.shifts], aggV req] V (FitsTo (nodesS (sitesD s.nodes t.pods req s.nodes)) V)) := fun V hV =>
      fits14_any s.nodes t.pods req HN.out.1 HN.out.2.1 HN.out.2.2 A1 A4 n1 c1 n4 c4 _ _ _ _ V HL.out.1 (by omega) (HR1.out V (kw.trans (hV.2.mono kw.size))) HL.out.2 (by omega) (HR4.out V (kw.trans (hV.2.mono kw.size)))
    have H4 : Hid (∀ V : World, ((∀ b o, b < W.heap.size → V.cell? ⟨b, o, none⟩ = W.cell? ⟨b, o, none⟩) ∧ Below W.heap.size W V) → Calls Try.prog 11 #[.agg #[.slice A1 n1 c1, .slice A2 n2 c2, .slice A3 n3 c3], .agg #[.slice A4 n4 c4, .int .i64 t.preempts, .int .i64 t.shifts], aggV req] V (FitsTo (nodesS (sitesD s.nodes t.pods req s.nodes)) V)) := fun V hV =>
      rFits14_any s.nodes t.pods req HN.out.1 HN.out.2.1 HN.out.2.2 A1 A4 n1 c1 n4 c4 _ _ _ _ V HL.out.1 (by omega) (HR1.out V (kw.trans (hV.2.mono kw.size))) HL.out.2 (by omega) (HR4.out V (kw.trans (hV.2.mono kw.size)))
    have H5 : Hid (∀ V : World, ((∀ b o, b < W.heap.size → V.cell? ⟨b, o, none⟩ = W.cell? ⟨b, o, none⟩) ∧ Below W.heap.size W V) → Calls Try.prog 12 #[.agg #[.slice A1 n1 c1, .slice A2 n2 c2, .slice A3 n3 c3], .agg #[.slice A4 n4 c4, .int .i64 t.preempts, .int .i64 t.shifts], aggV req] V fun e w' => e = .returned (.int .i64 (firstS (sitesD s.nodes t.pods req s.nodes))) ∧ Below V.heap.size V w') := fun V hV =>
      first_any14 s.nodes t.pods req HN.out.1 HN.out.2.1 HN.out.2.2 A1 A4 n1 c1 n4 c4 _ _ _ _ V HL.out.1 (by omega) (HR1.out V (kw.trans (hV.2.mono kw.size))) HL.out.2 (by omega) (HR4.out V (kw.trans (hV.2.mono kw.size)))
    have H6 : Hid (∀ V : World, ((∀ b o, b < W.heap.size → V.cell? ⟨b, o, none⟩ = W.cell? ⟨b, o, none⟩) ∧ Below W.heap.size W V) → Calls Try.prog 13 #[.agg #[.slice A1 n1 c1, .slice A2 n2 c2, .slice A3 n3 c3], .agg #[.slice A4 n4 c4, .int .i64 t.preempts, .int .i64 t.shifts], aggV req, .bool false] V fun e w' => e = .returned (.int .i64 (firstS (sitesD s.nodes t.pods req s.nodes))) ∧ Below V.heap.size V w') := fun V hV =>
      rOne_any14 false s.nodes t.pods req HN.out.1 HN.out.2.1 HN.out.2.2 A1 A4 n1 c1 n4 c4 _ _ _ _ V HL.out.1 (by omega) (HR1.out V (kw.trans (hV.2.mono kw.size))) HL.out.2 (by omega) (HR4.out V (kw.trans (hV.2.mono kw.size)))
    have H7 : Hid (∀ V : World, ((∀ b o, b < W.heap.size → V.cell? ⟨b, o, none⟩ = W.cell? ⟨b, o, none⟩) ∧ Below W.heap.size W V) → Calls Try.prog 14 #[.agg #[.slice A1 n1 c1, .slice A2 n2 c2, .slice A3 n3 c3], .agg #[.slice A4 n4 c4, .int .i64 t.preempts, .int .i64 t.shifts], aggV req] V fun e w' => e = .returned (.int .i64 (bestS (sitesD s.nodes t.pods req s.nodes))) ∧ Below V.heap.size V w') := fun V hV =>
      best_any14 s.nodes t.pods req HN.out.1 HN.out.2.1 HN.out.2.2 A1 A4 n1 c1 n4 c4 _ _ _ _ V HL.out.1 (by omega) (HR1.out V (kw.trans (hV.2.mono kw.size))) HL.out.2 (by omega) (HR4.out V (kw.trans (hV.2.mono kw.size)))
    have H8 : Hid (∀ V : World, ((∀ b o, b < W.heap.size → V.cell? ⟨b, o, none⟩ = W.cell? ⟨b, o, none⟩) ∧ Below W.heap.size W V) → Calls Try.prog 13 #[.agg #[.slice A1 n1 c1, .slice A2 n2 c2, .slice A3 n3 c3], .agg #[.slice A4 n4 c4, .int .i64 t.preempts, .int .i64 t.shifts], aggV req, .bool true] V fun e w' => e = .returned (.int .i64 (bestS (sitesD s.nodes t.pods req s.nodes))) ∧ Below V.heap.size V w') := fun V hV =>
      rOne_any14 true s.nodes t.pods req HN.out.1 HN.out.2.1 HN.out.2.2 A1 A4 n1 c1 n4 c4 _ _ _ _ V HL.out.1 (by omega) (HR1.out V (kw.trans (hV.2.mono kw.size))) HL.out.2 (by omega) (HR4.out V (kw.trans (hV.2.mono kw.size)))
    generalize firstS (sitesD s.nodes t.pods req s.nodes) = f at *
    generalize bestS (sitesD s.nodes t.pods req s.nodes) = g at *
    generalize nodesS (sitesD s.nodes t.pods req s.nodes) = zs at *
    generalize tightV req oth = tg at *
    obtain ⟨a0, a1, a2, a3⟩ := T2'.one.cells3
    obtain ⟨b0, b1, b2, b3⟩ := T2'.two.cells3
    obtain ⟨d0, d1, d2, d3, d4⟩ := T2'.three.cells4
    obtain ⟨i0, i1, i2, i3, i4⟩ := T2'.four.cells4
    have HK := Lib.hid kw
    clear T2' kw HR1 HR4 HN HL hl1 hl2 hl3 hl4 hl5
    go_wp2
    go_region_held3 (fun w' => (∀ b o, b < W.heap.size → w'.cell? ⟨b, o, none⟩ = W.cell? ⟨b, o, none⟩) ∧ Below W.heap.size W w')
      (first | (with_reducible assumption) | (show Keeps W _; with_reducible (repeat (first | exact Keeps.refl _ | assumption | refine Keeps.drew ?_ | refine Keeps.alloc ?_ _ | refine Keeps.step ?_ (by assumption)))))
      (first
        | (go_at_call 7; (with_reducible refine (H1.out _).mono ?_); rintro e u1 ⟨rfl, hb1⟩)
        | (go_at_call 8; (with_reducible refine (H2.out _).mono ?_); rintro e u2 ⟨rfl, hb2⟩)
        | (go_at_call 10; (with_reducible refine (H3.out _ (by assumption)).mono ?_); rintro e u3 ⟨A5, c5, rfl, ho5, hb3⟩)
        | (go_at_call 11; (with_reducible refine (H4.out _ (by assumption)).mono ?_); rintro e u4 ⟨A6, c6, rfl, ho6, hb4⟩; have ho7 := Lib.hid ((ho5.recs.below hb4 (Nat.le_refl _)).more hb4.size))
        | (go_at_call 9; (with_reducible refine (intsSame_any zs HZ.out A5 A6 c5 c6 _ ho7.out ho6.recs).mono ?_); rintro e u5 ⟨rfl, hb5⟩)
        | (go_at_call 12; (with_reducible refine (H5.out _ (by assumption)).mono ?_); rintro e u6 ⟨rfl, hb6⟩)
        | (go_at_call 13; (with_reducible refine (H6.out _ (by assumption)).mono ?_); rintro e u7 ⟨rfl, hb7⟩)
        | (go_at_call 14; (with_reducible refine (H7.out _ (by assumption)).mono ?_); rintro e u8 ⟨rfl, hb8⟩)
        | (go_at_call 13; (with_reducible refine (H8.out _ (by assumption)).mono ?_); rintro e u9 ⟨rfl, hb9⟩))
    all_goals
      rename_i hK
      have kV := HK.out.trans (hK.2.mono HK.out.size)
      go_wp2
      go_ret
      exact ⟨rfl, kV⟩
end Go.Proofs.Ytffdemagdagmpaa

/- An amount that is handed in, by value. -/
namespace Go.Proofs.Ytffdemagdagmpaa
set_option linter.unusedSimpArgs false
open Go.ChangeShapes Go.WideShapes Go.ChangeAt Go.RowKit
set_option linter.unusedVariables false

theorem list4F {α : Type} (l : List α) (h : (⟨l⟩ : Array α).size = 4) : ∃ a b c d, l = [a, b, c, d] := by
  match l, h with
  | [a, b, c, d], _ => exact ⟨a, b, c, d, rfl⟩
section
variable {H : Type} {enc : TypeId × Value → H} {w : World} {base : Nat} {sp : Nat → Bool} {held : Bool}
set_option maxRecDepth 100000 in
theorem open_vecF {r : Reach} {b0 : Nat} {v : Value} {d : DataW H} {ps : List MemPlace} (hval : Value.okWide Try.prog w r b0 31 v) (h : DataW.Trod enc Try.prog w base sp held 31 v d ps) : ∃ x : V4, v = aggV x ∧ x.Ok := by
  obtain ⟨cs, rfl, hsz, _⟩ : ∃ cs, v = .agg cs ∧ cs.size = Try.prog.cellsOf 31 ∧ Row.okWide Try.prog w r b0 31 cs := by
    simpa [Value.okWide, Try.underlying31] using hval
  rw [Try.cells31] at hsz
  obtain ⟨l⟩ := cs
  obtain ⟨c0, c1, c2, c3, rfl⟩ := list4F l hsz
  obtain ⟨fuel, hf⟩ := h
  obtain ⟨x, rfl, rfl, rfl, rfl, ho⟩ := vec_of rfl hf
  exact ⟨x, rfl, ho⟩
end
end Go.Proofs.Ytffdemagdagmpaa

/- How a state is read as data; five arguments. -/
namespace Go.Proofs.Ytffdemagdagmpaa
set_option linter.unusedSimpArgs false
open Go.ChangeShapes Go.WideShapes Go.ChangeAt Go.RowKit

theorem Try.cellsT : Try.prog.cellsOf 28 = 3 := by kernel_rfl
section
variable {H : Type} {enc : TypeId × Value → H} {w : World} {base : Nat} {sp : Nat → Bool} {held : Bool}
set_option maxRecDepth 100000 in
/-- A state by value. -/
theorem open_state {r : Reach} {b0 : Nat} {v : Value} {d : DataW H} {ps : List MemPlace} (hval : Value.okWide Try.prog w r b0 28 v) (h : DataW.Trod enc Try.prog w base sp held 28 v d ps) :
    ∃ (t : StateD) (A : Option Addr) (c : Nat), v = .agg #[.slice A t.pods.length c, .int .i64 t.preempts, .int .i64 t.shifts] ∧ I64 t.preempts ∧ I64 t.shifts ∧
      (t.pods.length ≤ c ∧ c ≤ maxLen ∧ (A = none → c = 0) ∧ Recs 8 cellsP w w.heap.size A t.pods ∧ ∀ a ∈ t.pods, a.Ok) := by
  obtain ⟨v0, v1, v2, y0, y1, y2, n, rfl, _, _, h0, h1, h2⟩ := Go.Joins.open_agg3 Try.underlying28 (by kernel_rfl) Try.cellsT hval h
  obtain ⟨A, c, l, rfl, p⟩ := open_recs (Ok := PodD.Ok) Try.underlying24 Try.cellsP (by decide) (fun _ _ _ hl h => pod_of hl h) h0
  obtain ⟨k1, rfl, i1⟩ := int_of rfl h1
  obtain ⟨k2, rfl, i2⟩ := int_of rfl h2
  exact ⟨⟨l, k1, k2⟩, A, c, rfl, i1, i2, p⟩
end
section
variable {H : Type} {enc : TypeId × Value → H} {P : Program} {w : World} {base : Nat} {spare : Nat → Bool} {held : Bool}
end
end Go.Proofs.Ytffdemagdagmpaa

namespace Go.Proofs.Ytffdemagdagmpaa
set_option linter.unusedSimpArgs false
theorem Try.own : ownKnob Try.prog.godebug = none := by kernel_rfl
theorem Try.laidOut : laidOutB Try.prog = true := by kernel_rfl
end Go.Proofs.Ytffdemagdagmpaa
