/- What a call of layer 3 that tells an error comes to; the law ClusterChecks, walked, from what its callees come to. -/
import Derived.Test.YtaeklohgheildaaDoorCF
import Derived.Test.YtaeklohgheildaaDoorTold
namespace Go.Proofs.YtaeklohgheildaaDoor
open Go.RowKit
set_option linter.unusedVariables false

/-- The error's number and its place (-1: itself) as an error: none, a Code itself, or a Spot of the call's own. -/
def ErrIs (p : Int × Int) (B : Nat) (w' : World) (u : Value) : Prop :=
  (p = (0, -1) ∧ u = .nilIface) ∨ (p.2 = -1 ∧ 1 ≤ p.1 ∧ p.1 ≤ 17 ∧ u = .iface 62 (.int .i64 p.1)) ∨
  ∃ k g : Nat, p.2 = k ∧ u = .iface 91 (.pointer (some ⟨g, 0, none⟩)) ∧ B ≤ g ∧ w'.heap[g]? = some (.cells #[.int .i64 (k : Int), .int .i64 p.1] 96 (0, 0))
def ErrTo (p : Int × Int) (w : World) (e : Ending) (w' : World) : Prop := ∃ u, e = .returned u ∧ ErrIs p w.heap.size w' u ∧ Below w.heap.size w w'
abbrev Laid (w : World) : Prop := w.cell? ⟨0, 0, none⟩ = some (.iface 133 (.agg #[.pointer (some ⟨1, 37, none⟩)]))
theorem Laid.below {w w' : World} {B : Nat} (h : Laid w) (hb : Below B w w') (hB : w.heap.size ≤ B) : Laid w' :=
  (hb.cell (p := ⟨0, 0, none⟩) (Nat.lt_of_lt_of_le (World.block_lt_of_cell? w _ h) hB)).trans h

theorem told_any (p : Int × Int) (B : Nat) (u : Value) (w : World) (hg : Laid w) (hu : ErrIs p B w u) :
    Calls Tryd.prog 11 #[u, .int .i64 p.1, .int .i64 p.2] w fun e w' => e = .returned (.bool true) ∧ Below w.heap.size w w' := by
  obtain ⟨a, b⟩ := p
  rcases hu with ⟨h1, rfl⟩ | ⟨h1, h2, h3, rfl⟩ | ⟨k, g, h1, rfl, _, h4⟩
  · injection h1 with h1 h2
    subst h1 h2
    exact (told_nil w).mono fun _ _ ⟨h1, h2⟩ => ⟨h1, h2 ▸ Below.refl _ _⟩
  · simp only at h1 h2 h3
    subst h1
    exact (told_self a h2 h3 w).mono fun _ _ ⟨h1, h2⟩ => ⟨h1, h2 ▸ Below.refl _ _⟩
  · simp only at h1 h4
    subst h1
    exact told_spot g k a w hg h4

abbrev snapV (A1 A2 A3 : Option Addr) (n1 c1 n2 c2 n3 c3 : Nat) : Value := .agg #[.slice A1 n1 c1, .slice A2 n2 c2, .slice A3 n3 c3]
abbrev specV (A4 : Option Addr) (n4 c4 : Nat) (x : SpecD) : Value := .agg #[.slice A4 n4 c4, .int .i64 x.preempts, .int .i64 x.shifts]
theorem ErrIs.below {p : Int × Int} {B : Nat} {w w' : World} {u : Value} (h : ErrIs p B w u) (hb : Below w.heap.size w w') : ErrIs p B w' u := by
  rcases h with h | h | ⟨k, g, h1, h2, h3, h4⟩
  · exact .inl h
  · exact .inr (.inl h)
  · exact .inr (.inr ⟨k, g, h1, h2, h3, (hb.block g (Array.getElem?_eq_some_iff.1 h4).1).trans h4⟩)

set_option maxHeartbeats 3200000 in
theorem clusterChecks_in (s : SnapD) (x : SpecD) (A1 A2 A3 A4 : Option Addr) (n1 c1 n2 c2 n3 c3 n4 c4 : Nat) (w : World) (hg : Laid w) (hn1 : n1 = s.nodes.length) (hn2 : n2 = s.loads.length) (hn3 : n3 = s.pods.length) (hn4 : n4 = x.wants.length) (hl1 : n1 ≤ 40) (hl2 : n2 ≤ 40) (hl3 : n3 ≤ 40) (hl4 : n4 ≤ 40)
    (hr1 : Recs 10 cellsN w w.heap.size A1 s.nodes) (hr2 : Recs 5 cellsL w w.heap.size A2 s.loads) (hr3 : Recs 8 cellsP w w.heap.size A3 s.pods) (hr4 : Recs 6 cellsW w w.heap.size A4 x.wants)
    (hup : ∀ v : World, Laid v → Calls Tryd.prog 7 #[] v fun e w' => e = .returned (.bool true) ∧ Below v.heap.size v w')
    (hch : ∀ v : World, Below w.heap.size w v → Calls Tryd.prog 12 #[snapV A1 A2 A3 n1 c1 n2 c2 n3 c3] v (ErrTo (check s) v))
    (hfa : ∀ v : World, Below w.heap.size w v → Calls Tryd.prog 13 #[snapV A1 A2 A3 n1 c1 n2 c2 n3 c3, specV A4 n4 c4 x] v (ErrTo (fair s x) v)) :
    Calls Tryd.prog 3 #[snapV A1 A2 A3 n1 c1 n2 c2 n3 c3, specV A4 n4 c4 x] w fun e w' => e = .returned (.bool true) ∧ Below w.heap.size w w' := by
  have HG := Lib.hid hg
  have HN1 := Lib.hid hn1
  have HN2 := Lib.hid hn2
  have HN3 := Lib.hid hn3
  have HN4 := Lib.hid hn4
  have HR1 := Lib.hid hr1
  have HR2 := Lib.hid hr2
  have HR3 := Lib.hid hr3
  have HR4 := Lib.hid hr4
  have HUP := Lib.hid hup
  have HCH := Lib.hid hch
  have HFA := Lib.hid hfa
  clear hg hn1 hn2 hn3 hn4 hr1 hr2 hr3 hr4 hup hch hfa
  have b00 := below_two w (.cells #[.slice A1 n1 c1, .slice A2 n2 c2, .slice A3 n3 c3] 26) (.cells #[.slice A4 n4 c4, .int .i64 x.preempts, .int .i64 x.shifts] 29)
  have HG0 := Lib.hid (HG.out.below b00 (Nat.le_refl _))
  go_enter Tryd.func3, Tryd.ntmps3
  go_wp2_with fail
  refine (HUP.out _ HG0.out).mono ?_
  rintro e w1 ⟨rfl, hb1⟩
  have k1 : Below (w.heap.size + 2) ((w.alloc (.cells #[.slice A1 n1 c1, .slice A2 n2 c2, .slice A3 n3 c3] 26)).alloc (.cells #[.slice A4 n4 c4, .int .i64 x.preempts, .int .i64 x.shifts] 29)) w1 := hb1.mono (by simp)
  obtain ⟨⟨b0, b1, b2⟩, b3, b4, b5⟩ := box2_cells k1
  have hz1 : w.heap.size + 2 ≤ w1.heap.size := by have := k1.size; simpa using this
  go_wp2_with fail
  refine (few_any _ _ _ _ _ _ _ _ _ _).mono ?_
  rintro e w2 ⟨rfl, hb2⟩
  have hfew : decide (n1 ≤ 40 ∧ n2 ≤ 40 ∧ n3 ≤ 40) = true := by simp [hl1, hl2, hl3]
  have k2 := k1.trans (hb2.mono (show w.heap.size + 2 ≤ w1.heap.size by omega))
  have hz2 : w.heap.size + 2 ≤ w2.heap.size := by have := k2.size; simpa using this
  obtain ⟨⟨d0, d1, d2⟩, d3, d4, d5⟩ := box2_cells k2
  have kw2 : Below w.heap.size w w2 := b00.trans (k2.mono (by omega))
  clear b0 b1 b2 b3 b4 b5
  go_wp2_with fail
  refine (rCheck_any s A1 A2 A3 n1 c1 n2 c2 n3 c3 w.heap.size _ HN1.out HN2.out HN3.out hl1 hl2 hl3 (by omega) (HR1.out.below kw2 (Nat.le_refl _)) (HR2.out.below kw2 (Nat.le_refl _)) (HR3.out.below kw2 (Nat.le_refl _))).mono ?_
  rintro e w3 ⟨rfl, hb3⟩
  have k3 := k2.trans (hb3.mono (show w.heap.size + 2 ≤ w2.heap.size by omega))
  have hz3 : w.heap.size + 2 ≤ w3.heap.size := by have := k3.size; simpa using this
  obtain ⟨⟨f0, f1, f2⟩, f3, f4, f5⟩ := box2_cells k3
  have kw3 : Below w.heap.size w w3 := b00.trans (k3.mono (by omega))
  clear d0 d1 d2 d3 d4 d5
  go_wp2_with fail
  refine (rFair_any s x A1 A2 A3 A4 n1 c1 n2 c2 n3 c3 n4 c4 w.heap.size _ HN1.out HN2.out HN3.out HN4.out hl1 hl2 hl3 hl4 (by omega) (HR1.out.below kw3 (Nat.le_refl _)) (HR2.out.below kw3 (Nat.le_refl _)) (HR3.out.below kw3 (Nat.le_refl _)) (HR4.out.below kw3 (Nat.le_refl _))).mono ?_
  rintro e w4 ⟨rfl, hb4⟩
  have k4 := k3.trans (hb4.mono (show w.heap.size + 2 ≤ w3.heap.size by omega))
  have hz4 : w.heap.size + 2 ≤ w4.heap.size := by have := k4.size; simpa using this
  obtain ⟨⟨g0, g1, g2⟩, g3, g4, g5⟩ := box2_cells k4
  have kw4 : Below w.heap.size w w4 := b00.trans (k4.mono (by omega))
  clear f0 f1 f2 f3 f4 f5
  go_wp2_with fail
  refine (HCH.out _ kw4).mono ?_
  rintro e w5 ⟨u, rfl, hu5, hb5⟩
  have k5 := k4.trans (hb5.mono (show w.heap.size + 2 ≤ w4.heap.size by omega))
  have hz5 : w.heap.size + 2 ≤ w5.heap.size := by have := k5.size; simpa using this
  have kw5 : Below w.heap.size w w5 := b00.trans (k5.mono (by omega))
  have HU5 := Lib.hid hu5
  clear hu5 g0 g1 g2 g3 g4 g5
  go_wp2_with fail
  refine (told_any (check s) _ u _ (HG.out.below kw5 (Nat.le_refl _)) HU5.out).mono ?_
  rintro e w6 ⟨rfl, hb6⟩
  have k6 := k5.trans (hb6.mono (show w.heap.size + 2 ≤ w5.heap.size by omega))
  have hz6 : w.heap.size + 2 ≤ w6.heap.size := by have := k6.size; simpa using this
  obtain ⟨⟨g0, g1, g2⟩, g3, g4, g5⟩ := box2_cells k6
  have kw6 : Below w.heap.size w w6 := b00.trans (k6.mono (by omega))
  go_wp2_with fail
  refine (HFA.out _ kw6).mono ?_
  rintro e w7 ⟨u7, rfl, hu7, hb7⟩
  have kw7 : Below w.heap.size w w7 := kw6.trans (hb7.mono (by omega))
  have hz7 := kw7.size
  have HU7 := Lib.hid hu7
  clear hu7 g0 g1 g2 g3 g4 g5
  go_wp2_with fail
  refine (told_any (fair s x) _ u7 _ (HG.out.below kw7 (Nat.le_refl _)) HU7.out).mono ?_
  rintro e w8 ⟨rfl, hb8⟩
  go_wp2
  go_ret
  exact ⟨rfl, kw7.trans (hb8.mono hz7)⟩
end Go.Proofs.YtaeklohgheildaaDoor
