/- The law ClusterFinds, walked. -/
import Derived.Test.YtaeklohgheildaaDoorDK
import Derived.Test.YtaeklohgheildaaDoorCI
import Derived.Test.YtaeklohgheildaaDoorES
import Derived.IntWalk
namespace Go.Proofs.YtaeklohgheildaaDoor
open Go.RowKit
set_option linter.unusedVariables false

abbrev zN0 : NodeD := ⟨0, 0, ⟨0, 0, 0, 0⟩, ⟨0, 0, 0, 0⟩⟩
abbrev zL0 : LoadD := ⟨0, false, 0, 0, 0⟩
abbrev zW0 : WantD := ⟨0, ⟨0, 0, 0, 0⟩, false⟩
def FindsRel (n : Nat) (W : World) (B : Nat) (i : Value) (wr : World) : Prop := ∃ k : Nat, k ≤ n ∧ i = .int .i64 k ∧ Below B W wr
/-- What was found, or a zero one, as one form. -/
def OneTo {α : Type} (agg : α → Value) (z : α) (f : α → Int) (l : List α) (id : Int) (w : World) (e : Ending) (w' : World) : Prop :=
  ∃ (y : α) (t : Bool), e = .returned (.tuple #[agg y, .bool t]) ∧ Below w.heap.size w w' ∧ (t = true → ∃ i, ∃ h : i < l.length, place f id l 0 = i ∧ l[i] = y) ∧ (t = false → place f id l 0 < 0 ∧ y = z)
theorem FindTo.one {α : Type} {agg : α → Value} {zero : Value} {f : α → Int} {l : List α} {id : Int} {w : World} {e : Ending} {w' : World} {z : α} (hz : zero = agg z) (h : FindTo agg zero f l id w e w') : OneTo agg z f l id w e w' := by
  obtain ⟨⟨h1, h2⟩ | ⟨i, hi, h1, h2⟩, hb⟩ := h
  · exact ⟨z, false, by rw [h2, hz], hb, (fun h => by cases h), fun _ => ⟨h1, rfl⟩⟩
  · exact ⟨l[i], true, h2, hb, fun _ => ⟨i, hi, h1, rfl⟩, (fun h => by cases h)⟩

set_option maxHeartbeats 12800000 in
set_option maxRecDepth 100000 in
theorem clusterFinds_in (s : SnapD) (x : SpecD) (A1 A2 A3 A4 : Option Addr) (n1 c1 n2 c2 n3 c3 n4 c4 : Nat) (id : Int) (w : World) (hg : Laid w) (hok : s.Ok) (hn1 : n1 = s.nodes.length) (hn2 : n2 = s.loads.length) (hn3 : n3 = s.pods.length) (hn4 : n4 = x.wants.length) (hl1 : n1 ≤ 40) (hl2 : n2 ≤ 40) (hl3 : n3 ≤ 40) (hl4 : n4 ≤ 40)
    (hr1 : Recs 10 cellsN w w.heap.size A1 s.nodes) (hr2 : Recs 5 cellsL w w.heap.size A2 s.loads) (hr3 : Recs 8 cellsP w w.heap.size A3 s.pods) (hr4 : Recs 6 cellsW w w.heap.size A4 x.wants) :
    Calls Tryd.prog 4 #[snapV A1 A2 A3 n1 c1 n2 c2 n3 c3, specV A4 n4 c4 x, .int .i64 id] w fun e w' => e = .returned (.bool true) ∧ Below w.heap.size w w' := by
  have HG := Lib.hid hg
  have HN1 := Lib.hid hn1
  have HN2 := Lib.hid hn2
  have HN4 := Lib.hid hn4
  have HR1 := Lib.hid hr1
  have HR2 := Lib.hid hr2
  have HR4 := Lib.hid hr4
  clear hg hn1 hn2 hn3 hn4 hr1 hr2 hr3 hr4 hok
  have b00 := below_two w (.cells #[.slice A1 n1 c1, .slice A2 n2 c2, .slice A3 n3 c3] 26) (.cells #[.slice A4 n4 c4, .int .i64 x.preempts, .int .i64 x.shifts] 29)
  have HG0 := Lib.hid (HG.out.below b00 (Nat.le_refl _))
  go_enter Tryd.func4, Tryd.ntmps4
  go_wp2_with fail
  refine (up_any check_holds _ HG0.out).mono ?_
  rintro e w1 ⟨rfl, hb1⟩
  have k1 : Below (w.heap.size + 2) ((w.alloc (.cells #[.slice A1 n1 c1, .slice A2 n2 c2, .slice A3 n3 c3] 26)).alloc (.cells #[.slice A4 n4 c4, .int .i64 x.preempts, .int .i64 x.shifts] 29)) w1 := hb1.mono (by simp)
  obtain ⟨⟨b0, b1, b2⟩, b3, b4, b5⟩ := box2_cells k1
  have hz1 : w.heap.size + 2 ≤ w1.heap.size := by have := k1.size; simpa using this
  go_wp2_with fail
  refine (few_any _ _ _ _ _ _ _ _ _ _).mono ?_
  rintro e w2 ⟨rfl, hb2⟩
  have hfew : decide (n1 ≤ 40 ∧ n2 ≤ 40 ∧ n3 ≤ 40) = true := by simp [hl1, hl2, hl3]
  have hd4 : decide ((40 : Int) < (n4 : Int)) = false := decide_eq_false (by omega)
  have k2 := k1.trans (hb2.mono (show w.heap.size + 2 ≤ w1.heap.size by omega))
  have hz2 : w.heap.size + 2 ≤ w2.heap.size := by have := k2.size; simpa using this
  obtain ⟨⟨d0, d1, d2⟩, d3, d4, d5⟩ := box2_cells k2
  have kw2 : Below w.heap.size w w2 := b00.trans (k2.mono (by omega))
  clear b0 b1 b2 b3 b4 b5
  have HC3 := Lib.hid ((node_any s.nodes id A1 n1 c1 (.slice A2 n2 c2) (.slice A3 n3 c3) w2 HN1.out (by omega) ((HR1.out.below kw2 (Nat.le_refl _)).more kw2.size)).mono fun e w' h => FindTo.one (z := zN0) rfl h)
  go_wp2_with fail
  refine HC3.out.mono ?_
  rintro e w3 ⟨nx, tn, rfl, hb3, hfn1, hfn2⟩
  have HFN := Lib.hid (And.intro hfn1 hfn2)
  clear hfn1 hfn2
  have k3 := (k2.trans (hb3.mono (show w.heap.size + 2 ≤ w2.heap.size by omega))).alloc (show w.heap.size + 2 ≤ w3.heap.size by have := hb3.size; omega) (.cells #[.int .i64 nx.id, .int .i64 nx.zone, .int .u64 nx.cap.a, .int .u64 nx.cap.b, .int .u64 nx.cap.c, .int .u64 nx.cap.d, .int .u64 nx.held.a, .int .u64 nx.held.b, .int .u64 nx.held.c, .int .u64 nx.held.d] 45)
  have hz3 : w.heap.size + 2 ≤ w3.heap.size := by have := hb3.size; omega
  have hz30 : w.heap.size < w3.heap.size := by omega
  have hz31 : w.heap.size + 1 < w3.heap.size := by omega
  have kw3 : Below w.heap.size w (w3.alloc (.cells #[.int .i64 nx.id, .int .i64 nx.zone, .int .u64 nx.cap.a, .int .u64 nx.cap.b, .int .u64 nx.cap.c, .int .u64 nx.cap.d, .int .u64 nx.held.a, .int .u64 nx.held.b, .int .u64 nx.held.c, .int .u64 nx.held.d] 45)) := b00.trans (k3.mono (by omega))
  obtain ⟨⟨d0, d1, d2⟩, d3, d4, d5⟩ := box2_cells (k2.trans (hb3.mono (show w.heap.size + 2 ≤ w2.heap.size by omega)))
  have HC4 := Lib.hid ((load_any s.loads id A2 n2 c2 (.slice A1 n1 c1) (.slice A3 n3 c3) (w3.alloc (.cells #[.int .i64 nx.id, .int .i64 nx.zone, .int .u64 nx.cap.a, .int .u64 nx.cap.b, .int .u64 nx.cap.c, .int .u64 nx.cap.d, .int .u64 nx.held.a, .int .u64 nx.held.b, .int .u64 nx.held.c, .int .u64 nx.held.d] 45)) HN2.out (by omega) ((HR2.out.below kw3 (Nat.le_refl _)).more kw3.size)).mono fun e w' h => FindTo.one (z := zL0) rfl h)
  go_wp2_with fail
  refine HC4.out.mono ?_
  rintro e w4 ⟨lx, tl, rfl, hb4, hfl1, hfl2⟩
  have HFL := Lib.hid (And.intro hfl1 hfl2)
  clear hfl1 hfl2
  have hz4 : w3.heap.size + 1 ≤ w4.heap.size := by have := hb4.size; simpa using this
  have hz40 : w.heap.size < w4.heap.size := by omega
  have hz41 : w.heap.size + 1 < w4.heap.size := by omega
  have k4' := k3.trans (hb4.mono (by simp; omega))
  have k4 := k4'.alloc (show w.heap.size + 2 ≤ w4.heap.size by omega) (.cells #[.int .i64 lx.id, .bool lx.apart, .int .i64 lx.skew, .int .i64 lx.min, .int .i64 lx.max] 49)
  have kw4 : Below w.heap.size w (w4.alloc (.cells #[.int .i64 lx.id, .bool lx.apart, .int .i64 lx.skew, .int .i64 lx.min, .int .i64 lx.max] 49)) := b00.trans (k4.mono (by omega))
  obtain ⟨⟨f0, f1, f2⟩, f3, f4, f5⟩ := box2_cells k4'
  clear d0 d1 d2 d3 d4 d5
  have HC5 := Lib.hid ((want_any x.wants id A4 n4 c4 (.int .i64 x.preempts) (.int .i64 x.shifts) (w4.alloc (.cells #[.int .i64 lx.id, .bool lx.apart, .int .i64 lx.skew, .int .i64 lx.min, .int .i64 lx.max] 49)) HN4.out (by omega) ((HR4.out.below kw4 (Nat.le_refl _)).more kw4.size)).mono fun e w' h => FindTo.one (z := zW0) rfl h)
  go_wp2_with fail
  refine HC5.out.mono ?_
  rintro e w5 ⟨wx, tw, rfl, hb5, hfw1, hfw2⟩
  have HFW := Lib.hid (And.intro hfw1 hfw2)
  clear hfw1 hfw2
  have hz5 : w4.heap.size + 1 ≤ w5.heap.size := by have := hb5.size; simpa using this
  have hz50 : w.heap.size < w5.heap.size := by omega
  have hz51 : w.heap.size + 1 < w5.heap.size := by omega
  have k5' := k4.trans (hb5.mono (by simp; omega))
  have k5 := k5'.alloc (show w.heap.size + 2 ≤ w5.heap.size by omega) (.cells #[.int .i64 wx.pod, .int .u64 wx.req.a, .int .u64 wx.req.b, .int .u64 wx.req.c, .int .u64 wx.req.d, .bool wx.stay] 53)
  have kw5 : Below w.heap.size w (w5.alloc (.cells #[.int .i64 wx.pod, .int .u64 wx.req.a, .int .u64 wx.req.b, .int .u64 wx.req.c, .int .u64 wx.req.d, .bool wx.stay] 53)) := b00.trans (k5.mono (by omega))
  obtain ⟨⟨g0, g1, g2⟩, g3, g4, g5⟩ := box2_cells k5'
  clear f0 f1 f2 f3 f4 f5
  have HC6 := Lib.hid (rNode_any s.nodes id A1 n1 c1 w.heap.size (.slice A2 n2 c2) (.slice A3 n3 c3) (w5.alloc (.cells #[.int .i64 wx.pod, .int .u64 wx.req.a, .int .u64 wx.req.b, .int .u64 wx.req.c, .int .u64 wx.req.d, .bool wx.stay] 53)) HN1.out (by omega) kw5.size (HR1.out.below kw5 (Nat.le_refl _)))
  go_wp2_with fail
  refine HC6.out.mono ?_
  generalize hpn : place NodeD.id id s.nodes 0 = pn at *
  rintro e w6 ⟨rfl, hb6⟩
  have HPN := Lib.hid hpn
  clear hpn
  have k6 := k5.trans (hb6.mono (by simp; omega))
  have kw6 : Below w.heap.size w w6 := b00.trans (k6.mono (by omega))
  obtain ⟨⟨f0, f1, f2⟩, f3, f4, f5⟩ := box2_cells k6
  clear g0 g1 g2 g3 g4 g5
  have HC7 := Lib.hid (rLoad_any s.loads id A2 n2 c2 w.heap.size (.slice A1 n1 c1) (.slice A3 n3 c3) w6 HN2.out (by omega) kw6.size (HR2.out.below kw6 (Nat.le_refl _)))
  go_wp2_with fail
  refine HC7.out.mono ?_
  generalize hpl : place LoadD.id id s.loads 0 = pl at *
  rintro e w7 ⟨rfl, hb7⟩
  have HPL := Lib.hid hpl
  clear hpl
  have k7 := k6.trans (hb7.mono (by have := k6.size; simpa using this))
  have kw7 : Below w.heap.size w w7 := b00.trans (k7.mono (by omega))
  obtain ⟨⟨g0, g1, g2⟩, g3, g4, g5⟩ := box2_cells k7
  clear f0 f1 f2 f3 f4 f5
  have HC8 := Lib.hid (rWant_any x.wants id A4 n4 c4 w.heap.size (.int .i64 x.preempts) (.int .i64 x.shifts) w7 HN4.out (by omega) kw7.size (HR4.out.below kw7 (Nat.le_refl _)))
  go_wp2_with fail
  refine HC8.out.mono ?_
  generalize hpw : place WantD.pod id x.wants 0 = pw at *
  rintro e w8 ⟨rfl, hb8⟩
  have HPW := Lib.hid hpw
  clear hpw
  have k8 := k7.trans (hb8.mono (by have := k7.size; simpa using this))
  have kw8 : Below w.heap.size w w8 := b00.trans (k8.mono (by omega))
  obtain ⟨⟨f0, f1, f2⟩, f3, f4, f5⟩ := box2_cells k8
  clear g0 g1 g2 g3 g4 g5
  have KW : Below (w5.alloc (.cells #[.int .i64 wx.pod, .int .u64 wx.req.a, .int .u64 wx.req.b, .int .u64 wx.req.c, .int .u64 wx.req.d, .bool wx.stay] 53)).heap.size (w5.alloc (.cells #[.int .i64 wx.pod, .int .u64 wx.req.a, .int .u64 wx.req.b, .int .u64 wx.req.c, .int .u64 wx.req.d, .bool wx.stay] 53)) w8 := (hb6.trans (hb7.mono hb6.size)).trans (hb8.mono (Nat.le_trans hb6.size hb7.size))
  have KL : Below (w4.alloc (.cells #[.int .i64 lx.id, .bool lx.apart, .int .i64 lx.skew, .int .i64 lx.min, .int .i64 lx.max] 49)).heap.size (w4.alloc (.cells #[.int .i64 lx.id, .bool lx.apart, .int .i64 lx.skew, .int .i64 lx.min, .int .i64 lx.max] 49)) w8 := (hb5.alloc hb5.size _).trans (KW.mono (by have := hb5.size; simp at this ⊢; omega))
  have KN : Below (w3.alloc (.cells #[.int .i64 nx.id, .int .i64 nx.zone, .int .u64 nx.cap.a, .int .u64 nx.cap.b, .int .u64 nx.cap.c, .int .u64 nx.cap.d, .int .u64 nx.held.a, .int .u64 nx.held.b, .int .u64 nx.held.c, .int .u64 nx.held.d] 45)).heap.size (w3.alloc (.cells #[.int .i64 nx.id, .int .i64 nx.zone, .int .u64 nx.cap.a, .int .u64 nx.cap.b, .int .u64 nx.cap.c, .int .u64 nx.cap.d, .int .u64 nx.held.a, .int .u64 nx.held.b, .int .u64 nx.held.c, .int .u64 nx.held.d] 45)) w8 := (hb4.alloc hb4.size _).trans (KL.mono (by have := hb4.size; simp at this ⊢; omega))
  have fn0 : w8.cell? ⟨w3.heap.size, 0, none⟩ = some (.int .i64 nx.id) := (KN.cell (p := ⟨w3.heap.size, 0, none⟩) (by simp)).trans (by simp)
  have fn1 : w8.cell? ⟨w3.heap.size, 1, none⟩ = some (.int .i64 nx.zone) := (KN.cell (p := ⟨w3.heap.size, 1, none⟩) (by simp)).trans (by simp)
  have fn2 : w8.cell? ⟨w3.heap.size, 2, none⟩ = some (.int .u64 nx.cap.a) := (KN.cell (p := ⟨w3.heap.size, 2, none⟩) (by simp)).trans (by simp)
  have fn3 : w8.cell? ⟨w3.heap.size, 3, none⟩ = some (.int .u64 nx.cap.b) := (KN.cell (p := ⟨w3.heap.size, 3, none⟩) (by simp)).trans (by simp)
  have fn4 : w8.cell? ⟨w3.heap.size, 4, none⟩ = some (.int .u64 nx.cap.c) := (KN.cell (p := ⟨w3.heap.size, 4, none⟩) (by simp)).trans (by simp)
  have fn5 : w8.cell? ⟨w3.heap.size, 5, none⟩ = some (.int .u64 nx.cap.d) := (KN.cell (p := ⟨w3.heap.size, 5, none⟩) (by simp)).trans (by simp)
  have fn6 : w8.cell? ⟨w3.heap.size, 6, none⟩ = some (.int .u64 nx.held.a) := (KN.cell (p := ⟨w3.heap.size, 6, none⟩) (by simp)).trans (by simp)
  have fn7 : w8.cell? ⟨w3.heap.size, 7, none⟩ = some (.int .u64 nx.held.b) := (KN.cell (p := ⟨w3.heap.size, 7, none⟩) (by simp)).trans (by simp)
  have fn8 : w8.cell? ⟨w3.heap.size, 8, none⟩ = some (.int .u64 nx.held.c) := (KN.cell (p := ⟨w3.heap.size, 8, none⟩) (by simp)).trans (by simp)
  have fn9 : w8.cell? ⟨w3.heap.size, 9, none⟩ = some (.int .u64 nx.held.d) := (KN.cell (p := ⟨w3.heap.size, 9, none⟩) (by simp)).trans (by simp)
  have fl0 : w8.cell? ⟨w4.heap.size, 0, none⟩ = some (.int .i64 lx.id) := (KL.cell (p := ⟨w4.heap.size, 0, none⟩) (by simp)).trans (by simp)
  have fl1 : w8.cell? ⟨w4.heap.size, 1, none⟩ = some (.bool lx.apart) := (KL.cell (p := ⟨w4.heap.size, 1, none⟩) (by simp)).trans (by simp)
  have fl2 : w8.cell? ⟨w4.heap.size, 2, none⟩ = some (.int .i64 lx.skew) := (KL.cell (p := ⟨w4.heap.size, 2, none⟩) (by simp)).trans (by simp)
  have fl3 : w8.cell? ⟨w4.heap.size, 3, none⟩ = some (.int .i64 lx.min) := (KL.cell (p := ⟨w4.heap.size, 3, none⟩) (by simp)).trans (by simp)
  have fl4 : w8.cell? ⟨w4.heap.size, 4, none⟩ = some (.int .i64 lx.max) := (KL.cell (p := ⟨w4.heap.size, 4, none⟩) (by simp)).trans (by simp)
  have fw0 : w8.cell? ⟨w5.heap.size, 0, none⟩ = some (.int .i64 wx.pod) := (KW.cell (p := ⟨w5.heap.size, 0, none⟩) (by simp)).trans (by simp)
  have fw1 : w8.cell? ⟨w5.heap.size, 1, none⟩ = some (.int .u64 wx.req.a) := (KW.cell (p := ⟨w5.heap.size, 1, none⟩) (by simp)).trans (by simp)
  have fw2 : w8.cell? ⟨w5.heap.size, 2, none⟩ = some (.int .u64 wx.req.b) := (KW.cell (p := ⟨w5.heap.size, 2, none⟩) (by simp)).trans (by simp)
  have fw3 : w8.cell? ⟨w5.heap.size, 3, none⟩ = some (.int .u64 wx.req.c) := (KW.cell (p := ⟨w5.heap.size, 3, none⟩) (by simp)).trans (by simp)
  have fw4 : w8.cell? ⟨w5.heap.size, 4, none⟩ = some (.int .u64 wx.req.d) := (KW.cell (p := ⟨w5.heap.size, 4, none⟩) (by simp)).trans (by simp)
  have fw5 : w8.cell? ⟨w5.heap.size, 5, none⟩ = some (.bool wx.stay) := (KW.cell (p := ⟨w5.heap.size, 5, none⟩) (by simp)).trans (by simp)
  have hz8 : w.heap.size + 2 ≤ w8.heap.size := by have := k8.size; simpa using this
  clear HC3 HC4 HC5 HC6 HC7 HC8
  cases tn with
  | true =>
    cases tl with
    | true =>
      cases tw with
      | true =>
        obtain ⟨iN, hiN, hpN, hxN⟩ := HFN.out.1 rfl
        obtain ⟨bN, oN, hAN, hbN, heN⟩ := HR1.out.at hiN
        subst hAN
        have eN0 : w8.cell? ⟨bN, oN + iN * 10, none⟩ = some (.int .i64 nx.id) := (kw8.cell (p := ⟨bN, oN + iN * 10, none⟩) hbN).trans (heN 0 _ (by rw [hxN]; rfl))
        have eN1 : w8.cell? ⟨bN, oN + iN * 10 + 1, none⟩ = some (.int .i64 nx.zone) := (kw8.cell (p := ⟨bN, oN + iN * 10 + 1, none⟩) hbN).trans (heN 1 _ (by rw [hxN]; rfl))
        have eN2 : w8.cell? ⟨bN, oN + iN * 10 + 2, none⟩ = some (.int .u64 nx.cap.a) := (kw8.cell (p := ⟨bN, oN + iN * 10 + 2, none⟩) hbN).trans (heN 2 _ (by rw [hxN]; rfl))
        have eN3 : w8.cell? ⟨bN, oN + iN * 10 + 3, none⟩ = some (.int .u64 nx.cap.b) := (kw8.cell (p := ⟨bN, oN + iN * 10 + 3, none⟩) hbN).trans (heN 3 _ (by rw [hxN]; rfl))
        have eN4 : w8.cell? ⟨bN, oN + iN * 10 + 4, none⟩ = some (.int .u64 nx.cap.c) := (kw8.cell (p := ⟨bN, oN + iN * 10 + 4, none⟩) hbN).trans (heN 4 _ (by rw [hxN]; rfl))
        have eN5 : w8.cell? ⟨bN, oN + iN * 10 + 5, none⟩ = some (.int .u64 nx.cap.d) := (kw8.cell (p := ⟨bN, oN + iN * 10 + 5, none⟩) hbN).trans (heN 5 _ (by rw [hxN]; rfl))
        have eN6 : w8.cell? ⟨bN, oN + iN * 10 + 6, none⟩ = some (.int .u64 nx.held.a) := (kw8.cell (p := ⟨bN, oN + iN * 10 + 6, none⟩) hbN).trans (heN 6 _ (by rw [hxN]; rfl))
        have eN7 : w8.cell? ⟨bN, oN + iN * 10 + 7, none⟩ = some (.int .u64 nx.held.b) := (kw8.cell (p := ⟨bN, oN + iN * 10 + 7, none⟩) hbN).trans (heN 7 _ (by rw [hxN]; rfl))
        have eN8 : w8.cell? ⟨bN, oN + iN * 10 + 8, none⟩ = some (.int .u64 nx.held.c) := (kw8.cell (p := ⟨bN, oN + iN * 10 + 8, none⟩) hbN).trans (heN 8 _ (by rw [hxN]; rfl))
        have eN9 : w8.cell? ⟨bN, oN + iN * 10 + 9, none⟩ = some (.int .u64 nx.held.d) := (kw8.cell (p := ⟨bN, oN + iN * 10 + 9, none⟩) hbN).trans (heN 9 _ (by rw [hxN]; rfl))
        have hqN : pn = (iN : Int) := by have := HPN.out; omega
        obtain rfl := hqN
        have uN0 : (0 : Int) ≤ (iN : Int) := by omega
        have uN1 : (iN : Int) < (n1 : Int) := by have := HN1.out; omega
        have uN2 : decide ((0 : Int) ≤ (iN : Int)) = true := decide_eq_true uN0
        have uN3 : ∀ v, (binOp .neq 45 (aggN nx) (aggN nx)).run Tryd.prog v = .ok (.bool false) v := fun v => node_same nx v
        clear hpN hxN heN
        obtain ⟨iL, hiL, hpL, hxL⟩ := HFL.out.1 rfl
        obtain ⟨bL, oL, hAL, hbL, heL⟩ := HR2.out.at hiL
        subst hAL
        have eL0 : w8.cell? ⟨bL, oL + iL * 5, none⟩ = some (.int .i64 lx.id) := (kw8.cell (p := ⟨bL, oL + iL * 5, none⟩) hbL).trans (heL 0 _ (by rw [hxL]; rfl))
        have eL1 : w8.cell? ⟨bL, oL + iL * 5 + 1, none⟩ = some (.bool lx.apart) := (kw8.cell (p := ⟨bL, oL + iL * 5 + 1, none⟩) hbL).trans (heL 1 _ (by rw [hxL]; rfl))
        have eL2 : w8.cell? ⟨bL, oL + iL * 5 + 2, none⟩ = some (.int .i64 lx.skew) := (kw8.cell (p := ⟨bL, oL + iL * 5 + 2, none⟩) hbL).trans (heL 2 _ (by rw [hxL]; rfl))
        have eL3 : w8.cell? ⟨bL, oL + iL * 5 + 3, none⟩ = some (.int .i64 lx.min) := (kw8.cell (p := ⟨bL, oL + iL * 5 + 3, none⟩) hbL).trans (heL 3 _ (by rw [hxL]; rfl))
        have eL4 : w8.cell? ⟨bL, oL + iL * 5 + 4, none⟩ = some (.int .i64 lx.max) := (kw8.cell (p := ⟨bL, oL + iL * 5 + 4, none⟩) hbL).trans (heL 4 _ (by rw [hxL]; rfl))
        have hqL : pl = (iL : Int) := by have := HPL.out; omega
        obtain rfl := hqL
        have uL0 : (0 : Int) ≤ (iL : Int) := by omega
        have uL1 : (iL : Int) < (n2 : Int) := by have := HN2.out; omega
        have uL2 : decide ((0 : Int) ≤ (iL : Int)) = true := decide_eq_true uL0
        have uL3 : ∀ v, (binOp .neq 49 (aggL lx) (aggL lx)).run Tryd.prog v = .ok (.bool false) v := fun v => load_same lx v
        clear hpL hxL heL
        obtain ⟨iW, hiW, hpW, hxW⟩ := HFW.out.1 rfl
        obtain ⟨bW, oW, hAW, hbW, heW⟩ := HR4.out.at hiW
        subst hAW
        have eW0 : w8.cell? ⟨bW, oW + iW * 6, none⟩ = some (.int .i64 wx.pod) := (kw8.cell (p := ⟨bW, oW + iW * 6, none⟩) hbW).trans (heW 0 _ (by rw [hxW]; rfl))
        have eW1 : w8.cell? ⟨bW, oW + iW * 6 + 1, none⟩ = some (.int .u64 wx.req.a) := (kw8.cell (p := ⟨bW, oW + iW * 6 + 1, none⟩) hbW).trans (heW 1 _ (by rw [hxW]; rfl))
        have eW2 : w8.cell? ⟨bW, oW + iW * 6 + 2, none⟩ = some (.int .u64 wx.req.b) := (kw8.cell (p := ⟨bW, oW + iW * 6 + 2, none⟩) hbW).trans (heW 2 _ (by rw [hxW]; rfl))
        have eW3 : w8.cell? ⟨bW, oW + iW * 6 + 3, none⟩ = some (.int .u64 wx.req.c) := (kw8.cell (p := ⟨bW, oW + iW * 6 + 3, none⟩) hbW).trans (heW 3 _ (by rw [hxW]; rfl))
        have eW4 : w8.cell? ⟨bW, oW + iW * 6 + 4, none⟩ = some (.int .u64 wx.req.d) := (kw8.cell (p := ⟨bW, oW + iW * 6 + 4, none⟩) hbW).trans (heW 4 _ (by rw [hxW]; rfl))
        have eW5 : w8.cell? ⟨bW, oW + iW * 6 + 5, none⟩ = some (.bool wx.stay) := (kw8.cell (p := ⟨bW, oW + iW * 6 + 5, none⟩) hbW).trans (heW 5 _ (by rw [hxW]; rfl))
        have hqW : pw = (iW : Int) := by have := HPW.out; omega
        obtain rfl := hqW
        have uW0 : (0 : Int) ≤ (iW : Int) := by omega
        have uW1 : (iW : Int) < (n4 : Int) := by have := HN4.out; omega
        have uW2 : decide ((0 : Int) ≤ (iW : Int)) = true := decide_eq_true uW0
        have uW3 : ∀ v, (binOp .neq 53 (aggW wx) (aggW wx)).run Tryd.prog v = .ok (.bool false) v := fun v => want_same wx v
        clear hpW hxW heW
        go_wp2
        go_quiet (fail)
        go_wp2_with fail
        refine (zones_any sort_own comp_own s.nodes _ n1 c1 _ _ _ HN1.out (by omega) ((HR1.out.below (below_drews kw8 _) (Nat.le_refl _)).more (below_drews kw8 _).size)).mono ?_
        rintro e w9 ⟨v, rfl, hown, hb9⟩
        have k9 := (below_drews k8 nq).trans (hb9.mono (show w.heap.size + 2 ≤ w8.heap.size by omega))
        have kw9 : Below w.heap.size w w9 := b00.trans (k9.mono (by omega))
        clear f0 f1 f2 f3 f4 f5
        obtain ⟨⟨f0, f1, f2⟩, f3, f4, f5⟩ := box2_cells k9
        obtain ⟨A, c, rfl, hnc, hq1, hq2⟩ := own_form hown
        clear hq1 hq2
        have HO9 := Lib.hid hown
        clear hown
        have HMM0 : Hid ((i64s (zonesOf s.nodes)).length = (zonesOf s.nodes).length) := List.length_map _
        have hmm : (i64s (zonesOf s.nodes)).length ≤ 40 := by
          have h1 := (zones_fold s.nodes [] trivial).2.1
          have h2 := HN1.out
          rw [HMM0.out]
          simp only [List.length_nil] at h1
          unfold zonesOf
          omega
        generalize hzz : (i64s (zonesOf s.nodes)).length = m at *
        have HZZ := Lib.hid hzz
        clear hzz
        go_wp2_with fail
        refine (rZones_any s.nodes _ n1 c1 w.heap.size _ _ _ HN1.out hl1 kw9.size (HR1.out.below kw9 (Nat.le_refl _))).mono ?_
        rintro e w10 ⟨v, rfl, hown, hb10⟩
        rw [HZZ.out] at hown
        have kw10 : Below w.heap.size w w10 := kw9.trans (hb10.mono kw9.size)
        obtain ⟨A', c', rfl, hnc', hq1, hq2⟩ := own_form hown
        clear hq1 hq2
        have HROW := Lib.hid (Row.of_own (own_below HO9.out hb10 (Nat.le_refl _))).1
        have HROW' := Lib.hid (Row.of_own hown).1
        clear hown HO9
        go_wp2
        go_loopw [20] (FindsRel m w10 w10.heap.size) (fun i _ => m - (intOf i).toNat)
        case atStart => exact ⟨0, by omega, rfl, Below.refl _ _⟩
        case round =>
          obtain ⟨k, hk, rfl, hbr⟩ := hrel
          have HBR := Lib.hid hbr
          clear hbr
          by_cases hlt : k < m
          · have hkz : k < (zonesOf s.nodes).length := by have := HMM0.out; omega
            have hkl : k < (i64s (zonesOf s.nodes)).length := by rw [List.length_map]; exact hkz
            obtain ⟨b, o, rfl, hb, hcell⟩ := HROW.out.at hkl
            obtain ⟨b', o', rfl, hb', hcell'⟩ := HROW'.out.at hkl
            have y1 : wr.cell? ⟨b, o + k, none⟩ = some (.int .i64 (zonesOf s.nodes)[k]) := by rw [HBR.out.cell (p := ⟨b, o + k, none⟩) hb, hcell k hkl]; simp
            have y2 : wr.cell? ⟨b', o' + k, none⟩ = some (.int .i64 (zonesOf s.nodes)[k]) := by rw [HBR.out.cell (p := ⟨b', o' + k, none⟩) hb', hcell' k hkl]; simp
            generalize (zonesOf s.nodes)[k] = y at *
            have hyy : (y != y) = false := by simp
            have hj0 : (0 : Int) ≤ (k : Int) := by omega
            have hj3 : (k : Int) < (m : Int) := by omega
            clear hcell hcell'
            go_wp2
            go_quiet (fail)
            go_wp2
            go_roundw
            case rel => exact ⟨k + 1, by omega, by go_num, below_drews HBR.out _⟩
            case measure => simp [intOf]; omega
          · have e1 : decide (k < m) = false := decide_eq_false hlt
            have e2 : decide ((k : Int) < (m : Int)) = false := decide_eq_false (by omega)
            go_wp2
            go_ret
            exact ⟨rfl, kw10.trans (HBR.out.mono kw10.size)⟩
      | false =>
        obtain ⟨iN, hiN, hpN, hxN⟩ := HFN.out.1 rfl
        obtain ⟨bN, oN, hAN, hbN, heN⟩ := HR1.out.at hiN
        subst hAN
        have eN0 : w8.cell? ⟨bN, oN + iN * 10, none⟩ = some (.int .i64 nx.id) := (kw8.cell (p := ⟨bN, oN + iN * 10, none⟩) hbN).trans (heN 0 _ (by rw [hxN]; rfl))
        have eN1 : w8.cell? ⟨bN, oN + iN * 10 + 1, none⟩ = some (.int .i64 nx.zone) := (kw8.cell (p := ⟨bN, oN + iN * 10 + 1, none⟩) hbN).trans (heN 1 _ (by rw [hxN]; rfl))
        have eN2 : w8.cell? ⟨bN, oN + iN * 10 + 2, none⟩ = some (.int .u64 nx.cap.a) := (kw8.cell (p := ⟨bN, oN + iN * 10 + 2, none⟩) hbN).trans (heN 2 _ (by rw [hxN]; rfl))
        have eN3 : w8.cell? ⟨bN, oN + iN * 10 + 3, none⟩ = some (.int .u64 nx.cap.b) := (kw8.cell (p := ⟨bN, oN + iN * 10 + 3, none⟩) hbN).trans (heN 3 _ (by rw [hxN]; rfl))
        have eN4 : w8.cell? ⟨bN, oN + iN * 10 + 4, none⟩ = some (.int .u64 nx.cap.c) := (kw8.cell (p := ⟨bN, oN + iN * 10 + 4, none⟩) hbN).trans (heN 4 _ (by rw [hxN]; rfl))
        have eN5 : w8.cell? ⟨bN, oN + iN * 10 + 5, none⟩ = some (.int .u64 nx.cap.d) := (kw8.cell (p := ⟨bN, oN + iN * 10 + 5, none⟩) hbN).trans (heN 5 _ (by rw [hxN]; rfl))
        have eN6 : w8.cell? ⟨bN, oN + iN * 10 + 6, none⟩ = some (.int .u64 nx.held.a) := (kw8.cell (p := ⟨bN, oN + iN * 10 + 6, none⟩) hbN).trans (heN 6 _ (by rw [hxN]; rfl))
        have eN7 : w8.cell? ⟨bN, oN + iN * 10 + 7, none⟩ = some (.int .u64 nx.held.b) := (kw8.cell (p := ⟨bN, oN + iN * 10 + 7, none⟩) hbN).trans (heN 7 _ (by rw [hxN]; rfl))
        have eN8 : w8.cell? ⟨bN, oN + iN * 10 + 8, none⟩ = some (.int .u64 nx.held.c) := (kw8.cell (p := ⟨bN, oN + iN * 10 + 8, none⟩) hbN).trans (heN 8 _ (by rw [hxN]; rfl))
        have eN9 : w8.cell? ⟨bN, oN + iN * 10 + 9, none⟩ = some (.int .u64 nx.held.d) := (kw8.cell (p := ⟨bN, oN + iN * 10 + 9, none⟩) hbN).trans (heN 9 _ (by rw [hxN]; rfl))
        have hqN : pn = (iN : Int) := by have := HPN.out; omega
        obtain rfl := hqN
        have uN0 : (0 : Int) ≤ (iN : Int) := by omega
        have uN1 : (iN : Int) < (n1 : Int) := by have := HN1.out; omega
        have uN2 : decide ((0 : Int) ≤ (iN : Int)) = true := decide_eq_true uN0
        have uN3 : ∀ v, (binOp .neq 45 (aggN nx) (aggN nx)).run Tryd.prog v = .ok (.bool false) v := fun v => node_same nx v
        clear hpN hxN heN
        obtain ⟨iL, hiL, hpL, hxL⟩ := HFL.out.1 rfl
        obtain ⟨bL, oL, hAL, hbL, heL⟩ := HR2.out.at hiL
        subst hAL
        have eL0 : w8.cell? ⟨bL, oL + iL * 5, none⟩ = some (.int .i64 lx.id) := (kw8.cell (p := ⟨bL, oL + iL * 5, none⟩) hbL).trans (heL 0 _ (by rw [hxL]; rfl))
        have eL1 : w8.cell? ⟨bL, oL + iL * 5 + 1, none⟩ = some (.bool lx.apart) := (kw8.cell (p := ⟨bL, oL + iL * 5 + 1, none⟩) hbL).trans (heL 1 _ (by rw [hxL]; rfl))
        have eL2 : w8.cell? ⟨bL, oL + iL * 5 + 2, none⟩ = some (.int .i64 lx.skew) := (kw8.cell (p := ⟨bL, oL + iL * 5 + 2, none⟩) hbL).trans (heL 2 _ (by rw [hxL]; rfl))
        have eL3 : w8.cell? ⟨bL, oL + iL * 5 + 3, none⟩ = some (.int .i64 lx.min) := (kw8.cell (p := ⟨bL, oL + iL * 5 + 3, none⟩) hbL).trans (heL 3 _ (by rw [hxL]; rfl))
        have eL4 : w8.cell? ⟨bL, oL + iL * 5 + 4, none⟩ = some (.int .i64 lx.max) := (kw8.cell (p := ⟨bL, oL + iL * 5 + 4, none⟩) hbL).trans (heL 4 _ (by rw [hxL]; rfl))
        have hqL : pl = (iL : Int) := by have := HPL.out; omega
        obtain rfl := hqL
        have uL0 : (0 : Int) ≤ (iL : Int) := by omega
        have uL1 : (iL : Int) < (n2 : Int) := by have := HN2.out; omega
        have uL2 : decide ((0 : Int) ≤ (iL : Int)) = true := decide_eq_true uL0
        have uL3 : ∀ v, (binOp .neq 49 (aggL lx) (aggL lx)).run Tryd.prog v = .ok (.bool false) v := fun v => load_same lx v
        clear hpL hxL heL
        obtain ⟨hpW, hxW⟩ := HFW.out.2 rfl
        subst hxW
        have uW0 : pw < 0 := by have := HPW.out; omega
        have uW2 : decide ((0 : Int) ≤ pw) = false := decide_eq_false (by omega)
        have uW3 : ∀ v, (binOp .neq 53 zeroW zeroW).run Tryd.prog v = .ok (.bool false) v := fun v => want_same zW0 v
        clear hpW
        go_wp2
        go_quiet (fail)
        go_wp2_with fail
        refine (zones_any sort_own comp_own s.nodes _ n1 c1 _ _ _ HN1.out (by omega) ((HR1.out.below (below_drews kw8 _) (Nat.le_refl _)).more (below_drews kw8 _).size)).mono ?_
        rintro e w9 ⟨v, rfl, hown, hb9⟩
        have k9 := (below_drews k8 nq).trans (hb9.mono (show w.heap.size + 2 ≤ w8.heap.size by omega))
        have kw9 : Below w.heap.size w w9 := b00.trans (k9.mono (by omega))
        clear f0 f1 f2 f3 f4 f5
        obtain ⟨⟨f0, f1, f2⟩, f3, f4, f5⟩ := box2_cells k9
        obtain ⟨A, c, rfl, hnc, hq1, hq2⟩ := own_form hown
        clear hq1 hq2
        have HO9 := Lib.hid hown
        clear hown
        have HMM0 : Hid ((i64s (zonesOf s.nodes)).length = (zonesOf s.nodes).length) := List.length_map _
        have hmm : (i64s (zonesOf s.nodes)).length ≤ 40 := by
          have h1 := (zones_fold s.nodes [] trivial).2.1
          have h2 := HN1.out
          rw [HMM0.out]
          simp only [List.length_nil] at h1
          unfold zonesOf
          omega
        generalize hzz : (i64s (zonesOf s.nodes)).length = m at *
        have HZZ := Lib.hid hzz
        clear hzz
        go_wp2_with fail
        refine (rZones_any s.nodes _ n1 c1 w.heap.size _ _ _ HN1.out hl1 kw9.size (HR1.out.below kw9 (Nat.le_refl _))).mono ?_
        rintro e w10 ⟨v, rfl, hown, hb10⟩
        rw [HZZ.out] at hown
        have kw10 : Below w.heap.size w w10 := kw9.trans (hb10.mono kw9.size)
        obtain ⟨A', c', rfl, hnc', hq1, hq2⟩ := own_form hown
        clear hq1 hq2
        have HROW := Lib.hid (Row.of_own (own_below HO9.out hb10 (Nat.le_refl _))).1
        have HROW' := Lib.hid (Row.of_own hown).1
        clear hown HO9
        go_wp2
        go_loopw [20] (FindsRel m w10 w10.heap.size) (fun i _ => m - (intOf i).toNat)
        case atStart => exact ⟨0, by omega, rfl, Below.refl _ _⟩
        case round =>
          obtain ⟨k, hk, rfl, hbr⟩ := hrel
          have HBR := Lib.hid hbr
          clear hbr
          by_cases hlt : k < m
          · have hkz : k < (zonesOf s.nodes).length := by have := HMM0.out; omega
            have hkl : k < (i64s (zonesOf s.nodes)).length := by rw [List.length_map]; exact hkz
            obtain ⟨b, o, rfl, hb, hcell⟩ := HROW.out.at hkl
            obtain ⟨b', o', rfl, hb', hcell'⟩ := HROW'.out.at hkl
            have y1 : wr.cell? ⟨b, o + k, none⟩ = some (.int .i64 (zonesOf s.nodes)[k]) := by rw [HBR.out.cell (p := ⟨b, o + k, none⟩) hb, hcell k hkl]; simp
            have y2 : wr.cell? ⟨b', o' + k, none⟩ = some (.int .i64 (zonesOf s.nodes)[k]) := by rw [HBR.out.cell (p := ⟨b', o' + k, none⟩) hb', hcell' k hkl]; simp
            generalize (zonesOf s.nodes)[k] = y at *
            have hyy : (y != y) = false := by simp
            have hj0 : (0 : Int) ≤ (k : Int) := by omega
            have hj3 : (k : Int) < (m : Int) := by omega
            clear hcell hcell'
            go_wp2
            go_quiet (fail)
            go_wp2
            go_roundw
            case rel => exact ⟨k + 1, by omega, by go_num, below_drews HBR.out _⟩
            case measure => simp [intOf]; omega
          · have e1 : decide (k < m) = false := decide_eq_false hlt
            have e2 : decide ((k : Int) < (m : Int)) = false := decide_eq_false (by omega)
            go_wp2
            go_ret
            exact ⟨rfl, kw10.trans (HBR.out.mono kw10.size)⟩
    | false =>
      cases tw with
      | true =>
        obtain ⟨iN, hiN, hpN, hxN⟩ := HFN.out.1 rfl
        obtain ⟨bN, oN, hAN, hbN, heN⟩ := HR1.out.at hiN
        subst hAN
        have eN0 : w8.cell? ⟨bN, oN + iN * 10, none⟩ = some (.int .i64 nx.id) := (kw8.cell (p := ⟨bN, oN + iN * 10, none⟩) hbN).trans (heN 0 _ (by rw [hxN]; rfl))
        have eN1 : w8.cell? ⟨bN, oN + iN * 10 + 1, none⟩ = some (.int .i64 nx.zone) := (kw8.cell (p := ⟨bN, oN + iN * 10 + 1, none⟩) hbN).trans (heN 1 _ (by rw [hxN]; rfl))
        have eN2 : w8.cell? ⟨bN, oN + iN * 10 + 2, none⟩ = some (.int .u64 nx.cap.a) := (kw8.cell (p := ⟨bN, oN + iN * 10 + 2, none⟩) hbN).trans (heN 2 _ (by rw [hxN]; rfl))
        have eN3 : w8.cell? ⟨bN, oN + iN * 10 + 3, none⟩ = some (.int .u64 nx.cap.b) := (kw8.cell (p := ⟨bN, oN + iN * 10 + 3, none⟩) hbN).trans (heN 3 _ (by rw [hxN]; rfl))
        have eN4 : w8.cell? ⟨bN, oN + iN * 10 + 4, none⟩ = some (.int .u64 nx.cap.c) := (kw8.cell (p := ⟨bN, oN + iN * 10 + 4, none⟩) hbN).trans (heN 4 _ (by rw [hxN]; rfl))
        have eN5 : w8.cell? ⟨bN, oN + iN * 10 + 5, none⟩ = some (.int .u64 nx.cap.d) := (kw8.cell (p := ⟨bN, oN + iN * 10 + 5, none⟩) hbN).trans (heN 5 _ (by rw [hxN]; rfl))
        have eN6 : w8.cell? ⟨bN, oN + iN * 10 + 6, none⟩ = some (.int .u64 nx.held.a) := (kw8.cell (p := ⟨bN, oN + iN * 10 + 6, none⟩) hbN).trans (heN 6 _ (by rw [hxN]; rfl))
        have eN7 : w8.cell? ⟨bN, oN + iN * 10 + 7, none⟩ = some (.int .u64 nx.held.b) := (kw8.cell (p := ⟨bN, oN + iN * 10 + 7, none⟩) hbN).trans (heN 7 _ (by rw [hxN]; rfl))
        have eN8 : w8.cell? ⟨bN, oN + iN * 10 + 8, none⟩ = some (.int .u64 nx.held.c) := (kw8.cell (p := ⟨bN, oN + iN * 10 + 8, none⟩) hbN).trans (heN 8 _ (by rw [hxN]; rfl))
        have eN9 : w8.cell? ⟨bN, oN + iN * 10 + 9, none⟩ = some (.int .u64 nx.held.d) := (kw8.cell (p := ⟨bN, oN + iN * 10 + 9, none⟩) hbN).trans (heN 9 _ (by rw [hxN]; rfl))
        have hqN : pn = (iN : Int) := by have := HPN.out; omega
        obtain rfl := hqN
        have uN0 : (0 : Int) ≤ (iN : Int) := by omega
        have uN1 : (iN : Int) < (n1 : Int) := by have := HN1.out; omega
        have uN2 : decide ((0 : Int) ≤ (iN : Int)) = true := decide_eq_true uN0
        have uN3 : ∀ v, (binOp .neq 45 (aggN nx) (aggN nx)).run Tryd.prog v = .ok (.bool false) v := fun v => node_same nx v
        clear hpN hxN heN
        obtain ⟨hpL, hxL⟩ := HFL.out.2 rfl
        subst hxL
        have uL0 : pl < 0 := by have := HPL.out; omega
        have uL2 : decide ((0 : Int) ≤ pl) = false := decide_eq_false (by omega)
        have uL3 : ∀ v, (binOp .neq 49 zeroL zeroL).run Tryd.prog v = .ok (.bool false) v := fun v => load_same zL0 v
        clear hpL
        obtain ⟨iW, hiW, hpW, hxW⟩ := HFW.out.1 rfl
        obtain ⟨bW, oW, hAW, hbW, heW⟩ := HR4.out.at hiW
        subst hAW
        have eW0 : w8.cell? ⟨bW, oW + iW * 6, none⟩ = some (.int .i64 wx.pod) := (kw8.cell (p := ⟨bW, oW + iW * 6, none⟩) hbW).trans (heW 0 _ (by rw [hxW]; rfl))
        have eW1 : w8.cell? ⟨bW, oW + iW * 6 + 1, none⟩ = some (.int .u64 wx.req.a) := (kw8.cell (p := ⟨bW, oW + iW * 6 + 1, none⟩) hbW).trans (heW 1 _ (by rw [hxW]; rfl))
        have eW2 : w8.cell? ⟨bW, oW + iW * 6 + 2, none⟩ = some (.int .u64 wx.req.b) := (kw8.cell (p := ⟨bW, oW + iW * 6 + 2, none⟩) hbW).trans (heW 2 _ (by rw [hxW]; rfl))
        have eW3 : w8.cell? ⟨bW, oW + iW * 6 + 3, none⟩ = some (.int .u64 wx.req.c) := (kw8.cell (p := ⟨bW, oW + iW * 6 + 3, none⟩) hbW).trans (heW 3 _ (by rw [hxW]; rfl))
        have eW4 : w8.cell? ⟨bW, oW + iW * 6 + 4, none⟩ = some (.int .u64 wx.req.d) := (kw8.cell (p := ⟨bW, oW + iW * 6 + 4, none⟩) hbW).trans (heW 4 _ (by rw [hxW]; rfl))
        have eW5 : w8.cell? ⟨bW, oW + iW * 6 + 5, none⟩ = some (.bool wx.stay) := (kw8.cell (p := ⟨bW, oW + iW * 6 + 5, none⟩) hbW).trans (heW 5 _ (by rw [hxW]; rfl))
        have hqW : pw = (iW : Int) := by have := HPW.out; omega
        obtain rfl := hqW
        have uW0 : (0 : Int) ≤ (iW : Int) := by omega
        have uW1 : (iW : Int) < (n4 : Int) := by have := HN4.out; omega
        have uW2 : decide ((0 : Int) ≤ (iW : Int)) = true := decide_eq_true uW0
        have uW3 : ∀ v, (binOp .neq 53 (aggW wx) (aggW wx)).run Tryd.prog v = .ok (.bool false) v := fun v => want_same wx v
        clear hpW hxW heW
        go_wp2
        go_quiet (fail)
        go_wp2_with fail
        refine (zones_any sort_own comp_own s.nodes _ n1 c1 _ _ _ HN1.out (by omega) ((HR1.out.below (below_drews kw8 _) (Nat.le_refl _)).more (below_drews kw8 _).size)).mono ?_
        rintro e w9 ⟨v, rfl, hown, hb9⟩
        have k9 := (below_drews k8 nq).trans (hb9.mono (show w.heap.size + 2 ≤ w8.heap.size by omega))
        have kw9 : Below w.heap.size w w9 := b00.trans (k9.mono (by omega))
        clear f0 f1 f2 f3 f4 f5
        obtain ⟨⟨f0, f1, f2⟩, f3, f4, f5⟩ := box2_cells k9
        obtain ⟨A, c, rfl, hnc, hq1, hq2⟩ := own_form hown
        clear hq1 hq2
        have HO9 := Lib.hid hown
        clear hown
        have HMM0 : Hid ((i64s (zonesOf s.nodes)).length = (zonesOf s.nodes).length) := List.length_map _
        have hmm : (i64s (zonesOf s.nodes)).length ≤ 40 := by
          have h1 := (zones_fold s.nodes [] trivial).2.1
          have h2 := HN1.out
          rw [HMM0.out]
          simp only [List.length_nil] at h1
          unfold zonesOf
          omega
        generalize hzz : (i64s (zonesOf s.nodes)).length = m at *
        have HZZ := Lib.hid hzz
        clear hzz
        go_wp2_with fail
        refine (rZones_any s.nodes _ n1 c1 w.heap.size _ _ _ HN1.out hl1 kw9.size (HR1.out.below kw9 (Nat.le_refl _))).mono ?_
        rintro e w10 ⟨v, rfl, hown, hb10⟩
        rw [HZZ.out] at hown
        have kw10 : Below w.heap.size w w10 := kw9.trans (hb10.mono kw9.size)
        obtain ⟨A', c', rfl, hnc', hq1, hq2⟩ := own_form hown
        clear hq1 hq2
        have HROW := Lib.hid (Row.of_own (own_below HO9.out hb10 (Nat.le_refl _))).1
        have HROW' := Lib.hid (Row.of_own hown).1
        clear hown HO9
        go_wp2
        go_loopw [20] (FindsRel m w10 w10.heap.size) (fun i _ => m - (intOf i).toNat)
        case atStart => exact ⟨0, by omega, rfl, Below.refl _ _⟩
        case round =>
          obtain ⟨k, hk, rfl, hbr⟩ := hrel
          have HBR := Lib.hid hbr
          clear hbr
          by_cases hlt : k < m
          · have hkz : k < (zonesOf s.nodes).length := by have := HMM0.out; omega
            have hkl : k < (i64s (zonesOf s.nodes)).length := by rw [List.length_map]; exact hkz
            obtain ⟨b, o, rfl, hb, hcell⟩ := HROW.out.at hkl
            obtain ⟨b', o', rfl, hb', hcell'⟩ := HROW'.out.at hkl
            have y1 : wr.cell? ⟨b, o + k, none⟩ = some (.int .i64 (zonesOf s.nodes)[k]) := by rw [HBR.out.cell (p := ⟨b, o + k, none⟩) hb, hcell k hkl]; simp
            have y2 : wr.cell? ⟨b', o' + k, none⟩ = some (.int .i64 (zonesOf s.nodes)[k]) := by rw [HBR.out.cell (p := ⟨b', o' + k, none⟩) hb', hcell' k hkl]; simp
            generalize (zonesOf s.nodes)[k] = y at *
            have hyy : (y != y) = false := by simp
            have hj0 : (0 : Int) ≤ (k : Int) := by omega
            have hj3 : (k : Int) < (m : Int) := by omega
            clear hcell hcell'
            go_wp2
            go_quiet (fail)
            go_wp2
            go_roundw
            case rel => exact ⟨k + 1, by omega, by go_num, below_drews HBR.out _⟩
            case measure => simp [intOf]; omega
          · have e1 : decide (k < m) = false := decide_eq_false hlt
            have e2 : decide ((k : Int) < (m : Int)) = false := decide_eq_false (by omega)
            go_wp2
            go_ret
            exact ⟨rfl, kw10.trans (HBR.out.mono kw10.size)⟩
      | false =>
        obtain ⟨iN, hiN, hpN, hxN⟩ := HFN.out.1 rfl
        obtain ⟨bN, oN, hAN, hbN, heN⟩ := HR1.out.at hiN
        subst hAN
        have eN0 : w8.cell? ⟨bN, oN + iN * 10, none⟩ = some (.int .i64 nx.id) := (kw8.cell (p := ⟨bN, oN + iN * 10, none⟩) hbN).trans (heN 0 _ (by rw [hxN]; rfl))
        have eN1 : w8.cell? ⟨bN, oN + iN * 10 + 1, none⟩ = some (.int .i64 nx.zone) := (kw8.cell (p := ⟨bN, oN + iN * 10 + 1, none⟩) hbN).trans (heN 1 _ (by rw [hxN]; rfl))
        have eN2 : w8.cell? ⟨bN, oN + iN * 10 + 2, none⟩ = some (.int .u64 nx.cap.a) := (kw8.cell (p := ⟨bN, oN + iN * 10 + 2, none⟩) hbN).trans (heN 2 _ (by rw [hxN]; rfl))
        have eN3 : w8.cell? ⟨bN, oN + iN * 10 + 3, none⟩ = some (.int .u64 nx.cap.b) := (kw8.cell (p := ⟨bN, oN + iN * 10 + 3, none⟩) hbN).trans (heN 3 _ (by rw [hxN]; rfl))
        have eN4 : w8.cell? ⟨bN, oN + iN * 10 + 4, none⟩ = some (.int .u64 nx.cap.c) := (kw8.cell (p := ⟨bN, oN + iN * 10 + 4, none⟩) hbN).trans (heN 4 _ (by rw [hxN]; rfl))
        have eN5 : w8.cell? ⟨bN, oN + iN * 10 + 5, none⟩ = some (.int .u64 nx.cap.d) := (kw8.cell (p := ⟨bN, oN + iN * 10 + 5, none⟩) hbN).trans (heN 5 _ (by rw [hxN]; rfl))
        have eN6 : w8.cell? ⟨bN, oN + iN * 10 + 6, none⟩ = some (.int .u64 nx.held.a) := (kw8.cell (p := ⟨bN, oN + iN * 10 + 6, none⟩) hbN).trans (heN 6 _ (by rw [hxN]; rfl))
        have eN7 : w8.cell? ⟨bN, oN + iN * 10 + 7, none⟩ = some (.int .u64 nx.held.b) := (kw8.cell (p := ⟨bN, oN + iN * 10 + 7, none⟩) hbN).trans (heN 7 _ (by rw [hxN]; rfl))
        have eN8 : w8.cell? ⟨bN, oN + iN * 10 + 8, none⟩ = some (.int .u64 nx.held.c) := (kw8.cell (p := ⟨bN, oN + iN * 10 + 8, none⟩) hbN).trans (heN 8 _ (by rw [hxN]; rfl))
        have eN9 : w8.cell? ⟨bN, oN + iN * 10 + 9, none⟩ = some (.int .u64 nx.held.d) := (kw8.cell (p := ⟨bN, oN + iN * 10 + 9, none⟩) hbN).trans (heN 9 _ (by rw [hxN]; rfl))
        have hqN : pn = (iN : Int) := by have := HPN.out; omega
        obtain rfl := hqN
        have uN0 : (0 : Int) ≤ (iN : Int) := by omega
        have uN1 : (iN : Int) < (n1 : Int) := by have := HN1.out; omega
        have uN2 : decide ((0 : Int) ≤ (iN : Int)) = true := decide_eq_true uN0
        have uN3 : ∀ v, (binOp .neq 45 (aggN nx) (aggN nx)).run Tryd.prog v = .ok (.bool false) v := fun v => node_same nx v
        clear hpN hxN heN
        obtain ⟨hpL, hxL⟩ := HFL.out.2 rfl
        subst hxL
        have uL0 : pl < 0 := by have := HPL.out; omega
        have uL2 : decide ((0 : Int) ≤ pl) = false := decide_eq_false (by omega)
        have uL3 : ∀ v, (binOp .neq 49 zeroL zeroL).run Tryd.prog v = .ok (.bool false) v := fun v => load_same zL0 v
        clear hpL
        obtain ⟨hpW, hxW⟩ := HFW.out.2 rfl
        subst hxW
        have uW0 : pw < 0 := by have := HPW.out; omega
        have uW2 : decide ((0 : Int) ≤ pw) = false := decide_eq_false (by omega)
        have uW3 : ∀ v, (binOp .neq 53 zeroW zeroW).run Tryd.prog v = .ok (.bool false) v := fun v => want_same zW0 v
        clear hpW
        go_wp2
        go_quiet (fail)
        go_wp2_with fail
        refine (zones_any sort_own comp_own s.nodes _ n1 c1 _ _ _ HN1.out (by omega) ((HR1.out.below (below_drews kw8 _) (Nat.le_refl _)).more (below_drews kw8 _).size)).mono ?_
        rintro e w9 ⟨v, rfl, hown, hb9⟩
        have k9 := (below_drews k8 nq).trans (hb9.mono (show w.heap.size + 2 ≤ w8.heap.size by omega))
        have kw9 : Below w.heap.size w w9 := b00.trans (k9.mono (by omega))
        clear f0 f1 f2 f3 f4 f5
        obtain ⟨⟨f0, f1, f2⟩, f3, f4, f5⟩ := box2_cells k9
        obtain ⟨A, c, rfl, hnc, hq1, hq2⟩ := own_form hown
        clear hq1 hq2
        have HO9 := Lib.hid hown
        clear hown
        have HMM0 : Hid ((i64s (zonesOf s.nodes)).length = (zonesOf s.nodes).length) := List.length_map _
        have hmm : (i64s (zonesOf s.nodes)).length ≤ 40 := by
          have h1 := (zones_fold s.nodes [] trivial).2.1
          have h2 := HN1.out
          rw [HMM0.out]
          simp only [List.length_nil] at h1
          unfold zonesOf
          omega
        generalize hzz : (i64s (zonesOf s.nodes)).length = m at *
        have HZZ := Lib.hid hzz
        clear hzz
        go_wp2_with fail
        refine (rZones_any s.nodes _ n1 c1 w.heap.size _ _ _ HN1.out hl1 kw9.size (HR1.out.below kw9 (Nat.le_refl _))).mono ?_
        rintro e w10 ⟨v, rfl, hown, hb10⟩
        rw [HZZ.out] at hown
        have kw10 : Below w.heap.size w w10 := kw9.trans (hb10.mono kw9.size)
        obtain ⟨A', c', rfl, hnc', hq1, hq2⟩ := own_form hown
        clear hq1 hq2
        have HROW := Lib.hid (Row.of_own (own_below HO9.out hb10 (Nat.le_refl _))).1
        have HROW' := Lib.hid (Row.of_own hown).1
        clear hown HO9
        go_wp2
        go_loopw [20] (FindsRel m w10 w10.heap.size) (fun i _ => m - (intOf i).toNat)
        case atStart => exact ⟨0, by omega, rfl, Below.refl _ _⟩
        case round =>
          obtain ⟨k, hk, rfl, hbr⟩ := hrel
          have HBR := Lib.hid hbr
          clear hbr
          by_cases hlt : k < m
          · have hkz : k < (zonesOf s.nodes).length := by have := HMM0.out; omega
            have hkl : k < (i64s (zonesOf s.nodes)).length := by rw [List.length_map]; exact hkz
            obtain ⟨b, o, rfl, hb, hcell⟩ := HROW.out.at hkl
            obtain ⟨b', o', rfl, hb', hcell'⟩ := HROW'.out.at hkl
            have y1 : wr.cell? ⟨b, o + k, none⟩ = some (.int .i64 (zonesOf s.nodes)[k]) := by rw [HBR.out.cell (p := ⟨b, o + k, none⟩) hb, hcell k hkl]; simp
            have y2 : wr.cell? ⟨b', o' + k, none⟩ = some (.int .i64 (zonesOf s.nodes)[k]) := by rw [HBR.out.cell (p := ⟨b', o' + k, none⟩) hb', hcell' k hkl]; simp
            generalize (zonesOf s.nodes)[k] = y at *
            have hyy : (y != y) = false := by simp
            have hj0 : (0 : Int) ≤ (k : Int) := by omega
            have hj3 : (k : Int) < (m : Int) := by omega
            clear hcell hcell'
            go_wp2
            go_quiet (fail)
            go_wp2
            go_roundw
            case rel => exact ⟨k + 1, by omega, by go_num, below_drews HBR.out _⟩
            case measure => simp [intOf]; omega
          · have e1 : decide (k < m) = false := decide_eq_false hlt
            have e2 : decide ((k : Int) < (m : Int)) = false := decide_eq_false (by omega)
            go_wp2
            go_ret
            exact ⟨rfl, kw10.trans (HBR.out.mono kw10.size)⟩
  | false =>
    cases tl with
    | true =>
      cases tw with
      | true =>
        obtain ⟨hpN, hxN⟩ := HFN.out.2 rfl
        subst hxN
        have uN0 : pn < 0 := by have := HPN.out; omega
        have uN2 : decide ((0 : Int) ≤ pn) = false := decide_eq_false (by omega)
        have uN3 : ∀ v, (binOp .neq 45 zeroN zeroN).run Tryd.prog v = .ok (.bool false) v := fun v => node_same zN0 v
        clear hpN
        obtain ⟨iL, hiL, hpL, hxL⟩ := HFL.out.1 rfl
        obtain ⟨bL, oL, hAL, hbL, heL⟩ := HR2.out.at hiL
        subst hAL
        have eL0 : w8.cell? ⟨bL, oL + iL * 5, none⟩ = some (.int .i64 lx.id) := (kw8.cell (p := ⟨bL, oL + iL * 5, none⟩) hbL).trans (heL 0 _ (by rw [hxL]; rfl))
        have eL1 : w8.cell? ⟨bL, oL + iL * 5 + 1, none⟩ = some (.bool lx.apart) := (kw8.cell (p := ⟨bL, oL + iL * 5 + 1, none⟩) hbL).trans (heL 1 _ (by rw [hxL]; rfl))
        have eL2 : w8.cell? ⟨bL, oL + iL * 5 + 2, none⟩ = some (.int .i64 lx.skew) := (kw8.cell (p := ⟨bL, oL + iL * 5 + 2, none⟩) hbL).trans (heL 2 _ (by rw [hxL]; rfl))
        have eL3 : w8.cell? ⟨bL, oL + iL * 5 + 3, none⟩ = some (.int .i64 lx.min) := (kw8.cell (p := ⟨bL, oL + iL * 5 + 3, none⟩) hbL).trans (heL 3 _ (by rw [hxL]; rfl))
        have eL4 : w8.cell? ⟨bL, oL + iL * 5 + 4, none⟩ = some (.int .i64 lx.max) := (kw8.cell (p := ⟨bL, oL + iL * 5 + 4, none⟩) hbL).trans (heL 4 _ (by rw [hxL]; rfl))
        have hqL : pl = (iL : Int) := by have := HPL.out; omega
        obtain rfl := hqL
        have uL0 : (0 : Int) ≤ (iL : Int) := by omega
        have uL1 : (iL : Int) < (n2 : Int) := by have := HN2.out; omega
        have uL2 : decide ((0 : Int) ≤ (iL : Int)) = true := decide_eq_true uL0
        have uL3 : ∀ v, (binOp .neq 49 (aggL lx) (aggL lx)).run Tryd.prog v = .ok (.bool false) v := fun v => load_same lx v
        clear hpL hxL heL
        obtain ⟨iW, hiW, hpW, hxW⟩ := HFW.out.1 rfl
        obtain ⟨bW, oW, hAW, hbW, heW⟩ := HR4.out.at hiW
        subst hAW
        have eW0 : w8.cell? ⟨bW, oW + iW * 6, none⟩ = some (.int .i64 wx.pod) := (kw8.cell (p := ⟨bW, oW + iW * 6, none⟩) hbW).trans (heW 0 _ (by rw [hxW]; rfl))
        have eW1 : w8.cell? ⟨bW, oW + iW * 6 + 1, none⟩ = some (.int .u64 wx.req.a) := (kw8.cell (p := ⟨bW, oW + iW * 6 + 1, none⟩) hbW).trans (heW 1 _ (by rw [hxW]; rfl))
        have eW2 : w8.cell? ⟨bW, oW + iW * 6 + 2, none⟩ = some (.int .u64 wx.req.b) := (kw8.cell (p := ⟨bW, oW + iW * 6 + 2, none⟩) hbW).trans (heW 2 _ (by rw [hxW]; rfl))
        have eW3 : w8.cell? ⟨bW, oW + iW * 6 + 3, none⟩ = some (.int .u64 wx.req.c) := (kw8.cell (p := ⟨bW, oW + iW * 6 + 3, none⟩) hbW).trans (heW 3 _ (by rw [hxW]; rfl))
        have eW4 : w8.cell? ⟨bW, oW + iW * 6 + 4, none⟩ = some (.int .u64 wx.req.d) := (kw8.cell (p := ⟨bW, oW + iW * 6 + 4, none⟩) hbW).trans (heW 4 _ (by rw [hxW]; rfl))
        have eW5 : w8.cell? ⟨bW, oW + iW * 6 + 5, none⟩ = some (.bool wx.stay) := (kw8.cell (p := ⟨bW, oW + iW * 6 + 5, none⟩) hbW).trans (heW 5 _ (by rw [hxW]; rfl))
        have hqW : pw = (iW : Int) := by have := HPW.out; omega
        obtain rfl := hqW
        have uW0 : (0 : Int) ≤ (iW : Int) := by omega
        have uW1 : (iW : Int) < (n4 : Int) := by have := HN4.out; omega
        have uW2 : decide ((0 : Int) ≤ (iW : Int)) = true := decide_eq_true uW0
        have uW3 : ∀ v, (binOp .neq 53 (aggW wx) (aggW wx)).run Tryd.prog v = .ok (.bool false) v := fun v => want_same wx v
        clear hpW hxW heW
        go_wp2
        go_quiet (fail)
        go_wp2_with fail
        refine (zones_any sort_own comp_own s.nodes _ n1 c1 _ _ _ HN1.out (by omega) ((HR1.out.below (below_drews kw8 _) (Nat.le_refl _)).more (below_drews kw8 _).size)).mono ?_
        rintro e w9 ⟨v, rfl, hown, hb9⟩
        have k9 := (below_drews k8 nq).trans (hb9.mono (show w.heap.size + 2 ≤ w8.heap.size by omega))
        have kw9 : Below w.heap.size w w9 := b00.trans (k9.mono (by omega))
        clear f0 f1 f2 f3 f4 f5
        obtain ⟨⟨f0, f1, f2⟩, f3, f4, f5⟩ := box2_cells k9
        obtain ⟨A, c, rfl, hnc, hq1, hq2⟩ := own_form hown
        clear hq1 hq2
        have HO9 := Lib.hid hown
        clear hown
        have HMM0 : Hid ((i64s (zonesOf s.nodes)).length = (zonesOf s.nodes).length) := List.length_map _
        have hmm : (i64s (zonesOf s.nodes)).length ≤ 40 := by
          have h1 := (zones_fold s.nodes [] trivial).2.1
          have h2 := HN1.out
          rw [HMM0.out]
          simp only [List.length_nil] at h1
          unfold zonesOf
          omega
        generalize hzz : (i64s (zonesOf s.nodes)).length = m at *
        have HZZ := Lib.hid hzz
        clear hzz
        go_wp2_with fail
        refine (rZones_any s.nodes _ n1 c1 w.heap.size _ _ _ HN1.out hl1 kw9.size (HR1.out.below kw9 (Nat.le_refl _))).mono ?_
        rintro e w10 ⟨v, rfl, hown, hb10⟩
        rw [HZZ.out] at hown
        have kw10 : Below w.heap.size w w10 := kw9.trans (hb10.mono kw9.size)
        obtain ⟨A', c', rfl, hnc', hq1, hq2⟩ := own_form hown
        clear hq1 hq2
        have HROW := Lib.hid (Row.of_own (own_below HO9.out hb10 (Nat.le_refl _))).1
        have HROW' := Lib.hid (Row.of_own hown).1
        clear hown HO9
        go_wp2
        go_loopw [20] (FindsRel m w10 w10.heap.size) (fun i _ => m - (intOf i).toNat)
        case atStart => exact ⟨0, by omega, rfl, Below.refl _ _⟩
        case round =>
          obtain ⟨k, hk, rfl, hbr⟩ := hrel
          have HBR := Lib.hid hbr
          clear hbr
          by_cases hlt : k < m
          · have hkz : k < (zonesOf s.nodes).length := by have := HMM0.out; omega
            have hkl : k < (i64s (zonesOf s.nodes)).length := by rw [List.length_map]; exact hkz
            obtain ⟨b, o, rfl, hb, hcell⟩ := HROW.out.at hkl
            obtain ⟨b', o', rfl, hb', hcell'⟩ := HROW'.out.at hkl
            have y1 : wr.cell? ⟨b, o + k, none⟩ = some (.int .i64 (zonesOf s.nodes)[k]) := by rw [HBR.out.cell (p := ⟨b, o + k, none⟩) hb, hcell k hkl]; simp
            have y2 : wr.cell? ⟨b', o' + k, none⟩ = some (.int .i64 (zonesOf s.nodes)[k]) := by rw [HBR.out.cell (p := ⟨b', o' + k, none⟩) hb', hcell' k hkl]; simp
            generalize (zonesOf s.nodes)[k] = y at *
            have hyy : (y != y) = false := by simp
            have hj0 : (0 : Int) ≤ (k : Int) := by omega
            have hj3 : (k : Int) < (m : Int) := by omega
            clear hcell hcell'
            go_wp2
            go_quiet (fail)
            go_wp2
            go_roundw
            case rel => exact ⟨k + 1, by omega, by go_num, below_drews HBR.out _⟩
            case measure => simp [intOf]; omega
          · have e1 : decide (k < m) = false := decide_eq_false hlt
            have e2 : decide ((k : Int) < (m : Int)) = false := decide_eq_false (by omega)
            go_wp2
            go_ret
            exact ⟨rfl, kw10.trans (HBR.out.mono kw10.size)⟩
      | false =>
        obtain ⟨hpN, hxN⟩ := HFN.out.2 rfl
        subst hxN
        have uN0 : pn < 0 := by have := HPN.out; omega
        have uN2 : decide ((0 : Int) ≤ pn) = false := decide_eq_false (by omega)
        have uN3 : ∀ v, (binOp .neq 45 zeroN zeroN).run Tryd.prog v = .ok (.bool false) v := fun v => node_same zN0 v
        clear hpN
        obtain ⟨iL, hiL, hpL, hxL⟩ := HFL.out.1 rfl
        obtain ⟨bL, oL, hAL, hbL, heL⟩ := HR2.out.at hiL
        subst hAL
        have eL0 : w8.cell? ⟨bL, oL + iL * 5, none⟩ = some (.int .i64 lx.id) := (kw8.cell (p := ⟨bL, oL + iL * 5, none⟩) hbL).trans (heL 0 _ (by rw [hxL]; rfl))
        have eL1 : w8.cell? ⟨bL, oL + iL * 5 + 1, none⟩ = some (.bool lx.apart) := (kw8.cell (p := ⟨bL, oL + iL * 5 + 1, none⟩) hbL).trans (heL 1 _ (by rw [hxL]; rfl))
        have eL2 : w8.cell? ⟨bL, oL + iL * 5 + 2, none⟩ = some (.int .i64 lx.skew) := (kw8.cell (p := ⟨bL, oL + iL * 5 + 2, none⟩) hbL).trans (heL 2 _ (by rw [hxL]; rfl))
        have eL3 : w8.cell? ⟨bL, oL + iL * 5 + 3, none⟩ = some (.int .i64 lx.min) := (kw8.cell (p := ⟨bL, oL + iL * 5 + 3, none⟩) hbL).trans (heL 3 _ (by rw [hxL]; rfl))
        have eL4 : w8.cell? ⟨bL, oL + iL * 5 + 4, none⟩ = some (.int .i64 lx.max) := (kw8.cell (p := ⟨bL, oL + iL * 5 + 4, none⟩) hbL).trans (heL 4 _ (by rw [hxL]; rfl))
        have hqL : pl = (iL : Int) := by have := HPL.out; omega
        obtain rfl := hqL
        have uL0 : (0 : Int) ≤ (iL : Int) := by omega
        have uL1 : (iL : Int) < (n2 : Int) := by have := HN2.out; omega
        have uL2 : decide ((0 : Int) ≤ (iL : Int)) = true := decide_eq_true uL0
        have uL3 : ∀ v, (binOp .neq 49 (aggL lx) (aggL lx)).run Tryd.prog v = .ok (.bool false) v := fun v => load_same lx v
        clear hpL hxL heL
        obtain ⟨hpW, hxW⟩ := HFW.out.2 rfl
        subst hxW
        have uW0 : pw < 0 := by have := HPW.out; omega
        have uW2 : decide ((0 : Int) ≤ pw) = false := decide_eq_false (by omega)
        have uW3 : ∀ v, (binOp .neq 53 zeroW zeroW).run Tryd.prog v = .ok (.bool false) v := fun v => want_same zW0 v
        clear hpW
        go_wp2
        go_quiet (fail)
        go_wp2_with fail
        refine (zones_any sort_own comp_own s.nodes _ n1 c1 _ _ _ HN1.out (by omega) ((HR1.out.below (below_drews kw8 _) (Nat.le_refl _)).more (below_drews kw8 _).size)).mono ?_
        rintro e w9 ⟨v, rfl, hown, hb9⟩
        have k9 := (below_drews k8 nq).trans (hb9.mono (show w.heap.size + 2 ≤ w8.heap.size by omega))
        have kw9 : Below w.heap.size w w9 := b00.trans (k9.mono (by omega))
        clear f0 f1 f2 f3 f4 f5
        obtain ⟨⟨f0, f1, f2⟩, f3, f4, f5⟩ := box2_cells k9
        obtain ⟨A, c, rfl, hnc, hq1, hq2⟩ := own_form hown
        clear hq1 hq2
        have HO9 := Lib.hid hown
        clear hown
        have HMM0 : Hid ((i64s (zonesOf s.nodes)).length = (zonesOf s.nodes).length) := List.length_map _
        have hmm : (i64s (zonesOf s.nodes)).length ≤ 40 := by
          have h1 := (zones_fold s.nodes [] trivial).2.1
          have h2 := HN1.out
          rw [HMM0.out]
          simp only [List.length_nil] at h1
          unfold zonesOf
          omega
        generalize hzz : (i64s (zonesOf s.nodes)).length = m at *
        have HZZ := Lib.hid hzz
        clear hzz
        go_wp2_with fail
        refine (rZones_any s.nodes _ n1 c1 w.heap.size _ _ _ HN1.out hl1 kw9.size (HR1.out.below kw9 (Nat.le_refl _))).mono ?_
        rintro e w10 ⟨v, rfl, hown, hb10⟩
        rw [HZZ.out] at hown
        have kw10 : Below w.heap.size w w10 := kw9.trans (hb10.mono kw9.size)
        obtain ⟨A', c', rfl, hnc', hq1, hq2⟩ := own_form hown
        clear hq1 hq2
        have HROW := Lib.hid (Row.of_own (own_below HO9.out hb10 (Nat.le_refl _))).1
        have HROW' := Lib.hid (Row.of_own hown).1
        clear hown HO9
        go_wp2
        go_loopw [20] (FindsRel m w10 w10.heap.size) (fun i _ => m - (intOf i).toNat)
        case atStart => exact ⟨0, by omega, rfl, Below.refl _ _⟩
        case round =>
          obtain ⟨k, hk, rfl, hbr⟩ := hrel
          have HBR := Lib.hid hbr
          clear hbr
          by_cases hlt : k < m
          · have hkz : k < (zonesOf s.nodes).length := by have := HMM0.out; omega
            have hkl : k < (i64s (zonesOf s.nodes)).length := by rw [List.length_map]; exact hkz
            obtain ⟨b, o, rfl, hb, hcell⟩ := HROW.out.at hkl
            obtain ⟨b', o', rfl, hb', hcell'⟩ := HROW'.out.at hkl
            have y1 : wr.cell? ⟨b, o + k, none⟩ = some (.int .i64 (zonesOf s.nodes)[k]) := by rw [HBR.out.cell (p := ⟨b, o + k, none⟩) hb, hcell k hkl]; simp
            have y2 : wr.cell? ⟨b', o' + k, none⟩ = some (.int .i64 (zonesOf s.nodes)[k]) := by rw [HBR.out.cell (p := ⟨b', o' + k, none⟩) hb', hcell' k hkl]; simp
            generalize (zonesOf s.nodes)[k] = y at *
            have hyy : (y != y) = false := by simp
            have hj0 : (0 : Int) ≤ (k : Int) := by omega
            have hj3 : (k : Int) < (m : Int) := by omega
            clear hcell hcell'
            go_wp2
            go_quiet (fail)
            go_wp2
            go_roundw
            case rel => exact ⟨k + 1, by omega, by go_num, below_drews HBR.out _⟩
            case measure => simp [intOf]; omega
          · have e1 : decide (k < m) = false := decide_eq_false hlt
            have e2 : decide ((k : Int) < (m : Int)) = false := decide_eq_false (by omega)
            go_wp2
            go_ret
            exact ⟨rfl, kw10.trans (HBR.out.mono kw10.size)⟩
    | false =>
      cases tw with
      | true =>
        obtain ⟨hpN, hxN⟩ := HFN.out.2 rfl
        subst hxN
        have uN0 : pn < 0 := by have := HPN.out; omega
        have uN2 : decide ((0 : Int) ≤ pn) = false := decide_eq_false (by omega)
        have uN3 : ∀ v, (binOp .neq 45 zeroN zeroN).run Tryd.prog v = .ok (.bool false) v := fun v => node_same zN0 v
        clear hpN
        obtain ⟨hpL, hxL⟩ := HFL.out.2 rfl
        subst hxL
        have uL0 : pl < 0 := by have := HPL.out; omega
        have uL2 : decide ((0 : Int) ≤ pl) = false := decide_eq_false (by omega)
        have uL3 : ∀ v, (binOp .neq 49 zeroL zeroL).run Tryd.prog v = .ok (.bool false) v := fun v => load_same zL0 v
        clear hpL
        obtain ⟨iW, hiW, hpW, hxW⟩ := HFW.out.1 rfl
        obtain ⟨bW, oW, hAW, hbW, heW⟩ := HR4.out.at hiW
        subst hAW
        have eW0 : w8.cell? ⟨bW, oW + iW * 6, none⟩ = some (.int .i64 wx.pod) := (kw8.cell (p := ⟨bW, oW + iW * 6, none⟩) hbW).trans (heW 0 _ (by rw [hxW]; rfl))
        have eW1 : w8.cell? ⟨bW, oW + iW * 6 + 1, none⟩ = some (.int .u64 wx.req.a) := (kw8.cell (p := ⟨bW, oW + iW * 6 + 1, none⟩) hbW).trans (heW 1 _ (by rw [hxW]; rfl))
        have eW2 : w8.cell? ⟨bW, oW + iW * 6 + 2, none⟩ = some (.int .u64 wx.req.b) := (kw8.cell (p := ⟨bW, oW + iW * 6 + 2, none⟩) hbW).trans (heW 2 _ (by rw [hxW]; rfl))
        have eW3 : w8.cell? ⟨bW, oW + iW * 6 + 3, none⟩ = some (.int .u64 wx.req.c) := (kw8.cell (p := ⟨bW, oW + iW * 6 + 3, none⟩) hbW).trans (heW 3 _ (by rw [hxW]; rfl))
        have eW4 : w8.cell? ⟨bW, oW + iW * 6 + 4, none⟩ = some (.int .u64 wx.req.d) := (kw8.cell (p := ⟨bW, oW + iW * 6 + 4, none⟩) hbW).trans (heW 4 _ (by rw [hxW]; rfl))
        have eW5 : w8.cell? ⟨bW, oW + iW * 6 + 5, none⟩ = some (.bool wx.stay) := (kw8.cell (p := ⟨bW, oW + iW * 6 + 5, none⟩) hbW).trans (heW 5 _ (by rw [hxW]; rfl))
        have hqW : pw = (iW : Int) := by have := HPW.out; omega
        obtain rfl := hqW
        have uW0 : (0 : Int) ≤ (iW : Int) := by omega
        have uW1 : (iW : Int) < (n4 : Int) := by have := HN4.out; omega
        have uW2 : decide ((0 : Int) ≤ (iW : Int)) = true := decide_eq_true uW0
        have uW3 : ∀ v, (binOp .neq 53 (aggW wx) (aggW wx)).run Tryd.prog v = .ok (.bool false) v := fun v => want_same wx v
        clear hpW hxW heW
        go_wp2
        go_quiet (fail)
        go_wp2_with fail
        refine (zones_any sort_own comp_own s.nodes _ n1 c1 _ _ _ HN1.out (by omega) ((HR1.out.below (below_drews kw8 _) (Nat.le_refl _)).more (below_drews kw8 _).size)).mono ?_
        rintro e w9 ⟨v, rfl, hown, hb9⟩
        have k9 := (below_drews k8 nq).trans (hb9.mono (show w.heap.size + 2 ≤ w8.heap.size by omega))
        have kw9 : Below w.heap.size w w9 := b00.trans (k9.mono (by omega))
        clear f0 f1 f2 f3 f4 f5
        obtain ⟨⟨f0, f1, f2⟩, f3, f4, f5⟩ := box2_cells k9
        obtain ⟨A, c, rfl, hnc, hq1, hq2⟩ := own_form hown
        clear hq1 hq2
        have HO9 := Lib.hid hown
        clear hown
        have HMM0 : Hid ((i64s (zonesOf s.nodes)).length = (zonesOf s.nodes).length) := List.length_map _
        have hmm : (i64s (zonesOf s.nodes)).length ≤ 40 := by
          have h1 := (zones_fold s.nodes [] trivial).2.1
          have h2 := HN1.out
          rw [HMM0.out]
          simp only [List.length_nil] at h1
          unfold zonesOf
          omega
        generalize hzz : (i64s (zonesOf s.nodes)).length = m at *
        have HZZ := Lib.hid hzz
        clear hzz
        go_wp2_with fail
        refine (rZones_any s.nodes _ n1 c1 w.heap.size _ _ _ HN1.out hl1 kw9.size (HR1.out.below kw9 (Nat.le_refl _))).mono ?_
        rintro e w10 ⟨v, rfl, hown, hb10⟩
        rw [HZZ.out] at hown
        have kw10 : Below w.heap.size w w10 := kw9.trans (hb10.mono kw9.size)
        obtain ⟨A', c', rfl, hnc', hq1, hq2⟩ := own_form hown
        clear hq1 hq2
        have HROW := Lib.hid (Row.of_own (own_below HO9.out hb10 (Nat.le_refl _))).1
        have HROW' := Lib.hid (Row.of_own hown).1
        clear hown HO9
        go_wp2
        go_loopw [20] (FindsRel m w10 w10.heap.size) (fun i _ => m - (intOf i).toNat)
        case atStart => exact ⟨0, by omega, rfl, Below.refl _ _⟩
        case round =>
          obtain ⟨k, hk, rfl, hbr⟩ := hrel
          have HBR := Lib.hid hbr
          clear hbr
          by_cases hlt : k < m
          · have hkz : k < (zonesOf s.nodes).length := by have := HMM0.out; omega
            have hkl : k < (i64s (zonesOf s.nodes)).length := by rw [List.length_map]; exact hkz
            obtain ⟨b, o, rfl, hb, hcell⟩ := HROW.out.at hkl
            obtain ⟨b', o', rfl, hb', hcell'⟩ := HROW'.out.at hkl
            have y1 : wr.cell? ⟨b, o + k, none⟩ = some (.int .i64 (zonesOf s.nodes)[k]) := by rw [HBR.out.cell (p := ⟨b, o + k, none⟩) hb, hcell k hkl]; simp
            have y2 : wr.cell? ⟨b', o' + k, none⟩ = some (.int .i64 (zonesOf s.nodes)[k]) := by rw [HBR.out.cell (p := ⟨b', o' + k, none⟩) hb', hcell' k hkl]; simp
            generalize (zonesOf s.nodes)[k] = y at *
            have hyy : (y != y) = false := by simp
            have hj0 : (0 : Int) ≤ (k : Int) := by omega
            have hj3 : (k : Int) < (m : Int) := by omega
            clear hcell hcell'
            go_wp2
            go_quiet (fail)
            go_wp2
            go_roundw
            case rel => exact ⟨k + 1, by omega, by go_num, below_drews HBR.out _⟩
            case measure => simp [intOf]; omega
          · have e1 : decide (k < m) = false := decide_eq_false hlt
            have e2 : decide ((k : Int) < (m : Int)) = false := decide_eq_false (by omega)
            go_wp2
            go_ret
            exact ⟨rfl, kw10.trans (HBR.out.mono kw10.size)⟩
      | false =>
        obtain ⟨hpN, hxN⟩ := HFN.out.2 rfl
        subst hxN
        have uN0 : pn < 0 := by have := HPN.out; omega
        have uN2 : decide ((0 : Int) ≤ pn) = false := decide_eq_false (by omega)
        have uN3 : ∀ v, (binOp .neq 45 zeroN zeroN).run Tryd.prog v = .ok (.bool false) v := fun v => node_same zN0 v
        clear hpN
        obtain ⟨hpL, hxL⟩ := HFL.out.2 rfl
        subst hxL
        have uL0 : pl < 0 := by have := HPL.out; omega
        have uL2 : decide ((0 : Int) ≤ pl) = false := decide_eq_false (by omega)
        have uL3 : ∀ v, (binOp .neq 49 zeroL zeroL).run Tryd.prog v = .ok (.bool false) v := fun v => load_same zL0 v
        clear hpL
        obtain ⟨hpW, hxW⟩ := HFW.out.2 rfl
        subst hxW
        have uW0 : pw < 0 := by have := HPW.out; omega
        have uW2 : decide ((0 : Int) ≤ pw) = false := decide_eq_false (by omega)
        have uW3 : ∀ v, (binOp .neq 53 zeroW zeroW).run Tryd.prog v = .ok (.bool false) v := fun v => want_same zW0 v
        clear hpW
        go_wp2
        go_quiet (fail)
        go_wp2_with fail
        refine (zones_any sort_own comp_own s.nodes _ n1 c1 _ _ _ HN1.out (by omega) ((HR1.out.below (below_drews kw8 _) (Nat.le_refl _)).more (below_drews kw8 _).size)).mono ?_
        rintro e w9 ⟨v, rfl, hown, hb9⟩
        have k9 := (below_drews k8 nq).trans (hb9.mono (show w.heap.size + 2 ≤ w8.heap.size by omega))
        have kw9 : Below w.heap.size w w9 := b00.trans (k9.mono (by omega))
        clear f0 f1 f2 f3 f4 f5
        obtain ⟨⟨f0, f1, f2⟩, f3, f4, f5⟩ := box2_cells k9
        obtain ⟨A, c, rfl, hnc, hq1, hq2⟩ := own_form hown
        clear hq1 hq2
        have HO9 := Lib.hid hown
        clear hown
        have HMM0 : Hid ((i64s (zonesOf s.nodes)).length = (zonesOf s.nodes).length) := List.length_map _
        have hmm : (i64s (zonesOf s.nodes)).length ≤ 40 := by
          have h1 := (zones_fold s.nodes [] trivial).2.1
          have h2 := HN1.out
          rw [HMM0.out]
          simp only [List.length_nil] at h1
          unfold zonesOf
          omega
        generalize hzz : (i64s (zonesOf s.nodes)).length = m at *
        have HZZ := Lib.hid hzz
        clear hzz
        go_wp2_with fail
        refine (rZones_any s.nodes _ n1 c1 w.heap.size _ _ _ HN1.out hl1 kw9.size (HR1.out.below kw9 (Nat.le_refl _))).mono ?_
        rintro e w10 ⟨v, rfl, hown, hb10⟩
        rw [HZZ.out] at hown
        have kw10 : Below w.heap.size w w10 := kw9.trans (hb10.mono kw9.size)
        obtain ⟨A', c', rfl, hnc', hq1, hq2⟩ := own_form hown
        clear hq1 hq2
        have HROW := Lib.hid (Row.of_own (own_below HO9.out hb10 (Nat.le_refl _))).1
        have HROW' := Lib.hid (Row.of_own hown).1
        clear hown HO9
        go_wp2
        go_loopw [20] (FindsRel m w10 w10.heap.size) (fun i _ => m - (intOf i).toNat)
        case atStart => exact ⟨0, by omega, rfl, Below.refl _ _⟩
        case round =>
          obtain ⟨k, hk, rfl, hbr⟩ := hrel
          have HBR := Lib.hid hbr
          clear hbr
          by_cases hlt : k < m
          · have hkz : k < (zonesOf s.nodes).length := by have := HMM0.out; omega
            have hkl : k < (i64s (zonesOf s.nodes)).length := by rw [List.length_map]; exact hkz
            obtain ⟨b, o, rfl, hb, hcell⟩ := HROW.out.at hkl
            obtain ⟨b', o', rfl, hb', hcell'⟩ := HROW'.out.at hkl
            have y1 : wr.cell? ⟨b, o + k, none⟩ = some (.int .i64 (zonesOf s.nodes)[k]) := by rw [HBR.out.cell (p := ⟨b, o + k, none⟩) hb, hcell k hkl]; simp
            have y2 : wr.cell? ⟨b', o' + k, none⟩ = some (.int .i64 (zonesOf s.nodes)[k]) := by rw [HBR.out.cell (p := ⟨b', o' + k, none⟩) hb', hcell' k hkl]; simp
            generalize (zonesOf s.nodes)[k] = y at *
            have hyy : (y != y) = false := by simp
            have hj0 : (0 : Int) ≤ (k : Int) := by omega
            have hj3 : (k : Int) < (m : Int) := by omega
            clear hcell hcell'
            go_wp2
            go_quiet (fail)
            go_wp2
            go_roundw
            case rel => exact ⟨k + 1, by omega, by go_num, below_drews HBR.out _⟩
            case measure => simp [intOf]; omega
          · have e1 : decide (k < m) = false := decide_eq_false hlt
            have e2 : decide ((k : Int) < (m : Int)) = false := decide_eq_false (by omega)
            go_wp2
            go_ret
            exact ⟨rfl, kw10.trans (HBR.out.mono kw10.size)⟩
end Go.Proofs.YtaeklohgheildaaDoor
