/- Joined texts, part 6: FT FV UO KO. -/
import Derived.Test.YtffdemagdagmpaaZ05
import Derived.Test.YtffdemagdagmpaaZ01
import Derived.Test.YtffdemagdagmpaaZ02
import Derived.ChangeSame
import Derived.ChangeVars
import Derived.JoinedOf
import Derived.RowKit
import Derived.RowKitTokens
import Derived.Carry
import Derived.ChangeSlices
import Derived.Test.YtffdemagdagmpaaRows

/- The law FitTight. -/
namespace Go.Proofs.Ytffdemagdagmpaa
set_option linter.unusedSimpArgs false
open Go.RowKit
set_option linter.unusedVariables false

theorem fewT {n1 n2 n3 n4 n5 : Nat} (h : few05 n1 n2 n3 n4 n5 = true) : n1 ≤ 40 ∧ n2 ≤ 40 ∧ n3 ≤ 40 ∧ n4 ≤ 40 ∧ n5 ≤ 40 := by
  simp [few05] at h
  omega
theorem nodeS_at {xs : List SiteD} {k : Nat} (h : k < xs.length) : ∃ h' : k < (nodesS xs).length, (nodesS xs)[k] = xs[k].node := ⟨by simpa [nodesS] using h, by simp [nodesS]⟩
theorem cellF_at {V : World} {B : Nat} {A : Option Addr} {xs : List SiteD} (h : Recs 1 cellF V B A (nodesS xs)) {k : Nat} (hk : k < xs.length) : ∃ b o, A = some ⟨b, o, none⟩ ∧ b < B ∧ V.cell? ⟨b, o + k, none⟩ = some (.int .i64 xs[k].node) := by
  obtain ⟨h', he⟩ := nodeS_at hk
  obtain ⟨b, o, h1, h2, h3⟩ := h.at h'
  refine ⟨b, o, h1, h2, ?_⟩
  have := h3 0 _ rfl
  rw [he] at this
  simpa using this
theorem allocF_lt {W u : World} {o : Obj} (hb : Below (W.alloc o).drew.heap.size (W.alloc o).drew u) : W.heap.size < u.heap.size := by
  have h := hb.size
  have h2 : W.heap.size < (W.alloc o).drew.heap.size := by simp
  exact Nat.lt_of_lt_of_le h2 h
def TightRel (W : World) (n : Nat) (i : Value) (wr : World) : Prop := ∃ k : Nat, k ≤ n ∧ i = .int .i64 k ∧ Below W.heap.size W wr

set_option maxHeartbeats 25600000 in
set_option maxRecDepth 100000 in
theorem fitTight_in (s : SnapD) (t : StateD) (req : V4) (A1 A2 A3 A4 : Option Addr) (n1 c1 n2 c2 n3 c3 n4 c4 : Nat) (w : World) (hno : ∀ x ∈ s.nodes, x.Ok) (hlo : ∀ p ∈ t.pods, p.Ok) (hq : req.Ok)
    (hn1 : n1 = s.nodes.length) (hr1 : Recs 10 cellsN w w.heap.size A1 s.nodes) (hn4 : n4 = t.pods.length) (hr4 : Recs 8 cellsP w w.heap.size A4 t.pods) :
    Calls Try.prog 4 #[.agg #[.slice A1 n1 c1, .slice A2 n2 c2, .slice A3 n3 c3], .agg #[.slice A4 n4 c4, .int .i64 t.preempts, .int .i64 t.shifts], aggV req] w fun e w' => e = .returned (.bool true) ∧ Below w.heap.size w w' := by
  have T0 := T3.new w [.slice A1 n1 c1, .slice A2 n2 c2, .slice A3 n3 c3] [.slice A4 n4 c4, .int .i64 t.preempts, .int .i64 t.shifts] (cellsV req) 26 28 31
  have HUP := Lib.hid up14_any
  have HN := Lib.hid (And.intro hno (And.intro hlo hq))
  have HL := Lib.hid (And.intro hn1 hn4)
  have HR1 := Lib.hid (fun (V : World) (hV : Below w.heap.size w V) => (hr1.below hV (Nat.le_refl _)).more hV.size)
  have HR4 := Lib.hid (fun (V : World) (hV : Below w.heap.size w V) => (hr4.below hV (Nat.le_refl _)).more hV.size)
  clear hno hlo hq hn1 hn4 hr1 hr4
  go_enter Try.func4, Try.ntmps4
  go_wp2_with fail
  refine (HUP.out _).mono ?_
  rintro e w1 ⟨rfl, hb1⟩
  have T1 := T0.keep hb1
  clear hb1 T0 HUP
  obtain ⟨a0, a1, a2, a3⟩ := T1.one.cells3
  obtain ⟨b0, b1, b2, b3⟩ := T1.two.cells3
  go_wp2_with fail
  refine (few05_any _ _ _ _ _ _ _ _ _ _ _ _ _ _ _ _ _ _ _ _).mono ?_
  rintro e w2 ⟨rfl, hb2⟩
  have T2' := T1.keep hb2
  have kw := T2'.below
  clear hb2 T1 a0 a1 a2 a3 b0 b1 b2 b3
  cases hfew : few05 n1 n2 n3 0 n4 with
  | false =>
    clear hfew T2'
    go_wp2
    go_ret
    exact ⟨rfl, kw⟩
  | true =>
    obtain ⟨hl1, hl2, hl3, hl5, hl4⟩ := fewT hfew
    clear hfew
    have HZ : Hid ((sitesD s.nodes t.pods req s.nodes).length ≤ 400) := by
      show _ ≤ _
      have h1 := sites_len s.nodes t.pods req s.nodes
      have h2 := HL.out.1
      omega
    have H3 : Hid (∀ V : World, Below w.heap.size w V → Calls Try.prog 10 #[.agg #[.slice A1 n1 c1, .slice A2 n2 c2, .slice A3 n3 c3], .agg #[.slice A4 n4 c4, .int .i64 t.preempts, .int .i64 t.shifts], aggV req] V (FitsTo (nodesS (sitesD s.nodes t.pods req s.nodes)) V)) := fun V hV =>
      fits14_any s.nodes t.pods req HN.out.1 HN.out.2.1 HN.out.2.2 A1 A4 n1 c1 n4 c4 _ _ _ _ V HL.out.1 (by omega) (HR1.out V hV) HL.out.2 (by omega) (HR4.out V hV)
    have H5 : Hid (∀ V : World, Below w.heap.size w V → Calls Try.prog 12 #[.agg #[.slice A1 n1 c1, .slice A2 n2 c2, .slice A3 n3 c3], .agg #[.slice A4 n4 c4, .int .i64 t.preempts, .int .i64 t.shifts], aggV req] V fun e w' => e = .returned (.int .i64 (firstS (sitesD s.nodes t.pods req s.nodes))) ∧ Below V.heap.size V w') := fun V hV =>
      first_any14 s.nodes t.pods req HN.out.1 HN.out.2.1 HN.out.2.2 A1 A4 n1 c1 n4 c4 _ _ _ _ V HL.out.1 (by omega) (HR1.out V hV) HL.out.2 (by omega) (HR4.out V hV)
    have H7 : Hid (∀ V : World, Below w.heap.size w V → Calls Try.prog 14 #[.agg #[.slice A1 n1 c1, .slice A2 n2 c2, .slice A3 n3 c3], .agg #[.slice A4 n4 c4, .int .i64 t.preempts, .int .i64 t.shifts], aggV req] V fun e w' => e = .returned (.int .i64 (bestS (sitesD s.nodes t.pods req s.nodes))) ∧ Below V.heap.size V w') := fun V hV =>
      best_any14 s.nodes t.pods req HN.out.1 HN.out.2.1 HN.out.2.2 A1 A4 n1 c1 n4 c4 _ _ _ _ V HL.out.1 (by omega) (HR1.out V hV) HL.out.2 (by omega) (HR4.out V hV)
    obtain ⟨rho, hrho⟩ : ∃ rho : SiteD → V4, (∀ (x : SiteD) (V : World), x ∈ sitesD s.nodes t.pods req s.nodes → Below w.heap.size w V → Calls Try.prog 15 #[.agg #[.slice A1 n1 c1, .slice A2 n2 c2, .slice A3 n3 c3], .agg #[.slice A4 n4 c4, .int .i64 t.preempts, .int .i64 t.shifts], .int .i64 x.node] V fun e w' => e = .returned (.tuple #[.agg #[.int .u64 (rho x).a, .int .u64 (rho x).b, .int .u64 (rho x).c, .int .u64 (rho x).d], .nilIface]) ∧ Below V.heap.size V w') ∧
        (∀ (x : SiteD) (V : World), x ∈ sitesD s.nodes t.pods req s.nodes → Calls Try.prog 16 #[aggV (rho x), aggV req] V fun e w' => e = .returned (.tuple #[aggV x.left, .nilIface]) ∧ Below V.heap.size V w') := by
      refine ⟨fun x => (restD s.nodes t.pods x.node).1, fun x V hx hV => ?_, fun x V hx => ?_⟩
      · have h := roomRest_any s.nodes t.pods x.node HN.out.1 HN.out.2.1 A1 A4 n1 c1 n4 c4 (.slice A2 n2 c2) (.slice A3 n3 c3) (.int .i64 t.preempts) (.int .i64 t.shifts) V HL.out.1 (by omega) (HR1.out V hV) HL.out.2 (by omega) (HR4.out V hV)
        rw [(left_rest (site_left hx)).1, codeV_zero] at h
        exact h
      · exact vSub_some (rest_ok HN.out.1 HN.out.2.1 x.node) HN.out.2.2 (left_rest (site_left hx)).2 V
    have HRHO := Lib.hid hrho
    clear hrho
    generalize sitesD s.nodes t.pods req s.nodes = xs at *
    clear HN HR1 HR4 HL hl1 hl2 hl3 hl4 hl5
    obtain ⟨a0, a1, a2, a3⟩ := T2'.one.cells3
    obtain ⟨b0, b1, b2, b3⟩ := T2'.two.cells3
    obtain ⟨d0, d1, d2, d3, d4⟩ := T2'.three.cells4
    go_wp2_with fail
    refine (H3.out _ kw).mono ?_
    rintro e W ⟨A, c, rfl, hout, hbW⟩
    have TW := T2'.keep hbW
    have HR := Lib.hid hout.recs
    have hxl : (nodesS xs).length = xs.length := by simp [nodesS]
    rw [hxl]
    clear hout hbW T2' kw a0 a1 a2 a3 b0 b1 b2 b3 d0 d1 d2 d3 d4 H3 hxl
    obtain ⟨a0, a1, a2, a3⟩ := TW.one.cells3
    obtain ⟨b0, b1, b2, b3⟩ := TW.two.cells3
    obtain ⟨d0, d1, d2, d3, d4⟩ := TW.three.cells4
    cases xs with
    | nil =>
      have kW := TW.below
      have H5' : Hid (∀ V : World, Below w.heap.size w V → Calls Try.prog 12 #[.agg #[.slice A1 n1 c1, .slice A2 n2 c2, .slice A3 n3 c3], .agg #[.slice A4 n4 c4, .int .i64 t.preempts, .int .i64 t.shifts], aggV req] V fun e w' => e = .returned (.int .i64 0) ∧ Below V.heap.size V w') := H5
      have H7' : Hid (∀ V : World, Below w.heap.size w V → Calls Try.prog 14 #[.agg #[.slice A1 n1 c1, .slice A2 n2 c2, .slice A3 n3 c3], .agg #[.slice A4 n4 c4, .int .i64 t.preempts, .int .i64 t.shifts], aggV req] V fun e w' => e = .returned (.int .i64 0) ∧ Below V.heap.size V w') := H7
      clear H5 H7
      go_wp2_with fail
      refine (H5'.out _ kW).mono ?_
      rintro e w3 ⟨rfl, hb3⟩
      have T3' := TW.keep hb3
      clear TW hb3 kW a0 a1 a2 a3 b0 b1 b2 b3 d0 d1 d2 d3 d4
      obtain ⟨a0, a1, a2, a3⟩ := T3'.one.cells3
      obtain ⟨b0, b1, b2, b3⟩ := T3'.two.cells3
      obtain ⟨d0, d1, d2, d3, d4⟩ := T3'.three.cells4
      have k3 := T3'.below
      clear T3'
      go_wp2_with fail
      refine (H7'.out _ k3).mono ?_
      rintro e w4 ⟨rfl, hb4⟩
      have k4 := k3.trans (hb4.mono k3.size)
      clear hb4 k3 a0 a1 a2 a3 b0 b1 b2 b3 d0 d1 d2 d3 d4
      go_wp2
      go_ret
      exact ⟨rfl, k4⟩
    | cons x0 r =>
      have hd : (((r.length + 1 : Nat) : Int) == 0) = false := by simp; omega
      have hd2 : ((r.length : Int) + 1 == 0) = false := by simp; omega
      rw [List.length_cons]
      have HLL := HZ.out
      rw [List.length_cons] at HLL
      have HM := Lib.hid (pick_in x0 r)
      have HP := Lib.hid (fun x hx => pick_least (l := r) (m := x0) (x := x) hx)
      obtain ⟨b, o, hA, hb, e0⟩ := cellF_at HR.out (k := 0) (by simp)
      have e0' : W.cell? ⟨b, o, none⟩ = some (.int .i64 x0.node) := by simpa using e0
      have H5' : Hid (∀ V : World, Below w.heap.size w V → Calls Try.prog 12 #[.agg #[.slice A1 n1 c1, .slice A2 n2 c2, .slice A3 n3 c3], .agg #[.slice A4 n4 c4, .int .i64 t.preempts, .int .i64 t.shifts], aggV req] V fun e w' => e = .returned (.int .i64 x0.node) ∧ Below V.heap.size V w') := H5
      have H7' : Hid (∀ V : World, Below w.heap.size w V → Calls Try.prog 14 #[.agg #[.slice A1 n1 c1, .slice A2 n2 c2, .slice A3 n3 c3], .agg #[.slice A4 n4 c4, .int .i64 t.preempts, .int .i64 t.shifts], aggV req] V fun e w' => e = .returned (.int .i64 (pickS x0 r).node) ∧ Below V.heap.size V w') := H7
      subst hA
      generalize pickS x0 r = m at *
      have HTW := Lib.hid TW
      have kW := TW.below
      have HQ1 : Hid (∀ V : World, ((∀ b o, b < W.heap.size → V.cell? ⟨b, o, none⟩ = W.cell? ⟨b, o, none⟩) ∧ Below W.heap.size W V) → Calls Try.prog 14 #[.agg #[.slice A1 n1 c1, .slice A2 n2 c2, .slice A3 n3 c3], .agg #[.slice A4 n4 c4, .int .i64 t.preempts, .int .i64 t.shifts], aggV req] V fun e w' => e = .returned (.int .i64 m.node) ∧ Below V.heap.size V w') := fun V hV => H7'.out V (kW.trans (hV.2.mono kW.size))
      have HQ2 : Hid (∀ V : World, ((∀ b o, b < W.heap.size → V.cell? ⟨b, o, none⟩ = W.cell? ⟨b, o, none⟩) ∧ Below W.heap.size W V) → Calls Try.prog 15 #[.agg #[.slice A1 n1 c1, .slice A2 n2 c2, .slice A3 n3 c3], .agg #[.slice A4 n4 c4, .int .i64 t.preempts, .int .i64 t.shifts], .int .i64 m.node] V fun e w' => e = .returned (.tuple #[.agg #[.int .u64 (rho m).a, .int .u64 (rho m).b, .int .u64 (rho m).c, .int .u64 (rho m).d], .nilIface]) ∧ Below V.heap.size V w') := fun V hV => HRHO.out.1 m V HM.out (kW.trans (hV.2.mono kW.size))
      have HQ3 := Lib.hid (fun V => HRHO.out.2 m V HM.out)
      clear H5 H7 e0 TW kW
      generalize rho m = q at *
      go_wp2
      go_region_held3 (fun w' => (∀ b o, b < W.heap.size → w'.cell? ⟨b, o, none⟩ = W.cell? ⟨b, o, none⟩) ∧ Below W.heap.size W w')
        (first | (with_reducible assumption) | (show Keeps W _; with_reducible (repeat (first | exact Keeps.refl _ | assumption | refine Keeps.drew ?_ | refine Keeps.set ?_ (by first | (simp; done) | (simp; omega) | omega) _ | refine Keeps.alloc ?_ _ | refine Keeps.step ?_ (by assumption)))))
        (first
          | (go_at_call 14; refine (HQ1.out _ (by assumption)).mono ?_; rintro e u1 ⟨rfl, hb1⟩; obtain ⟨hcx1, hfx1⟩ := old_cells hb1; (have hz1 := hb1.size; try simp at hz1); first | (have hz2 := allocF_lt (W := W) hb1) | skip)
          | (go_at_call 15; refine (HQ2.out _ (by assumption)).mono ?_; rintro e w' ⟨rfl, hb⟩; obtain ⟨hcx, hfx⟩ := old_cells hb))
      all_goals
        rename_i hK
        have k2 := hK.2
        clear hK hcx hfx hcx1 hfx1 HQ1 HQ2 a0 a1 a2 a3 b0 b1 b2 b3 d0 d1 d2 d3 d4
        first
          | (have BV := Bf.new w' (cellsV q) 31 rfl
             replace BV : Bf (w'.alloc (.cells #[.int .u64 q.a, .int .u64 q.b, .int .u64 q.c, .int .u64 q.d] 31)) w'.heap.size (cellsV q) := BV
             generalize w'.alloc (.cells #[.int .u64 q.a, .int .u64 q.b, .int .u64 q.c, .int .u64 q.d] 31) = U at *
             have kk : Below W.heap.size W U := k2
             clear hb
             generalize w'.heap.size = h at *)
          | (have BV := Bf.later (z := q) (Bf.new u1 (cellsV .zer) 31 rfl) hb
             generalize ((((w'.setCell ⟨u1.heap.size, 0, none⟩ (.int .u64 q.a)).setCell ⟨u1.heap.size, 1, none⟩ (.int .u64 q.b)).setCell ⟨u1.heap.size, 2, none⟩ (.int .u64 q.c)).setCell ⟨u1.heap.size, 3, none⟩ (.int .u64 q.d)) = U at *
             have kk : Below W.heap.size W U := k2
             generalize hh : u1.heap.size = h at BV ⊢)
          | (have BV0 := (Bf.drew (Bf.new W (cellsV .zer) 31 rfl)).below hb1 (Bf.drew (Bf.new W (cellsV .zer) 31 rfl)).lt
             have BV := Bf.later (z := q) BV0 hb
             clear BV0
             generalize ((((w'.setCell ⟨W.heap.size, 0, none⟩ (.int .u64 q.a)).setCell ⟨W.heap.size, 1, none⟩ (.int .u64 q.b)).setCell ⟨W.heap.size, 2, none⟩ (.int .u64 q.c)).setCell ⟨W.heap.size, 3, none⟩ (.int .u64 q.d)) = U at *
             have kk : Below W.heap.size W U := k2
             generalize hh : W.heap.size = h at BV ⊢)
        have hTU := HTW.out.keep kk
        have HKK := Lib.hid kk
        obtain ⟨d0, d1, d2, d3, d4⟩ := hTU.three.cells4
        obtain ⟨g0, g1, g2, g3, g4⟩ := BV.cells4
        have HTU := Lib.hid hTU
        clear kk k2 BV hTU
        go_wp2_with fail
        refine (HQ3.out _).mono ?_
        rintro e u2 ⟨rfl, hb2⟩
        have TX := (HTU.out.keep hb2).alloc (.cells #[.int .u64 m.left.a, .int .u64 m.left.b, .int .u64 m.left.c, .int .u64 m.left.d] 31)
        have BX : Bf (u2.alloc (.cells #[.int .u64 m.left.a, .int .u64 m.left.b, .int .u64 m.left.c, .int .u64 m.left.d] 31)) u2.heap.size (cellsV m.left) := Bf.new u2 (cellsV m.left) 31 rfl
        have KX := (HKK.out.trans (hb2.mono HKK.out.size)).alloc (Nat.le_trans HKK.out.size hb2.size) (.cells #[.int .u64 m.left.a, .int .u64 m.left.b, .int .u64 m.left.c, .int .u64 m.left.d] 31)
        clear hb2 d0 d1 d2 d3 d4 g0 g1 g2 g3 g4
        go_upto_region 10 with fail
        generalize u2.alloc (.cells #[.int .u64 m.left.a, .int .u64 m.left.b, .int .u64 m.left.c, .int .u64 m.left.d] 31) = X at *
        generalize u2.heap.size = h2 at *
        obtain ⟨a0, a1, a2, a3⟩ := TX.one.cells3
        obtain ⟨b0, b1, b2, b3⟩ := TX.two.cells3
        obtain ⟨d0, d1, d2, d3, d4⟩ := TX.three.cells4
        have e1 : X.cell? ⟨b, o, none⟩ = some (.int .i64 x0.node) := (KX.cell (p := ⟨b, o, none⟩) (by assumption)).trans e0'
        have hbX : b < X.heap.size := Nat.lt_of_lt_of_le (by assumption) KX.size
        have hlt0 : decide ((0 : Int) < ((r.length + 1 : Nat) : Int)) = true := decide_eq_true (by omega)
        have hne : (x0.node != x0.node) = false := by simp
        have HTX := Lib.hid TX
        have HBX := Lib.hid BX
        have HKX := Lib.hid KX
        have HQ4 : Hid (∀ V : World, ((∀ b o, b < X.heap.size → V.cell? ⟨b, o, none⟩ = X.cell? ⟨b, o, none⟩) ∧ Below X.heap.size X V) → Calls Try.prog 12 #[.agg #[.slice A1 n1 c1, .slice A2 n2 c2, .slice A3 n3 c3], .agg #[.slice A4 n4 c4, .int .i64 t.preempts, .int .i64 t.shifts], aggV req] V fun e w' => e = .returned (.int .i64 x0.node) ∧ Below V.heap.size V w') := fun V hV => H5'.out V (HTX.out.below.trans (hV.2.mono HTX.out.below.size))
        clear TX BX KX
        go_region_held3 (fun w' => (∀ b o, b < X.heap.size → w'.cell? ⟨b, o, none⟩ = X.cell? ⟨b, o, none⟩) ∧ Below X.heap.size X w')
          (first | (with_reducible assumption) | (show Keeps X _; with_reducible (repeat (first | exact Keeps.refl _ | assumption | refine Keeps.drew ?_ | refine Keeps.set ?_ (by first | (simp; done) | (simp; omega) | omega) _ | refine Keeps.alloc ?_ _ | refine Keeps.step ?_ (by assumption)))))
          (first
            | (go_at_call 12; refine (HQ4.out _ (by assumption)).mono ?_; rintro e w5 ⟨rfl, hb5⟩))
        all_goals
          rename_i hK
          have TY := HTX.out.keep hK.2
          have BY := HBX.out.below hK.2 HBX.out.lt
          have KY := HKX.out.trans (hK.2.mono HKX.out.size)
          clear hK hb5 a0 a1 a2 a3 b0 b1 b2 b3 d0 d1 d2 d3 d4 e1 hbX hne hlt0 HQ4 HTX HBX HKX
          have HTY := Lib.hid TY
          have HBY := Lib.hid BY
          have HKY := Lib.hid KY
          clear TY BY KY
          go_wp2
          go_loopw [14] (TightRel w5 (r.length + 1)) (fun i _ => r.length + 1 - (intOf i).toNat)
          case atStart => exact ⟨0, by omega, rfl, Below.refl _ _⟩
          case round =>
            obtain ⟨k, hk, rfl, hbr⟩ := hrel
            have hT3 := HTY.out.keep hbr
            by_cases hlt : k < r.length + 1
            · have hkl : k < (x0 :: r).length := by simpa using hlt
              obtain ⟨b', o', hA', hb', ek⟩ := cellF_at HR.out hkl
              obtain ⟨rfl, rfl⟩ : b = b' ∧ o = o' := by injection hA' with hA'; injection hA' with h1 h2; exact ⟨h1, h2⟩
              have KWR := HKY.out.trans (hbr.mono HKY.out.size)
              have ek' := (KWR.cell (p := ⟨b, o + k, none⟩) hb').trans ek
              have hbk : b < wr.heap.size := Nat.lt_of_lt_of_le hb' KWR.size
              have HMY := Lib.hid (List.getElem_mem hkl)
              generalize (x0 :: r)[k] = y at *
              have HPY := Lib.hid (HP.out y HMY.out)
              have hi0 : (0 : Int) ≤ (k : Int) := by omega
              have hi1 : (k : Int) < (r.length : Int) + 1 := by omega
              have hi2 : (k : Int) < ((r.length + 1 : Nat) : Int) := by omega
              obtain ⟨a0, a1, a2, a3⟩ := hT3.one.cells3
              obtain ⟨b0, b1, b2, b3⟩ := hT3.two.cells3
              have HQ5 : Hid (∀ V : World, ((∀ b o, b < wr.heap.size → V.cell? ⟨b, o, none⟩ = wr.cell? ⟨b, o, none⟩) ∧ Below wr.heap.size wr V) → Calls Try.prog 15 #[.agg #[.slice A1 n1 c1, .slice A2 n2 c2, .slice A3 n3 c3], .agg #[.slice A4 n4 c4, .int .i64 t.preempts, .int .i64 t.shifts], .int .i64 y.node] V fun e w' => e = .returned (.tuple #[.agg #[.int .u64 (rho y).a, .int .u64 (rho y).b, .int .u64 (rho y).c, .int .u64 (rho y).d], .nilIface]) ∧ Below V.heap.size V w') := fun V hV => HRHO.out.1 y V HMY.out (hT3.below.trans (hV.2.mono hT3.below.size))
              have HQ6 := Lib.hid (fun V => HRHO.out.2 y V HMY.out)
              have HT3' := Lib.hid hT3
              have HBR := Lib.hid hbr
              generalize rho y = q2 at *
              clear hA' hb' ek KWR hT3 hbr
              go_upto_region 15 with fail
              go_region_held3 (fun w' => (∀ b o, b < wr.heap.size → w'.cell? ⟨b, o, none⟩ = wr.cell? ⟨b, o, none⟩) ∧ Below wr.heap.size wr w')
                (first | (with_reducible assumption) | (show Keeps wr _; with_reducible (repeat (first | exact Keeps.refl _ | assumption | refine Keeps.drew ?_ | refine Keeps.set ?_ (by first | (simp; done) | (simp; omega) | omega) _ | refine Keeps.alloc ?_ _ | refine Keeps.step ?_ (by assumption)))))
                (first
                  | (go_at_call 15; refine (HQ5.out _ (by assumption)).mono ?_; rintro e w' ⟨rfl, hb⟩; obtain ⟨hcx, hfx⟩ := old_cells hb))
              all_goals
                rename_i hK
                have k2 := hK.2
                clear hK hcx hfx HQ5 a0 a1 a2 a3 b0 b1 b2 b3 ek' hbk
                first
                  | (have BV := Bf.new w' (cellsV q2) 31 rfl
                     replace BV : Bf (w'.alloc (.cells #[.int .u64 q2.a, .int .u64 q2.b, .int .u64 q2.c, .int .u64 q2.d] 31)) w'.heap.size (cellsV q2) := BV
                     generalize w'.alloc (.cells #[.int .u64 q2.a, .int .u64 q2.b, .int .u64 q2.c, .int .u64 q2.d] 31) = U at *
                     have kk : Below wr.heap.size wr U := k2
                     clear hb
                     generalize w'.heap.size = h at *)
                  | (have BV := Bf.later (z := q2) (Bf.drew (Bf.new wr (cellsV .zer) 31 rfl)) (by assumption)
                     generalize ((((w'.setCell ⟨wr.heap.size, 0, none⟩ (.int .u64 q2.a)).setCell ⟨wr.heap.size, 1, none⟩ (.int .u64 q2.b)).setCell ⟨wr.heap.size, 2, none⟩ (.int .u64 q2.c)).setCell ⟨wr.heap.size, 3, none⟩ (.int .u64 q2.d)) = U at *
                     have kk : Below wr.heap.size wr U := k2
                     generalize hh : wr.heap.size = h at BV ⊢)
                have hTU := HT3'.out.keep kk
                have KU := HBR.out.trans (kk.mono HBR.out.size)
                obtain ⟨d0, d1, d2, d3, d4⟩ := hTU.three.cells4
                obtain ⟨g0, g1, g2, g3, g4⟩ := BV.cells4
                have HKU := Lib.hid KU
                clear kk k2 BV hTU KU
                go_wp2_with fail
                refine (HQ6.out _).mono ?_
                rintro e u5 ⟨rfl, hb6⟩
                have KX := (HKU.out.trans (hb6.mono HKU.out.size)).alloc (Nat.le_trans HKU.out.size hb6.size) (.cells #[.int .u64 y.left.a, .int .u64 y.left.b, .int .u64 y.left.c, .int .u64 y.left.d] 31)
                have BX : Bf (u5.alloc (.cells #[.int .u64 y.left.a, .int .u64 y.left.b, .int .u64 y.left.c, .int .u64 y.left.d] 31)) u5.heap.size (cellsV y.left) := Bf.new u5 (cellsV y.left) 31 rfl
                clear hb6 d0 d1 d2 d3 d4 g0 g1 g2 g3 g4
                go_upto_region 17 with fail
                generalize u5.alloc (.cells #[.int .u64 y.left.a, .int .u64 y.left.b, .int .u64 y.left.c, .int .u64 y.left.d] 31) = X2 at *
                generalize u5.heap.size = h3 at *
                have BZ := HBY.out.below KX HBY.out.lt
                obtain ⟨g0, g1, g2, g3, g4⟩ := BX.cells4
                obtain ⟨d0, d1, d2, d3, d4⟩ := BZ.cells4
                have HKX2 := Lib.hid KX
                clear BX BZ KX
                go_wp2_with fail
                refine (fTighter_any y.left m.left _).mono ?_
                rw [HPY.out]
                rintro e u6 ⟨rfl, hb7⟩
                have KZ := Lib.hid (HKX2.out.trans (hb7.mono HKX2.out.size))
                clear hb7 g0 g1 g2 g3 g4 d0 d1 d2 d3 d4
                go_wp2
                go_roundw
                case rel => exact ⟨k + 1, by omega, by go_num, KZ.out⟩
                case measure => simp [intOf]; omega
            · have kw := hT3.below
              clear hT3 hbr
              go_wp2
              go_ret
              exact ⟨rfl, kw⟩
end Go.Proofs.Ytffdemagdagmpaa

/- An amount that is handed in, by value. -/
namespace Go.Proofs.Ytffdemagdagmpaa
set_option linter.unusedSimpArgs false
open Go.ChangeShapes Go.WideShapes Go.ChangeAt Go.RowKit
set_option linter.unusedVariables false

theorem list4F {α : Type} (l : List α) (h : (⟨l⟩ : Array α).size = 4) : ∃ a b c d, l = [a, b, c, d] := by
  match l, h with
  | [a, b, c, d], _ => exact ⟨a, b, c, d, rfl⟩
section
variable {H : Type} {enc : TypeId × Value → H} {w : World} {base : Nat} {sp : Nat → Bool} {held : Bool}
set_option maxRecDepth 100000 in
theorem open_vecF {r : Reach} {b0 : Nat} {v : Value} {d : DataW H} {ps : List MemPlace} (hval : Value.okWide Try.prog w r b0 31 v) (h : DataW.Trod enc Try.prog w base sp held 31 v d ps) : ∃ x : V4, v = aggV x ∧ x.Ok := by
  obtain ⟨cs, rfl, hsz, _⟩ : ∃ cs, v = .agg cs ∧ cs.size = Try.prog.cellsOf 31 ∧ Row.okWide Try.prog w r b0 31 cs := by
    simpa [Value.okWide, Try.underlying31] using hval
  rw [Try.cells31] at hsz
  obtain ⟨l⟩ := cs
  obtain ⟨c0, c1, c2, c3, rfl⟩ := list4F l hsz
  obtain ⟨fuel, hf⟩ := h
  obtain ⟨x, rfl, rfl, rfl, rfl, ho⟩ := vec_of rfl hf
  exact ⟨x, rfl, ho⟩
end
end Go.Proofs.Ytffdemagdagmpaa

/- How a state is read as data; five arguments. -/
namespace Go.Proofs.Ytffdemagdagmpaa
set_option linter.unusedSimpArgs false
open Go.ChangeShapes Go.WideShapes Go.ChangeAt Go.RowKit

theorem Try.cellsT : Try.prog.cellsOf 28 = 3 := by kernel_rfl
section
variable {H : Type} {enc : TypeId × Value → H} {w : World} {base : Nat} {sp : Nat → Bool} {held : Bool}
set_option maxRecDepth 100000 in
/-- A state by value. -/
theorem open_state {r : Reach} {b0 : Nat} {v : Value} {d : DataW H} {ps : List MemPlace} (hval : Value.okWide Try.prog w r b0 28 v) (h : DataW.Trod enc Try.prog w base sp held 28 v d ps) :
    ∃ (t : StateD) (A : Option Addr) (c : Nat), v = .agg #[.slice A t.pods.length c, .int .i64 t.preempts, .int .i64 t.shifts] ∧ I64 t.preempts ∧ I64 t.shifts ∧
      (t.pods.length ≤ c ∧ c ≤ maxLen ∧ (A = none → c = 0) ∧ Recs 8 cellsP w w.heap.size A t.pods ∧ ∀ a ∈ t.pods, a.Ok) := by
  obtain ⟨v0, v1, v2, y0, y1, y2, n, rfl, _, _, h0, h1, h2⟩ := Go.Joins.open_agg3 Try.underlying28 (by kernel_rfl) Try.cellsT hval h
  obtain ⟨A, c, l, rfl, p⟩ := open_recs (Ok := PodD.Ok) Try.underlying24 Try.cellsP (by decide) (fun _ _ _ hl h => pod_of hl h) h0
  obtain ⟨k1, rfl, i1⟩ := int_of rfl h1
  obtain ⟨k2, rfl, i2⟩ := int_of rfl h2
  exact ⟨⟨l, k1, k2⟩, A, c, rfl, i1, i2, p⟩
end
section
variable {H : Type} {enc : TypeId × Value → H} {P : Program} {w : World} {base : Nat} {spare : Nat → Bool} {held : Bool}
end
end Go.Proofs.Ytffdemagdagmpaa

namespace Go.Proofs.Ytffdemagdagmpaa
set_option linter.unusedSimpArgs false
theorem Try.own : ownKnob Try.prog.godebug = none := by kernel_rfl
theorem Try.laidOut : laidOutB Try.prog = true := by kernel_rfl
end Go.Proofs.Ytffdemagdagmpaa
