/- Joined texts, part 5: FC FE FF UK FK CZ. -/
import Derived.Test.YtffdemagdagmpaaZ04
import Derived.Test.YtffdemagdagmpaaZ02
import Derived.Deep.RegionHeld3
import Derived.Test.YtffdemagdagmpaaZ03
import Derived.Test.YtffdemagdagmpaaZ01
import Derived.Deep.QuietTactic
import Derived.BigQuiet

/- The program's compare: of two amounts which is tighter. -/
namespace Go.Proofs.Ytffdemagdagmpaa
set_option linter.unusedSimpArgs false
open Go.RowKit
set_option linter.unusedVariables false

set_option maxHeartbeats 3200000 in
set_option maxRecDepth 100000 in
/-- slices.Compare of two boxes of four. -/
theorem sCompare_any (x y : V4) (b c : Nat) (W : World) (hb : Bf W b (cellsV x)) (hc : Bf W c (cellsV y)) :
    Calls Try.prog 29 #[.slice (some ⟨b, 0, none⟩) 4 4, .slice (some ⟨c, 0, none⟩) 4 4] W fun e w' => e = .returned (.int .i64 (cmpL x y)) ∧ W = w' := by
  obtain ⟨a0, a1, a2, a3, a4⟩ := hb.cells4
  obtain ⟨b0, b1, b2, b3, b4⟩ := hc.cells4
  clear hb hc
  by_cases h0 : cmpI x.a y.a = 0
  · by_cases h1 : cmpI x.b y.b = 0
    · by_cases h2 : cmpI x.c y.c = 0
      · by_cases h3 : cmpI x.d y.d = 0
        · have HE : Hid (cmpL x y = 0) := by show cmpL x y = 0; simp only [cmpL, h0, h1, h2, h3, ne_eq, not_true_eq_false, if_false]
          go_enter Try.func29, Try.ntmps29
          go_wp2
          refine wp_loop_rounds 5 ?_
          rw [rounds_succ]
          go_wp2_with (go_at_call 37; refine (compareU_any _ _ _).mono ?_; rw [h0]; rintro e w' ⟨rfl, rfl⟩)
          rw [rounds_succ]
          go_wp2_with (go_at_call 37; refine (compareU_any _ _ _).mono ?_; rw [h1]; rintro e w' ⟨rfl, rfl⟩)
          rw [rounds_succ]
          go_wp2_with (go_at_call 37; refine (compareU_any _ _ _).mono ?_; rw [h2]; rintro e w' ⟨rfl, rfl⟩)
          rw [rounds_succ]
          go_wp2_with (go_at_call 37; refine (compareU_any _ _ _).mono ?_; rw [h3]; rintro e w' ⟨rfl, rfl⟩)
          rw [rounds_succ]
          go_wp2
          go_ret
          exact ⟨ret_int HE.out.symm, rfl⟩
        · have HE : Hid (cmpL x y = cmpI x.d y.d) := by show cmpL x y = _; simp only [cmpL, h0, h1, h2, ne_eq, not_true_eq_false, if_false]
          have hd : (cmpI x.d y.d != 0) = true := by simpa using h3
          clear h3
          go_enter Try.func29, Try.ntmps29
          go_wp2
          refine wp_loop_rounds 4 ?_
          rw [rounds_succ]
          go_wp2_with (go_at_call 37; refine (compareU_any _ _ _).mono ?_; rw [h0]; rintro e w' ⟨rfl, rfl⟩)
          rw [rounds_succ]
          go_wp2_with (go_at_call 37; refine (compareU_any _ _ _).mono ?_; rw [h1]; rintro e w' ⟨rfl, rfl⟩)
          rw [rounds_succ]
          go_wp2_with (go_at_call 37; refine (compareU_any _ _ _).mono ?_; rw [h2]; rintro e w' ⟨rfl, rfl⟩)
          rw [rounds_succ]
          go_wp2_with (go_at_call 37; refine (compareU_any _ _ _).mono ?_; rintro e w' ⟨rfl, rfl⟩)
          go_ret
          exact ⟨ret_int HE.out.symm, rfl⟩
      · have HE : Hid (cmpL x y = cmpI x.c y.c) := by show cmpL x y = _; simp only [cmpL, h0, h1, ne_eq, not_true_eq_false, if_false, h2, not_false_eq_true, if_true]
        have hd : (cmpI x.c y.c != 0) = true := by simpa using h2
        clear h2
        go_enter Try.func29, Try.ntmps29
        go_wp2
        refine wp_loop_rounds 3 ?_
        rw [rounds_succ]
        go_wp2_with (go_at_call 37; refine (compareU_any _ _ _).mono ?_; rw [h0]; rintro e w' ⟨rfl, rfl⟩)
        rw [rounds_succ]
        go_wp2_with (go_at_call 37; refine (compareU_any _ _ _).mono ?_; rw [h1]; rintro e w' ⟨rfl, rfl⟩)
        rw [rounds_succ]
        go_wp2_with (go_at_call 37; refine (compareU_any _ _ _).mono ?_; rintro e w' ⟨rfl, rfl⟩)
        go_ret
        exact ⟨ret_int HE.out.symm, rfl⟩
    · have HE : Hid (cmpL x y = cmpI x.b y.b) := by show cmpL x y = _; simp only [cmpL, h0, ne_eq, not_true_eq_false, if_false, h1, not_false_eq_true, if_true]
      have hd : (cmpI x.b y.b != 0) = true := by simpa using h1
      clear h1
      go_enter Try.func29, Try.ntmps29
      go_wp2
      refine wp_loop_rounds 2 ?_
      rw [rounds_succ]
      go_wp2_with (go_at_call 37; refine (compareU_any _ _ _).mono ?_; rw [h0]; rintro e w' ⟨rfl, rfl⟩)
      rw [rounds_succ]
      go_wp2_with (go_at_call 37; refine (compareU_any _ _ _).mono ?_; rintro e w' ⟨rfl, rfl⟩)
      go_ret
      exact ⟨ret_int HE.out.symm, rfl⟩
  · have HE : Hid (cmpL x y = cmpI x.a y.a) := by show cmpL x y = _; simp only [cmpL, ne_eq, h0, not_false_eq_true, if_true]
    have hd : (cmpI x.a y.a != 0) = true := by simpa using h0
    clear h0
    go_enter Try.func29, Try.ntmps29
    go_wp2
    refine wp_loop_rounds 1 ?_
    rw [rounds_succ]
    go_wp2_with (go_at_call 37; refine (compareU_any _ _ _).mono ?_; rintro e w' ⟨rfl, rfl⟩)
    go_ret
    exact ⟨ret_int HE.out.symm, rfl⟩

theorem T2.drew {a b : List Value} {w V : World} (h : T2 a b w V) : T2 a b w V.drew := h.keep (Below.refl _ V).drew
theorem T2.put2 {a b : V4} {w V : World} (h : T2 (cellsV a) (cellsV b) w V) (x y : V4) : T2 (cellsV x) (cellsV y) w ((((((((V.setCell ⟨w.heap.size, 0, none⟩ (.int .u64 x.a)).setCell ⟨w.heap.size, 1, none⟩ (.int .u64 x.b)).setCell ⟨w.heap.size, 2, none⟩ (.int .u64 x.c)).setCell ⟨w.heap.size, 3, none⟩ (.int .u64 x.d)).setCell ⟨w.heap.size + 1, 0, none⟩ (.int .u64 y.a)).setCell ⟨w.heap.size + 1, 1, none⟩ (.int .u64 y.b)).setCell ⟨w.heap.size + 1, 2, none⟩ (.int .u64 y.c)).setCell ⟨w.heap.size + 1, 3, none⟩ (.int .u64 y.d)) := by
  have o1 := (((h.one.set 0 (.int .u64 x.a)).set 1 (.int .u64 x.b)).set 2 (.int .u64 x.c)).set 3 (.int .u64 x.d)
  have o2 := ((((h.two.other (p := ⟨w.heap.size, 0, none⟩) (by simp) (.int .u64 x.a)).other (p := ⟨w.heap.size, 1, none⟩) (by simp) (.int .u64 x.b)).other (p := ⟨w.heap.size, 2, none⟩) (by simp) (.int .u64 x.c)).other (p := ⟨w.heap.size, 3, none⟩) (by simp) (.int .u64 x.d))
  have k1 := (((h.below.setCell (p := ⟨w.heap.size, 0, none⟩) (Nat.le_refl _) (.int .u64 x.a)).setCell (p := ⟨w.heap.size, 1, none⟩) (Nat.le_refl _) (.int .u64 x.b)).setCell (p := ⟨w.heap.size, 2, none⟩) (Nat.le_refl _) (.int .u64 x.c)).setCell (p := ⟨w.heap.size, 3, none⟩) (Nat.le_refl _) (.int .u64 x.d)
  exact ⟨((((o1.other (p := ⟨w.heap.size + 1, 0, none⟩) (by simp) (.int .u64 y.a)).other (p := ⟨w.heap.size + 1, 1, none⟩) (by simp) (.int .u64 y.b)).other (p := ⟨w.heap.size + 1, 2, none⟩) (by simp) (.int .u64 y.c)).other (p := ⟨w.heap.size + 1, 3, none⟩) (by simp) (.int .u64 y.d)),
    (((o2.set 0 (.int .u64 y.a)).set 1 (.int .u64 y.b)).set 2 (.int .u64 y.c)).set 3 (.int .u64 y.d),
    (((k1.setCell (p := ⟨w.heap.size + 1, 0, none⟩) (Nat.le_succ _) (.int .u64 y.a)).setCell (p := ⟨w.heap.size + 1, 1, none⟩) (Nat.le_succ _) (.int .u64 y.b)).setCell (p := ⟨w.heap.size + 1, 2, none⟩) (Nat.le_succ _) (.int .u64 y.c)).setCell (p := ⟨w.heap.size + 1, 3, none⟩) (Nat.le_succ _) (.int .u64 y.d)⟩

set_option maxHeartbeats 6400000 in
set_option maxRecDepth 100000 in
theorem fCompare_any (a b : V4) (w : World) : Calls Try.prog 18 #[aggV a, aggV b] w fun e w' => e = .returned (.int .i64 (cmpV a b)) ∧ Below w.heap.size w w' := by
  have T0 : T2 (cellsV a) (cellsV b) w ((w.alloc (.cells #[.int .u64 a.a, .int .u64 a.b, .int .u64 a.c, .int .u64 a.d] 31)).alloc (.cells #[.int .u64 b.a, .int .u64 b.b, .int .u64 b.c, .int .u64 b.d] 31)) := T2.new w (cellsV a) (cellsV b) 31 31
  have HE := Lib.hid (show cmpV a b = cmpL (downV a) (downV b) from rfl)
  have HFA := Lib.hid (falling_any a)
  have HFB := Lib.hid (falling_any b)
  generalize downV a = x at *
  generalize downV b = y at *
  go_enter Try.func18, Try.ntmps18
  go_upto_region 1 with fail
  generalize hW : ((w.alloc (.cells #[.int .u64 a.a, .int .u64 a.b, .int .u64 a.c, .int .u64 a.d] 31)).alloc (.cells #[.int .u64 b.a, .int .u64 b.b, .int .u64 b.c, .int .u64 b.d] 31)) = W at *
  clear hW
  obtain ⟨a0, a1, a2, a3, a4⟩ := T0.one.cells4
  obtain ⟨b0, b1, b2, b3, b4⟩ := T0.two.cells4
  obtain ⟨f0, f1, f2, f3⟩ := T0.one.free4
  obtain ⟨g0, g1, g2, g3⟩ := T0.two.free4
  have HT := Lib.hid T0
  clear T0
  go_region_with (first
      | (go_at_call 28; (with_reducible refine (HFA.out _).mono ?_); rintro e w1 ⟨rfl, hb1⟩; have hT1 := HT.out.drew.keep hb1; obtain ⟨c0, c1, c2, c3, c4⟩ := hT1.two.cells4; replace hT1 := Lib.hid hT1; clear hb1)
      | (go_at_call 28; (with_reducible refine (HFB.out _).mono ?_); rintro e w2 ⟨rfl, hb2⟩; have hT2 := hT1.out.keep hb2; obtain ⟨d0, d1, d2, d3, d4⟩ := hT2.one.cells4;  obtain ⟨e0, e1, e2, e3, e4⟩ := hT2.two.cells4; obtain ⟨h0, h1, h2, h3⟩ := hT2.one.free4; obtain ⟨i0, i1, i2, i3⟩ := hT2.two.free4; replace hT2 := Lib.hid hT2; clear hb2))
  all_goals
    have T3 := hT2.out.put2 x y
    generalize hV : ((((((((w2.setCell ⟨w.heap.size, 0, none⟩ (.int .u64 x.a)).setCell ⟨w.heap.size, 1, none⟩ (.int .u64 x.b)).setCell ⟨w.heap.size, 2, none⟩ (.int .u64 x.c)).setCell ⟨w.heap.size, 3, none⟩ (.int .u64 x.d)).setCell ⟨w.heap.size + 1, 0, none⟩ (.int .u64 y.a)).setCell ⟨w.heap.size + 1, 1, none⟩ (.int .u64 y.b)).setCell ⟨w.heap.size + 1, 2, none⟩ (.int .u64 y.c)).setCell ⟨w.heap.size + 1, 3, none⟩ (.int .u64 y.d)) = V at *
    clear hV hT2 hT1 d0 d1 d2 d3 d4 e0 e1 e2 e3 e4 h0 h1 h2 h3 i0 i1 i2 i3 c0 c1 c2 c3 c4 a0 a1 a2 a3 a4 b0 b1 b2 b3 b4 f0 f1 f2 f3 g0 g1 g2 g3 HT HFA HFB
    have HC : Hid (∀ U : World, ((∀ b o, b < V.heap.size → U.cell? ⟨b, o, none⟩ = V.cell? ⟨b, o, none⟩) ∧ Below V.heap.size V U) → Calls Try.prog 29 #[.slice (some ⟨w.heap.size, 0, none⟩) 4 4, .slice (some ⟨w.heap.size + 1, 0, none⟩) 4 4] U fun e w' => e = .returned (.int .i64 (cmpL x y)) ∧ U = w') := fun U hU =>
      sCompare_any x y _ _ U (T3.keep hU.2).one (T3.keep hU.2).two
    have HT := Lib.hid T3
    have z1 := T3.one.lt
    have z2 := T3.two.lt
    clear T3
    go_wp2
    go_region_held3 (fun w' => (∀ b o, b < V.heap.size → w'.cell? ⟨b, o, none⟩ = V.cell? ⟨b, o, none⟩) ∧ Below V.heap.size V w')
      (first | (with_reducible assumption) | (show Keeps V _; with_reducible (repeat (first | exact Keeps.refl _ | assumption | refine Keeps.drew ?_ | refine Keeps.alloc ?_ _ | refine Keeps.step ?_ (by assumption)))))
      (first
        | (go_at_call 29; (with_reducible refine (HC.out _ (by assumption)).mono ?_); rintro e w3 ⟨rfl, rfl⟩))
    all_goals
      rename_i hK
      have kV := (HT.out.keep hK.2).below
      clear hK
      go_wp2
      go_ret
      exact ⟨ret_int HE.out.symm, kV⟩

set_option maxHeartbeats 3200000 in
set_option maxRecDepth 100000 in
theorem fTighter_any (a b : V4) (w : World) : Calls Try.prog 7 #[aggV a, aggV b] w fun e w' => e = .returned (.bool (tightV a b)) ∧ Below w.heap.size w w' := by
  have T0 := T2.new w (cellsV a) (cellsV b) 31 31
  have HC := Lib.hid (fCompare_any a b)
  have HE := Lib.hid (cmpV_neg a b)
  generalize cmpV a b = c at *
  have kw := T0.below
  clear T0
  go_enter Try.func7, Try.ntmps7
  go_wp2_with fail
  refine (HC.out _).mono ?_
  rintro e w1 ⟨rfl, hb1⟩
  have k1 := kw.trans (hb1.mono kw.size)
  clear hb1
  go_wp2
  go_ret
  exact ⟨ret_bool HE.out, k1⟩

set_option maxHeartbeats 3200000 in
set_option maxRecDepth 100000 in
theorem bestCmp_any (p q : Int) (a b : V4) (w : World) : Calls Try.prog 23 #[.agg #[.int .i64 p, .int .u64 a.a, .int .u64 a.b, .int .u64 a.c, .int .u64 a.d], .agg #[.int .i64 q, .int .u64 b.a, .int .u64 b.b, .int .u64 b.c, .int .u64 b.d]] w fun e w' => e = .returned (.int .i64 (cmpV a b)) ∧ Below w.heap.size w w' := by
  have T0 : T2 [.int .i64 p, .int .u64 a.a, .int .u64 a.b, .int .u64 a.c, .int .u64 a.d] [.int .i64 q, .int .u64 b.a, .int .u64 b.b, .int .u64 b.c, .int .u64 b.d] w ((w.alloc (.cells #[.int .i64 p, .int .u64 a.a, .int .u64 a.b, .int .u64 a.c, .int .u64 a.d] 58)).alloc (.cells #[.int .i64 q, .int .u64 b.a, .int .u64 b.b, .int .u64 b.c, .int .u64 b.d] 58)) := T2.new w _ _ _ _
  have HC := Lib.hid (fCompare_any a b)
  generalize cmpV a b = c at *
  have kw := T0.below
  clear T0
  go_enter Try.func23, Try.ntmps23
  go_wp2_with fail
  refine (HC.out _).mono ?_
  rintro e w1 ⟨rfl, hb1⟩
  have k1 := kw.trans (hb1.mono kw.size)
  clear hb1
  go_wp2
  go_ret
  exact ⟨rfl, k1⟩
end Go.Proofs.Ytffdemagdagmpaa

/- Where a request fits: the program's Fits, First and Best. -/
namespace Go.Proofs.Ytffdemagdagmpaa
set_option linter.unusedSimpArgs false
open Go.RowKit
set_option linter.unusedVariables false

abbrev cellF (z : Int) : List Value := [.int .i64 z]
theorem lenF (z : Int) : (cellF z).length = 1 := rfl
theorem oneF (z : Int) : ∀ u ∈ cellF z, u.oneCell' = true := by
  intro u hu; simp only [List.mem_cons, List.not_mem_nil, or_false] at hu
  subst hu; rfl
theorem infoIntF : (Try.prog.info? 3).map (fun i => (i.zero, i.size, i.bytes)) = some (some (.int .i64 0), 1, 8) := by kernel_rfl
theorem underIntF : Try.prog.underlying 39 = some (.slice 3) := by kernel_rfl
def nodesS (xs : List SiteD) : List Int := xs.map SiteD.node
/-- A row of numbers of the call's own. -/
def FitsTo (zs : List Int) (w : World) (e : Ending) (w' : World) : Prop := ∃ A c, e = .returned (.slice A zs.length c) ∧ Out 1 cellF w' zs A c ∧ Below w.heap.size w w'
def FitsRel (xs : List SiteD) (W : World) (B : Nat) (v i : Value) (wr : World) : Prop :=
  ∃ k : Nat, k ≤ xs.length ∧ i = .int .i64 k ∧ wr.ownsRow B 3 1 v k ((nodesS (xs.take k)).flatMap cellF) ∧ Below B W wr
theorem fits_take {xs : List SiteD} {k : Nat} (h : k < xs.length) {x : SiteD} (hx : xs[k] = x) : (nodesS (xs.take (k + 1))).flatMap cellF = (nodesS (xs.take k)).flatMap cellF ++ cellF x.node := by
  rw [List.take_succ_eq_append_getElem h, hx]; simp [nodesS]

set_option maxHeartbeats 6400000 in
set_option maxRecDepth 100000 in
theorem fits14_any (ns : List NodeD) (l : List PodD) (req : V4) (hno : ∀ x ∈ ns, x.Ok) (hlo : ∀ p ∈ l, p.Ok) (hq : req.Ok) (A1 A4 : Option Addr) (n1 c1 n4 c4 : Nat) (s2 s3 v1 v2 : Value) (w : World)
    (hn1 : n1 = ns.length) (hl1 : n1 ≤ 400) (hr1 : Recs 10 cellsN w w.heap.size A1 ns) (hn4 : n4 = l.length) (hl4 : n4 ≤ 400) (hr4 : Recs 8 cellsP w w.heap.size A4 l) :
    Calls Try.prog 10 #[.agg #[.slice A1 n1 c1, s2, s3], .agg #[.slice A4 n4 c4, v1, v2], aggV req] w (FitsTo (nodesS (sitesD ns l req ns)) w) := by
  have T0 := T3.new w [.slice A1 n1 c1, s2, s3] [.slice A4 n4 c4, v1, v2] (cellsV req) 26 28 31
  have HS := Lib.hid (sites_any ns l req hno hlo hq A1 A4 n1 c1 n4 c4 s2 s3 v1 v2 _ hn1 hl1 ((hr1.below T0.below (Nat.le_refl _)).more T0.below.size) hn4 hl4 ((hr4.below T0.below (Nat.le_refl _)).more T0.below.size))
  have HL : Hid ((sitesD ns l req ns).length ≤ 400) := by
    show _ ≤ _
    have := sites_len ns l req ns
    omega
  have HT := Lib.hid T0
  clear hn1 hl1 hr1 hn4 hl4 hr4 hno hlo hq T0
  generalize sitesD ns l req ns = xs at *
  have kw := HT.out.below
  have hz3 : w.heap.size + 3 ≤ (((w.alloc (.cells #[.slice A1 n1 c1, s2, s3] 26)).alloc (.cells #[.slice A4 n4 c4, v1, v2] 28)).alloc (.cells #[.int .u64 req.a, .int .u64 req.b, .int .u64 req.c, .int .u64 req.d] 31)).heap.size := by simp
  go_enter Try.func10, Try.ntmps10
  go_wp2_with fail
  refine HS.out.mono ?_
  rintro e W ⟨A, c, rfl, hout, hbW⟩
  have kW := kw.trans (hbW.mono kw.size)
  have hzW : w.heap.size + 3 ≤ W.heap.size := Nat.le_trans hz3 hbW.size
  have HR := Lib.hid hout.recs
  have HK := Lib.hid kW
  have hl4 : xs.length ≤ 400 := HL.out
  clear hout hbW kw kW HS HT hz3
  go_wp2
  go_loopw [7, 15] (FitsRel xs W W.heap.size) (fun _ i _ => xs.length - (intOf i).toNat)
  case atStart => exact ⟨0, by omega, rfl, ⟨by simp [nodesS], .inl ⟨rfl, by simp⟩⟩, Below.refl _ _⟩
  case round =>
    obtain ⟨k, hk, rfl, hown, hbr⟩ := hrel
    have HOW := Lib.hid hown
    have HBR := Lib.hid hbr
    have hzr := hbr.size
    clear hown
    by_cases hlt : k < xs.length
    · obtain ⟨b, o, rfl, hb, he⟩ := HR.out.at hlt
      generalize hx : xs[k] = x at *
      have HXX := Lib.hid (fits_take hlt hx)
      clear hx
      have e0 : wr.cell? ⟨b, o + k * 5, none⟩ = some (.int .i64 x.node) := (hbr.cell (p := ⟨b, o + k * 5, none⟩) hb).trans (he 0 _ rfl)
      have e1 : wr.cell? ⟨b, o + k * 5 + 1, none⟩ = some (.int .u64 x.left.a) := (hbr.cell (p := ⟨b, o + k * 5 + 1, none⟩) hb).trans (he 1 _ rfl)
      have e2 : wr.cell? ⟨b, o + k * 5 + 2, none⟩ = some (.int .u64 x.left.b) := (hbr.cell (p := ⟨b, o + k * 5 + 2, none⟩) hb).trans (he 2 _ rfl)
      have e3 : wr.cell? ⟨b, o + k * 5 + 3, none⟩ = some (.int .u64 x.left.c) := (hbr.cell (p := ⟨b, o + k * 5 + 3, none⟩) hb).trans (he 3 _ rfl)
      have e4 : wr.cell? ⟨b, o + k * 5 + 4, none⟩ = some (.int .u64 x.left.d) := (hbr.cell (p := ⟨b, o + k * 5 + 4, none⟩) hb).trans (he 4 _ rfl)
      have hbw : b < wr.heap.size := by omega
      have NB : Bf (wr.alloc (.cells #[.int .i64 x.node, .int .u64 x.left.a, .int .u64 x.left.b, .int .u64 x.left.c, .int .u64 x.left.d] 58)) wr.heap.size (cellsS x) := Bf.new wr (cellsS x) 58 rfl
      have ON := HOW.out.alloc (.cells #[.int .i64 x.node, .int .u64 x.left.a, .int .u64 x.left.b, .int .u64 x.left.c, .int .u64 x.left.d] 58)
      have BN := hbr.alloc hzr (.cells #[.int .i64 x.node, .int .u64 x.left.a, .int .u64 x.left.b, .int .u64 x.left.c, .int .u64 x.left.d] 58)
      have hzN : W.heap.size ≤ (wr.alloc (.cells #[.int .i64 x.node, .int .u64 x.left.a, .int .u64 x.left.b, .int .u64 x.left.c, .int .u64 x.left.d] 58)).heap.size := by simp; omega
      clear he hbr
      go_upto_region 5 with fail
      generalize hV : wr.alloc (.cells #[.int .i64 x.node, .int .u64 x.left.a, .int .u64 x.left.b, .int .u64 x.left.c, .int .u64 x.left.d] 58) = V at *
      generalize hh : wr.heap.size = h at *
      have n0 : V.cell? ⟨h, 0, none⟩ = some (.int .i64 x.node) := NB.cell 0 _ rfl
      have n1' := NB.lt
      have HON := Lib.hid ON
      have HBN := Lib.hid BN
      have HZN := Lib.hid hzN
      have HLK : Hid (k ≤ 2000000) := by show _ ≤ _; omega
      clear NB ON BN hV hh e0 e1 e2 e3 e4 hbw
      go_wp2_with (at_builtin; refine wpList_pushR 39 3 (.int .i64 0) 1 8 underIntF infoIntF rfl (by decide) (by decide) rfl (.tmp 19) (.tmp 22) rfl W.heap.size _ k _ (cellF x.node) rfl (oneF _) HON.out HZN.out HLK.out rfl rfl ?_; intro v' w3 hown3 hb3 hB3)
      have HO3 := Lib.hid hown3
      clear hown3
      go_wp2
      go_roundw
      case rel => exact ⟨k + 1, by omega, by go_num, by rw [HXX.out]; exact HO3.out, HBN.out.trans hb3⟩
      case measure => simp [intOf]; omega
    · have hke : k = xs.length := by omega
      subst hke
      have how := HOW.out
      rw [List.take_length] at how
      have hlen : xs.length = (nodesS xs).length := by simp [nodesS]
      obtain ⟨A', c', rfl, hc1, hc2, hc3, hrec⟩ := recs_of_own lenF hlen how
      have HRE := Lib.hid hrec
      have HLN := Lib.hid hlen
      have kwr := HK.out.trans (hbr.mono HK.out.size)
      clear how hrec hlen hbr
      go_wp2
      go_ret
      exact ⟨A', c', by rw [← HLN.out]; rfl, ⟨by rw [← HLN.out]; exact hc1, hc2, hc3, HRE.out⟩, kwr⟩

set_option maxHeartbeats 3200000 in
set_option maxRecDepth 100000 in
theorem first_any14 (ns : List NodeD) (l : List PodD) (req : V4) (hno : ∀ x ∈ ns, x.Ok) (hlo : ∀ p ∈ l, p.Ok) (hq : req.Ok) (A1 A4 : Option Addr) (n1 c1 n4 c4 : Nat) (s2 s3 v1 v2 : Value) (w : World)
    (hn1 : n1 = ns.length) (hl1 : n1 ≤ 400) (hr1 : Recs 10 cellsN w w.heap.size A1 ns) (hn4 : n4 = l.length) (hl4 : n4 ≤ 400) (hr4 : Recs 8 cellsP w w.heap.size A4 l) :
    Calls Try.prog 12 #[.agg #[.slice A1 n1 c1, s2, s3], .agg #[.slice A4 n4 c4, v1, v2], aggV req] w fun e w' => e = .returned (.int .i64 (firstS (sitesD ns l req ns))) ∧ Below w.heap.size w w' := by
  have T0 := T3.new w [.slice A1 n1 c1, s2, s3] [.slice A4 n4 c4, v1, v2] (cellsV req) 26 28 31
  have HS := Lib.hid (sites_any ns l req hno hlo hq A1 A4 n1 c1 n4 c4 s2 s3 v1 v2 _ hn1 hl1 ((hr1.below T0.below (Nat.le_refl _)).more T0.below.size) hn4 hl4 ((hr4.below T0.below (Nat.le_refl _)).more T0.below.size))
  have HL : Hid ((sitesD ns l req ns).length ≤ 400) := by
    show _ ≤ _
    have := sites_len ns l req ns
    omega
  have HT := Lib.hid T0
  clear hn1 hl1 hr1 hn4 hl4 hr4 hno hlo hq T0
  generalize sitesD ns l req ns = xs at *
  have kw := HT.out.below
  go_enter Try.func12, Try.ntmps12
  go_wp2_with fail
  refine HS.out.mono ?_
  rintro e W ⟨A, c, rfl, hout, hbW⟩
  have kW := kw.trans (hbW.mono kw.size)
  have HR := Lib.hid hout.recs
  clear hout hbW kw HS HT
  cases xs with
  | nil =>
    go_wp2
    go_ret
    exact ⟨rfl, kW⟩
  | cons x r =>
    obtain ⟨b, o, rfl, hb, he⟩ := HR.out.at (k := 0) (by simp)
    have e0 : W.cell? ⟨b, o, none⟩ = some (.int .i64 x.node) := by have := he 0 _ rfl; simpa using this
    have hd : (((r.length + 1 : Nat) : Int) == 0) = false := by simp; omega
    have hlt : decide ((0 : Int) < ((r.length + 1 : Nat) : Int)) = true := decide_eq_true (by omega)
    rw [List.length_cons]
    clear he HR
    go_wp2
    go_ret
    exact ⟨rfl, kW⟩
end Go.Proofs.Ytffdemagdagmpaa

/- The tightest one: slices.MinFunc at sites, and the program's Best. -/
namespace Go.Proofs.Ytffdemagdagmpaa
set_option linter.unusedSimpArgs false
open Go.RowKit
set_option linter.unusedVariables false

def zerS : SiteD := ⟨0, .zer⟩
def aggS (x : SiteD) : Value := .agg #[.int .i64 x.node, .int .u64 x.left.a, .int .u64 x.left.b, .int .u64 x.left.c, .int .u64 x.left.d]
theorem T2.putS {a x : SiteD} {w V : World} (h : T2 (cellsS a) (cellsS x) w V) (y : SiteD) : T2 (cellsS a) (cellsS y) w (((((V.setCell ⟨w.heap.size + 1, 0, none⟩ (.int .i64 y.node)).setCell ⟨w.heap.size + 1, 1, none⟩ (.int .u64 y.left.a)).setCell ⟨w.heap.size + 1, 2, none⟩ (.int .u64 y.left.b)).setCell ⟨w.heap.size + 1, 3, none⟩ (.int .u64 y.left.c)).setCell ⟨w.heap.size + 1, 4, none⟩ (.int .u64 y.left.d)) :=
  ⟨((((h.one.other (p := ⟨w.heap.size + 1, 0, none⟩) (by simp) _).other (p := ⟨w.heap.size + 1, 1, none⟩) (by simp) _).other (p := ⟨w.heap.size + 1, 2, none⟩) (by simp) _).other (p := ⟨w.heap.size + 1, 3, none⟩) (by simp) _).other (p := ⟨w.heap.size + 1, 4, none⟩) (by simp) _,
    ((((h.two.set 0 (.int .i64 y.node)).set 1 (.int .u64 y.left.a)).set 2 (.int .u64 y.left.b)).set 3 (.int .u64 y.left.c)).set 4 (.int .u64 y.left.d),
    ((((h.below.setCell (p := ⟨w.heap.size + 1, 0, none⟩) (Nat.le_succ _) _).setCell (p := ⟨w.heap.size + 1, 1, none⟩) (Nat.le_succ _) _).setCell (p := ⟨w.heap.size + 1, 2, none⟩) (Nat.le_succ _) _).setCell (p := ⟨w.heap.size + 1, 3, none⟩) (Nat.le_succ _) _).setCell (p := ⟨w.heap.size + 1, 4, none⟩) (Nat.le_succ _) _⟩
theorem Bf.cells5S {V : World} {b : Nat} {x : SiteD} (h : Bf V b (cellsS x)) : V.cell? ⟨b, 0, none⟩ = some (.int .i64 x.node) ∧ V.cell? ⟨b, 1, none⟩ = some (.int .u64 x.left.a) ∧ V.cell? ⟨b, 2, none⟩ = some (.int .u64 x.left.b) ∧ V.cell? ⟨b, 3, none⟩ = some (.int .u64 x.left.c) ∧ V.cell? ⟨b, 4, none⟩ = some (.int .u64 x.left.d) ∧ b < V.heap.size :=
  ⟨h.cell 0 _ rfl, h.cell 1 _ rfl, h.cell 2 _ rfl, h.cell 3 _ rfl, h.cell 4 _ rfl, h.lt⟩
theorem Bf.free5 {V : World} {b : Nat} {l : List Value} (h : Bf V b l) : V.frozen? ⟨b, 0, none⟩ = false ∧ V.frozen? ⟨b, 1, none⟩ = false ∧ V.frozen? ⟨b, 2, none⟩ = false ∧ V.frozen? ⟨b, 3, none⟩ = false ∧ V.frozen? ⟨b, 4, none⟩ = false :=
  ⟨h.frozen 0, h.frozen 1, h.frozen 2, h.frozen 3, h.frozen 4⟩
def MinRel (x0 : SiteD) (r : List SiteD) (w : World) (i : Value) (wr : World) : Prop :=
  ∃ j : Nat, 1 ≤ j ∧ j ≤ r.length + 1 ∧ i = .int .i64 j ∧ T2 (cellsS zerS) (cellsS (pickS x0 (r.take (j - 1)))) w wr
theorem pick_take {x0 : SiteD} {r : List SiteD} {j : Nat} (h1 : 1 ≤ j) (h : j < r.length + 1) {y m : SiteD} (hy : (x0 :: r)[j]'(by simpa using h) = y) (hm : pickS x0 (r.take (j - 1)) = m) : pickS x0 (r.take (j + 1 - 1)) = if tightV y.left m.left = true then y else m := by
  obtain ⟨k, rfl⟩ : ∃ k, j = k + 1 := ⟨j - 1, by omega⟩
  have hk : k < r.length := by omega
  rw [List.getElem_cons_succ] at hy
  rw [show k + 1 + 1 - 1 = k + 1 by omega, List.take_succ_eq_append_getElem hk, hy, pick_snoc]
  rw [show k + 1 - 1 = k by omega] at hm
  rw [hm]

set_option maxHeartbeats 6400000 in
set_option maxRecDepth 100000 in
theorem minFunc_any (x0 : SiteD) (r : List SiteD) (hl : r.length ≤ 400) (b o c : Nat) (w : World) (hb : b < w.heap.size) (he : ∀ i (h : i < (x0 :: r).length) j u, (cellsS (x0 :: r)[i])[j]? = some u → w.cell? ⟨b, o + i * 5 + j, none⟩ = some u) :
    Calls Try.prog 22 #[.slice (some ⟨b, o, none⟩) (r.length + 1) c, .func (.func 23) #[] #[]] w fun e w' => e = .returned (aggS (pickS x0 r)) ∧ Below w.heap.size w w' := by
  have eg : ∀ args w, (callFunc 23 args).run Try.prog w = .ok (.enter 23 args) w := enters_of Try.func23 (by kernel_rfl) rfl
  have e0 : w.cell? ⟨b, o, none⟩ = some (.int .i64 x0.node) := by have := he 0 (by simp) 0 _ rfl; simpa using this
  have e1 : w.cell? ⟨b, o + 1, none⟩ = some (.int .u64 x0.left.a) := by have := he 0 (by simp) 1 _ rfl; simpa using this
  have e2 : w.cell? ⟨b, o + 2, none⟩ = some (.int .u64 x0.left.b) := by have := he 0 (by simp) 2 _ rfl; simpa using this
  have e3 : w.cell? ⟨b, o + 3, none⟩ = some (.int .u64 x0.left.c) := by have := he 0 (by simp) 3 _ rfl; simpa using this
  have e4 : w.cell? ⟨b, o + 4, none⟩ = some (.int .u64 x0.left.d) := by have := he 0 (by simp) 4 _ rfl; simpa using this
  have hd : decide (((r.length + 1 : Nat) : Int) < 1) = false := decide_eq_false (by omega)
  have hlt : decide ((0 : Int) < ((r.length + 1 : Nat) : Int)) = true := decide_eq_true (by omega)
  have HE : Hid (∀ (j : Nat) (h : j < (x0 :: r).length) (V : World), Below w.heap.size w V → V.cell? ⟨b, o + j * 5, none⟩ = some (.int .i64 (x0 :: r)[j].node) ∧ V.cell? ⟨b, o + j * 5 + 1, none⟩ = some (.int .u64 (x0 :: r)[j].left.a) ∧ V.cell? ⟨b, o + j * 5 + 2, none⟩ = some (.int .u64 (x0 :: r)[j].left.b) ∧ V.cell? ⟨b, o + j * 5 + 3, none⟩ = some (.int .u64 (x0 :: r)[j].left.c) ∧ V.cell? ⟨b, o + j * 5 + 4, none⟩ = some (.int .u64 (x0 :: r)[j].left.d) ∧ b < V.heap.size) :=
    fun j h V hV => ⟨(hV.cell (p := ⟨b, _, none⟩) hb).trans (he j h 0 _ rfl), (hV.cell (p := ⟨b, _, none⟩) hb).trans (he j h 1 _ rfl), (hV.cell (p := ⟨b, _, none⟩) hb).trans (he j h 2 _ rfl), (hV.cell (p := ⟨b, _, none⟩) hb).trans (he j h 3 _ rfl), (hV.cell (p := ⟨b, _, none⟩) hb).trans (he j h 4 _ rfl), Nat.lt_of_lt_of_le hb hV.size⟩
  have T0 : T2 (cellsS zerS) (cellsS x0) w ((w.alloc (.cells #[.int .i64 0, .int .u64 0, .int .u64 0, .int .u64 0, .int .u64 0] 58)).alloc (.cells #[.int .i64 x0.node, .int .u64 x0.left.a, .int .u64 x0.left.b, .int .u64 x0.left.c, .int .u64 x0.left.d] 58)) := T2.new w (cellsS zerS) (cellsS x0) 58 58
  clear he
  go_enter Try.func22, Try.ntmps22
  go_upto_region 4 with fail
  generalize hW : ((w.alloc (.cells #[.int .i64 0, .int .u64 0, .int .u64 0, .int .u64 0, .int .u64 0] 58)).alloc (.cells #[.int .i64 x0.node, .int .u64 x0.left.a, .int .u64 x0.left.b, .int .u64 x0.left.c, .int .u64 x0.left.d] 58)) = W at *
  clear hW e0 e1 e2 e3 e4 hd hlt hb
  have HT := Lib.hid T0
  clear T0
  go_wp2
  have hl4 := hl
  go_loopw [6] (MinRel x0 r w) (fun i _ => r.length + 1 - (intOf i).toNat)
  case atStart => exact ⟨1, by omega, by omega, rfl, HT.out⟩
  case round =>
    obtain ⟨j, hj1, hj, rfl, hT⟩ := hrel
    by_cases hlt : j < r.length + 1
    · have HX := Lib.hid (fun m y => pick_take (x0 := x0) hj1 hlt (y := y) (m := m))
      have hjl : j < (x0 :: r).length := by simpa using hlt
      have EE := HE.out j hjl wr hT.below
      generalize hm : pickS x0 (r.take (j - 1)) = m at *
      generalize hy : (x0 :: r)[j] = y at *
      have HP := Lib.hid (HX.out m y rfl rfl)
      have HC := Lib.hid (bestCmp_any y.node m.node y.left m.left)
      have HN := Lib.hid (cmpV_neg y.left m.left)
      obtain ⟨e0, e1, e2, e3, e4, ebl⟩ := EE
      obtain ⟨m0, m1, m2, m3, m4, m5⟩ := hT.two.cells5S
      have HTT := Lib.hid hT
      have hi0 : (0 : Int) ≤ (j : Int) := by omega
      have hi1 : (j : Int) < (r.length : Int) + 1 := by omega
      have hi2 : (j : Int) < ((r.length + 1 : Nat) : Int) := by omega
      have HYY := Lib.hid hy
      clear hm hy HX hT HT
      go_upto_region 7 with fail
      go_region_held3 (fun w' => (∀ b o, b < wr.heap.size → w'.cell? ⟨b, o, none⟩ = wr.cell? ⟨b, o, none⟩) ∧ Below wr.heap.size wr w')
        (first | (with_reducible assumption) | (show Keeps wr _; with_reducible (repeat (first | exact Keeps.refl _ | assumption | refine Keeps.drew ?_ | refine Keeps.alloc ?_ _ | refine Keeps.step ?_ (by assumption)))))
        (first
          | (go_at_call 23; (with_reducible refine (HC.out _).mono ?_); rintro e w3 ⟨rfl, hb3⟩))
      all_goals
        rename_i hK
        have hT3 := HTT.out.keep hK.2
        have EE := HE.out j hjl w3 hT3.below
        rw [HYY.out] at EE
        have HY := Lib.hid EE
        have HN' := HN.out
        clear hK hb3 e0 e1 e2 e3 e4 ebl m0 m1 m2 m3 m4 m5 HTT HC EE HN
        cases ht : tightV y.left m.left with
        | false =>
          rw [ht] at HN'
          have HP2 := Lib.hid (show pickS x0 (r.take (j + 1 - 1)) = m by
            have h := HP.out
            rw [ht] at h
            simpa using h)
          rw [HN']
          have HTT := Lib.hid hT3
          clear ht hT3
          go_wp2
          go_roundw
          case rel => exact ⟨j + 1, by omega, by omega, by go_num, by rw [HP2.out]; exact HTT.out⟩
          case measure => simp [intOf]; omega
        | true =>
          rw [ht] at HN'
          have HP2 := Lib.hid (show pickS x0 (r.take (j + 1 - 1)) = y by
            have h := HP.out
            rw [ht] at h
            simpa using h)
          rw [HN']
          obtain ⟨m0, m1, m2, m3, m4, m5⟩ := hT3.two.cells5S
          obtain ⟨f0, f1, f2, f3, f4⟩ := hT3.two.free5
          obtain ⟨e0, e1, e2, e3, e4, e5⟩ := HY.out
          have HTT := Lib.hid (hT3.putS y)
          clear ht hT3
          go_wp2
          go_roundw
          case rel => exact ⟨j + 1, by omega, by omega, by go_num, by rw [HP2.out]; exact HTT.out⟩
          case measure => simp [intOf]; omega
    · have hje : r.take (j - 1) = r := List.take_of_length_le (by omega)
      rw [hje] at hT
      obtain ⟨m0, m1, m2, m3, m4, m5⟩ := hT.two.cells5S
      obtain ⟨z0, z1, z2, z3, z4, z5⟩ := hT.one.cells5S
      obtain ⟨f0, f1, f2, f3, f4⟩ := hT.one.free5
      have kw := hT.below
      generalize hpk : pickS x0 r = m at *
      have HK := Lib.hid hpk
      clear hT hpk hje
      go_wp2
      refine bodyPost_ret (v := aggS m) ?_ rfl ?_
      · simp [results, aggS, Try.results22, go_sem, *]
      · refine ⟨by rw [HK.out], ?_⟩
        repeat (first | with_reducible exact kw | with_reducible refine Below.setCell ?_ ?_ _)
        all_goals first | (show w.heap.size ≤ w.heap.size; omega) | (simp; omega) | omega

set_option maxHeartbeats 3200000 in
set_option maxRecDepth 100000 in
theorem best_any14 (ns : List NodeD) (l : List PodD) (req : V4) (hno : ∀ x ∈ ns, x.Ok) (hlo : ∀ p ∈ l, p.Ok) (hq : req.Ok) (A1 A4 : Option Addr) (n1 c1 n4 c4 : Nat) (s2 s3 v1 v2 : Value) (w : World)
    (hn1 : n1 = ns.length) (hl1 : n1 ≤ 400) (hr1 : Recs 10 cellsN w w.heap.size A1 ns) (hn4 : n4 = l.length) (hl4 : n4 ≤ 400) (hr4 : Recs 8 cellsP w w.heap.size A4 l) :
    Calls Try.prog 14 #[.agg #[.slice A1 n1 c1, s2, s3], .agg #[.slice A4 n4 c4, v1, v2], aggV req] w fun e w' => e = .returned (.int .i64 (bestS (sitesD ns l req ns))) ∧ Below w.heap.size w w' := by
  have T0 := T3.new w [.slice A1 n1 c1, s2, s3] [.slice A4 n4 c4, v1, v2] (cellsV req) 26 28 31
  have HS := Lib.hid (sites_any ns l req hno hlo hq A1 A4 n1 c1 n4 c4 s2 s3 v1 v2 _ hn1 hl1 ((hr1.below T0.below (Nat.le_refl _)).more T0.below.size) hn4 hl4 ((hr4.below T0.below (Nat.le_refl _)).more T0.below.size))
  have HL : Hid ((sitesD ns l req ns).length ≤ 400) := by
    show _ ≤ _
    have := sites_len ns l req ns
    omega
  have HT := Lib.hid T0
  clear hn1 hl1 hr1 hn4 hl4 hr4 hno hlo hq T0
  generalize sitesD ns l req ns = xs at *
  have kw := HT.out.below
  go_enter Try.func14, Try.ntmps14
  go_wp2_with fail
  refine HS.out.mono ?_
  rintro e W ⟨A, c, rfl, hout, hbW⟩
  have kW := kw.trans (hbW.mono kw.size)
  have HR := Lib.hid hout.recs
  have HLL := HL.out
  clear hout hbW kw HS HT
  cases xs with
  | nil =>
    go_wp2
    go_ret
    exact ⟨rfl, kW⟩
  | cons x r =>
    rcases HR.out with h | ⟨b, o, rfl, hb, he⟩
    · cases h
    have HC := Lib.hid (minFunc_any x r (by simp at HLL; omega) b o c W hb he)
    have hd : (((r.length + 1 : Nat) : Int) == 0) = false := by simp; omega
    have HE := Lib.hid (show bestS (x :: r) = (pickS x r).node from rfl)
    have HK := Lib.hid kW
    rw [List.length_cons]
    generalize pickS x r = m at *
    clear he HR HL HLL kW
    go_wp2_with fail
    refine HC.out.mono ?_
    rintro e w3 ⟨rfl, hb3⟩
    have k3 := (HK.out.trans (hb3.mono HK.out.size)).alloc (HK.out.trans (hb3.mono HK.out.size)).size (.cells #[.int .i64 m.node, .int .u64 m.left.a, .int .u64 m.left.b, .int .u64 m.left.c, .int .u64 m.left.d] 58)
    have NB : Bf (w3.alloc (.cells #[.int .i64 m.node, .int .u64 m.left.a, .int .u64 m.left.b, .int .u64 m.left.c, .int .u64 m.left.d] 58)) w3.heap.size (cellsS m) := Bf.new w3 (cellsS m) 58 rfl
    clear hb3
    unfold aggS
    go_upto_region 5 with fail
    generalize w3.alloc (.cells #[.int .i64 m.node, .int .u64 m.left.a, .int .u64 m.left.b, .int .u64 m.left.c, .int .u64 m.left.d] 58) = V at *
    generalize w3.heap.size = h at *
    obtain ⟨e0, e1, e2, e3, e4, e5⟩ := NB.cells5S
    clear NB
    go_wp2
    go_ret
    exact ⟨ret_int HE.out.symm, k3⟩
end Go.Proofs.Ytffdemagdagmpaa

/- The heads of layer 5's laws: few of all, and the document's examples. -/
namespace Go.Proofs.Ytffdemagdagmpaa
set_option linter.unusedSimpArgs false
open Go.RowKit
set_option linter.unusedVariables false

def few05 (n1 n2 n3 nx nt : Nat) : Bool := decide (n1 ≤ 40 ∧ n2 ≤ 40 ∧ n3 ≤ 40) && (decide (nx ≤ 40) && decide (nt ≤ 40))
set_option maxHeartbeats 1600000 in
theorem few05_any (A1 A2 A3 A4 A5 : Option Addr) (n1 c1 n2 c2 n3 c3 n4 c4 n5 c5 : Nat) (v1 v2 u1 u2 : Value) (w : World) :
    Calls Try.prog 6 #[.agg #[.slice A1 n1 c1, .slice A2 n2 c2, .slice A3 n3 c3], .agg #[.slice A4 n4 c4, v1, v2], .agg #[.slice A5 n5 c5, u1, u2]] w fun e w' => e = .returned (.bool (few05 n1 n2 n3 n4 n5)) ∧ Below w.heap.size w w' := by
  have b00 := below_three w (.cells #[.slice A1 n1 c1, .slice A2 n2 c2, .slice A3 n3 c3] 26) (.cells #[.slice A4 n4 c4, v1, v2] 36) (.cells #[.slice A5 n5 c5, u1, u2] 28)
  go_enter Try.func6, Try.ntmps6
  go_wp2_with fail
  refine (few_any _ _ _ _ _ _ _ _ _ _).mono ?_
  rintro e w1 ⟨rfl, hb1⟩
  have k1 : Below (w.heap.size + 3) _ w1 := hb1.mono (by simp)
  have kw1 := b00.trans (k1.mono (by omega))
  have a3 : w1.cell? ⟨w.heap.size + 1, 0, none⟩ = some (.slice A4 n4 c4) := (k1.cell (p := ⟨w.heap.size + 1, 0, none⟩) (by simp)).trans (by rw [World.cell?_alloc_lt _ _ _ (by simp)]; simp)
  have a4 : w1.cell? ⟨w.heap.size + 2, 0, none⟩ = some (.slice A5 n5 c5) := (k1.cell (p := ⟨w.heap.size + 2, 0, none⟩) (by simp)).trans (by rw [World.cell?_alloc_at _ _ _ _ (by simp)]; simp)
  cases hf : decide (n1 ≤ 40 ∧ n2 ≤ 40 ∧ n3 ≤ 40) with
  | false =>
    have HE := Lib.hid (show few05 n1 n2 n3 n4 n5 = false by unfold few05; rw [hf]; rfl)
    clear hf
    go_wp2
    go_ret
    exact ⟨ret_bool HE.out.symm, kw1⟩
  | true =>
    by_cases h4 : n4 ≤ 40
    · have d4 : decide ((n4 : Int) ≤ 40) = true := decide_eq_true (by omega)
      by_cases h5 : n5 ≤ 40
      · have d5 : decide ((n5 : Int) ≤ 40) = true := decide_eq_true (by omega)
        have HE := Lib.hid (show few05 n1 n2 n3 n4 n5 = true by unfold few05; rw [hf]; simp [h4, h5])
        clear hf
        go_wp2
        go_ret
        exact ⟨ret_bool HE.out.symm, kw1⟩
      · have d5 : decide ((n5 : Int) ≤ 40) = false := decide_eq_false (by omega)
        have HE := Lib.hid (show few05 n1 n2 n3 n4 n5 = false by unfold few05; rw [hf]; simp [h5])
        clear hf
        go_wp2
        go_ret
        exact ⟨ret_bool HE.out.symm, kw1⟩
    · have d4 : decide ((n4 : Int) ≤ 40) = false := decide_eq_false (by omega)
      have HE := Lib.hid (show few05 n1 n2 n3 n4 n5 = false by unfold few05; rw [hf]; simp [h4])
      clear hf
      go_wp2
      go_ret
      exact ⟨ret_bool HE.out.symm, kw1⟩
theorem Out.alloc {α : Type} {size : Nat} {cells : α → List Value} {w : World} {xs : List α} {A : Option Addr} {c : Nat} (h : Out size cells w xs A c) (o : Obj) : Out size cells (w.alloc o) xs A c :=
  ⟨h.1, h.2.1, h.2.2.1, (h.2.2.2.below ((Below.refl _ w).alloc (Nat.le_refl _) o) (Nat.le_refl _)).more (by simp)⟩
end Go.Proofs.Ytffdemagdagmpaa

/- The head of layer 14's laws: the document's example, and a request that fits nowhere. -/
namespace Go.Proofs.Ytffdemagdagmpaa
set_option linter.unusedSimpArgs false
open Go.RowKit
set_option linter.unusedVariables false

theorem recsNewF {α : Type} {size : Nat} {cells : α → List Value} (hc : ∀ x, (cells x).length = size) (w : World) (t : TypeId) (xs : List α) (cs : Array Value) (hcs : cs = (xs.flatMap cells).toArray) : Recs size cells (w.alloc (.cells cs t)) (w.heap.size + 1) (some ⟨w.heap.size, 0, none⟩) xs := by
  subst hcs
  refine .inr ⟨w.heap.size, 0, rfl, by omega, fun i hi j u hu => ?_⟩
  have hj : j < size := by have := (List.getElem?_eq_some_iff.1 hu).1; rwa [hc] at this
  have h2 := flatMap_get (size := size) hc hi hj
  rw [hu] at h2
  simpa using h2
def upN14 : List NodeD := [⟨3, 1, ⟨5, 0, 0, 0⟩, ⟨0, 0, 0, 0⟩⟩, ⟨4, 1, ⟨3, 0, 0, 0⟩, ⟨0, 0, 0, 0⟩⟩]
theorem up14_first : firstS (sitesD upN14 [] ⟨2, 0, 0, 0⟩ upN14) = 3 := by decide
theorem up14_best : bestS (sitesD upN14 [] ⟨2, 0, 0, 0⟩ upN14) = 4 := by decide
theorem up14_none : bestS (sitesD upN14 [] ⟨6, 0, 0, 0⟩ upN14) = 0 := by decide
theorem upN14_ok : ∀ x ∈ upN14, x.Ok := by
  intro x hx
  simp only [upN14, List.mem_cons, List.not_mem_nil, or_false] at hx
  rcases hx with rfl | rfl
  · exact ⟨⟨by decide, by decide⟩, ⟨by decide, by decide⟩, ⟨⟨by decide, by decide⟩, ⟨by decide, by decide⟩, ⟨by decide, by decide⟩, ⟨by decide, by decide⟩⟩, ⟨⟨by decide, by decide⟩, ⟨by decide, by decide⟩, ⟨by decide, by decide⟩, ⟨by decide, by decide⟩⟩⟩
  · exact ⟨⟨by decide, by decide⟩, ⟨by decide, by decide⟩, ⟨⟨by decide, by decide⟩, ⟨by decide, by decide⟩, ⟨by decide, by decide⟩, ⟨by decide, by decide⟩⟩, ⟨⟨by decide, by decide⟩, ⟨by decide, by decide⟩, ⟨by decide, by decide⟩, ⟨by decide, by decide⟩⟩⟩
theorem noPod_ok : ∀ p ∈ ([] : List PodD), p.Ok := fun _ h => by simp at h
theorem two_okV : V4.Ok ⟨2, 0, 0, 0⟩ := ⟨⟨by decide, by decide⟩, ⟨by decide, by decide⟩, ⟨by decide, by decide⟩, ⟨by decide, by decide⟩⟩
theorem six_okV : V4.Ok ⟨6, 0, 0, 0⟩ := ⟨⟨by decide, by decide⟩, ⟨by decide, by decide⟩, ⟨by decide, by decide⟩, ⟨by decide, by decide⟩⟩

set_option maxHeartbeats 6400000 in
set_option maxRecDepth 100000 in
theorem up14_any (w : World) : Calls Try.prog 5 #[] w fun e w' => e = .returned (.bool true) ∧ Below w.heap.size w w' := by
  have k0 : Below w.heap.size w ((w.alloc (.cells #[.int .i64 3, .int .i64 1, .int .u64 5, .int .u64 0, .int .u64 0, .int .u64 0, .int .u64 0, .int .u64 0, .int .u64 0, .int .u64 0, .int .i64 4, .int .i64 1, .int .u64 3, .int .u64 0, .int .u64 0, .int .u64 0, .int .u64 0, .int .u64 0, .int .u64 0, .int .u64 0] 51)).alloc (.cells #[.slice (some ⟨w.heap.size, 0, none⟩) 2 2, .slice none 0 0, .slice none 0 0] 26)) := below_two w _ _
  have hr0 : Recs 10 cellsN ((w.alloc (.cells #[.int .i64 3, .int .i64 1, .int .u64 5, .int .u64 0, .int .u64 0, .int .u64 0, .int .u64 0, .int .u64 0, .int .u64 0, .int .u64 0, .int .i64 4, .int .i64 1, .int .u64 3, .int .u64 0, .int .u64 0, .int .u64 0, .int .u64 0, .int .u64 0, .int .u64 0, .int .u64 0] 51)).alloc (.cells #[.slice (some ⟨w.heap.size, 0, none⟩) 2 2, .slice none 0 0, .slice none 0 0] 26)) (w.heap.size + 1) (some ⟨w.heap.size, 0, none⟩) upN14 :=
    (recsNewF (cells := cellsN) (size := 10) (fun _ => rfl) w 51 upN14 _ rfl).below ((Below.refl _ _).alloc (Nat.le_refl _) _) (by simp)
  have hB : Bf ((w.alloc (.cells #[.int .i64 3, .int .i64 1, .int .u64 5, .int .u64 0, .int .u64 0, .int .u64 0, .int .u64 0, .int .u64 0, .int .u64 0, .int .u64 0, .int .i64 4, .int .i64 1, .int .u64 3, .int .u64 0, .int .u64 0, .int .u64 0, .int .u64 0, .int .u64 0, .int .u64 0, .int .u64 0] 51)).alloc (.cells #[.slice (some ⟨w.heap.size, 0, none⟩) 2 2, .slice none 0 0, .slice none 0 0] 26)) (w.heap.size + 1) [.slice (some ⟨w.heap.size, 0, none⟩) 2 2, .slice none 0 0, .slice none 0 0] := Bf.new (w.alloc (.cells #[.int .i64 3, .int .i64 1, .int .u64 5, .int .u64 0, .int .u64 0, .int .u64 0, .int .u64 0, .int .u64 0, .int .u64 0, .int .u64 0, .int .i64 4, .int .i64 1, .int .u64 3, .int .u64 0, .int .u64 0, .int .u64 0, .int .u64 0, .int .u64 0, .int .u64 0, .int .u64 0] 51)) _ _ (by simp)
  go_enter Try.func5, Try.ntmps5
  go_upto_region 2 with fail
  generalize ((w.alloc (.cells #[.int .i64 3, .int .i64 1, .int .u64 5, .int .u64 0, .int .u64 0, .int .u64 0, .int .u64 0, .int .u64 0, .int .u64 0, .int .u64 0, .int .i64 4, .int .i64 1, .int .u64 3, .int .u64 0, .int .u64 0, .int .u64 0, .int .u64 0, .int .u64 0, .int .u64 0, .int .u64 0] 51)).alloc (.cells #[.slice (some ⟨w.heap.size, 0, none⟩) 2 2, .slice none 0 0, .slice none 0 0] 26)) = W at *
  have hz : w.heap.size + 1 ≤ W.heap.size := Nat.le_of_lt hB.lt
  have HN : Hid (∀ V, Below w.heap.size w V → Below W.heap.size W V → Recs 10 cellsN V V.heap.size (some ⟨w.heap.size, 0, none⟩) upN14) := fun V h1 hV => (hr0.below hV hz).more (Nat.le_trans hz hV.size)
  have H1 : Hid (∀ V, Below W.heap.size W V → Calls Try.prog 12 #[.agg #[.slice (some ⟨w.heap.size, 0, none⟩) 2 2, .slice none 0 0, .slice none 0 0], .agg #[.slice none 0 0, .int .i64 0, .int .i64 0], .agg #[.int .u64 2, .int .u64 0, .int .u64 0, .int .u64 0]] V fun e w' => e = .returned (.int .i64 3) ∧ Below V.heap.size V w') := fun V hV => by
    have h := first_any14 upN14 [] ⟨2, 0, 0, 0⟩ upN14_ok noPod_ok two_okV (some ⟨w.heap.size, 0, none⟩) none 2 2 0 0 (.slice none 0 0) (.slice none 0 0) (.int .i64 0) (.int .i64 0) V rfl (by omega) (HN.out V (k0.trans (hV.mono k0.size)) hV) rfl (by omega) Recs.nil
    rw [up14_first] at h
    exact h
  have H2 : Hid (∀ V, Below W.heap.size W V → Calls Try.prog 14 #[.agg #[.slice (some ⟨w.heap.size, 0, none⟩) 2 2, .slice none 0 0, .slice none 0 0], .agg #[.slice none 0 0, .int .i64 0, .int .i64 0], .agg #[.int .u64 2, .int .u64 0, .int .u64 0, .int .u64 0]] V fun e w' => e = .returned (.int .i64 4) ∧ Below V.heap.size V w') := fun V hV => by
    have h := best_any14 upN14 [] ⟨2, 0, 0, 0⟩ upN14_ok noPod_ok two_okV (some ⟨w.heap.size, 0, none⟩) none 2 2 0 0 (.slice none 0 0) (.slice none 0 0) (.int .i64 0) (.int .i64 0) V rfl (by omega) (HN.out V (k0.trans (hV.mono k0.size)) hV) rfl (by omega) Recs.nil
    rw [up14_best] at h
    exact h
  have H3 : Hid (∀ V, Below W.heap.size W V → Calls Try.prog 14 #[.agg #[.slice (some ⟨w.heap.size, 0, none⟩) 2 2, .slice none 0 0, .slice none 0 0], .agg #[.slice none 0 0, .int .i64 0, .int .i64 0], .agg #[.int .u64 6, .int .u64 0, .int .u64 0, .int .u64 0]] V fun e w' => e = .returned (.int .i64 0) ∧ Below V.heap.size V w') := fun V hV => by
    have h := best_any14 upN14 [] ⟨6, 0, 0, 0⟩ upN14_ok noPod_ok six_okV (some ⟨w.heap.size, 0, none⟩) none 2 2 0 0 (.slice none 0 0) (.slice none 0 0) (.int .i64 0) (.int .i64 0) V rfl (by omega) (HN.out V (k0.trans (hV.mono k0.size)) hV) rfl (by omega) Recs.nil
    rw [up14_none] at h
    exact h
  obtain ⟨a0, a1, a2, a3⟩ := hB.cells3
  have HB := Lib.hid hB
  have HK := Lib.hid k0
  clear hr0 hB k0 hz HN
  go_wp2_with fail
  refine (H1.out _ (Below.refl _ _)).mono ?_
  rintro e w1 ⟨rfl, hb1⟩
  have B1 := HB.out.below hb1 HB.out.lt
  clear a0 a1 a2 a3
  obtain ⟨a0, a1, a2, a3⟩ := B1.cells3
  clear B1
  go_wp2_with fail
  refine (H2.out _ hb1).mono ?_
  rintro e w2 ⟨rfl, hb2⟩
  have k2 := hb1.trans (hb2.mono hb1.size)
  have B2 := HB.out.below k2 HB.out.lt
  clear a0 a1 a2 a3 hb1 hb2
  obtain ⟨a0, a1, a2, a3⟩ := B2.cells3
  clear B2
  go_wp2_with fail
  refine (H3.out _ k2).mono ?_
  rintro e w3 ⟨rfl, hb3⟩
  have k3 := HK.out.trans ((k2.trans (hb3.mono k2.size)).mono HK.out.size)
  clear a0 a1 a2 a3 k2 hb3
  go_wp2
  go_ret
  exact ⟨rfl, k3⟩
end Go.Proofs.Ytffdemagdagmpaa

namespace Go.Proofs.Ytffdemagdagmpaa
set_option linter.unusedSimpArgs false
open Go.RowKit
set_option linter.unusedVariables false

end Go.Proofs.Ytffdemagdagmpaa
