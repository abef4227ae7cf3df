/- Joined texts, part 6: FH FE FI FF FJ. -/
import Derived.Test.YtffdemagdagmpaaZ05
import Derived.Test.YtffdemagdagmpaaZ04

/- The reference's Tighter and Left. -/
namespace Go.Proofs.Ytffdemagdagmpaa
set_option linter.unusedSimpArgs false
open Go.RowKit
set_option linter.unusedVariables false

set_option maxHeartbeats 6400000 in
set_option maxRecDepth 100000 in
theorem rTighter_any14 (a b : V4) (w : World) : Calls Try.prog 8 #[aggV a, aggV b] w fun e w' => e = .returned (.bool (tightV a b)) ∧ Below w.heap.size w w' := by
  have T0 := T2.new w (cellsV a) (cellsV b) 31 31
  have HCA := Lib.hid (rDown_any a)
  have HCB := Lib.hid (rDown_any b)
  have HE := Lib.hid (show tightV a b = lexV (downV a) (downV b) from rfl)
  generalize downV a = x at *
  generalize downV b = y at *
  go_enter Try.func8, Try.ntmps8
  go_wp2_with fail
  refine (HCA.out _).mono ?_
  rintro e w1 ⟨rfl, hb1⟩
  have T1 := (T0.keep hb1).alloc (.cells #[.int .u64 x.a, .int .u64 x.b, .int .u64 x.c, .int .u64 x.d] 31)
  have X1 : Bf (w1.alloc (.cells #[.int .u64 x.a, .int .u64 x.b, .int .u64 x.c, .int .u64 x.d] 31)) w1.heap.size (cellsV x) := Bf.new w1 (cellsV x) 31 rfl
  clear hb1 T0
  obtain ⟨b0, b1, b2, b3, b4⟩ := T1.two.cells4
  go_upto_region 2 with fail
  generalize w1.alloc (.cells #[.int .u64 x.a, .int .u64 x.b, .int .u64 x.c, .int .u64 x.d] 31) = W at *
  generalize w1.heap.size = p at *
  have HT1 := Lib.hid T1
  have HX1 := Lib.hid X1
  clear T1 X1
  go_wp2_with fail
  refine (HCB.out _).mono ?_
  rintro e w2 ⟨rfl, hb2⟩
  have k2 := ((HT1.out.keep hb2).alloc (.cells #[.int .u64 y.a, .int .u64 y.b, .int .u64 y.c, .int .u64 y.d] 31)).below
  have X2 := (HX1.out.below hb2 HX1.out.lt).alloc (.cells #[.int .u64 y.a, .int .u64 y.b, .int .u64 y.c, .int .u64 y.d] 31)
  have Y2 : Bf (w2.alloc (.cells #[.int .u64 y.a, .int .u64 y.b, .int .u64 y.c, .int .u64 y.d] 31)) w2.heap.size (cellsV y) := Bf.new w2 (cellsV y) 31 rfl
  clear hb2 HT1 HX1 HCA HCB b0 b1 b2 b3 b4
  go_upto_region 3 with fail
  generalize w2.alloc (.cells #[.int .u64 y.a, .int .u64 y.b, .int .u64 y.c, .int .u64 y.d] 31) = V at *
  generalize w2.heap.size = q at *
  obtain ⟨x0, x1, x2, x3, x4⟩ := X2.cells4
  obtain ⟨y0, y1, y2, y3, y4⟩ := Y2.cells4
  clear X2 Y2
  by_cases h0 : x.a = y.a
  · have hn0 : (x.a != y.a) = false := by simpa using h0
    by_cases h1 : x.b = y.b
    · have hn1 : (x.b != y.b) = false := by simpa using h1
      by_cases h2 : x.c = y.c
      · have hn2 : (x.c != y.c) = false := by simpa using h2
        by_cases h3 : x.d = y.d
        · have hn3 : (x.d != y.d) = false := by simpa using h3
          have HL := Lib.hid (show lexV x y = false by unfold lexV; simp [h0, h1, h2, h3])
          go_wp2
          refine wp_loop_rounds 5 ?_
          rw [rounds_succ]
          go_wp2
          go_quiet (fail)
          go_wp2
          rw [rounds_succ]
          go_wp2
          go_quiet (fail)
          go_wp2
          rw [rounds_succ]
          go_wp2
          go_quiet (fail)
          go_wp2
          rw [rounds_succ]
          go_wp2
          go_quiet (fail)
          go_wp2
          rw [rounds_succ]
          go_wp2
          go_ret
          exact ⟨ret_bool (HE.out.trans HL.out).symm, by repeat (first | exact k2 | refine below_drews ?_ _)⟩
        · have hn3 : (x.d != y.d) = true := by simpa using h3
          have HL := Lib.hid (show lexV x y = decide (x.d < y.d) by unfold lexV; simp [h0, h1, h2, h3])
          clear h3
          go_wp2
          refine wp_loop_rounds 4 ?_
          rw [rounds_succ]
          go_wp2
          go_quiet (fail)
          go_wp2
          rw [rounds_succ]
          go_wp2
          go_quiet (fail)
          go_wp2
          rw [rounds_succ]
          go_wp2
          go_quiet (fail)
          go_wp2
          rw [rounds_succ]
          go_wp2
          go_quiet (fail)
          go_wp2
          go_quiet (fail)
          try go_wp2
          go_ret
          exact ⟨ret_bool (HE.out.trans HL.out).symm, by repeat (first | exact k2 | refine below_drews ?_ _)⟩
      · have hn2 : (x.c != y.c) = true := by simpa using h2
        have HL := Lib.hid (show lexV x y = decide (x.c < y.c) by unfold lexV; simp [h0, h1, h2])
        clear h2
        go_wp2
        refine wp_loop_rounds 3 ?_
        rw [rounds_succ]
        go_wp2
        go_quiet (fail)
        go_wp2
        rw [rounds_succ]
        go_wp2
        go_quiet (fail)
        go_wp2
        rw [rounds_succ]
        go_wp2
        go_quiet (fail)
        go_wp2
        go_quiet (fail)
        try go_wp2
        go_ret
        exact ⟨ret_bool (HE.out.trans HL.out).symm, by repeat (first | exact k2 | refine below_drews ?_ _)⟩
    · have hn1 : (x.b != y.b) = true := by simpa using h1
      have HL := Lib.hid (show lexV x y = decide (x.b < y.b) by unfold lexV; simp [h0, h1])
      clear h1
      go_wp2
      refine wp_loop_rounds 2 ?_
      rw [rounds_succ]
      go_wp2
      go_quiet (fail)
      go_wp2
      rw [rounds_succ]
      go_wp2
      go_quiet (fail)
      go_wp2
      go_quiet (fail)
      try go_wp2
      go_ret
      exact ⟨ret_bool (HE.out.trans HL.out).symm, by repeat (first | exact k2 | refine below_drews ?_ _)⟩
  · have hn0 : (x.a != y.a) = true := by simpa using h0
    have HL := Lib.hid (show lexV x y = decide (x.a < y.a) by unfold lexV; simp [h0])
    clear h0
    go_wp2
    refine wp_loop_rounds 1 ?_
    rw [rounds_succ]
    go_wp2
    go_quiet (fail)
    go_wp2
    go_quiet (fail)
    try go_wp2
    go_ret
    exact ⟨ret_bool (HE.out.trans HL.out).symm, by repeat (first | exact k2 | refine below_drews ?_ _)⟩

/-- What Left tells. -/
def leftO : Option V4 → Value
  | some v => .tuple #[aggV v, .bool true]
  | none => .tuple #[zeroV, .bool false]
theorem left_ret {o : Option V4} {v : Value} (q : Option V4) (h : o = q) (hv : v = leftO q) : Ending.returned v = .returned (leftO o) := by rw [h, hv]

set_option maxHeartbeats 6400000 in
set_option maxRecDepth 100000 in
theorem rLeft_any (ns : List NodeD) (l : List PodD) (req : V4) (id : Int) (hno : ∀ x ∈ ns, x.Ok) (hlo : ∀ p ∈ l, p.Ok) (hq : req.Ok) (A1 A4 : Option Addr) (n1 c1 n4 c4 : Nat) (s2 s3 v1 v2 : Value) (w : World)
    (hn1 : n1 = ns.length) (hl1 : n1 ≤ 400) (hr1 : Recs 10 cellsN w w.heap.size A1 ns) (hn4 : n4 = l.length) (hl4 : n4 ≤ 400) (hr4 : Recs 8 cellsP w w.heap.size A4 l) :
    Calls Try.prog 21 #[.agg #[.slice A1 n1 c1, s2, s3], .agg #[.slice A4 n4 c4, v1, v2], .int .i64 id, aggV req] w fun e w' => e = .returned (leftO (leftAt ns l req id)) ∧ Below w.heap.size w w' := by
  have T0 := Fo.new w [.slice A1 n1 c1, s2, s3] [.slice A4 n4 c4, v1, v2] (cellsV req) (cellsV .zer) 26 28 31 31
  have HC := Lib.hid (refRest_any ns l id hno hlo A1 A4 n1 c1 n4 c4 s2 s3 v1 v2 _ hn1 hl1 ((hr1.below T0.below (Nat.le_refl _)).more T0.below.size) hn4 hl4 ((hr4.below T0.below (Nat.le_refl _)).more T0.below.size))
  have HRO := Lib.hid (rest_ok hno hlo id)
  have HQ := Lib.hid hq
  have HLY := Lib.hid (fun hz => left_yes (ns := ns) (l := l) (req := req) (id := id) hz)
  have HLN := Lib.hid (fun hz => left_no (ns := ns) (l := l) (req := req) (id := id) hz)
  clear hno hlo hq hn1 hl1 hr1 hn4 hl4 hr4
  generalize restD ns l id = rc at *
  obtain ⟨r, cd⟩ := rc
  go_enter Try.func21, Try.ntmps21
  go_wp2_with fail
  refine HC.out.mono ?_
  rintro e w1 ⟨rfl, hb1⟩
  have T1 := (T0.keep hb1).alloc (.cells #[.int .u64 r.a, .int .u64 r.b, .int .u64 r.c, .int .u64 r.d] 31)
  have R1 : Bf (w1.alloc (.cells #[.int .u64 r.a, .int .u64 r.b, .int .u64 r.c, .int .u64 r.d] 31)) w1.heap.size (cellsV r) := Bf.new w1 (cellsV r) 31 rfl
  clear hb1 T0 HC
  by_cases hc : cd = 0
  · subst hc
    have HLR := Lib.hid (show leftAt ns l req id = subV r req from HLY.out rfl)
    obtain ⟨d0, d1, d2, d3, d4⟩ := R1.cells4
    obtain ⟨p0, p1, p2, p3, p4⟩ := T1.three.cells4
    go_upto_region 2 with fail
    generalize w1.alloc (.cells #[.int .u64 r.a, .int .u64 r.b, .int .u64 r.c, .int .u64 r.d] 31) = V at *
    generalize w1.heap.size = h at *
    have HT1 := Lib.hid T1
    clear T1 R1 HLY HLN
    rcases hs : subV r req with _ | v
    · have HC2 := Lib.hid (rSub_none hs V)
      have HL2 := Lib.hid (HLR.out.trans hs)
      clear hs
      go_wp2_with fail
      refine HC2.out.mono ?_
      rintro e w2 ⟨rfl, hb2⟩
      have T2 := HT1.out.keep hb2
      clear hb2 HC2 d0 d1 d2 d3 d4 p0 p1 p2 p3 p4 HT1
      obtain ⟨⟨g0, g1, g2, g3⟩, g4⟩ := T2.four.zero4
      obtain ⟨f0, f1, f2, f3⟩ := T2.four.free4
      have k2 := T2.below
      clear T2
      go_wp2
      refine bodyPost_ret (v := .tuple #[zeroV, .bool false]) ?_ rfl ?_
      · simp [results, Try.results21, go_sem, *]
      · refine ⟨left_ret _ HL2.out rfl, ?_⟩
        repeat (first | with_reducible exact k2 | with_reducible refine Below.setCell ?_ ?_ _)
        all_goals first | (show w.heap.size ≤ w.heap.size + 3; omega) | (simp; omega) | omega
    · have HC2 := Lib.hid (rSub_some HRO.out HQ.out hs V)
      have HL2 := Lib.hid (HLR.out.trans hs)
      clear hs
      go_wp2_with fail
      refine HC2.out.mono ?_
      rintro e w2 ⟨rfl, hb2⟩
      have T2 := HT1.out.keep hb2
      clear hb2 HC2 d0 d1 d2 d3 d4 p0 p1 p2 p3 p4 HT1
      obtain ⟨⟨g0, g1, g2, g3⟩, g4⟩ := T2.four.zero4
      obtain ⟨f0, f1, f2, f3⟩ := T2.four.free4
      have k2 := T2.below
      clear T2
      go_wp2
      refine bodyPost_ret (v := .tuple #[aggV v, .bool true]) ?_ rfl ?_
      · simp [results, Try.results21, go_sem, *]
      · refine ⟨left_ret _ HL2.out rfl, ?_⟩
        repeat (first | with_reducible exact k2 | with_reducible refine Below.setCell ?_ ?_ _)
        all_goals first | (show w.heap.size ≤ w.heap.size + 3; omega) | (simp; omega) | omega
  · have HL2 := Lib.hid (HLN.out hc)
    have hd : (cd != 0) = true := by simpa using hc
    obtain ⟨⟨g0, g1, g2, g3⟩, g4⟩ := T1.four.zero4
    obtain ⟨f0, f1, f2, f3⟩ := T1.four.free4
    have k2 := T1.below
    clear T1 R1 HLY HLN hc
    go_upto_region 2 with fail
    generalize w1.alloc (.cells #[.int .u64 r.a, .int .u64 r.b, .int .u64 r.c, .int .u64 r.d] 31) = V at *
    generalize w1.heap.size = h at *
    go_wp2
    refine bodyPost_ret (v := .tuple #[zeroV, .bool false]) ?_ rfl ?_
    · simp [results, Try.results21, go_sem, *]
    · refine ⟨left_ret _ HL2.out rfl, ?_⟩
      repeat (first | with_reducible exact k2 | with_reducible refine Below.setCell ?_ ?_ _)
      all_goals first | (show w.heap.size ≤ w.heap.size + 3; omega) | (simp; omega) | omega

end Go.Proofs.Ytffdemagdagmpaa

/- Where a request fits: the program's Fits, First and Best. -/
namespace Go.Proofs.Ytffdemagdagmpaa
set_option linter.unusedSimpArgs false
open Go.RowKit
set_option linter.unusedVariables false

abbrev cellF (z : Int) : List Value := [.int .i64 z]
theorem lenF (z : Int) : (cellF z).length = 1 := rfl
theorem oneF (z : Int) : ∀ u ∈ cellF z, u.oneCell' = true := by
  intro u hu; simp only [List.mem_cons, List.not_mem_nil, or_false] at hu
  subst hu; rfl
theorem infoIntF : (Try.prog.info? 3).map (fun i => (i.zero, i.size, i.bytes)) = some (some (.int .i64 0), 1, 8) := by kernel_rfl
theorem underIntF : Try.prog.underlying 39 = some (.slice 3) := by kernel_rfl
def nodesS (xs : List SiteD) : List Int := xs.map SiteD.node
/-- A row of numbers of the call's own. -/
def FitsTo (zs : List Int) (w : World) (e : Ending) (w' : World) : Prop := ∃ A c, e = .returned (.slice A zs.length c) ∧ Out 1 cellF w' zs A c ∧ Below w.heap.size w w'
def FitsRel (xs : List SiteD) (W : World) (B : Nat) (v i : Value) (wr : World) : Prop :=
  ∃ k : Nat, k ≤ xs.length ∧ i = .int .i64 k ∧ wr.ownsRow B 3 1 v k ((nodesS (xs.take k)).flatMap cellF) ∧ Below B W wr
theorem fits_take {xs : List SiteD} {k : Nat} (h : k < xs.length) {x : SiteD} (hx : xs[k] = x) : (nodesS (xs.take (k + 1))).flatMap cellF = (nodesS (xs.take k)).flatMap cellF ++ cellF x.node := by
  rw [List.take_succ_eq_append_getElem h, hx]; simp [nodesS]

set_option maxHeartbeats 6400000 in
set_option maxRecDepth 100000 in
theorem fits14_any (ns : List NodeD) (l : List PodD) (req : V4) (hno : ∀ x ∈ ns, x.Ok) (hlo : ∀ p ∈ l, p.Ok) (hq : req.Ok) (A1 A4 : Option Addr) (n1 c1 n4 c4 : Nat) (s2 s3 v1 v2 : Value) (w : World)
    (hn1 : n1 = ns.length) (hl1 : n1 ≤ 400) (hr1 : Recs 10 cellsN w w.heap.size A1 ns) (hn4 : n4 = l.length) (hl4 : n4 ≤ 400) (hr4 : Recs 8 cellsP w w.heap.size A4 l) :
    Calls Try.prog 10 #[.agg #[.slice A1 n1 c1, s2, s3], .agg #[.slice A4 n4 c4, v1, v2], aggV req] w (FitsTo (nodesS (sitesD ns l req ns)) w) := by
  have T0 := T3.new w [.slice A1 n1 c1, s2, s3] [.slice A4 n4 c4, v1, v2] (cellsV req) 26 28 31
  have HS := Lib.hid (sites_any ns l req hno hlo hq A1 A4 n1 c1 n4 c4 s2 s3 v1 v2 _ hn1 hl1 ((hr1.below T0.below (Nat.le_refl _)).more T0.below.size) hn4 hl4 ((hr4.below T0.below (Nat.le_refl _)).more T0.below.size))
  have HL : Hid ((sitesD ns l req ns).length ≤ 400) := by
    show _ ≤ _
    have := sites_len ns l req ns
    omega
  have HT := Lib.hid T0
  clear hn1 hl1 hr1 hn4 hl4 hr4 hno hlo hq T0
  generalize sitesD ns l req ns = xs at *
  have kw := HT.out.below
  have hz3 : w.heap.size + 3 ≤ (((w.alloc (.cells #[.slice A1 n1 c1, s2, s3] 26)).alloc (.cells #[.slice A4 n4 c4, v1, v2] 28)).alloc (.cells #[.int .u64 req.a, .int .u64 req.b, .int .u64 req.c, .int .u64 req.d] 31)).heap.size := by simp
  go_enter Try.func10, Try.ntmps10
  go_wp2_with fail
  refine HS.out.mono ?_
  rintro e W ⟨A, c, rfl, hout, hbW⟩
  have kW := kw.trans (hbW.mono kw.size)
  have hzW : w.heap.size + 3 ≤ W.heap.size := Nat.le_trans hz3 hbW.size
  have HR := Lib.hid hout.recs
  have HK := Lib.hid kW
  have hl4 : xs.length ≤ 400 := HL.out
  clear hout hbW kw kW HS HT hz3
  go_wp2
  go_loopw [7, 15] (FitsRel xs W W.heap.size) (fun _ i _ => xs.length - (intOf i).toNat)
  case atStart => exact ⟨0, by omega, rfl, ⟨by simp [nodesS], .inl ⟨rfl, by simp⟩⟩, Below.refl _ _⟩
  case round =>
    obtain ⟨k, hk, rfl, hown, hbr⟩ := hrel
    have HOW := Lib.hid hown
    have HBR := Lib.hid hbr
    have hzr := hbr.size
    clear hown
    by_cases hlt : k < xs.length
    · obtain ⟨b, o, rfl, hb, he⟩ := HR.out.at hlt
      generalize hx : xs[k] = x at *
      have HXX := Lib.hid (fits_take hlt hx)
      clear hx
      have e0 : wr.cell? ⟨b, o + k * 5, none⟩ = some (.int .i64 x.node) := (hbr.cell (p := ⟨b, o + k * 5, none⟩) hb).trans (he 0 _ rfl)
      have e1 : wr.cell? ⟨b, o + k * 5 + 1, none⟩ = some (.int .u64 x.left.a) := (hbr.cell (p := ⟨b, o + k * 5 + 1, none⟩) hb).trans (he 1 _ rfl)
      have e2 : wr.cell? ⟨b, o + k * 5 + 2, none⟩ = some (.int .u64 x.left.b) := (hbr.cell (p := ⟨b, o + k * 5 + 2, none⟩) hb).trans (he 2 _ rfl)
      have e3 : wr.cell? ⟨b, o + k * 5 + 3, none⟩ = some (.int .u64 x.left.c) := (hbr.cell (p := ⟨b, o + k * 5 + 3, none⟩) hb).trans (he 3 _ rfl)
      have e4 : wr.cell? ⟨b, o + k * 5 + 4, none⟩ = some (.int .u64 x.left.d) := (hbr.cell (p := ⟨b, o + k * 5 + 4, none⟩) hb).trans (he 4 _ rfl)
      have hbw : b < wr.heap.size := by omega
      have NB : Bf (wr.alloc (.cells #[.int .i64 x.node, .int .u64 x.left.a, .int .u64 x.left.b, .int .u64 x.left.c, .int .u64 x.left.d] 58)) wr.heap.size (cellsS x) := Bf.new wr (cellsS x) 58 rfl
      have ON := HOW.out.alloc (.cells #[.int .i64 x.node, .int .u64 x.left.a, .int .u64 x.left.b, .int .u64 x.left.c, .int .u64 x.left.d] 58)
      have BN := hbr.alloc hzr (.cells #[.int .i64 x.node, .int .u64 x.left.a, .int .u64 x.left.b, .int .u64 x.left.c, .int .u64 x.left.d] 58)
      have hzN : W.heap.size ≤ (wr.alloc (.cells #[.int .i64 x.node, .int .u64 x.left.a, .int .u64 x.left.b, .int .u64 x.left.c, .int .u64 x.left.d] 58)).heap.size := by simp; omega
      clear he hbr
      go_upto_region 5 with fail
      generalize hV : wr.alloc (.cells #[.int .i64 x.node, .int .u64 x.left.a, .int .u64 x.left.b, .int .u64 x.left.c, .int .u64 x.left.d] 58) = V at *
      generalize hh : wr.heap.size = h at *
      have n0 : V.cell? ⟨h, 0, none⟩ = some (.int .i64 x.node) := NB.cell 0 _ rfl
      have n1' := NB.lt
      have HON := Lib.hid ON
      have HBN := Lib.hid BN
      have HZN := Lib.hid hzN
      have HLK : Hid (k ≤ 2000000) := by show _ ≤ _; omega
      clear NB ON BN hV hh e0 e1 e2 e3 e4 hbw
      go_wp2_with (at_builtin; refine wpList_pushR 39 3 (.int .i64 0) 1 8 underIntF infoIntF rfl (by decide) (by decide) rfl (.tmp 19) (.tmp 22) rfl W.heap.size _ k _ (cellF x.node) rfl (oneF _) HON.out HZN.out HLK.out rfl rfl ?_; intro v' w3 hown3 hb3 hB3)
      have HO3 := Lib.hid hown3
      clear hown3
      go_wp2
      go_roundw
      case rel => exact ⟨k + 1, by omega, by go_num, by rw [HXX.out]; exact HO3.out, HBN.out.trans hb3⟩
      case measure => simp [intOf]; omega
    · have hke : k = xs.length := by omega
      subst hke
      have how := HOW.out
      rw [List.take_length] at how
      have hlen : xs.length = (nodesS xs).length := by simp [nodesS]
      obtain ⟨A', c', rfl, hc1, hc2, hc3, hrec⟩ := recs_of_own lenF hlen how
      have HRE := Lib.hid hrec
      have HLN := Lib.hid hlen
      have kwr := HK.out.trans (hbr.mono HK.out.size)
      clear how hrec hlen hbr
      go_wp2
      go_ret
      exact ⟨A', c', by rw [← HLN.out]; rfl, ⟨by rw [← HLN.out]; exact hc1, hc2, hc3, HRE.out⟩, kwr⟩

set_option maxHeartbeats 3200000 in
set_option maxRecDepth 100000 in
theorem first_any14 (ns : List NodeD) (l : List PodD) (req : V4) (hno : ∀ x ∈ ns, x.Ok) (hlo : ∀ p ∈ l, p.Ok) (hq : req.Ok) (A1 A4 : Option Addr) (n1 c1 n4 c4 : Nat) (s2 s3 v1 v2 : Value) (w : World)
    (hn1 : n1 = ns.length) (hl1 : n1 ≤ 400) (hr1 : Recs 10 cellsN w w.heap.size A1 ns) (hn4 : n4 = l.length) (hl4 : n4 ≤ 400) (hr4 : Recs 8 cellsP w w.heap.size A4 l) :
    Calls Try.prog 12 #[.agg #[.slice A1 n1 c1, s2, s3], .agg #[.slice A4 n4 c4, v1, v2], aggV req] w fun e w' => e = .returned (.int .i64 (firstS (sitesD ns l req ns))) ∧ Below w.heap.size w w' := by
  have T0 := T3.new w [.slice A1 n1 c1, s2, s3] [.slice A4 n4 c4, v1, v2] (cellsV req) 26 28 31
  have HS := Lib.hid (sites_any ns l req hno hlo hq A1 A4 n1 c1 n4 c4 s2 s3 v1 v2 _ hn1 hl1 ((hr1.below T0.below (Nat.le_refl _)).more T0.below.size) hn4 hl4 ((hr4.below T0.below (Nat.le_refl _)).more T0.below.size))
  have HL : Hid ((sitesD ns l req ns).length ≤ 400) := by
    show _ ≤ _
    have := sites_len ns l req ns
    omega
  have HT := Lib.hid T0
  clear hn1 hl1 hr1 hn4 hl4 hr4 hno hlo hq T0
  generalize sitesD ns l req ns = xs at *
  have kw := HT.out.below
  go_enter Try.func12, Try.ntmps12
  go_wp2_with fail
  refine HS.out.mono ?_
  rintro e W ⟨A, c, rfl, hout, hbW⟩
  have kW := kw.trans (hbW.mono kw.size)
  have HR := Lib.hid hout.recs
  clear hout hbW kw HS HT
  cases xs with
  | nil =>
    go_wp2
    go_ret
    exact ⟨rfl, kW⟩
  | cons x r =>
    obtain ⟨b, o, rfl, hb, he⟩ := HR.out.at (k := 0) (by simp)
    have e0 : W.cell? ⟨b, o, none⟩ = some (.int .i64 x.node) := by have := he 0 _ rfl; simpa using this
    have hd : (((r.length + 1 : Nat) : Int) == 0) = false := by simp; omega
    have hlt : decide ((0 : Int) < ((r.length + 1 : Nat) : Int)) = true := decide_eq_true (by omega)
    rw [List.length_cons]
    clear he HR
    go_wp2
    go_ret
    exact ⟨rfl, kW⟩
end Go.Proofs.Ytffdemagdagmpaa

/- The reference's Fits. -/
namespace Go.Proofs.Ytffdemagdagmpaa
set_option linter.unusedSimpArgs false
open Go.RowKit
set_option linter.unusedVariables false

def RFitsRel (ns : List NodeD) (l : List PodD) (req : V4) (W : World) (B : Nat) (v i : Value) (wr : World) : Prop :=
  ∃ k m : Nat, k ≤ ns.length ∧ i = .int .i64 k ∧ m = (sitesD ns l req (ns.take k)).length ∧ wr.ownsRow B 3 1 v m ((nodesS (sitesD ns l req (ns.take k))).flatMap cellF) ∧ Below B W wr
theorem own_nodes {B m : Nat} {e : TypeId} {w1 : World} {v : Value} {xs ys : List SiteD} {x : SiteD} (hm : m = xs.length) (h : w1.ownsRow B e 1 v (m + 1) ((nodesS xs).flatMap cellF ++ cellF x.node)) (he : ys = xs ++ [x]) : w1.ownsRow B e 1 v (m + 1) ((nodesS ys).flatMap cellF) ∧ m + 1 = ys.length := by
  subst he hm; simpa [nodesS] using h

set_option maxHeartbeats 6400000 in
set_option maxRecDepth 100000 in
theorem rFits14_any (ns : List NodeD) (l : List PodD) (req : V4) (hno : ∀ x ∈ ns, x.Ok) (hlo : ∀ p ∈ l, p.Ok) (hq : req.Ok) (A1 A4 : Option Addr) (n1 c1 n4 c4 : Nat) (s2 s3 v1 v2 : Value) (w : World)
    (hn1 : n1 = ns.length) (hl1 : n1 ≤ 400) (hr1 : Recs 10 cellsN w w.heap.size A1 ns) (hn4 : n4 = l.length) (hl4 : n4 ≤ 400) (hr4 : Recs 8 cellsP w w.heap.size A4 l) :
    Calls Try.prog 11 #[.agg #[.slice A1 n1 c1, s2, s3], .agg #[.slice A4 n4 c4, v1, v2], aggV req] w (FitsTo (nodesS (sitesD ns l req ns)) w) := by
  have T0 : T3 [.slice A1 n1 c1, s2, s3] [.slice A4 n4 c4, v1, v2] (cellsV req) w (((w.alloc (.cells #[.slice A1 n1 c1, s2, s3] 26)).alloc (.cells #[.slice A4 n4 c4, v1, v2] 28)).alloc (.cells #[.int .u64 req.a, .int .u64 req.b, .int .u64 req.c, .int .u64 req.d] 31)) := T3.new w [.slice A1 n1 c1, s2, s3] [.slice A4 n4 c4, v1, v2] (cellsV req) 26 28 31
  have HLF : Hid (∀ (id : Int) (V : World), Below w.heap.size w V → Calls Try.prog 21 #[.agg #[.slice A1 n1 c1, s2, s3], .agg #[.slice A4 n4 c4, v1, v2], .int .i64 id, aggV req] V fun e w' => e = .returned (leftO (leftAt ns l req id)) ∧ Below V.heap.size V w') := fun id V hV =>
    rLeft_any ns l req id hno hlo hq A1 A4 n1 c1 n4 c4 s2 s3 v1 v2 V hn1 hl1 ((hr1.below hV (Nat.le_refl _)).more hV.size) hn4 hl4 ((hr4.below hV (Nat.le_refl _)).more hV.size)
  have HN1 := Lib.hid hn1
  have HL1 := Lib.hid hl1
  have HR1 := Lib.hid hr1
  have hq3 : w.heap.size + 3 ≤ (((w.alloc (.cells #[.slice A1 n1 c1, s2, s3] 26)).alloc (.cells #[.slice A4 n4 c4, v1, v2] 28)).alloc (.cells #[.int .u64 req.a, .int .u64 req.b, .int .u64 req.c, .int .u64 req.d] 31)).heap.size := by simp
  have HT := Lib.hid T0
  clear hn1 hl1 hr1 hn4 hl4 hr4 hno hlo hq T0
  go_enter Try.func11, Try.ntmps11
  go_upto_region 2 with fail
  generalize hW : (((w.alloc (.cells #[.slice A1 n1 c1, s2, s3] 26)).alloc (.cells #[.slice A4 n4 c4, v1, v2] 28)).alloc (.cells #[.int .u64 req.a, .int .u64 req.b, .int .u64 req.c, .int .u64 req.d] 31)) = W at *
  clear hW
  go_wp2
  go_loopw [7, 8] (RFitsRel ns l req W (w.heap.size + 3)) (fun _ i _ => n1 - (intOf i).toNat)
  case atStart => exact ⟨0, 0, by omega, rfl, rfl, ⟨by simp [sitesD, nodesS], .inl ⟨rfl, by simp⟩⟩, Below.refl _ _⟩
  case round =>
    obtain ⟨k, m, hk, rfl, hm, hown, hbr⟩ := hrel
    have hl1 : n1 ≤ 400 := HL1.out
    have HMM := Lib.hid hm
    have HOW := Lib.hid hown
    have HBR := Lib.hid hbr
    have TR := HT.out
    have hT3 : T3 [.slice A1 n1 c1, s2, s3] [.slice A4 n4 c4, v1, v2] (cellsV req) w wr := ⟨TR.one.below hbr (by omega), TR.two.below hbr (by omega), TR.three.below hbr (by omega), TR.below.trans (hbr.mono (by omega))⟩
    have hzr : w.heap.size + 3 ≤ wr.heap.size := Nat.le_trans hq3 hbr.size
    obtain ⟨a0, a1, a2, a3⟩ := hT3.one.cells3
    clear hm hown hbr TR
    by_cases hlt : k < n1
    · have hkl : k < ns.length := by have := HN1.out; omega
      obtain ⟨b, o, rfl, hb, he⟩ := HR1.out.at hkl
      generalize hx : ns[k] = x at *
      have HXX := Lib.hid (sites_take (ns := ns) (l := l) (req := req) hkl hx)
      clear hx
      have kwr := hT3.below
      have HE0 : Hid (∀ V, Below w.heap.size w V → V.cell? ⟨b, o + k * 10, none⟩ = some (.int .i64 x.id) ∧ b < V.heap.size) := fun V hV => ⟨(hV.cell (p := ⟨b, o + k * 10, none⟩) hb).trans (he 0 _ rfl), Nat.lt_of_lt_of_le hb hV.size⟩
      obtain ⟨e0, hbw⟩ := HE0.out wr kwr
      have hk0 : (0 : Int) ≤ (k : Int) := by omega
      have hk1 : (k : Int) < (n1 : Int) := by omega
      obtain ⟨b0, b1, b2, b3⟩ := hT3.two.cells3
      obtain ⟨p0, p1, p2, p3, p4⟩ := hT3.three.cells4
      have HT3 := Lib.hid hT3
      clear he hb hT3 kwr
      rcases hL : leftAt ns l req x.id with _ | v
      · have HC : Hid (∀ V : World, ((∀ b o, b < wr.heap.size → V.cell? ⟨b, o, none⟩ = wr.cell? ⟨b, o, none⟩) ∧ Below wr.heap.size wr V) → Calls Try.prog 21 #[.agg #[.slice (some ⟨b, o, none⟩) n1 c1, s2, s3], .agg #[.slice A4 n4 c4, v1, v2], .int .i64 x.id, aggV req] V fun e w' => e = .returned (.tuple #[.agg #[.int .u64 0, .int .u64 0, .int .u64 0, .int .u64 0], .bool false]) ∧ Below V.heap.size V w') := fun V hV => by
          have h := HLF.out x.id V (HT3.out.below.trans (hV.2.mono HT3.out.below.size))
          rw [hL] at h
          exact h
        have HX2 := Lib.hid (siteAt_none hL)
        have HXX' := Lib.hid (show sitesD ns l req (ns.take (k + 1)) = sitesD ns l req (ns.take k) by rw [HXX.out, HX2.out, List.append_nil])
        clear hL
        go_upto_region 5 with fail
        go_region_held3 (fun w' => (∀ b o, b < wr.heap.size → w'.cell? ⟨b, o, none⟩ = wr.cell? ⟨b, o, none⟩) ∧ Below wr.heap.size wr w')
          (first | (with_reducible assumption) | (show Keeps wr _; with_reducible (repeat (first | exact Keeps.refl _ | refine Keeps.drew ?_ | refine Keeps.set ?_ (by simp) _ | refine Keeps.alloc ?_ _ | refine Keeps.step ?_ (by assumption)))))
          (first
            | (go_at_call 21; refine (HC.out _ (by assumption)).mono ?_; rintro e w' ⟨rfl, hb⟩; obtain ⟨hcx, hfx⟩ := old_cells hb))
        all_goals
          rename_i hK
          have k2 := hK.2
          clear hK hcx hfx hb a0 a1 a2 a3 b0 b1 b2 b3 p0 p1 p2 p3 p4 e0 hbw HC
          first
            | (generalize w'.alloc (.cells #[.int .u64 0, .int .u64 0, .int .u64 0, .int .u64 0] 31) = V at *; have kk : Below wr.heap.size wr V := k2)
            | (generalize ((((w'.setCell ⟨wr.heap.size, 0, none⟩ (.int .u64 0)).setCell ⟨wr.heap.size, 1, none⟩ (.int .u64 0)).setCell ⟨wr.heap.size, 2, none⟩ (.int .u64 0)).setCell ⟨wr.heap.size, 3, none⟩ (.int .u64 0)) = V at *; have kk : Below wr.heap.size wr V := k2)
          have O2 := own_belowF HOW.out kk (Nat.le_refl _)
          have K2 := HBR.out.trans (kk.mono hzr)
          clear kk k2
          go_wp2
          go_roundw
          case rel => exact ⟨k + 1, m, by omega, by go_num, by rw [HXX'.out]; exact HMM.out, by rw [HXX'.out]; exact O2, K2⟩
          case measure => simp [intOf]; omega
      · have HC : Hid (∀ V : World, ((∀ b o, b < wr.heap.size → V.cell? ⟨b, o, none⟩ = wr.cell? ⟨b, o, none⟩) ∧ Below wr.heap.size wr V) → Calls Try.prog 21 #[.agg #[.slice (some ⟨b, o, none⟩) n1 c1, s2, s3], .agg #[.slice A4 n4 c4, v1, v2], .int .i64 x.id, aggV req] V fun e w' => e = .returned (.tuple #[.agg #[.int .u64 v.a, .int .u64 v.b, .int .u64 v.c, .int .u64 v.d], .bool true]) ∧ Below V.heap.size V w') := fun V hV => by
          have h := HLF.out x.id V (HT3.out.below.trans (hV.2.mono HT3.out.below.size))
          rw [hL] at h
          exact h
        have HX2 := Lib.hid (siteAt_some hL)
        have HXX' := Lib.hid (show sitesD ns l req (ns.take (k + 1)) = sitesD ns l req (ns.take k) ++ [⟨x.id, v⟩] by rw [HXX.out, HX2.out])
        have HL : Hid (m ≤ 2000000) := by
          have h1 := sites_len ns l req (ns.take k)
          have h2 := HMM.out
          have h4 := HN1.out
          show _ ≤ _
          rw [List.length_take] at h1
          omega
        clear hL
        go_upto_region 5 with fail
        go_region_held3 (fun w' => (∀ b o, b < wr.heap.size → w'.cell? ⟨b, o, none⟩ = wr.cell? ⟨b, o, none⟩) ∧ Below wr.heap.size wr w')
          (first | (with_reducible assumption) | (show Keeps wr _; with_reducible (repeat (first | exact Keeps.refl _ | refine Keeps.drew ?_ | refine Keeps.set ?_ (by simp) _ | refine Keeps.alloc ?_ _ | refine Keeps.step ?_ (by assumption)))))
          (first
            | (go_at_call 21; refine (HC.out _ (by assumption)).mono ?_; rintro e w' ⟨rfl, hb⟩; obtain ⟨hcx, hfx⟩ := old_cells hb))
        all_goals
          rename_i hK
          have k2 := hK.2
          clear hK hcx hfx hb a0 a1 a2 a3 b0 b1 b2 b3 p0 p1 p2 p3 p4 e0 hbw HC
          first
            | (generalize w'.alloc (.cells #[.int .u64 v.a, .int .u64 v.b, .int .u64 v.c, .int .u64 v.d] 31) = V at *; have kk : Below wr.heap.size wr V := k2)
            | (generalize ((((w'.setCell ⟨wr.heap.size, 0, none⟩ (.int .u64 v.a)).setCell ⟨wr.heap.size, 1, none⟩ (.int .u64 v.b)).setCell ⟨wr.heap.size, 2, none⟩ (.int .u64 v.c)).setCell ⟨wr.heap.size, 3, none⟩ (.int .u64 v.d)) = V at *; have kk : Below wr.heap.size wr V := k2)
          have O2 := own_belowF HOW.out kk (Nat.le_refl _)
          have K2 := HBR.out.trans (kk.mono hzr)
          have T2' := HT3.out.keep kk
          clear kk k2
          obtain ⟨a0, a1, a2, a3⟩ := T2'.one.cells3
          obtain ⟨e0, hbw⟩ := HE0.out V T2'.below
          have HO2 := Lib.hid O2
          have HK2 := Lib.hid K2
          have HZ2 := Lib.hid (Nat.le_trans hq3 K2.size)
          clear O2 K2 T2'
          go_wp2_with (at_builtin; refine wpList_pushR 39 3 (.int .i64 0) 1 8 underIntF infoIntF rfl (by decide) (by decide) rfl (.tmp 32) (.tmp 39) rfl (w.heap.size + 3) _ m _ (cellF x.id) rfl (oneF _) HO2.out HZ2.out HL.out rfl rfl ?_; intro v' w3 hown3 hb3 hB3)
          have HO3 := Lib.hid (own_nodes (x := ⟨x.id, v⟩) HMM.out hown3 HXX'.out)
          clear hown3
          go_wp2
          go_roundw
          case rel => exact ⟨k + 1, m + 1, by omega, by go_num, HO3.out.2, HO3.out.1, HK2.out.trans hb3⟩
          case measure => simp [intOf]; omega
    · have htk : ns.take k = ns := List.take_of_length_le (by have := HN1.out; omega)
      have hm' := HMM.out
      have how := HOW.out
      rw [htk] at hm' how
      have hlen : m = (nodesS (sitesD ns l req ns)).length := by rw [hm']; simp [nodesS]
      obtain ⟨A', c', rfl, hc1, hc2, hc3, hrec⟩ := recs_of_own lenF hlen how
      have kwr := hT3.below
      have HRE := Lib.hid hrec
      have HLN := Lib.hid hlen
      clear how hm' htk hrec hT3 hlen
      go_wp2
      go_ret
      exact ⟨A', c', by rw [← HLN.out]; rfl, ⟨by rw [← HLN.out]; exact hc1, hc2, hc3, HRE.out⟩, kwr⟩
end Go.Proofs.Ytffdemagdagmpaa

/- The tightest one: slices.MinFunc at sites, and the program's Best. -/
namespace Go.Proofs.Ytffdemagdagmpaa
set_option linter.unusedSimpArgs false
open Go.RowKit
set_option linter.unusedVariables false

def zerS : SiteD := ⟨0, .zer⟩
def aggS (x : SiteD) : Value := .agg #[.int .i64 x.node, .int .u64 x.left.a, .int .u64 x.left.b, .int .u64 x.left.c, .int .u64 x.left.d]
theorem T2.putS {a x : SiteD} {w V : World} (h : T2 (cellsS a) (cellsS x) w V) (y : SiteD) : T2 (cellsS a) (cellsS y) w (((((V.setCell ⟨w.heap.size + 1, 0, none⟩ (.int .i64 y.node)).setCell ⟨w.heap.size + 1, 1, none⟩ (.int .u64 y.left.a)).setCell ⟨w.heap.size + 1, 2, none⟩ (.int .u64 y.left.b)).setCell ⟨w.heap.size + 1, 3, none⟩ (.int .u64 y.left.c)).setCell ⟨w.heap.size + 1, 4, none⟩ (.int .u64 y.left.d)) :=
  ⟨((((h.one.other (p := ⟨w.heap.size + 1, 0, none⟩) (by simp) _).other (p := ⟨w.heap.size + 1, 1, none⟩) (by simp) _).other (p := ⟨w.heap.size + 1, 2, none⟩) (by simp) _).other (p := ⟨w.heap.size + 1, 3, none⟩) (by simp) _).other (p := ⟨w.heap.size + 1, 4, none⟩) (by simp) _,
    ((((h.two.set 0 (.int .i64 y.node)).set 1 (.int .u64 y.left.a)).set 2 (.int .u64 y.left.b)).set 3 (.int .u64 y.left.c)).set 4 (.int .u64 y.left.d),
    ((((h.below.setCell (p := ⟨w.heap.size + 1, 0, none⟩) (Nat.le_succ _) _).setCell (p := ⟨w.heap.size + 1, 1, none⟩) (Nat.le_succ _) _).setCell (p := ⟨w.heap.size + 1, 2, none⟩) (Nat.le_succ _) _).setCell (p := ⟨w.heap.size + 1, 3, none⟩) (Nat.le_succ _) _).setCell (p := ⟨w.heap.size + 1, 4, none⟩) (Nat.le_succ _) _⟩
theorem Bf.cells5S {V : World} {b : Nat} {x : SiteD} (h : Bf V b (cellsS x)) : V.cell? ⟨b, 0, none⟩ = some (.int .i64 x.node) ∧ V.cell? ⟨b, 1, none⟩ = some (.int .u64 x.left.a) ∧ V.cell? ⟨b, 2, none⟩ = some (.int .u64 x.left.b) ∧ V.cell? ⟨b, 3, none⟩ = some (.int .u64 x.left.c) ∧ V.cell? ⟨b, 4, none⟩ = some (.int .u64 x.left.d) ∧ b < V.heap.size :=
  ⟨h.cell 0 _ rfl, h.cell 1 _ rfl, h.cell 2 _ rfl, h.cell 3 _ rfl, h.cell 4 _ rfl, h.lt⟩
theorem Bf.free5 {V : World} {b : Nat} {l : List Value} (h : Bf V b l) : V.frozen? ⟨b, 0, none⟩ = false ∧ V.frozen? ⟨b, 1, none⟩ = false ∧ V.frozen? ⟨b, 2, none⟩ = false ∧ V.frozen? ⟨b, 3, none⟩ = false ∧ V.frozen? ⟨b, 4, none⟩ = false :=
  ⟨h.frozen 0, h.frozen 1, h.frozen 2, h.frozen 3, h.frozen 4⟩
def MinRel (x0 : SiteD) (r : List SiteD) (w : World) (i : Value) (wr : World) : Prop :=
  ∃ j : Nat, 1 ≤ j ∧ j ≤ r.length + 1 ∧ i = .int .i64 j ∧ T2 (cellsS zerS) (cellsS (pickS x0 (r.take (j - 1)))) w wr
theorem pick_take {x0 : SiteD} {r : List SiteD} {j : Nat} (h1 : 1 ≤ j) (h : j < r.length + 1) {y m : SiteD} (hy : (x0 :: r)[j]'(by simpa using h) = y) (hm : pickS x0 (r.take (j - 1)) = m) : pickS x0 (r.take (j + 1 - 1)) = if tightV y.left m.left = true then y else m := by
  obtain ⟨k, rfl⟩ : ∃ k, j = k + 1 := ⟨j - 1, by omega⟩
  have hk : k < r.length := by omega
  rw [List.getElem_cons_succ] at hy
  rw [show k + 1 + 1 - 1 = k + 1 by omega, List.take_succ_eq_append_getElem hk, hy, pick_snoc]
  rw [show k + 1 - 1 = k by omega] at hm
  rw [hm]

set_option maxHeartbeats 6400000 in
set_option maxRecDepth 100000 in
theorem minFunc_any (x0 : SiteD) (r : List SiteD) (hl : r.length ≤ 400) (b o c : Nat) (w : World) (hb : b < w.heap.size) (he : ∀ i (h : i < (x0 :: r).length) j u, (cellsS (x0 :: r)[i])[j]? = some u → w.cell? ⟨b, o + i * 5 + j, none⟩ = some u) :
    Calls Try.prog 22 #[.slice (some ⟨b, o, none⟩) (r.length + 1) c, .func (.func 23) #[] #[]] w fun e w' => e = .returned (aggS (pickS x0 r)) ∧ Below w.heap.size w w' := by
  have eg : ∀ args w, (callFunc 23 args).run Try.prog w = .ok (.enter 23 args) w := enters_of Try.func23 (by kernel_rfl) rfl
  have e0 : w.cell? ⟨b, o, none⟩ = some (.int .i64 x0.node) := by have := he 0 (by simp) 0 _ rfl; simpa using this
  have e1 : w.cell? ⟨b, o + 1, none⟩ = some (.int .u64 x0.left.a) := by have := he 0 (by simp) 1 _ rfl; simpa using this
  have e2 : w.cell? ⟨b, o + 2, none⟩ = some (.int .u64 x0.left.b) := by have := he 0 (by simp) 2 _ rfl; simpa using this
  have e3 : w.cell? ⟨b, o + 3, none⟩ = some (.int .u64 x0.left.c) := by have := he 0 (by simp) 3 _ rfl; simpa using this
  have e4 : w.cell? ⟨b, o + 4, none⟩ = some (.int .u64 x0.left.d) := by have := he 0 (by simp) 4 _ rfl; simpa using this
  have hd : decide (((r.length + 1 : Nat) : Int) < 1) = false := decide_eq_false (by omega)
  have hlt : decide ((0 : Int) < ((r.length + 1 : Nat) : Int)) = true := decide_eq_true (by omega)
  have HE : Hid (∀ (j : Nat) (h : j < (x0 :: r).length) (V : World), Below w.heap.size w V → V.cell? ⟨b, o + j * 5, none⟩ = some (.int .i64 (x0 :: r)[j].node) ∧ V.cell? ⟨b, o + j * 5 + 1, none⟩ = some (.int .u64 (x0 :: r)[j].left.a) ∧ V.cell? ⟨b, o + j * 5 + 2, none⟩ = some (.int .u64 (x0 :: r)[j].left.b) ∧ V.cell? ⟨b, o + j * 5 + 3, none⟩ = some (.int .u64 (x0 :: r)[j].left.c) ∧ V.cell? ⟨b, o + j * 5 + 4, none⟩ = some (.int .u64 (x0 :: r)[j].left.d) ∧ b < V.heap.size) :=
    fun j h V hV => ⟨(hV.cell (p := ⟨b, _, none⟩) hb).trans (he j h 0 _ rfl), (hV.cell (p := ⟨b, _, none⟩) hb).trans (he j h 1 _ rfl), (hV.cell (p := ⟨b, _, none⟩) hb).trans (he j h 2 _ rfl), (hV.cell (p := ⟨b, _, none⟩) hb).trans (he j h 3 _ rfl), (hV.cell (p := ⟨b, _, none⟩) hb).trans (he j h 4 _ rfl), Nat.lt_of_lt_of_le hb hV.size⟩
  have T0 : T2 (cellsS zerS) (cellsS x0) w ((w.alloc (.cells #[.int .i64 0, .int .u64 0, .int .u64 0, .int .u64 0, .int .u64 0] 58)).alloc (.cells #[.int .i64 x0.node, .int .u64 x0.left.a, .int .u64 x0.left.b, .int .u64 x0.left.c, .int .u64 x0.left.d] 58)) := T2.new w (cellsS zerS) (cellsS x0) 58 58
  clear he
  go_enter Try.func22, Try.ntmps22
  go_upto_region 4 with fail
  generalize hW : ((w.alloc (.cells #[.int .i64 0, .int .u64 0, .int .u64 0, .int .u64 0, .int .u64 0] 58)).alloc (.cells #[.int .i64 x0.node, .int .u64 x0.left.a, .int .u64 x0.left.b, .int .u64 x0.left.c, .int .u64 x0.left.d] 58)) = W at *
  clear hW e0 e1 e2 e3 e4 hd hlt hb
  have HT := Lib.hid T0
  clear T0
  go_wp2
  have hl4 := hl
  go_loopw [6] (MinRel x0 r w) (fun i _ => r.length + 1 - (intOf i).toNat)
  case atStart => exact ⟨1, by omega, by omega, rfl, HT.out⟩
  case round =>
    obtain ⟨j, hj1, hj, rfl, hT⟩ := hrel
    by_cases hlt : j < r.length + 1
    · have HX := Lib.hid (fun m y => pick_take (x0 := x0) hj1 hlt (y := y) (m := m))
      have hjl : j < (x0 :: r).length := by simpa using hlt
      have EE := HE.out j hjl wr hT.below
      generalize hm : pickS x0 (r.take (j - 1)) = m at *
      generalize hy : (x0 :: r)[j] = y at *
      have HP := Lib.hid (HX.out m y rfl rfl)
      have HC := Lib.hid (bestCmp_any y.node m.node y.left m.left)
      have HN := Lib.hid (cmpV_neg y.left m.left)
      obtain ⟨e0, e1, e2, e3, e4, ebl⟩ := EE
      obtain ⟨m0, m1, m2, m3, m4, m5⟩ := hT.two.cells5S
      have HTT := Lib.hid hT
      have hi0 : (0 : Int) ≤ (j : Int) := by omega
      have hi1 : (j : Int) < (r.length : Int) + 1 := by omega
      have hi2 : (j : Int) < ((r.length + 1 : Nat) : Int) := by omega
      have HYY := Lib.hid hy
      clear hm hy HX hT HT
      go_upto_region 7 with fail
      go_region_held3 (fun w' => (∀ b o, b < wr.heap.size → w'.cell? ⟨b, o, none⟩ = wr.cell? ⟨b, o, none⟩) ∧ Below wr.heap.size wr w')
        (first | (with_reducible assumption) | (show Keeps wr _; with_reducible (repeat (first | exact Keeps.refl _ | assumption | refine Keeps.drew ?_ | refine Keeps.alloc ?_ _ | refine Keeps.step ?_ (by assumption)))))
        (first
          | (go_at_call 23; (with_reducible refine (HC.out _).mono ?_); rintro e w3 ⟨rfl, hb3⟩))
      all_goals
        rename_i hK
        have hT3 := HTT.out.keep hK.2
        have EE := HE.out j hjl w3 hT3.below
        rw [HYY.out] at EE
        have HY := Lib.hid EE
        have HN' := HN.out
        clear hK hb3 e0 e1 e2 e3 e4 ebl m0 m1 m2 m3 m4 m5 HTT HC EE HN
        cases ht : tightV y.left m.left with
        | false =>
          rw [ht] at HN'
          have HP2 := Lib.hid (show pickS x0 (r.take (j + 1 - 1)) = m by
            have h := HP.out
            rw [ht] at h
            simpa using h)
          rw [HN']
          have HTT := Lib.hid hT3
          clear ht hT3
          go_wp2
          go_roundw
          case rel => exact ⟨j + 1, by omega, by omega, by go_num, by rw [HP2.out]; exact HTT.out⟩
          case measure => simp [intOf]; omega
        | true =>
          rw [ht] at HN'
          have HP2 := Lib.hid (show pickS x0 (r.take (j + 1 - 1)) = y by
            have h := HP.out
            rw [ht] at h
            simpa using h)
          rw [HN']
          obtain ⟨m0, m1, m2, m3, m4, m5⟩ := hT3.two.cells5S
          obtain ⟨f0, f1, f2, f3, f4⟩ := hT3.two.free5
          obtain ⟨e0, e1, e2, e3, e4, e5⟩ := HY.out
          have HTT := Lib.hid (hT3.putS y)
          clear ht hT3
          go_wp2
          go_roundw
          case rel => exact ⟨j + 1, by omega, by omega, by go_num, by rw [HP2.out]; exact HTT.out⟩
          case measure => simp [intOf]; omega
    · have hje : r.take (j - 1) = r := List.take_of_length_le (by omega)
      rw [hje] at hT
      obtain ⟨m0, m1, m2, m3, m4, m5⟩ := hT.two.cells5S
      obtain ⟨z0, z1, z2, z3, z4, z5⟩ := hT.one.cells5S
      obtain ⟨f0, f1, f2, f3, f4⟩ := hT.one.free5
      have kw := hT.below
      generalize hpk : pickS x0 r = m at *
      have HK := Lib.hid hpk
      clear hT hpk hje
      go_wp2
      refine bodyPost_ret (v := aggS m) ?_ rfl ?_
      · simp [results, aggS, Try.results22, go_sem, *]
      · refine ⟨by rw [HK.out], ?_⟩
        repeat (first | with_reducible exact kw | with_reducible refine Below.setCell ?_ ?_ _)
        all_goals first | (show w.heap.size ≤ w.heap.size; omega) | (simp; omega) | omega

set_option maxHeartbeats 3200000 in
set_option maxRecDepth 100000 in
theorem best_any14 (ns : List NodeD) (l : List PodD) (req : V4) (hno : ∀ x ∈ ns, x.Ok) (hlo : ∀ p ∈ l, p.Ok) (hq : req.Ok) (A1 A4 : Option Addr) (n1 c1 n4 c4 : Nat) (s2 s3 v1 v2 : Value) (w : World)
    (hn1 : n1 = ns.length) (hl1 : n1 ≤ 400) (hr1 : Recs 10 cellsN w w.heap.size A1 ns) (hn4 : n4 = l.length) (hl4 : n4 ≤ 400) (hr4 : Recs 8 cellsP w w.heap.size A4 l) :
    Calls Try.prog 14 #[.agg #[.slice A1 n1 c1, s2, s3], .agg #[.slice A4 n4 c4, v1, v2], aggV req] w fun e w' => e = .returned (.int .i64 (bestS (sitesD ns l req ns))) ∧ Below w.heap.size w w' := by
  have T0 := T3.new w [.slice A1 n1 c1, s2, s3] [.slice A4 n4 c4, v1, v2] (cellsV req) 26 28 31
  have HS := Lib.hid (sites_any ns l req hno hlo hq A1 A4 n1 c1 n4 c4 s2 s3 v1 v2 _ hn1 hl1 ((hr1.below T0.below (Nat.le_refl _)).more T0.below.size) hn4 hl4 ((hr4.below T0.below (Nat.le_refl _)).more T0.below.size))
  have HL : Hid ((sitesD ns l req ns).length ≤ 400) := by
    show _ ≤ _
    have := sites_len ns l req ns
    omega
  have HT := Lib.hid T0
  clear hn1 hl1 hr1 hn4 hl4 hr4 hno hlo hq T0
  generalize sitesD ns l req ns = xs at *
  have kw := HT.out.below
  go_enter Try.func14, Try.ntmps14
  go_wp2_with fail
  refine HS.out.mono ?_
  rintro e W ⟨A, c, rfl, hout, hbW⟩
  have kW := kw.trans (hbW.mono kw.size)
  have HR := Lib.hid hout.recs
  have HLL := HL.out
  clear hout hbW kw HS HT
  cases xs with
  | nil =>
    go_wp2
    go_ret
    exact ⟨rfl, kW⟩
  | cons x r =>
    rcases HR.out with h | ⟨b, o, rfl, hb, he⟩
    · cases h
    have HC := Lib.hid (minFunc_any x r (by simp at HLL; omega) b o c W hb he)
    have hd : (((r.length + 1 : Nat) : Int) == 0) = false := by simp; omega
    have HE := Lib.hid (show bestS (x :: r) = (pickS x r).node from rfl)
    have HK := Lib.hid kW
    rw [List.length_cons]
    generalize pickS x r = m at *
    clear he HR HL HLL kW
    go_wp2_with fail
    refine HC.out.mono ?_
    rintro e w3 ⟨rfl, hb3⟩
    have k3 := (HK.out.trans (hb3.mono HK.out.size)).alloc (HK.out.trans (hb3.mono HK.out.size)).size (.cells #[.int .i64 m.node, .int .u64 m.left.a, .int .u64 m.left.b, .int .u64 m.left.c, .int .u64 m.left.d] 58)
    have NB : Bf (w3.alloc (.cells #[.int .i64 m.node, .int .u64 m.left.a, .int .u64 m.left.b, .int .u64 m.left.c, .int .u64 m.left.d] 58)) w3.heap.size (cellsS m) := Bf.new w3 (cellsS m) 58 rfl
    clear hb3
    unfold aggS
    go_upto_region 5 with fail
    generalize w3.alloc (.cells #[.int .i64 m.node, .int .u64 m.left.a, .int .u64 m.left.b, .int .u64 m.left.c, .int .u64 m.left.d] 58) = V at *
    generalize w3.heap.size = h at *
    obtain ⟨e0, e1, e2, e3, e4, e5⟩ := NB.cells5S
    clear NB
    go_wp2
    go_ret
    exact ⟨ret_int HE.out.symm, k3⟩
end Go.Proofs.Ytffdemagdagmpaa

namespace Go.Proofs.Ytffdemagdagmpaa
set_option linter.unusedSimpArgs false
open Go.RowKit
set_option linter.unusedVariables false

theorem cellsF_at {V : World} {B : Nat} {A : Option Addr} {zs : List Int} (h : Recs 1 cellF V B A zs) {k : Nat} (hk : k < zs.length) : ∃ b o, A = some ⟨b, o, none⟩ ∧ b < B ∧ V.cell? ⟨b, o + k, none⟩ = some (.int .i64 zs[k]) := by
  obtain ⟨b, o, h1, h2, h3⟩ := h.at hk
  refine ⟨b, o, h1, h2, ?_⟩
  have := h3 0 _ rfl
  simpa using this

set_option maxHeartbeats 3200000 in
set_option maxRecDepth 100000 in
/-- Two rows of the same numbers. -/
theorem intsSame_any (zs : List Int) (hl : zs.length ≤ 400) (A A' : Option Addr) (c c' : Nat) (w : World) (h : Recs 1 cellF w w.heap.size A zs) (h' : Recs 1 cellF w w.heap.size A' zs) :
    Calls Try.prog 9 #[.slice A zs.length c, .slice A' zs.length c'] w fun e w' => e = .returned (.bool true) ∧ Below w.heap.size w w' := by
  have HR := Lib.hid h
  have HR' := Lib.hid h'
  clear h h'
  go_enter Try.func9, Try.ntmps9
  go_wp2
  go_loopw [5] (fun i wr => ∃ k : Nat, k ≤ zs.length ∧ i = .int .i64 k ∧ ∃ q, wr = w.drewN q) (fun i _ => zs.length - (intOf i).toNat)
  case atStart => exact ⟨0, by omega, rfl, 0, rfl⟩
  case round =>
    obtain ⟨k, hk, rfl, q, rfl⟩ := hrel
    by_cases hlt : k < zs.length
    · obtain ⟨b, o, rfl, hb, e0⟩ := cellsF_at HR.out hlt
      obtain ⟨b', o', rfl, hb', e0'⟩ := cellsF_at HR'.out hlt
      have hk0 : (0 : Int) ≤ (k : Int) := by omega
      have hk1 : (k : Int) < (zs.length : Int) := by omega
      have hne : (zs[k] != zs[k]) = false := by simp
      generalize zs[k] = z at *
      go_wp2
      go_quiet (fail)
      go_wp2
      go_roundw
      case rel => exact ⟨k + 1, by omega, by go_num, q + _, by simp [World.drewN]; rfl⟩
      case measure => simp [intOf]; omega
    · go_wp2
      go_ret
      exact ⟨rfl, below_drews (Below.refl _ _) _⟩

def OneRel (x0 : SiteD) (r : List SiteD) (w : World) (kv i : Value) (wr : World) : Prop :=
  ∃ (j p : Nat) (hp : p < (x0 :: r).length), 1 ≤ j ∧ j ≤ r.length + 1 ∧ i = .int .i64 j ∧ kv = .int .i64 p ∧ (x0 :: r)[p] = pickS x0 (r.take (j - 1)) ∧ Below w.heap.size w wr
def oneS (best : Bool) (xs : List SiteD) : Int := if best = true then bestS xs else firstS xs
theorem nodes_at {xs : List SiteD} {k : Nat} (h : k < xs.length) : ∃ h' : k < (nodesS xs).length, (nodesS xs)[k] = xs[k].node := ⟨by simpa [nodesS] using h, by simp [nodesS]⟩

set_option maxHeartbeats 12800000 in
set_option maxRecDepth 100000 in
theorem rOne_any14 (best : Bool) (ns : List NodeD) (l : List PodD) (req : V4) (hno : ∀ x ∈ ns, x.Ok) (hlo : ∀ p ∈ l, p.Ok) (hq : req.Ok) (A1 A4 : Option Addr) (n1 c1 n4 c4 : Nat) (s2 s3 v1 v2 : Value) (w : World)
    (hn1 : n1 = ns.length) (hl1 : n1 ≤ 400) (hr1 : Recs 10 cellsN w w.heap.size A1 ns) (hn4 : n4 = l.length) (hl4 : n4 ≤ 400) (hr4 : Recs 8 cellsP w w.heap.size A4 l) :
    Calls Try.prog 13 #[.agg #[.slice A1 n1 c1, s2, s3], .agg #[.slice A4 n4 c4, v1, v2], aggV req, .bool best] w fun e w' => e = .returned (.int .i64 (oneS best (sitesD ns l req ns))) ∧ Below w.heap.size w w' := by
  have T0 := T3.new w [.slice A1 n1 c1, s2, s3] [.slice A4 n4 c4, v1, v2] (cellsV req) 26 28 31
  have HS := Lib.hid (rFits14_any ns l req hno hlo hq A1 A4 n1 c1 n4 c4 s2 s3 v1 v2 _ hn1 hl1 ((hr1.below T0.below (Nat.le_refl _)).more T0.below.size) hn4 hl4 ((hr4.below T0.below (Nat.le_refl _)).more T0.below.size))
  have HL : Hid ((sitesD ns l req ns).length ≤ 400) := by
    show _ ≤ _
    have := sites_len ns l req ns
    omega
  have HLF : Hid (∀ (x : SiteD) (V : World), x ∈ sitesD ns l req ns → Below w.heap.size w V → Calls Try.prog 21 #[.agg #[.slice A1 n1 c1, s2, s3], .agg #[.slice A4 n4 c4, v1, v2], .int .i64 x.node, aggV req] V fun e w' => e = .returned (.tuple #[aggV x.left, .bool true]) ∧ Below V.heap.size V w') := fun x V hx hV => by
    have h := rLeft_any ns l req x.node hno hlo hq A1 A4 n1 c1 n4 c4 s2 s3 v1 v2 V hn1 hl1 ((hr1.below hV (Nat.le_refl _)).more hV.size) hn4 hl4 ((hr4.below hV (Nat.le_refl _)).more hV.size)
    rw [site_left hx] at h
    exact h
  have HT := Lib.hid T0
  have kw := T0.below
  clear hn1 hl1 hr1 hn4 hl4 hr4 hno hlo hq T0
  generalize sitesD ns l req ns = xs at *
  go_enter Try.func13, Try.ntmps13
  go_wp2_with fail
  refine HS.out.mono ?_
  rintro e W ⟨A, c, rfl, hout, hbW⟩
  have TW := HT.out.keep hbW
  have HR := Lib.hid hout.recs
  have hxl : (nodesS xs).length = xs.length := by simp [nodesS]
  rw [hxl]
  clear hout hbW kw HS HT
  cases xs with
  | nil =>
    have kW := TW.below
    have HE := Lib.hid (show oneS best [] = 0 by cases best <;> rfl)
    clear TW
    go_wp2
    go_ret
    exact ⟨ret_int HE.out.symm, kW⟩
  | cons x0 r =>
    have hd : (((r.length + 1 : Nat) : Int) == 0) = false := by simp; omega
    rw [List.length_cons]
    have HTW := Lib.hid TW
    have HL4 := HL.out
    rw [List.length_cons] at HL4
    clear TW hxl
    cases best with
    | false =>
      have HE := Lib.hid (show oneS false (x0 :: r) = x0.node from rfl)
      obtain ⟨b, o, rfl, hb, e0⟩ := cellsF_at HR.out (k := 0) (by simp [nodesS])
      have e1 : W.cell? ⟨b, o, none⟩ = some (.int .i64 x0.node) := by simpa [nodesS] using e0
      have kW := HTW.out.below
      have hlt : decide ((0 : Int) < ((r.length + 1 : Nat) : Int)) = true := decide_eq_true (by omega)
      clear e0
      by_cases h1 : 0 < r.length
      · have hd2 : decide ((1 : Int) < ((r.length + 1 : Nat) : Int)) = true := decide_eq_true (by omega)
        go_wp2
        refine wp_loop_rounds 1 ?_
        rw [rounds_succ]
        go_wp2
        go_ret
        exact ⟨ret_int HE.out.symm, kW⟩
      · have hd2 : decide ((1 : Int) < ((r.length + 1 : Nat) : Int)) = false := decide_eq_false (by omega)
        go_wp2
        refine wp_loop_rounds 1 ?_
        rw [rounds_succ]
        go_wp2
        go_ret
        exact ⟨ret_int HE.out.symm, kW⟩
    | true =>
      have HE := Lib.hid (show oneS true (x0 :: r) = (pickS x0 r).node from rfl)
      have HCE : Hid (∀ (p : Nat) (hp : p < (x0 :: r).length) (V : World), Below W.heap.size W V → ∃ b o, A = some ⟨b, o, none⟩ ∧ b < V.heap.size ∧ V.cell? ⟨b, o + p, none⟩ = some (.int .i64 (x0 :: r)[p].node)) := fun p hp V hV => by
        obtain ⟨hp', hpe⟩ := nodes_at hp
        obtain ⟨b, o, h1, h2, h3⟩ := cellsF_at HR.out hp'
        rw [hpe] at h3
        exact ⟨b, o, h1, Nat.lt_of_lt_of_le h2 hV.size, (hV.cell (p := ⟨b, _, none⟩) h2).trans h3⟩
      clear HR HL
      have hd2 : ((r.length : Int) + 1 == 0) = false := by simp; omega
      go_wp2
      go_loopw [10, 11] (OneRel x0 r W) (fun _ i _ => r.length + 1 - (intOf i).toNat)
      case atStart => exact ⟨1, 0, by simp, by omega, by omega, rfl, rfl, rfl, Below.refl _ _⟩
      case round =>
        obtain ⟨j, p, hp, hj1, hj, rfl, rfl, hpk, hbr⟩ := hrel
        by_cases hlt : j < r.length + 1
        · have hjl : j < (x0 :: r).length := by simpa using hlt
          have HX := Lib.hid (fun y hy => pick_take (x0 := x0) hj1 hlt (y := y) hy hpk.symm)
          obtain ⟨b, o, hA, hb, ej⟩ := HCE.out j hjl wr hbr
          obtain ⟨b', o', hA', hb', ep⟩ := HCE.out p hp wr hbr
          subst hA
          obtain ⟨rfl, rfl⟩ : b = b' ∧ o = o' := by injection hA' with hA'; injection hA' with h1 h2; exact ⟨h1, h2⟩
          clear hA'
          have HM1 := Lib.hid (List.getElem_mem hjl)
          have HM2 := Lib.hid (List.getElem_mem hp)
          have hTr := HTW.out.keep hbr
          have HYE := Lib.hid (show ∃ h : j < (x0 :: r).length, (x0 :: r)[j] = (x0 :: r)[j] from ⟨hjl, rfl⟩)
          generalize hy : (x0 :: r)[j] = y at *
          generalize hm : (x0 :: r)[p] = m at *
          have HP := Lib.hid (HX.out y rfl)
          have HPM := Lib.hid hm
          have HPY := Lib.hid hy
          have hi0 : (0 : Int) ≤ (j : Int) := by omega
          have hi1 : (j : Int) < (r.length : Int) + 1 := by omega
          have hi2 : (j : Int) < ((r.length + 1 : Nat) : Int) := by omega
          have hp0 : (0 : Int) ≤ (p : Int) := by omega
          have hp1 : (p : Int) < (r.length : Int) + 1 := by simp at hp; omega
          have hp2 : (p : Int) < ((r.length + 1 : Nat) : Int) := by simp at hp; omega
          have HC : Hid (∀ V : World, ((∀ b o, b < wr.heap.size → V.cell? ⟨b, o, none⟩ = wr.cell? ⟨b, o, none⟩) ∧ Below wr.heap.size wr V) → Calls Try.prog 21 #[.agg #[.slice A1 n1 c1, s2, s3], .agg #[.slice A4 n4 c4, v1, v2], .int .i64 y.node, aggV req] V fun e w' => e = .returned (.tuple #[.agg #[.int .u64 y.left.a, .int .u64 y.left.b, .int .u64 y.left.c, .int .u64 y.left.d], .bool true]) ∧ Below V.heap.size V w') := fun V hV =>
            HLF.out y V HM1.out (hTr.below.trans (hV.2.mono hTr.below.size))
          obtain ⟨a0, a1, a2, a3⟩ := hTr.one.cells3
          obtain ⟨b0, b1, b2, b3⟩ := hTr.two.cells3
          obtain ⟨p0, p1', p2, p3, p4⟩ := hTr.three.cells4
          have HTR := Lib.hid hTr
          have HBR := Lib.hid hbr
          clear hm hy HX hTr hbr hpk
          go_upto_region 8 with fail
          go_region_held3 (fun w' => (∀ b o, b < wr.heap.size → w'.cell? ⟨b, o, none⟩ = wr.cell? ⟨b, o, none⟩) ∧ Below wr.heap.size wr w')
            (first | (with_reducible assumption) | (show Keeps wr _; with_reducible (repeat (first | exact Keeps.refl _ | refine Keeps.drew ?_ | refine Keeps.set ?_ (by simp) _ | refine Keeps.alloc ?_ _ | refine Keeps.step ?_ (by assumption)))))
            (first
              | (go_at_call 21; refine (HC.out _ (by assumption)).mono ?_; rintro e w' ⟨rfl, hb⟩; obtain ⟨hcx, hfx⟩ := old_cells hb))
          all_goals
            rename_i hK
            have k2 := hK.2
            clear hK hcx hfx a0 a1 a2 a3 b0 b1 b2 b3 p0 p1' p2 p3 p4 HC
            first
              | (have BV := Bf.new w' (cellsV y.left) 31 rfl
                 replace BV : Bf (w'.alloc (.cells #[.int .u64 y.left.a, .int .u64 y.left.b, .int .u64 y.left.c, .int .u64 y.left.d] 31)) w'.heap.size (cellsV y.left) := BV
                 generalize w'.alloc (.cells #[.int .u64 y.left.a, .int .u64 y.left.b, .int .u64 y.left.c, .int .u64 y.left.d] 31) = U at *
                 have kk : Below wr.heap.size wr U := k2
                 clear hb
                 generalize w'.heap.size = h at *)
              | (have BV := Bf.later (z := y.left) (Bf.drew (Bf.new wr (cellsV .zer) 31 rfl)) (by assumption)
                 generalize ((((w'.setCell ⟨wr.heap.size, 0, none⟩ (.int .u64 y.left.a)).setCell ⟨wr.heap.size, 1, none⟩ (.int .u64 y.left.b)).setCell ⟨wr.heap.size, 2, none⟩ (.int .u64 y.left.c)).setCell ⟨wr.heap.size, 3, none⟩ (.int .u64 y.left.d)) = U at *
                 have kk : Below wr.heap.size wr U := k2
                 generalize hh : wr.heap.size = h at BV ⊢)
            have hTU := HTR.out.keep kk
            have hBU := HBR.out.trans (kk.mono HBR.out.size)
            obtain ⟨b2, o2, hA2, hb2, ep2⟩ := HCE.out p hp U hBU
            obtain ⟨rfl, rfl⟩ : b = b2 ∧ o = o2 := by injection hA2 with hA2; injection hA2 with h1 h2; exact ⟨h1, h2⟩
            rw [HPM.out] at ep2
            have HC : Hid (∀ V : World, ((∀ b o, b < U.heap.size → V.cell? ⟨b, o, none⟩ = U.cell? ⟨b, o, none⟩) ∧ Below U.heap.size U V) → Calls Try.prog 21 #[.agg #[.slice A1 n1 c1, s2, s3], .agg #[.slice A4 n4 c4, v1, v2], .int .i64 m.node, aggV req] V fun e w' => e = .returned (.tuple #[.agg #[.int .u64 m.left.a, .int .u64 m.left.b, .int .u64 m.left.c, .int .u64 m.left.d], .bool true]) ∧ Below V.heap.size V w') := fun V hV =>
              HLF.out m V HM2.out (hTU.below.trans (hV.2.mono hTU.below.size))
            obtain ⟨a0, a1, a2, a3⟩ := hTU.one.cells3
            obtain ⟨b0, b1, b2, b3⟩ := hTU.two.cells3
            obtain ⟨p0, p1', p2, p3, p4⟩ := hTU.three.cells4
            have HBV := Lib.hid BV
            have HTU := Lib.hid hTU
            have HBU := Lib.hid hBU
            clear BV hTU hBU kk k2 HTR HBR ej ep hA2 hb'
            go_upto_region 9 with fail
            go_region_held3 (fun w' => (∀ b o, b < U.heap.size → w'.cell? ⟨b, o, none⟩ = U.cell? ⟨b, o, none⟩) ∧ Below U.heap.size U w')
              (first | (with_reducible assumption) | (show Keeps U _; with_reducible (repeat (first | exact Keeps.refl _ | refine Keeps.drew ?_ | refine Keeps.set ?_ (by simp) _ | refine Keeps.alloc ?_ _ | refine Keeps.step ?_ (by assumption)))))
              (first
                | (go_at_call 21; refine (HC.out _ (by assumption)).mono ?_; rintro e w' ⟨rfl, hb⟩; obtain ⟨hcx, hfx⟩ := old_cells hb))
            all_goals
              rename_i hK
              have k2 := hK.2
              clear hK hcx hfx a0 a1 a2 a3 b0 b1 b2 b3 p0 p1' p2 p3 p4 HC
              first
                | (have BW := Bf.new w' (cellsV m.left) 31 rfl
                   replace BW : Bf (w'.alloc (.cells #[.int .u64 m.left.a, .int .u64 m.left.b, .int .u64 m.left.c, .int .u64 m.left.d] 31)) w'.heap.size (cellsV m.left) := BW
                   generalize w'.alloc (.cells #[.int .u64 m.left.a, .int .u64 m.left.b, .int .u64 m.left.c, .int .u64 m.left.d] 31) = X at *
                   have kk : Below U.heap.size U X := k2
                   clear k2
                   generalize w'.heap.size = h2 at *)
                | (have BW := Bf.later (z := m.left) (Bf.drew (Bf.new U (cellsV .zer) 31 rfl)) (by assumption)
                   generalize ((((w'.setCell ⟨U.heap.size, 0, none⟩ (.int .u64 m.left.a)).setCell ⟨U.heap.size, 1, none⟩ (.int .u64 m.left.b)).setCell ⟨U.heap.size, 2, none⟩ (.int .u64 m.left.c)).setCell ⟨U.heap.size, 3, none⟩ (.int .u64 m.left.d)) = X at *
                   have kk : Below U.heap.size U X := k2
                   clear k2
                   generalize hh2 : U.heap.size = h2 at BW ⊢)
              have BX := HBV.out.below kk HBV.out.lt
              have hBX := HBU.out.trans (kk.mono HBU.out.size)
              obtain ⟨d0, d1, d2, d3, d4⟩ := BX.cells4
              obtain ⟨g0, g1, g2, g3, g4⟩ := BW.cells4
              have HBX := Lib.hid hBX
              clear BX BW kk hBX HBV HTU HBU
              go_wp2_with fail
              refine (rTighter_any14 y.left m.left _).mono ?_
              rintro e w5 ⟨rfl, hb5⟩
              have K5 := Lib.hid (HBX.out.trans (hb5.mono HBX.out.size))
              clear hb5 d0 d1 d2 d3 d4 g0 g1 g2 g3 g4
              cases ht : tightV y.left m.left with
              | false =>
                have HP2 := Lib.hid (show pickS x0 (r.take (j + 1 - 1)) = m by
                  have h := HP.out
                  rw [ht] at h
                  simpa using h)
                clear ht
                go_wp2
                go_roundw
                case rel => exact ⟨j + 1, p, hp, by omega, by omega, by go_num, rfl, HPM.out.trans HP2.out.symm, K5.out⟩
                case measure => simp [intOf]; omega
              | true =>
                have HP2 := Lib.hid (show pickS x0 (r.take (j + 1 - 1)) = y by
                  have h := HP.out
                  rw [ht] at h
                  simpa using h)
                clear ht
                go_wp2
                go_roundw
                case rel => exact ⟨j + 1, j, hjl, by omega, by omega, by go_num, rfl, HPY.out.trans HP2.out.symm, K5.out⟩
                case measure => simp [intOf]; omega
        · have hje : r.take (j - 1) = r := List.take_of_length_le (by omega)
          rw [hje] at hpk
          obtain ⟨b, o, rfl, hb, ep⟩ := HCE.out p hp wr hbr
          have hp0 : (0 : Int) ≤ (p : Int) := by omega
          have hp1 : (p : Int) < (r.length : Int) + 1 := by simp at hp; omega
          have hp2 : (p : Int) < ((r.length + 1 : Nat) : Int) := by simp at hp; omega
          rw [hpk] at ep
          have kw := HTW.out.below.trans (hbr.mono HTW.out.below.size)
          have HHE := Lib.hid (ret_int HE.out.symm)
          generalize pickS x0 r = m at *
          clear hpk hje hbr
          go_wp2
          go_ret
          exact ⟨HHE.out, kw⟩
end Go.Proofs.Ytffdemagdagmpaa
