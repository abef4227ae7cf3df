/- Joined texts, part 8: WW WQ WK WT WA WY. -/
import Derived.Test.YtfdfejihakekeaaDoorZ06
import Derived.Test.YtfdfejihakekeaaDoorZ07
import Derived.Deep.RegionHeld3
import Derived.Test.YtfdfejihakekeaaDoorZ05
import Derived.Maps.AppendAt

/- The use of a node by the reference. -/
namespace Go.Proofs.YtfdfejihakekeaaDoor
set_option linter.unusedSimpArgs false
open Go.RowKit
set_option linter.unusedVariables false

set_option maxHeartbeats 3200000 in
set_option maxRecDepth 100000 in
theorem refUse_walk (l : List PodD) (node : Int) (A : Option Addr) (n c : Nat) (v1 v2 : Value) (z : V4) (ok : Bool) (w : World) (hn : n = l.length) (hl : n ≤ 400) (hr : Recs 8 cellsP w w.heap.size A l)
    (hsum : ∀ (A' : Option Addr) (n' c' : Nat) (w' : World), n' = (reqsAt node l).length → n' ≤ 500 → Recs 4 cellsV w' w'.heap.size A' (reqsAt node l) →
      Calls Tryd.prog 22 #[.slice A' n' c'] w' fun e w'' => e = .returned (.tuple #[aggV z, .bool ok]) ∧ Below w'.heap.size w' w'') :
    Calls Tryd.prog 10 #[.agg #[.slice A n c, v1, v2], .int .i64 node] w fun e w' => e = .returned (.tuple #[if ok then aggV z else zeroV, .bool ok]) ∧ Below w.heap.size w w' := by
  have HR := Lib.hid hr
  have HN := Lib.hid hn
  have HS := Lib.hid hsum
  have b00 := below_two w (.cells #[.slice A n c, v1, v2] 28) (.cells #[.int .u64 0, .int .u64 0, .int .u64 0, .int .u64 0] 36)
  have HT := Lib.hid (two_head w (.slice A n c) v1 v2 28 36)
  clear hr hn hsum
  go_enter Tryd.func10, Tryd.ntmps10
  go_wp2
  go_loopw [6, 7] (UseRel l node ((w.alloc (.cells #[.slice A n c, v1, v2] 28)).alloc (.cells #[.int .u64 0, .int .u64 0, .int .u64 0, .int .u64 0] 36)) (w.heap.size + 2)) (fun _ i _ => n - (intOf i).toNat)
  case atStart => exact ⟨0, 0, by omega, rfl, rfl, World.ownsRow_nil _ _ _ _, Below.refl _ _⟩
  case round =>
    obtain ⟨k, m, hk, rfl, hm, hown, hbr⟩ := hrel
    have HMM := Lib.hid hm
    have HOW := Lib.hid hown
    have hz := hbr.size
    have hz2 : w.heap.size + 2 ≤ wr.heap.size := by simpa using hz
    have kwr := b00.trans (hbr.mono (by omega))
    have c0 : wr.cell? ⟨w.heap.size, 0, none⟩ = some (.slice A n c) := (hbr.cell (p := ⟨w.heap.size, 0, none⟩) (by simp)).trans (by simp)
    have hwl : w.heap.size < wr.heap.size := by omega
    clear hm hown hz
    by_cases hlt : k < n
    · have hkl : k < l.length := by have := HN.out; omega
      obtain ⟨b, o, rfl, hb, he⟩ := HR.out.at hkl
      generalize hx : l[k] = y at *
      have HXX := Lib.hid (reqs_take (node := node) hkl hx)
      clear hx
      have e3 : wr.cell? ⟨b, o + k * 8 + 3, none⟩ = some (.int .u64 y.req.a) := (kwr.cell (p := ⟨b, o + k * 8 + 3, none⟩) hb).trans (he 3 _ rfl)
      have e4 : wr.cell? ⟨b, o + k * 8 + 4, none⟩ = some (.int .u64 y.req.b) := (kwr.cell (p := ⟨b, o + k * 8 + 4, none⟩) hb).trans (he 4 _ rfl)
      have e5 : wr.cell? ⟨b, o + k * 8 + 5, none⟩ = some (.int .u64 y.req.c) := (kwr.cell (p := ⟨b, o + k * 8 + 5, none⟩) hb).trans (he 5 _ rfl)
      have e6 : wr.cell? ⟨b, o + k * 8 + 6, none⟩ = some (.int .u64 y.req.d) := (kwr.cell (p := ⟨b, o + k * 8 + 6, none⟩) hb).trans (he 6 _ rfl)
      have e7 : wr.cell? ⟨b, o + k * 8 + 7, none⟩ = some (.int .i64 y.node) := (kwr.cell (p := ⟨b, o + k * 8 + 7, none⟩) hb).trans (he 7 _ rfl)
      have hbw : b < wr.heap.size := by omega
      have HL : Hid (m ≤ 2000000) := by
        have h1 := reqs_len node (l.take k)
        have h2 := HMM.out
        have h3 := List.length_take_le k l
        have h4 := HN.out
        show _ ≤ _
        rw [List.length_take] at h1
        omega
      clear he
      by_cases hy : y.node = node
      · have hd : (y.node == node) = true := by simp [hy]
        have HE := Lib.hid (HXX.out.1 hy)
        clear hy
        go_wp2_with (at_builtin; refine wpList_pushR 61 36 (.agg #[.int .u64 0, .int .u64 0, .int .u64 0, .int .u64 0]) 4 32 underVecs infoVec rfl (by decide) (by decide) rfl (.tmp 25) (.tmp 32) rfl (w.heap.size + 2) _ m _ (cellsV y.req) rfl (oneVec _) HOW.out hz2 HL.out rfl rfl ?_; intro v' w2 hown2 hb2 hB2)
        have HO2 := Lib.hid (own_reqs HMM.out hown2 HE.out)
        clear hown2
        go_wp2
        go_roundw
        case rel => exact ⟨k + 1, m + 1, by omega, by go_num, HO2.out.2, (by have h := HO2.out.1; exact h), hbr.trans hb2⟩
        case measure => simp [intOf]; omega
      · have hd : (y.node == node) = false := by simp [hy]
        have HE := Lib.hid (HXX.out.2 hy)
        clear hy
        go_wp2
        go_roundw
        case rel => exact ⟨k + 1, m, by omega, by go_num, by rw [HE.out]; exact HMM.out, by rw [HE.out]; exact HOW.out, hbr⟩
        case measure => simp [intOf]; omega
    · have htk : l.take k = l := List.take_of_length_le (by have := HN.out; omega)
      have hm' := HMM.out
      have how := HOW.out
      rw [htk] at hm' how
      obtain ⟨A', c', rfl, hc1, hc2, hc3, hrec⟩ := recs_of_own lenVec hm' how
      have HRE := Lib.hid hrec
      have HMM' := Lib.hid hm'
      have HLL : Hid (m ≤ 500) := by
        have h1 := reqs_len node l
        have h4 := HN.out
        have h5 := HMM'.out
        show _ ≤ _
        omega
      have hr4 := HT.out.below hbr (by simp)
      obtain ⟨g0, g1, g2, g3, f0, f1, f2, f3⟩ := hr4
      have hwl : w.heap.size + 1 < wr.heap.size := by omega
      clear how hm' htk hrec
      go_wp2_with fail
      refine (HS.out A' m c' _ HMM'.out HLL.out HRE.out).mono ?_
      rintro e w1 ⟨rfl, hb1⟩
      have g0 : w1.cell? ⟨w.heap.size + 1, 0, none⟩ = some (.int .u64 0) := (hb1.cell (p := ⟨w.heap.size + 1, 0, none⟩) hwl).trans g0
      have g1 : w1.cell? ⟨w.heap.size + 1, 1, none⟩ = some (.int .u64 0) := (hb1.cell (p := ⟨w.heap.size + 1, 1, none⟩) hwl).trans g1
      have g2 : w1.cell? ⟨w.heap.size + 1, 2, none⟩ = some (.int .u64 0) := (hb1.cell (p := ⟨w.heap.size + 1, 2, none⟩) hwl).trans g2
      have g3 : w1.cell? ⟨w.heap.size + 1, 3, none⟩ = some (.int .u64 0) := (hb1.cell (p := ⟨w.heap.size + 1, 3, none⟩) hwl).trans g3
      have f0 : w1.frozen? ⟨w.heap.size + 1, 0, none⟩ = false := (hb1.frozen (p := ⟨w.heap.size + 1, 0, none⟩) hwl).trans f0
      have f1 : w1.frozen? ⟨w.heap.size + 1, 1, none⟩ = false := (hb1.frozen (p := ⟨w.heap.size + 1, 1, none⟩) hwl).trans f1
      have f2 : w1.frozen? ⟨w.heap.size + 1, 2, none⟩ = false := (hb1.frozen (p := ⟨w.heap.size + 1, 2, none⟩) hwl).trans f2
      have f3 : w1.frozen? ⟨w.heap.size + 1, 3, none⟩ = false := (hb1.frozen (p := ⟨w.heap.size + 1, 3, none⟩) hwl).trans f3
      have hwl1 : w.heap.size + 1 < w1.heap.size := Nat.lt_of_lt_of_le hwl hb1.size
      have kw1 : Below w.heap.size w w1 := kwr.trans (hb1.mono (by omega))
      cases ok with
      | true =>
        go_wp2
        refine bodyPost_ret (v := .tuple #[aggV z, .bool true]) ?_ rfl ?_
        · simp [results, Tryd.results10, go_sem, *]
        · refine ⟨rfl, ?_⟩
          repeat (first | with_reducible exact kw1 | with_reducible refine Below.setCell ?_ ?_ _ | with_reducible refine Below.alloc ?_ ?_ _)
          all_goals first | (show w.heap.size ≤ w.heap.size + 1; omega) | (simp; omega) | omega
      | false =>
        go_wp2
        refine bodyPost_ret (v := .tuple #[zeroV, .bool false]) ?_ rfl ?_
        · simp [results, Tryd.results10, go_sem, *]
        · refine ⟨rfl, ?_⟩
          repeat (first | with_reducible exact kw1 | with_reducible refine Below.setCell ?_ ?_ _ | with_reducible refine Below.alloc ?_ ?_ _)
          all_goals first | (show w.heap.size ≤ w.heap.size + 1; omega) | (simp; omega) | omega
theorem refUse_some {l : List PodD} {node : Int} {u : V4} (ho : ∀ p ∈ l, p.Ok) (h : useD l node = some u) (A : Option Addr) (n c : Nat) (v1 v2 : Value) (w : World) (hn : n = l.length) (hl : n ≤ 400) (hr : Recs 8 cellsP w w.heap.size A l) :
    Calls Tryd.prog 10 #[.agg #[.slice A n c, v1, v2], .int .i64 node] w fun e w' => e = .returned (.tuple #[aggV u, .bool true]) ∧ Below w.heap.size w w' :=
  refUse_walk l node A n c v1 v2 u true w hn hl hr fun A' n' c' w' h1 h2 h3 => rSum_some (reqs_ok ho) h A' n' c' w' h1 h2 h3
theorem refUse_none {l : List PodD} {node : Int} (ho : ∀ p ∈ l, p.Ok) (h : useD l node = none) (A : Option Addr) (n c : Nat) (v1 v2 : Value) (w : World) (hn : n = l.length) (hl : n ≤ 400) (hr : Recs 8 cellsP w w.heap.size A l) :
    Calls Tryd.prog 10 #[.agg #[.slice A n c, v1, v2], .int .i64 node] w fun e w' => e = .returned (.tuple #[zeroV, .bool false]) ∧ Below w.heap.size w w' :=
  refUse_walk l node A n c v1 v2 .zer false w hn hl hr fun A' n' c' w' h1 h2 h3 => rSum_none (reqs_ok ho) h A' n' c' w' h1 h2 h3
end Go.Proofs.YtfdfejihakekeaaDoor

/- A node's rest by the reference. -/
namespace Go.Proofs.YtfdfejihakekeaaDoor
set_option linter.unusedSimpArgs false
open Go.RowKit
set_option linter.unusedVariables false

theorem ref_ret {p : V4 × Int} {a : Value} {b : Value} (q : V4 × Int) (h : p = q) (ha : a = aggV q.1) (hb : b = .int .i64 q.2) : Ending.returned (.tuple #[a, b]) = .returned (.tuple #[aggV p.1, .int .i64 p.2]) := by subst h ha hb; rfl

set_option maxHeartbeats 6400000 in
set_option maxRecDepth 100000 in
theorem refRest_any (ns : List NodeD) (l : List PodD) (id : Int) (hno : ∀ x ∈ ns, x.Ok) (hlo : ∀ p ∈ l, p.Ok) (A1 A4 : Option Addr) (n1 c1 n4 c4 : Nat) (s2 s3 v1 v2 : Value) (w : World)
    (hn1 : n1 = ns.length) (hl1 : n1 ≤ 400) (hr1 : Recs 10 cellsN w w.heap.size A1 ns) (hn4 : n4 = l.length) (hl4 : n4 ≤ 400) (hr4 : Recs 8 cellsP w w.heap.size A4 l) :
    Calls Tryd.prog 11 #[.agg #[.slice A1 n1 c1, s2, s3], .agg #[.slice A4 n4 c4, v1, v2], .int .i64 id] w fun e w' => e = .returned (.tuple #[aggV (restD ns l id).1, .int .i64 (restD ns l id).2]) ∧ Below w.heap.size w w' := by
  have HR1 := Lib.hid hr1
  have HR4 := Lib.hid hr4
  have HN1 := Lib.hid hn1
  have HN4 := Lib.hid hn4
  have HNO := Lib.hid hno
  have HLO := Lib.hid hlo
  have T0 := T3.new w [.slice A1 n1 c1, s2, s3] [.slice A4 n4 c4, v1, v2] (cellsV .zer) 26 28 36
  have HF := Lib.hid (fun W (h1 : Recs 10 cellsN W W.heap.size A1 ns) => rNode_any ns id A1 n1 c1 W.heap.size s2 s3 W hn1 (by omega) (Nat.le_refl _) h1)
  clear hr1 hr4 hn1 hn4 hno hlo
  go_enter Tryd.func11, Tryd.ntmps11
  go_wp2_with fail
  refine (HF.out _ ((HR1.out.below T0.below (Nat.le_refl _)).more T0.below.size)).mono ?_
  rintro e w1 ⟨rfl, hb1⟩
  have T1 := T0.keep hb1
  clear hb1 T0 HF
  obtain ⟨a0, a1, a2, a3⟩ := T1.two.cells3
  have hwl1 : w.heap.size + 1 < w1.heap.size := T1.two.lt
  by_cases hp : place NodeD.id id ns 0 < 0
  · have HE := Lib.hid (rest_none (l := l) (nodeAt_no (k := 0) (Int.le_refl _) hp))
    have kw2 := T1.below
    have HD : decide (place NodeD.id id ns 0 < 0) = true := decide_eq_true hp
    obtain ⟨⟨g0, g1, g2, g3⟩, g4⟩ := T1.three.zero4
    obtain ⟨f0, f1, f2, f3⟩ := T1.three.free4
    clear T1
    generalize place NodeD.id id ns 0 = q at *
    go_wp2
    refine bodyPost_ret (v := .tuple #[zeroV, .int .i64 4]) ?_ rfl ?_
    · simp [results, Tryd.results11, go_sem, *]
    · refine ⟨ref_ret _ HE.out rfl rfl, ?_⟩
      repeat (first | with_reducible exact kw2 | with_reducible refine Below.setCell ?_ ?_ _ | with_reducible refine Below.alloc ?_ ?_ _)
      all_goals first | (show w.heap.size ≤ w.heap.size + 2; omega) | (simp; omega) | omega
  · obtain ⟨i, hi, hpi⟩ : ∃ i : Nat, i < ns.length ∧ place NodeD.id id ns 0 = (i : Int) := by
      have := place_ge (f := NodeD.id) (id := id) (l := ns) (k := 0) (Int.le_refl _)
      exact ⟨(place NodeD.id id ns 0).toNat, by omega, by omega⟩
    rw [hpi]
    have HP := Lib.hid (nodeAt_yes (k := 0) hi (Int.le_refl _) (by rw [hpi]; omega))
    have HX := Lib.hid (HNO.out _ (List.getElem_mem hi))
    obtain ⟨b, o, hA, hb, he⟩ := HR1.out.at hi
    subst hA
    have hin : (i : Int) < (n1 : Int) := by have := HN1.out; omega
    have hi0 : (0 : Int) ≤ (i : Int) := by omega
    have hil : i < n1 := by omega
    generalize hx : ns[i] = x at *
    clear hp hx hpi
    have HEE : Hid (∀ (W : World), Below w.heap.size w W → W.cell? ⟨b, o + i * 10 + 2, none⟩ = some (.int .u64 x.cap.a) ∧ W.cell? ⟨b, o + i * 10 + 3, none⟩ = some (.int .u64 x.cap.b) ∧ W.cell? ⟨b, o + i * 10 + 4, none⟩ = some (.int .u64 x.cap.c) ∧ W.cell? ⟨b, o + i * 10 + 5, none⟩ = some (.int .u64 x.cap.d) ∧
        W.cell? ⟨b, o + i * 10 + 6, none⟩ = some (.int .u64 x.held.a) ∧ W.cell? ⟨b, o + i * 10 + 7, none⟩ = some (.int .u64 x.held.b) ∧ W.cell? ⟨b, o + i * 10 + 8, none⟩ = some (.int .u64 x.held.c) ∧ W.cell? ⟨b, o + i * 10 + 9, none⟩ = some (.int .u64 x.held.d) ∧ b < W.heap.size) := fun W hW =>
      ⟨(hW.cell (p := ⟨b, _, none⟩) hb).trans (he 2 _ rfl), (hW.cell (p := ⟨b, _, none⟩) hb).trans (he 3 _ rfl), (hW.cell (p := ⟨b, _, none⟩) hb).trans (he 4 _ rfl), (hW.cell (p := ⟨b, _, none⟩) hb).trans (he 5 _ rfl), (hW.cell (p := ⟨b, _, none⟩) hb).trans (he 6 _ rfl), (hW.cell (p := ⟨b, _, none⟩) hb).trans (he 7 _ rfl), (hW.cell (p := ⟨b, _, none⟩) hb).trans (he 8 _ rfl), (hW.cell (p := ⟨b, _, none⟩) hb).trans (he 9 _ rfl), Nat.lt_of_lt_of_le hb hW.size⟩
    have HRR := Lib.hid ((HR4.out.below T1.below (Nat.le_refl _)).more T1.below.size)
    clear he hb
    rcases hu : useD l id with _ | u
    · have HC := Lib.hid (fun W (h1 : Recs 8 cellsP W W.heap.size A4 l) => refUse_none HLO.out hu A4 n4 c4 v1 v2 W HN4.out hl4 h1)
      have HE := Lib.hid (rest_over HP.out hu)
      have HT := Lib.hid T1
      clear hu T1
      go_wp2_with fail
      refine (HC.out _ HRR.out).mono ?_
      rintro e w2 ⟨rfl, hb2⟩
      have T2 := HT.out.keep hb2
      clear hb2 HT HRR a0 a1 a2 a3 hwl1
      obtain ⟨⟨g0, g1, g2, g3⟩, g4⟩ := T2.three.zero4
      obtain ⟨f0, f1, f2, f3⟩ := T2.three.free4
      have kw2 := T2.below
      clear T2
      go_wp2
      refine bodyPost_ret (v := .tuple #[zeroV, .int .i64 8]) ?_ rfl ?_
      · simp [results, Tryd.results11, go_sem, *]
      · refine ⟨ref_ret _ HE.out rfl rfl, ?_⟩
        repeat (first | with_reducible exact kw2 | with_reducible refine Below.setCell ?_ ?_ _ | with_reducible refine Below.alloc ?_ ?_ _)
        all_goals first | (show w.heap.size ≤ w.heap.size + 2; omega) | (simp; omega) | omega
    · have HC := Lib.hid (fun W (h1 : Recs 8 cellsP W W.heap.size A4 l) => refUse_some HLO.out hu A4 n4 c4 v1 v2 W HN4.out hl4 h1)
      have HUO := Lib.hid (use_ok HLO.out hu)
      have HT := Lib.hid T1
      clear T1
      go_wp2_with fail
      refine (HC.out _ HRR.out).mono ?_
      rintro e w2 ⟨rfl, hb2⟩
      have T2 := (HT.out.keep hb2).alloc (.cells #[.int .u64 u.a, .int .u64 u.b, .int .u64 u.c, .int .u64 u.d] 36)
      have U2 : Bf (w2.alloc (.cells #[.int .u64 u.a, .int .u64 u.b, .int .u64 u.c, .int .u64 u.d] 36)) w2.heap.size (cellsV u) := Bf.new w2 (cellsV u) 36 rfl
      have hz2 : w2.heap.size < (w2.alloc (.cells #[.int .u64 u.a, .int .u64 u.b, .int .u64 u.c, .int .u64 u.d] 36)).heap.size := by simp
      have hz3 : w.heap.size + 2 < w2.heap.size := (HT.out.keep hb2).three.lt
      obtain ⟨z, ok, hsc, hok⟩ : ∃ (z : V4) (ok : Bool), (∀ W, Calls Tryd.prog 24 #[aggV x.cap, aggV x.held] W fun e w' => e = .returned (.tuple #[aggV z, .bool ok]) ∧ Below W.heap.size W w') ∧ ((ok = true ∧ subV x.cap x.held = some z) ∨ (ok = false ∧ subV x.cap x.held = none)) := by
        rcases hf : subV x.cap x.held with _ | f
        · exact ⟨.zer, false, fun W => rSub_none hf W, .inr ⟨rfl, rfl⟩⟩
        · exact ⟨f, true, fun W => rSub_some HX.out.2.2.1 HX.out.2.2.2 hf W, .inl ⟨rfl, rfl⟩⟩
      have HSC := Lib.hid hsc
      have HOK := Lib.hid hok
      have HU := Lib.hid hu
      clear hb2 HT HRR a0 a1 a2 a3 hwl1 hsc hok hu
      go_upto_region 7 with fail
      have EW := HEE.out _ T2.below
      obtain ⟨a0, a1, a2, a3⟩ := T2.one.cells3
      generalize hW : (w2.alloc (.cells #[.int .u64 u.a, .int .u64 u.b, .int .u64 u.c, .int .u64 u.d] 36)) = W at *
      have HT2 := Lib.hid T2
      have HU2 := Lib.hid U2
      have HZ2 := Lib.hid hz2
      have HZ3 := Lib.hid hz3
      clear hW T2 U2 HEE hz2 hz3
      obtain ⟨e2, e3, e4, e5, e6, e7, e8, e9, ebl⟩ := EW
      go_region_held3 (fun w' => (∀ b o, b < W.heap.size → w'.cell? ⟨b, o, none⟩ = W.cell? ⟨b, o, none⟩) ∧ Below W.heap.size W w')
        (first | (with_reducible assumption) | (show Keeps W _; with_reducible (repeat (first | exact Keeps.refl _ | refine Keeps.drew ?_ | refine Keeps.set ?_ (by simp) _ | refine Keeps.alloc ?_ _ | refine Keeps.step ?_ (by assumption)))))
        (first
          | (go_at_call 24; refine (HSC.out _).mono ?_; rintro e w' ⟨rfl, hb⟩; obtain ⟨hcx, hfx⟩ := old_cells hb))
      rename_i hK
      have BV : Bf (w'.alloc (.cells #[.int .u64 z.a, .int .u64 z.b, .int .u64 z.c, .int .u64 z.d] 36)) w'.heap.size (cellsV z) := Bf.new w' (cellsV z) _ rfl
      have KV := hK.2
      generalize hV : w'.alloc (.cells #[.int .u64 z.a, .int .u64 z.b, .int .u64 z.c, .int .u64 z.d] 36) = V at *
      clear hK hV hcx hfx hb
      generalize w'.heap.size = h at *
      rotate_left
      rename_i hK
      have BV := Bf.later (z := z) (Bf.drew (Bf.new W (cellsV .zer) 36 rfl)) hb
      have KV := hK.2
      generalize hV : (((w'.setCell ⟨W.heap.size, 0, none⟩ (.int .u64 z.a)).setCell ⟨W.heap.size, 1, none⟩ (.int .u64 z.b)).setCell ⟨W.heap.size, 2, none⟩ (.int .u64 z.c)).setCell ⟨W.heap.size, 3, none⟩ (.int .u64 z.d) = V at *
      clear hK hV hcx hfx hb
      have KV' := KV
      generalize hh : W.heap.size = h at BV ⊢
      clear hh KV'
      rotate_left
      all_goals
        have T7 := HT2.out.keep KV
        have U7 := HU2.out.below KV HU2.out.lt
        have HT7 := Lib.hid T7
        clear KV
        obtain ⟨v0, v1', v2', v3, v4⟩ := BV.cells4
        obtain ⟨⟨g0, g1, g2, g3⟩, g4⟩ := T7.three.zero4
        obtain ⟨f0, f1, f2, f3⟩ := T7.three.free4
        obtain ⟨u0, u1, u2, u3, u4⟩ := U7.cells4
        have kw2 := T7.below
        clear a0 a1 a2 a3 e2 e3 e4 e5 e6 e7 e8 e9 T7 U7 BV
        rcases HOK.out with ⟨hk, hf⟩ | ⟨hk, hf⟩
        · subst hk
          have HZO := Lib.hid (sub_ok4 HX.out.2.2.1 HX.out.2.2.2 hf)
          rcases hg : subV z u with _ | r
          · have HE := Lib.hid (rest_room HP.out HU.out ((left_some hf).trans hg))
            have HC2 := Lib.hid (fun W => rSub_none hg W)
            clear hf hg kw2
            go_wp2_with fail
            refine (HC2.out _).mono ?_
            rintro e w3 ⟨rfl, hb3⟩
            have T8 := HT7.out.keep hb3
            clear hb3 HT7 g0 g1 g2 g3 g4 f0 f1 f2 f3 v0 v1' v2' v3 v4 u0 u1 u2 u3 u4
            obtain ⟨⟨g0, g1, g2, g3⟩, g4⟩ := T8.three.zero4
            obtain ⟨f0, f1, f2, f3⟩ := T8.three.free4
            have kw2 := T8.below
            clear T8
            go_wp2
            refine bodyPost_ret (v := .tuple #[zeroV, .int .i64 9]) ?_ rfl ?_
            · simp [results, Tryd.results11, go_sem, *]
            · refine ⟨ref_ret _ HE.out rfl rfl, ?_⟩
              repeat (first | with_reducible exact kw2 | with_reducible refine Below.setCell ?_ ?_ _ | with_reducible refine Below.alloc ?_ ?_ _)
              all_goals first | (show w.heap.size ≤ w.heap.size + 2; omega) | (simp; omega) | omega
          · have HE := Lib.hid (rest_some HP.out HU.out ((left_some hf).trans hg))
            have HC2 := Lib.hid (fun W => rSub_some HZO.out HUO.out hg W)
            clear hf hg kw2
            go_wp2_with fail
            refine (HC2.out _).mono ?_
            rintro e w3 ⟨rfl, hb3⟩
            have T8 := HT7.out.keep hb3
            clear hb3 HT7 g0 g1 g2 g3 g4 f0 f1 f2 f3 v0 v1' v2' v3 v4 u0 u1 u2 u3 u4
            obtain ⟨⟨g0, g1, g2, g3⟩, g4⟩ := T8.three.zero4
            obtain ⟨f0, f1, f2, f3⟩ := T8.three.free4
            have kw2 := T8.below
            clear T8
            go_wp2
            refine bodyPost_ret (v := .tuple #[aggV r, .int .i64 0]) ?_ rfl ?_
            · simp [results, Tryd.results11, go_sem, *]
            · refine ⟨ref_ret _ HE.out rfl rfl, ?_⟩
              repeat (first | with_reducible exact kw2 | with_reducible refine Below.setCell ?_ ?_ _ | with_reducible refine Below.alloc ?_ ?_ _)
              all_goals first | (show w.heap.size ≤ w.heap.size + 2; omega) | (simp; omega) | omega
        · subst hk
          have HE := Lib.hid (rest_room HP.out HU.out (left_none hf))
          clear hf
          go_wp2
          refine bodyPost_ret (v := .tuple #[zeroV, .int .i64 9]) ?_ rfl ?_
          · simp [results, Tryd.results11, go_sem, *]
          · refine ⟨ref_ret _ HE.out rfl rfl, ?_⟩
            repeat (first | with_reducible exact kw2 | with_reducible refine Below.setCell ?_ ?_ _ | with_reducible refine Below.alloc ?_ ?_ _)
            all_goals first | (show w.heap.size ≤ w.heap.size + 2; omega) | (simp; omega) | omega
end Go.Proofs.YtfdfejihakekeaaDoor

/- The first node at fault by the reference. -/
namespace Go.Proofs.YtfdfejihakekeaaDoor
set_option linter.unusedSimpArgs false
open Go.RowKit
set_option linter.unusedVariables false

set_option maxHeartbeats 6400000 in
set_option maxRecDepth 100000 in
theorem refCheck_any (ns : List NodeD) (l : List PodD) (hno : ∀ x ∈ ns, x.Ok) (hlo : ∀ p ∈ l, p.Ok) (A1 A4 : Option Addr) (n1 c1 n4 c4 : Nat) (s2 s3 v1 v2 : Value) (w : World)
    (hn1 : n1 = ns.length) (hl1 : n1 ≤ 400) (hr1 : Recs 10 cellsN w w.heap.size A1 ns) (hn4 : n4 = l.length) (hl4 : n4 ≤ 400) (hr4 : Recs 8 cellsP w w.heap.size A4 l) :
    Calls Tryd.prog 12 #[.agg #[.slice A1 n1 c1, s2, s3], .agg #[.slice A4 n4 c4, v1, v2]] w fun e w' => e = .returned (.tuple #[.int .i64 (roomOf ns l).1, .int .i64 (roomOf ns l).2]) ∧ Below w.heap.size w w' := by
  have HR1 := Lib.hid hr1
  have HN1 := Lib.hid hn1
  have HC := Lib.hid (fun (W : World) (hW : Below w.heap.size w W) (id : Int) => refRest_any ns l id hno hlo A1 A4 n1 c1 n4 c4 s2 s3 v1 v2 W hn1 hl1 ((hr1.below hW (Nat.le_refl _)).more hW.size) hn4 hl4 ((hr4.below hW (Nat.le_refl _)).more hW.size))
  have T0 := T2.new w [.slice A1 n1 c1, s2, s3] [.slice A4 n4 c4, v1, v2] 26 28
  have HT0 := Lib.hid T0
  clear hr1 hr4 hn1 hn4 hno hlo T0
  go_enter Tryd.func12, Tryd.ntmps12
  go_wp2
  go_loopw [6] (RoomRel ns l [.slice A1 n1 c1, s2, s3] [.slice A4 n4 c4, v1, v2] w) (fun i _ => n1 - (intOf i).toNat)
  case atStart => exact ⟨0, by omega, rfl, rfl, HT0.out⟩
  case round =>
    obtain ⟨k, hk, rfl, hp, T1⟩ := hrel
    have HP := Lib.hid hp
    have HT1 := Lib.hid T1
    clear hp
    obtain ⟨a0, a1, a2, a3⟩ := T1.one.cells3
    obtain ⟨b0, b1, b2, b3⟩ := T1.two.cells3
    by_cases hlt : k < n1
    · have hkl : k < ns.length := by have := HN1.out; omega
      obtain ⟨b, o, rfl, hb, he⟩ := HR1.out.at hkl
      generalize hx : ns[k] = y at *
      have HX := Lib.hid (roomD_at hkl hx HP.out)
      clear hx
      have kwr := T1.below
      have e0 : wr.cell? ⟨b, o + k * 10, none⟩ = some (.int .i64 y.id) := (kwr.cell (p := ⟨b, o + k * 10, none⟩) hb).trans (he 0 _ rfl)
      have hbw : b < wr.heap.size := Nat.lt_of_lt_of_le hb kwr.size
      have HCR := Lib.hid (fun (W : World) (hW : Keeps wr W) => HC.out W (kwr.trans (hW.2.mono kwr.size)) y.id)
      clear he T1 kwr
      generalize hz : restD ns l y.id = z at *
      obtain ⟨r, code⟩ := z
      clear hz
      go_wp2
      go_region_held3 (fun w' => (∀ b o, b < wr.heap.size → w'.cell? ⟨b, o, none⟩ = wr.cell? ⟨b, o, none⟩) ∧ Below wr.heap.size wr w')
        (first | (with_reducible assumption) | (show Keeps wr _; with_reducible (repeat (first | exact Keeps.refl _ | refine Keeps.drew ?_ | refine Keeps.set ?_ (by simp) _ | refine Keeps.alloc ?_ _ | refine Keeps.step ?_ (by assumption)))))
        (first
          | (go_at_call 11; refine (HCR.out _ (by assumption)).mono ?_; rintro e w' ⟨rfl, hb⟩; obtain ⟨hcx, hfx⟩ := old_cells hb))
      all_goals
        rename_i hK
        have HTT := Lib.hid (HT1.out.keep hK.2)
        clear hK hcx hfx hb e0 a0 a1 a2 a3 b0 b1 b2 b3
        by_cases hc : code = 0
        · subst hc
          have HE := Lib.hid (HX.out.2 rfl)
          go_wp2
          go_roundw
          case rel => exact ⟨k + 1, by omega, by go_num, HE.out, HTT.out⟩
          case measure => simp [intOf]; omega
        · have HE := Lib.hid (HX.out.1 hc)
          have hcb : (code != 0) = true := by simp [hc]
          clear hc
          go_wp2
          go_ret2
          exact ⟨ret_pair HE.out rfl rfl, HTT.out.below⟩
    · have HE := Lib.hid (roomD_end (by have := HN1.out; omega) HP.out)
      have kwr := T1.below
      clear T1
      go_wp2
      go_ret2
      exact ⟨ret_pair HE.out rfl rfl, kwr⟩
end Go.Proofs.YtfdfejihakekeaaDoor

/- The law RoomTells. -/
namespace Go.Proofs.YtfdfejihakekeaaDoor
set_option linter.unusedSimpArgs false
open Go.RowKit
set_option linter.unusedVariables false

theorem vec_not_self (x : V4) (w : World) : (binOp .neq 36 (.agg #[.int .u64 x.a, .int .u64 x.b, .int .u64 x.c, .int .u64 x.d]) (.agg #[.int .u64 x.a, .int .u64 x.b, .int .u64 x.c, .int .u64 x.d])).run Tryd.prog w = .ok (.bool false) w := by
  rw [vec_neq, vecEq_self]
  rfl
theorem few06 {n1 n2 n3 n5 : Nat} (h : few05 n1 n2 n3 0 n5 = true) : n1 ≤ 40 ∧ n2 ≤ 40 ∧ n3 ≤ 40 ∧ n5 ≤ 40 := by
  simp [few05] at h
  omega
/-- What Code tells of what Rest told. -/
theorem code_of_rest {c : Int} (h : c ≠ 0 → 1 ≤ c ∧ c ≤ 17) (w : World) : Calls Tryd.prog 13 #[codeV c] w fun e w' => e = .returned (.int .i64 c) ∧ w = w' := by
  by_cases h0 : c = 0
  · subst h0; exact code_nil w
  · rw [codeV_pos h0]; exact code_any c (h h0).1 (h h0).2 w
theorem uses (l : List PodD) (node : Int) (hlo : ∀ p ∈ l, p.Ok) (A4 : Option Addr) (n4 c4 : Nat) (v1 v2 : Value) (hn4 : n4 = l.length) (hl4 : n4 ≤ 400) : ∃ (z : V4) (ok : Bool) (eu : Value),
    (∀ W, Recs 8 cellsP W W.heap.size A4 l → Calls Tryd.prog 8 #[.agg #[.slice A4 n4 c4, v1, v2], .int .i64 node] W fun e w' => e = .returned (.tuple #[aggV z, eu]) ∧ Below W.heap.size W w') ∧
    (∀ W, Recs 8 cellsP W W.heap.size A4 l → Calls Tryd.prog 10 #[.agg #[.slice A4 n4 c4, v1, v2], .int .i64 node] W fun e w' => e = .returned (.tuple #[aggV z, .bool ok]) ∧ Below W.heap.size W w') ∧
    ((ok = true ∧ eu = .nilIface) ∨ (ok = false ∧ eu = .iface 48 (.int .i64 8))) := by
  rcases hu : useD l node with _ | u
  · exact ⟨.zer, false, _, fun W h => roomUse_none hlo hu A4 n4 c4 v1 v2 W hn4 hl4 h, fun W h => refUse_none hlo hu A4 n4 c4 v1 v2 W hn4 hl4 h, .inr ⟨rfl, rfl⟩⟩
  · exact ⟨u, true, _, fun W h => roomUse_some hlo hu A4 n4 c4 v1 v2 W hn4 hl4 h, fun W h => refUse_some hlo hu A4 n4 c4 v1 v2 W hn4 hl4 h, .inl ⟨rfl, rfl⟩⟩

set_option maxHeartbeats 12800000 in
set_option maxRecDepth 100000 in
theorem roomTells_in (s : SnapD) (t : StateD) (node : Int) (hno : ∀ x ∈ s.nodes, x.Ok) (hlo : ∀ p ∈ t.pods, p.Ok) (A1 A2 A3 A4 : Option Addr) (n1 c1 n2 c2 n3 c3 n4 c4 : Nat) (w : World) (hg : Laid w)
    (hn1 : n1 = s.nodes.length) (hr1 : Recs 10 cellsN w w.heap.size A1 s.nodes) (hn4 : n4 = t.pods.length) (hr4 : Recs 8 cellsP w w.heap.size A4 t.pods) :
    Calls Tryd.prog 3 #[.agg #[.slice A1 n1 c1, .slice A2 n2 c2, .slice A3 n3 c3], .agg #[.slice A4 n4 c4, .int .i64 t.preempts, .int .i64 t.shifts], .int .i64 node] w fun e w' => e = .returned (.bool true) ∧ Below w.heap.size w w' := by
  have T0 := T2.new w [.slice A1 n1 c1, .slice A2 n2 c2, .slice A3 n3 c3] [.slice A4 n4 c4, .int .i64 t.preempts, .int .i64 t.shifts] 26 28
  have HG := Lib.hid (fun (V : World) (hV : Below w.heap.size w V) => Laid.below hg hV (Nat.le_refl _))
  have HR1 := Lib.hid (fun (V : World) (hV : Below w.heap.size w V) => (hr1.below hV (Nat.le_refl _)).more hV.size)
  have HR4 := Lib.hid (fun (V : World) (hV : Below w.heap.size w V) => (hr4.below hV (Nat.le_refl _)).more hV.size)
  have HUP := Lib.hid (up06_any _ (HG.out _ T0.below))
  have HN1 := Lib.hid hn1
  have HN4 := Lib.hid hn4
  have HNO := Lib.hid hno
  have HLO := Lib.hid hlo
  clear hg hr1 hr4 hno hlo hn1 hn4
  go_enter Tryd.func3, Tryd.ntmps3
  go_wp2_with fail
  refine HUP.out.mono ?_
  rintro e w1 ⟨rfl, hb1⟩
  have T1 := T0.keep hb1
  clear hb1 T0 HUP
  obtain ⟨a0, a1, a2, a3⟩ := T1.one.cells3
  obtain ⟨b0, b1, b2, b3⟩ := T1.two.cells3
  go_wp2_with fail
  refine (few05_any _ _ _ _ _ _ _ _ _ _ _ _ _ _ _ _ _ _ _ _).mono ?_
  rintro e w2 ⟨rfl, hb2⟩
  have T2' := T1.keep hb2
  clear hb2 T1 a0 a1 a2 a3 b0 b1 b2 b3
  cases hfew : few05 n1 n2 n3 0 n4 with
  | false =>
    have kw := T2'.below
    clear hfew T2'
    go_wp2
    go_ret
    exact ⟨rfl, kw⟩
  | true =>
    obtain ⟨hl1, _, _, hl4⟩ := few06 hfew
    clear hfew
    obtain ⟨z, ok, eu, hu1, hu2, huk⟩ := uses t.pods node HLO.out A4 n4 c4 (.int .i64 t.preempts) (.int .i64 t.shifts) HN4.out (by omega)
    have HU1 := Lib.hid hu1
    have HU2 := Lib.hid hu2
    have HUK := Lib.hid huk
    have HF1 := Lib.hid (fun W hW => roomRest_any s.nodes t.pods node HNO.out HLO.out A1 A4 n1 c1 n4 c4 (.slice A2 n2 c2) (.slice A3 n3 c3) (.int .i64 t.preempts) (.int .i64 t.shifts) W HN1.out (by omega) (HR1.out W hW) HN4.out (by omega) (HR4.out W hW))
    have HF2 := Lib.hid (fun W hW => refRest_any s.nodes t.pods node HNO.out HLO.out A1 A4 n1 c1 n4 c4 (.slice A2 n2 c2) (.slice A3 n3 c3) (.int .i64 t.preempts) (.int .i64 t.shifts) W HN1.out (by omega) (HR1.out W hW) HN4.out (by omega) (HR4.out W hW))
    have HF3 := Lib.hid (fun W hW => refCheck_any s.nodes t.pods HNO.out HLO.out A1 A4 n1 c1 n4 c4 (.slice A2 n2 c2) (.slice A3 n3 c3) (.int .i64 t.preempts) (.int .i64 t.shifts) W HN1.out (by omega) (HR1.out W hW) HN4.out (by omega) (HR4.out W hW))
    have HF4 := Lib.hid (fun W hW => roomCheck_any s.nodes t.pods HNO.out HLO.out A1 A4 n1 c1 n4 c4 (.slice A2 n2 c2) (.slice A3 n3 c3) (.int .i64 t.preempts) (.int .i64 t.shifts) W (HG.out W hW) HN1.out (by omega) (HR1.out W hW) HN4.out (by omega) (HR4.out W hW))
    have HRC := Lib.hid (fun h => rest_code (ns := s.nodes) (l := t.pods) (id := node) h)
    generalize hz : restD s.nodes t.pods node = rz at *
    obtain ⟨r, code⟩ := rz
    have HCR := Lib.hid (fun W => code_of_rest HRC.out W)
    generalize hq : roomOf s.nodes t.pods = q at *
    generalize hev : codeV code = ev at *
    clear hu1 hu2 huk hz hq hev HRC HNO HLO HR1 HN1 HN4
    -- Use
    have HT := Lib.hid T2'
    have HRR := Lib.hid (HR4.out _ T2'.below)
    obtain ⟨b0, b1, b2, b3⟩ := T2'.two.cells3
    clear T2'
    go_wp2_with fail
    refine (HU1.out _ HRR.out).mono ?_
    rintro e w3 ⟨rfl, hb3⟩
    have T3 := (HT.out.keep hb3).alloc (.cells #[.int .u64 z.a, .int .u64 z.b, .int .u64 z.c, .int .u64 z.d] 36)
    have Z3 : Bf (w3.alloc (.cells #[.int .u64 z.a, .int .u64 z.b, .int .u64 z.c, .int .u64 z.d] 36)) w3.heap.size (cellsV z) := Bf.new w3 (cellsV z) _ rfl
    clear hb3 HT HRR b0 b1 b2 b3
    -- Rest
    go_upto_region 6 with fail
    generalize hW : (w3.alloc (.cells #[.int .u64 z.a, .int .u64 z.b, .int .u64 z.c, .int .u64 z.d] 36)) = W3 at *
    generalize hh : w3.heap.size = h9 at *
    clear hW hh
    have HRR := Lib.hid T3.below
    have HT := Lib.hid T3
    have HZ3 := Lib.hid Z3
    obtain ⟨a0, a1, a2, a3⟩ := T3.one.cells3
    obtain ⟨b0, b1, b2, b3⟩ := T3.two.cells3
    clear T3 Z3
    go_wp2_with fail
    refine (HF1.out _ HRR.out).mono ?_
    rintro e w4 ⟨rfl, hb4⟩
    have T4 := (HT.out.keep hb4).alloc (.cells #[.int .u64 r.a, .int .u64 r.b, .int .u64 r.c, .int .u64 r.d] 36)
    have Z4 := (HZ3.out.below hb4 HZ3.out.lt).alloc (.cells #[.int .u64 r.a, .int .u64 r.b, .int .u64 r.c, .int .u64 r.d] 36)
    have R4 : Bf (w4.alloc (.cells #[.int .u64 r.a, .int .u64 r.b, .int .u64 r.c, .int .u64 r.d] 36)) w4.heap.size (cellsV r) := Bf.new w4 (cellsV r) _ rfl
    clear hb4 HT HRR HZ3 a0 a1 a2 a3 b0 b1 b2 b3
    -- the reference's Use
    go_upto_region 7 with fail
    generalize hW : (w4.alloc (.cells #[.int .u64 r.a, .int .u64 r.b, .int .u64 r.c, .int .u64 r.d] 36)) = W4 at *
    generalize hh : w4.heap.size = h11 at *
    clear hW hh
    have HRR := Lib.hid (HR4.out _ T4.below)
    have HT := Lib.hid T4
    have HZ4 := Lib.hid Z4
    have HR4' := Lib.hid R4
    obtain ⟨b0, b1, b2, b3⟩ := T4.two.cells3
    clear T4 Z4 R4
    go_wp2_with fail
    refine (HU2.out _ HRR.out).mono ?_
    rintro e w5 ⟨rfl, hb5⟩
    have T5 := (HT.out.keep hb5).alloc (.cells #[.int .u64 z.a, .int .u64 z.b, .int .u64 z.c, .int .u64 z.d] 36)
    have Z5 := (HZ4.out.below hb5 HZ4.out.lt).alloc (.cells #[.int .u64 z.a, .int .u64 z.b, .int .u64 z.c, .int .u64 z.d] 36)
    have R5 := (HR4'.out.below hb5 HR4'.out.lt).alloc (.cells #[.int .u64 z.a, .int .u64 z.b, .int .u64 z.c, .int .u64 z.d] 36)
    have Y5 : Bf (w5.alloc (.cells #[.int .u64 z.a, .int .u64 z.b, .int .u64 z.c, .int .u64 z.d] 36)) w5.heap.size (cellsV z) := Bf.new w5 (cellsV z) _ rfl
    clear hb5 HT HRR HZ4 HR4' b0 b1 b2 b3
    -- the reference's Rest
    go_upto_region 8 with fail
    generalize hW : (w5.alloc (.cells #[.int .u64 z.a, .int .u64 z.b, .int .u64 z.c, .int .u64 z.d] 36)) = W5 at *
    generalize hh : w5.heap.size = h13 at *
    clear hW hh
    have HRR := Lib.hid T5.below
    have HT := Lib.hid T5
    have HZ5 := Lib.hid Z5
    have HR5 := Lib.hid R5
    have HY5 := Lib.hid Y5
    obtain ⟨a0, a1, a2, a3⟩ := T5.one.cells3
    obtain ⟨b0, b1, b2, b3⟩ := T5.two.cells3
    clear T5 Z5 R5 Y5
    go_wp2_with fail
    refine (HF2.out _ HRR.out).mono ?_
    rintro e w6 ⟨rfl, hb6⟩
    have T6 := (HT.out.keep hb6).alloc (.cells #[.int .u64 r.a, .int .u64 r.b, .int .u64 r.c, .int .u64 r.d] 36)
    have Z6 := (HZ5.out.below hb6 HZ5.out.lt).alloc (.cells #[.int .u64 r.a, .int .u64 r.b, .int .u64 r.c, .int .u64 r.d] 36)
    have R6 := (HR5.out.below hb6 HR5.out.lt).alloc (.cells #[.int .u64 r.a, .int .u64 r.b, .int .u64 r.c, .int .u64 r.d] 36)
    have Y6 := (HY5.out.below hb6 HY5.out.lt).alloc (.cells #[.int .u64 r.a, .int .u64 r.b, .int .u64 r.c, .int .u64 r.d] 36)
    have X6 : Bf (w6.alloc (.cells #[.int .u64 r.a, .int .u64 r.b, .int .u64 r.c, .int .u64 r.d] 36)) w6.heap.size (cellsV r) := Bf.new w6 (cellsV r) _ rfl
    clear hb6 HT HRR HZ5 HR5 HY5 a0 a1 a2 a3 b0 b1 b2 b3
    -- the reference's Check
    go_upto_region 9 with fail
    generalize hW : (w6.alloc (.cells #[.int .u64 r.a, .int .u64 r.b, .int .u64 r.c, .int .u64 r.d] 36)) = W6 at *
    generalize hh : w6.heap.size = h15 at *
    clear hW hh
    have HRR := Lib.hid T6.below
    have HT := Lib.hid T6
    have HZ6 := Lib.hid Z6
    have HR6 := Lib.hid R6
    have HY6 := Lib.hid Y6
    have HX6 := Lib.hid X6
    obtain ⟨a0, a1, a2, a3⟩ := T6.one.cells3
    obtain ⟨b0, b1, b2, b3⟩ := T6.two.cells3
    clear T6 Z6 R6 Y6 X6
    go_wp2_with fail
    refine (HF3.out _ HRR.out).mono ?_
    rintro e w7 ⟨rfl, hb7⟩
    have T7 := HT.out.keep hb7
    have Z7 := HZ6.out.below hb7 HZ6.out.lt
    have R7 := HR6.out.below hb7 HR6.out.lt
    have Y7 := HY6.out.below hb7 HY6.out.lt
    have X7 := HX6.out.below hb7 HX6.out.lt
    have HT7 := Lib.hid T7
    have HB7 := Lib.hid T7.below
    clear hb7 HT HRR HZ6 HR6 HY6 HX6 a0 a1 a2 a3 b0 b1 b2 b3
    obtain ⟨a0, a1, a2, a3⟩ := T7.one.cells3
    obtain ⟨b0, b1, b2, b3⟩ := T7.two.cells3
    obtain ⟨z0, z1, z2, z3, z4⟩ := Z7.cells4
    obtain ⟨y0, y1, y2, y3, y4⟩ := Y7.cells4
    obtain ⟨r0, r1, r2, r3, r4⟩ := R7.cells4
    obtain ⟨x0, x1, x2, x3, x4⟩ := X7.cells4
    have hnz := fun W => vec_not_self z W
    have hve := fun W => vec_same r.a r.b r.c r.d W
    have hn8 : ∀ W, (binOp .neq 38 (.iface 48 (.int .i64 8)) (.iface 48 (.int .i64 8))).run Tryd.prog W = .ok (.bool false) W := fun _ => by kernel_rfl
    clear T7 Z7 Y7 R7 X7
    rcases HUK.out with ⟨hk, he⟩ | ⟨hk, he⟩
    all_goals
      subst hk he
      go_wp2_with fail
      refine (HCR.out _).mono ?_
      rintro e w8 ⟨rfl, rfl⟩
      go_wp2_with fail
      refine (HF4.out _ HB7.out).mono ?_
      rintro e w9 ⟨u9, rfl, hu9, hb9⟩
      have HTD := Lib.hid (told_any q w7.heap.size u9 w9 (HG.out _ (HB7.out.trans (hb9.mono HB7.out.size))) hu9)
      have HB9 := Lib.hid (HB7.out.trans (hb9.mono HB7.out.size))
      clear hu9 hb9
      go_wp2_with fail
      refine HTD.out.mono ?_
      rintro e w10 ⟨rfl, hb10⟩
      have HB10 := Lib.hid (HB9.out.trans (hb10.mono HB9.out.size))
      clear hb10
      go_wp2
      go_ret
      exact ⟨rfl, HB10.out⟩
end Go.Proofs.YtfdfejihakekeaaDoor

/- append of all records of a slice at a step of a region that draws its order; slices of slices of records. -/
namespace Go.Proofs.YtfdfejihakekeaaDoor
set_option linter.unusedSimpArgs false
open Go.RowKit
set_option linter.unusedVariables false

section
variable {α : Type} {size : Nat} {cells : α → List Value} {w : World} {B : Nat} {xs : List α}
theorem Recs.drop {b o : Nat} (h : Recs size cells w B (some ⟨b, o, none⟩) xs) (k : Nat) : Recs size cells w B (some ⟨b, o + k * size, none⟩) (xs.drop k) := by
  rcases h with h | ⟨b', o', h1, h2, h3⟩
  · exact .inl (by simp [h])
  · injection h1 with h1
    injection h1 with h1 h1'
    subst h1 h1'
    refine .inr ⟨b, o + k * size, rfl, h2, fun i hi j u hu => ?_⟩
    have hi' : k + i < xs.length := by simp at hi; omega
    rw [List.getElem_drop] at hu
    have := h3 (k + i) hi' j u hu
    rwa [Nat.add_mul, ← Nat.add_assoc] at this
end
theorem Keeps.grow {W v v' : World} {B : Nat} (h : Keeps W v) (hb : Below B v v') (hB : W.heap.size ≤ B) : Keeps W v' := Keeps.of (h.2.trans (hb.mono hB))
section
variable {ops : Array Oper} {o : Oper} {a : Act} {Q : Exit → Act → World → Prop} {wr : World} {K : Act → World → Prop} {E : Prop}
set_option maxRecDepth 100000 in
theorem step_recsA {α : Type} {cells : α → List Value} (t e : TypeId) (z : Value) (size bytes : Nat) (ht : Tryd.prog.underlying t = some (.slice e)) (hinfo : (Tryd.prog.info? e).map (fun i => (i.zero, i.size, i.bytes)) = some (some z, size, bytes)) (hz : z.cells.size = size) (hsz : 0 < size) (hby : bytes ≤ 1000)
    (hc : ∀ x, (cells x).length = size) (hu : ∀ x, ∀ u ∈ cells x, u.oneCell' = true)
    (hgd : o.guard = none) (s x : Operand) (ho : o.op = .call { callee := .builtin .append, args := #[s, x], argTypes := #[t, t] })
    (B R : Nat) (gv cv n m : Nat) (xs ys : List α) (ad : Addr) (c : Nat) (hown : wr.ownsRow B e size (.slice (some ⟨gv, 0, none⟩) n cv) n (xs.flatMap cells)) (hrow : Recs size cells wr R (some ad) ys) (hB : B ≤ wr.heap.size) (hl : n + m ≤ 2000000)
    (hs : a.eval s = .slice (some ⟨gv, 0, none⟩) n cv) (hx : a.eval x = .slice (some ad) m c) (hm : m = ys.length)
    (h : ∀ g cap w', w'.ownsRow B e size (.slice (some ⟨g, 0, none⟩) (n + m) cap) (n + m) ((xs ++ ys).flatMap cells) → Below B wr w' → (g = gv ∨ g = wr.heap.size) → g < w'.heap.size →
      (∀ b o', b ≠ gv → b < wr.heap.size → w'.cell? ⟨b, o', none⟩ = wr.cell? ⟨b, o', none⟩ ∧ w'.frozen? ⟨b, o', none⟩ = wr.frozen? ⟨b, o', none⟩) → wr.heap.size ≤ w'.heap.size → K (a.put o.dst (.slice (some ⟨g, 0, none⟩) (n + m) cap)) w') :
    if Region.wanted o (yielded ops a.tmps) = true then Oper.wp Tryd.prog o a wr K Q else E := by
  obtain ⟨i0, hi, hz0, hz1, hz2⟩ := info_parts3 hinfo
  have hw : Region.wanted o (yielded ops a.tmps) = true := by simp [Region.wanted, hgd]
  rw [if_pos hw]
  have hn1 : ∀ j u, (ys.flatMap cells)[j]? = some u → wr.cell? (ad.add j) = some u := by
    intro j y hy
    rcases hrow with h0 | ⟨b, o', h0, hb, h1⟩
    · rw [h0] at hy; simp at hy
    · injection h0 with h0
      subst h0
      have hj := (List.getElem?_eq_some_iff.1 hy).1
      rw [flatMap_len hc] at hj
      have hi' : j / size < ys.length := Nat.div_lt_of_lt_mul (by rw [Nat.mul_comm]; exact hj)
      have hjm : j % size < size := Nat.mod_lt _ hsz
      have hdm : j / size * size + j % size = j := by rw [Nat.mul_comm]; exact Nat.div_add_mod j size
      have e1 := flatMap_get (size := size) hc hi' hjm
      rw [hdm] at e1
      have := h1 (j / size) hi' (j % size) y (by rw [← e1]; exact hy)
      rw [Addr.add_lit, ← hdm]
      rwa [Nat.add_assoc] at this
  have hn2 : ∀ u ∈ ys.flatMap cells, u.oneCell' = true := by
    intro u hu'
    rcases List.mem_flatMap.1 hu' with ⟨x, _, hx'⟩
    exact hu x u hx'
  obtain ⟨v', w', hr, h2, h3, h4, h5⟩ := run_append_own_at (P := Tryd.prog) wr B t o.type e i0 z size bytes ht hi hz0 hz1 hz2 hz hsz _ n (xs.flatMap cells) hown ad m c (ys.flatMap cells) (by rw [flatMap_len hc, hm]) hn1 hn2 (by unfold maxLen; omega) (by have : (n + m) * bytes ≤ (n + m) * 1000 := Nat.mul_le_mul_left _ hby; omega) hB
  have h1 : ∃ g cap, v' = .slice (some ⟨g, 0, none⟩) (n + m) cap ∧ g < w'.heap.size := by
    rcases h2.2 with ⟨hv, _⟩ | ⟨g, cap, cur, hv, _, hg, _⟩
    · have := (h4.1 hv).1; cases this
    · exact ⟨g, cap, hv, (Array.getElem?_eq_some_iff.1 hg).1⟩
  obtain ⟨g, cap, rfl, hlt⟩ := h1
  unfold Oper.wp execOp
  simp only [ho, resolve, invoke, builtin, Sem.run_bind, Sem.run_pure, Result.andThen_ok, List.map_toArray, List.map_cons, List.map_nil, hs, hx, hr]
  refine h g cap w' (by rw [List.flatMap_append]; exact h2) ((Below.refl B wr).grown h3 hB (fun j hj => (hown.lt j hj).1)) ?_ hlt (fun b o' hne hb => ?_) h3.size
  · rcases h5 with h5 | h5
    · left; simpa [Value.ownBlock] using h5
    · right; simpa [Value.ownBlock] using h5
  · have hne' : some b ≠ (Value.slice (some ⟨gv, 0, none⟩) n cv).ownBlock := by simpa [Value.ownBlock] using hne
    exact ⟨World.cell?_of_block (h3.block b hb hne'), World.frozen?_of_block (h3.block b hb hne')⟩
end
end Go.Proofs.YtfdfejihakekeaaDoor

namespace Go.Proofs.YtfdfejihakekeaaDoor
set_option linter.unusedSimpArgs false
open Go.RowKit
set_option linter.unusedVariables false

theorem own_emptyR (V : World) (B g : Nat) (e : TypeId) (hB : B ≤ V.heap.size) (hg : g = V.heap.size) : (V.alloc (.cells #[] e)).ownsRow B e 8 (.slice (some ⟨g, 0, none⟩) 0 0) 0 (([] : List PodD).flatMap cellsP) := by
  subst hg
  exact World.ownsRow_made V #[] 0 hB (by decide) rfl
theorem far_cells {wr w' : World} {gv : Nat} (h : ∀ b o', b ≠ gv → b < wr.heap.size → w'.cell? ⟨b, o', none⟩ = wr.cell? ⟨b, o', none⟩ ∧ w'.frozen? ⟨b, o', none⟩ = wr.frozen? ⟨b, o', none⟩) :
    (∀ b o', b ≠ gv → b < wr.heap.size → w'.cell? ⟨b, o', none⟩ = wr.cell? ⟨b, o', none⟩) ∧ (∀ b o', b ≠ gv → b < wr.heap.size → w'.frozen? ⟨b, o', none⟩ = wr.frozen? ⟨b, o', none⟩) :=
  ⟨fun b o' h1 h2 => (h b o' h1 h2).1, fun b o' h1 h2 => (h b o' h1 h2).2⟩
theorem Bf.far {V V' : World} {gv b : Nat} {cs : List Value} (h : Bf V b cs) (hne : b ≠ gv) (hcx : ∀ b o', b ≠ gv → b < V.heap.size → V'.cell? ⟨b, o', none⟩ = V.cell? ⟨b, o', none⟩) (hfx : ∀ b o', b ≠ gv → b < V.heap.size → V'.frozen? ⟨b, o', none⟩ = V.frozen? ⟨b, o', none⟩) (hsz : V.heap.size ≤ V'.heap.size) : Bf V' b cs :=
  ⟨Nat.lt_of_lt_of_le h.lt hsz, fun j u hu => (hcx b j hne h.lt).trans (h.cell j u hu), fun o => (hfx b o hne h.lt).trans (h.frozen o)⟩
theorem own_drew {V : World} {B e size n : Nat} {v : Value} {xs : List Value} (h : V.ownsRow B e size v n xs) : V.drew.ownsRow B e size v n xs := h
set_option maxHeartbeats 12800000 in
set_option maxRecDepth 100000 in
theorem roomLess_in (s : SnapD) (t : StateD) (id : Int) (hno : ∀ x ∈ s.nodes, x.Ok) (hlo : ∀ p ∈ t.pods, p.Ok) (A1 A2 A3 A4 : Option Addr) (n1 c1 n2 c2 n3 c3 n4 c4 : Nat) (w : World) (hg : Laid w)
    (hn1 : n1 = s.nodes.length) (hr1 : Recs 10 cellsN w w.heap.size A1 s.nodes) (hn4 : n4 = t.pods.length) (hr4 : Recs 8 cellsP w w.heap.size A4 t.pods) (hc4 : n4 ≤ c4) (hm4 : c4 ≤ maxLen) :
    Calls Tryd.prog 5 #[.agg #[.slice A1 n1 c1, .slice A2 n2 c2, .slice A3 n3 c3], .agg #[.slice A4 n4 c4, .int .i64 t.preempts, .int .i64 t.shifts], .int .i64 id] w fun e w' => e = .returned (.bool true) ∧ Below w.heap.size w w' := by
  have T0 := T2.new w [.slice A1 n1 c1, .slice A2 n2 c2, .slice A3 n3 c3] [.slice A4 n4 c4, .int .i64 t.preempts, .int .i64 t.shifts] 26 28
  have HG := Lib.hid (fun (V : World) (hV : Below w.heap.size w V) => Laid.below hg hV (Nat.le_refl _))
  have HR1 := Lib.hid (fun (V : World) (hV : Below w.heap.size w V) => (hr1.below hV (Nat.le_refl _)).more hV.size)
  have HR4 := Lib.hid (fun (V : World) (hV : Below w.heap.size w V) => (hr4.below hV (Nat.le_refl _)).more hV.size)
  have HUP := Lib.hid (up06_any _ (HG.out _ T0.below))
  have HN1 := Lib.hid hn1
  have HN4 := Lib.hid hn4
  have HNO := Lib.hid hno
  have HLO := Lib.hid hlo
  have HM4 : Hid (c4 ≤ 9223372036854775807) := by show _ ≤ _; unfold maxLen at hm4; omega
  clear hg hr1 hr4 hno hlo hn1 hn4 hm4
  go_enter Tryd.func5, Tryd.ntmps5
  go_wp2_with fail
  refine HUP.out.mono ?_
  rintro e w1 ⟨rfl, hb1⟩
  have T1 := T0.keep hb1
  clear hb1 T0 HUP
  obtain ⟨a0, a1, a2, a3⟩ := T1.one.cells3
  obtain ⟨b0, b1, b2, b3⟩ := T1.two.cells3
  go_wp2_with fail
  refine (few05_any _ _ _ _ _ _ _ _ _ _ _ _ _ _ _ _ _ _ _ _).mono ?_
  rintro e w2 ⟨rfl, hb2⟩
  have T2' := T1.keep hb2
  have kw := T2'.below
  clear hb2 T1 a0 a1 a2 a3 b0 b1 b2 b3
  obtain ⟨a0, a1, a2, a3⟩ := T2'.one.cells3
  obtain ⟨b0, b1, b2, b3⟩ := T2'.two.cells3
  cases hfew : few05 n1 n2 n3 0 n4 with
  | false =>
    clear hfew T2'
    go_wp2
    go_ret
    exact ⟨rfl, kw⟩
  | true =>
    obtain ⟨hl1, _, _, hl4⟩ := few06 hfew
    clear hfew
    by_cases hneg : id < 0
    · have hd : decide (id < 0) = true := decide_eq_true hneg
      clear hneg T2'
      go_wp2
      go_ret
      exact ⟨rfl, kw⟩
    by_cases hge : (n4 : Int) ≤ id
    · have hd : decide (id < 0) = false := decide_eq_false hneg
      have hd2 : decide ((n4 : Int) ≤ id) = true := decide_eq_true hge
      clear hneg hge T2'
      go_wp2
      go_ret
      exact ⟨rfl, kw⟩
    obtain ⟨i, rfl⟩ : ∃ i : Nat, id = i := ⟨id.toNat, by omega⟩
    have hi : i < n4 := by omega
    have hd2 : decide ((n4 : Int) ≤ (i : Int)) = false := decide_eq_false hge
    have hd1 : decide ((i : Int) < 0) = false := decide_eq_false hneg
    have HF4 := Lib.hid (fun W hW => roomCheck_any s.nodes t.pods HNO.out HLO.out A1 A4 n1 c1 n4 c4 (.slice A2 n2 c2) (.slice A3 n3 c3) (.int .i64 t.preempts) (.int .i64 t.shifts) W (HG.out W hW) HN1.out (by omega) (HR1.out W hW) HN4.out (by omega) (HR4.out W hW))
    have HKW := Lib.hid kw
    have HT2 := Lib.hid T2'
    clear hneg hge T2' kw
    go_wp2_with fail
    refine (HF4.out _ HKW.out).mono ?_
    rintro e w3 ⟨u, rfl, hu, hb3⟩
    have T3' := HT2.out.keep hb3
    by_cases hp : (roomOf s.nodes t.pods).1 = 0
    · obtain rfl := errIs_none hu hp (by rw [show roomOf s.nodes t.pods = (0, -1) from roomD_pair hp])
      have HLS := Lib.hid (room_less (i := i) (by have := HN4.out; omega) HLO.out hp)
      have kw3 := T3'.below
      have HT3 := Lib.hid T3'
      clear hu hb3 hp a0 a1 a2 a3 b0 b1 b2 b3
      obtain ⟨b0, b1, b2, b3⟩ := T3'.two.cells3
      obtain ⟨b, o, rfl, hb, _⟩ := (HR4.out w (Below.refl _ _)).at (k := i) (by have := HN4.out; omega)
      have HRA : Hid (∀ V, Keeps w3 V → Recs 8 cellsP V V.heap.size (some ⟨b, o, none⟩) (t.pods.take i)) := fun V hV => (HR4.out V (kw3.trans (hV.2.mono kw3.size))).take i
      obtain ⟨ad, had, hrb⟩ : ∃ ad : Addr, (if c4 = i + 1 then some ⟨b, o, none⟩ else some (⟨b, o + (i + 1) * 8, none⟩ : Addr)) = some ad ∧ ∀ V, Keeps w3 V → Recs 8 cellsP V V.heap.size (some ad) (t.pods.drop (i + 1)) := by
        by_cases hcc : c4 = i + 1
        · exact ⟨⟨b, o, none⟩, by rw [if_pos hcc], fun V _ => .inl (List.drop_of_length_le (by have := HN4.out; omega))⟩
        · exact ⟨⟨b, o + (i + 1) * 8, none⟩, by rw [if_neg hcc], fun V hV => (HR4.out V (kw3.trans (hV.2.mono kw3.size))).drop (i + 1)⟩
      have HRB := Lib.hid hrb
      clear hrb
      have hi0 : (0 : Int) ≤ (i : Int) := by omega
      have hic : (i : Int) ≤ (c4 : Int) := by omega
      have hic2 : (i : Int) + 1 ≤ (c4 : Int) := by omega
      have hin : (i : Int) + 1 ≤ (n4 : Int) := by omega
      have hi2 : (i : Int) ≤ (n4 : Int) := by omega
      have hwp : IntKind.i64.wrap ((i : Int) + 1) = (i : Int) + 1 := IntWalk.i64_in _ (by omega)
      have htn : ((i : Int) + 1).toNat = i + 1 := by omega
      have hi1 : (0 : Int) ≤ (i : Int) + 1 := by omega
      clear T3' hd1 hd2
      go_wp2
      go_region_held3 (fun w' => (∀ b o, b < w3.heap.size → w'.cell? ⟨b, o, none⟩ = w3.cell? ⟨b, o, none⟩) ∧ Below w3.heap.size w3 w')
        (first | (with_reducible assumption) | (show Keeps w3 _; with_reducible (repeat (first | exact Keeps.refl _ | assumption | refine Keeps.drew ?_ | refine Keeps.set ?_ (by first | (simp; done) | (simp; omega) | omega) _ | refine Keeps.alloc ?_ _ | refine Keeps.step ?_ (by assumption)))))
        (first
          | (refine step_recsA 24 58 (.agg #[.int .i64 0, .int .i64 0, .int .i64 0, .int .u64 0, .int .u64 0, .int .u64 0, .int .u64 0, .int .i64 0]) 8 64 underPods infoPod rfl (by decide) (by decide) (fun _ => rfl) onePod rfl (.tmp 35) (.tmp 39) rfl w3.heap.size _ _ _ 0 _ [] (t.pods.take i) ⟨b, o, none⟩ _ (by with_reducible (repeat (first | exact own_emptyR _ _ _ _ (by first | (simp; done) | (simp; omega)) (by first | (simp; done) | (simp; omega)) | refine own_drew ?_ | refine World.ownsRow.alloc ?_ _))) (HRA.out _ (by assumption)) (by first | (simp; done) | (simp; omega)) (by omega) rfl rfl (by simp; have := HN4.out; omega) ?_; intro g1 k1 w4 hown4 hb4 hat4 hlt4 hbx4 hsz4; have hown4s := hown4; simp only [Nat.zero_add, List.nil_append] at hown4s; have hown4t := hown4; simp only [List.nil_append] at hown4t; obtain ⟨hcx4, hfx4⟩ := far_cells hbx4; clear hbx4; (try simp only [World.size_alloc, World.size_drew] at hat4); (try simp only [World.size_alloc, World.size_drew] at hsz4); have hk4 : Keeps w3 w4 := Keeps.grow (by assumption) hb4 (Nat.le_refl _))
          | (refine step_recsA 24 58 (.agg #[.int .i64 0, .int .i64 0, .int .i64 0, .int .u64 0, .int .u64 0, .int .u64 0, .int .u64 0, .int .i64 0]) 8 64 underPods infoPod rfl (by decide) (by decide) (fun _ => rfl) onePod rfl (.tmp 40) (.tmp 45) rfl w3.heap.size _ _ _ _ _ (t.pods.take i) (t.pods.drop (i + 1)) ad _ (by with_reducible (repeat (first | exact hown4t | exact hown4s | refine own_drew ?_ | refine World.ownsRow.alloc ?_ _))) (HRB.out _ (by assumption)) (by have hk5 := hk4.2.size; first | (simp; done) | (simp; omega) | omega) (by omega) rfl rfl (by simp; have := HN4.out; omega) ?_; intro g2 k2 w5 hown5 hb5 hat5 hlt5 hbx5 hsz5; obtain ⟨hcx5, hfx5⟩ := far_cells hbx5; clear hbx5; (try simp only [World.size_alloc, World.size_drew] at hat5); (try simp only [World.size_alloc, World.size_drew] at hsz5); have hk5 : Keeps w3 w5 := Keeps.grow (by assumption) hb5 (Nat.le_refl _); (try (have hq1 : w3.heap.size ≠ g1 := (by omega))); (try (have hq2 : w3.heap.size + 1 ≠ g1 := (by omega))); (try (have hq3 : w4.heap.size ≠ g1 := (by omega))); have hs1 : w3.heap.size < w4.heap.size := (by omega); (try (have hs2 : w3.heap.size + 1 < w4.heap.size := (by omega))); have hs3 : w3.heap.size < w5.heap.size := (by omega); (try (have hs4 : w3.heap.size + 1 < w5.heap.size := (by omega))); (try (have hs5 : w4.heap.size < w5.heap.size := (by omega)))))
      rename_i hK
      have O5 : Out 8 cellsP w5 (t.pods.take i ++ t.pods.drop (i + 1)) (some ⟨g2, 0, none⟩) k2 := out_of_own (show ∀ x, (cellsP x).length = 8 from fun _ => rfl) (by rw [List.length_append, List.length_take, List.length_drop]; have := HN4.out; omega) hown5
      have BV : Bf (w5.alloc (.cells #[.slice (some ⟨g2, 0, none⟩) (i + (n4 - (i + 1))) k2, .int .i64 0, .int .i64 0] 28)) w5.heap.size [.slice (some ⟨g2, 0, none⟩) (i + (n4 - (i + 1))) k2, .int .i64 0, .int .i64 0] := Bf.new w5 _ _ rfl
      have OV := O5.alloc (.cells #[.slice (some ⟨g2, 0, none⟩) (i + (n4 - (i + 1))) k2, .int .i64 0, .int .i64 0] 28)
      have KV := hK.2
      generalize hV : (w5.alloc (.cells #[.slice (some ⟨g2, 0, none⟩) (i + (n4 - (i + 1))) k2, .int .i64 0, .int .i64 0] 28)) = V at *
      generalize hh : w5.heap.size = h at BV ⊢
      clear hK hV hh hcx4 hfx4 hcx5 hfx5 hat4 hat5 hown4 hown4s hown4t hown5 hb4 hb5 hk4 hk5 O5
      rotate_left
      rename_i hK
      have B5 : Bf w5 (w4.heap.size) [.slice none 0 0, .int .i64 0, .int .i64 0] := Bf.far (by with_reducible (repeat (first | exact Bf.new _ _ _ (by first | rfl | (simp; done)) | refine Bf.drew ?_ | refine Bf.alloc ?_ _))) hq3 hcx5 hfx5 (by first | (simp; done) | (simp; omega))
      have hne2 : g2 ≠ w4.heap.size := by omega
      have O5 : Out 8 cellsP w5 (t.pods.take i ++ t.pods.drop (i + 1)) (some ⟨g2, 0, none⟩) k2 := out_of_own (show ∀ x, (cellsP x).length = 8 from fun _ => rfl) (by rw [List.length_append, List.length_take, List.length_drop]; have := HN4.out; omega) hown5
      have BV : Bf (((w5.setCell ⟨w4.heap.size, 0, none⟩ (.slice (some ⟨g2, 0, none⟩) (i + (n4 - (i + 1))) k2)).setCell ⟨w4.heap.size, 1, none⟩ (.int .i64 0)).setCell ⟨w4.heap.size, 2, none⟩ (.int .i64 0)) (w4.heap.size) [.slice (some ⟨g2, 0, none⟩) (i + (n4 - (i + 1))) k2, .int .i64 0, .int .i64 0] := ((B5.set 0 (.slice (some ⟨g2, 0, none⟩) (i + (n4 - (i + 1))) k2)).set 1 (.int .i64 0)).set 2 (.int .i64 0)
      have OV := ((O5.set (p := ⟨w4.heap.size, 0, none⟩) (fun a ha => by obtain rfl := Option.some.inj ha; exact hne2) (.slice (some ⟨g2, 0, none⟩) (i + (n4 - (i + 1))) k2)).set (p := ⟨w4.heap.size, 1, none⟩) (fun a ha => by obtain rfl := Option.some.inj ha; exact hne2) (.int .i64 0)).set (p := ⟨w4.heap.size, 2, none⟩) (fun a ha => by obtain rfl := Option.some.inj ha; exact hne2) (.int .i64 0)
      have KV := hK.2
      generalize hV : (((w5.setCell ⟨w4.heap.size, 0, none⟩ (.slice (some ⟨g2, 0, none⟩) (i + (n4 - (i + 1))) k2)).setCell ⟨w4.heap.size, 1, none⟩ (.int .i64 0)).setCell ⟨w4.heap.size, 2, none⟩ (.int .i64 0)) = V at *
      generalize hh : w4.heap.size = h at BV ⊢
      clear hK hV hh hcx4 hfx4 hcx5 hfx5 hat4 hat5 hown4 hown4s hown4t hown5 hb4 hb5 hk4 hk5 hne2 O5 B5
      rotate_left
      rename_i hK
      have B5 : Bf w5 (w3.heap.size + 1) [.slice none 0 0, .int .i64 0, .int .i64 0] := Bf.far (Bf.far (by with_reducible (repeat (first | exact Bf.new _ _ _ (by first | rfl | (simp; done)) | refine Bf.drew ?_ | refine Bf.alloc ?_ _))) (by omega) hcx4 hfx4 (by first | (simp; done) | (simp; omega))) hq2 hcx5 hfx5 (by first | (simp; done) | (simp; omega) | omega)
      have hne2 : g2 ≠ w3.heap.size + 1 := by omega
      have O5 : Out 8 cellsP w5 (t.pods.take i ++ t.pods.drop (i + 1)) (some ⟨g2, 0, none⟩) k2 := out_of_own (show ∀ x, (cellsP x).length = 8 from fun _ => rfl) (by rw [List.length_append, List.length_take, List.length_drop]; have := HN4.out; omega) hown5
      have BV : Bf (((w5.setCell ⟨w3.heap.size + 1, 0, none⟩ (.slice (some ⟨g2, 0, none⟩) (i + (n4 - (i + 1))) k2)).setCell ⟨w3.heap.size + 1, 1, none⟩ (.int .i64 0)).setCell ⟨w3.heap.size + 1, 2, none⟩ (.int .i64 0)) (w3.heap.size + 1) [.slice (some ⟨g2, 0, none⟩) (i + (n4 - (i + 1))) k2, .int .i64 0, .int .i64 0] := ((B5.set 0 (.slice (some ⟨g2, 0, none⟩) (i + (n4 - (i + 1))) k2)).set 1 (.int .i64 0)).set 2 (.int .i64 0)
      have OV := ((O5.set (p := ⟨w3.heap.size + 1, 0, none⟩) (fun a ha => by obtain rfl := Option.some.inj ha; exact hne2) (.slice (some ⟨g2, 0, none⟩) (i + (n4 - (i + 1))) k2)).set (p := ⟨w3.heap.size + 1, 1, none⟩) (fun a ha => by obtain rfl := Option.some.inj ha; exact hne2) (.int .i64 0)).set (p := ⟨w3.heap.size + 1, 2, none⟩) (fun a ha => by obtain rfl := Option.some.inj ha; exact hne2) (.int .i64 0)
      have KV := hK.2
      generalize hV : (((w5.setCell ⟨w3.heap.size + 1, 0, none⟩ (.slice (some ⟨g2, 0, none⟩) (i + (n4 - (i + 1))) k2)).setCell ⟨w3.heap.size + 1, 1, none⟩ (.int .i64 0)).setCell ⟨w3.heap.size + 1, 2, none⟩ (.int .i64 0)) = V at *
      generalize hh : w3.heap.size + 1 = h at BV ⊢
      clear hK hV hh hcx4 hfx4 hcx5 hfx5 hat4 hat5 hown4 hown4s hown4t hown5 hb4 hb5 hk4 hk5 hne2 O5 B5
      rotate_left
      rename_i hK
      have B5 : Bf w5 (w3.heap.size) [.slice none 0 0, .int .i64 0, .int .i64 0] := Bf.far (Bf.far (by with_reducible (repeat (first | exact Bf.new _ _ _ (by first | rfl | (simp; done)) | refine Bf.drew ?_ | refine Bf.alloc ?_ _))) (by omega) hcx4 hfx4 (by first | (simp; done) | (simp; omega))) hq1 hcx5 hfx5 (by first | (simp; done) | (simp; omega) | omega)
      have hne2 : g2 ≠ w3.heap.size := by omega
      have O5 : Out 8 cellsP w5 (t.pods.take i ++ t.pods.drop (i + 1)) (some ⟨g2, 0, none⟩) k2 := out_of_own (show ∀ x, (cellsP x).length = 8 from fun _ => rfl) (by rw [List.length_append, List.length_take, List.length_drop]; have := HN4.out; omega) hown5
      have BV : Bf (((w5.setCell ⟨w3.heap.size, 0, none⟩ (.slice (some ⟨g2, 0, none⟩) (i + (n4 - (i + 1))) k2)).setCell ⟨w3.heap.size, 1, none⟩ (.int .i64 0)).setCell ⟨w3.heap.size, 2, none⟩ (.int .i64 0)) (w3.heap.size) [.slice (some ⟨g2, 0, none⟩) (i + (n4 - (i + 1))) k2, .int .i64 0, .int .i64 0] := ((B5.set 0 (.slice (some ⟨g2, 0, none⟩) (i + (n4 - (i + 1))) k2)).set 1 (.int .i64 0)).set 2 (.int .i64 0)
      have OV := ((O5.set (p := ⟨w3.heap.size, 0, none⟩) (fun a ha => by obtain rfl := Option.some.inj ha; exact hne2) (.slice (some ⟨g2, 0, none⟩) (i + (n4 - (i + 1))) k2)).set (p := ⟨w3.heap.size, 1, none⟩) (fun a ha => by obtain rfl := Option.some.inj ha; exact hne2) (.int .i64 0)).set (p := ⟨w3.heap.size, 2, none⟩) (fun a ha => by obtain rfl := Option.some.inj ha; exact hne2) (.int .i64 0)
      have KV := hK.2
      generalize hV : (((w5.setCell ⟨w3.heap.size, 0, none⟩ (.slice (some ⟨g2, 0, none⟩) (i + (n4 - (i + 1))) k2)).setCell ⟨w3.heap.size, 1, none⟩ (.int .i64 0)).setCell ⟨w3.heap.size, 2, none⟩ (.int .i64 0)) = V at *
      generalize hh : w3.heap.size = h at BV ⊢
      clear hK hV hh hcx4 hfx4 hcx5 hfx5 hat4 hat5 hown4 hown4s hown4t hown5 hb4 hb5 hk4 hk5 hne2 O5 B5
      rotate_left
      all_goals
        have kV := kw3.trans (KV.mono kw3.size)
        have TV := HT3.out.keep KV
        have HF5 := Lib.hid (roomCheck_any s.nodes (t.pods.take i ++ t.pods.drop (i + 1)) HNO.out (fun p hp => HLO.out p (by rcases List.mem_append.1 hp with hp | hp; exact List.mem_of_mem_take hp; exact List.mem_of_mem_drop hp)) A1 (some ⟨g2, 0, none⟩) n1 c1 (i + (n4 - (i + 1))) k2 (.slice A2 n2 c2) (.slice A3 n3 c3) (.int .i64 0) (.int .i64 0) V (HG.out V kV) HN1.out (by omega) (HR1.out V kV) (by simp; have := HN4.out; omega) (by omega) OV.recs)
        have HKV := Lib.hid kV
        obtain ⟨a0, a1, a2, a3⟩ := TV.one.cells3
        obtain ⟨q0, q1, q2, q3⟩ := BV.cells3
        clear OV BV TV KV kV had hwp htn hi0 hic hic2 hin hi2 hi1 b0 b1 b2 b3
        go_wp2_with fail
        refine HF5.out.mono ?_
        rintro e w6 ⟨u6, rfl, hu6, hb6⟩
        rw [HLS.out] at hu6
        obtain rfl := errIs_none hu6 rfl rfl
        have HB6 := Lib.hid (HKV.out.trans (hb6.mono HKV.out.size))
        clear hu6 hb6
        go_wp2
        go_ret
        exact ⟨rfl, HB6.out⟩
    · obtain ⟨tt, vv, rfl⟩ := errIs_some hu hp
      have kw3 := T3'.below
      clear hu hp hb3 T3'
      go_wp2
      go_ret
      exact ⟨rfl, kw3⟩
end Go.Proofs.YtfdfejihakekeaaDoor
