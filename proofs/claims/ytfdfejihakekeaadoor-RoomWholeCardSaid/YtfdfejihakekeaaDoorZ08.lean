/- Joined texts, part 8: WW WQ WK WT WX. -/
import Derived.Test.YtfdfejihakekeaaDoorZ06
import Derived.Test.YtfdfejihakekeaaDoorZ07
import Derived.Deep.RegionHeld3
import Derived.Deep.CutRange

/- The use of a node by the reference. -/
namespace Go.Proofs.YtfdfejihakekeaaDoor
set_option linter.unusedSimpArgs false
open Go.RowKit
set_option linter.unusedVariables false

set_option maxHeartbeats 3200000 in
set_option maxRecDepth 100000 in
theorem refUse_walk (l : List PodD) (node : Int) (A : Option Addr) (n c : Nat) (v1 v2 : Value) (z : V4) (ok : Bool) (w : World) (hn : n = l.length) (hl : n ≤ 400) (hr : Recs 8 cellsP w w.heap.size A l)
    (hsum : ∀ (A' : Option Addr) (n' c' : Nat) (w' : World), n' = (reqsAt node l).length → n' ≤ 500 → Recs 4 cellsV w' w'.heap.size A' (reqsAt node l) →
      Calls Tryd.prog 22 #[.slice A' n' c'] w' fun e w'' => e = .returned (.tuple #[aggV z, .bool ok]) ∧ Below w'.heap.size w' w'') :
    Calls Tryd.prog 10 #[.agg #[.slice A n c, v1, v2], .int .i64 node] w fun e w' => e = .returned (.tuple #[if ok then aggV z else zeroV, .bool ok]) ∧ Below w.heap.size w w' := by
  have HR := Lib.hid hr
  have HN := Lib.hid hn
  have HS := Lib.hid hsum
  have b00 := below_two w (.cells #[.slice A n c, v1, v2] 28) (.cells #[.int .u64 0, .int .u64 0, .int .u64 0, .int .u64 0] 36)
  have HT := Lib.hid (two_head w (.slice A n c) v1 v2 28 36)
  clear hr hn hsum
  go_enter Tryd.func10, Tryd.ntmps10
  go_wp2
  go_loopw [6, 7] (UseRel l node ((w.alloc (.cells #[.slice A n c, v1, v2] 28)).alloc (.cells #[.int .u64 0, .int .u64 0, .int .u64 0, .int .u64 0] 36)) (w.heap.size + 2)) (fun _ i _ => n - (intOf i).toNat)
  case atStart => exact ⟨0, 0, by omega, rfl, rfl, World.ownsRow_nil _ _ _ _, Below.refl _ _⟩
  case round =>
    obtain ⟨k, m, hk, rfl, hm, hown, hbr⟩ := hrel
    have HMM := Lib.hid hm
    have HOW := Lib.hid hown
    have hz := hbr.size
    have hz2 : w.heap.size + 2 ≤ wr.heap.size := by simpa using hz
    have kwr := b00.trans (hbr.mono (by omega))
    have c0 : wr.cell? ⟨w.heap.size, 0, none⟩ = some (.slice A n c) := (hbr.cell (p := ⟨w.heap.size, 0, none⟩) (by simp)).trans (by simp)
    have hwl : w.heap.size < wr.heap.size := by omega
    clear hm hown hz
    by_cases hlt : k < n
    · have hkl : k < l.length := by have := HN.out; omega
      obtain ⟨b, o, rfl, hb, he⟩ := HR.out.at hkl
      generalize hx : l[k] = y at *
      have HXX := Lib.hid (reqs_take (node := node) hkl hx)
      clear hx
      have e3 : wr.cell? ⟨b, o + k * 8 + 3, none⟩ = some (.int .u64 y.req.a) := (kwr.cell (p := ⟨b, o + k * 8 + 3, none⟩) hb).trans (he 3 _ rfl)
      have e4 : wr.cell? ⟨b, o + k * 8 + 4, none⟩ = some (.int .u64 y.req.b) := (kwr.cell (p := ⟨b, o + k * 8 + 4, none⟩) hb).trans (he 4 _ rfl)
      have e5 : wr.cell? ⟨b, o + k * 8 + 5, none⟩ = some (.int .u64 y.req.c) := (kwr.cell (p := ⟨b, o + k * 8 + 5, none⟩) hb).trans (he 5 _ rfl)
      have e6 : wr.cell? ⟨b, o + k * 8 + 6, none⟩ = some (.int .u64 y.req.d) := (kwr.cell (p := ⟨b, o + k * 8 + 6, none⟩) hb).trans (he 6 _ rfl)
      have e7 : wr.cell? ⟨b, o + k * 8 + 7, none⟩ = some (.int .i64 y.node) := (kwr.cell (p := ⟨b, o + k * 8 + 7, none⟩) hb).trans (he 7 _ rfl)
      have hbw : b < wr.heap.size := by omega
      have HL : Hid (m ≤ 2000000) := by
        have h1 := reqs_len node (l.take k)
        have h2 := HMM.out
        have h3 := List.length_take_le k l
        have h4 := HN.out
        show _ ≤ _
        rw [List.length_take] at h1
        omega
      clear he
      by_cases hy : y.node = node
      · have hd : (y.node == node) = true := by simp [hy]
        have HE := Lib.hid (HXX.out.1 hy)
        clear hy
        go_wp2_with (at_builtin; refine wpList_pushR 61 36 (.agg #[.int .u64 0, .int .u64 0, .int .u64 0, .int .u64 0]) 4 32 underVecs infoVec rfl (by decide) (by decide) rfl (.tmp 25) (.tmp 32) rfl (w.heap.size + 2) _ m _ (cellsV y.req) rfl (oneVec _) HOW.out hz2 HL.out rfl rfl ?_; intro v' w2 hown2 hb2 hB2)
        have HO2 := Lib.hid (own_reqs HMM.out hown2 HE.out)
        clear hown2
        go_wp2
        go_roundw
        case rel => exact ⟨k + 1, m + 1, by omega, by go_num, HO2.out.2, (by have h := HO2.out.1; exact h), hbr.trans hb2⟩
        case measure => simp [intOf]; omega
      · have hd : (y.node == node) = false := by simp [hy]
        have HE := Lib.hid (HXX.out.2 hy)
        clear hy
        go_wp2
        go_roundw
        case rel => exact ⟨k + 1, m, by omega, by go_num, by rw [HE.out]; exact HMM.out, by rw [HE.out]; exact HOW.out, hbr⟩
        case measure => simp [intOf]; omega
    · have htk : l.take k = l := List.take_of_length_le (by have := HN.out; omega)
      have hm' := HMM.out
      have how := HOW.out
      rw [htk] at hm' how
      obtain ⟨A', c', rfl, hc1, hc2, hc3, hrec⟩ := recs_of_own lenVec hm' how
      have HRE := Lib.hid hrec
      have HMM' := Lib.hid hm'
      have HLL : Hid (m ≤ 500) := by
        have h1 := reqs_len node l
        have h4 := HN.out
        have h5 := HMM'.out
        show _ ≤ _
        omega
      have hr4 := HT.out.below hbr (by simp)
      obtain ⟨g0, g1, g2, g3, f0, f1, f2, f3⟩ := hr4
      have hwl : w.heap.size + 1 < wr.heap.size := by omega
      clear how hm' htk hrec
      go_wp2_with fail
      refine (HS.out A' m c' _ HMM'.out HLL.out HRE.out).mono ?_
      rintro e w1 ⟨rfl, hb1⟩
      have g0 : w1.cell? ⟨w.heap.size + 1, 0, none⟩ = some (.int .u64 0) := (hb1.cell (p := ⟨w.heap.size + 1, 0, none⟩) hwl).trans g0
      have g1 : w1.cell? ⟨w.heap.size + 1, 1, none⟩ = some (.int .u64 0) := (hb1.cell (p := ⟨w.heap.size + 1, 1, none⟩) hwl).trans g1
      have g2 : w1.cell? ⟨w.heap.size + 1, 2, none⟩ = some (.int .u64 0) := (hb1.cell (p := ⟨w.heap.size + 1, 2, none⟩) hwl).trans g2
      have g3 : w1.cell? ⟨w.heap.size + 1, 3, none⟩ = some (.int .u64 0) := (hb1.cell (p := ⟨w.heap.size + 1, 3, none⟩) hwl).trans g3
      have f0 : w1.frozen? ⟨w.heap.size + 1, 0, none⟩ = false := (hb1.frozen (p := ⟨w.heap.size + 1, 0, none⟩) hwl).trans f0
      have f1 : w1.frozen? ⟨w.heap.size + 1, 1, none⟩ = false := (hb1.frozen (p := ⟨w.heap.size + 1, 1, none⟩) hwl).trans f1
      have f2 : w1.frozen? ⟨w.heap.size + 1, 2, none⟩ = false := (hb1.frozen (p := ⟨w.heap.size + 1, 2, none⟩) hwl).trans f2
      have f3 : w1.frozen? ⟨w.heap.size + 1, 3, none⟩ = false := (hb1.frozen (p := ⟨w.heap.size + 1, 3, none⟩) hwl).trans f3
      have hwl1 : w.heap.size + 1 < w1.heap.size := Nat.lt_of_lt_of_le hwl hb1.size
      have kw1 : Below w.heap.size w w1 := kwr.trans (hb1.mono (by omega))
      cases ok with
      | true =>
        go_wp2
        refine bodyPost_ret (v := .tuple #[aggV z, .bool true]) ?_ rfl ?_
        · simp [results, Tryd.results10, go_sem, *]
        · refine ⟨rfl, ?_⟩
          repeat (first | with_reducible exact kw1 | with_reducible refine Below.setCell ?_ ?_ _ | with_reducible refine Below.alloc ?_ ?_ _)
          all_goals first | (show w.heap.size ≤ w.heap.size + 1; omega) | (simp; omega) | omega
      | false =>
        go_wp2
        refine bodyPost_ret (v := .tuple #[zeroV, .bool false]) ?_ rfl ?_
        · simp [results, Tryd.results10, go_sem, *]
        · refine ⟨rfl, ?_⟩
          repeat (first | with_reducible exact kw1 | with_reducible refine Below.setCell ?_ ?_ _ | with_reducible refine Below.alloc ?_ ?_ _)
          all_goals first | (show w.heap.size ≤ w.heap.size + 1; omega) | (simp; omega) | omega
theorem refUse_some {l : List PodD} {node : Int} {u : V4} (ho : ∀ p ∈ l, p.Ok) (h : useD l node = some u) (A : Option Addr) (n c : Nat) (v1 v2 : Value) (w : World) (hn : n = l.length) (hl : n ≤ 400) (hr : Recs 8 cellsP w w.heap.size A l) :
    Calls Tryd.prog 10 #[.agg #[.slice A n c, v1, v2], .int .i64 node] w fun e w' => e = .returned (.tuple #[aggV u, .bool true]) ∧ Below w.heap.size w w' :=
  refUse_walk l node A n c v1 v2 u true w hn hl hr fun A' n' c' w' h1 h2 h3 => rSum_some (reqs_ok ho) h A' n' c' w' h1 h2 h3
theorem refUse_none {l : List PodD} {node : Int} (ho : ∀ p ∈ l, p.Ok) (h : useD l node = none) (A : Option Addr) (n c : Nat) (v1 v2 : Value) (w : World) (hn : n = l.length) (hl : n ≤ 400) (hr : Recs 8 cellsP w w.heap.size A l) :
    Calls Tryd.prog 10 #[.agg #[.slice A n c, v1, v2], .int .i64 node] w fun e w' => e = .returned (.tuple #[zeroV, .bool false]) ∧ Below w.heap.size w w' :=
  refUse_walk l node A n c v1 v2 .zer false w hn hl hr fun A' n' c' w' h1 h2 h3 => rSum_none (reqs_ok ho) h A' n' c' w' h1 h2 h3
end Go.Proofs.YtfdfejihakekeaaDoor

/- A node's rest by the reference. -/
namespace Go.Proofs.YtfdfejihakekeaaDoor
set_option linter.unusedSimpArgs false
open Go.RowKit
set_option linter.unusedVariables false

theorem ref_ret {p : V4 × Int} {a : Value} {b : Value} (q : V4 × Int) (h : p = q) (ha : a = aggV q.1) (hb : b = .int .i64 q.2) : Ending.returned (.tuple #[a, b]) = .returned (.tuple #[aggV p.1, .int .i64 p.2]) := by subst h ha hb; rfl

set_option maxHeartbeats 6400000 in
set_option maxRecDepth 100000 in
theorem refRest_any (ns : List NodeD) (l : List PodD) (id : Int) (hno : ∀ x ∈ ns, x.Ok) (hlo : ∀ p ∈ l, p.Ok) (A1 A4 : Option Addr) (n1 c1 n4 c4 : Nat) (s2 s3 v1 v2 : Value) (w : World)
    (hn1 : n1 = ns.length) (hl1 : n1 ≤ 400) (hr1 : Recs 10 cellsN w w.heap.size A1 ns) (hn4 : n4 = l.length) (hl4 : n4 ≤ 400) (hr4 : Recs 8 cellsP w w.heap.size A4 l) :
    Calls Tryd.prog 11 #[.agg #[.slice A1 n1 c1, s2, s3], .agg #[.slice A4 n4 c4, v1, v2], .int .i64 id] w fun e w' => e = .returned (.tuple #[aggV (restD ns l id).1, .int .i64 (restD ns l id).2]) ∧ Below w.heap.size w w' := by
  have HR1 := Lib.hid hr1
  have HR4 := Lib.hid hr4
  have HN1 := Lib.hid hn1
  have HN4 := Lib.hid hn4
  have HNO := Lib.hid hno
  have HLO := Lib.hid hlo
  have T0 := T3.new w [.slice A1 n1 c1, s2, s3] [.slice A4 n4 c4, v1, v2] (cellsV .zer) 26 28 36
  have HF := Lib.hid (fun W (h1 : Recs 10 cellsN W W.heap.size A1 ns) => rNode_any ns id A1 n1 c1 W.heap.size s2 s3 W hn1 (by omega) (Nat.le_refl _) h1)
  clear hr1 hr4 hn1 hn4 hno hlo
  go_enter Tryd.func11, Tryd.ntmps11
  go_wp2_with fail
  refine (HF.out _ ((HR1.out.below T0.below (Nat.le_refl _)).more T0.below.size)).mono ?_
  rintro e w1 ⟨rfl, hb1⟩
  have T1 := T0.keep hb1
  clear hb1 T0 HF
  obtain ⟨a0, a1, a2, a3⟩ := T1.two.cells3
  have hwl1 : w.heap.size + 1 < w1.heap.size := T1.two.lt
  by_cases hp : place NodeD.id id ns 0 < 0
  · have HE := Lib.hid (rest_none (l := l) (nodeAt_no (k := 0) (Int.le_refl _) hp))
    have kw2 := T1.below
    have HD : decide (place NodeD.id id ns 0 < 0) = true := decide_eq_true hp
    obtain ⟨⟨g0, g1, g2, g3⟩, g4⟩ := T1.three.zero4
    obtain ⟨f0, f1, f2, f3⟩ := T1.three.free4
    clear T1
    generalize place NodeD.id id ns 0 = q at *
    go_wp2
    refine bodyPost_ret (v := .tuple #[zeroV, .int .i64 4]) ?_ rfl ?_
    · simp [results, Tryd.results11, go_sem, *]
    · refine ⟨ref_ret _ HE.out rfl rfl, ?_⟩
      repeat (first | with_reducible exact kw2 | with_reducible refine Below.setCell ?_ ?_ _ | with_reducible refine Below.alloc ?_ ?_ _)
      all_goals first | (show w.heap.size ≤ w.heap.size + 2; omega) | (simp; omega) | omega
  · obtain ⟨i, hi, hpi⟩ : ∃ i : Nat, i < ns.length ∧ place NodeD.id id ns 0 = (i : Int) := by
      have := place_ge (f := NodeD.id) (id := id) (l := ns) (k := 0) (Int.le_refl _)
      exact ⟨(place NodeD.id id ns 0).toNat, by omega, by omega⟩
    rw [hpi]
    have HP := Lib.hid (nodeAt_yes (k := 0) hi (Int.le_refl _) (by rw [hpi]; omega))
    have HX := Lib.hid (HNO.out _ (List.getElem_mem hi))
    obtain ⟨b, o, hA, hb, he⟩ := HR1.out.at hi
    subst hA
    have hin : (i : Int) < (n1 : Int) := by have := HN1.out; omega
    have hi0 : (0 : Int) ≤ (i : Int) := by omega
    have hil : i < n1 := by omega
    generalize hx : ns[i] = x at *
    clear hp hx hpi
    have HEE : Hid (∀ (W : World), Below w.heap.size w W → W.cell? ⟨b, o + i * 10 + 2, none⟩ = some (.int .u64 x.cap.a) ∧ W.cell? ⟨b, o + i * 10 + 3, none⟩ = some (.int .u64 x.cap.b) ∧ W.cell? ⟨b, o + i * 10 + 4, none⟩ = some (.int .u64 x.cap.c) ∧ W.cell? ⟨b, o + i * 10 + 5, none⟩ = some (.int .u64 x.cap.d) ∧
        W.cell? ⟨b, o + i * 10 + 6, none⟩ = some (.int .u64 x.held.a) ∧ W.cell? ⟨b, o + i * 10 + 7, none⟩ = some (.int .u64 x.held.b) ∧ W.cell? ⟨b, o + i * 10 + 8, none⟩ = some (.int .u64 x.held.c) ∧ W.cell? ⟨b, o + i * 10 + 9, none⟩ = some (.int .u64 x.held.d) ∧ b < W.heap.size) := fun W hW =>
      ⟨(hW.cell (p := ⟨b, _, none⟩) hb).trans (he 2 _ rfl), (hW.cell (p := ⟨b, _, none⟩) hb).trans (he 3 _ rfl), (hW.cell (p := ⟨b, _, none⟩) hb).trans (he 4 _ rfl), (hW.cell (p := ⟨b, _, none⟩) hb).trans (he 5 _ rfl), (hW.cell (p := ⟨b, _, none⟩) hb).trans (he 6 _ rfl), (hW.cell (p := ⟨b, _, none⟩) hb).trans (he 7 _ rfl), (hW.cell (p := ⟨b, _, none⟩) hb).trans (he 8 _ rfl), (hW.cell (p := ⟨b, _, none⟩) hb).trans (he 9 _ rfl), Nat.lt_of_lt_of_le hb hW.size⟩
    have HRR := Lib.hid ((HR4.out.below T1.below (Nat.le_refl _)).more T1.below.size)
    clear he hb
    rcases hu : useD l id with _ | u
    · have HC := Lib.hid (fun W (h1 : Recs 8 cellsP W W.heap.size A4 l) => refUse_none HLO.out hu A4 n4 c4 v1 v2 W HN4.out hl4 h1)
      have HE := Lib.hid (rest_over HP.out hu)
      have HT := Lib.hid T1
      clear hu T1
      go_wp2_with fail
      refine (HC.out _ HRR.out).mono ?_
      rintro e w2 ⟨rfl, hb2⟩
      have T2 := HT.out.keep hb2
      clear hb2 HT HRR a0 a1 a2 a3 hwl1
      obtain ⟨⟨g0, g1, g2, g3⟩, g4⟩ := T2.three.zero4
      obtain ⟨f0, f1, f2, f3⟩ := T2.three.free4
      have kw2 := T2.below
      clear T2
      go_wp2
      refine bodyPost_ret (v := .tuple #[zeroV, .int .i64 8]) ?_ rfl ?_
      · simp [results, Tryd.results11, go_sem, *]
      · refine ⟨ref_ret _ HE.out rfl rfl, ?_⟩
        repeat (first | with_reducible exact kw2 | with_reducible refine Below.setCell ?_ ?_ _ | with_reducible refine Below.alloc ?_ ?_ _)
        all_goals first | (show w.heap.size ≤ w.heap.size + 2; omega) | (simp; omega) | omega
    · have HC := Lib.hid (fun W (h1 : Recs 8 cellsP W W.heap.size A4 l) => refUse_some HLO.out hu A4 n4 c4 v1 v2 W HN4.out hl4 h1)
      have HUO := Lib.hid (use_ok HLO.out hu)
      have HT := Lib.hid T1
      clear T1
      go_wp2_with fail
      refine (HC.out _ HRR.out).mono ?_
      rintro e w2 ⟨rfl, hb2⟩
      have T2 := (HT.out.keep hb2).alloc (.cells #[.int .u64 u.a, .int .u64 u.b, .int .u64 u.c, .int .u64 u.d] 36)
      have U2 : Bf (w2.alloc (.cells #[.int .u64 u.a, .int .u64 u.b, .int .u64 u.c, .int .u64 u.d] 36)) w2.heap.size (cellsV u) := Bf.new w2 (cellsV u) 36 rfl
      have hz2 : w2.heap.size < (w2.alloc (.cells #[.int .u64 u.a, .int .u64 u.b, .int .u64 u.c, .int .u64 u.d] 36)).heap.size := by simp
      have hz3 : w.heap.size + 2 < w2.heap.size := (HT.out.keep hb2).three.lt
      obtain ⟨z, ok, hsc, hok⟩ : ∃ (z : V4) (ok : Bool), (∀ W, Calls Tryd.prog 24 #[aggV x.cap, aggV x.held] W fun e w' => e = .returned (.tuple #[aggV z, .bool ok]) ∧ Below W.heap.size W w') ∧ ((ok = true ∧ subV x.cap x.held = some z) ∨ (ok = false ∧ subV x.cap x.held = none)) := by
        rcases hf : subV x.cap x.held with _ | f
        · exact ⟨.zer, false, fun W => rSub_none hf W, .inr ⟨rfl, rfl⟩⟩
        · exact ⟨f, true, fun W => rSub_some HX.out.2.2.1 HX.out.2.2.2 hf W, .inl ⟨rfl, rfl⟩⟩
      have HSC := Lib.hid hsc
      have HOK := Lib.hid hok
      have HU := Lib.hid hu
      clear hb2 HT HRR a0 a1 a2 a3 hwl1 hsc hok hu
      go_upto_region 7 with fail
      have EW := HEE.out _ T2.below
      obtain ⟨a0, a1, a2, a3⟩ := T2.one.cells3
      generalize hW : (w2.alloc (.cells #[.int .u64 u.a, .int .u64 u.b, .int .u64 u.c, .int .u64 u.d] 36)) = W at *
      have HT2 := Lib.hid T2
      have HU2 := Lib.hid U2
      have HZ2 := Lib.hid hz2
      have HZ3 := Lib.hid hz3
      clear hW T2 U2 HEE hz2 hz3
      obtain ⟨e2, e3, e4, e5, e6, e7, e8, e9, ebl⟩ := EW
      go_region_held3 (fun w' => (∀ b o, b < W.heap.size → w'.cell? ⟨b, o, none⟩ = W.cell? ⟨b, o, none⟩) ∧ Below W.heap.size W w')
        (first | (with_reducible assumption) | (show Keeps W _; with_reducible (repeat (first | exact Keeps.refl _ | refine Keeps.drew ?_ | refine Keeps.set ?_ (by simp) _ | refine Keeps.alloc ?_ _ | refine Keeps.step ?_ (by assumption)))))
        (first
          | (go_at_call 24; refine (HSC.out _).mono ?_; rintro e w' ⟨rfl, hb⟩; obtain ⟨hcx, hfx⟩ := old_cells hb))
      rename_i hK
      have BV : Bf (w'.alloc (.cells #[.int .u64 z.a, .int .u64 z.b, .int .u64 z.c, .int .u64 z.d] 36)) w'.heap.size (cellsV z) := Bf.new w' (cellsV z) _ rfl
      have KV := hK.2
      generalize hV : w'.alloc (.cells #[.int .u64 z.a, .int .u64 z.b, .int .u64 z.c, .int .u64 z.d] 36) = V at *
      clear hK hV hcx hfx hb
      generalize w'.heap.size = h at *
      rotate_left
      rename_i hK
      have BV := Bf.later (z := z) (Bf.drew (Bf.new W (cellsV .zer) 36 rfl)) hb
      have KV := hK.2
      generalize hV : (((w'.setCell ⟨W.heap.size, 0, none⟩ (.int .u64 z.a)).setCell ⟨W.heap.size, 1, none⟩ (.int .u64 z.b)).setCell ⟨W.heap.size, 2, none⟩ (.int .u64 z.c)).setCell ⟨W.heap.size, 3, none⟩ (.int .u64 z.d) = V at *
      clear hK hV hcx hfx hb
      have KV' := KV
      generalize hh : W.heap.size = h at BV ⊢
      clear hh KV'
      rotate_left
      all_goals
        have T7 := HT2.out.keep KV
        have U7 := HU2.out.below KV HU2.out.lt
        have HT7 := Lib.hid T7
        clear KV
        obtain ⟨v0, v1', v2', v3, v4⟩ := BV.cells4
        obtain ⟨⟨g0, g1, g2, g3⟩, g4⟩ := T7.three.zero4
        obtain ⟨f0, f1, f2, f3⟩ := T7.three.free4
        obtain ⟨u0, u1, u2, u3, u4⟩ := U7.cells4
        have kw2 := T7.below
        clear a0 a1 a2 a3 e2 e3 e4 e5 e6 e7 e8 e9 T7 U7 BV
        rcases HOK.out with ⟨hk, hf⟩ | ⟨hk, hf⟩
        · subst hk
          have HZO := Lib.hid (sub_ok4 HX.out.2.2.1 HX.out.2.2.2 hf)
          rcases hg : subV z u with _ | r
          · have HE := Lib.hid (rest_room HP.out HU.out ((left_some hf).trans hg))
            have HC2 := Lib.hid (fun W => rSub_none hg W)
            clear hf hg kw2
            go_wp2_with fail
            refine (HC2.out _).mono ?_
            rintro e w3 ⟨rfl, hb3⟩
            have T8 := HT7.out.keep hb3
            clear hb3 HT7 g0 g1 g2 g3 g4 f0 f1 f2 f3 v0 v1' v2' v3 v4 u0 u1 u2 u3 u4
            obtain ⟨⟨g0, g1, g2, g3⟩, g4⟩ := T8.three.zero4
            obtain ⟨f0, f1, f2, f3⟩ := T8.three.free4
            have kw2 := T8.below
            clear T8
            go_wp2
            refine bodyPost_ret (v := .tuple #[zeroV, .int .i64 9]) ?_ rfl ?_
            · simp [results, Tryd.results11, go_sem, *]
            · refine ⟨ref_ret _ HE.out rfl rfl, ?_⟩
              repeat (first | with_reducible exact kw2 | with_reducible refine Below.setCell ?_ ?_ _ | with_reducible refine Below.alloc ?_ ?_ _)
              all_goals first | (show w.heap.size ≤ w.heap.size + 2; omega) | (simp; omega) | omega
          · have HE := Lib.hid (rest_some HP.out HU.out ((left_some hf).trans hg))
            have HC2 := Lib.hid (fun W => rSub_some HZO.out HUO.out hg W)
            clear hf hg kw2
            go_wp2_with fail
            refine (HC2.out _).mono ?_
            rintro e w3 ⟨rfl, hb3⟩
            have T8 := HT7.out.keep hb3
            clear hb3 HT7 g0 g1 g2 g3 g4 f0 f1 f2 f3 v0 v1' v2' v3 v4 u0 u1 u2 u3 u4
            obtain ⟨⟨g0, g1, g2, g3⟩, g4⟩ := T8.three.zero4
            obtain ⟨f0, f1, f2, f3⟩ := T8.three.free4
            have kw2 := T8.below
            clear T8
            go_wp2
            refine bodyPost_ret (v := .tuple #[aggV r, .int .i64 0]) ?_ rfl ?_
            · simp [results, Tryd.results11, go_sem, *]
            · refine ⟨ref_ret _ HE.out rfl rfl, ?_⟩
              repeat (first | with_reducible exact kw2 | with_reducible refine Below.setCell ?_ ?_ _ | with_reducible refine Below.alloc ?_ ?_ _)
              all_goals first | (show w.heap.size ≤ w.heap.size + 2; omega) | (simp; omega) | omega
        · subst hk
          have HE := Lib.hid (rest_room HP.out HU.out (left_none hf))
          clear hf
          go_wp2
          refine bodyPost_ret (v := .tuple #[zeroV, .int .i64 9]) ?_ rfl ?_
          · simp [results, Tryd.results11, go_sem, *]
          · refine ⟨ref_ret _ HE.out rfl rfl, ?_⟩
            repeat (first | with_reducible exact kw2 | with_reducible refine Below.setCell ?_ ?_ _ | with_reducible refine Below.alloc ?_ ?_ _)
            all_goals first | (show w.heap.size ≤ w.heap.size + 2; omega) | (simp; omega) | omega
end Go.Proofs.YtfdfejihakekeaaDoor

/- The first node at fault by the reference. -/
namespace Go.Proofs.YtfdfejihakekeaaDoor
set_option linter.unusedSimpArgs false
open Go.RowKit
set_option linter.unusedVariables false

set_option maxHeartbeats 6400000 in
set_option maxRecDepth 100000 in
theorem refCheck_any (ns : List NodeD) (l : List PodD) (hno : ∀ x ∈ ns, x.Ok) (hlo : ∀ p ∈ l, p.Ok) (A1 A4 : Option Addr) (n1 c1 n4 c4 : Nat) (s2 s3 v1 v2 : Value) (w : World)
    (hn1 : n1 = ns.length) (hl1 : n1 ≤ 400) (hr1 : Recs 10 cellsN w w.heap.size A1 ns) (hn4 : n4 = l.length) (hl4 : n4 ≤ 400) (hr4 : Recs 8 cellsP w w.heap.size A4 l) :
    Calls Tryd.prog 12 #[.agg #[.slice A1 n1 c1, s2, s3], .agg #[.slice A4 n4 c4, v1, v2]] w fun e w' => e = .returned (.tuple #[.int .i64 (roomOf ns l).1, .int .i64 (roomOf ns l).2]) ∧ Below w.heap.size w w' := by
  have HR1 := Lib.hid hr1
  have HN1 := Lib.hid hn1
  have HC := Lib.hid (fun (W : World) (hW : Below w.heap.size w W) (id : Int) => refRest_any ns l id hno hlo A1 A4 n1 c1 n4 c4 s2 s3 v1 v2 W hn1 hl1 ((hr1.below hW (Nat.le_refl _)).more hW.size) hn4 hl4 ((hr4.below hW (Nat.le_refl _)).more hW.size))
  have T0 := T2.new w [.slice A1 n1 c1, s2, s3] [.slice A4 n4 c4, v1, v2] 26 28
  have HT0 := Lib.hid T0
  clear hr1 hr4 hn1 hn4 hno hlo T0
  go_enter Tryd.func12, Tryd.ntmps12
  go_wp2
  go_loopw [6] (RoomRel ns l [.slice A1 n1 c1, s2, s3] [.slice A4 n4 c4, v1, v2] w) (fun i _ => n1 - (intOf i).toNat)
  case atStart => exact ⟨0, by omega, rfl, rfl, HT0.out⟩
  case round =>
    obtain ⟨k, hk, rfl, hp, T1⟩ := hrel
    have HP := Lib.hid hp
    have HT1 := Lib.hid T1
    clear hp
    obtain ⟨a0, a1, a2, a3⟩ := T1.one.cells3
    obtain ⟨b0, b1, b2, b3⟩ := T1.two.cells3
    by_cases hlt : k < n1
    · have hkl : k < ns.length := by have := HN1.out; omega
      obtain ⟨b, o, rfl, hb, he⟩ := HR1.out.at hkl
      generalize hx : ns[k] = y at *
      have HX := Lib.hid (roomD_at hkl hx HP.out)
      clear hx
      have kwr := T1.below
      have e0 : wr.cell? ⟨b, o + k * 10, none⟩ = some (.int .i64 y.id) := (kwr.cell (p := ⟨b, o + k * 10, none⟩) hb).trans (he 0 _ rfl)
      have hbw : b < wr.heap.size := Nat.lt_of_lt_of_le hb kwr.size
      have HCR := Lib.hid (fun (W : World) (hW : Keeps wr W) => HC.out W (kwr.trans (hW.2.mono kwr.size)) y.id)
      clear he T1 kwr
      generalize hz : restD ns l y.id = z at *
      obtain ⟨r, code⟩ := z
      clear hz
      go_wp2
      go_region_held3 (fun w' => (∀ b o, b < wr.heap.size → w'.cell? ⟨b, o, none⟩ = wr.cell? ⟨b, o, none⟩) ∧ Below wr.heap.size wr w')
        (first | (with_reducible assumption) | (show Keeps wr _; with_reducible (repeat (first | exact Keeps.refl _ | refine Keeps.drew ?_ | refine Keeps.set ?_ (by simp) _ | refine Keeps.alloc ?_ _ | refine Keeps.step ?_ (by assumption)))))
        (first
          | (go_at_call 11; refine (HCR.out _ (by assumption)).mono ?_; rintro e w' ⟨rfl, hb⟩; obtain ⟨hcx, hfx⟩ := old_cells hb))
      all_goals
        rename_i hK
        have HTT := Lib.hid (HT1.out.keep hK.2)
        clear hK hcx hfx hb e0 a0 a1 a2 a3 b0 b1 b2 b3
        by_cases hc : code = 0
        · subst hc
          have HE := Lib.hid (HX.out.2 rfl)
          go_wp2
          go_roundw
          case rel => exact ⟨k + 1, by omega, by go_num, HE.out, HTT.out⟩
          case measure => simp [intOf]; omega
        · have HE := Lib.hid (HX.out.1 hc)
          have hcb : (code != 0) = true := by simp [hc]
          clear hc
          go_wp2
          go_ret2
          exact ⟨ret_pair HE.out rfl rfl, HTT.out.below⟩
    · have HE := Lib.hid (roomD_end (by have := HN1.out; omega) HP.out)
      have kwr := T1.below
      clear T1
      go_wp2
      go_ret2
      exact ⟨ret_pair HE.out rfl rfl, kwr⟩
end Go.Proofs.YtfdfejihakekeaaDoor

/- The law RoomTells. -/
namespace Go.Proofs.YtfdfejihakekeaaDoor
set_option linter.unusedSimpArgs false
open Go.RowKit
set_option linter.unusedVariables false

theorem vec_not_self (x : V4) (w : World) : (binOp .neq 36 (.agg #[.int .u64 x.a, .int .u64 x.b, .int .u64 x.c, .int .u64 x.d]) (.agg #[.int .u64 x.a, .int .u64 x.b, .int .u64 x.c, .int .u64 x.d])).run Tryd.prog w = .ok (.bool false) w := by
  rw [vec_neq, vecEq_self]
  rfl
theorem few06 {n1 n2 n3 n5 : Nat} (h : few05 n1 n2 n3 0 n5 = true) : n1 ≤ 40 ∧ n2 ≤ 40 ∧ n3 ≤ 40 ∧ n5 ≤ 40 := by
  simp [few05] at h
  omega
/-- What Code tells of what Rest told. -/
theorem code_of_rest {c : Int} (h : c ≠ 0 → 1 ≤ c ∧ c ≤ 17) (w : World) : Calls Tryd.prog 13 #[codeV c] w fun e w' => e = .returned (.int .i64 c) ∧ w = w' := by
  by_cases h0 : c = 0
  · subst h0; exact code_nil w
  · rw [codeV_pos h0]; exact code_any c (h h0).1 (h h0).2 w
theorem uses (l : List PodD) (node : Int) (hlo : ∀ p ∈ l, p.Ok) (A4 : Option Addr) (n4 c4 : Nat) (v1 v2 : Value) (hn4 : n4 = l.length) (hl4 : n4 ≤ 400) : ∃ (z : V4) (ok : Bool) (eu : Value),
    (∀ W, Recs 8 cellsP W W.heap.size A4 l → Calls Tryd.prog 8 #[.agg #[.slice A4 n4 c4, v1, v2], .int .i64 node] W fun e w' => e = .returned (.tuple #[aggV z, eu]) ∧ Below W.heap.size W w') ∧
    (∀ W, Recs 8 cellsP W W.heap.size A4 l → Calls Tryd.prog 10 #[.agg #[.slice A4 n4 c4, v1, v2], .int .i64 node] W fun e w' => e = .returned (.tuple #[aggV z, .bool ok]) ∧ Below W.heap.size W w') ∧
    ((ok = true ∧ eu = .nilIface) ∨ (ok = false ∧ eu = .iface 48 (.int .i64 8))) := by
  rcases hu : useD l node with _ | u
  · exact ⟨.zer, false, _, fun W h => roomUse_none hlo hu A4 n4 c4 v1 v2 W hn4 hl4 h, fun W h => refUse_none hlo hu A4 n4 c4 v1 v2 W hn4 hl4 h, .inr ⟨rfl, rfl⟩⟩
  · exact ⟨u, true, _, fun W h => roomUse_some hlo hu A4 n4 c4 v1 v2 W hn4 hl4 h, fun W h => refUse_some hlo hu A4 n4 c4 v1 v2 W hn4 hl4 h, .inl ⟨rfl, rfl⟩⟩

set_option maxHeartbeats 12800000 in
set_option maxRecDepth 100000 in
theorem roomTells_in (s : SnapD) (t : StateD) (node : Int) (hno : ∀ x ∈ s.nodes, x.Ok) (hlo : ∀ p ∈ t.pods, p.Ok) (A1 A2 A3 A4 : Option Addr) (n1 c1 n2 c2 n3 c3 n4 c4 : Nat) (w : World) (hg : Laid w)
    (hn1 : n1 = s.nodes.length) (hr1 : Recs 10 cellsN w w.heap.size A1 s.nodes) (hn4 : n4 = t.pods.length) (hr4 : Recs 8 cellsP w w.heap.size A4 t.pods) :
    Calls Tryd.prog 3 #[.agg #[.slice A1 n1 c1, .slice A2 n2 c2, .slice A3 n3 c3], .agg #[.slice A4 n4 c4, .int .i64 t.preempts, .int .i64 t.shifts], .int .i64 node] w fun e w' => e = .returned (.bool true) ∧ Below w.heap.size w w' := by
  have T0 := T2.new w [.slice A1 n1 c1, .slice A2 n2 c2, .slice A3 n3 c3] [.slice A4 n4 c4, .int .i64 t.preempts, .int .i64 t.shifts] 26 28
  have HG := Lib.hid (fun (V : World) (hV : Below w.heap.size w V) => Laid.below hg hV (Nat.le_refl _))
  have HR1 := Lib.hid (fun (V : World) (hV : Below w.heap.size w V) => (hr1.below hV (Nat.le_refl _)).more hV.size)
  have HR4 := Lib.hid (fun (V : World) (hV : Below w.heap.size w V) => (hr4.below hV (Nat.le_refl _)).more hV.size)
  have HUP := Lib.hid (up06_any _ (HG.out _ T0.below))
  have HN1 := Lib.hid hn1
  have HN4 := Lib.hid hn4
  have HNO := Lib.hid hno
  have HLO := Lib.hid hlo
  clear hg hr1 hr4 hno hlo hn1 hn4
  go_enter Tryd.func3, Tryd.ntmps3
  go_wp2_with fail
  refine HUP.out.mono ?_
  rintro e w1 ⟨rfl, hb1⟩
  have T1 := T0.keep hb1
  clear hb1 T0 HUP
  obtain ⟨a0, a1, a2, a3⟩ := T1.one.cells3
  obtain ⟨b0, b1, b2, b3⟩ := T1.two.cells3
  go_wp2_with fail
  refine (few05_any _ _ _ _ _ _ _ _ _ _ _ _ _ _ _ _ _ _ _ _).mono ?_
  rintro e w2 ⟨rfl, hb2⟩
  have T2' := T1.keep hb2
  clear hb2 T1 a0 a1 a2 a3 b0 b1 b2 b3
  cases hfew : few05 n1 n2 n3 0 n4 with
  | false =>
    have kw := T2'.below
    clear hfew T2'
    go_wp2
    go_ret
    exact ⟨rfl, kw⟩
  | true =>
    obtain ⟨hl1, _, _, hl4⟩ := few06 hfew
    clear hfew
    obtain ⟨z, ok, eu, hu1, hu2, huk⟩ := uses t.pods node HLO.out A4 n4 c4 (.int .i64 t.preempts) (.int .i64 t.shifts) HN4.out (by omega)
    have HU1 := Lib.hid hu1
    have HU2 := Lib.hid hu2
    have HUK := Lib.hid huk
    have HF1 := Lib.hid (fun W hW => roomRest_any s.nodes t.pods node HNO.out HLO.out A1 A4 n1 c1 n4 c4 (.slice A2 n2 c2) (.slice A3 n3 c3) (.int .i64 t.preempts) (.int .i64 t.shifts) W HN1.out (by omega) (HR1.out W hW) HN4.out (by omega) (HR4.out W hW))
    have HF2 := Lib.hid (fun W hW => refRest_any s.nodes t.pods node HNO.out HLO.out A1 A4 n1 c1 n4 c4 (.slice A2 n2 c2) (.slice A3 n3 c3) (.int .i64 t.preempts) (.int .i64 t.shifts) W HN1.out (by omega) (HR1.out W hW) HN4.out (by omega) (HR4.out W hW))
    have HF3 := Lib.hid (fun W hW => refCheck_any s.nodes t.pods HNO.out HLO.out A1 A4 n1 c1 n4 c4 (.slice A2 n2 c2) (.slice A3 n3 c3) (.int .i64 t.preempts) (.int .i64 t.shifts) W HN1.out (by omega) (HR1.out W hW) HN4.out (by omega) (HR4.out W hW))
    have HF4 := Lib.hid (fun W hW => roomCheck_any s.nodes t.pods HNO.out HLO.out A1 A4 n1 c1 n4 c4 (.slice A2 n2 c2) (.slice A3 n3 c3) (.int .i64 t.preempts) (.int .i64 t.shifts) W (HG.out W hW) HN1.out (by omega) (HR1.out W hW) HN4.out (by omega) (HR4.out W hW))
    have HRC := Lib.hid (fun h => rest_code (ns := s.nodes) (l := t.pods) (id := node) h)
    generalize hz : restD s.nodes t.pods node = rz at *
    obtain ⟨r, code⟩ := rz
    have HCR := Lib.hid (fun W => code_of_rest HRC.out W)
    generalize hq : roomOf s.nodes t.pods = q at *
    generalize hev : codeV code = ev at *
    clear hu1 hu2 huk hz hq hev HRC HNO HLO HR1 HN1 HN4
    -- Use
    have HT := Lib.hid T2'
    have HRR := Lib.hid (HR4.out _ T2'.below)
    obtain ⟨b0, b1, b2, b3⟩ := T2'.two.cells3
    clear T2'
    go_wp2_with fail
    refine (HU1.out _ HRR.out).mono ?_
    rintro e w3 ⟨rfl, hb3⟩
    have T3 := (HT.out.keep hb3).alloc (.cells #[.int .u64 z.a, .int .u64 z.b, .int .u64 z.c, .int .u64 z.d] 36)
    have Z3 : Bf (w3.alloc (.cells #[.int .u64 z.a, .int .u64 z.b, .int .u64 z.c, .int .u64 z.d] 36)) w3.heap.size (cellsV z) := Bf.new w3 (cellsV z) _ rfl
    clear hb3 HT HRR b0 b1 b2 b3
    -- Rest
    go_upto_region 6 with fail
    generalize hW : (w3.alloc (.cells #[.int .u64 z.a, .int .u64 z.b, .int .u64 z.c, .int .u64 z.d] 36)) = W3 at *
    generalize hh : w3.heap.size = h9 at *
    clear hW hh
    have HRR := Lib.hid T3.below
    have HT := Lib.hid T3
    have HZ3 := Lib.hid Z3
    obtain ⟨a0, a1, a2, a3⟩ := T3.one.cells3
    obtain ⟨b0, b1, b2, b3⟩ := T3.two.cells3
    clear T3 Z3
    go_wp2_with fail
    refine (HF1.out _ HRR.out).mono ?_
    rintro e w4 ⟨rfl, hb4⟩
    have T4 := (HT.out.keep hb4).alloc (.cells #[.int .u64 r.a, .int .u64 r.b, .int .u64 r.c, .int .u64 r.d] 36)
    have Z4 := (HZ3.out.below hb4 HZ3.out.lt).alloc (.cells #[.int .u64 r.a, .int .u64 r.b, .int .u64 r.c, .int .u64 r.d] 36)
    have R4 : Bf (w4.alloc (.cells #[.int .u64 r.a, .int .u64 r.b, .int .u64 r.c, .int .u64 r.d] 36)) w4.heap.size (cellsV r) := Bf.new w4 (cellsV r) _ rfl
    clear hb4 HT HRR HZ3 a0 a1 a2 a3 b0 b1 b2 b3
    -- the reference's Use
    go_upto_region 7 with fail
    generalize hW : (w4.alloc (.cells #[.int .u64 r.a, .int .u64 r.b, .int .u64 r.c, .int .u64 r.d] 36)) = W4 at *
    generalize hh : w4.heap.size = h11 at *
    clear hW hh
    have HRR := Lib.hid (HR4.out _ T4.below)
    have HT := Lib.hid T4
    have HZ4 := Lib.hid Z4
    have HR4' := Lib.hid R4
    obtain ⟨b0, b1, b2, b3⟩ := T4.two.cells3
    clear T4 Z4 R4
    go_wp2_with fail
    refine (HU2.out _ HRR.out).mono ?_
    rintro e w5 ⟨rfl, hb5⟩
    have T5 := (HT.out.keep hb5).alloc (.cells #[.int .u64 z.a, .int .u64 z.b, .int .u64 z.c, .int .u64 z.d] 36)
    have Z5 := (HZ4.out.below hb5 HZ4.out.lt).alloc (.cells #[.int .u64 z.a, .int .u64 z.b, .int .u64 z.c, .int .u64 z.d] 36)
    have R5 := (HR4'.out.below hb5 HR4'.out.lt).alloc (.cells #[.int .u64 z.a, .int .u64 z.b, .int .u64 z.c, .int .u64 z.d] 36)
    have Y5 : Bf (w5.alloc (.cells #[.int .u64 z.a, .int .u64 z.b, .int .u64 z.c, .int .u64 z.d] 36)) w5.heap.size (cellsV z) := Bf.new w5 (cellsV z) _ rfl
    clear hb5 HT HRR HZ4 HR4' b0 b1 b2 b3
    -- the reference's Rest
    go_upto_region 8 with fail
    generalize hW : (w5.alloc (.cells #[.int .u64 z.a, .int .u64 z.b, .int .u64 z.c, .int .u64 z.d] 36)) = W5 at *
    generalize hh : w5.heap.size = h13 at *
    clear hW hh
    have HRR := Lib.hid T5.below
    have HT := Lib.hid T5
    have HZ5 := Lib.hid Z5
    have HR5 := Lib.hid R5
    have HY5 := Lib.hid Y5
    obtain ⟨a0, a1, a2, a3⟩ := T5.one.cells3
    obtain ⟨b0, b1, b2, b3⟩ := T5.two.cells3
    clear T5 Z5 R5 Y5
    go_wp2_with fail
    refine (HF2.out _ HRR.out).mono ?_
    rintro e w6 ⟨rfl, hb6⟩
    have T6 := (HT.out.keep hb6).alloc (.cells #[.int .u64 r.a, .int .u64 r.b, .int .u64 r.c, .int .u64 r.d] 36)
    have Z6 := (HZ5.out.below hb6 HZ5.out.lt).alloc (.cells #[.int .u64 r.a, .int .u64 r.b, .int .u64 r.c, .int .u64 r.d] 36)
    have R6 := (HR5.out.below hb6 HR5.out.lt).alloc (.cells #[.int .u64 r.a, .int .u64 r.b, .int .u64 r.c, .int .u64 r.d] 36)
    have Y6 := (HY5.out.below hb6 HY5.out.lt).alloc (.cells #[.int .u64 r.a, .int .u64 r.b, .int .u64 r.c, .int .u64 r.d] 36)
    have X6 : Bf (w6.alloc (.cells #[.int .u64 r.a, .int .u64 r.b, .int .u64 r.c, .int .u64 r.d] 36)) w6.heap.size (cellsV r) := Bf.new w6 (cellsV r) _ rfl
    clear hb6 HT HRR HZ5 HR5 HY5 a0 a1 a2 a3 b0 b1 b2 b3
    -- the reference's Check
    go_upto_region 9 with fail
    generalize hW : (w6.alloc (.cells #[.int .u64 r.a, .int .u64 r.b, .int .u64 r.c, .int .u64 r.d] 36)) = W6 at *
    generalize hh : w6.heap.size = h15 at *
    clear hW hh
    have HRR := Lib.hid T6.below
    have HT := Lib.hid T6
    have HZ6 := Lib.hid Z6
    have HR6 := Lib.hid R6
    have HY6 := Lib.hid Y6
    have HX6 := Lib.hid X6
    obtain ⟨a0, a1, a2, a3⟩ := T6.one.cells3
    obtain ⟨b0, b1, b2, b3⟩ := T6.two.cells3
    clear T6 Z6 R6 Y6 X6
    go_wp2_with fail
    refine (HF3.out _ HRR.out).mono ?_
    rintro e w7 ⟨rfl, hb7⟩
    have T7 := HT.out.keep hb7
    have Z7 := HZ6.out.below hb7 HZ6.out.lt
    have R7 := HR6.out.below hb7 HR6.out.lt
    have Y7 := HY6.out.below hb7 HY6.out.lt
    have X7 := HX6.out.below hb7 HX6.out.lt
    have HT7 := Lib.hid T7
    have HB7 := Lib.hid T7.below
    clear hb7 HT HRR HZ6 HR6 HY6 HX6 a0 a1 a2 a3 b0 b1 b2 b3
    obtain ⟨a0, a1, a2, a3⟩ := T7.one.cells3
    obtain ⟨b0, b1, b2, b3⟩ := T7.two.cells3
    obtain ⟨z0, z1, z2, z3, z4⟩ := Z7.cells4
    obtain ⟨y0, y1, y2, y3, y4⟩ := Y7.cells4
    obtain ⟨r0, r1, r2, r3, r4⟩ := R7.cells4
    obtain ⟨x0, x1, x2, x3, x4⟩ := X7.cells4
    have hnz := fun W => vec_not_self z W
    have hve := fun W => vec_same r.a r.b r.c r.d W
    have hn8 : ∀ W, (binOp .neq 38 (.iface 48 (.int .i64 8)) (.iface 48 (.int .i64 8))).run Tryd.prog W = .ok (.bool false) W := fun _ => by kernel_rfl
    clear T7 Z7 Y7 R7 X7
    rcases HUK.out with ⟨hk, he⟩ | ⟨hk, he⟩
    all_goals
      subst hk he
      go_wp2_with fail
      refine (HCR.out _).mono ?_
      rintro e w8 ⟨rfl, rfl⟩
      go_wp2_with fail
      refine (HF4.out _ HB7.out).mono ?_
      rintro e w9 ⟨u9, rfl, hu9, hb9⟩
      have HTD := Lib.hid (told_any q w7.heap.size u9 w9 (HG.out _ (HB7.out.trans (hb9.mono HB7.out.size))) hu9)
      have HB9 := Lib.hid (HB7.out.trans (hb9.mono HB7.out.size))
      clear hu9 hb9
      go_wp2_with fail
      refine HTD.out.mono ?_
      rintro e w10 ⟨rfl, hb10⟩
      have HB10 := Lib.hid (HB9.out.trans (hb10.mono HB9.out.size))
      clear hb10
      go_wp2
      go_ret
      exact ⟨rfl, HB10.out⟩
end Go.Proofs.YtfdfejihakekeaaDoor

namespace Go.Proofs.YtfdfejihakekeaaDoor
set_option linter.unusedSimpArgs false
open Go.RowKit
set_option linter.unusedVariables false

theorem whole_at {ns : List NodeD} {l : List PodD} {y : NodeD} {i : Nat} (hno : ∀ x ∈ ns, x.Ok) (hlo : ∀ p ∈ l, p.Ok) (hi : i < ns.length) (hx : ns[i] = y) (h0 : (restD ns l y.id).2 = 0) :
    ∃ u r f, useD l y.id = some u ∧ restD ns l y.id = (r, 0) ∧ r.Ok ∧ u.Ok ∧ addV r u = some f ∧ f.Ok ∧ ((∀ j (hj : j < i), (ns[j]'(by omega)).id ≠ y.id) → addV f y.held = some y.cap) := by
  obtain ⟨n, u, r, h1, h2, h3, h4⟩ := rest_zero.1 h0
  have hn := nodeAt_ok hno h1
  have hu := use_ok hlo h2
  have hr := left_ok hn hu h3
  obtain ⟨h5, h6⟩ := left_whole hn hu h3
  refine ⟨u, r, _, h2, h4, hr, hu, h5, add_ok4 hr hu h5, fun hf => ?_⟩
  subst hx
  have := nodeAt_first hi hf
  rw [h1] at this
  obtain rfl := Option.some.inj this
  exact h6
/-- None of the first k nodes has this Id. -/
def firstB (ns : List NodeD) (id : Int) (k : Nat) : Bool := (ns.take k).all fun n => n.id != id
theorem firstB_zero (ns : List NodeD) (id : Int) : firstB ns id 0 = true := by simp [firstB]
theorem firstB_next {ns : List NodeD} {id : Int} {k : Nat} (h : k < ns.length) : firstB ns id (k + 1) = (firstB ns id k && ns[k].id != id) := by
  rw [firstB, List.take_succ_eq_append_getElem h, List.all_append]; simp [firstB]
theorem firstB_all {ns : List NodeD} {id : Int} {i : Nat} (hi : i < ns.length) (h : firstB ns id i = true) : ∀ j (hj : j < i), (ns[j]'(by omega)).id ≠ id := by
  intro j hj
  have := List.all_eq_true.1 h (ns[j]'(by omega)) (by rw [List.mem_take_iff_getElem]; exact ⟨j, by omega, rfl⟩)
  simpa using this
def WholeRel (a b : List Value) (n : Nat) (w : World) (i : Value) (wr : World) : Prop := ∃ k : Nat, k ≤ n ∧ i = .int .i64 k ∧ T2 a b w wr
def FirstRel (ns : List NodeD) (id : Int) (i : Nat) (a b : List Value) (w : World) (h : Nat) (z : V4) (f k : Value) (wr : World) : Prop := ∃ j : Nat, j ≤ i ∧ k = .int .i64 j ∧ f = .bool (firstB ns id j) ∧ T2 a b w wr ∧ Bf wr h (cellsV z)
theorem Bf.drewN {V : World} {b : Nat} {cs : List Value} (h : Bf V b cs) (q : Nat) : Bf (V.drewN q) b cs := ⟨h.lt, h.cell, h.frozen⟩
theorem T2.drewN {a b : List Value} {w V : World} (h : T2 a b w V) (q : Nat) : T2 a b w (V.drewN q) := ⟨h.one.drewN q, h.two.drewN q, below_drewN h.below q⟩

set_option maxHeartbeats 25600000 in
set_option maxRecDepth 100000 in
theorem roomWhole_in (s : SnapD) (t : StateD) (hno : ∀ x ∈ s.nodes, x.Ok) (hlo : ∀ p ∈ t.pods, p.Ok) (A1 A2 A3 A4 : Option Addr) (n1 c1 n2 c2 n3 c3 n4 c4 : Nat) (w : World) (hg : Laid w)
    (hn1 : n1 = s.nodes.length) (hr1 : Recs 10 cellsN w w.heap.size A1 s.nodes) (hn4 : n4 = t.pods.length) (hr4 : Recs 8 cellsP w w.heap.size A4 t.pods) :
    Calls Tryd.prog 4 #[.agg #[.slice A1 n1 c1, .slice A2 n2 c2, .slice A3 n3 c3], .agg #[.slice A4 n4 c4, .int .i64 t.preempts, .int .i64 t.shifts]] w fun e w' => e = .returned (.bool true) ∧ Below w.heap.size w w' := by
  have T0 := T2.new w [.slice A1 n1 c1, .slice A2 n2 c2, .slice A3 n3 c3] [.slice A4 n4 c4, .int .i64 t.preempts, .int .i64 t.shifts] 26 28
  have HG := Lib.hid (fun (V : World) (hV : Below w.heap.size w V) => Laid.below hg hV (Nat.le_refl _))
  have HR1 := Lib.hid (fun (V : World) (hV : Below w.heap.size w V) => (hr1.below hV (Nat.le_refl _)).more hV.size)
  have HR4 := Lib.hid (fun (V : World) (hV : Below w.heap.size w V) => (hr4.below hV (Nat.le_refl _)).more hV.size)
  have HRR := Lib.hid hr1
  have HUP := Lib.hid (up06_any _ (HG.out _ T0.below))
  have HN1 := Lib.hid hn1
  have HN4 := Lib.hid hn4
  have HNO := Lib.hid hno
  have HLO := Lib.hid hlo
  clear hg hr1 hr4 hno hlo hn1 hn4
  go_enter Tryd.func4, Tryd.ntmps4
  go_wp2_with fail
  refine HUP.out.mono ?_
  rintro e w1 ⟨rfl, hb1⟩
  have T1 := T0.keep hb1
  clear hb1 T0 HUP
  obtain ⟨a0, a1, a2, a3⟩ := T1.one.cells3
  obtain ⟨b0, b1, b2, b3⟩ := T1.two.cells3
  go_wp2_with fail
  refine (few05_any _ _ _ _ _ _ _ _ _ _ _ _ _ _ _ _ _ _ _ _).mono ?_
  rintro e w2 ⟨rfl, hb2⟩
  have T2' := T1.keep hb2
  have kw := T2'.below
  clear hb2 T1 a0 a1 a2 a3 b0 b1 b2 b3
  cases hfew : few05 n1 n2 n3 0 n4 with
  | false =>
    clear hfew T2'
    go_wp2
    go_ret
    exact ⟨rfl, kw⟩
  | true =>
    obtain ⟨hl1, _, _, hl4⟩ := few06 hfew
    have HT0 := Lib.hid T2'
    clear hfew kw T2'
    go_wp2
    go_loopw [7] (WholeRel [.slice A1 n1 c1, .slice A2 n2 c2, .slice A3 n3 c3] [.slice A4 n4 c4, .int .i64 t.preempts, .int .i64 t.shifts] n1 w) (fun i _ => n1 - (intOf i).toNat)
    case atStart => exact ⟨0, by omega, rfl, HT0.out⟩
    case round =>
      obtain ⟨i, hi, rfl, T1⟩ := hrel
      have HT1 := Lib.hid T1
      obtain ⟨a0, a1, a2, a3⟩ := T1.one.cells3
      obtain ⟨b0, b1, b2, b3⟩ := T1.two.cells3
      by_cases hlt : i < n1
      · have hil : i < s.nodes.length := by have := HN1.out; omega
        obtain ⟨b, o, rfl, hb, he⟩ := HRR.out.at hil
        generalize hx : s.nodes[i] = y at *
        have HX := Lib.hid hx
        have HWH := Lib.hid (whole_at HNO.out HLO.out hil hx)
        have HYO := Lib.hid (show y.Ok by rw [← hx]; exact HNO.out _ (List.getElem_mem hil))
        have kwr := T1.below
        have e0 : wr.cell? ⟨b, o + i * 10, none⟩ = some (.int .i64 y.id) := (kwr.cell (p := ⟨b, o + i * 10, none⟩) hb).trans (he 0 _ rfl)
        have hbw : b < wr.heap.size := Nat.lt_of_lt_of_le hb kwr.size
        have HCR := Lib.hid (fun (W : World) (hW : Keeps wr W) => roomRest_any s.nodes t.pods y.id HNO.out HLO.out (some ⟨b, o, none⟩) A4 n1 c1 n4 c4 (.slice A2 n2 c2) (.slice A3 n3 c3) (.int .i64 t.preempts) (.int .i64 t.shifts) W HN1.out (by omega) (HR1.out W (kwr.trans (hW.2.mono kwr.size))) HN4.out (by omega) (HR4.out W (kwr.trans (hW.2.mono kwr.size))))
        have HE := Lib.hid he
        have HB := Lib.hid hb
        clear he T1 kwr hx hb
        by_cases hc : (restD s.nodes t.pods y.id).2 = 0
        · obtain ⟨u, r, f, h1, h2, h3, h4, h5, h6, h7⟩ := HWH.out hc
          rw [h2] at HCR
          have HCU := Lib.hid (fun (W : World) (hW : Below w.heap.size w W) => roomUse_some HLO.out h1 A4 n4 c4 (.int .i64 t.preempts) (.int .i64 t.shifts) W HN4.out (by omega) (HR4.out W hW))
          have HAD := Lib.hid (fun W => vAdd_some h3 h4 h5 W)
          obtain ⟨z2, e2, hz2a, hz2b⟩ : ∃ (z2 : V4) (e2 : Value), (∀ W, Calls Tryd.prog 16 #[aggV f, aggV y.held] W fun e w' => e = .returned (.tuple #[aggV z2, e2]) ∧ Below W.heap.size W w') ∧ (firstB s.nodes y.id i = true → z2 = y.cap ∧ e2 = .nilIface) := by
            rcases hz : addV f y.held with _ | g
            · exact ⟨.zer, _, fun W => vAdd_none h6 HYO.out.2.2.2 hz W, fun hf => by have := h7 (firstB_all hil hf); rw [hz] at this; cases this⟩
            · exact ⟨g, _, fun W => vAdd_some h6 HYO.out.2.2.2 hz W, fun hf => by have := h7 (firstB_all hil hf); rw [hz] at this; exact ⟨Option.some.inj this, rfl⟩⟩
          have HZA := Lib.hid hz2a
          have HZB := Lib.hid hz2b
          have HCR' : Hid (∀ W, Keeps wr W → Calls Tryd.prog 9 #[.agg #[.slice (some ⟨b, o, none⟩) n1 c1, .slice A2 n2 c2, .slice A3 n3 c3], .agg #[.slice A4 n4 c4, .int .i64 t.preempts, .int .i64 t.shifts], .int .i64 y.id] W fun e w' => e = .returned (.tuple #[aggV r, .nilIface]) ∧ Below W.heap.size W w') := HCR.out
          have HI0 : Hid ((0 : Int) ≤ (i : Int)) := by show _ ≤ _; omega
          clear hz2a hz2b h1 h2 h3 h4 h5 h6 h7 hc HCR HWH
          go_wp2
          go_region_held3 (fun w' => (∀ b o, b < wr.heap.size → w'.cell? ⟨b, o, none⟩ = wr.cell? ⟨b, o, none⟩) ∧ Below wr.heap.size wr w')
            (first | (with_reducible assumption) | (show Keeps wr _; with_reducible (repeat (first | exact Keeps.refl _ | refine Keeps.drew ?_ | refine Keeps.set ?_ (by simp) _ | refine Keeps.alloc ?_ _ | refine Keeps.step ?_ (by assumption)))))
            (first
              | (go_at_call 9; refine (HCR'.out _ (by assumption)).mono ?_; rintro e w' ⟨rfl, hb⟩; obtain ⟨hcx, hfx⟩ := old_cells hb))
          rename_i hK
          have B8 : Bf (w'.alloc (.cells #[.int .u64 r.a, .int .u64 r.b, .int .u64 r.c, .int .u64 r.d] 36)) w'.heap.size (cellsV r) := Bf.new w' (cellsV r) _ rfl
          have K8 := hK.2
          generalize hV : w'.alloc (.cells #[.int .u64 r.a, .int .u64 r.b, .int .u64 r.c, .int .u64 r.d] 36) = V8 at *
          clear hK hV hcx hfx hb
          generalize w'.heap.size = h8 at *
          rotate_left
          rename_i hK
          have B8 := Bf.later (z := r) (Bf.drew (Bf.new wr (cellsV .zer) 36 rfl)) hb
          have K8 := hK.2
          generalize hV : (((w'.setCell ⟨wr.heap.size, 0, none⟩ (.int .u64 r.a)).setCell ⟨wr.heap.size, 1, none⟩ (.int .u64 r.b)).setCell ⟨wr.heap.size, 2, none⟩ (.int .u64 r.c)).setCell ⟨wr.heap.size, 3, none⟩ (.int .u64 r.d) = V8 at *
          clear hK hV hcx hfx hb
          generalize hh : wr.heap.size = h8 at B8 ⊢
          clear hh
          rotate_left
          all_goals
            have T8 := HT1.out.keep K8
            have HT8 := Lib.hid T8
            have HB8 := Lib.hid B8
            clear K8 B8 e0 hbw a0 a1 a2 a3 b0 b1 b2 b3
            obtain ⟨a0, a1, a2, a3⟩ := T8.one.cells3
            obtain ⟨b0, b1, b2, b3⟩ := T8.two.cells3
            have e0 : V8.cell? ⟨b, o + i * 10, none⟩ = some (.int .i64 y.id) := (T8.below.cell (p := ⟨b, o + i * 10, none⟩) HB.out).trans (HE.out 0 _ rfl)
            have hbw : b < V8.heap.size := Nat.lt_of_lt_of_le HB.out T8.below.size
            have hz8 : w.heap.size + 1 < V8.heap.size := T8.two.lt
            have HCU' : Hid (∀ W, Keeps V8 W → Calls Tryd.prog 8 #[.agg #[.slice A4 n4 c4, .int .i64 t.preempts, .int .i64 t.shifts], .int .i64 y.id] W fun e w' => e = .returned (.tuple #[aggV u, .nilIface]) ∧ Below W.heap.size W w') := fun W hW => HCU.out W (HT8.out.below.trans (hW.2.mono HT8.out.below.size))
            clear T8
            go_wp2
            go_region_held3 (fun w' => (∀ b o, b < V8.heap.size → w'.cell? ⟨b, o, none⟩ = V8.cell? ⟨b, o, none⟩) ∧ Below V8.heap.size V8 w')
              (first | (with_reducible assumption) | (show Keeps V8 _; with_reducible (repeat (first | exact Keeps.refl _ | refine Keeps.drew ?_ | refine Keeps.set ?_ (by simp) _ | refine Keeps.alloc ?_ _ | refine Keeps.step ?_ (by assumption)))))
              (first
                | (go_at_call 8; refine (HCU'.out _ (by assumption)).mono ?_; rintro e w' ⟨rfl, hb⟩; obtain ⟨hcx, hfx⟩ := old_cells hb))
            rename_i hK
            have B10 : Bf (w'.alloc (.cells #[.int .u64 u.a, .int .u64 u.b, .int .u64 u.c, .int .u64 u.d] 36)) w'.heap.size (cellsV u) := Bf.new w' (cellsV u) _ rfl
            have K10 := hK.2
            generalize hV : w'.alloc (.cells #[.int .u64 u.a, .int .u64 u.b, .int .u64 u.c, .int .u64 u.d] 36) = V10 at *
            clear hK hV hcx hfx hb
            generalize w'.heap.size = h10 at *
            rotate_left
            rename_i hK
            have B10 := Bf.later (z := u) (Bf.drew (Bf.new V8 (cellsV .zer) 36 rfl)) hb
            have K10 := hK.2
            generalize hV : (((w'.setCell ⟨V8.heap.size, 0, none⟩ (.int .u64 u.a)).setCell ⟨V8.heap.size, 1, none⟩ (.int .u64 u.b)).setCell ⟨V8.heap.size, 2, none⟩ (.int .u64 u.c)).setCell ⟨V8.heap.size, 3, none⟩ (.int .u64 u.d) = V10 at *
            clear hK hV hcx hfx hb
            generalize hh : V8.heap.size = h10 at B10 ⊢
            clear hh
            rotate_left
            all_goals
              have T10 := HT8.out.keep K10
              have R10 := HB8.out.below K10 HB8.out.lt
              have HT10 := Lib.hid T10
              obtain ⟨r0, r1, r2, r3, r4⟩ := R10.cells4
              obtain ⟨u0, u1, u2, u3, u4⟩ := B10.cells4
              clear K10 B10 R10 T10 e0 hbw a0 a1 a2 a3 b0 b1 b2 b3 hz8
              go_wp2_with fail
              refine (HAD.out _).mono ?_
              rintro e w11 ⟨rfl, hb11⟩
              have T12 := (HT10.out.keep hb11).alloc (.cells #[.int .u64 f.a, .int .u64 f.b, .int .u64 f.c, .int .u64 f.d] 36)
              have F12 : Bf (w11.alloc (.cells #[.int .u64 f.a, .int .u64 f.b, .int .u64 f.c, .int .u64 f.d] 36)) w11.heap.size (cellsV f) := Bf.new w11 (cellsV f) _ rfl
              clear hb11 r0 r1 r2 r3 r4 u0 u1 u2 u3 u4
              go_upto_region 12 with fail
              generalize hV : w11.alloc (.cells #[.int .u64 f.a, .int .u64 f.b, .int .u64 f.c, .int .u64 f.d] 36) = V12 at *
              generalize w11.heap.size = h12 at *
              have HT12 := Lib.hid T12
              have HF12 := Lib.hid F12
              obtain ⟨a0, a1, a2, a3⟩ := T12.one.cells3
              have hbw : b < V12.heap.size := Nat.lt_of_lt_of_le HB.out T12.below.size
              clear hV T12 F12
              go_wp2
              go_loopw [14, 15] (FirstRel s.nodes y.id i [.slice (some ⟨b, o, none⟩) n1 c1, .slice A2 n2 c2, .slice A3 n3 c3] [.slice A4 n4 c4, .int .i64 t.preempts, .int .i64 t.shifts] w h12 f) (fun _ k _ => i - (intOf k).toNat)
              case atStart => exact ⟨0, by omega, rfl, by rw [firstB_zero], HT12.out, HF12.out⟩
              case round =>
                clear a0 a1 a2 a3 hbw
                obtain ⟨j, hj, rfl, rfl, TQ, FQ⟩ := hrel
                have HTQ := Lib.hid TQ
                have HFQ := Lib.hid FQ
                obtain ⟨a0, a1, a2, a3⟩ := TQ.one.cells3
                have hbw : b < wr.heap.size := Nat.lt_of_lt_of_le HB.out TQ.below.size
                by_cases hji : j < i
                · have hjl : j < s.nodes.length := by omega
                  have hjn : j < n1 := by omega
                  have HNX := Lib.hid (firstB_next (ns := s.nodes) (id := y.id) hjl)
                  obtain ⟨_, _, hAA, _, hej⟩ := HRR.out.at hjl
                  injection hAA with hAA
                  injection hAA with hA1 hA2
                  subst hA1 hA2
                  generalize hyj : s.nodes[j] = yj at *
                  have ej : wr.cell? ⟨b, o + j * 10, none⟩ = some (.int .i64 yj.id) := (TQ.below.cell (p := ⟨b, o + j * 10, none⟩) HB.out).trans (hej 0 _ rfl)
                  have e0 : wr.cell? ⟨b, o + i * 10, none⟩ = some (.int .i64 y.id) := (TQ.below.cell (p := ⟨b, o + i * 10, none⟩) HB.out).trans (HE.out 0 _ rfl)
                  have hj0 : (0 : Int) ≤ (j : Int) := by omega
                  have hi0 : (0 : Int) ≤ (i : Int) := by omega
                  have hj1 : (j : Int) < (n1 : Int) := by omega
                  have hi1 : (i : Int) < (n1 : Int) := by omega
                  have hji' : (j : Int) < (i : Int) := by omega
                  clear hej hyj TQ FQ
                  cases hfb : firstB s.nodes y.id j with
                  | true =>
                    have HNX' := HNX.out
                    rw [hfb, Bool.true_and] at HNX'
                    have HN' := Lib.hid HNX'
                    clear hfb HNX HNX'
                    generalize hne : (yj.id != y.id) = nb at *
                    go_wp2
                    go_quiet (fail)
                    go_wp2
                    go_roundw
                    case rel => exact ⟨j + 1, by omega, by go_num, by rw [HN'.out], HTQ.out.drewN nq, HFQ.out.drewN nq⟩
                    case measure => simp [intOf]; omega
                  | false =>
                    have HNX' := HNX.out
                    rw [hfb, Bool.false_and] at HNX'
                    have HN' := Lib.hid HNX'
                    clear hfb HNX HNX'
                    go_wp2
                    go_quiet (fail)
                    go_wp2
                    go_roundw
                    case rel => exact ⟨j + 1, by omega, by go_num, by rw [HN'.out], HTQ.out.drewN nq, HFQ.out.drewN nq⟩
                    case measure => simp [intOf]; omega
                · obtain rfl : j = i := by omega
                  have hfi : Hid (firstB s.nodes y.id j = true → z2 = y.cap ∧ e2 = .nilIface) := HZB.out
                  have e6 : wr.cell? ⟨b, o + j * 10 + 6, none⟩ = some (.int .u64 y.held.a) := (TQ.below.cell (p := ⟨b, o + j * 10 + 6, none⟩) HB.out).trans (HE.out 6 _ rfl)
                  have e7 : wr.cell? ⟨b, o + j * 10 + 7, none⟩ = some (.int .u64 y.held.b) := (TQ.below.cell (p := ⟨b, o + j * 10 + 7, none⟩) HB.out).trans (HE.out 7 _ rfl)
                  have e8 : wr.cell? ⟨b, o + j * 10 + 8, none⟩ = some (.int .u64 y.held.c) := (TQ.below.cell (p := ⟨b, o + j * 10 + 8, none⟩) HB.out).trans (HE.out 8 _ rfl)
                  have e9 : wr.cell? ⟨b, o + j * 10 + 9, none⟩ = some (.int .u64 y.held.d) := (TQ.below.cell (p := ⟨b, o + j * 10 + 9, none⟩) HB.out).trans (HE.out 9 _ rfl)
                  obtain ⟨f0, f1, f2, f3, f4⟩ := FQ.cells4
                  have hj0 : (0 : Int) ≤ (j : Int) := by omega
                  have hj1 : (j : Int) < (n1 : Int) := by omega
                  clear TQ FQ
                  generalize hfb : firstB s.nodes y.id j = fb at *
                  clear hfb
                  go_wp2
                  go_region_held3 (fun w' => (∀ b o, b < wr.heap.size → w'.cell? ⟨b, o, none⟩ = wr.cell? ⟨b, o, none⟩) ∧ Below wr.heap.size wr w')
                    (first | (with_reducible assumption) | (show Keeps wr _; with_reducible (repeat (first | exact Keeps.refl _ | refine Keeps.drew ?_ | refine Keeps.set ?_ (by simp) _ | refine Keeps.alloc ?_ _ | refine Keeps.step ?_ (by assumption)))))
                    (first
                      | (go_at_call 16; refine (HZA.out _).mono ?_; rintro e w' ⟨rfl, hb⟩; obtain ⟨hcx, hfx⟩ := old_cells hb))
                  rename_i hK
                  have B17 : Bf (w'.alloc (.cells #[.int .u64 z2.a, .int .u64 z2.b, .int .u64 z2.c, .int .u64 z2.d] 36)) w'.heap.size (cellsV z2) := Bf.new w' (cellsV z2) _ rfl
                  have K17 := hK.2
                  generalize hV : w'.alloc (.cells #[.int .u64 z2.a, .int .u64 z2.b, .int .u64 z2.c, .int .u64 z2.d] 36) = V17 at *
                  clear hK hV hcx hfx hb
                  generalize w'.heap.size = h17 at *
                  rotate_left
                  rename_i hK
                  have B17 := Bf.later (z := z2) (Bf.drew (Bf.new wr (cellsV .zer) 36 rfl)) hb
                  have K17 := hK.2
                  generalize hV : (((w'.setCell ⟨wr.heap.size, 0, none⟩ (.int .u64 z2.a)).setCell ⟨wr.heap.size, 1, none⟩ (.int .u64 z2.b)).setCell ⟨wr.heap.size, 2, none⟩ (.int .u64 z2.c)).setCell ⟨wr.heap.size, 3, none⟩ (.int .u64 z2.d) = V17 at *
                  clear hK hV hcx hfx hb
                  generalize hh : wr.heap.size = h17 at B17 ⊢
                  clear hh
                  rotate_left
                  all_goals
                    have T17 := HTQ.out.keep K17
                    have HT17 := Lib.hid T17
                    clear K17 e6 e7 e8 e9 f0 f1 f2 f3 f4 a0 a1 a2 a3 hbw
                    obtain ⟨a0, a1, a2, a3⟩ := T17.one.cells3
                    obtain ⟨x0, x1, x2, x3, x4⟩ := B17.cells4
                    have e2' : V17.cell? ⟨b, o + j * 10 + 2, none⟩ = some (.int .u64 y.cap.a) := (T17.below.cell (p := ⟨b, o + j * 10 + 2, none⟩) HB.out).trans (HE.out 2 _ rfl)
                    have e3' : V17.cell? ⟨b, o + j * 10 + 3, none⟩ = some (.int .u64 y.cap.b) := (T17.below.cell (p := ⟨b, o + j * 10 + 3, none⟩) HB.out).trans (HE.out 3 _ rfl)
                    have e4' : V17.cell? ⟨b, o + j * 10 + 4, none⟩ = some (.int .u64 y.cap.c) := (T17.below.cell (p := ⟨b, o + j * 10 + 4, none⟩) HB.out).trans (HE.out 4 _ rfl)
                    have e5' : V17.cell? ⟨b, o + j * 10 + 5, none⟩ = some (.int .u64 y.cap.d) := (T17.below.cell (p := ⟨b, o + j * 10 + 5, none⟩) HB.out).trans (HE.out 5 _ rfl)
                    have hbw : b < V17.heap.size := Nat.lt_of_lt_of_le HB.out T17.below.size
                    clear T17 B17
                    cases fb with
                    | true =>
                      obtain ⟨rfl, rfl⟩ := hfi.out rfl
                      have hvn := fun W => vec_not_self y.cap W
                      go_wp2
                      go_quiet (fail)
                      go_wp2
                      go_roundw
                      case rel => exact ⟨j + 1, by omega, by go_num, HT17.out.drewN nq⟩
                      case measure => simp [intOf]; omega
                    | false =>
                      go_wp2
                      go_quiet (fail)
                      go_wp2
                      go_roundw
                      case rel => exact ⟨j + 1, by omega, by go_num, HT17.out.drewN nq⟩
                      case measure => simp [intOf]; omega
        · have hcv := codeV_pos hc
          rw [hcv] at HCR
          generalize (restD s.nodes t.pods y.id).1 = r at *
          generalize (restD s.nodes t.pods y.id).2 = code at *
          clear hc hcv HWH
          go_wp2
          go_region_held3 (fun w' => (∀ b o, b < wr.heap.size → w'.cell? ⟨b, o, none⟩ = wr.cell? ⟨b, o, none⟩) ∧ Below wr.heap.size wr w')
            (first | (with_reducible assumption) | (show Keeps wr _; with_reducible (repeat (first | exact Keeps.refl _ | refine Keeps.drew ?_ | refine Keeps.set ?_ (by simp) _ | refine Keeps.alloc ?_ _ | refine Keeps.step ?_ (by assumption)))))
            (first
              | (go_at_call 9; refine (HCR.out _ (by assumption)).mono ?_; rintro e w' ⟨rfl, hb⟩; obtain ⟨hcx, hfx⟩ := old_cells hb))
          all_goals
            rename_i hK
            have HTT := Lib.hid (HT1.out.keep hK.2)
            clear hK hcx hfx hb e0 a0 a1 a2 a3 b0 b1 b2 b3
            go_wp2
            go_roundw
            case rel => exact ⟨i + 1, by omega, by go_num, HTT.out⟩
            case measure => simp [intOf]; omega
      · have kwr := T1.below
        clear T1
        go_wp2
        go_ret
        exact ⟨rfl, kwr⟩
end Go.Proofs.YtfdfejihakekeaaDoor
