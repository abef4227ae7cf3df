/- Joined texts, part 15: WW WQ WK XL1 VD. -/
import Derived.Test.YtpfjeoldgcepnaaGreatDoorZ09
import Derived.Deep.RegionHeld3
import Derived.Test.YtpfjeoldgcepnaaGreatDoorZ13
import Derived.Test.YtpfjeoldgcepnaaGreatDoorZ14
import Derived.Test.YtpfjeoldgcepnaaGreatDoorZ12

/- The use of a node by the reference. -/
namespace Go.Proofs.YtpfjeoldgcepnaaGreatDoor
set_option linter.unusedSimpArgs false
open Go.RowKit
set_option linter.unusedVariables false

set_option maxHeartbeats 3200000 in
set_option maxRecDepth 100000 in
theorem refUse_walk (l : List PodD) (node : Int) (A : Option Addr) (n c : Nat) (v1 v2 : Value) (z : V4) (ok : Bool) (w : World) (hn : n = l.length) (hl : n ≤ 400) (hr : Recs 8 cellsP w w.heap.size A l)
    (hsum : ∀ (A' : Option Addr) (n' c' : Nat) (w' : World), n' = (reqsAt node l).length → n' ≤ 500 → Recs 4 cellsV w' w'.heap.size A' (reqsAt node l) →
      Calls Tryz.prog 91 #[.slice A' n' c'] w' fun e w'' => e = .returned (.tuple #[aggV z, .bool ok]) ∧ Below w'.heap.size w' w'') :
    Calls Tryz.prog 50 #[.agg #[.slice A n c, v1, v2], .int .i64 node] w fun e w' => e = .returned (.tuple #[if ok then aggV z else zeroV, .bool ok]) ∧ Below w.heap.size w w' := by
  have HR := Lib.hid hr
  have HN := Lib.hid hn
  have HS := Lib.hid hsum
  have b00 := below_two w (.cells #[.slice A n c, v1, v2] 42) (.cells #[.int .u64 0, .int .u64 0, .int .u64 0, .int .u64 0] 59)
  have HT := Lib.hid (two_head w (.slice A n c) v1 v2 42 59)
  clear hr hn hsum
  go_enter Tryz.func50, Tryz.ntmps50
  go_wp2
  go_loopw [6, 7] (UseRel l node ((w.alloc (.cells #[.slice A n c, v1, v2] 42)).alloc (.cells #[.int .u64 0, .int .u64 0, .int .u64 0, .int .u64 0] 59)) (w.heap.size + 2)) (fun _ i _ => n - (intOf i).toNat)
  case atStart => exact ⟨0, 0, by omega, rfl, rfl, World.ownsRow_nil _ _ _ _, Below.refl _ _⟩
  case round =>
    obtain ⟨k, m, hk, rfl, hm, hown, hbr⟩ := hrel
    have HMM := Lib.hid hm
    have HOW := Lib.hid hown
    have hz := hbr.size
    have hz2 : w.heap.size + 2 ≤ wr.heap.size := by simpa using hz
    have kwr := b00.trans (hbr.mono (by omega))
    have c0 : wr.cell? ⟨w.heap.size, 0, none⟩ = some (.slice A n c) := (hbr.cell (p := ⟨w.heap.size, 0, none⟩) (by simp)).trans (by simp)
    have hwl : w.heap.size < wr.heap.size := by omega
    clear hm hown hz
    by_cases hlt : k < n
    · have hkl : k < l.length := by have := HN.out; omega
      obtain ⟨b, o, rfl, hb, he⟩ := HR.out.at hkl
      generalize hx : l[k] = y at *
      have HXX := Lib.hid (reqs_take (node := node) hkl hx)
      clear hx
      have e3 : wr.cell? ⟨b, o + k * 8 + 3, none⟩ = some (.int .u64 y.req.a) := (kwr.cell (p := ⟨b, o + k * 8 + 3, none⟩) hb).trans (he 3 _ rfl)
      have e4 : wr.cell? ⟨b, o + k * 8 + 4, none⟩ = some (.int .u64 y.req.b) := (kwr.cell (p := ⟨b, o + k * 8 + 4, none⟩) hb).trans (he 4 _ rfl)
      have e5 : wr.cell? ⟨b, o + k * 8 + 5, none⟩ = some (.int .u64 y.req.c) := (kwr.cell (p := ⟨b, o + k * 8 + 5, none⟩) hb).trans (he 5 _ rfl)
      have e6 : wr.cell? ⟨b, o + k * 8 + 6, none⟩ = some (.int .u64 y.req.d) := (kwr.cell (p := ⟨b, o + k * 8 + 6, none⟩) hb).trans (he 6 _ rfl)
      have e7 : wr.cell? ⟨b, o + k * 8 + 7, none⟩ = some (.int .i64 y.node) := (kwr.cell (p := ⟨b, o + k * 8 + 7, none⟩) hb).trans (he 7 _ rfl)
      have hbw : b < wr.heap.size := by omega
      have HL : Hid (m ≤ 2000000) := by
        have h1 := reqs_len node (l.take k)
        have h2 := HMM.out
        have h3 := List.length_take_le k l
        have h4 := HN.out
        show _ ≤ _
        rw [List.length_take] at h1
        omega
      clear he
      by_cases hy : y.node = node
      · have hd : (y.node == node) = true := by simp [hy]
        have HE := Lib.hid (HXX.out.1 hy)
        clear hy
        go_wp2_with (at_builtin; refine wpList_pushR 151 59 (.agg #[.int .u64 0, .int .u64 0, .int .u64 0, .int .u64 0]) 4 32 underVecs infoVec rfl (by decide) (by decide) rfl (.tmp 25) (.tmp 32) rfl (w.heap.size + 2) _ m _ (cellsV y.req) rfl (oneVec _) HOW.out hz2 HL.out rfl rfl ?_; intro v' w2 hown2 hb2 hB2)
        have HO2 := Lib.hid (own_reqs HMM.out hown2 HE.out)
        clear hown2
        go_wp2
        go_roundw
        case rel => exact ⟨k + 1, m + 1, by omega, by go_num, HO2.out.2, (by have h := HO2.out.1; exact h), hbr.trans hb2⟩
        case measure => simp [intOf]; omega
      · have hd : (y.node == node) = false := by simp [hy]
        have HE := Lib.hid (HXX.out.2 hy)
        clear hy
        go_wp2
        go_roundw
        case rel => exact ⟨k + 1, m, by omega, by go_num, by rw [HE.out]; exact HMM.out, by rw [HE.out]; exact HOW.out, hbr⟩
        case measure => simp [intOf]; omega
    · have htk : l.take k = l := List.take_of_length_le (by have := HN.out; omega)
      have hm' := HMM.out
      have how := HOW.out
      rw [htk] at hm' how
      obtain ⟨A', c', rfl, hc1, hc2, hc3, hrec⟩ := recs_of_own lenVec hm' how
      have HRE := Lib.hid hrec
      have HMM' := Lib.hid hm'
      have HLL : Hid (m ≤ 500) := by
        have h1 := reqs_len node l
        have h4 := HN.out
        have h5 := HMM'.out
        show _ ≤ _
        omega
      have hr4 := HT.out.below hbr (by simp)
      obtain ⟨g0, g1, g2, g3, f0, f1, f2, f3⟩ := hr4
      have hwl : w.heap.size + 1 < wr.heap.size := by omega
      clear how hm' htk hrec
      go_wp2_with fail
      refine (HS.out A' m c' _ HMM'.out HLL.out HRE.out).mono ?_
      rintro e w1 ⟨rfl, hb1⟩
      have g0 : w1.cell? ⟨w.heap.size + 1, 0, none⟩ = some (.int .u64 0) := (hb1.cell (p := ⟨w.heap.size + 1, 0, none⟩) hwl).trans g0
      have g1 : w1.cell? ⟨w.heap.size + 1, 1, none⟩ = some (.int .u64 0) := (hb1.cell (p := ⟨w.heap.size + 1, 1, none⟩) hwl).trans g1
      have g2 : w1.cell? ⟨w.heap.size + 1, 2, none⟩ = some (.int .u64 0) := (hb1.cell (p := ⟨w.heap.size + 1, 2, none⟩) hwl).trans g2
      have g3 : w1.cell? ⟨w.heap.size + 1, 3, none⟩ = some (.int .u64 0) := (hb1.cell (p := ⟨w.heap.size + 1, 3, none⟩) hwl).trans g3
      have f0 : w1.frozen? ⟨w.heap.size + 1, 0, none⟩ = false := (hb1.frozen (p := ⟨w.heap.size + 1, 0, none⟩) hwl).trans f0
      have f1 : w1.frozen? ⟨w.heap.size + 1, 1, none⟩ = false := (hb1.frozen (p := ⟨w.heap.size + 1, 1, none⟩) hwl).trans f1
      have f2 : w1.frozen? ⟨w.heap.size + 1, 2, none⟩ = false := (hb1.frozen (p := ⟨w.heap.size + 1, 2, none⟩) hwl).trans f2
      have f3 : w1.frozen? ⟨w.heap.size + 1, 3, none⟩ = false := (hb1.frozen (p := ⟨w.heap.size + 1, 3, none⟩) hwl).trans f3
      have hwl1 : w.heap.size + 1 < w1.heap.size := Nat.lt_of_lt_of_le hwl hb1.size
      have kw1 : Below w.heap.size w w1 := kwr.trans (hb1.mono (by omega))
      cases ok with
      | true =>
        go_wp2
        refine bodyPost_ret (v := .tuple #[aggV z, .bool true]) ?_ rfl ?_
        · simp [results, Tryz.results50, go_sem, *]
        · refine ⟨rfl, ?_⟩
          repeat (first | with_reducible exact kw1 | with_reducible refine Below.setCell ?_ ?_ _ | with_reducible refine Below.alloc ?_ ?_ _)
          all_goals first | (show w.heap.size ≤ w.heap.size + 1; omega) | (simp; omega) | omega
      | false =>
        go_wp2
        refine bodyPost_ret (v := .tuple #[zeroV, .bool false]) ?_ rfl ?_
        · simp [results, Tryz.results50, go_sem, *]
        · refine ⟨rfl, ?_⟩
          repeat (first | with_reducible exact kw1 | with_reducible refine Below.setCell ?_ ?_ _ | with_reducible refine Below.alloc ?_ ?_ _)
          all_goals first | (show w.heap.size ≤ w.heap.size + 1; omega) | (simp; omega) | omega
theorem refUse_some {l : List PodD} {node : Int} {u : V4} (ho : ∀ p ∈ l, p.Ok) (h : useD l node = some u) (A : Option Addr) (n c : Nat) (v1 v2 : Value) (w : World) (hn : n = l.length) (hl : n ≤ 400) (hr : Recs 8 cellsP w w.heap.size A l) :
    Calls Tryz.prog 50 #[.agg #[.slice A n c, v1, v2], .int .i64 node] w fun e w' => e = .returned (.tuple #[aggV u, .bool true]) ∧ Below w.heap.size w w' :=
  refUse_walk l node A n c v1 v2 u true w hn hl hr fun A' n' c' w' h1 h2 h3 => rSum_some (reqs_ok ho) h A' n' c' w' h1 h2 h3
theorem refUse_none {l : List PodD} {node : Int} (ho : ∀ p ∈ l, p.Ok) (h : useD l node = none) (A : Option Addr) (n c : Nat) (v1 v2 : Value) (w : World) (hn : n = l.length) (hl : n ≤ 400) (hr : Recs 8 cellsP w w.heap.size A l) :
    Calls Tryz.prog 50 #[.agg #[.slice A n c, v1, v2], .int .i64 node] w fun e w' => e = .returned (.tuple #[zeroV, .bool false]) ∧ Below w.heap.size w w' :=
  refUse_walk l node A n c v1 v2 .zer false w hn hl hr fun A' n' c' w' h1 h2 h3 => rSum_none (reqs_ok ho) h A' n' c' w' h1 h2 h3
end Go.Proofs.YtpfjeoldgcepnaaGreatDoor

/- A node's rest by the reference. -/
namespace Go.Proofs.YtpfjeoldgcepnaaGreatDoor
set_option linter.unusedSimpArgs false
open Go.RowKit
set_option linter.unusedVariables false

theorem ref_ret {p : V4 × Int} {a : Value} {b : Value} (q : V4 × Int) (h : p = q) (ha : a = aggV q.1) (hb : b = .int .i64 q.2) : Ending.returned (.tuple #[a, b]) = .returned (.tuple #[aggV p.1, .int .i64 p.2]) := by subst h ha hb; rfl

set_option maxHeartbeats 6400000 in
set_option maxRecDepth 100000 in
theorem refRest_any (ns : List NodeD) (l : List PodD) (id : Int) (hno : ∀ x ∈ ns, x.Ok) (hlo : ∀ p ∈ l, p.Ok) (A1 A4 : Option Addr) (n1 c1 n4 c4 : Nat) (s2 s3 v1 v2 : Value) (w : World)
    (hn1 : n1 = ns.length) (hl1 : n1 ≤ 400) (hr1 : Recs 10 cellsN w w.heap.size A1 ns) (hn4 : n4 = l.length) (hl4 : n4 ≤ 400) (hr4 : Recs 8 cellsP w w.heap.size A4 l) :
    Calls Tryz.prog 20 #[.agg #[.slice A1 n1 c1, s2, s3], .agg #[.slice A4 n4 c4, v1, v2], .int .i64 id] w fun e w' => e = .returned (.tuple #[aggV (restD ns l id).1, .int .i64 (restD ns l id).2]) ∧ Below w.heap.size w w' := by
  have HR1 := Lib.hid hr1
  have HR4 := Lib.hid hr4
  have HN1 := Lib.hid hn1
  have HN4 := Lib.hid hn4
  have HNO := Lib.hid hno
  have HLO := Lib.hid hlo
  have T0 := T3.new w [.slice A1 n1 c1, s2, s3] [.slice A4 n4 c4, v1, v2] (cellsV .zer) 26 42 59
  have HF := Lib.hid (fun W (h1 : Recs 10 cellsN W W.heap.size A1 ns) => rNode_any ns id A1 n1 c1 W.heap.size s2 s3 W hn1 (by omega) (Nat.le_refl _) h1)
  clear hr1 hr4 hn1 hn4 hno hlo
  go_enter Tryz.func20, Tryz.ntmps20
  go_wp2_with fail
  refine (HF.out _ ((HR1.out.below T0.below (Nat.le_refl _)).more T0.below.size)).mono ?_
  rintro e w1 ⟨rfl, hb1⟩
  have T1 := T0.keep hb1
  clear hb1 T0 HF
  obtain ⟨a0, a1, a2, a3⟩ := T1.two.cells3
  have hwl1 : w.heap.size + 1 < w1.heap.size := T1.two.lt
  by_cases hp : place NodeD.id id ns 0 < 0
  · have HE := Lib.hid (rest_none (l := l) (nodeAt_no (k := 0) (Int.le_refl _) hp))
    have kw2 := T1.below
    have HD : decide (place NodeD.id id ns 0 < 0) = true := decide_eq_true hp
    obtain ⟨⟨g0, g1, g2, g3⟩, g4⟩ := T1.three.zero4
    obtain ⟨f0, f1, f2, f3⟩ := T1.three.free4
    clear T1
    generalize place NodeD.id id ns 0 = q at *
    go_wp2
    refine bodyPost_ret (v := .tuple #[zeroV, .int .i64 4]) ?_ rfl ?_
    · simp [results, Tryz.results20, go_sem, *]
    · refine ⟨ref_ret _ HE.out rfl rfl, ?_⟩
      repeat (first | with_reducible exact kw2 | with_reducible refine Below.setCell ?_ ?_ _ | with_reducible refine Below.alloc ?_ ?_ _)
      all_goals first | (show w.heap.size ≤ w.heap.size + 2; omega) | (simp; omega) | omega
  · obtain ⟨i, hi, hpi⟩ : ∃ i : Nat, i < ns.length ∧ place NodeD.id id ns 0 = (i : Int) := by
      have := place_ge (f := NodeD.id) (id := id) (l := ns) (k := 0) (Int.le_refl _)
      exact ⟨(place NodeD.id id ns 0).toNat, by omega, by omega⟩
    rw [hpi]
    have HP := Lib.hid (nodeAt_yes (k := 0) hi (Int.le_refl _) (by rw [hpi]; omega))
    have HX := Lib.hid (HNO.out _ (List.getElem_mem hi))
    obtain ⟨b, o, hA, hb, he⟩ := HR1.out.at hi
    subst hA
    have hin : (i : Int) < (n1 : Int) := by have := HN1.out; omega
    have hi0 : (0 : Int) ≤ (i : Int) := by omega
    have hil : i < n1 := by omega
    generalize hx : ns[i] = x at *
    clear hp hx hpi
    have HEE : Hid (∀ (W : World), Below w.heap.size w W → W.cell? ⟨b, o + i * 10 + 2, none⟩ = some (.int .u64 x.cap.a) ∧ W.cell? ⟨b, o + i * 10 + 3, none⟩ = some (.int .u64 x.cap.b) ∧ W.cell? ⟨b, o + i * 10 + 4, none⟩ = some (.int .u64 x.cap.c) ∧ W.cell? ⟨b, o + i * 10 + 5, none⟩ = some (.int .u64 x.cap.d) ∧
        W.cell? ⟨b, o + i * 10 + 6, none⟩ = some (.int .u64 x.held.a) ∧ W.cell? ⟨b, o + i * 10 + 7, none⟩ = some (.int .u64 x.held.b) ∧ W.cell? ⟨b, o + i * 10 + 8, none⟩ = some (.int .u64 x.held.c) ∧ W.cell? ⟨b, o + i * 10 + 9, none⟩ = some (.int .u64 x.held.d) ∧ b < W.heap.size) := fun W hW =>
      ⟨(hW.cell (p := ⟨b, _, none⟩) hb).trans (he 2 _ rfl), (hW.cell (p := ⟨b, _, none⟩) hb).trans (he 3 _ rfl), (hW.cell (p := ⟨b, _, none⟩) hb).trans (he 4 _ rfl), (hW.cell (p := ⟨b, _, none⟩) hb).trans (he 5 _ rfl), (hW.cell (p := ⟨b, _, none⟩) hb).trans (he 6 _ rfl), (hW.cell (p := ⟨b, _, none⟩) hb).trans (he 7 _ rfl), (hW.cell (p := ⟨b, _, none⟩) hb).trans (he 8 _ rfl), (hW.cell (p := ⟨b, _, none⟩) hb).trans (he 9 _ rfl), Nat.lt_of_lt_of_le hb hW.size⟩
    have HRR := Lib.hid ((HR4.out.below T1.below (Nat.le_refl _)).more T1.below.size)
    clear he hb
    rcases hu : useD l id with _ | u
    · have HC := Lib.hid (fun W (h1 : Recs 8 cellsP W W.heap.size A4 l) => refUse_none HLO.out hu A4 n4 c4 v1 v2 W HN4.out hl4 h1)
      have HE := Lib.hid (rest_over HP.out hu)
      have HT := Lib.hid T1
      clear hu T1
      go_wp2_with fail
      refine (HC.out _ HRR.out).mono ?_
      rintro e w2 ⟨rfl, hb2⟩
      have T2 := HT.out.keep hb2
      clear hb2 HT HRR a0 a1 a2 a3 hwl1
      obtain ⟨⟨g0, g1, g2, g3⟩, g4⟩ := T2.three.zero4
      obtain ⟨f0, f1, f2, f3⟩ := T2.three.free4
      have kw2 := T2.below
      clear T2
      go_wp2
      refine bodyPost_ret (v := .tuple #[zeroV, .int .i64 8]) ?_ rfl ?_
      · simp [results, Tryz.results20, go_sem, *]
      · refine ⟨ref_ret _ HE.out rfl rfl, ?_⟩
        repeat (first | with_reducible exact kw2 | with_reducible refine Below.setCell ?_ ?_ _ | with_reducible refine Below.alloc ?_ ?_ _)
        all_goals first | (show w.heap.size ≤ w.heap.size + 2; omega) | (simp; omega) | omega
    · have HC := Lib.hid (fun W (h1 : Recs 8 cellsP W W.heap.size A4 l) => refUse_some HLO.out hu A4 n4 c4 v1 v2 W HN4.out hl4 h1)
      have HUO := Lib.hid (use_ok HLO.out hu)
      have HT := Lib.hid T1
      clear T1
      go_wp2_with fail
      refine (HC.out _ HRR.out).mono ?_
      rintro e w2 ⟨rfl, hb2⟩
      have T2 := (HT.out.keep hb2).alloc (.cells #[.int .u64 u.a, .int .u64 u.b, .int .u64 u.c, .int .u64 u.d] 59)
      have U2 : Bf (w2.alloc (.cells #[.int .u64 u.a, .int .u64 u.b, .int .u64 u.c, .int .u64 u.d] 59)) w2.heap.size (cellsV u) := Bf.new w2 (cellsV u) 59 rfl
      have hz2 : w2.heap.size < (w2.alloc (.cells #[.int .u64 u.a, .int .u64 u.b, .int .u64 u.c, .int .u64 u.d] 59)).heap.size := by simp
      have hz3 : w.heap.size + 2 < w2.heap.size := (HT.out.keep hb2).three.lt
      obtain ⟨z, ok, hsc, hok⟩ : ∃ (z : V4) (ok : Bool), (∀ W, Calls Tryz.prog 51 #[aggV x.cap, aggV x.held] W fun e w' => e = .returned (.tuple #[aggV z, .bool ok]) ∧ Below W.heap.size W w') ∧ ((ok = true ∧ subV x.cap x.held = some z) ∨ (ok = false ∧ subV x.cap x.held = none)) := by
        rcases hf : subV x.cap x.held with _ | f
        · exact ⟨.zer, false, fun W => rSub_none hf W, .inr ⟨rfl, rfl⟩⟩
        · exact ⟨f, true, fun W => rSub_some HX.out.2.2.1 HX.out.2.2.2 hf W, .inl ⟨rfl, rfl⟩⟩
      have HSC := Lib.hid hsc
      have HOK := Lib.hid hok
      have HU := Lib.hid hu
      clear hb2 HT HRR a0 a1 a2 a3 hwl1 hsc hok hu
      go_upto_region 7 with fail
      have EW := HEE.out _ T2.below
      obtain ⟨a0, a1, a2, a3⟩ := T2.one.cells3
      generalize hW : (w2.alloc (.cells #[.int .u64 u.a, .int .u64 u.b, .int .u64 u.c, .int .u64 u.d] 59)) = W at *
      have HT2 := Lib.hid T2
      have HU2 := Lib.hid U2
      have HZ2 := Lib.hid hz2
      have HZ3 := Lib.hid hz3
      clear hW T2 U2 HEE hz2 hz3
      obtain ⟨e2, e3, e4, e5, e6, e7, e8, e9, ebl⟩ := EW
      go_region_held3 (fun w' => (∀ b o, b < W.heap.size → w'.cell? ⟨b, o, none⟩ = W.cell? ⟨b, o, none⟩) ∧ Below W.heap.size W w')
        (first | (with_reducible assumption) | (show Keeps W _; with_reducible (repeat (first | exact Keeps.refl _ | refine Keeps.drew ?_ | refine Keeps.set ?_ (by simp) _ | refine Keeps.alloc ?_ _ | refine Keeps.step ?_ (by assumption)))))
        (first
          | (go_at_call 51; refine (HSC.out _).mono ?_; rintro e w' ⟨rfl, hb⟩; obtain ⟨hcx, hfx⟩ := old_cells hb))
      rename_i hK
      have BV : Bf (w'.alloc (.cells #[.int .u64 z.a, .int .u64 z.b, .int .u64 z.c, .int .u64 z.d] 59)) w'.heap.size (cellsV z) := Bf.new w' (cellsV z) _ rfl
      have KV := hK.2
      generalize hV : w'.alloc (.cells #[.int .u64 z.a, .int .u64 z.b, .int .u64 z.c, .int .u64 z.d] 59) = V at *
      clear hK hV hcx hfx hb
      generalize w'.heap.size = h at *
      rotate_left
      rename_i hK
      have BV := Bf.later (z := z) (Bf.drew (Bf.new W (cellsV .zer) 59 rfl)) hb
      have KV := hK.2
      generalize hV : (((w'.setCell ⟨W.heap.size, 0, none⟩ (.int .u64 z.a)).setCell ⟨W.heap.size, 1, none⟩ (.int .u64 z.b)).setCell ⟨W.heap.size, 2, none⟩ (.int .u64 z.c)).setCell ⟨W.heap.size, 3, none⟩ (.int .u64 z.d) = V at *
      clear hK hV hcx hfx hb
      have KV' := KV
      generalize hh : W.heap.size = h at BV ⊢
      clear hh KV'
      rotate_left
      all_goals
        have T7 := HT2.out.keep KV
        have U7 := HU2.out.below KV HU2.out.lt
        have HT7 := Lib.hid T7
        clear KV
        obtain ⟨v0, v1', v2', v3, v4⟩ := BV.cells4
        obtain ⟨⟨g0, g1, g2, g3⟩, g4⟩ := T7.three.zero4
        obtain ⟨f0, f1, f2, f3⟩ := T7.three.free4
        obtain ⟨u0, u1, u2, u3, u4⟩ := U7.cells4
        have kw2 := T7.below
        clear a0 a1 a2 a3 e2 e3 e4 e5 e6 e7 e8 e9 T7 U7 BV
        rcases HOK.out with ⟨hk, hf⟩ | ⟨hk, hf⟩
        · subst hk
          have HZO := Lib.hid (sub_ok4 HX.out.2.2.1 HX.out.2.2.2 hf)
          rcases hg : subV z u with _ | r
          · have HE := Lib.hid (rest_room HP.out HU.out ((left_some hf).trans hg))
            have HC2 := Lib.hid (fun W => rSub_none hg W)
            clear hf hg kw2
            go_wp2_with fail
            refine (HC2.out _).mono ?_
            rintro e w3 ⟨rfl, hb3⟩
            have T8 := HT7.out.keep hb3
            clear hb3 HT7 g0 g1 g2 g3 g4 f0 f1 f2 f3 v0 v1' v2' v3 v4 u0 u1 u2 u3 u4
            obtain ⟨⟨g0, g1, g2, g3⟩, g4⟩ := T8.three.zero4
            obtain ⟨f0, f1, f2, f3⟩ := T8.three.free4
            have kw2 := T8.below
            clear T8
            go_wp2
            refine bodyPost_ret (v := .tuple #[zeroV, .int .i64 9]) ?_ rfl ?_
            · simp [results, Tryz.results20, go_sem, *]
            · refine ⟨ref_ret _ HE.out rfl rfl, ?_⟩
              repeat (first | with_reducible exact kw2 | with_reducible refine Below.setCell ?_ ?_ _ | with_reducible refine Below.alloc ?_ ?_ _)
              all_goals first | (show w.heap.size ≤ w.heap.size + 2; omega) | (simp; omega) | omega
          · have HE := Lib.hid (rest_some HP.out HU.out ((left_some hf).trans hg))
            have HC2 := Lib.hid (fun W => rSub_some HZO.out HUO.out hg W)
            clear hf hg kw2
            go_wp2_with fail
            refine (HC2.out _).mono ?_
            rintro e w3 ⟨rfl, hb3⟩
            have T8 := HT7.out.keep hb3
            clear hb3 HT7 g0 g1 g2 g3 g4 f0 f1 f2 f3 v0 v1' v2' v3 v4 u0 u1 u2 u3 u4
            obtain ⟨⟨g0, g1, g2, g3⟩, g4⟩ := T8.three.zero4
            obtain ⟨f0, f1, f2, f3⟩ := T8.three.free4
            have kw2 := T8.below
            clear T8
            go_wp2
            refine bodyPost_ret (v := .tuple #[aggV r, .int .i64 0]) ?_ rfl ?_
            · simp [results, Tryz.results20, go_sem, *]
            · refine ⟨ref_ret _ HE.out rfl rfl, ?_⟩
              repeat (first | with_reducible exact kw2 | with_reducible refine Below.setCell ?_ ?_ _ | with_reducible refine Below.alloc ?_ ?_ _)
              all_goals first | (show w.heap.size ≤ w.heap.size + 2; omega) | (simp; omega) | omega
        · subst hk
          have HE := Lib.hid (rest_room HP.out HU.out (left_none hf))
          clear hf
          go_wp2
          refine bodyPost_ret (v := .tuple #[zeroV, .int .i64 9]) ?_ rfl ?_
          · simp [results, Tryz.results20, go_sem, *]
          · refine ⟨ref_ret _ HE.out rfl rfl, ?_⟩
            repeat (first | with_reducible exact kw2 | with_reducible refine Below.setCell ?_ ?_ _ | with_reducible refine Below.alloc ?_ ?_ _)
            all_goals first | (show w.heap.size ≤ w.heap.size + 2; omega) | (simp; omega) | omega
end Go.Proofs.YtpfjeoldgcepnaaGreatDoor

/- The first node at fault by the reference. -/
namespace Go.Proofs.YtpfjeoldgcepnaaGreatDoor
set_option linter.unusedSimpArgs false
open Go.RowKit
set_option linter.unusedVariables false

set_option maxHeartbeats 6400000 in
set_option maxRecDepth 100000 in
theorem refCheck_any (ns : List NodeD) (l : List PodD) (hno : ∀ x ∈ ns, x.Ok) (hlo : ∀ p ∈ l, p.Ok) (A1 A4 : Option Addr) (n1 c1 n4 c4 : Nat) (s2 s3 v1 v2 : Value) (w : World)
    (hn1 : n1 = ns.length) (hl1 : n1 ≤ 400) (hr1 : Recs 10 cellsN w w.heap.size A1 ns) (hn4 : n4 = l.length) (hl4 : n4 ≤ 400) (hr4 : Recs 8 cellsP w w.heap.size A4 l) :
    Calls Tryz.prog 36 #[.agg #[.slice A1 n1 c1, s2, s3], .agg #[.slice A4 n4 c4, v1, v2]] w fun e w' => e = .returned (.tuple #[.int .i64 (roomOf ns l).1, .int .i64 (roomOf ns l).2]) ∧ Below w.heap.size w w' := by
  have HR1 := Lib.hid hr1
  have HN1 := Lib.hid hn1
  have HC := Lib.hid (fun (W : World) (hW : Below w.heap.size w W) (id : Int) => refRest_any ns l id hno hlo A1 A4 n1 c1 n4 c4 s2 s3 v1 v2 W hn1 hl1 ((hr1.below hW (Nat.le_refl _)).more hW.size) hn4 hl4 ((hr4.below hW (Nat.le_refl _)).more hW.size))
  have T0 := T2.new w [.slice A1 n1 c1, s2, s3] [.slice A4 n4 c4, v1, v2] 26 42
  have HT0 := Lib.hid T0
  clear hr1 hr4 hn1 hn4 hno hlo T0
  go_enter Tryz.func36, Tryz.ntmps36
  go_wp2
  go_loopw [6] (RoomRel ns l [.slice A1 n1 c1, s2, s3] [.slice A4 n4 c4, v1, v2] w) (fun i _ => n1 - (intOf i).toNat)
  case atStart => exact ⟨0, by omega, rfl, rfl, HT0.out⟩
  case round =>
    obtain ⟨k, hk, rfl, hp, T1⟩ := hrel
    have HP := Lib.hid hp
    have HT1 := Lib.hid T1
    clear hp
    obtain ⟨a0, a1, a2, a3⟩ := T1.one.cells3
    obtain ⟨b0, b1, b2, b3⟩ := T1.two.cells3
    by_cases hlt : k < n1
    · have hkl : k < ns.length := by have := HN1.out; omega
      obtain ⟨b, o, rfl, hb, he⟩ := HR1.out.at hkl
      generalize hx : ns[k] = y at *
      have HX := Lib.hid (roomD_at hkl hx HP.out)
      clear hx
      have kwr := T1.below
      have e0 : wr.cell? ⟨b, o + k * 10, none⟩ = some (.int .i64 y.id) := (kwr.cell (p := ⟨b, o + k * 10, none⟩) hb).trans (he 0 _ rfl)
      have hbw : b < wr.heap.size := Nat.lt_of_lt_of_le hb kwr.size
      have HCR := Lib.hid (fun (W : World) (hW : Keeps wr W) => HC.out W (kwr.trans (hW.2.mono kwr.size)) y.id)
      clear he T1 kwr
      generalize hz : restD ns l y.id = z at *
      obtain ⟨r, code⟩ := z
      clear hz
      go_wp2
      go_region_held3 (fun w' => (∀ b o, b < wr.heap.size → w'.cell? ⟨b, o, none⟩ = wr.cell? ⟨b, o, none⟩) ∧ Below wr.heap.size wr w')
        (first | (with_reducible assumption) | (show Keeps wr _; with_reducible (repeat (first | exact Keeps.refl _ | refine Keeps.drew ?_ | refine Keeps.set ?_ (by simp) _ | refine Keeps.alloc ?_ _ | refine Keeps.step ?_ (by assumption)))))
        (first
          | (go_at_call 20; refine (HCR.out _ (by assumption)).mono ?_; rintro e w' ⟨rfl, hb⟩; obtain ⟨hcx, hfx⟩ := old_cells hb))
      all_goals
        rename_i hK
        have HTT := Lib.hid (HT1.out.keep hK.2)
        clear hK hcx hfx hb e0 a0 a1 a2 a3 b0 b1 b2 b3
        by_cases hc : code = 0
        · subst hc
          have HE := Lib.hid (HX.out.2 rfl)
          go_wp2
          go_roundw
          case rel => exact ⟨k + 1, by omega, by go_num, HE.out, HTT.out⟩
          case measure => simp [intOf]; omega
        · have HE := Lib.hid (HX.out.1 hc)
          have hcb : (code != 0) = true := by simp [hc]
          clear hc
          go_wp2
          go_ret2
          exact ⟨ret_pair HE.out rfl rfl, HTT.out.below⟩
    · have HE := Lib.hid (roomD_end (by have := HN1.out; omega) HP.out)
      have kwr := T1.below
      clear T1
      go_wp2
      go_ret2
      exact ⟨ret_pair HE.out rfl rfl, kwr⟩
end Go.Proofs.YtpfjeoldgcepnaaGreatDoor

/- The reference's Why of layer 11. -/
namespace Go.Proofs.YtpfjeoldgcepnaaGreatDoor
set_option linter.unusedSimpArgs false
open Go.RowKit
set_option linter.unusedVariables false

theorem why5 (a b c d e : Int × Int) : whyP [a, b, c, d, e] = if okP a = false then a else if okP b = false then b else if okP c = false then c else if okP d = false then d else if okP e = false then e else (0, -1) := by
  unfold whyP badK
  simp only [List.take_succ_cons, List.take_zero, List.filter_cons, List.filter_nil]
  cases okP a <;> cases okP b <;> cases okP c <;> cases okP d <;> cases okP e <;> simp
theorem spread_pair {ns : List NodeD} {l : List PodD} : ∀ (r : List LoadD) (k : Nat), spreadFrom ns l r k = (0, -1) ∨ ∃ j : Nat, spreadFrom ns l r k = (11, (j : Int))
  | [], _ => .inl rfl
  | x :: r, k => by
    unfold spreadFrom
    split
    · exact .inr ⟨k, rfl⟩
    · exact spread_pair r (k + 1)
/-- The first that is amiss: its number. -/
def whyC (r a s b : Int) (u : Bool) : Int := if r ≠ 0 then r else if 0 ≤ a then 10 else if 0 ≤ s then 11 else if b ≠ 0 then b else if u = true then 15 else 0
theorem codeS_is (ns : List NodeD) (ls : List LoadD) (x : SpecD) (t : StateD) : codeS ns ls x t = whyC (roomOf ns t.pods).1 (apartOf ls t.pods).2 (spreadOf ns ls t.pods).2 (budgetOf ls t.pods).1 (usedD x.preempts x.shifts t.preempts t.shifts) := by
  have h1 := told8_ok (told8_room (l := t.pods) ns 0 (fun _ h => h))
  have h4 := told8_ok (told8_budget (l := t.pods) ls 0)
  change okP (roomOf ns t.pods) = ((roomOf ns t.pods).1 == 0) at h1
  change okP (budgetOf ls t.pods) = ((budgetOf ls t.pods).1 == 0) at h4
  have h2 : apartOf ls t.pods = (0, -1) ∨ ∃ j : Nat, apartOf ls t.pods = (10, (j : Int)) := by
    rcases apartFrom_pair (ls := ls) (l := t.pods) t.pods 0 with ⟨_, e⟩ | e
    · exact .inl e
    · exact .inr e
  have h3 : spreadOf ns ls t.pods = (0, -1) ∨ ∃ j : Nat, spreadOf ns ls t.pods = (11, (j : Int)) := spread_pair ls 0
  unfold codeS fiveP whyC
  rw [why5, h1, h4]
  have k0 : okP (0, -1) = true := rfl
  have k1 : ∀ j : Nat, okP (10, (j : Int)) = false := fun _ => rfl
  have k2 : ∀ j : Nat, okP (11, (j : Int)) = false := fun _ => rfl
  by_cases c1 : (roomOf ns t.pods).1 = 0
  · rcases h2 with e2 | ⟨j, e2⟩
    · rcases h3 with e3 | ⟨j, e3⟩
      · by_cases c4 : (budgetOf ls t.pods).1 = 0
        · rw [e2, e3]
          cases hu : usedD x.preempts x.shifts t.preempts t.shifts <;> simp [c1, c4, usedP, hu, okP]
        · rw [e2, e3]
          simp [c1, c4, k0]
      · rw [e2, e3]
        simp [c1, k0, k2]
    · rw [e2]
      simp [c1, k1]
  · simp [c1]

theorem ret_why {cs b z : Int} (h : cs = b) : Ending.returned (.tuple #[.int .i64 b, .int .i64 z]) = .returned (.tuple #[.int .i64 cs, .int .i64 z]) := by rw [h]
set_option maxHeartbeats 6400000 in
set_option maxRecDepth 100000 in
theorem rWhy11_any (ns : List NodeD) (ls : List LoadD) (x : SpecD) (t : StateD) (A1 A2 A3 A4 A5 : Option Addr) (n1 c1 n2 c2 n3 c3 n4 c4 n5 c5 : Nat) (w : World) (h : SafeArgs ns ls t.pods A1 A2 A4 n1 n2 n4 c4 w) (hl1 : n1 ≤ 40) :
    Calls Tryz.prog 11 #[.agg #[.slice A1 n1 c1, .slice A2 n2 c2, .slice A3 n3 c3], .agg #[.slice A5 n5 c5, .int .i64 x.preempts, .int .i64 x.shifts], .agg #[.slice A4 n4 c4, .int .i64 t.preempts, .int .i64 t.shifts]] w fun e w' => ∃ z : Int, e = .returned (.tuple #[.int .i64 (codeS ns ls x t), .int .i64 z]) ∧ Below w.heap.size w w' := by
  have T0 := T3.new w [.slice A1 n1 c1, .slice A2 n2 c2, .slice A3 n3 c3] [.slice A5 n5 c5, .int .i64 x.preempts, .int .i64 x.shifts] [.slice A4 n4 c4, .int .i64 t.preempts, .int .i64 t.shifts] 26 29 42
  have HR := Lib.hid (fun (V : World) (hV : Below w.heap.size w V) => have k := h.at hV; refCheck_any ns t.pods k.no k.lo A1 A4 n1 c1 n4 c4 (.slice A2 n2 c2) (.slice A3 n3 c3) (.int .i64 t.preempts) (.int .i64 t.shifts) V k.e1 (by omega) k.r1 k.e4 (by have := k.l4; omega) k.r4)
  have HA := Lib.hid (fun (V : World) (hV : Below w.heap.size w V) => have k := h.at hV; rApart07_any ls t.pods A2 A4 n2 c2 n4 c4 (.slice A1 n1 c1) (.slice A3 n3 c3) (.int .i64 t.preempts) (.int .i64 t.shifts) V k.e2 (by have := k.l2; omega) k.r2 k.e4 (by have := k.l4; omega) k.r4)
  have HS := Lib.hid (fun (V : World) (hV : Below w.heap.size w V) => have k := h.at hV; rSpread07_any ns ls t.pods A1 A2 A4 n1 c1 n2 c2 n4 c4 (.slice A3 n3 c3) (.int .i64 t.preempts) (.int .i64 t.shifts) V k.e1 hl1 k.r1 k.e2 (by have := k.l2; omega) k.r2 k.e4 (by have := k.l4; omega) k.r4)
  have HB := Lib.hid (fun (V : World) (hV : Below w.heap.size w V) => have k := h.at hV; rBudget07_any ls t.pods A1 A2 A4 n1 c1 n2 c2 n4 c4 (.slice A3 n3 c3) (.int .i64 t.preempts) (.int .i64 t.shifts) V k.e2 (by have := k.l2; omega) k.r2 k.e4 (by have := k.l4; omega) k.r4)
  have HU := Lib.hid (fun (V : World) => rUsed07_any A4 A5 n4 c4 n5 c5 x.preempts x.shifts t.preempts t.shifts V)
  have HE := Lib.hid (codeS_is ns ls x t)
  have HT0 := Lib.hid T0
  generalize codeS ns ls x t = cs at *
  generalize roomOf ns t.pods = r at *
  generalize (apartOf ls t.pods).2 = a at *
  generalize (spreadOf ns ls t.pods).2 = s at *
  generalize budgetOf ls t.pods = bu at *
  generalize usedD x.preempts x.shifts t.preempts t.shifts = us at *
  generalize x.preempts = x1 at *
  generalize x.shifts = x2 at *
  generalize t.preempts = t1 at *
  generalize t.shifts = t2 at *
  clear h T0 hl1
  go_enter Tryz.func11, Tryz.ntmps11
  go_wp2_with fail
  refine (HR.out _ HT0.out.below).mono ?_
  rintro e w1 ⟨rfl, hb1⟩
  have T1 := HT0.out.keep hb1
  have HT1 := Lib.hid T1
  have HK1 := Lib.hid T1.below
  obtain ⟨a0, a1, a2, a3⟩ := T1.one.cells3
  obtain ⟨d0, d1, d2, d3⟩ := T1.three.cells3
  clear HT0 HR hb1 T1
  by_cases q1 : r.1 = 0
  case neg =>
    have hd : (r.1 != 0) = true := by simp [q1]
    have HN := Lib.hid (show cs = r.1 by rw [HE.out, whyC, if_pos q1])
    clear q1
    go_wp2
    go_ret2
    exact ⟨_, ret_why HN.out, HK1.out⟩
  have hd : (r.1 != 0) = false := by simp [q1]
  have HAA := HA.out w1 HK1.out
  clear HA
  go_wp2_with fail
  refine HAA.mono ?_
  rintro e w2 ⟨rfl, hb2⟩
  have T2' := HT1.out.keep hb2
  have HT2 := Lib.hid T2'
  have HK2 := Lib.hid T2'.below
  clear HT1 HK1 HAA hb2 a0 a1 a2 a3 d0 d1 d2 d3
  obtain ⟨a0, a1, a2, a3⟩ := T2'.one.cells3
  obtain ⟨d0, d1, d2, d3⟩ := T2'.three.cells3
  clear T2'
  by_cases q2 : 0 ≤ a
  · have hd2 : decide (0 ≤ a) = true := decide_eq_true q2
    have HN := Lib.hid (show cs = 10 by rw [HE.out, whyC, if_neg (by simp [q1]), if_pos q2])
    clear q1 q2
    go_wp2
    go_ret2
    exact ⟨_, ret_why HN.out, HK2.out⟩
  have hd2 : decide (0 ≤ a) = false := decide_eq_false q2
  have HSS := HS.out w2 HK2.out
  clear HS
  go_wp2_with fail
  refine HSS.mono ?_
  rintro e w3 ⟨rfl, hb3⟩
  have T3' := HT2.out.keep hb3
  have HT3 := Lib.hid T3'
  have HK3 := Lib.hid T3'.below
  clear HT2 HK2 HSS hb3 a0 a1 a2 a3 d0 d1 d2 d3
  obtain ⟨a0, a1, a2, a3⟩ := T3'.one.cells3
  obtain ⟨d0, d1, d2, d3⟩ := T3'.three.cells3
  clear T3'
  by_cases q3 : 0 ≤ s
  · have hd3 : decide (0 ≤ s) = true := decide_eq_true q3
    have HN := Lib.hid (show cs = 11 by rw [HE.out, whyC, if_neg (by simp [q1]), if_neg (by omega), if_pos q3])
    clear q1 q2 q3
    go_wp2
    go_ret2
    exact ⟨_, ret_why HN.out, HK3.out⟩
  have hd3 : decide (0 ≤ s) = false := decide_eq_false q3
  have HBB := HB.out w3 HK3.out
  clear HB
  go_wp2_with fail
  refine HBB.mono ?_
  rintro e w4 ⟨rfl, hb4⟩
  have T4' := HT3.out.keep hb4
  have HT4 := Lib.hid T4'
  have HK4 := Lib.hid T4'.below
  clear HT3 HK3 HBB hb4 a0 a1 a2 a3 d0 d1 d2 d3
  obtain ⟨a0, a1, a2, a3⟩ := T4'.two.cells3
  obtain ⟨d0, d1, d2, d3⟩ := T4'.three.cells3
  clear T4'
  by_cases q4 : bu.1 = 0
  case neg =>
    have hd4 : (bu.1 != 0) = true := by simp [q4]
    have HN := Lib.hid (show cs = bu.1 by rw [HE.out, whyC, if_neg (by simp [q1]), if_neg (by omega), if_neg (by omega), if_pos q4])
    clear q1 q2 q3 q4
    go_wp2
    go_ret2
    exact ⟨_, ret_why HN.out, HK4.out⟩
  have hd4 : (bu.1 != 0) = false := by simp [q4]
  have HUU := HU.out w4
  clear HU
  go_wp2_with fail
  refine HUU.mono ?_
  rintro e w5 ⟨rfl, hb5⟩
  have HK5 := Lib.hid (HT4.out.keep hb5).below
  clear HT4 HK4 HUU hb5 a0 a1 a2 a3 d0 d1 d2 d3
  cases us with
  | true =>
    have HN := Lib.hid (show cs = 15 by rw [HE.out, whyC, if_neg (by simp [q1]), if_neg (by omega), if_neg (by omega), if_neg (by simp [q4]), if_pos rfl])
    clear q1 q2 q3 q4
    go_wp2
    go_ret2
    exact ⟨_, ret_why HN.out, HK5.out⟩
  | false =>
    have HN := Lib.hid (show cs = 0 by rw [HE.out, whyC, if_neg (by simp [q1]), if_neg (by omega), if_neg (by omega), if_neg (by simp [q4]), if_neg (by simp)])
    clear q1 q2 q3 q4
    go_wp2
    go_ret2
    exact ⟨_, ret_why HN.out, HK5.out⟩
end Go.Proofs.YtpfjeoldgcepnaaGreatDoor

namespace Go.Proofs.YtpfjeoldgcepnaaGreatDoor
set_option linter.unusedSimpArgs false
open Go.RowKit
set_option linter.unusedVariables false

/-- The zones of these nodes, by their Ids. -/
def zmOf (ns : List NodeD) : Int → Option Int := ns.foldl (fun f n => fun i => if i = n.id then some n.zone else f i) (fun _ => none)
theorem zm_fold : ∀ (ns : List NodeD) (f : Int → Option Int), (ns.map NodeD.id).Nodup → ∀ i z, ns.foldl (fun f n => fun i => if i = n.id then some n.zone else f i) f i = some z ↔ (∃ n ∈ ns, n.id = i ∧ n.zone = z) ∨ ((∀ n ∈ ns, n.id ≠ i) ∧ f i = some z)
  | [], f, _, i, z => by simp
  | x :: r, f, h, i, z => by
    obtain ⟨h1, h2⟩ := List.nodup_cons.1 (by simpa using h : (x.id :: r.map NodeD.id).Nodup)
    rw [List.foldl_cons, zm_fold r _ h2]
    by_cases e : i = x.id
    · subst e
      have hno : ∀ n ∈ r, n.id ≠ x.id := fun n hn e => h1 (e ▸ List.mem_map.2 ⟨n, hn, rfl⟩)
      constructor
      · rintro (⟨n, hn, e, _⟩ | ⟨_, h4⟩)
        · exact absurd e (hno n hn)
        · rw [if_pos rfl] at h4
          exact .inl ⟨x, by simp, rfl, Option.some.inj h4⟩
      · rintro (⟨n, hn, e, h4⟩ | ⟨h4, _⟩)
        · rcases List.mem_cons.1 hn with rfl | hn
          · exact .inr ⟨hno, by rw [if_pos rfl, h4]⟩
          · exact absurd e (hno n hn)
        · exact absurd rfl (h4 x (by simp))
    · constructor
      · rintro (⟨n, hn, h3, h4⟩ | ⟨h3, h4⟩)
        · exact .inl ⟨n, by simp [hn], h3, h4⟩
        · rw [if_neg e] at h4
          refine .inr ⟨fun n hn => ?_, h4⟩
          rcases List.mem_cons.1 hn with rfl | hn
          · exact fun q => e q.symm
          · exact h3 n hn
      · rintro (⟨n, hn, h3, h4⟩ | ⟨h3, h4⟩)
        · rcases List.mem_cons.1 hn with rfl | hn
          · exact absurd h3.symm e
          · exact .inl ⟨n, hn, h3, h4⟩
        · exact .inr ⟨fun n hn => h3 n (by simp [hn]), by rw [if_neg e]; exact h4⟩
theorem zm_is {ns : List NodeD} (h : FineN ns) (i z : Int) : zmOf ns i = some z ↔ ∃ n ∈ ns, n.id = i ∧ n.zone = z := by
  unfold zmOf
  rw [zm_fold ns _ h.one]
  simp
theorem zm_zone {ns : List NodeD} (h : FineN ns) {n : NodeD} (hn : n ∈ ns) : zmOf ns n.id = some n.zone := (zm_is h _ _).2 ⟨n, hn, rfl, rfl⟩

/-! What the checks are by what is counted. -/
def clashL (ns : List NodeD) (c : CntD) (x : LoadD) : Bool := x.apart && ns.any fun n => decide (1 < c.ats x.id n.id)
def leastL (ns : List NodeD) (c : CntD) (x : LoadD) : Int := (ns.map fun n => c.inz x.id n.zone).foldl min 12
def mostL (ns : List NodeD) (c : CntD) (x : LoadD) : Int := (ns.map fun n => c.inz x.id n.zone).foldl max 0
def unlikeL (ns : List NodeD) (c : CntD) (x : LoadD) : Bool := x.skew != 0 && decide (x.skew < mostL ns c x - leastL ns c x)
def budK (c : CntD) : List LoadD → Int
  | [] => 0
  | x :: r => if fault9 x (c.size x.id) = 0 then budK c r else fault9 x (c.size x.id)
def loadsK (ns : List NodeD) (c : CntD) (ls : List LoadD) : Int := if ls.any (clashL ns c) = true then 10 else if ls.any (unlikeL ns c) = true then 11 else budK c ls
def faultK (ns : List NodeD) (c : CntD) (ls : List LoadD) (x : SpecD) (t1 t2 : Int) : Int := if loadsK ns c ls ≠ 0 then loadsK ns c ls else if usedD x.preempts x.shifts t1 t2 = true then 15 else 0

theorem count_two {f : PodD → Bool} : ∀ {l : List PodD}, l.Pairwise (fun p q => ¬ (f p = true ∧ f q = true)) → l.countP f ≤ 1
  | [], _ => by simp
  | x :: r, h => by
    obtain ⟨h1, h2⟩ := List.pairwise_cons.1 h
    rw [List.countP_cons]
    by_cases hx : f x = true
    · have : r.countP f = 0 := by rw [List.countP_eq_zero]; intro y hy hf; exact h1 y hy ⟨hx, hf⟩
      rw [if_pos hx]; omega
    · rw [if_neg hx]; have := count_two h2; omega
theorem apartD_mem {id : Int} : ∀ {ls : List LoadD}, apartD id ls = true → ∃ x ∈ ls, x.id = id ∧ x.apart = true
  | [], h => by cases h
  | x :: r, h => by
    unfold apartD at h
    split at h
    · rename_i e; exact ⟨x, by simp, e, h⟩
    · obtain ⟨y, hy, h2⟩ := apartD_mem h; exact ⟨y, by simp [hy], h2⟩
theorem apartD_is : ∀ {ls : List LoadD}, (ls.map LoadD.id).Nodup → ∀ {x : LoadD}, x ∈ ls → apartD x.id ls = x.apart
  | [], _, x, h => by simp at h
  | y :: r, hn, x, h => by
    obtain ⟨h1, h2⟩ := List.nodup_cons.1 (by simpa using hn : (y.id :: r.map LoadD.id).Nodup)
    unfold apartD
    rcases List.mem_cons.1 h with rfl | hx
    · rw [if_pos rfl]
    · have hne : ¬ y.id = x.id := fun e => h1 (by rw [e]; exact List.mem_map.2 ⟨x, hx, rfl⟩)
      rw [if_neg hne]
      exact apartD_is h2 hx
theorem pair_of_count {ls : List LoadD} : ∀ {l : List PodD}, (∀ x ∈ ls, x.apart = true → ∀ p ∈ l, p.node ≠ 0 → l.countP (atP x.id p.node) ≤ 1) → l.Pairwise (fun p q => clashD ls q p = false)
  | [], _ => List.Pairwise.nil
  | y :: r, h => by
    refine List.pairwise_cons.2 ⟨fun q hq => ?_, pair_of_count fun x hx ha p hp h0 => ?_⟩
    · cases hc : clashD ls q y with
      | false => rfl
      | true =>
        exfalso
        simp only [clashD, Bool.and_eq_true, bne_iff_ne, beq_iff_eq] at hc
        obtain ⟨c1, c2, c3, c4⟩ := hc
        obtain ⟨x, hx, e1, e2⟩ := apartD_mem c4
        have c5 : y.node ≠ 0 := by rw [← c2]; exact c1
        have := h x hx e2 y (by simp) c5
        rw [List.countP_cons, if_pos (by simp [atP, c5, e1, c3])] at this
        have h2 : 0 < r.countP (atP x.id y.node) := by
          rw [List.countP_pos_iff]
          exact ⟨q, hq, by simp [atP, c5, e1, c2]⟩
        omega
    · have := h x hx ha p (by simp [hp]) h0
      rw [List.countP_cons] at this
      omega
theorem apart_is {ns : List NodeD} {ls : List LoadD} {l : List PodD} {zm : Int → Option Int} (hN : FineN ns) (hL : FineL ls) (hP : FineP ns l) : (0 ≤ (apartOf ls l).2) ↔ ls.any (clashL ns (cntOf zm l)) = true := by
  have h1 : (0 ≤ (apartOf ls l).2) ↔ ¬ apartOf ls l = (0, -1) := by
    rcases apartFrom_pair (ls := ls) (l := l) l 0 with ⟨_, e⟩ | ⟨j, e⟩
    · rw [apartOf, e]; simp
    · rw [apartOf, e]; simp
  rw [h1, apart_pairwise, List.any_eq_true]
  constructor
  · intro hp
    refine Classical.byContradiction fun hno => hp (pair_of_count fun x hx ha p hpl h0 => ?_)
    rcases hP.node p hpl with e | ⟨n, hn, e⟩
    · exact absurd e h0
    · refine Nat.le_of_not_lt fun hlt => hno ⟨x, hx, ?_⟩
      unfold clashL
      rw [ha, Bool.true_and, List.any_eq_true]
      refine ⟨n, hn, decide_eq_true ?_⟩
      rw [e]
      show (1 : Int) < (l.countP (atP x.id p.node) : Nat)
      omega
  · rintro ⟨x, hx, hc⟩ hp
    unfold clashL at hc
    rw [Bool.and_eq_true, List.any_eq_true] at hc
    obtain ⟨ha, n, hn, hd⟩ := hc
    have hd := of_decide_eq_true hd
    have hd : 1 < l.countP (atP x.id n.id) := by
      have : (1 : Int) < (l.countP (atP x.id n.id) : Nat) := hd
      omega
    have : l.countP (atP x.id n.id) ≤ 1 := by
      refine count_two (hp.imp fun {p q} h => ?_)
      rintro ⟨f1, f2⟩
      simp only [atP, Bool.and_eq_true, bne_iff_ne, beq_iff_eq] at f1 f2
      have : clashD ls q p = true := by
        simp only [clashD, Bool.and_eq_true, bne_iff_ne, beq_iff_eq]
        refine ⟨f2.1, by rw [f2.2.2, f1.2.2], by rw [f2.2.1, f1.2.1], ?_⟩
        rw [f2.2.1, apartD_is hL.one hx, ha]
      rw [this] at h; cases h
    omega

theorem inz_is {ns : List NodeD} {l : List PodD} (hN : FineN ns) (hP : FineP ns l) (ld z : Int) : l.countP (inP (zmOf ns) ld z) = countD ns ld z l := by
  unfold countD
  refine List.countP_congr fun p hp => ?_
  unfold inP inZ
  by_cases h0 : p.node = 0
  · rw [zoneD_nowhere h0]; simp [h0]
  · rcases hP.node p hp with e | ⟨n, hn, e⟩
    · exact absurd e h0
    · have hpl : ¬ place NodeD.id p.node ns 0 < 0 := by
        rw [place_neg (by omega)]
        intro h; exact h n hn e
      have hg := place_ge (f := NodeD.id) (id := p.node) (l := ns) (k := 0) (by omega)
      obtain ⟨i, hi⟩ := Int.eq_ofNat_of_zero_le (show 0 ≤ place NodeD.id p.node ns 0 by omega)
      have hi' : i < ns.length := by omega
      have e1 := place_eqA (f := NodeD.id) (id := p.node) (l := ns) (k := 0) hi' (by rw [hi]; omega) (by omega)
      rw [zoneD_some h0 hi' hi]
      have : zmOf ns p.node = some ns[i].zone := (zm_is hN _ _).2 ⟨ns[i], List.getElem_mem hi', e1, rfl⟩
      simp [zoneZ, this, h0]
theorem skew_is {ns : List NodeD} {l : List PodD} (hN : FineN ns) (hP : FineP ns l) (x : LoadD) : mostL ns (cntOf (zmOf ns) l) x - leastL ns (cntOf (zmOf ns) l) x = skewD ns x.id (zonesOf ns) l := by
  have hv : (ns.map fun n => (cntOf (zmOf ns) l).inz x.id n.zone) = ns.map fun n => (countD ns x.id n.zone l : Int) := by
    refine List.map_congr_left fun n _ => ?_
    show ((l.countP (inP (zmOf ns) x.id n.zone) : Nat) : Int) = _
    rw [inz_is hN hP]
  unfold mostL leastL
  rw [hv]
  have hz : ∀ y, y ∈ zonesOf ns ↔ y ∈ ns.map NodeD.zone := fun y => by unfold zonesOf; rw [zones_mem]; simp
  have hzs : zonesOf ns ≠ [] := by
    intro e
    cases hns : ns with
    | nil => exact hN.some hns
    | cons n r =>
      have := (hz n.zone).2 (by rw [hns]; simp)
      rw [e] at this
      simp at this
  have hmem : ∀ v, v ∈ countsD ns x.id (zonesOf ns) l ↔ v ∈ ns.map fun n => (countD ns x.id n.zone l : Int) := fun v => by
    unfold countsD
    simp only [List.mem_map]
    constructor
    · rintro ⟨z, h1, h2⟩
      obtain ⟨n, hn, e⟩ := List.mem_map.1 ((hz z).1 h1)
      exact ⟨n, hn, by rw [e]; exact h2⟩
    · rintro ⟨n, hn, h2⟩
      exact ⟨n.zone, (hz _).2 (List.mem_map.2 ⟨n, hn, rfl⟩), h2⟩
  have hne : countsD ns x.id (zonesOf ns) l ≠ [] := counts_ne hzs
  obtain ⟨m1, m2⟩ := maxOf_spec hne
  obtain ⟨n1, n2⟩ := minOf_spec hne
  obtain ⟨f1, f2, f3⟩ := foldl_max (ns.map fun n => (countD ns x.id n.zone l : Int)) 0
  obtain ⟨g1, g2, g3⟩ := foldl_min (ns.map fun n => (countD ns x.id n.zone l : Int)) 12
  have b1 := counts_bounds m1
  have b2 := counts_bounds n1
  have hlen := hP.len
  rw [skewD, if_neg hzs]
  have q1 := f2 _ ((hmem _).1 m1)
  have q2 := g2 _ ((hmem _).1 n1)
  have q3 : (ns.map fun n => (countD ns x.id n.zone l : Int)).foldl max 0 ≤ Lib.maxOf (countsD ns x.id (zonesOf ns) l) := by
    rcases f3 with e | e
    · rw [e]; exact b1.1
    · exact m2 _ ((hmem _).2 e)
  have q4 : Lib.minOf (countsD ns x.id (zonesOf ns) l) ≤ (ns.map fun n => (countD ns x.id n.zone l : Int)).foldl min 12 := by
    rcases g3 with e | e
    · rw [e]; omega
    · exact n2 _ ((hmem _).2 e)
  omega
theorem spread_is {ns : List NodeD} {l : List PodD} (hN : FineN ns) (hP : FineP ns l) : ∀ (ls : List LoadD) (k : Nat), (∀ x ∈ ls, 0 ≤ x.skew) → ((0 ≤ (spreadFrom ns l ls k).2) ↔ ls.any (unlikeL ns (cntOf (zmOf ns) l)) = true)
  | [], k, _ => by simp [spreadFrom]
  | x :: r, k, h => by
    have ih := spread_is hN hP r (k + 1) (fun y hy => h y (by simp [hy]))
    have hx := h x (by simp)
    have hu : unlikeL ns (cntOf (zmOf ns) l) x = decide (0 < x.skew ∧ x.skew < skewD ns x.id (zonesOf ns) l) := by
      unfold unlikeL
      rw [skew_is hN hP]
      by_cases h0 : x.skew = 0
      · simp [h0]
      · have : 0 < x.skew := by omega
        simp [h0, this]
    unfold spreadFrom
    rw [List.any_cons, hu]
    by_cases hc : 0 < x.skew ∧ x.skew < skewD ns x.id (zonesOf ns) l
    · rw [if_pos hc, decide_eq_true hc]; simp
    · rw [if_neg hc, decide_eq_false hc, Bool.false_or]; exact ih
theorem budget_is {zm : Int → Option Int} {l : List PodD} : ∀ (ls : List LoadD) (k : Nat), (budgetFrom l ls k).1 = budK (cntOf zm l) ls
  | [], k => rfl
  | x :: r, k => by
    have e : (cntOf zm l).size x.id = (sizeD x.id l : Nat) := rfl
    unfold budgetFrom budK
    rw [e]
    split
    · exact budget_is r (k + 1)
    · rfl
theorem codeS_K {ns : List NodeD} {ls : List LoadD} {x : SpecD} {t : StateD} (hN : FineN ns) (hL : FineL ls) (hP : FineP ns t.pods) :
    codeS ns ls x t = if (roomOf ns t.pods).1 ≠ 0 then (roomOf ns t.pods).1 else faultK ns (cntOf (zmOf ns) t.pods) ls x t.preempts t.shifts := by
  rw [codeS_is]
  unfold whyC faultK loadsK
  have h1 := apart_is (zm := zmOf ns) hN hL hP
  have h2 := spread_is hN hP ls 0 hL.skew
  have h3 := budget_is (zm := zmOf ns) (l := t.pods) ls 0
  change (0 ≤ (spreadOf ns ls t.pods).2) ↔ _ at h2
  change (budgetOf ls t.pods).1 = _ at h3
  rw [h3]
  by_cases c0 : (roomOf ns t.pods).1 = 0
  · have n0 : ¬ (roomOf ns t.pods).1 ≠ 0 := fun h => h c0
    rw [if_neg n0, if_neg n0]
    by_cases c1 : ls.any (clashL ns (cntOf (zmOf ns) t.pods)) = true
    · rw [if_pos (h1.2 c1), if_pos c1]; simp
    · rw [if_neg (fun e => c1 (h1.1 e)), if_neg c1]
      by_cases c2 : ls.any (unlikeL ns (cntOf (zmOf ns) t.pods)) = true
      · rw [if_pos (h2.2 c2), if_pos c2]; simp
      · rw [if_neg (fun e => c2 (h2.1 e)), if_neg c2]
  · rw [if_pos c0, if_pos c0]
end Go.Proofs.YtpfjeoldgcepnaaGreatDoor
