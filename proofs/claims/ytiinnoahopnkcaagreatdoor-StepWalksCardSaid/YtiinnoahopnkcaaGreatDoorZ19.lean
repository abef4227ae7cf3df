/- Joined texts, part 19: WQ WK XL1 UE WA WP WT WY XK. -/
import Derived.Test.YtiinnoahopnkcaaGreatDoorZ11
import Derived.Test.YtiinnoahopnkcaaGreatDoorZ18
import Derived.Deep.RegionHeld3
import Derived.Test.YtiinnoahopnkcaaGreatDoorZ17
import Derived.Test.YtiinnoahopnkcaaGreatDoorZ07
import Derived.Test.YtiinnoahopnkcaaGreatDoorZ05
import Derived.Maps.AppendAt
import Derived.Test.YtiinnoahopnkcaaGreatDoorZ02
import Derived.Test.YtiinnoahopnkcaaGreatDoorZ16
import Derived.Deep.CutRange
import Derived.Test.YtiinnoahopnkcaaGreatDoorZ15

/- A node's rest by the reference. -/
namespace Go.Proofs.YtiinnoahopnkcaaGreatDoor
set_option linter.unusedSimpArgs false
open Go.RowKit
set_option linter.unusedVariables false

theorem ref_ret {p : V4 × Int} {a : Value} {b : Value} (q : V4 × Int) (h : p = q) (ha : a = aggV q.1) (hb : b = .int .i64 q.2) : Ending.returned (.tuple #[a, b]) = .returned (.tuple #[aggV p.1, .int .i64 p.2]) := by subst h ha hb; rfl

set_option maxHeartbeats 6400000 in
set_option maxRecDepth 100000 in
theorem refRest_any (ns : List NodeD) (l : List PodD) (id : Int) (hno : ∀ x ∈ ns, x.Ok) (hlo : ∀ p ∈ l, p.Ok) (A1 A4 : Option Addr) (n1 c1 n4 c4 : Nat) (s2 s3 v1 v2 : Value) (w : World)
    (hn1 : n1 = ns.length) (hl1 : n1 ≤ 400) (hr1 : Recs 10 cellsN w w.heap.size A1 ns) (hn4 : n4 = l.length) (hl4 : n4 ≤ 400) (hr4 : Recs 8 cellsP w w.heap.size A4 l) :
    Calls Tryz.prog 74 #[.agg #[.slice A1 n1 c1, s2, s3], .agg #[.slice A4 n4 c4, v1, v2], .int .i64 id] w fun e w' => e = .returned (.tuple #[aggV (restD ns l id).1, .int .i64 (restD ns l id).2]) ∧ Below w.heap.size w w' := by
  have HR1 := Lib.hid hr1
  have HR4 := Lib.hid hr4
  have HN1 := Lib.hid hn1
  have HN4 := Lib.hid hn4
  have HNO := Lib.hid hno
  have HLO := Lib.hid hlo
  have T0 := T3.new w [.slice A1 n1 c1, s2, s3] [.slice A4 n4 c4, v1, v2] (cellsV .zer) 26 34 51
  have HF := Lib.hid (fun W (h1 : Recs 10 cellsN W W.heap.size A1 ns) => rNode_any ns id A1 n1 c1 W.heap.size s2 s3 W hn1 (by omega) (Nat.le_refl _) h1)
  clear hr1 hr4 hn1 hn4 hno hlo
  go_enter Tryz.func74, Tryz.ntmps74
  go_wp2_with fail
  refine (HF.out _ ((HR1.out.below T0.below (Nat.le_refl _)).more T0.below.size)).mono ?_
  rintro e w1 ⟨rfl, hb1⟩
  have T1 := T0.keep hb1
  clear hb1 T0 HF
  obtain ⟨a0, a1, a2, a3⟩ := T1.two.cells3
  have hwl1 : w.heap.size + 1 < w1.heap.size := T1.two.lt
  by_cases hp : place NodeD.id id ns 0 < 0
  · have HE := Lib.hid (rest_none (l := l) (nodeAt_no (k := 0) (Int.le_refl _) hp))
    have kw2 := T1.below
    have HD : decide (place NodeD.id id ns 0 < 0) = true := decide_eq_true hp
    obtain ⟨⟨g0, g1, g2, g3⟩, g4⟩ := T1.three.zero4
    obtain ⟨f0, f1, f2, f3⟩ := T1.three.free4
    clear T1
    generalize place NodeD.id id ns 0 = q at *
    go_wp2
    refine bodyPost_ret (v := .tuple #[zeroV, .int .i64 4]) ?_ rfl ?_
    · simp [results, Tryz.results74, go_sem, *]
    · refine ⟨ref_ret _ HE.out rfl rfl, ?_⟩
      repeat (first | with_reducible exact kw2 | with_reducible refine Below.setCell ?_ ?_ _ | with_reducible refine Below.alloc ?_ ?_ _)
      all_goals first | (show w.heap.size ≤ w.heap.size + 2; omega) | (simp; omega) | omega
  · obtain ⟨i, hi, hpi⟩ : ∃ i : Nat, i < ns.length ∧ place NodeD.id id ns 0 = (i : Int) := by
      have := place_ge (f := NodeD.id) (id := id) (l := ns) (k := 0) (Int.le_refl _)
      exact ⟨(place NodeD.id id ns 0).toNat, by omega, by omega⟩
    rw [hpi]
    have HP := Lib.hid (nodeAt_yes (k := 0) hi (Int.le_refl _) (by rw [hpi]; omega))
    have HX := Lib.hid (HNO.out _ (List.getElem_mem hi))
    obtain ⟨b, o, hA, hb, he⟩ := HR1.out.at hi
    subst hA
    have hin : (i : Int) < (n1 : Int) := by have := HN1.out; omega
    have hi0 : (0 : Int) ≤ (i : Int) := by omega
    have hil : i < n1 := by omega
    generalize hx : ns[i] = x at *
    clear hp hx hpi
    have HEE : Hid (∀ (W : World), Below w.heap.size w W → W.cell? ⟨b, o + i * 10 + 2, none⟩ = some (.int .u64 x.cap.a) ∧ W.cell? ⟨b, o + i * 10 + 3, none⟩ = some (.int .u64 x.cap.b) ∧ W.cell? ⟨b, o + i * 10 + 4, none⟩ = some (.int .u64 x.cap.c) ∧ W.cell? ⟨b, o + i * 10 + 5, none⟩ = some (.int .u64 x.cap.d) ∧
        W.cell? ⟨b, o + i * 10 + 6, none⟩ = some (.int .u64 x.held.a) ∧ W.cell? ⟨b, o + i * 10 + 7, none⟩ = some (.int .u64 x.held.b) ∧ W.cell? ⟨b, o + i * 10 + 8, none⟩ = some (.int .u64 x.held.c) ∧ W.cell? ⟨b, o + i * 10 + 9, none⟩ = some (.int .u64 x.held.d) ∧ b < W.heap.size) := fun W hW =>
      ⟨(hW.cell (p := ⟨b, _, none⟩) hb).trans (he 2 _ rfl), (hW.cell (p := ⟨b, _, none⟩) hb).trans (he 3 _ rfl), (hW.cell (p := ⟨b, _, none⟩) hb).trans (he 4 _ rfl), (hW.cell (p := ⟨b, _, none⟩) hb).trans (he 5 _ rfl), (hW.cell (p := ⟨b, _, none⟩) hb).trans (he 6 _ rfl), (hW.cell (p := ⟨b, _, none⟩) hb).trans (he 7 _ rfl), (hW.cell (p := ⟨b, _, none⟩) hb).trans (he 8 _ rfl), (hW.cell (p := ⟨b, _, none⟩) hb).trans (he 9 _ rfl), Nat.lt_of_lt_of_le hb hW.size⟩
    have HRR := Lib.hid ((HR4.out.below T1.below (Nat.le_refl _)).more T1.below.size)
    clear he hb
    rcases hu : useD l id with _ | u
    · have HC := Lib.hid (fun W (h1 : Recs 8 cellsP W W.heap.size A4 l) => refUse_none HLO.out hu A4 n4 c4 v1 v2 W HN4.out hl4 h1)
      have HE := Lib.hid (rest_over HP.out hu)
      have HT := Lib.hid T1
      clear hu T1
      go_wp2_with fail
      refine (HC.out _ HRR.out).mono ?_
      rintro e w2 ⟨rfl, hb2⟩
      have T2 := HT.out.keep hb2
      clear hb2 HT HRR a0 a1 a2 a3 hwl1
      obtain ⟨⟨g0, g1, g2, g3⟩, g4⟩ := T2.three.zero4
      obtain ⟨f0, f1, f2, f3⟩ := T2.three.free4
      have kw2 := T2.below
      clear T2
      go_wp2
      refine bodyPost_ret (v := .tuple #[zeroV, .int .i64 8]) ?_ rfl ?_
      · simp [results, Tryz.results74, go_sem, *]
      · refine ⟨ref_ret _ HE.out rfl rfl, ?_⟩
        repeat (first | with_reducible exact kw2 | with_reducible refine Below.setCell ?_ ?_ _ | with_reducible refine Below.alloc ?_ ?_ _)
        all_goals first | (show w.heap.size ≤ w.heap.size + 2; omega) | (simp; omega) | omega
    · have HC := Lib.hid (fun W (h1 : Recs 8 cellsP W W.heap.size A4 l) => refUse_some HLO.out hu A4 n4 c4 v1 v2 W HN4.out hl4 h1)
      have HUO := Lib.hid (use_ok HLO.out hu)
      have HT := Lib.hid T1
      clear T1
      go_wp2_with fail
      refine (HC.out _ HRR.out).mono ?_
      rintro e w2 ⟨rfl, hb2⟩
      have T2 := (HT.out.keep hb2).alloc (.cells #[.int .u64 u.a, .int .u64 u.b, .int .u64 u.c, .int .u64 u.d] 51)
      have U2 : Bf (w2.alloc (.cells #[.int .u64 u.a, .int .u64 u.b, .int .u64 u.c, .int .u64 u.d] 51)) w2.heap.size (cellsV u) := Bf.new w2 (cellsV u) 51 rfl
      have hz2 : w2.heap.size < (w2.alloc (.cells #[.int .u64 u.a, .int .u64 u.b, .int .u64 u.c, .int .u64 u.d] 51)).heap.size := by simp
      have hz3 : w.heap.size + 2 < w2.heap.size := (HT.out.keep hb2).three.lt
      obtain ⟨z, ok, hsc, hok⟩ : ∃ (z : V4) (ok : Bool), (∀ W, Calls Tryz.prog 106 #[aggV x.cap, aggV x.held] W fun e w' => e = .returned (.tuple #[aggV z, .bool ok]) ∧ Below W.heap.size W w') ∧ ((ok = true ∧ subV x.cap x.held = some z) ∨ (ok = false ∧ subV x.cap x.held = none)) := by
        rcases hf : subV x.cap x.held with _ | f
        · exact ⟨.zer, false, fun W => rSub_none hf W, .inr ⟨rfl, rfl⟩⟩
        · exact ⟨f, true, fun W => rSub_some HX.out.2.2.1 HX.out.2.2.2 hf W, .inl ⟨rfl, rfl⟩⟩
      have HSC := Lib.hid hsc
      have HOK := Lib.hid hok
      have HU := Lib.hid hu
      clear hb2 HT HRR a0 a1 a2 a3 hwl1 hsc hok hu
      go_upto_region 7 with fail
      have EW := HEE.out _ T2.below
      obtain ⟨a0, a1, a2, a3⟩ := T2.one.cells3
      generalize hW : (w2.alloc (.cells #[.int .u64 u.a, .int .u64 u.b, .int .u64 u.c, .int .u64 u.d] 51)) = W at *
      have HT2 := Lib.hid T2
      have HU2 := Lib.hid U2
      have HZ2 := Lib.hid hz2
      have HZ3 := Lib.hid hz3
      clear hW T2 U2 HEE hz2 hz3
      obtain ⟨e2, e3, e4, e5, e6, e7, e8, e9, ebl⟩ := EW
      go_region_held3 (fun w' => (∀ b o, b < W.heap.size → w'.cell? ⟨b, o, none⟩ = W.cell? ⟨b, o, none⟩) ∧ Below W.heap.size W w')
        (first | (with_reducible assumption) | (show Keeps W _; with_reducible (repeat (first | exact Keeps.refl _ | refine Keeps.drew ?_ | refine Keeps.set ?_ (by simp) _ | refine Keeps.alloc ?_ _ | refine Keeps.step ?_ (by assumption)))))
        (first
          | (go_at_call 106; refine (HSC.out _).mono ?_; rintro e w' ⟨rfl, hb⟩; obtain ⟨hcx, hfx⟩ := old_cells hb))
      rename_i hK
      have BV : Bf (w'.alloc (.cells #[.int .u64 z.a, .int .u64 z.b, .int .u64 z.c, .int .u64 z.d] 51)) w'.heap.size (cellsV z) := Bf.new w' (cellsV z) _ rfl
      have KV := hK.2
      generalize hV : w'.alloc (.cells #[.int .u64 z.a, .int .u64 z.b, .int .u64 z.c, .int .u64 z.d] 51) = V at *
      clear hK hV hcx hfx hb
      generalize w'.heap.size = h at *
      rotate_left
      rename_i hK
      have BV := Bf.later (z := z) (Bf.drew (Bf.new W (cellsV .zer) 51 rfl)) hb
      have KV := hK.2
      generalize hV : (((w'.setCell ⟨W.heap.size, 0, none⟩ (.int .u64 z.a)).setCell ⟨W.heap.size, 1, none⟩ (.int .u64 z.b)).setCell ⟨W.heap.size, 2, none⟩ (.int .u64 z.c)).setCell ⟨W.heap.size, 3, none⟩ (.int .u64 z.d) = V at *
      clear hK hV hcx hfx hb
      have KV' := KV
      generalize hh : W.heap.size = h at BV ⊢
      clear hh KV'
      rotate_left
      all_goals
        have T7 := HT2.out.keep KV
        have U7 := HU2.out.below KV HU2.out.lt
        have HT7 := Lib.hid T7
        clear KV
        obtain ⟨v0, v1', v2', v3, v4⟩ := BV.cells4
        obtain ⟨⟨g0, g1, g2, g3⟩, g4⟩ := T7.three.zero4
        obtain ⟨f0, f1, f2, f3⟩ := T7.three.free4
        obtain ⟨u0, u1, u2, u3, u4⟩ := U7.cells4
        have kw2 := T7.below
        clear a0 a1 a2 a3 e2 e3 e4 e5 e6 e7 e8 e9 T7 U7 BV
        rcases HOK.out with ⟨hk, hf⟩ | ⟨hk, hf⟩
        · subst hk
          have HZO := Lib.hid (sub_ok4 HX.out.2.2.1 HX.out.2.2.2 hf)
          rcases hg : subV z u with _ | r
          · have HE := Lib.hid (rest_room HP.out HU.out ((left_some hf).trans hg))
            have HC2 := Lib.hid (fun W => rSub_none hg W)
            clear hf hg kw2
            go_wp2_with fail
            refine (HC2.out _).mono ?_
            rintro e w3 ⟨rfl, hb3⟩
            have T8 := HT7.out.keep hb3
            clear hb3 HT7 g0 g1 g2 g3 g4 f0 f1 f2 f3 v0 v1' v2' v3 v4 u0 u1 u2 u3 u4
            obtain ⟨⟨g0, g1, g2, g3⟩, g4⟩ := T8.three.zero4
            obtain ⟨f0, f1, f2, f3⟩ := T8.three.free4
            have kw2 := T8.below
            clear T8
            go_wp2
            refine bodyPost_ret (v := .tuple #[zeroV, .int .i64 9]) ?_ rfl ?_
            · simp [results, Tryz.results74, go_sem, *]
            · refine ⟨ref_ret _ HE.out rfl rfl, ?_⟩
              repeat (first | with_reducible exact kw2 | with_reducible refine Below.setCell ?_ ?_ _ | with_reducible refine Below.alloc ?_ ?_ _)
              all_goals first | (show w.heap.size ≤ w.heap.size + 2; omega) | (simp; omega) | omega
          · have HE := Lib.hid (rest_some HP.out HU.out ((left_some hf).trans hg))
            have HC2 := Lib.hid (fun W => rSub_some HZO.out HUO.out hg W)
            clear hf hg kw2
            go_wp2_with fail
            refine (HC2.out _).mono ?_
            rintro e w3 ⟨rfl, hb3⟩
            have T8 := HT7.out.keep hb3
            clear hb3 HT7 g0 g1 g2 g3 g4 f0 f1 f2 f3 v0 v1' v2' v3 v4 u0 u1 u2 u3 u4
            obtain ⟨⟨g0, g1, g2, g3⟩, g4⟩ := T8.three.zero4
            obtain ⟨f0, f1, f2, f3⟩ := T8.three.free4
            have kw2 := T8.below
            clear T8
            go_wp2
            refine bodyPost_ret (v := .tuple #[aggV r, .int .i64 0]) ?_ rfl ?_
            · simp [results, Tryz.results74, go_sem, *]
            · refine ⟨ref_ret _ HE.out rfl rfl, ?_⟩
              repeat (first | with_reducible exact kw2 | with_reducible refine Below.setCell ?_ ?_ _ | with_reducible refine Below.alloc ?_ ?_ _)
              all_goals first | (show w.heap.size ≤ w.heap.size + 2; omega) | (simp; omega) | omega
        · subst hk
          have HE := Lib.hid (rest_room HP.out HU.out (left_none hf))
          clear hf
          go_wp2
          refine bodyPost_ret (v := .tuple #[zeroV, .int .i64 9]) ?_ rfl ?_
          · simp [results, Tryz.results74, go_sem, *]
          · refine ⟨ref_ret _ HE.out rfl rfl, ?_⟩
            repeat (first | with_reducible exact kw2 | with_reducible refine Below.setCell ?_ ?_ _ | with_reducible refine Below.alloc ?_ ?_ _)
            all_goals first | (show w.heap.size ≤ w.heap.size + 2; omega) | (simp; omega) | omega
end Go.Proofs.YtiinnoahopnkcaaGreatDoor

/- The first node at fault by the reference. -/
namespace Go.Proofs.YtiinnoahopnkcaaGreatDoor
set_option linter.unusedSimpArgs false
open Go.RowKit
set_option linter.unusedVariables false

set_option maxHeartbeats 6400000 in
set_option maxRecDepth 100000 in
theorem refCheck_any (ns : List NodeD) (l : List PodD) (hno : ∀ x ∈ ns, x.Ok) (hlo : ∀ p ∈ l, p.Ok) (A1 A4 : Option Addr) (n1 c1 n4 c4 : Nat) (s2 s3 v1 v2 : Value) (w : World)
    (hn1 : n1 = ns.length) (hl1 : n1 ≤ 400) (hr1 : Recs 10 cellsN w w.heap.size A1 ns) (hn4 : n4 = l.length) (hl4 : n4 ≤ 400) (hr4 : Recs 8 cellsP w w.heap.size A4 l) :
    Calls Tryz.prog 42 #[.agg #[.slice A1 n1 c1, s2, s3], .agg #[.slice A4 n4 c4, v1, v2]] w fun e w' => e = .returned (.tuple #[.int .i64 (roomOf ns l).1, .int .i64 (roomOf ns l).2]) ∧ Below w.heap.size w w' := by
  have HR1 := Lib.hid hr1
  have HN1 := Lib.hid hn1
  have HC := Lib.hid (fun (W : World) (hW : Below w.heap.size w W) (id : Int) => refRest_any ns l id hno hlo A1 A4 n1 c1 n4 c4 s2 s3 v1 v2 W hn1 hl1 ((hr1.below hW (Nat.le_refl _)).more hW.size) hn4 hl4 ((hr4.below hW (Nat.le_refl _)).more hW.size))
  have T0 := T2.new w [.slice A1 n1 c1, s2, s3] [.slice A4 n4 c4, v1, v2] 26 34
  have HT0 := Lib.hid T0
  clear hr1 hr4 hn1 hn4 hno hlo T0
  go_enter Tryz.func42, Tryz.ntmps42
  go_wp2
  go_loopw [6] (RoomRel ns l [.slice A1 n1 c1, s2, s3] [.slice A4 n4 c4, v1, v2] w) (fun i _ => n1 - (intOf i).toNat)
  case atStart => exact ⟨0, by omega, rfl, rfl, HT0.out⟩
  case round =>
    obtain ⟨k, hk, rfl, hp, T1⟩ := hrel
    have HP := Lib.hid hp
    have HT1 := Lib.hid T1
    clear hp
    obtain ⟨a0, a1, a2, a3⟩ := T1.one.cells3
    obtain ⟨b0, b1, b2, b3⟩ := T1.two.cells3
    by_cases hlt : k < n1
    · have hkl : k < ns.length := by have := HN1.out; omega
      obtain ⟨b, o, rfl, hb, he⟩ := HR1.out.at hkl
      generalize hx : ns[k] = y at *
      have HX := Lib.hid (roomD_at hkl hx HP.out)
      clear hx
      have kwr := T1.below
      have e0 : wr.cell? ⟨b, o + k * 10, none⟩ = some (.int .i64 y.id) := (kwr.cell (p := ⟨b, o + k * 10, none⟩) hb).trans (he 0 _ rfl)
      have hbw : b < wr.heap.size := Nat.lt_of_lt_of_le hb kwr.size
      have HCR := Lib.hid (fun (W : World) (hW : Keeps wr W) => HC.out W (kwr.trans (hW.2.mono kwr.size)) y.id)
      clear he T1 kwr
      generalize hz : restD ns l y.id = z at *
      obtain ⟨r, code⟩ := z
      clear hz
      go_wp2
      go_region_held3 (fun w' => (∀ b o, b < wr.heap.size → w'.cell? ⟨b, o, none⟩ = wr.cell? ⟨b, o, none⟩) ∧ Below wr.heap.size wr w')
        (first | (with_reducible assumption) | (show Keeps wr _; with_reducible (repeat (first | exact Keeps.refl _ | refine Keeps.drew ?_ | refine Keeps.set ?_ (by simp) _ | refine Keeps.alloc ?_ _ | refine Keeps.step ?_ (by assumption)))))
        (first
          | (go_at_call 74; refine (HCR.out _ (by assumption)).mono ?_; rintro e w' ⟨rfl, hb⟩; obtain ⟨hcx, hfx⟩ := old_cells hb))
      all_goals
        rename_i hK
        have HTT := Lib.hid (HT1.out.keep hK.2)
        clear hK hcx hfx hb e0 a0 a1 a2 a3 b0 b1 b2 b3
        by_cases hc : code = 0
        · subst hc
          have HE := Lib.hid (HX.out.2 rfl)
          go_wp2
          go_roundw
          case rel => exact ⟨k + 1, by omega, by go_num, HE.out, HTT.out⟩
          case measure => simp [intOf]; omega
        · have HE := Lib.hid (HX.out.1 hc)
          have hcb : (code != 0) = true := by simp [hc]
          clear hc
          go_wp2
          go_ret2
          exact ⟨ret_pair HE.out rfl rfl, HTT.out.below⟩
    · have HE := Lib.hid (roomD_end (by have := HN1.out; omega) HP.out)
      have kwr := T1.below
      clear T1
      go_wp2
      go_ret2
      exact ⟨ret_pair HE.out rfl rfl, kwr⟩
end Go.Proofs.YtiinnoahopnkcaaGreatDoor

/- The reference's Why of layer 11. -/
namespace Go.Proofs.YtiinnoahopnkcaaGreatDoor
set_option linter.unusedSimpArgs false
open Go.RowKit
set_option linter.unusedVariables false

theorem why5 (a b c d e : Int × Int) : whyP [a, b, c, d, e] = if okP a = false then a else if okP b = false then b else if okP c = false then c else if okP d = false then d else if okP e = false then e else (0, -1) := by
  unfold whyP badK
  simp only [List.take_succ_cons, List.take_zero, List.filter_cons, List.filter_nil]
  cases okP a <;> cases okP b <;> cases okP c <;> cases okP d <;> cases okP e <;> simp
theorem spread_pair {ns : List NodeD} {l : List PodD} : ∀ (r : List LoadD) (k : Nat), spreadFrom ns l r k = (0, -1) ∨ ∃ j : Nat, spreadFrom ns l r k = (11, (j : Int))
  | [], _ => .inl rfl
  | x :: r, k => by
    unfold spreadFrom
    split
    · exact .inr ⟨k, rfl⟩
    · exact spread_pair r (k + 1)
/-- The first that is amiss: its number. -/
def whyC (r a s b : Int) (u : Bool) : Int := if r ≠ 0 then r else if 0 ≤ a then 10 else if 0 ≤ s then 11 else if b ≠ 0 then b else if u = true then 15 else 0
theorem codeS_is (ns : List NodeD) (ls : List LoadD) (x : SpecD) (t : StateD) : codeS ns ls x t = whyC (roomOf ns t.pods).1 (apartOf ls t.pods).2 (spreadOf ns ls t.pods).2 (budgetOf ls t.pods).1 (usedD x.preempts x.shifts t.preempts t.shifts) := by
  have h1 := told8_ok (told8_room (l := t.pods) ns 0 (fun _ h => h))
  have h4 := told8_ok (told8_budget (l := t.pods) ls 0)
  change okP (roomOf ns t.pods) = ((roomOf ns t.pods).1 == 0) at h1
  change okP (budgetOf ls t.pods) = ((budgetOf ls t.pods).1 == 0) at h4
  have h2 : apartOf ls t.pods = (0, -1) ∨ ∃ j : Nat, apartOf ls t.pods = (10, (j : Int)) := by
    rcases apartFrom_pair (ls := ls) (l := t.pods) t.pods 0 with ⟨_, e⟩ | e
    · exact .inl e
    · exact .inr e
  have h3 : spreadOf ns ls t.pods = (0, -1) ∨ ∃ j : Nat, spreadOf ns ls t.pods = (11, (j : Int)) := spread_pair ls 0
  unfold codeS fiveP whyC
  rw [why5, h1, h4]
  have k0 : okP (0, -1) = true := rfl
  have k1 : ∀ j : Nat, okP (10, (j : Int)) = false := fun _ => rfl
  have k2 : ∀ j : Nat, okP (11, (j : Int)) = false := fun _ => rfl
  by_cases c1 : (roomOf ns t.pods).1 = 0
  · rcases h2 with e2 | ⟨j, e2⟩
    · rcases h3 with e3 | ⟨j, e3⟩
      · by_cases c4 : (budgetOf ls t.pods).1 = 0
        · rw [e2, e3]
          cases hu : usedD x.preempts x.shifts t.preempts t.shifts <;> simp [c1, c4, usedP, hu, okP]
        · rw [e2, e3]
          simp [c1, c4, k0]
      · rw [e2, e3]
        simp [c1, k0, k2]
    · rw [e2]
      simp [c1, k1]
  · simp [c1]

theorem ret_why {cs b z : Int} (h : cs = b) : Ending.returned (.tuple #[.int .i64 b, .int .i64 z]) = .returned (.tuple #[.int .i64 cs, .int .i64 z]) := by rw [h]
set_option maxHeartbeats 6400000 in
set_option maxRecDepth 100000 in
theorem rWhy11_any (ns : List NodeD) (ls : List LoadD) (x : SpecD) (t : StateD) (A1 A2 A3 A4 A5 : Option Addr) (n1 c1 n2 c2 n3 c3 n4 c4 n5 c5 : Nat) (w : World) (h : SafeArgs ns ls t.pods A1 A2 A4 n1 n2 n4 c4 w) (hl1 : n1 ≤ 40) :
    Calls Tryz.prog 22 #[.agg #[.slice A1 n1 c1, .slice A2 n2 c2, .slice A3 n3 c3], .agg #[.slice A5 n5 c5, .int .i64 x.preempts, .int .i64 x.shifts], .agg #[.slice A4 n4 c4, .int .i64 t.preempts, .int .i64 t.shifts]] w fun e w' => ∃ z : Int, e = .returned (.tuple #[.int .i64 (codeS ns ls x t), .int .i64 z]) ∧ Below w.heap.size w w' := by
  have T0 := T3.new w [.slice A1 n1 c1, .slice A2 n2 c2, .slice A3 n3 c3] [.slice A5 n5 c5, .int .i64 x.preempts, .int .i64 x.shifts] [.slice A4 n4 c4, .int .i64 t.preempts, .int .i64 t.shifts] 26 29 34
  have HR := Lib.hid (fun (V : World) (hV : Below w.heap.size w V) => have k := h.at hV; refCheck_any ns t.pods k.no k.lo A1 A4 n1 c1 n4 c4 (.slice A2 n2 c2) (.slice A3 n3 c3) (.int .i64 t.preempts) (.int .i64 t.shifts) V k.e1 (by omega) k.r1 k.e4 (by have := k.l4; omega) k.r4)
  have HA := Lib.hid (fun (V : World) (hV : Below w.heap.size w V) => have k := h.at hV; rApart07_any ls t.pods A2 A4 n2 c2 n4 c4 (.slice A1 n1 c1) (.slice A3 n3 c3) (.int .i64 t.preempts) (.int .i64 t.shifts) V k.e2 (by have := k.l2; omega) k.r2 k.e4 (by have := k.l4; omega) k.r4)
  have HS := Lib.hid (fun (V : World) (hV : Below w.heap.size w V) => have k := h.at hV; rSpread07_any ns ls t.pods A1 A2 A4 n1 c1 n2 c2 n4 c4 (.slice A3 n3 c3) (.int .i64 t.preempts) (.int .i64 t.shifts) V k.e1 hl1 k.r1 k.e2 (by have := k.l2; omega) k.r2 k.e4 (by have := k.l4; omega) k.r4)
  have HB := Lib.hid (fun (V : World) (hV : Below w.heap.size w V) => have k := h.at hV; rBudget07_any ls t.pods A1 A2 A4 n1 c1 n2 c2 n4 c4 (.slice A3 n3 c3) (.int .i64 t.preempts) (.int .i64 t.shifts) V k.e2 (by have := k.l2; omega) k.r2 k.e4 (by have := k.l4; omega) k.r4)
  have HU := Lib.hid (fun (V : World) => rUsed07_any A4 A5 n4 c4 n5 c5 x.preempts x.shifts t.preempts t.shifts V)
  have HE := Lib.hid (codeS_is ns ls x t)
  have HT0 := Lib.hid T0
  generalize codeS ns ls x t = cs at *
  generalize roomOf ns t.pods = r at *
  generalize (apartOf ls t.pods).2 = a at *
  generalize (spreadOf ns ls t.pods).2 = s at *
  generalize budgetOf ls t.pods = bu at *
  generalize usedD x.preempts x.shifts t.preempts t.shifts = us at *
  generalize x.preempts = x1 at *
  generalize x.shifts = x2 at *
  generalize t.preempts = t1 at *
  generalize t.shifts = t2 at *
  clear h T0 hl1
  go_enter Tryz.func22, Tryz.ntmps22
  go_wp2_with fail
  refine (HR.out _ HT0.out.below).mono ?_
  rintro e w1 ⟨rfl, hb1⟩
  have T1 := HT0.out.keep hb1
  have HT1 := Lib.hid T1
  have HK1 := Lib.hid T1.below
  obtain ⟨a0, a1, a2, a3⟩ := T1.one.cells3
  obtain ⟨d0, d1, d2, d3⟩ := T1.three.cells3
  clear HT0 HR hb1 T1
  by_cases q1 : r.1 = 0
  case neg =>
    have hd : (r.1 != 0) = true := by simp [q1]
    have HN := Lib.hid (show cs = r.1 by rw [HE.out, whyC, if_pos q1])
    clear q1
    go_wp2
    go_ret2
    exact ⟨_, ret_why HN.out, HK1.out⟩
  have hd : (r.1 != 0) = false := by simp [q1]
  have HAA := HA.out w1 HK1.out
  clear HA
  go_wp2_with fail
  refine HAA.mono ?_
  rintro e w2 ⟨rfl, hb2⟩
  have T2' := HT1.out.keep hb2
  have HT2 := Lib.hid T2'
  have HK2 := Lib.hid T2'.below
  clear HT1 HK1 HAA hb2 a0 a1 a2 a3 d0 d1 d2 d3
  obtain ⟨a0, a1, a2, a3⟩ := T2'.one.cells3
  obtain ⟨d0, d1, d2, d3⟩ := T2'.three.cells3
  clear T2'
  by_cases q2 : 0 ≤ a
  · have hd2 : decide (0 ≤ a) = true := decide_eq_true q2
    have HN := Lib.hid (show cs = 10 by rw [HE.out, whyC, if_neg (by simp [q1]), if_pos q2])
    clear q1 q2
    go_wp2
    go_ret2
    exact ⟨_, ret_why HN.out, HK2.out⟩
  have hd2 : decide (0 ≤ a) = false := decide_eq_false q2
  have HSS := HS.out w2 HK2.out
  clear HS
  go_wp2_with fail
  refine HSS.mono ?_
  rintro e w3 ⟨rfl, hb3⟩
  have T3' := HT2.out.keep hb3
  have HT3 := Lib.hid T3'
  have HK3 := Lib.hid T3'.below
  clear HT2 HK2 HSS hb3 a0 a1 a2 a3 d0 d1 d2 d3
  obtain ⟨a0, a1, a2, a3⟩ := T3'.one.cells3
  obtain ⟨d0, d1, d2, d3⟩ := T3'.three.cells3
  clear T3'
  by_cases q3 : 0 ≤ s
  · have hd3 : decide (0 ≤ s) = true := decide_eq_true q3
    have HN := Lib.hid (show cs = 11 by rw [HE.out, whyC, if_neg (by simp [q1]), if_neg (by omega), if_pos q3])
    clear q1 q2 q3
    go_wp2
    go_ret2
    exact ⟨_, ret_why HN.out, HK3.out⟩
  have hd3 : decide (0 ≤ s) = false := decide_eq_false q3
  have HBB := HB.out w3 HK3.out
  clear HB
  go_wp2_with fail
  refine HBB.mono ?_
  rintro e w4 ⟨rfl, hb4⟩
  have T4' := HT3.out.keep hb4
  have HT4 := Lib.hid T4'
  have HK4 := Lib.hid T4'.below
  clear HT3 HK3 HBB hb4 a0 a1 a2 a3 d0 d1 d2 d3
  obtain ⟨a0, a1, a2, a3⟩ := T4'.two.cells3
  obtain ⟨d0, d1, d2, d3⟩ := T4'.three.cells3
  clear T4'
  by_cases q4 : bu.1 = 0
  case neg =>
    have hd4 : (bu.1 != 0) = true := by simp [q4]
    have HN := Lib.hid (show cs = bu.1 by rw [HE.out, whyC, if_neg (by simp [q1]), if_neg (by omega), if_neg (by omega), if_pos q4])
    clear q1 q2 q3 q4
    go_wp2
    go_ret2
    exact ⟨_, ret_why HN.out, HK4.out⟩
  have hd4 : (bu.1 != 0) = false := by simp [q4]
  have HUU := HU.out w4
  clear HU
  go_wp2_with fail
  refine HUU.mono ?_
  rintro e w5 ⟨rfl, hb5⟩
  have HK5 := Lib.hid (HT4.out.keep hb5).below
  clear HT4 HK4 HUU hb5 a0 a1 a2 a3 d0 d1 d2 d3
  cases us with
  | true =>
    have HN := Lib.hid (show cs = 15 by rw [HE.out, whyC, if_neg (by simp [q1]), if_neg (by omega), if_neg (by omega), if_neg (by simp [q4]), if_pos rfl])
    clear q1 q2 q3 q4
    go_wp2
    go_ret2
    exact ⟨_, ret_why HN.out, HK5.out⟩
  | false =>
    have HN := Lib.hid (show cs = 0 by rw [HE.out, whyC, if_neg (by simp [q1]), if_neg (by omega), if_neg (by omega), if_neg (by simp [q4]), if_neg (by simp)])
    clear q1 q2 q3 q4
    go_wp2
    go_ret2
    exact ⟨_, ret_why HN.out, HK5.out⟩
end Go.Proofs.YtiinnoahopnkcaaGreatDoor

/- The reference's Place and Goal of layer 5. -/
namespace Go.Proofs.YtiinnoahopnkcaaGreatDoor
set_option linter.unusedSimpArgs false
open Go.RowKit
set_option linter.unusedVariables false

set_option maxHeartbeats 800000 in
/-- dunnageref05.Place. -/
theorem rPlace05_any (l : List PodD) (id : Int) (A : Option Addr) (n c B : Nat) (v1 v2 : Value) (w : World) (hn : n = l.length) (hl : n ≤ 1000) (hB : B ≤ w.heap.size) (hr : Recs 8 cellsP w B A l) :
    Calls Tryz.prog 78 #[.agg #[.slice A n c, v1, v2], .int .i64 id] w fun e w' => e = .returned (.int .i64 (place PodD.id id l 0)) ∧ Below w.heap.size w w' := by
  have HR := Lib.hid hr
  have HL := Lib.hid hn
  clear hr hn
  go_enter Tryz.func78, Tryz.ntmps78
  go_wp2
  go_loop [5] (FindRel PodD.id id l) (fun i => n - (intOf i).toNat)
  case atStart => exact ⟨0, by omega, rfl, rfl⟩
  case round =>
    obtain ⟨k, hk, rfl, hp⟩ := hrel
    have HP := Lib.hid hp
    clear hp
    by_cases hlt : k < n
    · have hkl : k < l.length := by have := HL.out; omega
      obtain ⟨b, o, rfl, hb, hcell⟩ := HR.out.at hkl
      have hc : w.cell? ⟨b, o + k * 8, none⟩ = some (.int .i64 l[k].id) := hcell 0 _ rfl
      have hbl : b < w.heap.size := by omega
      clear hcell
      by_cases he : l[k].id = id
      · have HE := Lib.hid (place_here hkl he HP.out)
        obtain rfl := he
        go_wp2
        go_ret
        exact ⟨ret_int HE.out.symm, (Below.refl _ _).alloc (Nat.le_refl _) _⟩
      · have HE := Lib.hid (place_step hkl he HP.out)
        go_wp2
        go_round
        case rel => exact ⟨k + 1, by omega, by go_num, HE.out⟩
        case measure => simp [intOf]; omega
    · have HE := Lib.hid (place_end (by have := HL.out; omega) HP.out)
      go_wp2
      go_ret
      exact ⟨ret_int HE.out.symm, (Below.refl _ _).alloc (Nat.le_refl _) _⟩
end Go.Proofs.YtiinnoahopnkcaaGreatDoor

/- append of all records of a slice at a step of a region that draws its order; slices of slices of records. -/
namespace Go.Proofs.YtiinnoahopnkcaaGreatDoor
set_option linter.unusedSimpArgs false
open Go.RowKit
set_option linter.unusedVariables false

section
variable {α : Type} {size : Nat} {cells : α → List Value} {w : World} {B : Nat} {xs : List α}
theorem Recs.drop {b o : Nat} (h : Recs size cells w B (some ⟨b, o, none⟩) xs) (k : Nat) : Recs size cells w B (some ⟨b, o + k * size, none⟩) (xs.drop k) := by
  rcases h with h | ⟨b', o', h1, h2, h3⟩
  · exact .inl (by simp [h])
  · injection h1 with h1
    injection h1 with h1 h1'
    subst h1 h1'
    refine .inr ⟨b, o + k * size, rfl, h2, fun i hi j u hu => ?_⟩
    have hi' : k + i < xs.length := by simp at hi; omega
    rw [List.getElem_drop] at hu
    have := h3 (k + i) hi' j u hu
    rwa [Nat.add_mul, ← Nat.add_assoc] at this
end
theorem Keeps.grow {W v v' : World} {B : Nat} (h : Keeps W v) (hb : Below B v v') (hB : W.heap.size ≤ B) : Keeps W v' := Keeps.of (h.2.trans (hb.mono hB))
section
variable {ops : Array Oper} {o : Oper} {a : Act} {Q : Exit → Act → World → Prop} {wr : World} {K : Act → World → Prop} {E : Prop}
set_option maxRecDepth 100000 in
theorem step_recsA {α : Type} {cells : α → List Value} (t e : TypeId) (z : Value) (size bytes : Nat) (ht : Tryz.prog.underlying t = some (.slice e)) (hinfo : (Tryz.prog.info? e).map (fun i => (i.zero, i.size, i.bytes)) = some (some z, size, bytes)) (hz : z.cells.size = size) (hsz : 0 < size) (hby : bytes ≤ 1000)
    (hc : ∀ x, (cells x).length = size) (hu : ∀ x, ∀ u ∈ cells x, u.oneCell' = true)
    (hgd : o.guard = none) (s x : Operand) (ho : o.op = .call { callee := .builtin .append, args := #[s, x], argTypes := #[t, t] })
    (B R : Nat) (gv cv n m : Nat) (xs ys : List α) (ad : Addr) (c : Nat) (hown : wr.ownsRow B e size (.slice (some ⟨gv, 0, none⟩) n cv) n (xs.flatMap cells)) (hrow : Recs size cells wr R (some ad) ys) (hB : B ≤ wr.heap.size) (hl : n + m ≤ 2000000)
    (hs : a.eval s = .slice (some ⟨gv, 0, none⟩) n cv) (hx : a.eval x = .slice (some ad) m c) (hm : m = ys.length)
    (h : ∀ g cap w', w'.ownsRow B e size (.slice (some ⟨g, 0, none⟩) (n + m) cap) (n + m) ((xs ++ ys).flatMap cells) → Below B wr w' → (g = gv ∨ g = wr.heap.size) → g < w'.heap.size →
      (∀ b o', b ≠ gv → b < wr.heap.size → w'.cell? ⟨b, o', none⟩ = wr.cell? ⟨b, o', none⟩ ∧ w'.frozen? ⟨b, o', none⟩ = wr.frozen? ⟨b, o', none⟩) → wr.heap.size ≤ w'.heap.size → K (a.put o.dst (.slice (some ⟨g, 0, none⟩) (n + m) cap)) w') :
    if Region.wanted o (yielded ops a.tmps) = true then Oper.wp Tryz.prog o a wr K Q else E := by
  obtain ⟨i0, hi, hz0, hz1, hz2⟩ := info_parts3 hinfo
  have hw : Region.wanted o (yielded ops a.tmps) = true := by simp [Region.wanted, hgd]
  rw [if_pos hw]
  have hn1 : ∀ j u, (ys.flatMap cells)[j]? = some u → wr.cell? (ad.add j) = some u := by
    intro j y hy
    rcases hrow with h0 | ⟨b, o', h0, hb, h1⟩
    · rw [h0] at hy; simp at hy
    · injection h0 with h0
      subst h0
      have hj := (List.getElem?_eq_some_iff.1 hy).1
      rw [flatMap_len hc] at hj
      have hi' : j / size < ys.length := Nat.div_lt_of_lt_mul (by rw [Nat.mul_comm]; exact hj)
      have hjm : j % size < size := Nat.mod_lt _ hsz
      have hdm : j / size * size + j % size = j := by rw [Nat.mul_comm]; exact Nat.div_add_mod j size
      have e1 := flatMap_get (size := size) hc hi' hjm
      rw [hdm] at e1
      have := h1 (j / size) hi' (j % size) y (by rw [← e1]; exact hy)
      rw [Addr.add_lit, ← hdm]
      rwa [Nat.add_assoc] at this
  have hn2 : ∀ u ∈ ys.flatMap cells, u.oneCell' = true := by
    intro u hu'
    rcases List.mem_flatMap.1 hu' with ⟨x, _, hx'⟩
    exact hu x u hx'
  obtain ⟨v', w', hr, h2, h3, h4, h5⟩ := run_append_own_at (P := Tryz.prog) wr B t o.type e i0 z size bytes ht hi hz0 hz1 hz2 hz hsz _ n (xs.flatMap cells) hown ad m c (ys.flatMap cells) (by rw [flatMap_len hc, hm]) hn1 hn2 (by unfold maxLen; omega) (by have : (n + m) * bytes ≤ (n + m) * 1000 := Nat.mul_le_mul_left _ hby; omega) hB
  have h1 : ∃ g cap, v' = .slice (some ⟨g, 0, none⟩) (n + m) cap ∧ g < w'.heap.size := by
    rcases h2.2 with ⟨hv, _⟩ | ⟨g, cap, cur, hv, _, hg, _⟩
    · have := (h4.1 hv).1; cases this
    · exact ⟨g, cap, hv, (Array.getElem?_eq_some_iff.1 hg).1⟩
  obtain ⟨g, cap, rfl, hlt⟩ := h1
  unfold Oper.wp execOp
  simp only [ho, resolve, invoke, builtin, Sem.run_bind, Sem.run_pure, Result.andThen_ok, List.map_toArray, List.map_cons, List.map_nil, hs, hx, hr]
  refine h g cap w' (by rw [List.flatMap_append]; exact h2) ((Below.refl B wr).grown h3 hB (fun j hj => (hown.lt j hj).1)) ?_ hlt (fun b o' hne hb => ?_) h3.size
  · rcases h5 with h5 | h5
    · left; simpa [Value.ownBlock] using h5
    · right; simpa [Value.ownBlock] using h5
  · have hne' : some b ≠ (Value.slice (some ⟨gv, 0, none⟩) n cv).ownBlock := by simpa [Value.ownBlock] using hne
    exact ⟨World.cell?_of_block (h3.block b hb hne'), World.frozen?_of_block (h3.block b hb hne')⟩
end
end Go.Proofs.YtiinnoahopnkcaaGreatDoor

/- The head of layer 6's laws: the document's example, and a node without room. -/
namespace Go.Proofs.YtiinnoahopnkcaaGreatDoor
set_option linter.unusedSimpArgs false
open Go.RowKit
set_option linter.unusedVariables false

def upN6 : NodeD := ⟨3, 1, ⟨5, 0, 0, 0⟩, ⟨1, 0, 0, 0⟩⟩
def upP6 : PodD := ⟨1, 0, 0, ⟨5, 0, 0, 0⟩, 3⟩
theorem up6_rest : restD [upN6] [] 3 = (⟨4, 0, 0, 0⟩, 0) := by rfl
theorem up6_full : roomOf [upN6] [upP6] = (9, 0) := by decide
theorem up6_none : roomOf [upN6] [] = (0, -1) := by decide
theorem upN6_ok : ∀ x ∈ [upN6], x.Ok := by
  intro x hx
  obtain rfl := List.mem_singleton.1 hx
  exact ⟨⟨by decide, by decide⟩, ⟨by decide, by decide⟩, ⟨⟨by decide, by decide⟩, ⟨by decide, by decide⟩, ⟨by decide, by decide⟩, ⟨by decide, by decide⟩⟩, ⟨⟨by decide, by decide⟩, ⟨by decide, by decide⟩, ⟨by decide, by decide⟩, ⟨by decide, by decide⟩⟩⟩
theorem upP6_ok : ∀ x ∈ [upP6], x.Ok := by
  intro x hx
  obtain rfl := List.mem_singleton.1 hx
  exact ⟨⟨by decide, by decide⟩, ⟨by decide, by decide⟩, ⟨by decide, by decide⟩, ⟨⟨by decide, by decide⟩, ⟨by decide, by decide⟩, ⟨by decide, by decide⟩, ⟨by decide, by decide⟩⟩, ⟨by decide, by decide⟩⟩
theorem no_ok {α : Type} {Ok : α → Prop} : ∀ p ∈ ([] : List α), Ok p := fun _ h => by simp at h

end Go.Proofs.YtiinnoahopnkcaaGreatDoor

/- The law RoomTells. -/
namespace Go.Proofs.YtiinnoahopnkcaaGreatDoor
set_option linter.unusedSimpArgs false
open Go.RowKit
set_option linter.unusedVariables false

theorem vec_not_self (x : V4) (w : World) : (binOp .neq 51 (.agg #[.int .u64 x.a, .int .u64 x.b, .int .u64 x.c, .int .u64 x.d]) (.agg #[.int .u64 x.a, .int .u64 x.b, .int .u64 x.c, .int .u64 x.d])).run Tryz.prog w = .ok (.bool false) w := by
  rw [vec_neq, vecEq_self]
  rfl
theorem few06 {n1 n2 n3 n5 : Nat} (h : few05 n1 n2 n3 0 n5 = true) : n1 ≤ 40 ∧ n2 ≤ 40 ∧ n3 ≤ 40 ∧ n5 ≤ 40 := by
  simp [few05] at h
  omega
/-- What Code tells of what Rest told. -/
theorem code_of_rest {c : Int} (h : c ≠ 0 → 1 ≤ c ∧ c ≤ 17) (w : World) : Calls Tryz.prog 12 #[codeV c] w fun e w' => e = .returned (.int .i64 c) ∧ w = w' := by
  by_cases h0 : c = 0
  · subst h0; exact code_nil w
  · rw [codeV_pos h0]; exact code_any c (h h0).1 (h h0).2 w
theorem uses (l : List PodD) (node : Int) (hlo : ∀ p ∈ l, p.Ok) (A4 : Option Addr) (n4 c4 : Nat) (v1 v2 : Value) (hn4 : n4 = l.length) (hl4 : n4 ≤ 400) : ∃ (z : V4) (ok : Bool) (eu : Value),
    (∀ W, Recs 8 cellsP W W.heap.size A4 l → Calls Tryz.prog 126 #[.agg #[.slice A4 n4 c4, v1, v2], .int .i64 node] W fun e w' => e = .returned (.tuple #[aggV z, eu]) ∧ Below W.heap.size W w') ∧
    (∀ W, Recs 8 cellsP W W.heap.size A4 l → Calls Tryz.prog 105 #[.agg #[.slice A4 n4 c4, v1, v2], .int .i64 node] W fun e w' => e = .returned (.tuple #[aggV z, .bool ok]) ∧ Below W.heap.size W w') ∧
    ((ok = true ∧ eu = .nilIface) ∨ (ok = false ∧ eu = .iface 54 (.int .i64 8))) := by
  rcases hu : useD l node with _ | u
  · exact ⟨.zer, false, _, fun W h => roomUse_none hlo hu A4 n4 c4 v1 v2 W hn4 hl4 h, fun W h => refUse_none hlo hu A4 n4 c4 v1 v2 W hn4 hl4 h, .inr ⟨rfl, rfl⟩⟩
  · exact ⟨u, true, _, fun W h => roomUse_some hlo hu A4 n4 c4 v1 v2 W hn4 hl4 h, fun W h => refUse_some hlo hu A4 n4 c4 v1 v2 W hn4 hl4 h, .inl ⟨rfl, rfl⟩⟩

end Go.Proofs.YtiinnoahopnkcaaGreatDoor

/- The law RoomLess. -/
namespace Go.Proofs.YtiinnoahopnkcaaGreatDoor
set_option linter.unusedSimpArgs false
open Go.RowKit
set_option linter.unusedVariables false

theorem own_emptyR (V : World) (B g : Nat) (e : TypeId) (hB : B ≤ V.heap.size) (hg : g = V.heap.size) : (V.alloc (.cells #[] e)).ownsRow B e 8 (.slice (some ⟨g, 0, none⟩) 0 0) 0 (([] : List PodD).flatMap cellsP) := by
  subst hg
  exact World.ownsRow_made V #[] 0 hB (by decide) rfl
theorem far_cells {wr w' : World} {gv : Nat} (h : ∀ b o', b ≠ gv → b < wr.heap.size → w'.cell? ⟨b, o', none⟩ = wr.cell? ⟨b, o', none⟩ ∧ w'.frozen? ⟨b, o', none⟩ = wr.frozen? ⟨b, o', none⟩) :
    (∀ b o', b ≠ gv → b < wr.heap.size → w'.cell? ⟨b, o', none⟩ = wr.cell? ⟨b, o', none⟩) ∧ (∀ b o', b ≠ gv → b < wr.heap.size → w'.frozen? ⟨b, o', none⟩ = wr.frozen? ⟨b, o', none⟩) :=
  ⟨fun b o' h1 h2 => (h b o' h1 h2).1, fun b o' h1 h2 => (h b o' h1 h2).2⟩
theorem Bf.far {V V' : World} {gv b : Nat} {cs : List Value} (h : Bf V b cs) (hne : b ≠ gv) (hcx : ∀ b o', b ≠ gv → b < V.heap.size → V'.cell? ⟨b, o', none⟩ = V.cell? ⟨b, o', none⟩) (hfx : ∀ b o', b ≠ gv → b < V.heap.size → V'.frozen? ⟨b, o', none⟩ = V.frozen? ⟨b, o', none⟩) (hsz : V.heap.size ≤ V'.heap.size) : Bf V' b cs :=
  ⟨Nat.lt_of_lt_of_le h.lt hsz, fun j u hu => (hcx b j hne h.lt).trans (h.cell j u hu), fun o => (hfx b o hne h.lt).trans (h.frozen o)⟩
theorem own_drew {V : World} {B e size n : Nat} {v : Value} {xs : List Value} (h : V.ownsRow B e size v n xs) : V.drew.ownsRow B e size v n xs := h
end Go.Proofs.YtiinnoahopnkcaaGreatDoor

namespace Go.Proofs.YtiinnoahopnkcaaGreatDoor
set_option linter.unusedSimpArgs false
open Go.RowKit
set_option linter.unusedVariables false

theorem makeD_1 {ns : List NodeD} {x : List WantD} {t : StateD} {m : MoveD} (h : wellD m = false) : makeD ns x t m = (noState, 1) := by rw [makeD, if_pos h]
theorem makeD_4 {ns : List NodeD} {x : List WantD} {t : StateD} {m : MoveD} (h : wellD m = true) (h2 : hereD ns t.pods m = false) : makeD ns x t m = (noState, 4) := by rw [makeD, if_neg (by simp [h]), if_pos h2]
theorem makeD_7 {ns : List NodeD} {x : List WantD} {t : StateD} {m : MoveD} (h : wellD m = true) (h2 : hereD ns t.pods m = true) (h3 : canD t.pods m = false) : makeD ns x t m = (noState, 7) := by rw [makeD, if_neg (by simp [h]), if_neg (by simp [h2]), if_pos h3]
theorem makeD_0 {ns : List NodeD} {x : List WantD} {t : StateD} {m : MoveD} (h : wellD m = true) (h2 : hereD ns t.pods m = true) (h3 : canD t.pods m = true) : makeD ns x t m = (behindD x t m, 0) := by rw [makeD, if_neg (by simp [h]), if_neg (by simp [h2]), if_neg (by simp [h3])]
theorem idxD_at {id : Int} {l : List PodD} {i : Nat} (h : place PodD.id id l 0 = i) : idxD id l = i := by rw [idxD, h]; rfl
/-- The state, and an error's number. -/
def RMakeTo (r : StateD × Int) (w : World) (e : Ending) (w' : World) : Prop := ∃ v, e = .returned (.tuple #[v, .int .i64 r.2]) ∧ StateTo r.1 w v w'
theorem Bf.out8 {V : World} {b : Nat} {x : PodD} (h : Bf V b (cellsP x)) : V.cell? ⟨b, 0, none⟩ = some (.int .i64 x.id) ∧ V.cell? ⟨b, 7, none⟩ = some (.int .i64 x.node) ∧ b < V.heap.size := ⟨h.cell 0 _ rfl, h.cell 7 _ rfl, h.lt⟩
/-- What stands while Make is at work: its boxes, the pod's, the next state's, and its pods. -/
structure Nx (a b c d : List Value) (p : PodD) (pb h g n cap : Nat) (pre sh : Int) (l : List PodD) (w V : World) : Prop where
  bx : Mk a b c d w V
  pod : Bf V pb (cellsP p)
  nxt : Bf V h [.slice (some ⟨g, 0, none⟩) n cap, .int .i64 pre, .int .i64 sh]
  lst : Lst g l V
  h1 : w.heap.size + 5 ≤ pb
  h2 : w.heap.size + 5 ≤ h
  h3 : w.heap.size + 5 ≤ g
  n1 : h ≠ g
  n2 : pb ≠ g
  n3 : pb ≠ h
section
variable {a b c d : List Value} {p : PodD} {pb h g n cap : Nat} {pre sh : Int} {l : List PodD} {w V V' : World}
theorem Nx.keep (k : Nx a b c d p pb h g n cap pre sh l w V) (hb : Below V.heap.size V V') : Nx a b c d p pb h g n cap pre sh l w V' :=
  ⟨k.bx.keep hb, k.pod.below hb k.pod.lt, k.nxt.below hb k.nxt.lt, k.lst.below hb, k.h1, k.h2, k.h3, k.n1, k.n2, k.n3⟩
theorem Mk.past (k : Mk a b c d w V) {q : Addr} (hq : w.heap.size + 5 ≤ q.block) (v : Value) : Mk a b c d w (V.setCell q v) :=
  ⟨k.snap.other (by omega) v, k.spec.other (by omega) v, k.state.other (by omega) v, k.move.other (by omega) v, k.res.other (by omega) v, k.below.setCell (by omega) v⟩
theorem Nx.setPre (k : Nx a b c d p pb h g n cap pre sh l w V) (z : Int) : Nx a b c d p pb h g n cap z sh l w (V.setCell ⟨h, 1, none⟩ (.int .i64 z)) :=
  ⟨k.bx.past k.h2 _, k.pod.other (fun e => k.n3 e.symm) _, k.nxt.set 1 _, k.lst.other k.n1 _, k.h1, k.h2, k.h3, k.n1, k.n2, k.n3⟩
theorem Nx.setSh (k : Nx a b c d p pb h g n cap pre sh l w V) (z : Int) : Nx a b c d p pb h g n cap pre z l w (V.setCell ⟨h, 2, none⟩ (.int .i64 z)) :=
  ⟨k.bx.past k.h2 _, k.pod.other (fun e => k.n3 e.symm) _, k.nxt.set 2 _, k.lst.other k.n1 _, k.h1, k.h2, k.h3, k.n1, k.n2, k.n3⟩
theorem Nx.put (k : Nx a b c d p pb h g n cap pre sh l w V) {i j : Nat} (hi : i < l.length) (hj : j < 8) (u : Value) (p' : PodD) (hp : cellsP p' = (cellsP l[i]).set j u) : Nx a b c d p pb h g n cap pre sh (l.set i p') w (V.setCell ⟨g, i * 8 + j, none⟩ u) :=
  ⟨k.bx.past k.h3 _, k.pod.other (fun e => k.n2 e.symm) _, k.nxt.other (fun e => k.n1 e.symm) _, k.lst.put hi hj u p' hp, k.h1, k.h2, k.h3, k.n1, k.n2, k.n3⟩
theorem Nx.facts (k : Nx a b c d p pb h g n cap pre sh l w V) :
    (V.cell? ⟨pb, 7, none⟩ = some (.int .i64 p.node) ∧ pb < V.heap.size) ∧
    (V.cell? ⟨h, 0, none⟩ = some (.slice (some ⟨g, 0, none⟩) n cap) ∧ V.cell? ⟨h, 1, none⟩ = some (.int .i64 pre) ∧ V.cell? ⟨h, 2, none⟩ = some (.int .i64 sh) ∧ h < V.heap.size) ∧
    (V.frozen? ⟨h, 1, none⟩ = false ∧ V.frozen? ⟨h, 2, none⟩ = false) ∧ g < V.heap.size :=
  ⟨⟨k.pod.cell 7 _ rfl, k.pod.lt⟩, ⟨k.nxt.cell 0 _ rfl, k.nxt.cell 1 _ rfl, k.nxt.cell 2 _ rfl, k.nxt.lt⟩, ⟨k.nxt.frozen 1, k.nxt.frozen 2⟩, k.lst.lt⟩
theorem Nx.cells7 (k : Nx a b c d p pb h g n cap pre sh l w V) {i : Nat} (hi : i < l.length) {q : PodD} (hq : l[i] = q) : V.cell? ⟨g, i * 8 + 7, none⟩ = some (.int .i64 q.node) ∧ V.frozen? ⟨g, i * 8 + 7, none⟩ = false :=
  ⟨k.lst.at hi hq 7 _ rfl, k.lst.frozen _⟩
theorem Nx.cells4 (k : Nx a b c d p pb h g n cap pre sh l w V) {i : Nat} (hi : i < l.length) {q : PodD} (hq : l[i] = q) :
    (V.cell? ⟨g, i * 8 + 3, none⟩ = some (.int .u64 q.req.a) ∧ V.cell? ⟨g, i * 8 + 4, none⟩ = some (.int .u64 q.req.b) ∧ V.cell? ⟨g, i * 8 + 5, none⟩ = some (.int .u64 q.req.c) ∧ V.cell? ⟨g, i * 8 + 6, none⟩ = some (.int .u64 q.req.d)) ∧
    (V.frozen? ⟨g, i * 8 + 3, none⟩ = false ∧ V.frozen? ⟨g, i * 8 + 4, none⟩ = false ∧ V.frozen? ⟨g, i * 8 + 5, none⟩ = false ∧ V.frozen? ⟨g, i * 8 + 6, none⟩ = false) :=
  ⟨⟨k.lst.at hi hq 3 _ rfl, k.lst.at hi hq 4 _ rfl, k.lst.at hi hq 5 _ rfl, k.lst.at hi hq 6 _ rfl⟩, k.lst.frozen _, k.lst.frozen _, k.lst.frozen _, k.lst.frozen _⟩
theorem Nx.node (k : Nx a b c d p pb h g n cap pre sh l w V) {i : Nat} (hi : i < l.length) {q : PodD} (hq : l[i] = q) (z : Int) : Nx a b c d p pb h g n cap pre sh (l.set i ⟨q.id, q.load, q.prio, q.req, z⟩) w (V.setCell ⟨g, i * 8 + 7, none⟩ (.int .i64 z)) :=
  k.put hi (j := 7) (by omega) (.int .i64 z) ⟨q.id, q.load, q.prio, q.req, z⟩ (by rw [hq]; rfl)
theorem Nx.req (k : Nx a b c d p pb h g n cap pre sh l w V) {i : Nat} (hi : i < l.length) {q : PodD} (hq : l[i] = q) (r : V4) : Nx a b c d p pb h g n cap pre sh (l.set i ⟨q.id, q.load, q.prio, r, q.node⟩) w ((((V.setCell ⟨g, i * 8 + 3, none⟩ (.int .u64 r.a)).setCell ⟨g, i * 8 + 4, none⟩ (.int .u64 r.b)).setCell ⟨g, i * 8 + 5, none⟩ (.int .u64 r.c)).setCell ⟨g, i * 8 + 6, none⟩ (.int .u64 r.d)) := by
  have k1 := k.put hi (j := 3) (by omega) (.int .u64 r.a) ⟨q.id, q.load, q.prio, ⟨r.a, q.req.b, q.req.c, q.req.d⟩, q.node⟩ (by rw [hq]; rfl)
  have k2 := k1.put (i := i) (by simpa using hi) (j := 4) (by omega) (.int .u64 r.b) ⟨q.id, q.load, q.prio, ⟨r.a, r.b, q.req.c, q.req.d⟩, q.node⟩ (by rw [List.getElem_set_self]; rfl)
  have k3 := k2.put (i := i) (by simpa using hi) (j := 5) (by omega) (.int .u64 r.c) ⟨q.id, q.load, q.prio, ⟨r.a, r.b, r.c, q.req.d⟩, q.node⟩ (by rw [List.getElem_set_self]; rfl)
  have k4 := k3.put (i := i) (by simpa using hi) (j := 6) (by omega) (.int .u64 r.d) ⟨q.id, q.load, q.prio, r, q.node⟩ (by rw [List.getElem_set_self]; rfl)
  rw [List.set_set, List.set_set, List.set_set] at k4
  exact k4
/-- What is told at the end. -/
theorem Nx.done (k : Nx a b c d p pb h g n cap pre sh l w V) (hn : n = l.length) (hc : n ≤ cap) (hm : cap ≤ maxLen) {x y z : Value} :
    StateTo ⟨l, pre, sh⟩ w (stateV (some ⟨g, 0, none⟩) n cap pre sh) (((V.setCell ⟨w.heap.size + 4, 0, none⟩ x).setCell ⟨w.heap.size + 4, 1, none⟩ y).setCell ⟨w.heap.size + 4, 2, none⟩ z) := by
  subst hn
  have hg := k.h3
  have hl := (((k.lst.other (p := ⟨w.heap.size + 4, 0, none⟩) (by show w.heap.size + 4 ≠ g; omega) x).other (p := ⟨w.heap.size + 4, 1, none⟩) (by show w.heap.size + 4 ≠ g; omega) y).other (p := ⟨w.heap.size + 4, 2, none⟩) (by show w.heap.size + 4 ≠ g; omega) z)
  exact ⟨_, _, rfl, ⟨hc, hm, (by intro e; cases e), hl.recs⟩, (by intro a e; injection e with e; subst e; show w.heap.size ≤ g; omega), ((k.bx.below.setCell (by show w.heap.size ≤ w.heap.size + 4; omega) _).setCell (by show w.heap.size ≤ w.heap.size + 4; omega) _).setCell (by show w.heap.size ≤ w.heap.size + 4; omega) _⟩
theorem Mk.no0 (k : Mk a b c d w V) : StateTo noState w (stateV none 0 0 0 0) V := ⟨none, 0, rfl, Out.nil rfl, (by intro a e; cases e), k.below⟩
theorem Mk.late (k : Mk a b c d w V) (hb : Below V.heap.size V V') : Mk a b c d w V' := k.keep hb
end
theorem Lst.own {l : List PodD} {w : World} {B g n cap : Nat} (hn : n = l.length) (h : w.ownsRow B 68 8 (.slice (some ⟨g, 0, none⟩) n cap) n (l.flatMap cellsP)) : Lst g l w ∧ n ≤ cap ∧ cap ≤ maxLen ∧ B ≤ g := by
  have ho := out_of_own lenP hn h
  rcases h.2 with ⟨hv, _⟩ | ⟨g', cap', cur, hv, hb, hg, hnc, hm, _⟩
  · cases hv
  · injection hv with e1 _ e2
    injection e1 with e1
    injection e1 with e1 _ _
    subst e1 e2
    refine ⟨⟨(Array.getElem?_eq_some_iff.1 hg).1, fun i hi j u hu => ?_, fun o => by simp [World.frozen?, hg]⟩, hnc, hm, hb⟩
    obtain ⟨b, o, e, _, hc⟩ := ho.2.2.2.at hi
    injection e with e
    injection e with e1 e2
    subst e1 e2
    simpa using hc j u hu
end Go.Proofs.YtiinnoahopnkcaaGreatDoor
