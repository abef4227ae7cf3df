/- The law ClusterFound, walked. -/
import Derived.Test.YtaeklohgheildaaDoorDK
import Derived.Test.YtaeklohgheildaaDoorCI
import Derived.Test.YtaeklohgheildaaDoorES
import Derived.IntWalk
namespace Go.Proofs.YtaeklohgheildaaDoor
open Go.RowKit
set_option linter.unusedVariables false

theorem node_same' (x : NodeD) (w : World) : (binOp .neq 45 (aggN x) (aggN x)).run Tryd.prog w = .ok (.bool false) w := node_same x w
theorem load_same' (x : LoadD) (w : World) : (binOp .neq 49 (aggL x) (aggL x)).run Tryd.prog w = .ok (.bool false) w := load_same x w
def FoundRel (n : Nat) (W : World) (B : Nat) (i : Value) (wr : World) : Prop := ∃ k : Nat, k ≤ n ∧ i = .int .i64 k ∧ Below B W wr
def RiseRel (n : Nat) (W : World) (B : Nat) (i : Value) (wr : World) : Prop := ∃ k : Nat, 1 ≤ k ∧ (k ≤ n ∨ k = 1) ∧ i = .int .i64 k ∧ Below B W wr
theorem found_here {α : Type} {agg : α → Value} {zero : Value} {f : α → Int} {l : List α} {w : World} {e : Ending} {w' : World} {k : Nat} (h : k < l.length) (hp : place f (f l[k]) l 0 = k) (hn : FindTo agg zero f l (f l[k]) w e w') : e = .returned (.tuple #[agg l[k], .bool true]) ∧ Below w.heap.size w w' := by
  obtain ⟨⟨h1, _⟩ | ⟨i, hi, h1, h2⟩, hb⟩ := hn
  · omega
  · obtain rfl : i = k := by omega
    exact ⟨h2, hb⟩
theorem Keeps.refl (W : World) : Keeps W W := Keeps.of (Below.refl _ _)
theorem Keeps.drew {W v : World} (h : Keeps W v) : Keeps W v.drew := Keeps.of (Below.drew h.2)
theorem Keeps.set {W v : World} {p : Addr} (h : Keeps W v) (hp : W.heap.size ≤ p.block) (x : Value) : Keeps W (v.setCell p x) := Keeps.of (h.2.setCell hp x)
theorem rising_at : ∀ {l : List Int}, Rising l → ∀ j (h : j + 1 < l.length), l[j] < l[j + 1]
  | [], _, _, h => by simp at h
  | x :: r, hr, 0, h => hr.1 _ (by simp)
  | x :: r, hr, j + 1, h => by simpa using rising_at hr.2 j (by simpa using h)

set_option maxHeartbeats 12800000 in
set_option maxRecDepth 100000 in
theorem clusterFound_in (s : SnapD) (A1 A2 A3 : Option Addr) (n1 c1 n2 c2 n3 c3 : Nat) (w : World) (hg : Laid w) (hok : s.Ok) (hn1 : n1 = s.nodes.length) (hn2 : n2 = s.loads.length) (hn3 : n3 = s.pods.length) (hl1 : n1 ≤ 40) (hl2 : n2 ≤ 40) (hl3 : n3 ≤ 40)
    (p1 : n1 ≤ c1) (p2 : n2 ≤ c2) (p3 : n3 ≤ c3) (q1 : c1 ≤ maxLen) (q2 : c2 ≤ maxLen) (q3 : c3 ≤ maxLen)
    (hr1 : Recs 10 cellsN w w.heap.size A1 s.nodes) (hr2 : Recs 5 cellsL w w.heap.size A2 s.loads) (hr3 : Recs 8 cellsP w w.heap.size A3 s.pods) :
    Calls Tryd.prog 6 #[snapV A1 A2 A3 n1 c1 n2 c2 n3 c3] w fun e w' => e = .returned (.bool true) ∧ Below w.heap.size w w' := by
  have HG := Lib.hid hg
  have HN1 := Lib.hid hn1
  have HN2 := Lib.hid hn2
  have HR1 := Lib.hid hr1
  have HR2 := Lib.hid hr2
  have HCH := Lib.hid (fun (v : World) (hv : Below w.heap.size w v) => check_holds s A1 A2 A3 n1 c1 n2 c2 n3 c3 w.heap.size v hok hn1 hn2 hn3 hl1 hl2 hl3 p1 p2 p3 q1 q2 q3 hv.size (hr1.below hv (Nat.le_refl _)) (hr2.below hv (Nat.le_refl _)) (hr3.below hv (Nat.le_refl _)))
  clear hg hn1 hn2 hn3 hr1 hr2 hr3 hok q1 q2 q3 p1 p2 p3
  have b00 : Below w.heap.size w (w.alloc (.cells #[.slice A1 n1 c1, .slice A2 n2 c2, .slice A3 n3 c3] 26)) := (Below.refl _ w).alloc (Nat.le_refl _) _
  have HG0 := Lib.hid (HG.out.below b00 (Nat.le_refl _))
  go_enter Tryd.func6, Tryd.ntmps6
  go_wp2_with fail
  refine (up_any check_holds _ HG0.out).mono ?_
  rintro e w1 ⟨rfl, hb1⟩
  have k1 : Below (w.heap.size + 1) (w.alloc (.cells #[.slice A1 n1 c1, .slice A2 n2 c2, .slice A3 n3 c3] 26)) w1 := hb1.mono (by simp)
  obtain ⟨b0, b1, b2⟩ := box_cells k1
  have hz1 : w.heap.size + 1 ≤ w1.heap.size := by have := k1.size; simpa using this
  go_wp2_with fail
  refine (few_any _ _ _ _ _ _ _ _ _ _).mono ?_
  rintro e w2 ⟨rfl, hb2⟩
  have hfew : decide (n1 ≤ 40 ∧ n2 ≤ 40 ∧ n3 ≤ 40) = true := by simp [hl1, hl2, hl3]
  have k2 := k1.trans (hb2.mono (show w.heap.size + 1 ≤ w1.heap.size by omega))
  have hz2 : w.heap.size + 1 ≤ w2.heap.size := by have := k2.size; simpa using this
  obtain ⟨d0, d1, d2⟩ := box_cells k2
  have kw2 : Below w.heap.size w w2 := b00.trans (k2.mono (by omega))
  clear b0 b1 b2
  go_wp2_with fail
  refine (HCH.out _ kw2).mono ?_
  rintro e w3 ⟨u, rfl, hu, hb3⟩
  have k3 := k2.trans (hb3.mono (show w.heap.size + 1 ≤ w2.heap.size by omega))
  have kw3 : Below w.heap.size w w3 := b00.trans (k3.mono (by omega))
  clear d0 d1 d2
  by_cases hck : (check s).1 = 0
  · have hcz := check_zero hck
    obtain rfl := errIs_none hu hck (by rw [hcz])
    obtain ⟨hlg, hf1, hf2, hf3⟩ := check_ok.1 hck
    have HF1 := Lib.hid hf1
    have HF2 := Lib.hid hf2
    have HPOS : Hid (0 < s.nodes.length) := by
      show _ < _
      simp only [large, decide_eq_false_iff_not] at hlg
      omega
    clear hu hck hcz hlg hf1 hf2 hf3
    go_wp2
    go_loopw [5] (FoundRel n1 (w.alloc (.cells #[.slice A1 n1 c1, .slice A2 n2 c2, .slice A3 n3 c3] 26)) (w.heap.size + 1)) (fun i _ => n1 - (intOf i).toNat)
    case atStart => exact ⟨0, by omega, rfl, k3⟩
    case round =>
      obtain ⟨k, hk, rfl, hbr⟩ := hrel
      obtain ⟨b0, b1, b2⟩ := box_cells hbr
      have hzr : w.heap.size + 1 ≤ wr.heap.size := by have := hbr.size; simpa using this
      have kwr : Below w.heap.size w wr := b00.trans (hbr.mono (by omega))
      by_cases hlt : k < n1
      · skip
        have hkl : k < s.nodes.length := by have := HN1.out; omega
        have HPL := Lib.hid (found nodeBad_rises HF1.out k hkl)
        have HND0 := Lib.hid (fun (v : World) (hv : Below w.heap.size w v) => node_any s.nodes s.nodes[k].id A1 n1 c1 (.slice A2 n2 c2) (.slice A3 n3 c3) v HN1.out (by omega) ((HR1.out.below hv (Nat.le_refl _)).more hv.size))
        have HFH := Lib.hid (fun (v : World) (e : Ending) (w' : World) => found_here (agg := aggN) (zero := zeroN) (w := v) (e := e) (w' := w') hkl HPL.out)
        obtain ⟨b, o, rfl, hb, he⟩ := HR1.out.at hkl
        generalize hx : s.nodes[k] = nd at *
        clear hx
        have e0 : wr.cell? ⟨b, o + k * 10, none⟩ = some (.int .i64 nd.id) := (kwr.cell (p := ⟨b, o + k * 10, none⟩) hb).trans (he 0 _ rfl)
        have e1 : wr.cell? ⟨b, o + k * 10 + 1, none⟩ = some (.int .i64 nd.zone) := (kwr.cell (p := ⟨b, o + k * 10 + 1, none⟩) hb).trans (he 1 _ rfl)
        have e2 : wr.cell? ⟨b, o + k * 10 + 2, none⟩ = some (.int .u64 nd.cap.a) := (kwr.cell (p := ⟨b, o + k * 10 + 2, none⟩) hb).trans (he 2 _ rfl)
        have e3 : wr.cell? ⟨b, o + k * 10 + 3, none⟩ = some (.int .u64 nd.cap.b) := (kwr.cell (p := ⟨b, o + k * 10 + 3, none⟩) hb).trans (he 3 _ rfl)
        have e4 : wr.cell? ⟨b, o + k * 10 + 4, none⟩ = some (.int .u64 nd.cap.c) := (kwr.cell (p := ⟨b, o + k * 10 + 4, none⟩) hb).trans (he 4 _ rfl)
        have e5 : wr.cell? ⟨b, o + k * 10 + 5, none⟩ = some (.int .u64 nd.cap.d) := (kwr.cell (p := ⟨b, o + k * 10 + 5, none⟩) hb).trans (he 5 _ rfl)
        have e6 : wr.cell? ⟨b, o + k * 10 + 6, none⟩ = some (.int .u64 nd.held.a) := (kwr.cell (p := ⟨b, o + k * 10 + 6, none⟩) hb).trans (he 6 _ rfl)
        have e7 : wr.cell? ⟨b, o + k * 10 + 7, none⟩ = some (.int .u64 nd.held.b) := (kwr.cell (p := ⟨b, o + k * 10 + 7, none⟩) hb).trans (he 7 _ rfl)
        have e8 : wr.cell? ⟨b, o + k * 10 + 8, none⟩ = some (.int .u64 nd.held.c) := (kwr.cell (p := ⟨b, o + k * 10 + 8, none⟩) hb).trans (he 8 _ rfl)
        have e9 : wr.cell? ⟨b, o + k * 10 + 9, none⟩ = some (.int .u64 nd.held.d) := (kwr.cell (p := ⟨b, o + k * 10 + 9, none⟩) hb).trans (he 9 _ rfl)
        clear he
        have hns := fun v => node_same' nd v
        have hk0 : (0 : Int) ≤ (k : Int) := by omega
        have hk1 : (k : Int) < (n1 : Int) := by omega
        have hbw : b < wr.heap.size := by omega
        have hwl : w.heap.size < wr.heap.size := by omega
        have HND : Hid (∀ v : World, ((∀ b o, b < wr.heap.size → v.cell? ⟨b, o, none⟩ = wr.cell? ⟨b, o, none⟩) ∧ Below wr.heap.size wr v) → Calls Tryd.prog 14 #[.agg #[.slice (some ⟨b, o, none⟩) n1 c1, .slice A2 n2 c2, .slice A3 n3 c3], .int .i64 nd.id] v fun e w' => e = .returned (.tuple #[aggN nd, .bool true]) ∧ Below v.heap.size v w') := fun v hv =>
          (HND0.out v (kwr.trans (hv.2.mono kwr.size))).mono fun e w' h => HFH.out v e w' h
        go_wp2
        go_region_held3 (fun w' => (∀ b o, b < wr.heap.size → w'.cell? ⟨b, o, none⟩ = wr.cell? ⟨b, o, none⟩) ∧ Below wr.heap.size wr w')
          (first | (with_reducible assumption) | (show Keeps wr _; with_reducible (repeat (first | exact Keeps.refl _ | refine Keeps.drew ?_ | refine Keeps.set ?_ (by simp) _ | refine Keeps.alloc ?_ _ | refine Keeps.step ?_ (by assumption)))))
          (first
            | (go_at_call 14; refine (HND.out _ (by assumption)).mono ?_; rintro e w' ⟨rfl, hb⟩; obtain ⟨hcx, hfx⟩ := old_cells hb))
        all_goals
          go_wp2
          go_quiet (fail)
          go_wp2
          go_roundw
          case rel => exact ⟨k + 1, by omega, by go_num, below_drews (hbr.trans ((by assumption : Keeps wr _).2.mono hzr)) _⟩
          case measure => simp [intOf]; omega
      · go_wp2
        clear b0 b1 b2 hk hlt
        go_loopw [8] (FoundRel n2 (w.alloc (.cells #[.slice A1 n1 c1, .slice A2 n2 c2, .slice A3 n3 c3] 26)) (w.heap.size + 1)) (fun i _ => n2 - (intOf i).toNat)
        case atStart => exact ⟨0, by omega, rfl, hbr⟩
        case round =>
          clear hbr hzr kwr
          obtain ⟨k, hk, rfl, hbr⟩ := hrel
          obtain ⟨b0, b1, b2⟩ := box_cells hbr
          have hzr : w.heap.size + 1 ≤ wr.heap.size := by have := hbr.size; simpa using this
          have kwr : Below w.heap.size w wr := b00.trans (hbr.mono (by omega))
          by_cases hlt : k < n2
          · skip
            have hkl : k < s.loads.length := by have := HN2.out; omega
            have HPL := Lib.hid (found loadBad_rises HF2.out k hkl)
            have HND0 := Lib.hid (fun (v : World) (hv : Below w.heap.size w v) => load_any s.loads s.loads[k].id A2 n2 c2 (.slice A1 n1 c1) (.slice A3 n3 c3) v HN2.out (by omega) ((HR2.out.below hv (Nat.le_refl _)).more hv.size))
            have HFH := Lib.hid (fun (v : World) (e : Ending) (w' : World) => found_here (agg := aggL) (zero := zeroL) (w := v) (e := e) (w' := w') hkl HPL.out)
            obtain ⟨b, o, rfl, hb, he⟩ := HR2.out.at hkl
            generalize hx : s.loads[k] = nd at *
            clear hx
            have e0 : wr.cell? ⟨b, o + k * 5, none⟩ = some (.int .i64 nd.id) := (kwr.cell (p := ⟨b, o + k * 5, none⟩) hb).trans (he 0 _ rfl)
            have e1 : wr.cell? ⟨b, o + k * 5 + 1, none⟩ = some (.bool nd.apart) := (kwr.cell (p := ⟨b, o + k * 5 + 1, none⟩) hb).trans (he 1 _ rfl)
            have e2 : wr.cell? ⟨b, o + k * 5 + 2, none⟩ = some (.int .i64 nd.skew) := (kwr.cell (p := ⟨b, o + k * 5 + 2, none⟩) hb).trans (he 2 _ rfl)
            have e3 : wr.cell? ⟨b, o + k * 5 + 3, none⟩ = some (.int .i64 nd.min) := (kwr.cell (p := ⟨b, o + k * 5 + 3, none⟩) hb).trans (he 3 _ rfl)
            have e4 : wr.cell? ⟨b, o + k * 5 + 4, none⟩ = some (.int .i64 nd.max) := (kwr.cell (p := ⟨b, o + k * 5 + 4, none⟩) hb).trans (he 4 _ rfl)
            clear he
            have hns := fun v => load_same' nd v
            have hk0 : (0 : Int) ≤ (k : Int) := by omega
            have hk1 : (k : Int) < (n2 : Int) := by omega
            have hbw : b < wr.heap.size := by omega
            have hwl : w.heap.size < wr.heap.size := by omega
            have HND : Hid (∀ v : World, ((∀ b o, b < wr.heap.size → v.cell? ⟨b, o, none⟩ = wr.cell? ⟨b, o, none⟩) ∧ Below wr.heap.size wr v) → Calls Tryd.prog 15 #[.agg #[.slice A1 n1 c1, .slice (some ⟨b, o, none⟩) n2 c2, .slice A3 n3 c3], .int .i64 nd.id] v fun e w' => e = .returned (.tuple #[aggL nd, .bool true]) ∧ Below v.heap.size v w') := fun v hv =>
              (HND0.out v (kwr.trans (hv.2.mono kwr.size))).mono fun e w' h => HFH.out v e w' h
            go_wp2
            go_region_held3 (fun w' => (∀ b o, b < wr.heap.size → w'.cell? ⟨b, o, none⟩ = wr.cell? ⟨b, o, none⟩) ∧ Below wr.heap.size wr w')
              (first | (with_reducible assumption) | (show Keeps wr _; with_reducible (repeat (first | exact Keeps.refl _ | refine Keeps.drew ?_ | refine Keeps.set ?_ (by simp) _ | refine Keeps.alloc ?_ _ | refine Keeps.step ?_ (by assumption)))))
              (first
                | (go_at_call 15; refine (HND.out _ (by assumption)).mono ?_; rintro e w' ⟨rfl, hb⟩; obtain ⟨hcx, hfx⟩ := old_cells hb))
            all_goals
              go_wp2
              go_quiet (fail)
              go_wp2
              go_roundw
              case rel => exact ⟨k + 1, by omega, by go_num, below_drews (hbr.trans ((by assumption : Keeps wr _).2.mono hzr)) _⟩
              case measure => simp [intOf]; omega
          · have HZ := Lib.hid (zones_any sort_own comp_own s.nodes A1 n1 c1 (.slice A2 n2 c2) (.slice A3 n3 c3) wr HN1.out (by omega) ((HR1.out.below kwr (Nat.le_refl _)).more kwr.size))
            go_wp2_with fail
            refine HZ.out.mono ?_
            rintro e w5 ⟨v, rfl, hown, hb5⟩
            obtain ⟨A, c, rfl, hnc, hnl, hnil⟩ := own_form hown
            have hrow := (Row.of_own hown).1
            have k5 := hbr.trans (hb5.mono (show w.heap.size + 1 ≤ wr.heap.size by omega))
            have hz5 : w.heap.size + 1 ≤ w5.heap.size := by have := k5.size; simpa using this
            obtain ⟨zr, zl, zp⟩ := zones_fold s.nodes [] trivial
            have HRI : Hid (Rising (zonesOf s.nodes)) := zr
            have hm1 : (i64s (zonesOf s.nodes)).length ≤ n1 := by rw [HN1.out, List.length_map]; simpa [zonesOf] using zl
            have hm2 : 1 ≤ (i64s (zonesOf s.nodes)).length := by rw [List.length_map]; exact zp (.inl HPOS.out)
            have HROW := Lib.hid hrow
            clear hown hrow zr zl zp hnil hnl b0 b1 b2
            have HMM : Hid ((i64s (zonesOf s.nodes)).length = (zonesOf s.nodes).length) := List.length_map _
            generalize hzz : (i64s (zonesOf s.nodes)).length = m at *
            clear hzz
            go_wp2
            go_loopw [12] (RiseRel m w5 w5.heap.size) (fun i _ => m - (intOf i).toNat)
            case atStart => exact ⟨1, by omega, by omega, rfl, Below.refl _ _⟩
            case round =>
              obtain ⟨k, hk1, hk2, rfl, hb6⟩ := hrel
              have k6 := k5.trans (hb6.mono hz5)
              obtain ⟨b0, b1, b2⟩ := box_cells k6
              have kw6 := b00.trans (k6.mono (show w.heap.size ≤ w.heap.size + 1 by omega))
              have hm9 : m ≤ 40 := by omega
              have HB6 := Lib.hid hb6
              clear hb6
              by_cases hlt : k < m
              · obtain ⟨j, rfl⟩ : ∃ j, k = j + 1 := ⟨k - 1, by omega⟩
                have hjz : j + 1 < (zonesOf s.nodes).length := by have := HMM.out; omega
                have hjl : j + 1 < (i64s (zonesOf s.nodes)).length := by rw [List.length_map]; exact hjz
                obtain ⟨b, o, rfl, hb, hcell⟩ := HROW.out.at hjl
                have hd0 := rising_at HRI.out j hjz
                have x1 : wr.cell? ⟨b, o + (j + 1), none⟩ = some (.int .i64 (zonesOf s.nodes)[j + 1]) := by rw [HB6.out.cell (p := ⟨b, o + (j + 1), none⟩) hb, hcell (j + 1) hjl]; simp
                have x0 : wr.cell? ⟨b, o + j, none⟩ = some (.int .i64 (zonesOf s.nodes)[j]) := by rw [HB6.out.cell (p := ⟨b, o + j, none⟩) hb, hcell j (by omega)]; simp
                generalize (zonesOf s.nodes)[j + 1] = x at *
                generalize (zonesOf s.nodes)[j] = y at *
                have hd : decide (x ≤ y) = false := decide_eq_false (by omega)
                have hj0 : (0 : Int) ≤ (j : Int) := by omega
                have hj2 : (0 : Int) ≤ (j : Int) + 1 := by omega
                have hj3 : (j : Int) + 1 < (m : Int) := by omega
                have hj4 : (j : Int) < (m : Int) := by omega
                have s1 : IntKind.i64.wrap ((j : Int) + 1 - 1) = (j : Int) := by rw [IntWalk.i64_in _ (by omega)]; omega
                have s2 : IntKind.i64.wrap (j : Int) = (j : Int) := IntWalk.i64_in _ (by omega)
                have s3 : ((j : Int) + 1).toNat = j + 1 := by omega
                clear hd0 hcell
                go_wp2
                go_quiet (fail)
                clear s1 s2 s3
                go_wp2
                go_roundw
                case rel => exact ⟨j + 1 + 1, by omega, by omega, by go_num, below_drews HB6.out _⟩
                case measure => simp [intOf]; omega
              · have e1 : decide ((1 : Int) ≤ (m : Int)) = true := decide_eq_true (by omega)
                have e2 : decide (m ≤ n1) = true := decide_eq_true hm1
                have e3 : decide ((m : Int) ≤ (n1 : Int)) = true := decide_eq_true (by omega)
                go_wp2
                go_ret
                exact ⟨rfl, kw6⟩
  · obtain ⟨t, v, rfl⟩ := errIs_some hu hck
    clear hu hck
    go_wp2
    go_ret
    exact ⟨rfl, kw3⟩
end Go.Proofs.YtaeklohgheildaaDoor
