/- The law CodecBack: for every snapshot, every spec and all moves the call returns true, and each argument reads afterwards as it read before. There is no condition. -/
import Derived.Test.YtjpaeaedfgiomaaZ11

/- The law CodecBack, walked. -/
namespace Go.Proofs.Ytjpaeaedfgiomaa
set_option linter.unusedSimpArgs false
open Go.RowKit
set_option linter.unusedVariables false

set_option maxHeartbeats 3200000 in
set_option maxRecDepth 100000 in
theorem codecBack_long (s : SnapD) (x : SpecD) (m : List MoveD) (A1 A2 A3 A4 A5 : Option Addr) (n1 c1 n2 c2 n3 c3 n4 c4 n5 c5 : Nat) (w : World) (hm5 : n5 ≤ maxLen) (hm4 : n4 ≤ maxLen) (hlong : ¬ (n1 ≤ 40 ∧ n2 ≤ 40 ∧ n3 ≤ 40) ∨ 40 < n4 ∨ 100 < n5) :
    Calls Try.prog 3 #[snapV A1 A2 A3 n1 c1 n2 c2 n3 c3, specV A4 n4 c4 x, .slice A5 n5 c5] w fun e w' => e = .returned (.bool true) ∧ Below w.heap.size w w' := by
  unfold maxLen at hm4 hm5
  have b00 : Below w.heap.size w ((w.alloc (.cells #[.slice A1 n1 c1, .slice A2 n2 c2, .slice A3 n3 c3] 26)).alloc (.cells #[.slice A4 n4 c4, .int .i64 x.preempts, .int .i64 x.shifts] 29)) := below_two _ _ _
  go_enter Try.func3, Try.ntmps3
  go_wp2_with fail
  refine (up4_any _).mono ?_
  rintro e w1 ⟨rfl, hb1⟩
  have k1 : Below (w.heap.size + 2) ((w.alloc (.cells #[.slice A1 n1 c1, .slice A2 n2 c2, .slice A3 n3 c3] 26)).alloc (.cells #[.slice A4 n4 c4, .int .i64 x.preempts, .int .i64 x.shifts] 29)) w1 := hb1.mono (by simp)
  obtain ⟨⟨g0, g1, g2⟩, g3, g4, g5⟩ := box2_cells k1
  have hz1 : w.heap.size + 2 ≤ w1.heap.size := by have := k1.size; simpa using this
  go_wp2_with fail
  refine (few_any _ _ _ _ _ _ _ _ _ _).mono ?_
  rintro e w2 ⟨rfl, hb2⟩
  have k2 := k1.trans (hb2.mono hz1)
  clear g0 g1 g2 g3 g4 g5
  obtain ⟨⟨g0, g1, g2⟩, g3, g4, g5⟩ := box2_cells k2
  have hz2 : w.heap.size + 2 ≤ w2.heap.size := by have := k2.size; simpa using this
  have kw := b00.trans (k2.mono (by omega))
  by_cases hf : n1 ≤ 40 ∧ n2 ≤ 40 ∧ n3 ≤ 40
  · have hd : decide (n1 ≤ 40 ∧ n2 ≤ 40 ∧ n3 ≤ 40) = true := decide_eq_true hf
    rw [hd]
    have hlong' : 40 < n4 ∨ 100 < n5 := by rcases hlong with h | h; exact absurd hf h; exact h
    clear hd hlong hf
    by_cases h4 : 40 < n4
    · go_wp2
      go_ret
      exact ⟨rfl, kw⟩
    · have h5 : 100 < n5 := by omega
      clear hlong'
      go_wp2
      go_ret
      exact ⟨rfl, kw⟩
  · have hd : decide (n1 ≤ 40 ∧ n2 ≤ 40 ∧ n3 ≤ 40) = false := decide_eq_false hf
    rw [hd]
    clear hd hlong hf
    go_wp2
    go_ret
    exact ⟨rfl, kw⟩

set_option maxHeartbeats 12800000 in
set_option maxRecDepth 100000 in
theorem codecBack_in (s : SnapD) (x : SpecD) (m : List MoveD) (A1 A2 A3 A4 A5 : Option Addr) (n1 c1 n2 c2 n3 c3 n4 c4 n5 c5 : Nat) (w : World) (hok : s.Ok) (hxo : ∀ y ∈ x.wants, y.Ok)
    (hn1 : n1 = s.nodes.length) (hn2 : n2 = s.loads.length) (hn3 : n3 = s.pods.length) (hn4 : n4 = x.wants.length) (hn5 : n5 = m.length) (hl1 : n1 ≤ 40) (hl2 : n2 ≤ 40) (hl3 : n3 ≤ 40) (hl4 : n4 ≤ 40) (hl5 : n5 ≤ 100)
    (p1 : n1 ≤ c1) (p2 : n2 ≤ c2) (p3 : n3 ≤ c3) (q1 : c1 ≤ maxLen) (q2 : c2 ≤ maxLen) (q3 : c3 ≤ maxLen)
    (hr1 : Recs 10 cellsN w w.heap.size A1 s.nodes) (hr2 : Recs 5 cellsL w w.heap.size A2 s.loads) (hr3 : Recs 8 cellsP w w.heap.size A3 s.pods) (hr4 : Recs 6 cellsW w w.heap.size A4 x.wants) (hr5 : Recs 4 cellsM w w.heap.size A5 m) :
    Calls Try.prog 3 #[snapV A1 A2 A3 n1 c1 n2 c2 n3 c3, specV A4 n4 c4 x, .slice A5 n5 c5] w fun e w' => e = .returned (.bool true) ∧ Below w.heap.size w w' := by
  have b00 : Below w.heap.size w ((w.alloc (.cells #[.slice A1 n1 c1, .slice A2 n2 c2, .slice A3 n3 c3] 26)).alloc (.cells #[.slice A4 n4 c4, .int .i64 x.preempts, .int .i64 x.shifts] 29)) := below_two _ _ _
  have HB0 := Lib.hid b00
  have HN1 := Lib.hid hn1
  have HN2 := Lib.hid hn2
  have HN3 := Lib.hid hn3
  have HN4 := Lib.hid hn4
  have HN5 := Lib.hid hn5
  have HR1 := Lib.hid hr1
  have HR2 := Lib.hid hr2
  have HR3 := Lib.hid hr3
  have HR4 := Lib.hid hr4
  have HR5 := Lib.hid hr5
  have HOK := Lib.hid hok
  have HXO := Lib.hid hxo
  have HSN := Lib.hid (fun (v : World) (k : Below w.heap.size w v) => snapshot_any s A1 A2 A3 n1 c1 n2 c2 n3 c3 v hok hn1 hn2 hn3 hl1 hl2 hl3 p1 p2 p3 q1 q2 q3 ((hr1.below k (Nat.le_refl _)).more k.size) ((hr2.below k (Nat.le_refl _)).more k.size) ((hr3.below k (Nat.le_refl _)).more k.size))
  have HSP := Lib.hid (fun (v : World) (k : Below w.heap.size w v) => spec_any x A4 n4 c4 v hn4 (by omega) hxo ((hr4.below k (Nat.le_refl _)).more k.size))
  have HMV := Lib.hid (fun (v : World) (k : Below w.heap.size w v) => moves_any m A5 n5 c5 v hn5 (by omega) ((hr5.below k (Nat.le_refl _)).more k.size))
  clear hn1 hn2 hn3 hn4 hn5 hr1 hr2 hr3 hr4 hr5 hok hxo b00 q1 q2 q3 p1 p2 p3
  go_enter Try.func3, Try.ntmps3
  go_wp2_with fail
  refine (up4_any _).mono ?_
  rintro e w1 ⟨rfl, hb1⟩
  have k1 : Below (w.heap.size + 2) ((w.alloc (.cells #[.slice A1 n1 c1, .slice A2 n2 c2, .slice A3 n3 c3] 26)).alloc (.cells #[.slice A4 n4 c4, .int .i64 x.preempts, .int .i64 x.shifts] 29)) w1 := hb1.mono (by simp)
  obtain ⟨⟨g0, g1, g2⟩, g3, g4, g5⟩ := box2_cells k1
  have hz1 : w.heap.size + 2 ≤ w1.heap.size := by have := k1.size; simpa using this
  go_wp2_with fail
  refine (few_any _ _ _ _ _ _ _ _ _ _).mono ?_
  rintro e w2 ⟨rfl, hb2⟩
  have hd : decide (n1 ≤ 40 ∧ n2 ≤ 40 ∧ n3 ≤ 40) = true := decide_eq_true ⟨hl1, hl2, hl3⟩
  rw [hd]
  have k2 := k1.trans (hb2.mono hz1)
  have K2 := Lib.hid k2
  clear g0 g1 g2 g3 g4 g5 k1 hb1 hb2 hd
  obtain ⟨⟨g0, g1, g2⟩, g3, g4, g5⟩ := box2_cells k2
  have hz2 : w.heap.size + 2 ≤ w2.heap.size := by have := k2.size; simpa using this
  clear k2
  go_wp2_with fail
  refine (HSN.out w2 (HB0.out.trans (K2.out.mono (by omega)))).mono ?_
  rintro e w3 (⟨hck, hwr⟩ | ⟨hck, u, rfl, hu, hb3⟩)
  · obtain ⟨B, d, rfl, hd1, hd2, hrow, hb3⟩ := hwr.row rfl
    have k3 := K2.out.trans (hb3.mono hz2)
    have K3 := Lib.hid k3
    have hz3 : w.heap.size + 2 ≤ w3.heap.size := by have := k3.size; simpa using this
    clear g0 g1 g2 g3 g4 g5
    obtain ⟨⟨g0, g1, g2⟩, g3, g4, g5⟩ := box2_cells k3
    have HRS := Lib.hid (readSnapshot_any (snapNums s) [] B (encs (snapNums s)).length d w3 (by simp) (snapNums_le hck HOK.out) hd1 hd2 (snap_okn hck HOK.out).2.2.2 (by intro n hn; simp at hn) (.inl rfl) (by rw [List.append_nil]; exact hrow))
    have HCK := Lib.hid hck
    clear hwr hrow hb3 hck k3 hd1 hd2
    go_wp2_with fail
    refine HRS.out.mono ?_
    rw [back_snap HCK.out]
    rintro e w4 ⟨B1, B2, B3, d1, d2, d3, u, rfl, o1, o2, o3, hu, hb4⟩
    obtain rfl := errIs_none hu rfl rfl
    have k4 := K3.out.trans (hb4.mono hz3)
    have hz4 : w.heap.size + 2 ≤ w4.heap.size := by have := k4.size; simpa using this
    have k4a : Below (w.heap.size + 2) ((w.alloc (.cells #[.slice A1 n1 c1, .slice A2 n2 c2, .slice A3 n3 c3] 26)).alloc (.cells #[.slice A4 n4 c4, .int .i64 x.preempts, .int .i64 x.shifts] 29)) (w4.alloc (.cells #[.slice B1 s.nodes.length d1, .slice B2 s.loads.length d2, .slice B3 s.pods.length d3] 26)) := k4.alloc hz4 _
    have hal : Below w4.heap.size w4 (w4.alloc (.cells #[.slice B1 s.nodes.length d1, .slice B2 s.loads.length d2, .slice B3 s.pods.length d3] 26)) := (Below.refl _ _).alloc (Nat.le_refl _) _
    have kw4 := HB0.out.trans (k4a.mono (show w.heap.size ≤ w.heap.size + 2 by omega))
    have HSA := Lib.hid (same_any s A1 A2 A3 B1 B2 B3 n1 c1 n2 c2 n3 c3 d1 d2 d3 _ HN1.out HN2.out HN3.out (by omega) (by omega) (by omega) ((HR1.out.below kw4 (Nat.le_refl _)).more kw4.size) ((HR2.out.below kw4 (Nat.le_refl _)).more kw4.size) ((HR3.out.below kw4 (Nat.le_refl _)).more kw4.size)
      ((o1.recs.below hal (Nat.le_refl _)).more hal.size) ((o2.recs.below hal (Nat.le_refl _)).more hal.size) ((o3.recs.below hal (Nat.le_refl _)).more hal.size))
    have K4 := Lib.hid k4a
    rw [← HN1.out, ← HN2.out, ← HN3.out] at HSA K4 ⊢
    clear g0 g1 g2 g3 g4 g5
    obtain ⟨⟨g0, g1, g2⟩, g3, g4, g5⟩ := box2_cells k4
    clear o1 o2 o3 hu hb4 k4 k4a hal kw4 HRS
    have hww : w.heap.size < w4.heap.size := by omega
    go_wp2_with fail
    refine HSA.out.mono ?_
    rintro e w5 ⟨rfl, hb5⟩
    have KV := Lib.hid (K4.out.trans (hb5.mono (by simp; omega)))
    have hzv : w.heap.size + 2 ≤ w5.heap.size := by have := KV.out.size; simpa using this
    clear g0 g1 g2 g3 g4 g5 hb5 K4 K3 HSA hz3 hz4 hww
    obtain ⟨⟨g0, g1, g2⟩, g3, g4, g5⟩ := box2_cells KV.out
    go_wp2_with fail
    refine (HSP.out _ (HB0.out.trans (KV.out.mono (by omega)))).mono ?_
    rintro e v3 hwr
    cases hso : specOk x with
    | true =>
      obtain ⟨B, d, rfl, hd1, hd2, hrow, hb3⟩ := hwr.row hso
      have k3 := KV.out.trans (hb3.mono hzv)
      have K3 := Lib.hid k3
      have hz3 : w.heap.size + 2 ≤ v3.heap.size := by have := k3.size; simpa using this
      clear g0 g1 g2 g3 g4 g5
      obtain ⟨⟨g0, g1, g2⟩, g3, g4, g5⟩ := box2_cells k3
      have HRS := Lib.hid (readSpec_any (specNums x) [] B (encs (specNums x)).length d v3 (by simp) (specNums_le hso HXO.out) hd1 hd2 (spec_nums hso HXO.out) (by intro n hn; simp at hn) (.inl rfl) (by rw [List.append_nil]; exact hrow))
      have HSO := Lib.hid hso
      clear hwr hrow hb3 hso k3 hd1 hd2
      go_wp2_with fail
      refine HRS.out.mono ?_
      rw [back_spec HSO.out]
      rintro e v4 ⟨B1, d1, u, rfl, o1, hu, hb4⟩
      obtain rfl := errIs_none hu rfl rfl
      have k4 := K3.out.trans (hb4.mono hz3)
      have hz4 : w.heap.size + 2 ≤ v4.heap.size := by have := k4.size; simpa using this
      have k4a : Below (w.heap.size + 2) ((w.alloc (.cells #[.slice A1 n1 c1, .slice A2 n2 c2, .slice A3 n3 c3] 26)).alloc (.cells #[.slice A4 n4 c4, .int .i64 x.preempts, .int .i64 x.shifts] 29)) (v4.alloc (.cells #[.slice B1 x.wants.length d1, .int .i64 x.preempts, .int .i64 x.shifts] 29)) := k4.alloc hz4 _
      have hal : Below v4.heap.size v4 (v4.alloc (.cells #[.slice B1 x.wants.length d1, .int .i64 x.preempts, .int .i64 x.shifts] 29)) := (Below.refl _ _).alloc (Nat.le_refl _) _
      have kw4 := HB0.out.trans (k4a.mono (show w.heap.size ≤ w.heap.size + 2 by omega))
      have HSA := Lib.hid (sameSpec_any x A4 B1 n4 c4 d1 _ HN4.out (by omega) ((HR4.out.below kw4 (Nat.le_refl _)).more kw4.size) ((o1.recs.below hal (Nat.le_refl _)).more hal.size))
      have K4 := Lib.hid k4a
      rw [← HN4.out] at HSA K4 ⊢
      clear g0 g1 g2 g3 g4 g5
      obtain ⟨⟨g0, g1, g2⟩, g3, g4, g5⟩ := box2_cells k4
      clear o1 hu hb4 k4 k4a hal kw4 HRS
      have hww : w.heap.size + 1 < v4.heap.size := by omega
      go_wp2_with fail
      refine HSA.out.mono ?_
      rintro e v5 ⟨rfl, hb5⟩
      have KU := Lib.hid (K4.out.trans (hb5.mono (by simp; omega)))
      have hzu : w.heap.size + 2 ≤ v5.heap.size := by have := KU.out.size; simpa using this
      clear g0 g1 g2 g3 g4 g5 hb5 K4 K3 HSA hz3 hz4 hww
      go_wp2_with fail
      refine (HMV.out _ (HB0.out.trans (KU.out.mono (by omega)))).mono ?_
      rintro e u3 hwr
      cases hso : movesOk m with
      | true =>
        obtain ⟨B, d, rfl, hd1, hd2, hrow, hb3⟩ := hwr.row hso
        have K3 := Lib.hid (KU.out.trans (hb3.mono hzu))
        have hz3 : w.heap.size + 2 ≤ u3.heap.size := by have := K3.out.size; simpa using this
        have HRS := Lib.hid (readMoves_any (moveNums m) [] B (encs (moveNums m)).length d u3 (by simp) (moveNums_le hso) hd1 hd2 (move_nums hso) (by intro n hn; simp at hn) (.inl rfl) (by rw [List.append_nil]; exact hrow))
        have HSO := Lib.hid hso
        clear hwr hrow hb3 hso hd1 hd2
        go_wp2_with fail
        refine HRS.out.mono ?_
        rw [back_moves HSO.out]
        rintro e u4 ⟨B1, d1, u, rfl, _, _, _, o1, hu, hb4⟩
        obtain rfl := errIs_none hu rfl rfl
        have k4 := K3.out.trans (hb4.mono hz3)
        have kw4 := HB0.out.trans (k4.mono (show w.heap.size ≤ w.heap.size + 2 by omega))
        have HSA := Lib.hid (sameMoves_any m B1 A5 n5 d1 c5 u4 HN5.out (by omega) o1 ((HR5.out.below kw4 (Nat.le_refl _)).more kw4.size))
        have KW := Lib.hid kw4
        rw [← HN5.out]
        clear o1 hu hb4 k4 kw4 HRS
        go_wp2_with fail
        refine HSA.out.mono ?_
        rintro e u5 ⟨rfl, hb5⟩
        go_wp2
        go_ret
        exact ⟨rfl, KW.out.trans (hb5.mono KW.out.size)⟩
      | false =>
        obtain ⟨rfl, hb3⟩ := hwr.no hso
        have KW := Lib.hid (KU.out.trans (hb3.mono hzu))
        clear hb3 hwr hso
        go_wp2
        go_ret
        exact ⟨rfl, HB0.out.trans (KW.out.mono (by omega))⟩
    | false =>
      obtain ⟨rfl, hb3⟩ := hwr.no hso
      have KU := Lib.hid (KV.out.trans (hb3.mono hzv))
      have hzu : w.heap.size + 2 ≤ v3.heap.size := by have := KU.out.size; simpa using this
      clear g0 g1 g2 g3 g4 g5 hb3 hwr hso
      go_wp2_with fail
      refine (HMV.out _ (HB0.out.trans (KU.out.mono (by omega)))).mono ?_
      rintro e u3 hwr
      cases hso : movesOk m with
      | true =>
        obtain ⟨B, d, rfl, hd1, hd2, hrow, hb3⟩ := hwr.row hso
        have K3 := Lib.hid (KU.out.trans (hb3.mono hzu))
        have hz3 : w.heap.size + 2 ≤ u3.heap.size := by have := K3.out.size; simpa using this
        have HRS := Lib.hid (readMoves_any (moveNums m) [] B (encs (moveNums m)).length d u3 (by simp) (moveNums_le hso) hd1 hd2 (move_nums hso) (by intro n hn; simp at hn) (.inl rfl) (by rw [List.append_nil]; exact hrow))
        have HSO := Lib.hid hso
        clear hwr hrow hb3 hso hd1 hd2
        go_wp2_with fail
        refine HRS.out.mono ?_
        rw [back_moves HSO.out]
        rintro e u4 ⟨B1, d1, u, rfl, _, _, _, o1, hu, hb4⟩
        obtain rfl := errIs_none hu rfl rfl
        have k4 := K3.out.trans (hb4.mono hz3)
        have kw4 := HB0.out.trans (k4.mono (show w.heap.size ≤ w.heap.size + 2 by omega))
        have HSA := Lib.hid (sameMoves_any m B1 A5 n5 d1 c5 u4 HN5.out (by omega) o1 ((HR5.out.below kw4 (Nat.le_refl _)).more kw4.size))
        have KW := Lib.hid kw4
        rw [← HN5.out]
        clear o1 hu hb4 k4 kw4 HRS
        go_wp2_with fail
        refine HSA.out.mono ?_
        rintro e u5 ⟨rfl, hb5⟩
        go_wp2
        go_ret
        exact ⟨rfl, KW.out.trans (hb5.mono KW.out.size)⟩
      | false =>
        obtain ⟨rfl, hb3⟩ := hwr.no hso
        have KW := Lib.hid (KU.out.trans (hb3.mono hzu))
        clear hb3 hwr hso
        go_wp2
        go_ret
        exact ⟨rfl, HB0.out.trans (KW.out.mono (by omega))⟩
  · obtain ⟨t, v, rfl⟩ := errIs_some hu hck
    have KV := Lib.hid (K2.out.trans (hb3.mono hz2))
    have hzv : w.heap.size + 2 ≤ w3.heap.size := by have := KV.out.size; simpa using this
    clear g0 g1 g2 g3 g4 g5 hb3 hu hck
    obtain ⟨⟨g0, g1, g2⟩, g3, g4, g5⟩ := box2_cells KV.out
    go_wp2_with fail
    refine (HSP.out _ (HB0.out.trans (KV.out.mono (by omega)))).mono ?_
    rintro e v3 hwr
    cases hso : specOk x with
    | true =>
      obtain ⟨B, d, rfl, hd1, hd2, hrow, hb3⟩ := hwr.row hso
      have k3 := KV.out.trans (hb3.mono hzv)
      have K3 := Lib.hid k3
      have hz3 : w.heap.size + 2 ≤ v3.heap.size := by have := k3.size; simpa using this
      clear g0 g1 g2 g3 g4 g5
      obtain ⟨⟨g0, g1, g2⟩, g3, g4, g5⟩ := box2_cells k3
      have HRS := Lib.hid (readSpec_any (specNums x) [] B (encs (specNums x)).length d v3 (by simp) (specNums_le hso HXO.out) hd1 hd2 (spec_nums hso HXO.out) (by intro n hn; simp at hn) (.inl rfl) (by rw [List.append_nil]; exact hrow))
      have HSO := Lib.hid hso
      clear hwr hrow hb3 hso k3 hd1 hd2
      go_wp2_with fail
      refine HRS.out.mono ?_
      rw [back_spec HSO.out]
      rintro e v4 ⟨B1, d1, u, rfl, o1, hu, hb4⟩
      obtain rfl := errIs_none hu rfl rfl
      have k4 := K3.out.trans (hb4.mono hz3)
      have hz4 : w.heap.size + 2 ≤ v4.heap.size := by have := k4.size; simpa using this
      have k4a : Below (w.heap.size + 2) ((w.alloc (.cells #[.slice A1 n1 c1, .slice A2 n2 c2, .slice A3 n3 c3] 26)).alloc (.cells #[.slice A4 n4 c4, .int .i64 x.preempts, .int .i64 x.shifts] 29)) (v4.alloc (.cells #[.slice B1 x.wants.length d1, .int .i64 x.preempts, .int .i64 x.shifts] 29)) := k4.alloc hz4 _
      have hal : Below v4.heap.size v4 (v4.alloc (.cells #[.slice B1 x.wants.length d1, .int .i64 x.preempts, .int .i64 x.shifts] 29)) := (Below.refl _ _).alloc (Nat.le_refl _) _
      have kw4 := HB0.out.trans (k4a.mono (show w.heap.size ≤ w.heap.size + 2 by omega))
      have HSA := Lib.hid (sameSpec_any x A4 B1 n4 c4 d1 _ HN4.out (by omega) ((HR4.out.below kw4 (Nat.le_refl _)).more kw4.size) ((o1.recs.below hal (Nat.le_refl _)).more hal.size))
      have K4 := Lib.hid k4a
      rw [← HN4.out] at HSA K4 ⊢
      clear g0 g1 g2 g3 g4 g5
      obtain ⟨⟨g0, g1, g2⟩, g3, g4, g5⟩ := box2_cells k4
      clear o1 hu hb4 k4 k4a hal kw4 HRS
      have hww : w.heap.size + 1 < v4.heap.size := by omega
      go_wp2_with fail
      refine HSA.out.mono ?_
      rintro e v5 ⟨rfl, hb5⟩
      have KU := Lib.hid (K4.out.trans (hb5.mono (by simp; omega)))
      have hzu : w.heap.size + 2 ≤ v5.heap.size := by have := KU.out.size; simpa using this
      clear g0 g1 g2 g3 g4 g5 hb5 K4 K3 HSA hz3 hz4 hww
      go_wp2_with fail
      refine (HMV.out _ (HB0.out.trans (KU.out.mono (by omega)))).mono ?_
      rintro e u3 hwr
      cases hso : movesOk m with
      | true =>
        obtain ⟨B, d, rfl, hd1, hd2, hrow, hb3⟩ := hwr.row hso
        have K3 := Lib.hid (KU.out.trans (hb3.mono hzu))
        have hz3 : w.heap.size + 2 ≤ u3.heap.size := by have := K3.out.size; simpa using this
        have HRS := Lib.hid (readMoves_any (moveNums m) [] B (encs (moveNums m)).length d u3 (by simp) (moveNums_le hso) hd1 hd2 (move_nums hso) (by intro n hn; simp at hn) (.inl rfl) (by rw [List.append_nil]; exact hrow))
        have HSO := Lib.hid hso
        clear hwr hrow hb3 hso hd1 hd2
        go_wp2_with fail
        refine HRS.out.mono ?_
        rw [back_moves HSO.out]
        rintro e u4 ⟨B1, d1, u, rfl, _, _, _, o1, hu, hb4⟩
        obtain rfl := errIs_none hu rfl rfl
        have k4 := K3.out.trans (hb4.mono hz3)
        have kw4 := HB0.out.trans (k4.mono (show w.heap.size ≤ w.heap.size + 2 by omega))
        have HSA := Lib.hid (sameMoves_any m B1 A5 n5 d1 c5 u4 HN5.out (by omega) o1 ((HR5.out.below kw4 (Nat.le_refl _)).more kw4.size))
        have KW := Lib.hid kw4
        rw [← HN5.out]
        clear o1 hu hb4 k4 kw4 HRS
        go_wp2_with fail
        refine HSA.out.mono ?_
        rintro e u5 ⟨rfl, hb5⟩
        go_wp2
        go_ret
        exact ⟨rfl, KW.out.trans (hb5.mono KW.out.size)⟩
      | false =>
        obtain ⟨rfl, hb3⟩ := hwr.no hso
        have KW := Lib.hid (KU.out.trans (hb3.mono hzu))
        clear hb3 hwr hso
        go_wp2
        go_ret
        exact ⟨rfl, HB0.out.trans (KW.out.mono (by omega))⟩
    | false =>
      obtain ⟨rfl, hb3⟩ := hwr.no hso
      have KU := Lib.hid (KV.out.trans (hb3.mono hzv))
      have hzu : w.heap.size + 2 ≤ v3.heap.size := by have := KU.out.size; simpa using this
      clear g0 g1 g2 g3 g4 g5 hb3 hwr hso
      go_wp2_with fail
      refine (HMV.out _ (HB0.out.trans (KU.out.mono (by omega)))).mono ?_
      rintro e u3 hwr
      cases hso : movesOk m with
      | true =>
        obtain ⟨B, d, rfl, hd1, hd2, hrow, hb3⟩ := hwr.row hso
        have K3 := Lib.hid (KU.out.trans (hb3.mono hzu))
        have hz3 : w.heap.size + 2 ≤ u3.heap.size := by have := K3.out.size; simpa using this
        have HRS := Lib.hid (readMoves_any (moveNums m) [] B (encs (moveNums m)).length d u3 (by simp) (moveNums_le hso) hd1 hd2 (move_nums hso) (by intro n hn; simp at hn) (.inl rfl) (by rw [List.append_nil]; exact hrow))
        have HSO := Lib.hid hso
        clear hwr hrow hb3 hso hd1 hd2
        go_wp2_with fail
        refine HRS.out.mono ?_
        rw [back_moves HSO.out]
        rintro e u4 ⟨B1, d1, u, rfl, _, _, _, o1, hu, hb4⟩
        obtain rfl := errIs_none hu rfl rfl
        have k4 := K3.out.trans (hb4.mono hz3)
        have kw4 := HB0.out.trans (k4.mono (show w.heap.size ≤ w.heap.size + 2 by omega))
        have HSA := Lib.hid (sameMoves_any m B1 A5 n5 d1 c5 u4 HN5.out (by omega) o1 ((HR5.out.below kw4 (Nat.le_refl _)).more kw4.size))
        have KW := Lib.hid kw4
        rw [← HN5.out]
        clear o1 hu hb4 k4 kw4 HRS
        go_wp2_with fail
        refine HSA.out.mono ?_
        rintro e u5 ⟨rfl, hb5⟩
        go_wp2
        go_ret
        exact ⟨rfl, KW.out.trans (hb5.mono KW.out.size)⟩
      | false =>
        obtain ⟨rfl, hb3⟩ := hwr.no hso
        have KW := Lib.hid (KU.out.trans (hb3.mono hzu))
        clear hb3 hwr hso
        go_wp2
        go_ret
        exact ⟨rfl, HB0.out.trans (KW.out.mono (by omega))⟩
end Go.Proofs.Ytjpaeaedfgiomaa

namespace Go.Proofs.Ytjpaeaedfgiomaa
set_option linter.unusedSimpArgs false
open Go.ChangeShapes Go.WideShapes Go.ChangeAt Go.RowKit

theorem codecBack_any (v0 v1 v2 : Value) (s : SnapD) (x : SpecD) (m : List MoveD) (A1 A2 A3 A4 A5 : Option Addr) (c1 c2 c3 c4 c5 : Nat) (w : World)
    (g1 : s.nodes.length ≤ c1 ∧ c1 ≤ maxLen ∧ (A1 = none → c1 = 0) ∧ Recs 10 cellsN w w.heap.size A1 s.nodes ∧ ∀ a ∈ s.nodes, a.Ok) (g2 : s.loads.length ≤ c2 ∧ c2 ≤ maxLen ∧ (A2 = none → c2 = 0) ∧ Recs 5 cellsL w w.heap.size A2 s.loads ∧ ∀ a ∈ s.loads, a.Ok) (g3 : s.pods.length ≤ c3 ∧ c3 ≤ maxLen ∧ (A3 = none → c3 = 0) ∧ Recs 8 cellsP w w.heap.size A3 s.pods ∧ ∀ a ∈ s.pods, a.Ok)
    (g4 : x.wants.length ≤ c4 ∧ c4 ≤ maxLen ∧ (A4 = none → c4 = 0) ∧ Recs 6 cellsW w w.heap.size A4 x.wants ∧ ∀ a ∈ x.wants, a.Ok) (g5 : m.length ≤ c5 ∧ c5 ≤ maxLen ∧ Recs 4 cellsM w w.heap.size A5 m)
    (h0 : v0 = .agg #[.slice A1 s.nodes.length c1, .slice A2 s.loads.length c2, .slice A3 s.pods.length c3]) (h1 : v1 = .agg #[.slice A4 x.wants.length c4, .int .i64 x.preempts, .int .i64 x.shifts]) (h2 : v2 = .slice A5 m.length c5) :
    Calls Try.prog 3 #[v0, v1, v2] w fun e w' => e = .returned (.bool true) ∧ Below w.heap.size w w' := by
  subst h0 h1 h2
  obtain ⟨p1, q1, _, r1, o1⟩ := g1
  obtain ⟨p2, q2, _, r2, o2⟩ := g2
  obtain ⟨p3, q3, _, r3, o3⟩ := g3
  obtain ⟨p4, q4, _, r4, o4⟩ := g4
  obtain ⟨p5, q5, r5⟩ := g5
  by_cases h : (s.nodes.length ≤ 40 ∧ s.loads.length ≤ 40 ∧ s.pods.length ≤ 40) ∧ x.wants.length ≤ 40 ∧ m.length ≤ 100
  · obtain ⟨⟨l1, l2, l3⟩, l4, l5⟩ := h
    exact codecBack_in s x m A1 A2 A3 A4 A5 _ c1 _ c2 _ c3 _ c4 _ c5 w ⟨o1, o2, o3⟩ o4 rfl rfl rfl rfl rfl l1 l2 l3 l4 l5 p1 p2 p3 q1 q2 q3 r1 r2 r3 r4 r5
  · exact codecBack_long s x m A1 A2 A3 A4 A5 _ c1 _ c2 _ c3 _ c4 _ c5 w (by omega) (by omega) (by omega)

set_option maxHeartbeats 400000 in
set_option maxRecDepth 100000 in
theorem codecBack_lifted (os : Os) (started : os.Started) (H : Type) (enc : TypeId × Value → H) :
    ReturnsInHanded {} Try.checked os 3 .any (Rows.codecBackSpec.pre6 enc Try.prog Try.f3 Rows.codecBackRow.domain false) (Rows.codecBackSpec.post enc Try.prog Try.f3 false true false false) := by
  refine returnsInHanded_of_change (C := Try.checked) Try.own started (by kernel_rfl) Try.func3
    (ChangeSpec.witness6 (enc := enc) (C := Try.checked) false ⟨#[], #[.agg #[.slice none 0 0, .slice none 0 0, .slice none 0 0], .agg #[.slice none 0 0, .int .i64 0, .int .i64 0], .slice none 0 0], []⟩ 8 (by kernel_rfl) (by kernel_rfl) (by kernel_rfl) (by kernel_rfl)) ?_
  intro W base args ds gs before hval0 hW _ _
  have hval : ∀ (j : Nat) t v, Try.f3.params[j]? = some t → args[j]? = some v → Value.okWide Try.prog W .any base t v := hval0
  have hW' := hW
  have hlt : ∀ x ∈ before, x.block < W.heap.size := fun x hx => hW.lt x hx
  obtain ⟨p, q, hA0, hV, rfl, _, _⟩ := hW
  have hA : DataW.TrodAll enc Try.prog W 0 (fun _ => true) true Try.f3.params.toList args.toList ds p := hA0
  rw [Try.params3] at hA hval
  obtain ⟨v0, v1, v2, d0, d1, d2, p0, p1, p2, rfl, rfl, rfl, h0, h1, h2⟩ := trodAll_three hA
  obtain ⟨rfl, rfl⟩ := trodVars_none hV
  have hv0 := hval 0 26 v0 rfl rfl
  have hv1 := hval 1 29 v1 rfl rfl
  have hv2 := hval 2 30 v2 rfl rfl
  clear hA0 hval0
  simp only [List.append_nil] at hW' hlt
  obtain ⟨s, A1, A2, A3, c1, c2, c3, e0, g1, g2, g3⟩ := open_snap hv0 h0
  obtain ⟨x, A4, c4, e1, _, _, g4⟩ := open_spec hv1 h1
  obtain ⟨m, A5, c5, e2, g5⟩ := open_moves hv2 h2
  refine (codecBack_any v0 v1 v2 s x m A1 A2 A3 A4 A5 c1 c2 c3 c4 c5 W g1 g2 g3 g4 g5 e0 e1 e2).mono fun e W' ⟨he, hb⟩ => ?_
  subst he
  exact ⟨_, rfl, _, _, _, [], _, [], hW', trodAll_mk1 (shut_bool Try.underlying4 true), trodAll_mk3 (hb.trod Try.laidOut (by kernel_rfl) (of_decide_eq_true (by kernel_rfl)) h0 (fun x hx => hlt x (by simp [hx]))) (hb.trod Try.laidOut (by kernel_rfl) (of_decide_eq_true (by kernel_rfl)) h1 (fun x hx => hlt x (by simp [hx]))) (hb.trod Try.laidOut (by kernel_rfl) (of_decide_eq_true (by kernel_rfl)) h2 (fun x hx => hlt x (by simp [hx]))), rfl, hb.frame _, fun h => by cases h⟩

theorem codecBack_holds : Rows.CodecBackSaid :=
  OpenClaim.holds_of_wide 3 Try.f3 rfl rfl rfl rfl rfl rfl rfl ⟨rfl, rfl, rfl, rfl, rfl⟩ rfl rfl rfl rfl rfl (by kernel_rfl) Try.func3 (by kernel_rfl)
    (of_decide_eq_true (by kernel_rfl)) (by unfold Func.isWrapper; first | (rw [if_pos (by decide +kernel)]; kernel_rfl) | (rw [if_neg (by decide +kernel)]; exact ⟨rfl, rfl⟩))
    (fun os started H enc _ => codecBack_lifted os started H enc)
end Go.Proofs.Ytjpaeaedfgiomaa
