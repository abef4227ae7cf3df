/- Joined texts, part 8: YB ES YC YD OA OB OC. -/
import Derived.Test.YtkipfalolfleaaaGreatDoorZ05
import Derived.Test.YtkipfalolfleaaaGreatDoorZ07
import Derived.Deep.OwnRows
import Derived.Sort.OwnSortedInts
import Derived.Lib.OwnBridge
import Derived.Sort.Grow
import Derived.Test.YtkipfalolfleaaaGreatDoorZ01
import Derived.Test.YtkipfalolfleaaaGreatDoorZ02
import Derived.Deep.RegionHeld3
import Derived.BigQuiet

/- The zone that a pod is in, and a load's counts in each of some zones: the program's zoneOf and counts of layer 8. -/
namespace Go.Proofs.YtkipfalolfleaaaGreatDoor
set_option linter.unusedSimpArgs false
open Go.RowKit Go.Shelf
set_option linter.unusedVariables false

set_option maxHeartbeats 6400000 in
set_option maxRecDepth 100000 in
theorem zoneOf_any (ns : List NodeD) (p : PodD) (A1 : Option Addr) (n1 c1 : Nat) (s2 s3 : Value) (w : World) (hn1 : n1 = ns.length) (hl1 : n1 ≤ 1000) (hr1 : Recs 10 cellsN w w.heap.size A1 ns) :
    Calls Tryz.prog 104 #[.agg #[.slice A1 n1 c1, s2, s3], aggP p] w fun e w' => e = .returned (.tuple #[.int .i64 ((zoneD ns p).getD 0), .bool (zoneD ns p).isSome]) ∧ Below w.heap.size w w' := by
  have T0 := T2.new w [.slice A1 n1 c1, s2, s3] (cellsP p) 26 55
  have HF := Lib.hid (node_any ns p.node A1 n1 c1 s2 s3 _ hn1 hl1 ((hr1.below T0.below (Nat.le_refl _)).more T0.below.size))
  have HN1 := Lib.hid hn1
  have HT0 := Lib.hid T0
  clear hr1 hn1 T0
  go_enter Tryz.func104, Tryz.ntmps104
  by_cases h0 : p.node = 0
  · have hd : (p.node == 0) = true := by simp [h0]
    have HE := Lib.hid (zoneD_nowhere (ns := ns) h0)
    have kw := HT0.out.below
    clear h0
    go_wp2
    go_ret2
    exact ⟨by rw [HE.out]; rfl, kw⟩
  · have hd : (p.node == 0) = false := by simp [h0]
    have H0 := Lib.hid h0
    clear h0
    go_wp2_with fail
    refine HF.out.mono ?_
    rintro e w1 ⟨hh, hb1⟩
    have T1 := HT0.out.keep hb1
    clear hb1 HT0 HF
    rcases hh with ⟨hp, rfl⟩ | ⟨i, hi, hp, rfl⟩
    · have HE := Lib.hid (zoneD_none (ns := ns) hp)
      have kw := T1.below.alloc T1.below.size (.cells (cellsN ⟨0, 0, ⟨0, 0, 0, 0⟩, ⟨0, 0, 0, 0⟩⟩).toArray 49)
      clear hp T1
      go_wp2
      go_ret2
      exact ⟨by rw [HE.out]; rfl, kw⟩
    · have HE := Lib.hid (zoneD_some (ns := ns) H0.out hi hp)
      generalize ns[i] = x at *
      have kw := T1.below.alloc T1.below.size (.cells (cellsN x).toArray 49)
      clear hp T1
      go_wp2
      go_ret2
      exact ⟨by rw [HE.out]; rfl, kw⟩

/-- slices.BinarySearch of a row of numbers that rise. -/
theorem search_any (zs : List Int) (x : Int) (b o n c : Nat) (w : World) (hn : n = zs.length) (hl : n ≤ 1000) (hr : Rising zs) (hc : ∀ j, j < zs.length → w.cell? ⟨b, o + j, none⟩ = some (.int .i64 (zs.getD j 0))) :
    Calls Tryz.prog 105 #[.slice (some ⟨b, o, none⟩) n c, .int .i64 x] w fun e w' => e = .returned (.tuple #[.int .i64 (zs.countP (· < x) : Nat), .bool (zs.contains x)]) ∧ Below w.heap.size w w' := by
  have h := Any.slices_BinarySearch_int Tryz.laysSearch b o n c zs x w (by omega) (by omega) hc (by rw [hn, List.take_length]; exact rising_le hr)
  rw [hn, List.take_length] at h
  subst hn
  exact h.mono fun e w' ⟨h1, q, h2⟩ => ⟨h1, by rw [h2]; exact below_draws (Below.refl _ _) q⟩
theorem made_zero (n : Nat) : madeCells #[Value.int .i64 0] n = (i64s (List.replicate n 0)).toArray := by
  apply Array.ext'
  simp [madeCells, Nat.mod_one]
  exact List.ext_getElem (by simp) fun i h1 h2 => by simp
theorem T3.put {a b c : List Value} {w V : World} (h : T3 a b c w V) (i : Nat) (v : Value) : T3 a b (c.set i v) w (V.setCell ⟨w.heap.size + 2, i, none⟩ v) :=
  ⟨h.one.other (by simp) _, h.two.other (by simp) _, h.three.set i v, h.below.setCell (by simp) _⟩
theorem i64s_set (l : List Int) (i : Nat) (x : Int) : (i64s l).set i (.int .i64 x) = i64s (l.set i x) := by simp [i64s, List.map_set]
def CountRel (ns : List NodeD) (load : Int) (zs : List Int) (l : List PodD) (a b : List Value) (w : World) (i : Value) (wr : World) : Prop := ∃ k : Nat, k ≤ l.length ∧ i = .int .i64 k ∧ T3 a b (i64s (countsD ns load zs (l.take k))) w wr
/-- The counts, in new memory. -/
def CountTo (ns : List NodeD) (load : Int) (zs : List Int) (l : List PodD) (n : Nat) (w : World) (e : Ending) (w' : World) : Prop := ∃ g, e = .returned (.slice (some ⟨g, 0, none⟩) n n) ∧ w.heap.size ≤ g ∧ Bf w' g (i64s (countsD ns load zs l)) ∧ Below w.heap.size w w'

set_option maxHeartbeats 12800000 in
set_option maxRecDepth 100000 in
theorem counts_any (ns : List NodeD) (l : List PodD) (load : Int) (zs : List Int) (A1 A4 : Option Addr) (n1 c1 n4 c4 bz oz nz cz : Nat) (s2 s3 v1 v2 : Value) (w : World)
    (hn1 : n1 = ns.length) (hl1 : n1 ≤ 400) (hr1 : Recs 10 cellsN w w.heap.size A1 ns) (hn4 : n4 = l.length) (hl4 : n4 ≤ 400) (hr4 : Recs 8 cellsP w w.heap.size A4 l)
    (hnz : nz = zs.length) (hlz : nz ≤ 1000) (hrz : Rising zs) (hbz : bz < w.heap.size) (hcz : ∀ j, j < zs.length → w.cell? ⟨bz, oz + j, none⟩ = some (.int .i64 (zs.getD j 0))) :
    Calls Tryz.prog 91 #[.agg #[.slice A1 n1 c1, s2, s3], .agg #[.slice A4 n4 c4, v1, v2], .int .i64 load, .slice (some ⟨bz, oz, none⟩) nz cz] w (CountTo ns load zs l nz w) := by
  have T0 := T3.new w [.slice A1 n1 c1, s2, s3] [.slice A4 n4 c4, v1, v2] (i64s (List.replicate nz 0)) 26 31 3
  have HN4 := Lib.hid hn4
  have HR4 := Lib.hid hr4
  have HNZ := Lib.hid hnz
  have HRZ := Lib.hid hrz
  have HZO := Lib.hid (fun (V : World) (hV : Below w.heap.size w V) (p : PodD) => zoneOf_any ns p A1 n1 c1 s2 s3 V hn1 (by omega) ((hr1.below hV (Nat.le_refl _)).more hV.size))
  have HSE := Lib.hid (fun (V : World) (hV : Below w.heap.size w V) (x : Int) => search_any zs x bz oz nz cz V hnz hlz hrz (fun j hj => (hV.cell (p := ⟨bz, oz + j, none⟩) hbz).trans (hcz j hj)))
  have HT0 := Lib.hid T0
  have hmk : ∀ w : World, (Instr.makeSlice 151 (.int .i64 (nz : Int)) (.int .i64 (nz : Int))).run Tryz.prog w = .ok (.slice (some ⟨w.heap.size, 0, none⟩) nz nz) (w.alloc (.cells (i64s (List.replicate nz 0)).toArray 3)) := fun w => by
    rw [← made_zero]
    exact run_make_row' 151 3 (.int .i64 0) 8 Tryz.underlying151 Tryz.info3 rfl .i64 .i64 nz (by omega) (by omega) w
  clear hr1 hn1 hr4 hn4 hnz hrz hcz T0
  go_enter Tryz.func91, Tryz.ntmps91
  go_wp2
  go_loopw [22] (CountRel ns load zs l [.slice A1 n1 c1, s2, s3] [.slice A4 n4 c4, v1, v2] w) (fun i _ => n4 - (intOf i).toNat)
  case atStart => exact ⟨0, by omega, rfl, by rw [counts_zero, ← HNZ.out]; have h := HT0.out; simp only [i64s, List.map_replicate, List.toArray_replicate] at h ⊢; exact h⟩
  case round =>
    obtain ⟨k, hk, rfl, T1⟩ := hrel
    have HT1 := Lib.hid T1
    clear hmk
    by_cases hlt : k < n4
    · have hkl : k < l.length := by have := HN4.out; omega
      have kwr := T1.below
      obtain ⟨b, o, rfl, hb, he⟩ := HR4.out.at hkl
      generalize hx : l[k] = p at *
      have HX := Lib.hid hx
      clear hx
      have e0 : wr.cell? ⟨b, o + k * 8, none⟩ = some (.int .i64 p.id) := (kwr.cell (p := ⟨b, o + k * 8, none⟩) hb).trans (he 0 _ rfl)
      have e1 : wr.cell? ⟨b, o + k * 8 + 1, none⟩ = some (.int .i64 p.load) := (kwr.cell (p := ⟨b, o + k * 8 + 1, none⟩) hb).trans (he 1 _ rfl)
      have e2 : wr.cell? ⟨b, o + k * 8 + 2, none⟩ = some (.int .i64 p.prio) := (kwr.cell (p := ⟨b, o + k * 8 + 2, none⟩) hb).trans (he 2 _ rfl)
      have e3 : wr.cell? ⟨b, o + k * 8 + 3, none⟩ = some (.int .u64 p.req.a) := (kwr.cell (p := ⟨b, o + k * 8 + 3, none⟩) hb).trans (he 3 _ rfl)
      have e4 : wr.cell? ⟨b, o + k * 8 + 4, none⟩ = some (.int .u64 p.req.b) := (kwr.cell (p := ⟨b, o + k * 8 + 4, none⟩) hb).trans (he 4 _ rfl)
      have e5 : wr.cell? ⟨b, o + k * 8 + 5, none⟩ = some (.int .u64 p.req.c) := (kwr.cell (p := ⟨b, o + k * 8 + 5, none⟩) hb).trans (he 5 _ rfl)
      have e6 : wr.cell? ⟨b, o + k * 8 + 6, none⟩ = some (.int .u64 p.req.d) := (kwr.cell (p := ⟨b, o + k * 8 + 6, none⟩) hb).trans (he 6 _ rfl)
      have e7 : wr.cell? ⟨b, o + k * 8 + 7, none⟩ = some (.int .i64 p.node) := (kwr.cell (p := ⟨b, o + k * 8 + 7, none⟩) hb).trans (he 7 _ rfl)
      have hbw : b < wr.heap.size := Nat.lt_of_lt_of_le hb kwr.size
      obtain ⟨a0, a1, a2, a3⟩ := T1.one.cells3
      have TW := T1.alloc (.cells #[.int .i64 p.id, .int .i64 p.load, .int .i64 p.prio, .int .u64 p.req.a, .int .u64 p.req.b, .int .u64 p.req.c, .int .u64 p.req.d, .int .i64 p.node] 55)
      have HTW := Lib.hid TW
      clear he T1 kwr
      by_cases hload : p.load = load
      · have hd : (p.load != load) = false := by simp [hload]
        have HL := Lib.hid hload
        have HZW := Lib.hid (HZO.out _ TW.below p)
        clear hload TW
        go_wp2_with fail
        refine HZW.out.mono ?_
        rintro e w2 ⟨rfl, hb2⟩
        have HT2 := Lib.hid (HTW.out.keep hb2)
        clear hb2 HZW HTW e0 e1 e2 e3 e4 e5 e6 e7 a0 a1 a2 a3 hd
        rcases hz : zoneD ns p with _ | z
        · have HN := Lib.hid (counts_skip (ns := ns) (load := load) (zs := zs) hkl HX.out (fun z _ => inZ_none hz))
          clear hz
          go_wp2
          go_roundw
          case rel => exact ⟨k + 1, by omega, by go_num, by rw [HN.out]; exact HT2.out⟩
          case measure => simp [intOf]; omega
        · have HSW := Lib.hid (HSE.out _ HT2.out.below z)
          cases hm : zs.contains z with
          | false =>
            have HN := Lib.hid (counts_skip (ns := ns) (load := load) (zs := zs) hkl HX.out (fun y hy => inZ_other hz (fun q => by rw [q] at hm; simp at hm; exact hm hy)))
            rw [hm] at HSW
            clear hz hm
            go_wp2_with fail
            refine HSW.out.mono ?_
            rintro e w3 ⟨rfl, hb3⟩
            have HT3 := Lib.hid (HT2.out.keep hb3)
            clear hb3 HSW
            go_wp2
            go_roundw
            case rel => exact ⟨k + 1, by omega, by go_num, by rw [HN.out]; exact HT3.out⟩
            case measure => simp [intOf]; omega
          | true =>
            have HN := Lib.hid (counts_bump (ns := ns) (load := load) (zs := zs) hkl HX.out HL.out hz HRZ.out (by simpa using hm))
            have hcl := count_le ns load z (l.take k)
            rw [List.length_take] at hcl
            rw [hm] at HSW
            clear hz hm
            generalize hi : zs.countP (· < z) = i at *
            generalize hcc : countD ns load z (l.take k) = cc at *
            clear hi hcc
            have hin : (i : Int) < (nz : Int) := by have := HN.out.1; have := HNZ.out; omega
            have hi0 : (0 : Int) ≤ (i : Int) := by omega
            have hcc : (cc : Int) ≤ 1000 := by omega
            have hcc0 : (0 : Int) ≤ (cc : Int) := by omega
            clear hcl
            go_wp2_with fail
            refine HSW.out.mono ?_
            rintro e w3 ⟨rfl, hb3⟩
            have T3' := HT2.out.keep hb3
            have HT3 := Lib.hid T3'
            have g0 : w3.cell? ⟨w.heap.size + 2, i, none⟩ = some (.int .i64 cc) := T3'.three.cell i _ (by rw [List.getElem?_map, HN.out.2.1]; rfl)
            have g1 : w3.frozen? ⟨w.heap.size + 2, i, none⟩ = false := T3'.three.frozen i
            have g2 : w.heap.size + 2 < w3.heap.size := T3'.three.lt
            clear hb3 HSW T3'
            go_wp2
            go_roundw
            case rel => exact ⟨k + 1, by omega, by go_num, by rw [HN.out.2.2, ← i64s_set]; exact HT3.out.put i _⟩
            case measure => simp [intOf]; omega
      · have hd : (p.load != load) = true := by simp [hload]
        have HN := Lib.hid (counts_skip (ns := ns) (load := load) (zs := zs) hkl HX.out (fun z _ => inZ_load hload))
        clear hload TW
        go_wp2
        go_roundw
        case rel => exact ⟨k + 1, by omega, by go_num, by rw [HN.out]; exact HTW.out⟩
        case measure => simp [intOf]; omega
    · have HK : Hid (l.take k = l) := List.take_of_length_le (by have := HN4.out; omega)
      clear T1
      go_wp2
      go_ret
      exact ⟨w.heap.size + 2, rfl, by omega, by have := HT1.out.three; rw [HK.out] at this; exact this, HT1.out.below⟩
end Go.Proofs.YtkipfalolfleaaaGreatDoor

/- slices.Sort and slices.Compact at a slice of the call's own. -/
namespace Go.Proofs.YtkipfalolfleaaaGreatDoor
set_option linter.unusedSimpArgs false
open Go.RowKit Go.Shelf Go.Sort
set_option linter.unusedVariables false

theorem slice_shape {w : World} {B : Nat} {v : Value} {zs : List Int} (h : w.ownsRow B 3 1 v zs.length (i64s zs)) : (v = .slice none 0 0 ∧ zs = []) ∨ ∃ g cap cur, v = .slice (some ⟨g, 0, none⟩) zs.length cap ∧ B ≤ g ∧ w.heap[g]? = some (.cells cur 3 (0, 0)) ∧ zs.length ≤ cap ∧ cap ≤ maxLen ∧ cur.size = cap * 1 ∧ cur.toList.take zs.length = i64s zs := by
  rcases h.2 with ⟨h1, h2⟩ | ⟨g, cap, cur, h1, h2, h3, h4, h5, h6, h7⟩
  · exact .inl ⟨h1, List.eq_nil_of_length_eq_zero h2⟩
  · exact .inr ⟨g, cap, cur, h1, h2, h3, h4, h5, h6, by rw [Nat.mul_one] at h7; exact h7⟩
theorem sort_own : SortOwn := by
  intro B v zs w hB hown hl
  rcases slice_shape hown with ⟨rfl, rfl⟩ | ⟨g, cap, cur, rfl, hbase, hb, h1, h2, h3, h4⟩
  · exact (Any.slices_Sort_int_none Tryz.laysSort none 0 w).mono fun e w' ⟨he, hw⟩ => ⟨he, by subst hw; rw [show sortI [] = [] by simp [sortI]]; exact hown, by subst hw; exact Below.refl _ _⟩
  · have hgl : g < w.heap.size := (Array.getElem?_eq_some_iff.1 hb).1
    refine (Any.slices_Sort_int Tryz.laysSort g 0 cap zs w (holds_of_blockI hb h4) hgl (by omega)).mono fun e w' ⟨he, n, os, hw⟩ => ⟨he, ?_, ?_⟩
    · subst hw
      exact ownsRow_sortedI (ss := zs) (ts := sortI zs) (List.length_mergeSort zs) hbase hb h1 h2 h3
    · subst hw
      exact (Below.refl B w).grown (grownBy_sortedI _) hB (fun j hj => by cases hj; exact hbase)
theorem comp_own : CompOwn := by
  intro B v zs w hB hown hl
  rcases slice_shape hown with ⟨rfl, rfl⟩ | ⟨g, cap, cur, rfl, hbase, hb, h1, h2, h3, h4⟩
  · exact (Any.slices_Compact_int_empty Tryz.laysCompact none 0 w).mono fun e w' ⟨he, hw⟩ => ⟨_, he, by subst hw; exact hown, by subst hw; exact Below.refl _ _⟩
  · refine (Any.slices_Compact_int Tryz.laysCompact g 0 cap zs w (holds_of_blockI hb h4) (by omega) h1).mono fun e w' ⟨he, q, hw⟩ => ⟨_, he, ?_, ?_⟩
    · subst hw
      have hle : (Lib.compact zs).length ≤ zs.length := Lib.compact_length_le zs
      have hc := Lib.ownsRow_putRow (enc := Value.int .i64) (q := q) (k := (Lib.compact zs).length) (ys := Lib.compact zs ++ List.replicate (zs.length - (Lib.compact zs).length) 0) hown (by simp; omega) hle
      rw [List.take_left] at hc
      exact hc
    · subst hw
      exact Lib.below_putRow (Below.refl _ _) hbase
end Go.Proofs.YtkipfalolfleaaaGreatDoor

/- A load's count in a zone, and its skew: the program's Count and Skew of layer 8. -/
namespace Go.Proofs.YtkipfalolfleaaaGreatDoor
set_option linter.unusedSimpArgs false
open Go.RowKit Go.Shelf
set_option linter.unusedVariables false

theorem mm_bounds {ns : List NodeD} {load : Int} {zs : List Int} {l : List PodD} (hz : zs ≠ []) : ∃ a b : Nat, Lib.maxOf (countsD ns load zs l) = a ∧ Lib.minOf (countsD ns load zs l) = b ∧ b ≤ a ∧ a ≤ l.length ∧ skewD ns load zs l = (a : Int) - (b : Int) := by
  have h := skew_max (ns := ns) (load := load) (l := l) hz
  obtain ⟨a, ha⟩ := Int.eq_ofNat_of_zero_le (show 0 ≤ Lib.maxOf (countsD ns load zs l) by omega)
  obtain ⟨b, hb⟩ := Int.eq_ofNat_of_zero_le (show 0 ≤ Lib.minOf (countsD ns load zs l) by omega)
  refine ⟨a, b, ha, hb, by omega, by omega, by rw [h.1, ha, hb]⟩

set_option maxHeartbeats 6400000 in
set_option maxRecDepth 100000 in
theorem skew_any (ns : List NodeD) (l : List PodD) (load : Int) (A1 A4 : Option Addr) (n1 c1 n4 c4 : Nat) (s2 s3 v1 v2 : Value) (w : World)
    (hn1 : n1 = ns.length) (hl1 : n1 ≤ 400) (hr1 : Recs 10 cellsN w w.heap.size A1 ns) (hn4 : n4 = l.length) (hl4 : n4 ≤ 400) (hr4 : Recs 8 cellsP w w.heap.size A4 l) :
    Calls Tryz.prog 73 #[.agg #[.slice A1 n1 c1, s2, s3], .agg #[.slice A4 n4 c4, v1, v2], .int .i64 load] w fun e w' => e = .returned (.int .i64 (skewD ns load (zonesOf ns) l)) ∧ Below w.heap.size w w' := by
  have T0 := T2.new w [.slice A1 n1 c1, s2, s3] [.slice A4 n4 c4, v1, v2] 26 31
  have HZ := Lib.hid (zones_any sort_own comp_own ns A1 n1 c1 s2 s3 _ hn1 (by omega) ((hr1.below T0.below (Nat.le_refl _)).more T0.below.size))
  have HR := Lib.hid (zones_fold ns [] trivial)
  have HT0 := Lib.hid T0
  have HC := Lib.hid (fun (V : World) (hV : Below w.heap.size w V) (bz nz cz : Nat) h1 h2 h3 h4 => counts_any ns l load (zonesOf ns) A1 A4 n1 c1 n4 c4 bz 0 nz cz s2 s3 v1 v2 V hn1 hl1 ((hr1.below hV (Nat.le_refl _)).more hV.size) hn4 hl4 ((hr4.below hV (Nat.le_refl _)).more hV.size) h1 h2 (zones_fold ns [] trivial).1 h3 h4)
  have HN1 := Lib.hid hn1
  have HN4 := Lib.hid hn4
  clear hr1 hr4 hn1 hn4 T0
  go_enter Tryz.func73, Tryz.ntmps73
  go_wp2_with fail
  refine HZ.out.mono ?_
  rintro e w1 ⟨v, rfl, hown, hb1⟩
  have T1 := HT0.out.keep hb1
  have HT1 := Lib.hid T1
  clear hb1 HT0 HZ
  rw [List.length_map] at hown
  have hz400 : (zonesOf ns).length ≤ 400 := by
    have h := HR.out.2.1
    have := HN1.out
    unfold zonesOf
    simp at h
    omega
  rcases slice_shape hown with ⟨rfl, he⟩ | ⟨g, cap, cur, rfl, hbase, hb, h1, h2, h3, h4⟩
  · have HE : Hid (skewD ns load (zonesOf ns) l = 0) := by show _ = _; rw [skewD, if_pos he]
    have kw := T1.below
    clear hown he hz400 T1
    go_wp2
    go_ret
    exact ⟨ret_int HE.out.symm, kw⟩
  · have hcell : ∀ j, j < (zonesOf ns).length → w1.cell? ⟨g, 0 + j, none⟩ = some (.int .i64 ((zonesOf ns).getD j 0)) := fun j hj => by
      have hq := hown.cells (g := g) rfl j (.int .i64 ((zonesOf ns).getD j 0)) (by rw [List.getElem?_map, List.getElem?_eq_getElem hj]; simp [List.getD, hj])
      rw [Addr.add_lit] at hq
      simpa using hq
    have hg : g < w1.heap.size := (Array.getElem?_eq_some_iff.1 hb).1
    have HC1 := Lib.hid (HC.out w1 T1.below g (zonesOf ns).length cap rfl (by omega) hg hcell)
    by_cases hz : zonesOf ns = []
    · have HE : Hid (skewD ns load (zonesOf ns) l = 0) := by show _ = _; rw [skewD, if_pos hz]
      have kw := T1.below
      have hn0 : (zonesOf ns).length = 0 := by rw [hz]; rfl
      rw [hn0]
      clear hown hz hz400 T1 hcell hb h1 h2 h3 h4 HC1
      go_wp2
      go_ret
      exact ⟨ret_int HE.out.symm, kw⟩
    · obtain ⟨a, b, m1, m2, m3, m4, m5⟩ := mm_bounds (ns := ns) (load := load) (l := l) hz
      have HM := Lib.hid m1
      have HMI := Lib.hid m2
      have HSK := Lib.hid m5
      have hpos : 0 < (zonesOf ns).length := List.length_pos_iff.2 hz
      have HCL := Lib.hid (counts_len (ns := ns) (load := load) (zs := zonesOf ns) (l := l))
      have ha : (a : Int) ≤ 400 := by have := HN4.out; omega
      have hba : (b : Int) ≤ (a : Int) := by omega
      have hb0 : (0 : Int) ≤ (b : Int) := by omega
      obtain ⟨a0, a1, a2, a3⟩ := T1.one.cells3
      obtain ⟨b0, b1, b2, b3⟩ := T1.two.cells3
      generalize hnz : (zonesOf ns).length = nz at *
      have hd : ((nz : Int) == 0) = false := by simp; omega
      have HNZ := Lib.hid hnz
      clear hown hz T1 hcell hb h1 h2 h3 h4 m1 m2 m3 m4 m5 hnz
      go_wp2_with fail
      refine HC1.out.mono ?_
      rintro e w2 ⟨g', rfl, hg', hbf, hb2⟩
      have HBF := Lib.hid hbf
      have HT2 := Lib.hid (HT1.out.keep hb2)
      have HCC : Hid (∀ V : World, V = w2 → ∀ j, j < (countsD ns load (zonesOf ns) l).length → V.cell? ⟨g', 0 + j, none⟩ = some (.int .i64 ((countsD ns load (zonesOf ns) l).getD j 0))) := fun V hV j hj => by
        subst hV
        rw [Nat.zero_add]
        exact hbf.cell j _ (by rw [List.getElem?_map, List.getElem?_eq_getElem hj]; simp [List.getD, hj])
      have HMX := Lib.hid (Any.slices_Max_int Tryz.laysMax g' 0 nz nz (countsD ns load (zonesOf ns) l) w2 hpos (by rw [HCL.out]; exact Nat.le_refl _) (by omega) (HCC.out w2 rfl))
      have HMN := Lib.hid (Any.slices_Min_int Tryz.laysMin g' 0 nz nz (countsD ns load (zonesOf ns) l) w2 hpos (by rw [HCL.out]; exact Nat.le_refl _) (by omega) (HCC.out w2 rfl))
      clear hg' hbf hb2 HC1 a0 a1 a2 a3 b0 b1 b2 b3 HCC
      go_wp2_with fail
      refine HMX.out.mono ?_
      rintro e w3 ⟨rfl, rfl⟩
      have HT : Hid ((countsD ns load (zonesOf ns) l).take nz = countsD ns load (zonesOf ns) l) := List.take_of_length_le (by rw [HCL.out]; exact Nat.le_refl _)
      rw [HT.out, HM.out]
      go_wp2_with fail
      refine HMN.out.mono ?_
      rintro e w3' ⟨rfl, rfl⟩
      rw [HT.out, HMI.out]
      go_wp2
      go_ret
      exact ⟨ret_int HSK.out.symm, HT2.out.below⟩
end Go.Proofs.YtkipfalolfleaaaGreatDoor

/- The program's Check of layer 8. -/
namespace Go.Proofs.YtkipfalolfleaaaGreatDoor
set_option linter.unusedSimpArgs false
open Go.RowKit
set_option linter.unusedVariables false

/-- The first load, behind k others, whose zones are too unlike. -/
def spreadFrom (ns : List NodeD) (l : List PodD) : List LoadD → Nat → Int × Int
  | [], _ => (0, -1)
  | x :: r, k => if 0 < x.skew ∧ x.skew < skewD ns x.id (zonesOf ns) l then (11, (k : Int)) else spreadFrom ns l r (k + 1)
def spreadOf (ns : List NodeD) (ls : List LoadD) (l : List PodD) : Int × Int := spreadFrom ns l ls 0
theorem spreadFrom_at {ns : List NodeD} {l : List PodD} {ls : List LoadD} {k : Nat} {z : Int × Int} (h : k < ls.length) {x : LoadD} (hx : ls[k] = x) (hp : spreadFrom ns l (ls.drop k) k = z) :
    (0 < x.skew ∧ x.skew < skewD ns x.id (zonesOf ns) l → z = (11, (k : Int))) ∧ (¬ (0 < x.skew ∧ x.skew < skewD ns x.id (zonesOf ns) l) → spreadFrom ns l (ls.drop (k + 1)) (k + 1) = z) := by
  rw [List.drop_eq_getElem_cons h, hx, spreadFrom] at hp
  constructor
  · intro e; rw [if_pos e] at hp; exact hp.symm
  · intro e; rw [if_neg e] at hp; exact hp
theorem spreadFrom_end {ns : List NodeD} {l : List PodD} {ls : List LoadD} {k : Nat} {z : Int × Int} (h : ls.length ≤ k) (hp : spreadFrom ns l (ls.drop k) k = z) : z = (0, -1) := by
  rw [List.drop_of_length_le h] at hp
  exact hp.symm
theorem Bf.cells5 {V : World} {b : Nat} {x : LoadD} (h : Bf V b (cellsL x)) : (V.cell? ⟨b, 0, none⟩ = some (.int .i64 x.id) ∧ V.cell? ⟨b, 1, none⟩ = some (.bool x.apart) ∧ V.cell? ⟨b, 2, none⟩ = some (.int .i64 x.skew)) ∧ V.cell? ⟨b, 3, none⟩ = some (.int .i64 x.min) ∧ V.cell? ⟨b, 4, none⟩ = some (.int .i64 x.max) ∧ b < V.heap.size :=
  ⟨⟨h.cell 0 _ rfl, h.cell 1 _ rfl, h.cell 2 _ rfl⟩, h.cell 3 _ rfl, h.cell 4 _ rfl, h.lt⟩
def SpreadRel (ns : List NodeD) (ls : List LoadD) (l : List PodD) (a b : List Value) (w : World) (v : Value) (wr : World) : Prop := ∃ k : Nat, k ≤ ls.length ∧ v = .int .i64 k ∧ spreadFrom ns l (ls.drop k) k = spreadOf ns ls l ∧ T2 a b w wr

set_option maxHeartbeats 6400000 in
set_option maxRecDepth 100000 in
theorem spreadCheck_any (ns : List NodeD) (ls : List LoadD) (l : List PodD) (A1 A2 A4 : Option Addr) (n1 c1 n2 c2 n4 c4 : Nat) (s3 v1 v2 : Value) (w : World)
    (hn1 : n1 = ns.length) (hl1 : n1 ≤ 400) (hr1 : Recs 10 cellsN w w.heap.size A1 ns) (hn2 : n2 = ls.length) (hl2 : n2 ≤ 400) (hr2 : Recs 5 cellsL w w.heap.size A2 ls) (hn4 : n4 = l.length) (hl4 : n4 ≤ 400) (hr4 : Recs 8 cellsP w w.heap.size A4 l) :
    Calls Tryz.prog 57 #[.agg #[.slice A1 n1 c1, .slice A2 n2 c2, s3], .agg #[.slice A4 n4 c4, v1, v2]] w (ErrTo (spreadOf ns ls l) w) := by
  have T0 := T2.new w [.slice A1 n1 c1, .slice A2 n2 c2, s3] [.slice A4 n4 c4, v1, v2] 26 31
  have HN2 := Lib.hid hn2
  have HR2 := Lib.hid hr2
  have HC := Lib.hid (fun (V : World) (hV : Below w.heap.size w V) (id : Int) => skew_any ns l id A1 A4 n1 c1 n4 c4 (.slice A2 n2 c2) s3 v1 v2 V hn1 hl1 ((hr1.below hV (Nat.le_refl _)).more hV.size) hn4 hl4 ((hr4.below hV (Nat.le_refl _)).more hV.size))
  have HT0 := Lib.hid T0
  clear hr1 hn1 hr2 hn2 hr4 hn4 T0
  go_enter Tryz.func57, Tryz.ntmps57
  go_wp2
  go_loopw [10] (SpreadRel ns ls l [.slice A1 n1 c1, .slice A2 n2 c2, s3] [.slice A4 n4 c4, v1, v2] w) (fun v _ => n2 - (intOf v).toNat)
  case atStart => exact ⟨0, by omega, rfl, rfl, HT0.out⟩
  case round =>
    obtain ⟨k, hk, rfl, hp, T1⟩ := hrel
    have HP := Lib.hid hp
    have HT1 := Lib.hid T1
    clear hp
    by_cases hlt : k < n2
    · have hkl : k < ls.length := by have := HN2.out; omega
      have kwr := T1.below
      obtain ⟨b, o, rfl, hb, he⟩ := HR2.out.at hkl
      generalize hx : ls[k] = x at *
      have HX := Lib.hid (spreadFrom_at hkl hx HP.out)
      clear hx
      have e0 : wr.cell? ⟨b, o + k * 5, none⟩ = some (.int .i64 x.id) := (kwr.cell (p := ⟨b, o + k * 5, none⟩) hb).trans (he 0 _ rfl)
      have e1 : wr.cell? ⟨b, o + k * 5 + 1, none⟩ = some (.bool x.apart) := (kwr.cell (p := ⟨b, o + k * 5 + 1, none⟩) hb).trans (he 1 _ rfl)
      have e2 : wr.cell? ⟨b, o + k * 5 + 2, none⟩ = some (.int .i64 x.skew) := (kwr.cell (p := ⟨b, o + k * 5 + 2, none⟩) hb).trans (he 2 _ rfl)
      have e3 : wr.cell? ⟨b, o + k * 5 + 3, none⟩ = some (.int .i64 x.min) := (kwr.cell (p := ⟨b, o + k * 5 + 3, none⟩) hb).trans (he 3 _ rfl)
      have e4 : wr.cell? ⟨b, o + k * 5 + 4, none⟩ = some (.int .i64 x.max) := (kwr.cell (p := ⟨b, o + k * 5 + 4, none⟩) hb).trans (he 4 _ rfl)
      have hbw : b < wr.heap.size := Nat.lt_of_lt_of_le hb kwr.size
      have TW := T1.alloc (.cells #[.int .i64 x.id, .bool x.apart, .int .i64 x.skew, .int .i64 x.min, .int .i64 x.max] 51)
      have QW : Bf (wr.alloc (.cells #[.int .i64 x.id, .bool x.apart, .int .i64 x.skew, .int .i64 x.min, .int .i64 x.max] 51)) wr.heap.size (cellsL x) := Bf.new wr (cellsL x) _ rfl
      clear he T1 kwr
      go_wp2_with fail
      go_upto_region 4 with fail
      clear e0 e1 e2 e3 e4 hbw
      generalize hW : wr.alloc (.cells #[.int .i64 x.id, .bool x.apart, .int .i64 x.skew, .int .i64 x.min, .int .i64 x.max] 51) = W at *
      generalize hh : wr.heap.size = h at *
      clear hW hh
      have HTW := Lib.hid TW
      have kW := TW.below
      obtain ⟨a0, a1, a2, a3⟩ := TW.one.cells3
      obtain ⟨b0, b1, b2, b3⟩ := TW.two.cells3
      obtain ⟨⟨q0, q1, q2⟩, q3, q4, q5⟩ := QW.cells5
      by_cases hs : 0 < x.skew
      · have hd : decide (0 < x.skew) = true := decide_eq_true hs
        have HCW : Hid (∀ V : World, Keeps W V → Calls Tryz.prog 73 #[.agg #[.slice A1 n1 c1, .slice (some ⟨b, o, none⟩) n2 c2, s3], .agg #[.slice A4 n4 c4, v1, v2], .int .i64 x.id] V fun e w' => e = .returned (.int .i64 (skewD ns x.id (zonesOf ns) l)) ∧ Below V.heap.size V w') := fun V hV => HC.out V (kW.trans (hV.2.mono kW.size)) x.id
        clear TW QW
        generalize skewD ns x.id (zonesOf ns) l = z at *
        by_cases hz : x.skew < z
        · have hd2 : decide (x.skew < z) = true := decide_eq_true hz
          have HN := Lib.hid (HX.out.1 ⟨hs, hz⟩)
          clear hs hz
          go_region_held3 (fun w' => (∀ b o, b < W.heap.size → w'.cell? ⟨b, o, none⟩ = W.cell? ⟨b, o, none⟩) ∧ Below W.heap.size W w')
            (first | (with_reducible assumption) | (show Keeps W _; with_reducible (repeat (first | exact Keeps.refl _ | assumption | refine Keeps.drew ?_ | refine Keeps.alloc ?_ _ | refine Keeps.step ?_ (by assumption)))))
            (first | (go_at_call 73; refine (HCW.out _ (by assumption)).mono ?_; rintro e w' ⟨rfl, hb⟩))
          rename_i V hK
          have kV := kW.trans (hK.2.mono kW.size)
          clear hK a0 a1 a2 a3 b0 b1 b2 b3 q0 q1 q2 q3 q4 q5 HCW
          go_wp2
          go_ret
          exact ⟨_, rfl, .inr (.inr ⟨k, _, by rw [HN.out], rfl, kV.size, by rw [HN.out]; exact heap_alloc_new _ _⟩), kV.alloc kV.size _⟩
        · have hd2 : decide (x.skew < z) = false := decide_eq_false hz
          have HN := Lib.hid (HX.out.2 (fun q => hz q.2))
          clear hs hz
          go_region_held3 (fun w' => (∀ b o, b < W.heap.size → w'.cell? ⟨b, o, none⟩ = W.cell? ⟨b, o, none⟩) ∧ Below W.heap.size W w')
            (first | (with_reducible assumption) | (show Keeps W _; with_reducible (repeat (first | exact Keeps.refl _ | assumption | refine Keeps.drew ?_ | refine Keeps.alloc ?_ _ | refine Keeps.step ?_ (by assumption)))))
            (first | (go_at_call 73; refine (HCW.out _ (by assumption)).mono ?_; rintro e w' ⟨rfl, hb⟩))
          rename_i hK
          have HT3 := Lib.hid (HTW.out.keep hK.2)
          clear hK a0 a1 a2 a3 b0 b1 b2 b3 q0 q1 q2 q3 q4 q5 HCW
          go_wp2
          go_roundw
          case rel => exact ⟨k + 1, by omega, by go_num, HN.out, HT3.out⟩
          case measure => simp [intOf]; omega
      · have hd : decide (0 < x.skew) = false := decide_eq_false hs
        have HN := Lib.hid (HX.out.2 (fun q => hs q.1))
        clear hs TW QW
        go_quiet (fail)
        clear a0 a1 a2 a3 b0 b1 b2 b3 q0 q1 q2 q3 q4 q5
        go_wp2
        go_roundw
        case rel => exact ⟨k + 1, by omega, by go_num, HN.out, HTW.out.keep (below_draws (Below.refl _ _) _)⟩
        case measure => simp [intOf]; omega
    · have HE := Lib.hid (spreadFrom_end (by have := HN2.out; omega) HP.out)
      have kwr := T1.below
      clear T1
      go_wp2
      go_ret
      exact ⟨_, rfl, .inl ⟨HE.out, rfl⟩, kwr⟩
end Go.Proofs.YtkipfalolfleaaaGreatDoor

/- The five checks of a state, as numbers and places; an error that is none; a row of errors of the call's own. -/
namespace Go.Proofs.YtkipfalolfleaaaGreatDoor
set_option linter.unusedSimpArgs false
open Go.RowKit
set_option linter.unusedVariables false

/-- No error. -/
def okP (p : Int × Int) : Bool := p.1 == 0 && p.2 == -1
theorem okP_true {p : Int × Int} (h : okP p = true) : p = (0, -1) := by
  obtain ⟨a, b⟩ := p
  simp only [okP, Bool.and_eq_true, beq_iff_eq] at h
  rw [h.1, h.2]
/-- The budgets: told, or not. -/
def usedP (x1 x2 t1 t2 : Int) : Int × Int := if usedD x1 x2 t1 t2 = true then (15, -1) else (0, -1)
/-- What the five checks tell, in their order. -/
def fiveP (ns : List NodeD) (ls : List LoadD) (l : List PodD) (x1 x2 t1 t2 : Int) : List (Int × Int) := [roomOf ns l, apartOf ls l, spreadOf ns ls l, budgetOf ls l, usedP x1 x2 t1 t2]
/-- The ones at fault, the first k alone. -/
def badK (ps : List (Int × Int)) (most k : Nat) : List (Int × Int) := ((ps.take k).filter fun p => !okP p).take most
theorem badK_more {ps : List (Int × Int)} {most k : Nat} {p : Int × Int} (hp : ps[k]? = some p) :
    (okP p = true → badK ps most (k + 1) = badK ps most k) ∧ (okP p = false → (badK ps most k).length < most → badK ps most (k + 1) = badK ps most k ++ [p]) ∧ ((badK ps most k).length = most → badK ps most (k + 1) = badK ps most k) := by
  have hk := (List.getElem?_eq_some_iff.1 hp).1
  have e : ps.take (k + 1) = ps.take k ++ [p] := by rw [List.take_add_one, hp]; rfl
  unfold badK
  refine ⟨fun h => ?_, fun h hl => ?_, fun hl => ?_⟩
  · rw [e, List.filter_append]; simp [h]
  · rw [e, List.filter_append]
    have hs : ([p].filter fun p => !okP p) = [p] := by simp [h]
    rw [hs]
    rw [List.length_take] at hl
    rw [List.take_of_length_le (by simp; omega), List.take_of_length_le (l := (ps.take k).filter _) (by omega)]
  · rw [e, List.filter_append, List.take_append_of_le_length]
    rw [List.length_take] at hl; omega
theorem badK_full {ps : List (Int × Int)} {most : Nat} : ∀ {n k : Nat}, n + k = ps.length → (badK ps most k).length = most → badK ps most ps.length = badK ps most k
  | 0, k, h, _ => by rw [show k = ps.length by omega]
  | n + 1, k, h, hl => by
    have hp : ps[k]? = some (ps[k]'(by omega)) := List.getElem?_eq_getElem (by omega)
    have e := (badK_more (most := most) hp).2.2 hl
    rw [← e]
    exact badK_full (n := n) (by omega) (by rw [e]; exact hl)
theorem badK_none {ps : List (Int × Int)} {most : Nat} : badK ps most 0 = [] := by simp [badK]
theorem badK_len (ps : List (Int × Int)) (most k : Nat) : (badK ps most k).length ≤ most := by unfold badK; rw [List.length_take]; omega
theorem badK_len5 (ps : List (Int × Int)) (most k : Nat) : (badK ps most k).length ≤ ps.length := by
  unfold badK
  have := List.length_filter_le (fun p => !okP p) (ps.take k)
  rw [List.length_take] at this ⊢
  omega
/-- Errors, one for each of these. -/
def ErrsIs (ps : List (Int × Int)) (B : Nat) (w : World) (us : List Value) : Prop := us.length = ps.length ∧ ∀ (i : Nat) (p : Int × Int) (u : Value), ps[i]? = some p → us[i]? = some u → ErrIs p B w u
theorem errsIs_none {B : Nat} {w : World} : ErrsIs [] B w [] := ⟨rfl, by intro i p u h; simp at h⟩
theorem ErrsIs.snoc {ps : List (Int × Int)} {B : Nat} {w : World} {us : List Value} {p : Int × Int} {u : Value} (h : ErrsIs ps B w us) (hu : ErrIs p B w u) : ErrsIs (ps ++ [p]) B w (us ++ [u]) := by
  refine ⟨by simp [h.1], fun i q v hq hv => ?_⟩
  rcases Nat.lt_or_ge i ps.length with hi | hi
  · rw [List.getElem?_append_left hi] at hq
    rw [List.getElem?_append_left (by rw [h.1]; exact hi)] at hv
    exact h.2 i q v hq hv
  · rw [List.getElem?_append_right hi] at hq
    rw [List.getElem?_append_right (by rw [h.1]; exact hi), h.1] at hv
    cases hj : i - ps.length with
    | zero => rw [hj] at hq hv; simp at hq hv; subst hq hv; exact hu
    | succ j => rw [hj] at hq; simp at hq
theorem ErrsIs.below {ps : List (Int × Int)} {B : Nat} {w w' : World} {us : List Value} (h : ErrsIs ps B w us) (hb : Below w.heap.size w w') : ErrsIs ps B w' us := ⟨h.1, fun i p u hp hu => (h.2 i p u hp hu).below hb⟩
/-- What lies in memory as Spots stays. -/
def SpotsStay (w w' : World) : Prop := ∀ (g : Nat) (x : Array Value) (f : Nat × Nat), w.heap[g]? = some (Obj.cells x 137 f) → w'.heap[g]? = some (Obj.cells x 137 f)
theorem ErrIs.stay {p : Int × Int} {B : Nat} {w w' : World} {u : Value} (h : ErrIs p B w u) (hs : SpotsStay w w') : ErrIs p B w' u := by
  rcases h with h | h | ⟨k, g, h1, h2, h3, h4⟩
  · exact .inl h
  · exact .inr (.inl h)
  · exact .inr (.inr ⟨k, g, h1, h2, h3, hs g _ _ h4⟩)
theorem ErrsIs.stay {ps : List (Int × Int)} {B : Nat} {w w' : World} {us : List Value} (h : ErrsIs ps B w us) (hs : SpotsStay w w') : ErrsIs ps B w' us := ⟨h.1, fun i p u hp hu => (h.2 i p u hp hu).stay hs⟩
theorem ErrIs.base {p : Int × Int} {B B' : Nat} {w : World} {u : Value} (h : ErrIs p B w u) (hB : B' ≤ B) : ErrIs p B' w u := by
  rcases h with h | h | ⟨k, g, h1, h2, h3, h4⟩
  · exact .inl h
  · exact .inr (.inl h)
  · exact .inr (.inr ⟨k, g, h1, h2, by omega, h4⟩)
theorem ErrIs.nil {p : Int × Int} {B : Nat} {w : World} {u : Value} (h : ErrIs p B w u) (hp : okP p = true) : u = .nilIface := by
  have e := okP_true hp
  subst e
  rcases h with h | ⟨_, h, _⟩ | ⟨k, g, h1, _⟩
  · exact h.2
  · exact absurd h (by decide)
  · have h1 : (-1 : Int) = k := h1
    omega
theorem errIs_iface {p : Int × Int} {B : Nat} {w : World} {u : Value} (h : ErrIs p B w u) (hp : okP p = false) : ∃ t v, u = .iface t v := by
  rcases h with h | ⟨_, _, _, h⟩ | ⟨k, g, _, h, _⟩
  · rw [h.1] at hp; exact absurd hp (by decide)
  · exact ⟨_, _, h⟩
  · exact ⟨_, _, h⟩
theorem oneVal (x : Value) : ([x] : List Value).length = 1 := rfl
theorem flat_ones (l : List Value) : l.flatMap (fun x => [x]) = l := by induction l with
  | nil => rfl
  | cons x r ih => simp

section
variable {ops : Array Oper} {rest : List Oper} {o : Oper} {a : Act} {Q : Exit → Act → World → Prop} {wr : World}
/-- append of one value of a literal to a row of the call's own; Spots stay. -/
theorem wpList_pushS (t e : TypeId) (z : Value) (bytes : Nat) (ht : Tryz.prog.underlying t = some (.slice e)) (hinfo : (Tryz.prog.info? e).map (fun i => (i.zero, i.size, i.bytes)) = some (some z, 1, bytes)) (hz : z.cells.size = 1) (hby : bytes ≤ 1000) (hes : e ≠ 137)
    (hgd : o.guard = none) (s x : Operand) (ho : o.op = .call { callee := .builtin .append, args := #[s, x], argTypes := #[t, t] })
    (B : Nat) (v : Value) (n : Nat) (xs : List Value) (u : Value) (hu : u.oneCell' = true) (hown : wr.ownsRow B e 1 v n xs) (hB : B ≤ wr.heap.size) (hl : n ≤ 2000000)
    (hs : a.eval s = v) (hx : a.eval x = .slice (some ⟨wr.heap.size, 0, none⟩) 1 1)
    (h : ∀ v' w', w'.ownsRow B e 1 v' (n + 1) (xs ++ [u]) → Below B wr w' → B ≤ w'.heap.size → SpotsStay wr w' → wpList Tryz.prog ops Q rest (a.put o.dst v') w') :
    wpList Tryz.prog ops Q (o :: rest) a (wr.alloc (.cells #[u] e)) := by
  obtain ⟨i0, hi, hz0, hz1, hz2⟩ := info_parts hinfo
  refine wpList_append_own _ hgd s x t ho B e i0 z 1 bytes ht hi hz0 hz1 hz2 hz (by decide) v n xs hs (hown.alloc _) ⟨wr.heap.size, 0, none⟩ 1 1 [u] hx rfl ?_ ?_ ?_ ?_ ?_ ?_
  · intro j y hy
    rcases j with _ | j
    · simp at hy; subst hy; simp [Addr.add]
    · simp at hy
  · intro y hy; simp at hy; subst hy; exact hu
  · unfold maxLen; omega
  · have : (n + 1) * bytes ≤ (n + 1) * 1000 := Nat.mul_le_mul_left _ hby
    omega
  · simp; omega
  · intro v' w' h1 h2 _
    refine h v' w' h1 (((Below.refl B wr).alloc hB _).grown h2 (by simp; omega) (fun j hj => (hown.lt j hj).1)) (by have := h2.size; simp at this; omega) ?_
    intro g c f hg
    have hgl := (Array.getElem?_eq_some_iff.1 hg).1
    have hne : v.ownBlock ≠ some g := by
      intro hv
      rcases hown.2 with ⟨e1, _⟩ | ⟨g', cap, cur, e1, _, e2, _⟩
      · rw [e1] at hv; cases hv
      · rw [e1] at hv
        simp only [Value.ownBlock, Option.some.injEq] at hv
        subst hv
        rw [hg] at e2
        injection e2 with e2
        injection e2 with _ e3
        exact hes e3.symm
    have hb := h2.block g (by simp; omega) (fun e => hne e.symm)
    rw [hb]
    have := Below.heap_alloc wr (.cells #[u] e) g hgl
    rw [this]
    exact hg
end
end Go.Proofs.YtkipfalolfleaaaGreatDoor

/- errors.As of a Spot into a variable of type Code, and of a Code itself into one of type *Spot. -/
namespace Go.Proofs.YtkipfalolfleaaaGreatDoor
set_option linter.unusedSimpArgs false
open Go.RowKit Go.Extern.Stop Go.Stop Go.Extern
set_option linter.unusedVariables false

theorem Tryz.noAsSpot (v : Value) (xT : TypeId) (w : World) : (Instr.typeAssert (.iface 135 v) xT 113 true).run Tryz.prog w = .ok (.tuple #[.nilIface, .bool false]) w := run_typeAssert_lacksB Tryz.underlying113 (by kernel_rfl) (by kernel_rfl) v xT w
theorem Tryz.assignableNoSC (w : World) : (ReflectliteType.relation "AssignableTo" ReflectliteType.assignableTo #[.agg #[.pointer (some ⟨1, 135, none⟩)], .iface 108 (.agg #[.pointer (some ⟨1, 67, none⟩)])]).run Tryz.prog w = .ok (.bool false) w := by kernel_rfl

set_option maxHeartbeats 4000000 in
theorem as_spotC (g : Nat) (e : Int) (t : Addr) (old : Value) (w : World) (hg : w.cell? ⟨0, 0, none⟩ = some (.iface 108 (.agg #[.pointer (some ⟨1, 44, none⟩)]))) (hgl : g < w.heap.size) (hk : w.cell? ⟨g, 1, none⟩ = some (.int .i64 e)) (ht0 : w.cell? t = some old) (hf0 : w.frozen? t = false) :
    Calls Tryz.prog 24 #[.iface 135 (.pointer (some ⟨g, 0, none⟩)), .iface 73 (.pointer (some t))] w fun ev w' => ev = .returned (.bool true) ∧ w' = ((((w.alloc (.cells #[.pointer (some t)] 73)).alloc (.cells #[.pointer (some ⟨1, 73, none⟩), .pointer (some ⟨w.heap.size, 0, none⟩), .int .u64 150] 87)).alloc (.cells #[.pointer (some ⟨1, 73, none⟩), .pointer (some ⟨w.heap.size, 0, none⟩), .int .u64 150] 87)).alloc (.cells #[.int .i64 e] 67)).setCell t (.int .i64 e) := by
  have h6 := @run_callFunc_extern Tryz.prog 35 _ (fun args => ReflectliteValue.unpack (args.getD 0 (.tuple #[]))) Tryz.func35 (by kernel_rfl) (by kernel_rfl) (by kernel_rfl) (by kernel_rfl)
  have h7 := @run_callFunc_extern Tryz.prog 36 _ (ReflectliteValue.methodAny (ReflectliteValue.valueError "reflectlite.Value.Type" 0) (fun t _ _ _ => ReflectliteType.toType t)) Tryz.func36 (by kernel_rfl) (by kernel_rfl) (by kernel_rfl) (by kernel_rfl)
  have h8 := @run_callFunc_extern Tryz.prog 37 _ (ReflectliteValue.method (ReflectliteValue.valueError "reflectlite.Value.IsNil" 0) ReflectliteValue.isNil) Tryz.func37 (by kernel_rfl) (by kernel_rfl) (by kernel_rfl) (by kernel_rfl)
  have h27 := @run_callFunc_extern Tryz.prog 141 _ (ReflectliteType.abiMethod fun t => do pure (.int .u8 (← Rtype.kind t))) Tryz.func141 (by kernel_rfl) (by kernel_rfl) (by kernel_rfl) (by kernel_rfl)
  have h37 := @run_callFunc_extern Tryz.prog 151 _ (ReflectliteType.method ReflectliteType.elem) Tryz.func151 (by kernel_rfl) (by kernel_rfl) (by kernel_rfl) (by kernel_rfl)
  have h38 := @run_callFunc_extern Tryz.prog 152 _ (ReflectliteType.relation "Implements" ReflectliteType.implements_) Tryz.func152 (by kernel_rfl) (by kernel_rfl) (by kernel_rfl) (by kernel_rfl)
  have h10 := @run_callFunc_extern Tryz.prog 49 _ ReflectliteType.typeOf Tryz.func49 (by kernel_rfl) (by kernel_rfl) (by kernel_rfl) (by kernel_rfl)
  have h35 := @run_callFunc_extern Tryz.prog 149 _ (ReflectliteType.relation "AssignableTo" ReflectliteType.assignableTo) Tryz.func149 (by kernel_rfl) (by kernel_rfl) (by kernel_rfl) (by kernel_rfl)
  have h11 := @run_callFunc_extern Tryz.prog 50 _ (ReflectliteValue.method (ReflectliteValue.valueError "reflectlite.Value.Elem" 0) ReflectliteValue.elem) Tryz.func50 (by kernel_rfl) (by kernel_rfl) (by kernel_rfl) (by kernel_rfl)
  have h12 := @run_callFunc_extern Tryz.prog 51 _ ReflectliteValue.set Tryz.func51 (by kernel_rfl) (by kernel_rfl) (by kernel_rfl) (by kernel_rfl)
  have tO := Tryz.typeOfCodeC
  have mA := Tryz.methodAssignableTo
  have a25 := Tryz.assignableCode
  have tS := Tryz.typeOfSpot
  have aS := Tryz.assignableNoSC
  have nA := Tryz.noAsSpot
  have uW := Tryz.hasUnwrapSpot
  have mU := Tryz.methodUnwrap
  have v25 := Tryz.valueOfCode
  have f6 := Tryz.valueOfPCode
  have f7 := Tryz.typePCode
  have mK := Tryz.methodKind
  have mE := Tryz.methodElem
  have mI := Tryz.methodImplements
  have k27 := Tryz.kindPCode
  have k25 := Tryz.kindCode
  have e27 := Tryz.elemPCode
  have i25 := Tryz.implementsCode
  have n8 := Tryz.isNilPCode ⟨w.heap.size, 0, none⟩ t ((w.alloc (.cells #[.pointer (some t)] 73)).alloc (.cells #[.pointer (some ⟨1, 73, none⟩), .pointer (some ⟨w.heap.size, 0, none⟩), .int .u64 150] 87)) (by simp)
  have hlt : 0 < w.heap.size := by
    rcases Nat.eq_zero_or_pos w.heap.size with h0 | h
    · simp [World.cell?, h0] at hg
    · exact h
  have hg2 : ((w.alloc (.cells #[.pointer (some t)] 73)).alloc (.cells #[.pointer (some ⟨1, 73, none⟩), .pointer (some ⟨w.heap.size, 0, none⟩), .int .u64 150] 87)).cell? ⟨0, 0, none⟩ = some (.iface 108 (.agg #[.pointer (some ⟨1, 44, none⟩)])) := by
    rw [World.cell?_alloc_lt _ _ ⟨0, 0, none⟩ (by simp), World.cell?_alloc_lt _ _ ⟨0, 0, none⟩ hlt]; exact hg
  have htl : t.block < w.heap.size := by
    rcases Nat.lt_or_ge t.block w.heap.size with h | h
    · exact h
    · simp [World.cell?, Array.getElem?_eq_none h] at ht0
  have el := Tryz.elemVPCode ⟨w.heap.size, 0, none⟩ t (((w.alloc (.cells #[.pointer (some t)] 73)).alloc (.cells #[.pointer (some ⟨1, 73, none⟩), .pointer (some ⟨w.heap.size, 0, none⟩), .int .u64 150] 87)).alloc (.cells #[.pointer (some ⟨1, 73, none⟩), .pointer (some ⟨w.heap.size, 0, none⟩), .int .u64 150] 87)) (by rw [World.cell?_alloc_lt _ _ ⟨w.heap.size, 0, none⟩ (by simp; omega)]; simp)
  have st := Tryz.setCode t ⟨w.heap.size + 1 + 1 + 1, 0, none⟩ e old ((((w.alloc (.cells #[.pointer (some t)] 73)).alloc (.cells #[.pointer (some ⟨1, 73, none⟩), .pointer (some ⟨w.heap.size, 0, none⟩), .int .u64 150] 87)).alloc (.cells #[.pointer (some ⟨1, 73, none⟩), .pointer (some ⟨w.heap.size, 0, none⟩), .int .u64 150] 87)).alloc (.cells #[.int .i64 e] 67))
    (by rw [World.cell?_alloc_at _ _ _ _ (by simp)]; rfl)
    (by rw [World.cell?_alloc_lt _ _ t (by simp; omega), World.cell?_alloc_lt _ _ t (by simp; omega), World.cell?_alloc_lt _ _ t (by simp; omega), World.cell?_alloc_lt _ _ t htl]; exact ht0)
    (by rw [World.frozen?_alloc_old _ _ t (by simp; omega), World.frozen?_alloc_old _ _ t (by simp; omega), World.frozen?_alloc_old _ _ t (by simp; omega), World.frozen?_alloc_old _ _ t (Nat.ne_of_lt htl)]; exact hf0)
  have hk3 : (((w.alloc (.cells #[.pointer (some t)] 73)).alloc (.cells #[.pointer (some ⟨1, 73, none⟩), .pointer (some ⟨w.heap.size, 0, none⟩), .int .u64 150] 87)).alloc (.cells #[.pointer (some ⟨1, 73, none⟩), .pointer (some ⟨w.heap.size, 0, none⟩), .int .u64 150] 87)).cell? ⟨g, 1, none⟩ = some (.int .i64 e) := by
    rw [World.cell?_alloc_lt _ _ ⟨g, 1, none⟩ (by simp; omega), World.cell?_alloc_lt _ _ ⟨g, 1, none⟩ (by simp; omega), World.cell?_alloc_lt _ _ ⟨g, 1, none⟩ hgl]; exact hk
  go_enter Tryz.func24, Tryz.ntmps24
  go_wp2
  refine wp_loop_rounds 2 ?_
  rw [rounds_succ]
  go_wp2
  rw [rounds_succ]
  go_wp2
  go_ret
  exact ⟨rfl, rfl⟩
end Go.Proofs.YtkipfalolfleaaaGreatDoor

namespace Go.Proofs.YtkipfalolfleaaaGreatDoor
set_option linter.unusedSimpArgs false
open Go.RowKit
set_option linter.unusedVariables false

/-- errors.As of any error into a variable of type Code. -/
theorem as_codeO (p : Int × Int) (C B : Nat) (u old : Value) (w : World) (hu : ErrIs p C w u) (hp : okP p = false) (hg : Laid w) (ht0 : w.cell? ⟨B, 0, none⟩ = some old) (hf0 : w.frozen? ⟨B, 0, none⟩ = false) :
    Calls Tryz.prog 24 #[u, .iface 73 (.pointer (some ⟨B, 0, none⟩))] w fun ev w' => ev = .returned (.bool true) ∧ w'.cell? ⟨B, 0, none⟩ = some (.int .i64 p.1) ∧ Below B w w' := by
  have htl : B < w.heap.size := World.block_lt_of_cell? w ⟨B, 0, none⟩ ht0
  have fin : ∀ (c : Int) (w' : World), w' = ((((w.alloc (.cells #[.pointer (some ⟨B, 0, none⟩)] 73)).alloc (.cells #[.pointer (some ⟨1, 73, none⟩), .pointer (some ⟨w.heap.size, 0, none⟩), .int .u64 150] 87)).alloc (.cells #[.pointer (some ⟨1, 73, none⟩), .pointer (some ⟨w.heap.size, 0, none⟩), .int .u64 150] 87)).alloc (.cells #[.int .i64 c] 67)).setCell ⟨B, 0, none⟩ (.int .i64 c) →
      w'.cell? ⟨B, 0, none⟩ = some (.int .i64 c) ∧ Below B w w' := by
    rintro c w' rfl
    have hold : ((((w.alloc (.cells #[.pointer (some ⟨B, 0, none⟩)] 73)).alloc (.cells #[.pointer (some ⟨1, 73, none⟩), .pointer (some ⟨w.heap.size, 0, none⟩), .int .u64 150] 87)).alloc (.cells #[.pointer (some ⟨1, 73, none⟩), .pointer (some ⟨w.heap.size, 0, none⟩), .int .u64 150] 87)).alloc (.cells #[.int .i64 c] 67)).cell? ⟨B, 0, none⟩ = some old := by
      rw [World.cell?_alloc_lt _ _ ⟨B, 0, none⟩ (by simp; omega), World.cell?_alloc_lt _ _ ⟨B, 0, none⟩ (by simp; omega), World.cell?_alloc_lt _ _ ⟨B, 0, none⟩ (by simp; omega), World.cell?_alloc_lt _ _ ⟨B, 0, none⟩ htl]; exact ht0
    exact ⟨World.cell?_setCell_same _ _ _ hold, (((((Below.refl B w).alloc (by omega) _).alloc (by simp; omega) _).alloc (by simp; omega) _).alloc (by simp; omega) _).setCell (p := ⟨B, 0, none⟩) (Nat.le_refl _) _⟩
  rcases hu with ⟨h, _⟩ | ⟨_, _, _, rfl⟩ | ⟨k, g, _, rfl, _, h4⟩
  · rw [h] at hp; exact absurd hp (by decide)
  · refine (as_hitC p.1 ⟨B, 0, none⟩ old w hg ht0 hf0).mono ?_
    rintro ev w' ⟨h1, h2⟩
    exact ⟨h1, fin _ w' h2⟩
  · have hgl : g < w.heap.size := (Array.getElem?_eq_some_iff.1 h4).1
    refine (as_spotC g p.1 ⟨B, 0, none⟩ old w hg hgl (by simp [World.cell?, h4]) ht0 hf0).mono ?_
    rintro ev w' ⟨h1, h2⟩
    exact ⟨h1, fin _ w' h2⟩

end Go.Proofs.YtkipfalolfleaaaGreatDoor
