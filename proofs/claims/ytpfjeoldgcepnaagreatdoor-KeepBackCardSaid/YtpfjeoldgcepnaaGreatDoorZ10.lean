/- Joined texts, part 10: YC YD VG. -/
import Derived.Test.YtpfjeoldgcepnaaGreatDoorZ09
import Derived.Test.YtpfjeoldgcepnaaGreatDoorZ01
import Derived.Test.YtpfjeoldgcepnaaGreatDoorZ03
import Derived.Deep.RegionHeld3
import Derived.Test.YtpfjeoldgcepnaaGreatDoorZ07
import Derived.Test.YtpfjeoldgcepnaaGreatDoorZ08

/- A load's count in a zone, and its skew: the program's Count and Skew of layer 8. -/
namespace Go.Proofs.YtpfjeoldgcepnaaGreatDoor
set_option linter.unusedSimpArgs false
open Go.RowKit Go.Shelf
set_option linter.unusedVariables false

theorem mm_bounds {ns : List NodeD} {load : Int} {zs : List Int} {l : List PodD} (hz : zs ≠ []) : ∃ a b : Nat, Lib.maxOf (countsD ns load zs l) = a ∧ Lib.minOf (countsD ns load zs l) = b ∧ b ≤ a ∧ a ≤ l.length ∧ skewD ns load zs l = (a : Int) - (b : Int) := by
  have h := skew_max (ns := ns) (load := load) (l := l) hz
  obtain ⟨a, ha⟩ := Int.eq_ofNat_of_zero_le (show 0 ≤ Lib.maxOf (countsD ns load zs l) by omega)
  obtain ⟨b, hb⟩ := Int.eq_ofNat_of_zero_le (show 0 ≤ Lib.minOf (countsD ns load zs l) by omega)
  refine ⟨a, b, ha, hb, by omega, by omega, by rw [h.1, ha, hb]⟩

set_option maxHeartbeats 6400000 in
set_option maxRecDepth 100000 in
theorem skew_any (ns : List NodeD) (l : List PodD) (load : Int) (A1 A4 : Option Addr) (n1 c1 n4 c4 : Nat) (s2 s3 v1 v2 : Value) (w : World)
    (hn1 : n1 = ns.length) (hl1 : n1 ≤ 400) (hr1 : Recs 10 cellsN w w.heap.size A1 ns) (hn4 : n4 = l.length) (hl4 : n4 ≤ 400) (hr4 : Recs 8 cellsP w w.heap.size A4 l) :
    Calls Tryz.prog 157 #[.agg #[.slice A1 n1 c1, s2, s3], .agg #[.slice A4 n4 c4, v1, v2], .int .i64 load] w fun e w' => e = .returned (.int .i64 (skewD ns load (zonesOf ns) l)) ∧ Below w.heap.size w w' := by
  have T0 := T2.new w [.slice A1 n1 c1, s2, s3] [.slice A4 n4 c4, v1, v2] 26 42
  have HZ := Lib.hid (zones_any sort_own comp_own ns A1 n1 c1 s2 s3 _ hn1 (by omega) ((hr1.below T0.below (Nat.le_refl _)).more T0.below.size))
  have HR := Lib.hid (zones_fold ns [] trivial)
  have HT0 := Lib.hid T0
  have HC := Lib.hid (fun (V : World) (hV : Below w.heap.size w V) (bz nz cz : Nat) h1 h2 h3 h4 => counts_any ns l load (zonesOf ns) A1 A4 n1 c1 n4 c4 bz 0 nz cz s2 s3 v1 v2 V hn1 hl1 ((hr1.below hV (Nat.le_refl _)).more hV.size) hn4 hl4 ((hr4.below hV (Nat.le_refl _)).more hV.size) h1 h2 (zones_fold ns [] trivial).1 h3 h4)
  have HN1 := Lib.hid hn1
  have HN4 := Lib.hid hn4
  clear hr1 hr4 hn1 hn4 T0
  go_enter Tryz.func157, Tryz.ntmps157
  go_wp2_with fail
  refine HZ.out.mono ?_
  rintro e w1 ⟨v, rfl, hown, hb1⟩
  have T1 := HT0.out.keep hb1
  have HT1 := Lib.hid T1
  clear hb1 HT0 HZ
  rw [List.length_map] at hown
  have hz400 : (zonesOf ns).length ≤ 400 := by
    have h := HR.out.2.1
    have := HN1.out
    unfold zonesOf
    simp at h
    omega
  rcases slice_shape hown with ⟨rfl, he⟩ | ⟨g, cap, cur, rfl, hbase, hb, h1, h2, h3, h4⟩
  · have HE : Hid (skewD ns load (zonesOf ns) l = 0) := by show _ = _; rw [skewD, if_pos he]
    have kw := T1.below
    clear hown he hz400 T1
    go_wp2
    go_ret
    exact ⟨ret_int HE.out.symm, kw⟩
  · have hcell : ∀ j, j < (zonesOf ns).length → w1.cell? ⟨g, 0 + j, none⟩ = some (.int .i64 ((zonesOf ns).getD j 0)) := fun j hj => by
      have hq := hown.cells (g := g) rfl j (.int .i64 ((zonesOf ns).getD j 0)) (by rw [List.getElem?_map, List.getElem?_eq_getElem hj]; simp [List.getD, hj])
      rw [Addr.add_lit] at hq
      simpa using hq
    have hg : g < w1.heap.size := (Array.getElem?_eq_some_iff.1 hb).1
    have HC1 := Lib.hid (HC.out w1 T1.below g (zonesOf ns).length cap rfl (by omega) hg hcell)
    by_cases hz : zonesOf ns = []
    · have HE : Hid (skewD ns load (zonesOf ns) l = 0) := by show _ = _; rw [skewD, if_pos hz]
      have kw := T1.below
      have hn0 : (zonesOf ns).length = 0 := by rw [hz]; rfl
      rw [hn0]
      clear hown hz hz400 T1 hcell hb h1 h2 h3 h4 HC1
      go_wp2
      go_ret
      exact ⟨ret_int HE.out.symm, kw⟩
    · obtain ⟨a, b, m1, m2, m3, m4, m5⟩ := mm_bounds (ns := ns) (load := load) (l := l) hz
      have HM := Lib.hid m1
      have HMI := Lib.hid m2
      have HSK := Lib.hid m5
      have hpos : 0 < (zonesOf ns).length := List.length_pos_iff.2 hz
      have HCL := Lib.hid (counts_len (ns := ns) (load := load) (zs := zonesOf ns) (l := l))
      have ha : (a : Int) ≤ 400 := by have := HN4.out; omega
      have hba : (b : Int) ≤ (a : Int) := by omega
      have hb0 : (0 : Int) ≤ (b : Int) := by omega
      obtain ⟨a0, a1, a2, a3⟩ := T1.one.cells3
      obtain ⟨b0, b1, b2, b3⟩ := T1.two.cells3
      generalize hnz : (zonesOf ns).length = nz at *
      have hd : ((nz : Int) == 0) = false := by simp; omega
      have HNZ := Lib.hid hnz
      clear hown hz T1 hcell hb h1 h2 h3 h4 m1 m2 m3 m4 m5 hnz
      go_wp2_with fail
      refine HC1.out.mono ?_
      rintro e w2 ⟨g', rfl, hg', hbf, hb2⟩
      have HBF := Lib.hid hbf
      have HT2 := Lib.hid (HT1.out.keep hb2)
      have HCC : Hid (∀ V : World, V = w2 → ∀ j, j < (countsD ns load (zonesOf ns) l).length → V.cell? ⟨g', 0 + j, none⟩ = some (.int .i64 ((countsD ns load (zonesOf ns) l).getD j 0))) := fun V hV j hj => by
        subst hV
        rw [Nat.zero_add]
        exact hbf.cell j _ (by rw [List.getElem?_map, List.getElem?_eq_getElem hj]; simp [List.getD, hj])
      have HMX := Lib.hid (Any.slices_Max_int Tryz.laysMax g' 0 nz nz (countsD ns load (zonesOf ns) l) w2 hpos (by rw [HCL.out]; exact Nat.le_refl _) (by omega) (HCC.out w2 rfl))
      have HMN := Lib.hid (Any.slices_Min_int Tryz.laysMin g' 0 nz nz (countsD ns load (zonesOf ns) l) w2 hpos (by rw [HCL.out]; exact Nat.le_refl _) (by omega) (HCC.out w2 rfl))
      clear hg' hbf hb2 HC1 a0 a1 a2 a3 b0 b1 b2 b3 HCC
      go_wp2_with fail
      refine HMX.out.mono ?_
      rintro e w3 ⟨rfl, rfl⟩
      have HT : Hid ((countsD ns load (zonesOf ns) l).take nz = countsD ns load (zonesOf ns) l) := List.take_of_length_le (by rw [HCL.out]; exact Nat.le_refl _)
      rw [HT.out, HM.out]
      go_wp2_with fail
      refine HMN.out.mono ?_
      rintro e w3' ⟨rfl, rfl⟩
      rw [HT.out, HMI.out]
      go_wp2
      go_ret
      exact ⟨ret_int HSK.out.symm, HT2.out.below⟩
end Go.Proofs.YtpfjeoldgcepnaaGreatDoor

/- The program's Check of layer 8. -/
namespace Go.Proofs.YtpfjeoldgcepnaaGreatDoor
set_option linter.unusedSimpArgs false
open Go.RowKit
set_option linter.unusedVariables false

/-- The first load, behind k others, whose zones are too unlike. -/
def spreadFrom (ns : List NodeD) (l : List PodD) : List LoadD → Nat → Int × Int
  | [], _ => (0, -1)
  | x :: r, k => if 0 < x.skew ∧ x.skew < skewD ns x.id (zonesOf ns) l then (11, (k : Int)) else spreadFrom ns l r (k + 1)
def spreadOf (ns : List NodeD) (ls : List LoadD) (l : List PodD) : Int × Int := spreadFrom ns l ls 0
theorem spreadFrom_at {ns : List NodeD} {l : List PodD} {ls : List LoadD} {k : Nat} {z : Int × Int} (h : k < ls.length) {x : LoadD} (hx : ls[k] = x) (hp : spreadFrom ns l (ls.drop k) k = z) :
    (0 < x.skew ∧ x.skew < skewD ns x.id (zonesOf ns) l → z = (11, (k : Int))) ∧ (¬ (0 < x.skew ∧ x.skew < skewD ns x.id (zonesOf ns) l) → spreadFrom ns l (ls.drop (k + 1)) (k + 1) = z) := by
  rw [List.drop_eq_getElem_cons h, hx, spreadFrom] at hp
  constructor
  · intro e; rw [if_pos e] at hp; exact hp.symm
  · intro e; rw [if_neg e] at hp; exact hp
theorem spreadFrom_end {ns : List NodeD} {l : List PodD} {ls : List LoadD} {k : Nat} {z : Int × Int} (h : ls.length ≤ k) (hp : spreadFrom ns l (ls.drop k) k = z) : z = (0, -1) := by
  rw [List.drop_of_length_le h] at hp
  exact hp.symm
theorem Bf.cells5 {V : World} {b : Nat} {x : LoadD} (h : Bf V b (cellsL x)) : (V.cell? ⟨b, 0, none⟩ = some (.int .i64 x.id) ∧ V.cell? ⟨b, 1, none⟩ = some (.bool x.apart) ∧ V.cell? ⟨b, 2, none⟩ = some (.int .i64 x.skew)) ∧ V.cell? ⟨b, 3, none⟩ = some (.int .i64 x.min) ∧ V.cell? ⟨b, 4, none⟩ = some (.int .i64 x.max) ∧ b < V.heap.size :=
  ⟨⟨h.cell 0 _ rfl, h.cell 1 _ rfl, h.cell 2 _ rfl⟩, h.cell 3 _ rfl, h.cell 4 _ rfl, h.lt⟩
def SpreadRel (ns : List NodeD) (ls : List LoadD) (l : List PodD) (a b : List Value) (w : World) (v : Value) (wr : World) : Prop := ∃ k : Nat, k ≤ ls.length ∧ v = .int .i64 k ∧ spreadFrom ns l (ls.drop k) k = spreadOf ns ls l ∧ T2 a b w wr

set_option maxHeartbeats 6400000 in
set_option maxRecDepth 100000 in
theorem spreadCheck_any (ns : List NodeD) (ls : List LoadD) (l : List PodD) (A1 A2 A4 : Option Addr) (n1 c1 n2 c2 n4 c4 : Nat) (s3 v1 v2 : Value) (w : World)
    (hn1 : n1 = ns.length) (hl1 : n1 ≤ 400) (hr1 : Recs 10 cellsN w w.heap.size A1 ns) (hn2 : n2 = ls.length) (hl2 : n2 ≤ 400) (hr2 : Recs 5 cellsL w w.heap.size A2 ls) (hn4 : n4 = l.length) (hl4 : n4 ≤ 400) (hr4 : Recs 8 cellsP w w.heap.size A4 l) :
    Calls Tryz.prog 142 #[.agg #[.slice A1 n1 c1, .slice A2 n2 c2, s3], .agg #[.slice A4 n4 c4, v1, v2]] w (ErrTo (spreadOf ns ls l) w) := by
  have T0 := T2.new w [.slice A1 n1 c1, .slice A2 n2 c2, s3] [.slice A4 n4 c4, v1, v2] 26 42
  have HN2 := Lib.hid hn2
  have HR2 := Lib.hid hr2
  have HC := Lib.hid (fun (V : World) (hV : Below w.heap.size w V) (id : Int) => skew_any ns l id A1 A4 n1 c1 n4 c4 (.slice A2 n2 c2) s3 v1 v2 V hn1 hl1 ((hr1.below hV (Nat.le_refl _)).more hV.size) hn4 hl4 ((hr4.below hV (Nat.le_refl _)).more hV.size))
  have HT0 := Lib.hid T0
  clear hr1 hn1 hr2 hn2 hr4 hn4 T0
  go_enter Tryz.func142, Tryz.ntmps142
  go_wp2
  go_loopw [10] (SpreadRel ns ls l [.slice A1 n1 c1, .slice A2 n2 c2, s3] [.slice A4 n4 c4, v1, v2] w) (fun v _ => n2 - (intOf v).toNat)
  case atStart => exact ⟨0, by omega, rfl, rfl, HT0.out⟩
  case round =>
    obtain ⟨k, hk, rfl, hp, T1⟩ := hrel
    have HP := Lib.hid hp
    have HT1 := Lib.hid T1
    clear hp
    by_cases hlt : k < n2
    · have hkl : k < ls.length := by have := HN2.out; omega
      have kwr := T1.below
      obtain ⟨b, o, rfl, hb, he⟩ := HR2.out.at hkl
      generalize hx : ls[k] = x at *
      have HX := Lib.hid (spreadFrom_at hkl hx HP.out)
      clear hx
      have e0 : wr.cell? ⟨b, o + k * 5, none⟩ = some (.int .i64 x.id) := (kwr.cell (p := ⟨b, o + k * 5, none⟩) hb).trans (he 0 _ rfl)
      have e1 : wr.cell? ⟨b, o + k * 5 + 1, none⟩ = some (.bool x.apart) := (kwr.cell (p := ⟨b, o + k * 5 + 1, none⟩) hb).trans (he 1 _ rfl)
      have e2 : wr.cell? ⟨b, o + k * 5 + 2, none⟩ = some (.int .i64 x.skew) := (kwr.cell (p := ⟨b, o + k * 5 + 2, none⟩) hb).trans (he 2 _ rfl)
      have e3 : wr.cell? ⟨b, o + k * 5 + 3, none⟩ = some (.int .i64 x.min) := (kwr.cell (p := ⟨b, o + k * 5 + 3, none⟩) hb).trans (he 3 _ rfl)
      have e4 : wr.cell? ⟨b, o + k * 5 + 4, none⟩ = some (.int .i64 x.max) := (kwr.cell (p := ⟨b, o + k * 5 + 4, none⟩) hb).trans (he 4 _ rfl)
      have hbw : b < wr.heap.size := Nat.lt_of_lt_of_le hb kwr.size
      have TW := T1.alloc (.cells #[.int .i64 x.id, .bool x.apart, .int .i64 x.skew, .int .i64 x.min, .int .i64 x.max] 76)
      have QW : Bf (wr.alloc (.cells #[.int .i64 x.id, .bool x.apart, .int .i64 x.skew, .int .i64 x.min, .int .i64 x.max] 76)) wr.heap.size (cellsL x) := Bf.new wr (cellsL x) _ rfl
      clear he T1 kwr
      go_wp2_with fail
      go_upto_region 4 with fail
      clear e0 e1 e2 e3 e4 hbw
      generalize hW : wr.alloc (.cells #[.int .i64 x.id, .bool x.apart, .int .i64 x.skew, .int .i64 x.min, .int .i64 x.max] 76) = W at *
      generalize hh : wr.heap.size = h at *
      clear hW hh
      have HTW := Lib.hid TW
      have kW := TW.below
      obtain ⟨a0, a1, a2, a3⟩ := TW.one.cells3
      obtain ⟨b0, b1, b2, b3⟩ := TW.two.cells3
      obtain ⟨⟨q0, q1, q2⟩, q3, q4, q5⟩ := QW.cells5
      by_cases hs : 0 < x.skew
      · have hd : decide (0 < x.skew) = true := decide_eq_true hs
        have HCW : Hid (∀ V : World, Keeps W V → Calls Tryz.prog 157 #[.agg #[.slice A1 n1 c1, .slice (some ⟨b, o, none⟩) n2 c2, s3], .agg #[.slice A4 n4 c4, v1, v2], .int .i64 x.id] V fun e w' => e = .returned (.int .i64 (skewD ns x.id (zonesOf ns) l)) ∧ Below V.heap.size V w') := fun V hV => HC.out V (kW.trans (hV.2.mono kW.size)) x.id
        clear TW QW
        generalize skewD ns x.id (zonesOf ns) l = z at *
        by_cases hz : x.skew < z
        · have hd2 : decide (x.skew < z) = true := decide_eq_true hz
          have HN := Lib.hid (HX.out.1 ⟨hs, hz⟩)
          clear hs hz
          go_region_held3 (fun w' => (∀ b o, b < W.heap.size → w'.cell? ⟨b, o, none⟩ = W.cell? ⟨b, o, none⟩) ∧ Below W.heap.size W w')
            (first | (with_reducible assumption) | (show Keeps W _; with_reducible (repeat (first | exact Keeps.refl _ | assumption | refine Keeps.drew ?_ | refine Keeps.alloc ?_ _ | refine Keeps.step ?_ (by assumption)))))
            (first | (go_at_call 157; refine (HCW.out _ (by assumption)).mono ?_; rintro e w' ⟨rfl, hb⟩))
          rename_i V hK
          have kV := kW.trans (hK.2.mono kW.size)
          clear hK a0 a1 a2 a3 b0 b1 b2 b3 q0 q1 q2 q3 q4 q5 HCW
          go_wp2
          go_ret
          exact ⟨_, rfl, .inr (.inr ⟨k, _, by rw [HN.out], rfl, kV.size, by rw [HN.out]; exact heap_alloc_new _ _⟩), kV.alloc kV.size _⟩
        · have hd2 : decide (x.skew < z) = false := decide_eq_false hz
          have HN := Lib.hid (HX.out.2 (fun q => hz q.2))
          clear hs hz
          go_region_held3 (fun w' => (∀ b o, b < W.heap.size → w'.cell? ⟨b, o, none⟩ = W.cell? ⟨b, o, none⟩) ∧ Below W.heap.size W w')
            (first | (with_reducible assumption) | (show Keeps W _; with_reducible (repeat (first | exact Keeps.refl _ | assumption | refine Keeps.drew ?_ | refine Keeps.alloc ?_ _ | refine Keeps.step ?_ (by assumption)))))
            (first | (go_at_call 157; refine (HCW.out _ (by assumption)).mono ?_; rintro e w' ⟨rfl, hb⟩))
          rename_i hK
          have HT3 := Lib.hid (HTW.out.keep hK.2)
          clear hK a0 a1 a2 a3 b0 b1 b2 b3 q0 q1 q2 q3 q4 q5 HCW
          go_wp2
          go_roundw
          case rel => exact ⟨k + 1, by omega, by go_num, HN.out, HT3.out⟩
          case measure => simp [intOf]; omega
      · have hd : decide (0 < x.skew) = false := decide_eq_false hs
        have HN := Lib.hid (HX.out.2 (fun q => hs q.1))
        clear hs TW QW
        go_quiet (fail)
        clear a0 a1 a2 a3 b0 b1 b2 b3 q0 q1 q2 q3 q4 q5
        go_wp2
        go_roundw
        case rel => exact ⟨k + 1, by omega, by go_num, HN.out, HTW.out.keep (below_draws (Below.refl _ _) _)⟩
        case measure => simp [intOf]; omega
    · have HE := Lib.hid (spreadFrom_end (by have := HN2.out; omega) HP.out)
      have kwr := T1.below
      clear T1
      go_wp2
      go_ret
      exact ⟨_, rfl, .inl ⟨HE.out, rfl⟩, kwr⟩
end Go.Proofs.YtpfjeoldgcepnaaGreatDoor

namespace Go.Proofs.YtpfjeoldgcepnaaGreatDoor
set_option linter.unusedSimpArgs false
open Go.RowKit
set_option linter.unusedVariables false

/-- An error of a sum or a difference. -/
def errO (o : Option V4) : Value := if o.isSome = true then .nilIface else .iface 98 (.int .i64 8)
theorem vSub_any {x y : V4} (hx : x.Ok) (hy : y.Ok) (w : World) :
    Calls Tryz.prog 105 #[aggV x, aggV y] w fun e w' => e = .returned (.tuple #[aggV (lessV x y), errO (subV x y)]) ∧ Below w.heap.size w w' := by
  unfold lessV
  cases h : subV x y with
  | some z => exact vSub_some hx hy h w
  | none => exact vSub_none hx hy h w
theorem vAdd_any {x y : V4} (hx : x.Ok) (hy : y.Ok) (w : World) :
    Calls Tryz.prog 62 #[aggV x, aggV y] w fun e w' => e = .returned (.tuple #[aggV (moreV x y), errO (addV x y)]) ∧ Below w.heap.size w w' := by
  unfold moreV
  cases h : addV x y with
  | some z => exact vAdd_some hx hy h w
  | none => exact vAdd_none hx hy h w
theorem zer_ok : V4.zer.Ok := ⟨⟨by decide, by decide⟩, ⟨by decide, by decide⟩, ⟨by decide, by decide⟩, ⟨by decide, by decide⟩⟩
theorem less_okV {x y : V4} (hx : x.Ok) (hy : y.Ok) : (lessV x y).Ok := by
  unfold lessV
  cases h : subV x y with
  | some z => exact sub_ok4 hx hy h
  | none => exact zer_ok
theorem more_okV {x y : V4} (hx : x.Ok) (hy : y.Ok) : (moreV x y).Ok := by
  unfold moreV
  cases h : addV x y with
  | some z => exact add_ok4 hx hy h
  | none => exact zer_ok

set_option maxHeartbeats 1600000 in
set_option maxRecDepth 100000 in
theorem less_any {x y : V4} (hx : x.Ok) (hy : y.Ok) (w : World) :
    Calls Tryz.prog 61 #[aggV x, aggV y] w fun e w' => e = .returned (aggV (lessV x y)) ∧ Below w.heap.size w w' := by
  have HC := Lib.hid (fun w => vSub_any hx hy w)
  have HL := Lib.hid (less_okV hx hy)
  have T0 := T3.new w (cellsV x) (cellsV y) (cellsV .zer) 59 59 59
  clear hx hy
  generalize lessV x y = z at *
  generalize errO (subV x y) = u at *
  go_enter Tryz.func61, Tryz.ntmps61
  go_wp2_with fail
  refine (HC.out _).mono ?_
  rintro e w1 ⟨rfl, hb1⟩
  have T1 := T0.keep hb1
  clear hb1 T0
  have hz1 : w.heap.size + 2 < w1.heap.size := T1.three.lt
  have T2 := T1.alloc (.cells #[.int .u64 z.a, .int .u64 z.b, .int .u64 z.c, .int .u64 z.d] 59)
  obtain ⟨⟨g0, g1, g2, g3⟩, g4⟩ := T1.three.zero4
  obtain ⟨f0, f1, f2, f3⟩ := T1.three.free4
  have kw2 := T1.below
  clear T1 T2
  go_wp2
  refine bodyPost_ret (v := aggV z) ?_ rfl ?_
  · simp [results, Tryz.results61, go_sem, *]
  · refine ⟨rfl, ?_⟩
    repeat (first | with_reducible exact kw2 | with_reducible refine Below.setCell ?_ ?_ _ | with_reducible refine Below.alloc ?_ ?_ _)
    all_goals first | (show w.heap.size ≤ w.heap.size + 2; omega) | (simp; omega) | omega

set_option maxHeartbeats 1600000 in
set_option maxRecDepth 100000 in
theorem free_any {n : NodeD} (hn : n.Ok) (w : World) :
    Calls Tryz.prog 64 #[aggN n] w fun e w' => e = .returned (aggV (lessV n.cap n.held)) ∧ Below w.heap.size w w' := by
  have HC := Lib.hid (fun w => less_any hn.2.2.1 hn.2.2.2 w)
  have T0 := T2.new w (cellsN n) (cellsV .zer) 63 59
  clear hn
  generalize lessV n.cap n.held = z at *
  go_enter Tryz.func64, Tryz.ntmps64
  go_wp2_with fail
  refine (HC.out _).mono ?_
  rintro e w1 ⟨rfl, hb1⟩
  have T1 := T0.keep hb1
  clear hb1 T0
  obtain ⟨⟨g0, g1, g2, g3⟩, g4⟩ := T1.two.zero4
  obtain ⟨f0, f1, f2, f3⟩ := T1.two.free4
  have kw2 := T1.below
  clear T1
  go_wp2
  refine bodyPost_ret (v := aggV z) ?_ rfl ?_
  · simp [results, Tryz.results64, go_sem, *]
  · refine ⟨rfl, ?_⟩
    repeat (first | with_reducible exact kw2 | with_reducible refine Below.setCell ?_ ?_ _ | with_reducible refine Below.alloc ?_ ?_ _)
    all_goals first | (show w.heap.size ≤ w.heap.size + 1; omega) | (simp; omega) | omega
/-- A look-up of a node's use. -/
theorem use_run {M : MapsB} {n : Nat} {C : CntD} {V : World} (h : CntIs M n C V) {i : Int} (hi : I64 i) : (Instr.lookup 84 (.map (some M.u)) (.int .i64 i) false).run Tryz.prog V = .ok (aggV (C.use i)) V :=
  h.use.lookup intLaw Tryz.underlying84 (zeroVec _) (key_int hi)
theorem Bf.cells5v {V : World} {b : Nat} {M : MapsB} (h : Bf V b M.cells) : V.cell? ⟨b, 0, none⟩ = some (.map (some M.z)) ∧ V.cell? ⟨b, 1, none⟩ = some (.map (some M.u)) ∧ V.cell? ⟨b, 2, none⟩ = some (.map (some M.a)) ∧ V.cell? ⟨b, 3, none⟩ = some (.map (some M.i)) ∧ V.cell? ⟨b, 4, none⟩ = some (.map (some M.s)) ∧ b < V.heap.size :=
  ⟨h.cell 0 _ rfl, h.cell 1 _ rfl, h.cell 2 _ rfl, h.cell 3 _ rfl, h.cell 4 _ rfl, h.lt⟩
end Go.Proofs.YtpfjeoldgcepnaaGreatDoor
