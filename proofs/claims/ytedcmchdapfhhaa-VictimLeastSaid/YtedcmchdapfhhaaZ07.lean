/- Joined texts, part 7: IJ EPG PD IK UK IL UE. -/
import Derived.Test.YtedcmchdapfhhaaZ06
import Derived.Shelf.SlSortCmp.NoneTotal
import Derived.Test.YtedcmchdapfhhaaProg
import Derived.Sort.Grow
import Derived.Test.YtedcmchdapfhhaaZ05
import Derived.Test.YtedcmchdapfhhaaZ02
import Derived.Test.YtedcmchdapfhhaaZ01

/- The program's needed of layer 15: the ones without which the others don't make room. -/
namespace Go.Proofs.Ytedcmchdapfhhaa
set_option linter.unusedSimpArgs false
open Go.RowKit
set_option linter.unusedVariables false

theorem recsG_more {w : World} {B n : Nat} {v : Value} {zs : List Int} (hn : n = zs.length) (h : w.ownsRow B 3 1 v n (i64s zs)) : ∃ A c, v = .slice A n c ∧ n ≤ c ∧ c ≤ maxLen ∧ (A = none → c = 0) ∧ (∀ a, A = some a → a.spot = none) ∧ Recs 1 cellG w w.heap.size A zs := by
  obtain ⟨A, c, e, p1, p2, p3, p4⟩ := recsG hn h
  refine ⟨A, c, e, p1, p2, p3, ?_, p4⟩
  rcases sortG_shape hn h with ⟨e1, _⟩ | ⟨g, cap, cur, e1, _⟩
  · rw [e1] at e
    injection e with e
    subst e
    intro a ha; cases ha
  · rw [e1] at e
    injection e with e
    subst e
    intro a ha
    injection ha with ha
    subst ha; rfl
/-- A slice of ints in memory below B: its capacity, and how it lies. -/
structure SlI (w : World) (A : Option Addr) (c : Nat) (zs : List Int) : Prop where
  le : zs.length ≤ c
  max : c ≤ maxLen
  nil : A = none → c = 0
  recs : Recs 1 cellG w w.heap.size A zs
theorem SlI.later {w w' : World} {A : Option Addr} {c : Nat} {zs : List Int} (h : SlI w A c zs) (hb : Below w.heap.size w w') : SlI w' A c zs := ⟨h.le, h.max, h.nil, (h.recs.below hb (Nat.le_refl _)).more hb.size⟩
def NeededRel (mk : List Int → Bool) (R : List Int) (n : Nat) (w : World) (v i : Value) (wr : World) : Prop :=
  ∃ (cur : List Int) (A : Option Addr) (c m k : Nat) (j : Int), v = .slice A m c ∧ m = cur.length ∧ m ≤ n ∧ i = .int .i64 j ∧ j + 1 = (k : Int) ∧ k ≤ m ∧ needG mk cur k = R ∧ SlI wr A c cur ∧ Below w.heap.size w wr
def NeededTo (R : List Int) (w : World) (e : Ending) (w' : World) : Prop := ∃ A c, e = .returned (.slice A R.length c) ∧ SlI w' A c R ∧ Below w.heap.size w w'

theorem sli_own {w : World} {B n c : Nat} {A : Option Addr} {zs : List Int} (hn : n = zs.length) (h : w.ownsRow B 3 1 (.slice A n c) n (i64s zs)) : SlI w A c zs := by
  obtain ⟨A', c', he, p1, p2, p3, p4⟩ := recsG hn h
  injection he with e1 _ e2
  subst e1 e2 hn
  exact ⟨p1, p2, p3, p4⟩
theorem below_allocG (W : World) {o : Obj} {u : World} (h : Below (W.alloc o).drew.heap.size (W.alloc o).drew u) : Below W.heap.size W u :=
  (((Below.refl _ W).alloc (Nat.le_refl _) o).drew).trans (h.mono (by simp))
theorem ret_sliceG {A : Option Addr} {a b c : Nat} {v : Value} (h : a = b) (hv : v = .slice A a c) : Ending.returned v = .returned (.slice A b c) := by subst h hv; rfl

set_option maxHeartbeats 12800000 in
set_option maxRecDepth 100000 in
theorem needed_any (mk : List Int → Bool) (b5 b6 b7 b8 b9 : Nat) (zs R : List Int) (A : Option Addr) (n c : Nat) (w : World) (HM : MkTo mk b5 b6 b7 b8 b9 w) (hn : n = zs.length) (hl : n ≤ 400) (hR : needG mk zs n = R) (hs : SlI w A c zs) :
    Calls Try.prog 14 #[.slice A n c, mkClo b5 b6 b7 b8 b9] w (NeededTo R w) := by
  have HMM := Lib.hid HM
  have HN := Lib.hid hn
  have HS := Lib.hid hs
  have HRR := Lib.hid hR
  clear hn HM hs hR
  go_enter Try.func14, Try.ntmps14
  go_wp2
  go_loopw [0, 5] (NeededRel mk R n w) (fun _ i _ => (intOf i + 1).toNat)
  case atStart => exact ⟨zs, A, c, n, n, _, rfl, HN.out, Nat.le_refl _, rfl, by omega, Nat.le_refl _, HRR.out, HS.out, Below.refl _ _⟩
  case round =>
    obtain ⟨cur, A, c, m, k, j, rfl, hm, hmn, rfl, hj, hk, hneed, hsl, hbr⟩ := hrel
    have HNEED := Lib.hid hneed
    have HSL := Lib.hid hsl
    have HBR := Lib.hid hbr
    have HCUR := Lib.hid hm
    clear hneed hsl hbr hm
    rcases k with _ | k
    · obtain rfl : j = -1 := by omega
      have HE := Lib.hid (show m = R.length by have h1 := HCUR.out; have h2 := HNEED.out; rw [needG] at h2; rw [h1, h2])
      have HRE := Lib.hid (show cur = R from HNEED.out)
      have kb := HBR.out
      clear hj HNEED HMM
      go_wp2
      go_ret
      exact ⟨A, c, ret_sliceG HE.out rfl, by rw [← HRE.out]; exact HSL.out, kb⟩
    · obtain rfl : j = (k : Int) := by omega
      have hkm : k < m := by omega
      have hkc : k < cur.length := by have := HCUR.out; omega
      obtain ⟨b, o, rfl, hb, _⟩ := recsG_at HSL.out.recs hkc
      have hc1 : m ≤ c := by have h1 := HSL.out.le; have h2 := HCUR.out; omega
      have hc2 : c ≤ 9223372036854775807 := by have := HSL.out.max; unfold maxLen at this; omega
      clear hj
      have q0 : (0 : Int) ≤ (k : Int) + 1 := by omega
      have q1 : (k : Int) + 1 ≤ (m : Int) := by omega
      have hwr : IntKind.i64.wrap ((k : Int) + 1) = (k : Int) + 1 := IntWalk.i64_in _ (by omega)
      by_cases hck : c = k + 1
      · subst hck
        obtain rfl : m = k + 1 := by omega
        have HCC : Hid (∀ (V : World) (g : Nat), Below wr.heap.size wr V → g < V.heap.size → V.cell? ⟨g, 0, none⟩ = some (.slice (some ⟨b, o, none⟩) k (k + 1)) → V.cell? ⟨g, 1, none⟩ = some (.slice (some ⟨b, o, none⟩) 0 0) →
            Calls Try.prog 25 #[.slice (some ⟨g, 0, none⟩) 2 2] V fun e w' => ∃ A c, e = .returned (.slice A (cur.eraseIdx k).length c) ∧ (A = none → c = 0) ∧ w'.ownsRow V.heap.size 3 1 (.slice A (cur.eraseIdx k).length c) (cur.eraseIdx k).length (i64s (cur.eraseIdx k)) ∧ Below V.heap.size V w') := fun V g hV hg k0 k1 => by
          have hrV := (HSL.out.recs.below hV (Nat.le_refl _)).more hV.size
          have hd : Recs 1 cellG V V.heap.size (some ⟨b, o, none⟩) (cur.drop (k + 1)) := .inl (List.drop_of_length_le (by have := HCUR.out; omega))
          have h := concat2_any (cur.take k) (cur.drop (k + 1)) (some ⟨b, o, none⟩) (some ⟨b, o, none⟩) k (k + 1) 0 0 g 2 V (by rw [List.length_take]; omega) (by rw [List.length_drop]; have := HCUR.out; omega) (by omega) (by omega) (by intro h; cases h) (by intro h; cases h) hg k0 k1 (hrV.take k) hd
          rw [← List.eraseIdx_eq_take_drop_succ] at h
          exact h
        go_upto_region 4 with fail
        go_region_with (first
          | (go_at_call 25; refine (HCC.out _ _ (by first | exact (Below.refl _ _).drew.alloc (Nat.le_refl _) _ | exact ((Below.refl _ _).alloc (Nat.le_refl _) _).drew | exact (Below.refl _ _).alloc (Nat.le_refl _) _) (by first | exact (Bf.new _ [_, _] _ rfl).lt | exact (Bf.drew (Bf.new _ [_, _] _ rfl)).lt) (by first | exact (Bf.new _ [_, _] _ rfl).cell 0 _ rfl | exact (Bf.drew (Bf.new _ [_, _] _ rfl)).cell 0 _ rfl) (by first | exact (Bf.new _ [_, _] _ rfl).cell 1 _ rfl | exact (Bf.drew (Bf.new _ [_, _] _ rfl)).cell 1 _ rfl)).mono ?_; rintro e u1 ⟨A', c', rfl, h0', ho, hb1⟩))
        have hb0 := below_allocG wr hb1
        have HSU := Lib.hid (sli_own rfl ho)
        have HBU := Lib.hid (HBR.out.trans (hb0.mono HBR.out.size))
        have HSV := Lib.hid (HSL.out.later hb0)
        have HL2 : Hid ((cur.eraseIdx k).length + 1 = cur.length) := by
          show _ = _
          rw [List.length_eraseIdx_of_lt (by have := HCUR.out; omega)]; omega
        have HMU := Lib.hid (HMM.out u1 HBU.out (cur.eraseIdx k) A' (cur.eraseIdx k).length c' rfl (by have := HL2.out; have := HCUR.out; omega) HSU.out.recs)
        clear hb0 hb1 ho h0' HCC
        generalize hcu : cur.eraseIdx k = cu at *
        have HCU := Lib.hid hcu
        clear hcu
        generalize hn' : cu.length = n' at *
        have HN' := Lib.hid hn'
        clear hn'
        go_wp2_with fail
        refine HMU.out.mono ?_
        rintro e u2 ⟨rfl, hb2⟩
        have HSU2 := Lib.hid (HSU.out.later hb2)
        have HSV2 := Lib.hid (HSV.out.later hb2)
        have HBU2 := Lib.hid (HBU.out.trans (hb2.mono HBU.out.size))
        clear hb2
        rcases hm : mk cu with _ | _
        · have HR2 := Lib.hid ((need_no (by rw [HCU.out]; exact hm)).symm.trans HNEED.out)
          clear hm
          go_wp2
          go_roundw
          case rel => exact ⟨cur, some ⟨b, o, none⟩, (k + 1), (k + 1), k, (k : Int) - 1, rfl, HCUR.out, hmn, by go_num, by omega, by omega, HR2.out, HSV2.out, HBU2.out⟩
          case measure => simp [intOf]
        · have HR2 := Lib.hid ((need_yes (by rw [HCU.out]; exact hm)).symm.trans HNEED.out)
          clear hm
          go_wp2
          go_roundw
          case rel => exact ⟨cu, A', c', n', k, (k : Int) - 1, rfl, HN'.out.symm, by have := HL2.out; have := HCUR.out; omega, by go_num, by omega, by have := HL2.out; have := HCUR.out; omega, by rw [← HCU.out]; exact HR2.out, HSU2.out, HBU2.out⟩
          case measure => simp [intOf]
      · have hck' : ¬ (k + 1 = c) := fun h => hck h.symm
        have HCC : Hid (∀ (V : World) (g : Nat), Below wr.heap.size wr V → g < V.heap.size → V.cell? ⟨g, 0, none⟩ = some (.slice (some ⟨b, o, none⟩) k c) → V.cell? ⟨g, 1, none⟩ = some (.slice (some ⟨b, o + (k + 1), none⟩) (m - (k + 1)) (c - (k + 1))) →
            Calls Try.prog 25 #[.slice (some ⟨g, 0, none⟩) 2 2] V fun e w' => ∃ A c, e = .returned (.slice A (cur.eraseIdx k).length c) ∧ (A = none → c = 0) ∧ w'.ownsRow V.heap.size 3 1 (.slice A (cur.eraseIdx k).length c) (cur.eraseIdx k).length (i64s (cur.eraseIdx k)) ∧ Below V.heap.size V w') := fun V g hV hg k0 k1 => by
          have hrV := (HSL.out.recs.below hV (Nat.le_refl _)).more hV.size
          have hd := hrV.drop (k + 1)
          rw [Nat.mul_one] at hd
          have h := concat2_any (cur.take k) (cur.drop (k + 1)) (some ⟨b, o, none⟩) (some ⟨b, o + (k + 1), none⟩) k c (m - (k + 1)) (c - (k + 1)) g 2 V (by rw [List.length_take]; omega) (by rw [List.length_drop]; have := HCUR.out; omega) (by omega) (by omega) (by intro h; cases h) (by intro h; cases h) hg k0 k1 (hrV.take k) hd
          rw [← List.eraseIdx_eq_take_drop_succ] at h
          exact h
        go_upto_region 4 with fail
        go_region_with (first
          | (go_at_call 25; refine (HCC.out _ _ (by first | exact (Below.refl _ _).drew.alloc (Nat.le_refl _) _ | exact ((Below.refl _ _).alloc (Nat.le_refl _) _).drew | exact (Below.refl _ _).alloc (Nat.le_refl _) _) (by first | exact (Bf.new _ [_, _] _ rfl).lt | exact (Bf.drew (Bf.new _ [_, _] _ rfl)).lt) (by first | exact (Bf.new _ [_, _] _ rfl).cell 0 _ rfl | exact (Bf.drew (Bf.new _ [_, _] _ rfl)).cell 0 _ rfl) (by first | exact (Bf.new _ [_, _] _ rfl).cell 1 _ rfl | exact (Bf.drew (Bf.new _ [_, _] _ rfl)).cell 1 _ rfl)).mono ?_; rintro e u1 ⟨A', c', rfl, h0', ho, hb1⟩))
        have hb0 := below_allocG wr hb1
        have HSU := Lib.hid (sli_own rfl ho)
        have HBU := Lib.hid (HBR.out.trans (hb0.mono HBR.out.size))
        have HSV := Lib.hid (HSL.out.later hb0)
        have HL2 : Hid ((cur.eraseIdx k).length + 1 = cur.length) := by
          show _ = _
          rw [List.length_eraseIdx_of_lt (by have := HCUR.out; omega)]; omega
        have HMU := Lib.hid (HMM.out u1 HBU.out (cur.eraseIdx k) A' (cur.eraseIdx k).length c' rfl (by have := HL2.out; have := HCUR.out; omega) HSU.out.recs)
        clear hb0 hb1 ho h0' HCC
        generalize hcu : cur.eraseIdx k = cu at *
        have HCU := Lib.hid hcu
        clear hcu
        generalize hn' : cu.length = n' at *
        have HN' := Lib.hid hn'
        clear hn'
        go_wp2_with fail
        refine HMU.out.mono ?_
        rintro e u2 ⟨rfl, hb2⟩
        have HSU2 := Lib.hid (HSU.out.later hb2)
        have HSV2 := Lib.hid (HSV.out.later hb2)
        have HBU2 := Lib.hid (HBU.out.trans (hb2.mono HBU.out.size))
        clear hb2
        rcases hm : mk cu with _ | _
        · have HR2 := Lib.hid ((need_no (by rw [HCU.out]; exact hm)).symm.trans HNEED.out)
          clear hm
          go_wp2
          go_roundw
          case rel => exact ⟨cur, some ⟨b, o, none⟩, c, m, k, (k : Int) - 1, rfl, HCUR.out, hmn, by go_num, by omega, by omega, HR2.out, HSV2.out, HBU2.out⟩
          case measure => simp [intOf]
        · have HR2 := Lib.hid ((need_yes (by rw [HCU.out]; exact hm)).symm.trans HNEED.out)
          clear hm
          go_wp2
          go_roundw
          case rel => exact ⟨cu, A', c', n', k, (k : Int) - 1, rfl, HN'.out.symm, by have := HL2.out; have := HCUR.out; omega, by go_num, by omega, by have := HL2.out; have := HCUR.out; omega, by rw [← HCU.out]; exact HR2.out, HSU2.out, HBU2.out⟩
          case measure => simp [intOf]
end Go.Proofs.Ytedcmchdapfhhaa

/- The library's generic functions at records as they stand in this program: the tables of numbers under which its contracts hold here. -/
namespace Go.Proofs.Ytedcmchdapfhhaa
set_option linter.unusedSimpArgs false
open Go.Shelf
def Try.laysSortF_ren : Go.Shelf.Ren := ⟨fun | 6 => 22 | 15 => 37 | 14 => 36 | 28 => 60 | 29 => 61 | 20 => 52 | 21 => 53 | 22 => 54 | 23 => 55 | 24 => 56 | 25 => 57 | 26 => 58 | 27 => 59 | 46 => 67 | 47 => 68 | 48 => 69 | 49 => 70 | 50 => 71 | 57 => 81 | n => n, fun | 22 => 24 | 24 => 38 | 25 => 68 | 3 => 3 | 39 => 89 | 0 => 0 | 53 => 112 | 55 => 34 | 4 => 4 | 46 => 106 | 45 => 105 | 50 => 79 | 5 => 5 | 9 => 9 | 66 => 118 | 70 => 122 | 76 => 129 | 77 => 130 | n => n, fun | n => n⟩
theorem Try.laysSortF : Go.Proofs.SlLaysF0.n6 Try.prog Try.laysSortF_ren := {
  mixed := by kernel_rfl
  f6 := ⟨Try.f22.name, by decide, Try.func22.trans (congrArg some (by kernel_rfl))⟩
  f14 := ⟨Try.f36.name, by decide, Try.func36.trans (congrArg some (by kernel_rfl))⟩
  f15 := Try.func37.trans (congrArg some (by kernel_rfl))
  f20 := ⟨Try.f52.name, by decide, Try.func52.trans (congrArg some (by kernel_rfl))⟩
  f21 := ⟨Try.f53.name, by decide, Try.func53.trans (congrArg some (by kernel_rfl))⟩
  f22 := ⟨Try.f54.name, by decide, Try.func54.trans (congrArg some (by kernel_rfl))⟩
  f23 := ⟨Try.f55.name, by decide, Try.func55.trans (congrArg some (by kernel_rfl))⟩
  f24 := ⟨Try.f56.name, by decide, Try.func56.trans (congrArg some (by kernel_rfl))⟩
  f25 := ⟨Try.f57.name, by decide, Try.func57.trans (congrArg some (by kernel_rfl))⟩
  f26 := ⟨Try.f58.name, by decide, Try.func58.trans (congrArg some (by kernel_rfl))⟩
  f27 := ⟨Try.f59.name, by decide, Try.func59.trans (congrArg some (by kernel_rfl))⟩
  f28 := Try.func60.trans (congrArg some (by kernel_rfl))
  f29 := Try.func61.trans (congrArg some (by kernel_rfl))
  f46 := ⟨Try.f67.name, by decide, Try.func67.trans (congrArg some (by kernel_rfl))⟩
  f47 := Try.func68.trans (congrArg some (by kernel_rfl))
  f48 := Try.func69.trans (congrArg some (by kernel_rfl))
  f49 := ⟨Try.f70.name, by decide, Try.func70.trans (congrArg some (by kernel_rfl))⟩
  f50 := ⟨Try.f71.name, by decide, Try.func71.trans (congrArg some (by kernel_rfl))⟩
  f57 := ⟨Try.f81.name, by decide, Try.func81.trans (congrArg some (by kernel_rfl))⟩
  t0 := Try.underlying0
  a0 := Try.isAgg0
  z0 := Try.sizeOf0
  v0 := Try.zeroValue0
  t3 := Try.underlying3
  a3 := Try.isAgg3
  z3 := Try.sizeOf3
  v3 := Try.zeroValue3
  t4 := Try.underlying4
  a4 := Try.isAgg4
  z4 := Try.sizeOf4
  v4 := Try.zeroValue4
  t5 := Try.underlying5
  a5 := Try.isAgg5
  z5 := Try.sizeOf5
  v5 := Try.zeroValue5
  t9 := Try.underlying9
  a9 := Try.isAgg9
  z9 := Try.sizeOf9
  v9 := Try.zeroValue9
  t22 := Try.underlying24
  a22 := Try.isAgg24
  z22 := Try.sizeOf24
  v22 := Try.zeroValue24
  t25 := Try.underlying68
  a25 := Try.isAgg68
  z25 := Try.sizeOf68
  v25 := Try.zeroValue68
  t39 := Try.underlying89
  a39 := Try.isAgg89
  z39 := Try.sizeOf89
  v39 := Try.zeroValue89
  t45 := Try.underlying105
  a45 := Try.isAgg105
  z45 := Try.sizeOf105
  v45 := Try.zeroValue105
  t46 := Try.underlying106
  a46 := Try.isAgg106
  z46 := Try.sizeOf106
  v46 := Try.zeroValue106
  t50 := Try.underlying79
  a50 := Try.isAgg79
  z50 := Try.sizeOf79
  v50 := Try.zeroValue79
  t53 := Try.underlying112
  a53 := Try.isAgg112
  z53 := Try.sizeOf112
  v53 := Try.zeroValue112
  t55 := Try.underlying34
  a55 := Try.isAgg34
  z55 := Try.sizeOf34
  v55 := Try.zeroValue34
  t66 := Try.underlying118
  a66 := Try.isAgg118
  z66 := Try.sizeOf118
  v66 := Try.zeroValue118
  t70 := Try.underlying122
  a70 := Try.isAgg122
  z70 := Try.sizeOf122
  v70 := Try.zeroValue122
  t76 := Try.underlying129
  a76 := Try.isAgg129
  z76 := Try.sizeOf129
  v76 := Try.zeroValue129
  t77 := Try.underlying130
  a77 := Try.isAgg130
  z77 := Try.sizeOf130
  v77 := Try.zeroValue130 }
end Go.Proofs.Ytedcmchdapfhhaa

/- slices.SortFunc at a row of pods of the call's own: a permutation, in the order of those that may go. -/
namespace Go.Proofs.Ytedcmchdapfhhaa
set_option linter.unusedSimpArgs false
open Go.RowKit Go.Shelf Go.Sort
set_option linter.unusedVariables false

instance : Inhabited PodD := ⟨noPod⟩
theorem flatK_list (l : List PodD) : flatK cellsP 8 l.toArray = (l.flatMap cellsP).toArray := by
  refine ext_get! (by simp [flatMap_len lenP]) fun t ht => ?_
  have ht' : t < l.length * 8 := by simpa using ht
  have hi : t / 8 < l.length := by omega
  have hj : t % 8 < 8 := by omega
  have e := flatMap_get (size := 8) lenP hi hj
  rw [show t / 8 * 8 + t % 8 = t by omega] at e
  rw [get_flatK _ _ _ _ (by simpa using ht')]
  have hlt : t < (l.flatMap cellsP).length := by rw [flatMap_len lenP]; exact ht'
  rw [List.getElem?_eq_getElem hlt, List.getElem?_eq_getElem (by rw [lenP]; exact hj)] at e
  have e' := Option.some.inj e
  rw [getElem!_pos (l.flatMap cellsP).toArray t (by simpa using hlt), List.getElem_toArray, e', getElem!_pos l.toArray (t / 8) (by simpa using hi), List.getElem_toArray, getElem!_pos (cellsP l[t / 8]) (t % 8) (by rw [lenP]; exact hj)]
theorem podsHeld {w : World} {g : Nat} {cur : Array Value} {e : TypeId} {vs : List Value} (hb : w.heap[g]? = some (.cells cur e (0, 0))) (ht : cur.toList.take vs.length = vs) : Holds id w g 0 vs.toArray := by
  intro j hj
  have hj' : j < vs.length := by simpa using hj
  refine ⟨?_, by simp [World.frozen?, hb]⟩
  have h1 : (cur.toList.take vs.length)[j]? = vs[j]? := by rw [ht]
  rw [List.getElem?_take_of_lt hj'] at h1
  simp only [World.cell?, hb, Nat.zero_add]
  simp only [Option.isSome_none, Bool.false_eq_true, if_false]
  rw [← Array.getElem?_toList, h1]
  simp [hj']
theorem heap_sortedV {w : World} {g n : Nat} {os : Array Obj} {cur : Array Value} {e : TypeId} {fr : Nat × Nat} (d : Array Value) (hb : w.heap[g]? = some (.cells cur e fr)) :
    (grow (putRow id (Sort.ahead w n) g 0 d) os).heap[g]? = some (.cells (putCells id 0 d cur) e fr) := by
  have hg : g < w.heap.size := (Array.getElem?_eq_some_iff.1 hb).1
  rw [heap_grow_old _ _ (by simpa using hg)]
  simp [putRow, mapBlock, Sort.ahead, Array.getElem?_modify, hb, onCells]
theorem grownBy_sortedV {w : World} {g n : Nat} {os : Array Obj} (d : Array Value) : w.grownBy (grow (putRow id (Sort.ahead w n) g 0 d) os) (some g) := by
  refine ⟨rfl, rfl, rfl, by simp, fun k hk hne => ?_⟩
  rw [heap_grow_old _ _ (by simpa using hk)]
  have : g ≠ k := fun e => hne (by rw [e])
  simp [putRow, mapBlock, Sort.ahead, Array.getElem?_modify, this]
theorem take_putCellsV (cur : Array Value) (ts : List Value) (h : ts.length ≤ cur.size) : (putCells id 0 ts.toArray cur).toList.take ts.length = ts := by
  apply List.ext_getElem?
  intro j
  by_cases hj : j < ts.length
  · rw [List.getElem?_take_of_lt hj, Array.getElem?_toList]
    simp [putCells, hj, show j < cur.size by omega]
  · rw [List.getElem?_take_eq_none (by omega), List.getElem?_eq_none (by omega)]

theorem ltV_is (x y : PodD) : ltOf ordV x y = decide (ltV x y) := by
  unfold ltOf
  exact decide_eq_decide.2 (ordV_neg x y)
theorem swoV : SWO (ltOf ordV) where
  irrefl x := by rw [ltV_is]; simp [ltV]
  trans x y z h1 h2 := by
    rw [ltV_is, decide_eq_true_eq] at h1 h2 ⊢
    unfold ltV at h1 h2 ⊢
    omega
  ntrans x y z h1 h2 := by
    rw [ltV_is, decide_eq_false_iff_not] at h1 h2 ⊢
    unfold ltV at h1 h2 ⊢
    omega
theorem perm_of_in {d d' : Array PodD} (h : PermIn 0 d.size d d') : d'.toList.Perm d.toList := by
  obtain ⟨h1, _, h3⟩ := h
  rw [Array.extract_eq_self_of_le (by omega), Array.extract_eq_self_of_le (Nat.le_refl _)] at h3
  exact h3
theorem sorted_of_in {d : Array PodD} {n : Nat} (hn : n = d.size) (h : SortedIn (ltOf ordV) 0 n d) : d.toList.Pairwise fun x y => ¬ ltV y x := by
  rw [List.pairwise_iff_getElem]
  intro i j hi hj hij
  have h1 := h i j (Nat.zero_le _) hij (by rw [hn]; simpa using hj)
  rw [ltV_is, getElem!_pos d j (by simpa using hj), getElem!_pos d i (by simpa using hi)] at h1
  simpa using h1

theorem laysAgg (w : World) : (isAgg 38).run Try.prog w = .ok true w := by kernel_rfl
theorem laysSize (w : World) : (Go.sizeOf 38).run Try.prog w = .ok 8 w := by kernel_rfl
theorem inOrder_lays (blk off size : Nat) (w : World) : CmpLays Try.prog 23 #[] cellsP 8 ordV blk off size w :=
  fun _ _ _ _ x y => inOrder_any x y _

theorem sortPods : SortPods := by
  intro B v xs m w hB hm hown hl
  subst hm
  have eg : ∀ args w, (callFunc 23 args).run Try.prog w = .ok (.enter 23 args) w := enters_of Try.func23 (by kernel_rfl) rfl
  rcases hown.2 with ⟨rfl, h0⟩ | ⟨g, cap, cur, rfl, hbase, hb, h1, h2, h3, h4⟩
  · have h0' := List.eq_nil_of_length_eq_zero h0
    subst h0'
    have hcon := AnyF.slices_SortFunc_none (P := Try.prog) Try.laysSortF none 0 (.func (.func 23) #[] #[]) w
    change Calls Try.prog 22 _ _ _ at hcon
    refine hcon.mono fun e w' ⟨he, hw⟩ => ⟨he, [], List.Perm.refl _, List.Pairwise.nil, by subst hw; exact hown, by subst hw; exact Below.refl _ _⟩
  · have hgl : g < w.heap.size := (Array.getElem?_eq_some_iff.1 hb).1
    have hH : HoldsK cellsP 8 w g 0 xs.toArray := by
      unfold HoldsK
      rw [flatK_list]
      refine podsHeld hb ?_
      rw [flatMap_len lenP]
      exact h4
    have hcon := AnyQ.slices_SortFunc Try.laysSortF 8 laysAgg laysSize cellsP lenP onePod ordV swoV 23 #[] g 0 cap xs.toArray w eg (inOrder_lays g 0 _ w) hH hgl (by simp; omega)
    change Calls Try.prog 22 _ _ _ at hcon
    refine hcon.mono fun e w' ⟨he, d', n, os, hp, hs, hw⟩ => ⟨he, d'.toList, by simpa using perm_of_in hp, sorted_of_in hp.1.symm hs, ?_, ?_⟩
    · subst hw
      have hsz : d'.toList.length = xs.length := by simpa using hp.1
      have hF : flatK cellsP 8 d' = (d'.toList.flatMap cellsP).toArray := by
        have h := flatK_list d'.toList
        simpa using h
      show (grow (putRow id (Sort.ahead w n) g 0 (flatK cellsP 8 d')) os).ownsRow _ _ _ _ _ _
      rw [hF]
      refine ⟨by rw [flatMap_len lenP, hsz], .inr ⟨g, cap, _, rfl, hbase, heap_sortedV _ hb, h1, h2, by simpa [putCells] using h3, ?_⟩⟩
      have hle : (d'.toList.flatMap cellsP).length ≤ cur.size := by rw [flatMap_len lenP, hsz, h3]; omega
      have ht := take_putCellsV cur (d'.toList.flatMap cellsP) hle
      rw [flatMap_len lenP, hsz] at ht
      exact ht
    · subst hw
      exact (Below.refl B w).grown (grownBy_sortedV _) hB (fun j hj => by cases hj; exact hbase)
end Go.Proofs.Ytedcmchdapfhhaa

/- The program's Choose of layer 15. -/
namespace Go.Proofs.Ytedcmchdapfhhaa
set_option linter.unusedSimpArgs false
open Go.RowKit
set_option linter.unusedVariables false

set_option maxHeartbeats 3200000 in
set_option maxRecDepth 100000 in
theorem mkTo_makes (ns : List NodeD) (xs : List WantD) (l : List PodD) (pod node : Int) (hno : ∀ x ∈ ns, x.Ok) (hlo : ∀ p ∈ l, p.Ok) (A1 A3 A4 : Option Addr) (n1 c1 n3 c3 n4 c4 : Nat) (s2 s3 u1 u2 : Value) (x1 x2 : Int) (b5 b6 b7 b8 b9 : Nat) (w : World)
    (hn1 : n1 = ns.length) (hl1 : n1 ≤ 400) (hr1 : Recs 10 cellsN w w.heap.size A1 ns) (hn3 : n3 = xs.length) (hl3 : n3 ≤ 400) (hr3 : Recs 6 cellsW w w.heap.size A3 xs)
    (hn4 : n4 = l.length) (hl4 : n4 ≤ 400) (h04 : A4 = none → c4 = 0) (hr4 : Recs 8 cellsP w w.heap.size A4 l)
    (k5 : Bf w b5 [.slice A1 n1 c1, s2, s3]) (k6 : Bf w b6 [.slice A3 n3 c3, u1, u2]) (k7 : Bf w b7 [.slice A4 n4 c4, .int .i64 x1, .int .i64 x2]) (k8 : Bf w b8 [.int .i64 pod]) (k9 : Bf w b9 [.int .i64 node]) :
    MkTo (makesD ns xs l pod node) b5 b6 b7 b8 b9 w := by
  intro V hV ids A n c hn hl hr
  have HMK := Lib.hid (makes_any ns xs l pod node ids hno hlo A1 A3 A4 A n1 c1 n3 c3 n4 c4 n c s2 s3 u1 u2 x1 x2 V hn1 hl1 ((hr1.below hV (Nat.le_refl _)).more hV.size) hn3 hl3 ((hr3.below hV (Nat.le_refl _)).more hV.size) hn4 hl4 h04 ((hr4.below hV (Nat.le_refl _)).more hV.size) hn hl hr)
  obtain ⟨a0, a1, a2, a3⟩ := (k5.below hV k5.lt).cells3
  obtain ⟨b0, b1, b2, b3⟩ := (k6.below hV k6.lt).cells3
  obtain ⟨d0, d1, d2, d3⟩ := (k7.below hV k7.lt).cells3
  have e0 : V.cell? ⟨b8, 0, none⟩ = some (.int .i64 pod) := (k8.below hV k8.lt).cell 0 _ rfl
  have f0 : V.cell? ⟨b9, 0, none⟩ = some (.int .i64 node) := (k9.below hV k9.lt).cell 0 _ rfl
  clear hr1 hr3 hr4 hr hn1 hn3 hn4 hn h04 hno hlo k5 k6 k7 k8 k9 hV
  go_enter Try.func11, Try.ntmps11
  go_wp2_with fail
  refine HMK.out.mono ?_
  rintro e w1 ⟨rfl, hb⟩
  go_wp2
  go_ret
  exact ⟨rfl, hb⟩

structure T5 (a b c d e : List Value) (w V : World) : Prop where
  one : Bf V w.heap.size a
  two : Bf V (w.heap.size + 1) b
  three : Bf V (w.heap.size + 2) c
  four : Bf V (w.heap.size + 3) d
  five : Bf V (w.heap.size + 4) e
  below : Below w.heap.size w V
section
variable {a b c d e : List Value} {w V V' : World}
theorem T5.keep (h : T5 a b c d e w V) (hb : Below V.heap.size V V') : T5 a b c d e w V' :=
  ⟨h.one.below hb h.one.lt, h.two.below hb h.two.lt, h.three.below hb h.three.lt, h.four.below hb h.four.lt, h.five.below hb h.five.lt, h.below.trans (hb.mono h.below.size)⟩
theorem T5.new (w : World) (a b c d e : List Value) (t1 t2 t3 t4 t5 : TypeId) : T5 a b c d e w (((((w.alloc (.cells a.toArray t1)).alloc (.cells b.toArray t2)).alloc (.cells c.toArray t3)).alloc (.cells d.toArray t4)).alloc (.cells e.toArray t5)) :=
  ⟨((((Bf.new w a t1 rfl).alloc _).alloc _).alloc _).alloc _, (((Bf.new _ b t2 (by simp)).alloc _).alloc _).alloc _, ((Bf.new _ c t3 (by simp)).alloc _).alloc _, (Bf.new _ d t4 (by simp)).alloc _, Bf.new _ e t5 (by simp), (below_four w _ _ _ _).alloc (by simp; omega) _⟩
end
/-- What Choose tells. -/
def ChooseTo (ns : List NodeD) (xs : List WantD) (l : List PodD) (pod node : Int) (w : World) (e : Ending) (w' : World) : Prop :=
  ((thereV ns l pod node = false ∧ e = .returned (.tuple #[.slice none 0 0, .iface 49 (.int .i64 4)])) ∨
    (thereV ns l pod node = true ∧ ∃ zs, VicIs node pod l zs ∧
      ((makesD ns xs l pod node zs = false ∧ e = .returned (.tuple #[.slice none 0 0, .iface 49 (.int .i64 9)])) ∨
        ∃ (k : Nat) (R : List Int) (A : Option Addr) (c : Nat), k ≤ zs.length ∧ makesD ns xs l pod node (zs.take k) = true ∧ needG (makesD ns xs l pod node) (zs.take k) k = R ∧ e = .returned (.tuple #[.slice A R.length c, .nilIface]) ∧ SlI w' A c R))) ∧ Below w.heap.size w w'

set_option maxHeartbeats 6400000 in
set_option maxRecDepth 100000 in
theorem choose_any (ns : List NodeD) (xs : List WantD) (l : List PodD) (pod node : Int) (hno : ∀ x ∈ ns, x.Ok) (hlo : ∀ p ∈ l, p.Ok) (A1 A3 A4 : Option Addr) (n1 c1 n3 c3 n4 c4 : Nat) (s2 s3 u1 u2 : Value) (x1 x2 : Int) (w : World)
    (hn1 : n1 = ns.length) (hl1 : n1 ≤ 400) (hr1 : Recs 10 cellsN w w.heap.size A1 ns) (hn3 : n3 = xs.length) (hl3 : n3 ≤ 400) (hr3 : Recs 6 cellsW w w.heap.size A3 xs)
    (hn4 : n4 = l.length) (hl4 : n4 ≤ 400) (h04 : A4 = none → c4 = 0) (hr4 : Recs 8 cellsP w w.heap.size A4 l) :
    Calls Try.prog 6 #[.agg #[.slice A1 n1 c1, s2, s3], .agg #[.slice A3 n3 c3, u1, u2], .agg #[.slice A4 n4 c4, .int .i64 x1, .int .i64 x2], .int .i64 pod, .int .i64 node] w (ChooseTo ns xs l pod node w) := by
  have T0 := T5.new w [.slice A1 n1 c1, s2, s3] [.slice A3 n3 c3, u1, u2] [.slice A4 n4 c4, .int .i64 x1, .int .i64 x2] [.int .i64 pod] [.int .i64 node] 26 29 31 3 3
  have HTH := Lib.hid (areThere_any ns l pod node A1 A4 n1 c1 n4 c4 s2 s3 (.int .i64 x1) (.int .i64 x2) _ hn1 hl1 ((hr1.below T0.below (Nat.le_refl _)).more T0.below.size) hn4 hl4 ((hr4.below T0.below (Nat.le_refl _)).more T0.below.size))
  have HVI := Lib.hid (fun V (hV : Below w.heap.size w V) => priorVictims_any sortPods l pod node A4 n4 c4 (.int .i64 x1) (.int .i64 x2) V hn4 (by omega) ((hr4.below hV (Nat.le_refl _)).more hV.size))
  have HMT := Lib.hid (fun V (hV : T5 [.slice A1 n1 c1, s2, s3] [.slice A3 n3 c3, u1, u2] [.slice A4 n4 c4, .int .i64 x1, .int .i64 x2] [.int .i64 pod] [.int .i64 node] w V) => mkTo_makes ns xs l pod node hno hlo A1 A3 A4 n1 c1 n3 c3 n4 c4 s2 s3 u1 u2 x1 x2 w.heap.size (w.heap.size + 1) (w.heap.size + 2) (w.heap.size + 3) (w.heap.size + 4) V hn1 hl1 ((hr1.below hV.below (Nat.le_refl _)).more hV.below.size) hn3 hl3 ((hr3.below hV.below (Nat.le_refl _)).more hV.below.size) hn4 hl4 h04 ((hr4.below hV.below (Nat.le_refl _)).more hV.below.size) hV.one hV.two hV.three hV.four hV.five)
  have HN4 := Lib.hid hn4
  clear hr1 hr3 hr4 hn1 hn3 hn4 h04 hno hlo
  go_enter Try.func6, Try.ntmps6
  go_wp2_with fail
  refine HTH.out.mono ?_
  rintro e w1 ⟨rfl, hb1⟩
  have T1 := T0.keep hb1
  clear hb1 T0 HTH
  rcases hth : thereV ns l pod node with _ | _
  · have kw := T1.below
    have HTF := Lib.hid hth
    clear T1 hth
    go_wp2
    refine bodyPost_ret (v := .tuple #[.slice none 0 0, .iface 49 (.int .i64 4)]) ?_ rfl ?_
    · simp [results, Try.results6, go_sem, *]
    · exact ⟨.inl ⟨HTF.out, rfl⟩, kw⟩
  · have HTF := Lib.hid hth
    clear hth
    obtain ⟨a0, a1, a2, a3⟩ := T1.three.cells3
    have b0 := T1.four.cell 0 _ rfl
    have d0 := T1.five.cell 0 _ rfl
    have hl3' := T1.four.lt
    have hl4' := T1.five.lt
    have HV1 := Lib.hid (HVI.out w1 T1.below)
    have HT1 := Lib.hid T1
    clear T1 HVI
    go_wp2_with fail
    refine HV1.out.mono ?_
    rintro e w2 ⟨v, zs, rfl, hvic, hown, hb2⟩
    obtain ⟨A, c, rfl, p1, p2, p3, p4, p5⟩ := recsG_more rfl hown
    have HT2 := Lib.hid (HT1.out.keep hb2)
    have HVC := Lib.hid hvic
    have hzl : zs.length ≤ 400 := by have h1 := hvic.len; have h2 := HN4.out; omega
    have HEN := Lib.hid (enough_any (makesD ns xs l pod node) w.heap.size (w.heap.size + 1) (w.heap.size + 2) (w.heap.size + 3) (w.heap.size + 4) zs A zs.length c w2 (HMT.out w2 HT2.out) rfl hzl p1 p2 p3 p4 p5)
    have HSZ := Lib.hid (SlI.mk p1 p2 p3 p5)
    clear hb2 hvic hown p1 p2 p3 p4 p5 HV1 HT1 a0 a1 a2 a3 b0 d0 hl3' hl4'
    generalize hnz : zs.length = nz at *
    have HNZ := Lib.hid hnz
    clear hnz
    go_wp2_with fail
    refine HEN.out.mono ?_
    rintro e w3 ⟨hh, hb3⟩
    have HT3 := Lib.hid (HT2.out.keep hb3)
    have HS3 := Lib.hid (HSZ.out.later hb3)
    clear hb3 HEN HT2 HSZ
    rcases hh with ⟨k, hk, hm, rfl⟩ | ⟨hm, rfl⟩
    · have HM := Lib.hid hm
      have HK := Lib.hid hk
      have hk4 : k ≤ 400 := by have := HNZ.out; omega
      obtain ⟨R, hR⟩ : ∃ R, needG (makesD ns xs l pod node) (zs.take k) k = R := ⟨_, rfl⟩
      have HRR := Lib.hid hR
      have HNE := Lib.hid (needed_any (makesD ns xs l pod node) w.heap.size (w.heap.size + 1) (w.heap.size + 2) (w.heap.size + 3) (w.heap.size + 4) (zs.take k) R A k c w3 (HMT.out w3 HT3.out) (by rw [List.length_take]; omega) hk4 hR ⟨by rw [List.length_take]; have := HS3.out.le; omega, HS3.out.max, HS3.out.nil, HS3.out.recs.take k⟩)
      clear hm hk hR
      go_wp2_with fail
      refine HNE.out.mono ?_
      rintro e w4 ⟨A', c', rfl, hs4, hb4⟩
      have HS4 := Lib.hid hs4
      have kw := (HT3.out.keep hb4).below
      clear hs4 hb4 HNE
      generalize hnr : R.length = nr at *
      have HNR := Lib.hid hnr
      clear hnr
      go_wp2
      refine bodyPost_ret (v := .tuple #[.slice A' nr c', .nilIface]) ?_ rfl ?_
      · simp [results, Try.results6, go_sem, *]
      · exact ⟨.inr ⟨HTF.out, zs, HVC.out, .inr ⟨k, R, A', c', HK.out, HM.out, HRR.out, by rw [HNR.out], HS4.out⟩⟩, kw⟩
    · have HM := Lib.hid hm
      have kw := HT3.out.below
      clear hm
      go_wp2
      refine bodyPost_ret (v := .tuple #[.slice none 0 0, .iface 49 (.int .i64 9)]) ?_ rfl ?_
      · simp [results, Try.results6, go_sem, *]
      · exact ⟨.inr ⟨HTF.out, zs, HVC.out, .inl ⟨HM.out, rfl⟩⟩, kw⟩
end Go.Proofs.Ytedcmchdapfhhaa

/- The heads of layer 5's laws: few of all, and the document's examples. -/
namespace Go.Proofs.Ytedcmchdapfhhaa
set_option linter.unusedSimpArgs false
open Go.RowKit
set_option linter.unusedVariables false

def few05 (n1 n2 n3 nx nt : Nat) : Bool := decide (n1 ≤ 40 ∧ n2 ≤ 40 ∧ n3 ≤ 40) && (decide (nx ≤ 40) && decide (nt ≤ 40))
set_option maxHeartbeats 1600000 in
theorem few05_any (A1 A2 A3 A4 A5 : Option Addr) (n1 c1 n2 c2 n3 c3 n4 c4 n5 c5 : Nat) (v1 v2 u1 u2 : Value) (w : World) :
    Calls Try.prog 5 #[.agg #[.slice A1 n1 c1, .slice A2 n2 c2, .slice A3 n3 c3], .agg #[.slice A4 n4 c4, v1, v2], .agg #[.slice A5 n5 c5, u1, u2]] w fun e w' => e = .returned (.bool (few05 n1 n2 n3 n4 n5)) ∧ Below w.heap.size w w' := by
  have b00 := below_three w (.cells #[.slice A1 n1 c1, .slice A2 n2 c2, .slice A3 n3 c3] 26) (.cells #[.slice A4 n4 c4, v1, v2] 29) (.cells #[.slice A5 n5 c5, u1, u2] 31)
  go_enter Try.func5, Try.ntmps5
  go_wp2_with fail
  refine (few_any _ _ _ _ _ _ _ _ _ _).mono ?_
  rintro e w1 ⟨rfl, hb1⟩
  have k1 : Below (w.heap.size + 3) _ w1 := hb1.mono (by simp)
  have kw1 := b00.trans (k1.mono (by omega))
  have a3 : w1.cell? ⟨w.heap.size + 1, 0, none⟩ = some (.slice A4 n4 c4) := (k1.cell (p := ⟨w.heap.size + 1, 0, none⟩) (by simp)).trans (by rw [World.cell?_alloc_lt _ _ _ (by simp)]; simp)
  have a4 : w1.cell? ⟨w.heap.size + 2, 0, none⟩ = some (.slice A5 n5 c5) := (k1.cell (p := ⟨w.heap.size + 2, 0, none⟩) (by simp)).trans (by rw [World.cell?_alloc_at _ _ _ _ (by simp)]; simp)
  cases hf : decide (n1 ≤ 40 ∧ n2 ≤ 40 ∧ n3 ≤ 40) with
  | false =>
    have HE := Lib.hid (show few05 n1 n2 n3 n4 n5 = false by unfold few05; rw [hf]; rfl)
    clear hf
    go_wp2
    go_ret
    exact ⟨ret_bool HE.out.symm, kw1⟩
  | true =>
    by_cases h4 : n4 ≤ 40
    · have d4 : decide ((n4 : Int) ≤ 40) = true := decide_eq_true (by omega)
      by_cases h5 : n5 ≤ 40
      · have d5 : decide ((n5 : Int) ≤ 40) = true := decide_eq_true (by omega)
        have HE := Lib.hid (show few05 n1 n2 n3 n4 n5 = true by unfold few05; rw [hf]; simp [h4, h5])
        clear hf
        go_wp2
        go_ret
        exact ⟨ret_bool HE.out.symm, kw1⟩
      · have d5 : decide ((n5 : Int) ≤ 40) = false := decide_eq_false (by omega)
        have HE := Lib.hid (show few05 n1 n2 n3 n4 n5 = false by unfold few05; rw [hf]; simp [h5])
        clear hf
        go_wp2
        go_ret
        exact ⟨ret_bool HE.out.symm, kw1⟩
    · have d4 : decide ((n4 : Int) ≤ 40) = false := decide_eq_false (by omega)
      have HE := Lib.hid (show few05 n1 n2 n3 n4 n5 = false by unfold few05; rw [hf]; simp [h4])
      clear hf
      go_wp2
      go_ret
      exact ⟨ret_bool HE.out.symm, kw1⟩
theorem Out.alloc {α : Type} {size : Nat} {cells : α → List Value} {w : World} {xs : List α} {A : Option Addr} {c : Nat} (h : Out size cells w xs A c) (o : Obj) : Out size cells (w.alloc o) xs A c :=
  ⟨h.1, h.2.1, h.2.2.1, (h.2.2.2.below ((Below.refl _ w).alloc (Nat.le_refl _) o) (Nat.le_refl _)).more (by simp)⟩
end Go.Proofs.Ytedcmchdapfhhaa

/- The head of layer 15's laws: the document's example, one that makes way, and a pod that isn't there. -/
namespace Go.Proofs.Ytedcmchdapfhhaa
set_option linter.unusedSimpArgs false
open Go.RowKit
set_option linter.unusedVariables false

theorem recsNewG {α : Type} {size : Nat} {cells : α → List Value} (hc : ∀ x, (cells x).length = size) (w : World) (t : TypeId) (xs : List α) (cs : Array Value) (hcs : cs = (xs.flatMap cells).toArray) {g : Nat} (hg : g = w.heap.size) : Recs size cells (w.alloc (.cells cs t)) (g + 1) (some ⟨g, 0, none⟩) xs := by
  subst hcs hg
  refine .inr ⟨w.heap.size, 0, rfl, by omega, fun i hi j u hu => ?_⟩
  have hj : j < size := by have := (List.getElem?_eq_some_iff.1 hu).1; rwa [hc] at this
  have h2 := flatMap_get (size := size) hc hi hj
  rw [hu] at h2
  simpa using h2
theorem below_threeG (w : World) (o o' o'' : Obj) : Below w.heap.size w (((w.alloc o).alloc o').alloc o'') := below_three w o o' o''
def upN15 : List NodeD := [⟨3, 1, ⟨5, 0, 0, 0⟩, ⟨0, 0, 0, 0⟩⟩]
def upA15 : PodD := ⟨1, 0, 1, ⟨4, 0, 0, 0⟩, 3⟩
def upB15 : PodD := ⟨2, 0, 2, ⟨3, 0, 0, 0⟩, 0⟩
def upC15 : PodD := ⟨4, 0, 1, ⟨1, 0, 0, 0⟩, 0⟩
def upP15 : List PodD := [upA15, upB15, upC15]
theorem up15_no : makesD upN15 [] upP15 2 3 [] = false := by decide
theorem up15_yes : makesD upN15 [] upP15 2 3 [1] = true := by decide
theorem up15_room : makesD upN15 [] upP15 4 3 [] = true := by decide
theorem up15_there2 : thereV upN15 upP15 2 3 = true := by decide
theorem up15_there4 : thereV upN15 upP15 4 3 = true := by decide
theorem up15_there9 : thereV upN15 upP15 9 3 = false := by decide
theorem up15_vic2 {zs : List Int} (h : VicIs 3 2 upP15 zs) : zs = [1] := by
  rcases h with ⟨_, vs, h1, _, rfl⟩ | ⟨h0 | h0, _⟩
  · rw [show vicD 3 (podZ 2 upP15) upP15 = [upA15] from rfl] at h1
    rw [List.perm_singleton.1 h1]
    rfl
  · rw [show hasP 2 upP15 = true from by decide] at h0; cases h0
  · omega
theorem up15_vic4 {zs : List Int} (h : VicIs 3 4 upP15 zs) : zs = [] := by
  rcases h with ⟨_, vs, h1, _, rfl⟩ | ⟨h0 | h0, h2⟩
  · rw [show vicD 3 (podZ 4 upP15) upP15 = [] from rfl] at h1
    rw [List.perm_nil.1 h1]
    rfl
  · exact h2
  · exact h2
theorem upN15_ok : ∀ x ∈ upN15, x.Ok := by
  intro x hx
  simp only [upN15, List.mem_cons, List.not_mem_nil, or_false] at hx
  rcases hx with rfl
  exact ⟨⟨by decide, by decide⟩, ⟨by decide, by decide⟩, ⟨⟨by decide, by decide⟩, ⟨by decide, by decide⟩, ⟨by decide, by decide⟩, ⟨by decide, by decide⟩⟩, ⟨⟨by decide, by decide⟩, ⟨by decide, by decide⟩, ⟨by decide, by decide⟩, ⟨by decide, by decide⟩⟩⟩
theorem upP15_ok : ∀ x ∈ upP15, x.Ok := by
  intro x hx
  simp only [upP15, List.mem_cons, List.not_mem_nil, or_false] at hx
  rcases hx with rfl | rfl | rfl
  all_goals exact ⟨⟨by decide, by decide⟩, ⟨by decide, by decide⟩, ⟨by decide, by decide⟩, ⟨⟨by decide, by decide⟩, ⟨by decide, by decide⟩, ⟨by decide, by decide⟩, ⟨by decide, by decide⟩⟩, ⟨by decide, by decide⟩⟩
theorem up15_two {w w' : World} {e : Ending} (h : ChooseTo upN15 [] upP15 2 3 w e w') : (∃ b o c, e = .returned (.tuple #[.slice (some ⟨b, o, none⟩) 1 c, .nilIface]) ∧ w'.cell? ⟨b, o, none⟩ = some (.int .i64 1) ∧ b < w'.heap.size) ∧ Below w.heap.size w w' := by
  obtain ⟨⟨h0, _⟩ | ⟨_, zs, hv, h1⟩, hb⟩ := h
  · rw [up15_there2] at h0; cases h0
  · refine ⟨?_, hb⟩
    have hz := up15_vic2 hv
    subst hz
    rcases h1 with ⟨h1, _⟩ | ⟨k, R, A, c, hk, hm, hR, he, hs⟩
    · rw [up15_yes] at h1; cases h1
    · have hk1 : k = 0 ∨ k = 1 := by simp at hk; omega
      rcases hk1 with rfl | rfl
      · rw [List.take_zero, up15_no] at hm; cases hm
      · have hR1 : R = [1] := by
          rw [← hR, show [(1 : Int)].take 1 = [1] from rfl, need_no (by exact up15_no)]; rfl
        subst hR1
        obtain ⟨b, o, rfl, hb1, hc1⟩ := recsG_at hs.recs (k := 0) (by simp)
        exact ⟨b, o, c, he, by simpa using hc1, hb1⟩
theorem up15_four {w w' : World} {e : Ending} (h : ChooseTo upN15 [] upP15 4 3 w e w') : (∃ A c, e = .returned (.tuple #[.slice A 0 c, .nilIface])) ∧ Below w.heap.size w w' := by
  obtain ⟨⟨h0, _⟩ | ⟨_, zs, hv, h1⟩, hb⟩ := h
  · rw [up15_there4] at h0; cases h0
  · refine ⟨?_, hb⟩
    have hz := up15_vic4 hv
    subst hz
    rcases h1 with ⟨h1, _⟩ | ⟨k, R, A, c, hk, hm, hR, he, hs⟩
    · rw [up15_room] at h1; cases h1
    · obtain rfl : k = 0 := by simpa using hk
      have hR1 : R = [] := by rw [← hR]; rfl
      subst hR1
      exact ⟨A, c, he⟩
theorem up15_nine {w w' : World} {e : Ending} (h : ChooseTo upN15 [] upP15 9 3 w e w') : e = .returned (.tuple #[.slice none 0 0, .iface 49 (.int .i64 4)]) ∧ Below w.heap.size w w' := by
  obtain ⟨⟨_, h1⟩ | ⟨h0, _⟩, hb⟩ := h
  · exact ⟨h1, hb⟩
  · rw [up15_there9] at h0; cases h0

set_option maxHeartbeats 6400000 in
set_option maxRecDepth 100000 in
theorem up15_any (w : World) : Calls Try.prog 4 #[] w fun e w' => e = .returned (.bool true) ∧ Below w.heap.size w w' := by
  have k0 : Below w.heap.size w ((((w.alloc (.cells #[.int .i64 3, .int .i64 1, .int .u64 5, .int .u64 0, .int .u64 0, .int .u64 0, .int .u64 0, .int .u64 0, .int .u64 0, .int .u64 0] 48)).alloc (.cells #[.slice (some ⟨w.heap.size, 0, none⟩) 1 1, .slice none 0 0, .slice none 0 0] 26)).alloc (.cells #[.int .i64 1, .int .i64 0, .int .i64 1, .int .u64 4, .int .u64 0, .int .u64 0, .int .u64 0, .int .i64 3, .int .i64 2, .int .i64 0, .int .i64 2, .int .u64 3, .int .u64 0, .int .u64 0, .int .u64 0, .int .i64 0, .int .i64 4, .int .i64 0, .int .i64 1, .int .u64 1, .int .u64 0, .int .u64 0, .int .u64 0, .int .i64 0] 38)).alloc (.cells #[.slice (some ⟨w.heap.size + 2, 0, none⟩) 3 3, .int .i64 0, .int .i64 0] 31)) := below_four w _ _ _ _
  have hn0 : Recs 10 cellsN ((((w.alloc (.cells #[.int .i64 3, .int .i64 1, .int .u64 5, .int .u64 0, .int .u64 0, .int .u64 0, .int .u64 0, .int .u64 0, .int .u64 0, .int .u64 0] 48)).alloc (.cells #[.slice (some ⟨w.heap.size, 0, none⟩) 1 1, .slice none 0 0, .slice none 0 0] 26)).alloc (.cells #[.int .i64 1, .int .i64 0, .int .i64 1, .int .u64 4, .int .u64 0, .int .u64 0, .int .u64 0, .int .i64 3, .int .i64 2, .int .i64 0, .int .i64 2, .int .u64 3, .int .u64 0, .int .u64 0, .int .u64 0, .int .i64 0, .int .i64 4, .int .i64 0, .int .i64 1, .int .u64 1, .int .u64 0, .int .u64 0, .int .u64 0, .int .i64 0] 38)).alloc (.cells #[.slice (some ⟨w.heap.size + 2, 0, none⟩) 3 3, .int .i64 0, .int .i64 0] 31)) (w.heap.size + 1) (some ⟨w.heap.size, 0, none⟩) upN15 :=
    (recsNewG (cells := cellsN) (size := 10) (fun _ => rfl) w 48 upN15 #[.int .i64 3, .int .i64 1, .int .u64 5, .int .u64 0, .int .u64 0, .int .u64 0, .int .u64 0, .int .u64 0, .int .u64 0, .int .u64 0] rfl rfl).below (below_threeG _ _ _ _) (by simp)
  have hp0 : Recs 8 cellsP ((((w.alloc (.cells #[.int .i64 3, .int .i64 1, .int .u64 5, .int .u64 0, .int .u64 0, .int .u64 0, .int .u64 0, .int .u64 0, .int .u64 0, .int .u64 0] 48)).alloc (.cells #[.slice (some ⟨w.heap.size, 0, none⟩) 1 1, .slice none 0 0, .slice none 0 0] 26)).alloc (.cells #[.int .i64 1, .int .i64 0, .int .i64 1, .int .u64 4, .int .u64 0, .int .u64 0, .int .u64 0, .int .i64 3, .int .i64 2, .int .i64 0, .int .i64 2, .int .u64 3, .int .u64 0, .int .u64 0, .int .u64 0, .int .i64 0, .int .i64 4, .int .i64 0, .int .i64 1, .int .u64 1, .int .u64 0, .int .u64 0, .int .u64 0, .int .i64 0] 38)).alloc (.cells #[.slice (some ⟨w.heap.size + 2, 0, none⟩) 3 3, .int .i64 0, .int .i64 0] 31)) (w.heap.size + 2 + 1) (some ⟨w.heap.size + 2, 0, none⟩) upP15 :=
    (recsNewG (cells := cellsP) (size := 8) (fun _ => rfl) ((w.alloc (.cells #[.int .i64 3, .int .i64 1, .int .u64 5, .int .u64 0, .int .u64 0, .int .u64 0, .int .u64 0, .int .u64 0, .int .u64 0, .int .u64 0] 48)).alloc (.cells #[.slice (some ⟨w.heap.size, 0, none⟩) 1 1, .slice none 0 0, .slice none 0 0] 26)) 38 upP15 #[.int .i64 1, .int .i64 0, .int .i64 1, .int .u64 4, .int .u64 0, .int .u64 0, .int .u64 0, .int .i64 3, .int .i64 2, .int .i64 0, .int .i64 2, .int .u64 3, .int .u64 0, .int .u64 0, .int .u64 0, .int .i64 0, .int .i64 4, .int .i64 0, .int .i64 1, .int .u64 1, .int .u64 0, .int .u64 0, .int .u64 0, .int .i64 0] rfl (g := w.heap.size + 2) (by simp)).below ((Below.refl _ _).alloc (Nat.le_refl _) _) (by simp)
  have hS : Bf ((((w.alloc (.cells #[.int .i64 3, .int .i64 1, .int .u64 5, .int .u64 0, .int .u64 0, .int .u64 0, .int .u64 0, .int .u64 0, .int .u64 0, .int .u64 0] 48)).alloc (.cells #[.slice (some ⟨w.heap.size, 0, none⟩) 1 1, .slice none 0 0, .slice none 0 0] 26)).alloc (.cells #[.int .i64 1, .int .i64 0, .int .i64 1, .int .u64 4, .int .u64 0, .int .u64 0, .int .u64 0, .int .i64 3, .int .i64 2, .int .i64 0, .int .i64 2, .int .u64 3, .int .u64 0, .int .u64 0, .int .u64 0, .int .i64 0, .int .i64 4, .int .i64 0, .int .i64 1, .int .u64 1, .int .u64 0, .int .u64 0, .int .u64 0, .int .i64 0] 38)).alloc (.cells #[.slice (some ⟨w.heap.size + 2, 0, none⟩) 3 3, .int .i64 0, .int .i64 0] 31)) (w.heap.size + 1) [.slice (some ⟨w.heap.size, 0, none⟩) 1 1, .slice none 0 0, .slice none 0 0] := ((Bf.new (w.alloc (.cells #[.int .i64 3, .int .i64 1, .int .u64 5, .int .u64 0, .int .u64 0, .int .u64 0, .int .u64 0, .int .u64 0, .int .u64 0, .int .u64 0] 48)) [.slice (some ⟨w.heap.size, 0, none⟩) 1 1, .slice none 0 0, .slice none 0 0] 26 (by simp)).alloc _).alloc _
  have hT : Bf ((((w.alloc (.cells #[.int .i64 3, .int .i64 1, .int .u64 5, .int .u64 0, .int .u64 0, .int .u64 0, .int .u64 0, .int .u64 0, .int .u64 0, .int .u64 0] 48)).alloc (.cells #[.slice (some ⟨w.heap.size, 0, none⟩) 1 1, .slice none 0 0, .slice none 0 0] 26)).alloc (.cells #[.int .i64 1, .int .i64 0, .int .i64 1, .int .u64 4, .int .u64 0, .int .u64 0, .int .u64 0, .int .i64 3, .int .i64 2, .int .i64 0, .int .i64 2, .int .u64 3, .int .u64 0, .int .u64 0, .int .u64 0, .int .i64 0, .int .i64 4, .int .i64 0, .int .i64 1, .int .u64 1, .int .u64 0, .int .u64 0, .int .u64 0, .int .i64 0] 38)).alloc (.cells #[.slice (some ⟨w.heap.size + 2, 0, none⟩) 3 3, .int .i64 0, .int .i64 0] 31)) (w.heap.size + 3) [.slice (some ⟨w.heap.size + 2, 0, none⟩) 3 3, .int .i64 0, .int .i64 0] := Bf.new (((w.alloc (.cells #[.int .i64 3, .int .i64 1, .int .u64 5, .int .u64 0, .int .u64 0, .int .u64 0, .int .u64 0, .int .u64 0, .int .u64 0, .int .u64 0] 48)).alloc (.cells #[.slice (some ⟨w.heap.size, 0, none⟩) 1 1, .slice none 0 0, .slice none 0 0] 26)).alloc (.cells #[.int .i64 1, .int .i64 0, .int .i64 1, .int .u64 4, .int .u64 0, .int .u64 0, .int .u64 0, .int .i64 3, .int .i64 2, .int .i64 0, .int .i64 2, .int .u64 3, .int .u64 0, .int .u64 0, .int .u64 0, .int .i64 0, .int .i64 4, .int .i64 0, .int .i64 1, .int .u64 1, .int .u64 0, .int .u64 0, .int .u64 0, .int .i64 0] 38)) [.slice (some ⟨w.heap.size + 2, 0, none⟩) 3 3, .int .i64 0, .int .i64 0] 31 (by simp)
  go_enter Try.func4, Try.ntmps4
  go_upto_region 3 with fail
  generalize ((((w.alloc (.cells #[.int .i64 3, .int .i64 1, .int .u64 5, .int .u64 0, .int .u64 0, .int .u64 0, .int .u64 0, .int .u64 0, .int .u64 0, .int .u64 0] 48)).alloc (.cells #[.slice (some ⟨w.heap.size, 0, none⟩) 1 1, .slice none 0 0, .slice none 0 0] 26)).alloc (.cells #[.int .i64 1, .int .i64 0, .int .i64 1, .int .u64 4, .int .u64 0, .int .u64 0, .int .u64 0, .int .i64 3, .int .i64 2, .int .i64 0, .int .i64 2, .int .u64 3, .int .u64 0, .int .u64 0, .int .u64 0, .int .i64 0, .int .i64 4, .int .i64 0, .int .i64 1, .int .u64 1, .int .u64 0, .int .u64 0, .int .u64 0, .int .i64 0] 38)).alloc (.cells #[.slice (some ⟨w.heap.size + 2, 0, none⟩) 3 3, .int .i64 0, .int .i64 0] 31)) = W at *
  have hz : w.heap.size + 3 < W.heap.size := hT.lt
  have HC : Hid (∀ (pod : Int) (V : World), Below W.heap.size W V → Calls Try.prog 6 #[.agg #[.slice (some ⟨w.heap.size, 0, none⟩) 1 1, .slice none 0 0, .slice none 0 0], .agg #[.slice none 0 0, .int .i64 0, .int .i64 0], .agg #[.slice (some ⟨w.heap.size + 2, 0, none⟩) 3 3, .int .i64 0, .int .i64 0], .int .i64 pod, .int .i64 3] V (ChooseTo upN15 [] upP15 pod 3 V)) := fun pod V hV =>
    choose_any upN15 [] upP15 pod 3 upN15_ok upP15_ok (some ⟨w.heap.size, 0, none⟩) none (some ⟨w.heap.size + 2, 0, none⟩) 1 1 0 0 3 3 (.slice none 0 0) (.slice none 0 0) (.int .i64 0) (.int .i64 0) 0 0 V rfl (by omega) ((hn0.below hV (by omega)).more (by have := hV.size; omega)) rfl (by omega) Recs.nil rfl (by omega) (by intro h; cases h) ((hp0.below hV (by omega)).more (by have := hV.size; omega))
  have H1 : Hid (∀ V : World, Below W.heap.size W V → Calls Try.prog 6 #[.agg #[.slice (some ⟨w.heap.size, 0, none⟩) 1 1, .slice none 0 0, .slice none 0 0], .agg #[.slice none 0 0, .int .i64 0, .int .i64 0], .agg #[.slice (some ⟨w.heap.size + 2, 0, none⟩) 3 3, .int .i64 0, .int .i64 0], .int .i64 2, .int .i64 3] V fun e w' => (∃ b o c, e = .returned (.tuple #[.slice (some ⟨b, o, none⟩) 1 c, .nilIface]) ∧ w'.cell? ⟨b, o, none⟩ = some (.int .i64 1) ∧ b < w'.heap.size) ∧ Below V.heap.size V w') := fun V hV => (HC.out 2 V hV).mono fun e w' h => up15_two h
  have H2 : Hid (∀ V : World, Below W.heap.size W V → Calls Try.prog 6 #[.agg #[.slice (some ⟨w.heap.size, 0, none⟩) 1 1, .slice none 0 0, .slice none 0 0], .agg #[.slice none 0 0, .int .i64 0, .int .i64 0], .agg #[.slice (some ⟨w.heap.size + 2, 0, none⟩) 3 3, .int .i64 0, .int .i64 0], .int .i64 4, .int .i64 3] V fun e w' => (∃ A c, e = .returned (.tuple #[.slice A 0 c, .nilIface])) ∧ Below V.heap.size V w') := fun V hV => (HC.out 4 V hV).mono fun e w' h => up15_four h
  have H3 : Hid (∀ V : World, Below W.heap.size W V → Calls Try.prog 6 #[.agg #[.slice (some ⟨w.heap.size, 0, none⟩) 1 1, .slice none 0 0, .slice none 0 0], .agg #[.slice none 0 0, .int .i64 0, .int .i64 0], .agg #[.slice (some ⟨w.heap.size + 2, 0, none⟩) 3 3, .int .i64 0, .int .i64 0], .int .i64 9, .int .i64 3] V fun e w' => e = .returned (.tuple #[.slice none 0 0, .iface 49 (.int .i64 4)]) ∧ Below V.heap.size V w') := fun V hV => (HC.out 9 V hV).mono fun e w' h => up15_nine h
  have q4 : ∀ W, (binOp .eql 41 (.iface 49 (.int .i64 4)) (.iface 49 (.int .i64 4))).run Try.prog W = .ok (.bool true) W := fun _ => by kernel_rfl
  obtain ⟨a0, a1, a2, a3⟩ := hS.cells3
  obtain ⟨b0, b1, b2, b3⟩ := hT.cells3
  have HS := Lib.hid hS
  have HT := Lib.hid hT
  have HK := Lib.hid k0
  clear hn0 hp0 hS hT k0 hz HC
  go_wp2_with fail
  refine (H1.out _ (Below.refl _ _)).mono ?_
  rintro e w1 ⟨⟨b, o, c, rfl, hc1, hbl⟩, hb1⟩
  have S1 := HS.out.below hb1 HS.out.lt
  have T1 := HT.out.below hb1 HT.out.lt
  have HC1 := Lib.hid hc1
  have HBL := Lib.hid hbl
  clear a0 a1 a2 a3 b0 b1 b2 b3 hc1 hbl
  obtain ⟨a0, a1, a2, a3⟩ := S1.cells3
  obtain ⟨b0, b1, b2, b3⟩ := T1.cells3
  clear S1 T1
  go_wp2_with fail
  refine (H2.out _ hb1).mono ?_
  rintro e w2 ⟨⟨A, c2, rfl⟩, hb2⟩
  have k2 := hb1.trans (hb2.mono hb1.size)
  have HC2 := Lib.hid ((hb2.cell (p := ⟨b, o, none⟩) HBL.out).trans HC1.out)
  have HBL2 := Lib.hid (Nat.lt_of_lt_of_le HBL.out hb2.size)
  have S2 := HS.out.below k2 HS.out.lt
  have T2 := HT.out.below k2 HT.out.lt
  clear a0 a1 a2 a3 b0 b1 b2 b3 hb1 hb2
  obtain ⟨a0, a1, a2, a3⟩ := S2.cells3
  obtain ⟨b0, b1, b2, b3⟩ := T2.cells3
  clear S2 T2
  go_wp2_with fail
  refine (H3.out _ k2).mono ?_
  rintro e w3 ⟨rfl, hb3⟩
  have k3 := HK.out.trans ((k2.trans (hb3.mono k2.size)).mono HK.out.size)
  have c0 := (hb3.cell (p := ⟨b, o, none⟩) HBL2.out).trans HC2.out
  have c1 := Nat.lt_of_lt_of_le HBL2.out hb3.size
  clear a0 a1 a2 a3 b0 b1 b2 b3 k2 hb3
  go_wp2
  go_ret
  exact ⟨rfl, k3⟩
end Go.Proofs.Ytedcmchdapfhhaa

namespace Go.Proofs.Ytedcmchdapfhhaa
set_option linter.unusedSimpArgs false
open Go.RowKit
set_option linter.unusedVariables false

end Go.Proofs.Ytedcmchdapfhhaa
