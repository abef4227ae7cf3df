/- Joined texts, part 9: WS WB WC CZ EZ BA BB EP YB ES. -/
import Derived.Test.YtpfjeoldgcepnaaGreatDoorZ08
import Derived.Test.YtpfjeoldgcepnaaGreatDoorZ01
import Derived.Test.YtpfjeoldgcepnaaGreatDoorZ03
import Derived.Test.YtpfjeoldgcepnaaGreatDoorZ05
import Derived.Deep.QuietTactic
import Derived.BigQuiet
import Derived.Test.YtpfjeoldgcepnaaGreatDoorZ02
import Derived.Test.YtpfjeoldgcepnaaGreatDoorZ04
import Derived.Shelf.Sort.Plain
import Derived.Shelf.Slices.CompactI
import Derived.Shelf.Slices.In.SortNone
import Derived.Shelf.Slices.SearchI
import Derived.Shelf.Slices.Turned
import Derived.Test.YtpfjeoldgcepnaaGreatDoorProg
import Derived.Deep.OwnRows
import Derived.Sort.OwnSortedInts
import Derived.Lib.OwnBridge
import Derived.Sort.Grow

/- A node's error with its place: the program's spot. -/
namespace Go.Proofs.YtpfjeoldgcepnaaGreatDoor
set_option linter.unusedSimpArgs false
open Go.RowKit
set_option linter.unusedVariables false

set_option maxHeartbeats 1600000 in
theorem roomSpot_any (k : Nat) (c : Int) (w : World) (hg : Laid w) :
    Calls Tryz.prog 154 #[.int .i64 (k : Int), .iface 98 (.int .i64 c)] w fun e w' => ∃ g : Nat, e = .returned (.iface 129 (.pointer (some ⟨g, 0, none⟩))) ∧ w.heap.size ≤ g ∧
      w'.heap[g]? = some (.cells #[.int .i64 (k : Int), .int .i64 c] 134 (0, 0)) ∧ Below w.heap.size w w' := by
  have hgl : 0 < w.heap.size := World.block_lt_of_cell? w _ hg
  have htA : (w.alloc (.cells #[.int .i64 0] 98)).cell? ⟨w.heap.size, 0, none⟩ = some (.int .i64 0) := by simp
  have hfA : (w.alloc (.cells #[.int .i64 0] 98)).frozen? ⟨w.heap.size, 0, none⟩ = false := by simp
  have hgA : Laid (w.alloc (.cells #[.int .i64 0] 98)) := Laid.below hg ((Below.refl _ w).alloc (Nat.le_refl _) _) (Nat.le_refl _)
  have HA := Lib.hid (as_hitC c ⟨w.heap.size, 0, none⟩ (.int .i64 0) (w.alloc (.cells #[.int .i64 0] 98)) hgA htA hfA)
  clear hg hgA htA hfA
  go_enter Tryz.func154, Tryz.ntmps154
  go_wp2_with fail
  refine HA.out.mono ?_
  rintro e w1 ⟨rfl, hw1⟩
  have hb1 : Below w.heap.size w w1 := by
    rw [hw1]
    refine Below.setCell (p := ⟨w.heap.size, 0, none⟩) ?_ (Nat.le_refl _) _
    exact ((((((Below.refl _ w).alloc (Nat.le_refl _) _).alloc (by simp) _).alloc (by simp; omega) _).alloc (by simp; omega) _).alloc (by simp; omega) _)
  have hc1 : w1.cell? ⟨w.heap.size, 0, none⟩ = some (.int .i64 c) := by
    rw [hw1]
    refine World.cell?_setCell_same (u := .int .i64 0) _ _ _ ?_
    rw [World.cell?_alloc_lt _ _ ⟨w.heap.size, 0, none⟩ (by simp; omega), World.cell?_alloc_lt _ _ ⟨w.heap.size, 0, none⟩ (by simp; omega), World.cell?_alloc_lt _ _ ⟨w.heap.size, 0, none⟩ (by simp; omega), World.cell?_alloc_lt _ _ ⟨w.heap.size, 0, none⟩ (by simp)]
    simp
  clear hw1
  have HB := Lib.hid hb1
  clear hb1
  go_wp2
  go_ret
  exact ⟨w1.heap.size, rfl, HB.out.size, heap_alloc_new w1 _, HB.out.alloc HB.out.size _⟩
end Go.Proofs.YtpfjeoldgcepnaaGreatDoor

/- A box of four cells that a statement makes behind its call, or ahead of it. -/
namespace Go.Proofs.YtpfjeoldgcepnaaGreatDoor
set_option linter.unusedSimpArgs false
open Go.RowKit
set_option linter.unusedVariables false

/-- A box that a statement makes behind its call, or ahead of it. -/
theorem Bf.later {W v w' : World} {z : V4} (h0 : Bf v W.heap.size (cellsV .zer)) (hb : Below v.heap.size v w') :
    Bf ((((w'.setCell ⟨W.heap.size, 0, none⟩ (.int .u64 z.a)).setCell ⟨W.heap.size, 1, none⟩ (.int .u64 z.b)).setCell ⟨W.heap.size, 2, none⟩ (.int .u64 z.c)).setCell ⟨W.heap.size, 3, none⟩ (.int .u64 z.d)) W.heap.size (cellsV z) :=
  (((((h0.below hb h0.lt).set 0 (.int .u64 z.a)).set 1 (.int .u64 z.b)).set 2 (.int .u64 z.c)).set 3 (.int .u64 z.d))
theorem Bf.drew {V : World} {b : Nat} {cs : List Value} (h : Bf V b cs) : Bf V.drew b cs := h.below (Below.refl _ V).drew h.lt
end Go.Proofs.YtpfjeoldgcepnaaGreatDoor

/- The first node at fault: the program's Check of layer 6. -/
namespace Go.Proofs.YtpfjeoldgcepnaaGreatDoor
set_option linter.unusedSimpArgs false
open Go.RowKit
set_option linter.unusedVariables false

/-- Two boxes of the call's own. -/
structure T2 (a b : List Value) (w V : World) : Prop where
  one : Bf V w.heap.size a
  two : Bf V (w.heap.size + 1) b
  below : Below w.heap.size w V
section
variable {a b : List Value} {w V V' : World}
theorem T2.keep (h : T2 a b w V) (hb : Below V.heap.size V V') : T2 a b w V' := ⟨h.one.below hb h.one.lt, h.two.below hb h.two.lt, h.below.trans (hb.mono h.below.size)⟩
theorem T2.alloc (h : T2 a b w V) (o : Obj) : T2 a b w (V.alloc o) := h.keep ((Below.refl _ V).alloc (Nat.le_refl _) o)
theorem T2.new (w : World) (a b : List Value) (t1 t2 : TypeId) : T2 a b w ((w.alloc (.cells a.toArray t1)).alloc (.cells b.toArray t2)) :=
  ⟨(Bf.new w a t1 rfl).alloc _, Bf.new (w.alloc (.cells a.toArray t1)) b t2 (b := w.heap.size + 1) (by simp), ((Below.refl _ w).alloc (Nat.le_refl _) _).alloc (by simp) _⟩
end
theorem codeV_zero : codeV 0 = .nilIface := rfl
theorem codeV_pos {c : Int} (h : c ≠ 0) : codeV c = .iface 98 (.int .i64 c) := by unfold codeV; rw [if_neg h]
theorem rest_code {ns : List NodeD} {l : List PodD} {id : Int} (h : (restD ns l id).2 ≠ 0) : 1 ≤ (restD ns l id).2 ∧ (restD ns l id).2 ≤ 17 := by
  rcases rest_vals ns l id with h1 | ⟨_, h1 | h1 | h1⟩
  · exact absurd h1 h
  · omega
  · omega
  · omega
def RoomRel (ns : List NodeD) (l : List PodD) (a b : List Value) (w : World) (i : Value) (wr : World) : Prop := ∃ k : Nat, k ≤ ns.length ∧ i = .int .i64 k ∧ roomD ns l (ns.drop k) k = roomOf ns l ∧ T2 a b w wr

set_option maxHeartbeats 6400000 in
set_option maxRecDepth 100000 in
theorem roomCheck_any (ns : List NodeD) (l : List PodD) (hno : ∀ x ∈ ns, x.Ok) (hlo : ∀ p ∈ l, p.Ok) (A1 A4 : Option Addr) (n1 c1 n4 c4 : Nat) (s2 s3 v1 v2 : Value) (w : World) (hg : Laid w)
    (hn1 : n1 = ns.length) (hl1 : n1 ≤ 400) (hr1 : Recs 10 cellsN w w.heap.size A1 ns) (hn4 : n4 = l.length) (hl4 : n4 ≤ 400) (hr4 : Recs 8 cellsP w w.heap.size A4 l) :
    Calls Tryz.prog 138 #[.agg #[.slice A1 n1 c1, s2, s3], .agg #[.slice A4 n4 c4, v1, v2]] w (ErrTo (roomOf ns l) w) := by
  have HR1 := Lib.hid hr1
  have HN1 := Lib.hid hn1
  have HG := Lib.hid hg
  have HC := Lib.hid (fun (W : World) (hW : Below w.heap.size w W) (id : Int) => roomRest_any ns l id hno hlo A1 A4 n1 c1 n4 c4 s2 s3 v1 v2 W hn1 hl1 ((hr1.below hW (Nat.le_refl _)).more hW.size) hn4 hl4 ((hr4.below hW (Nat.le_refl _)).more hW.size))
  have T0 := T2.new w [.slice A1 n1 c1, s2, s3] [.slice A4 n4 c4, v1, v2] 26 42
  have HT0 := Lib.hid T0
  clear hr1 hr4 hn1 hn4 hno hlo hg T0
  go_enter Tryz.func138, Tryz.ntmps138
  go_wp2
  go_loopw [12] (RoomRel ns l [.slice A1 n1 c1, s2, s3] [.slice A4 n4 c4, v1, v2] w) (fun i _ => n1 - (intOf i).toNat)
  case atStart => exact ⟨0, by omega, rfl, rfl, HT0.out⟩
  case round =>
    obtain ⟨k, hk, rfl, hp, T1⟩ := hrel
    have HP := Lib.hid hp
    have HT1 := Lib.hid T1
    clear hp
    by_cases hlt : k < n1
    · have hkl : k < ns.length := by have := HN1.out; omega
      obtain ⟨b, o, rfl, hb, he⟩ := HR1.out.at hkl
      generalize hx : ns[k] = y at *
      have HX := Lib.hid (roomD_at hkl hx HP.out)
      clear hx
      have kwr := T1.below
      have e0 : wr.cell? ⟨b, o + k * 10, none⟩ = some (.int .i64 y.id) := (kwr.cell (p := ⟨b, o + k * 10, none⟩) hb).trans (he 0 _ rfl)
      have e1 : wr.cell? ⟨b, o + k * 10 + 1, none⟩ = some (.int .i64 y.zone) := (kwr.cell (p := ⟨b, o + k * 10 + 1, none⟩) hb).trans (he 1 _ rfl)
      have e2 : wr.cell? ⟨b, o + k * 10 + 2, none⟩ = some (.int .u64 y.cap.a) := (kwr.cell (p := ⟨b, o + k * 10 + 2, none⟩) hb).trans (he 2 _ rfl)
      have e3 : wr.cell? ⟨b, o + k * 10 + 3, none⟩ = some (.int .u64 y.cap.b) := (kwr.cell (p := ⟨b, o + k * 10 + 3, none⟩) hb).trans (he 3 _ rfl)
      have e4 : wr.cell? ⟨b, o + k * 10 + 4, none⟩ = some (.int .u64 y.cap.c) := (kwr.cell (p := ⟨b, o + k * 10 + 4, none⟩) hb).trans (he 4 _ rfl)
      have e5 : wr.cell? ⟨b, o + k * 10 + 5, none⟩ = some (.int .u64 y.cap.d) := (kwr.cell (p := ⟨b, o + k * 10 + 5, none⟩) hb).trans (he 5 _ rfl)
      have e6 : wr.cell? ⟨b, o + k * 10 + 6, none⟩ = some (.int .u64 y.held.a) := (kwr.cell (p := ⟨b, o + k * 10 + 6, none⟩) hb).trans (he 6 _ rfl)
      have e7 : wr.cell? ⟨b, o + k * 10 + 7, none⟩ = some (.int .u64 y.held.b) := (kwr.cell (p := ⟨b, o + k * 10 + 7, none⟩) hb).trans (he 7 _ rfl)
      have e8 : wr.cell? ⟨b, o + k * 10 + 8, none⟩ = some (.int .u64 y.held.c) := (kwr.cell (p := ⟨b, o + k * 10 + 8, none⟩) hb).trans (he 8 _ rfl)
      have e9 : wr.cell? ⟨b, o + k * 10 + 9, none⟩ = some (.int .u64 y.held.d) := (kwr.cell (p := ⟨b, o + k * 10 + 9, none⟩) hb).trans (he 9 _ rfl)
      have hbw : b < wr.heap.size := Nat.lt_of_lt_of_le hb kwr.size
      obtain ⟨a0, a1, a2, a3⟩ := T1.one.cells3
      obtain ⟨b0, b1, b2, b3⟩ := T1.two.cells3
      have HCR := Lib.hid (HC.out (wr.alloc (.cells (cellsN y).toArray 63)) (kwr.alloc kwr.size _) y.id)
      have HRC := Lib.hid (fun h => rest_code (ns := ns) (l := l) (id := y.id) h)
      clear he T1 kwr
      generalize hz : restD ns l y.id = z at *
      obtain ⟨r, code⟩ := z
      clear hz
      by_cases hc : code = 0
      · subst hc
        have HE := Lib.hid (HX.out.2 rfl)
        have HCC : Hid (Calls Tryz.prog 153 #[.agg #[.slice (some ⟨b, o, none⟩) n1 c1, s2, s3], .agg #[.slice A4 n4 c4, v1, v2], .int .i64 y.id] (wr.alloc (.cells #[.int .i64 y.id, .int .i64 y.zone, .int .u64 y.cap.a, .int .u64 y.cap.b, .int .u64 y.cap.c, .int .u64 y.cap.d, .int .u64 y.held.a, .int .u64 y.held.b, .int .u64 y.held.c, .int .u64 y.held.d] 63)) fun e w' => e = .returned (.tuple #[aggV r, .nilIface]) ∧ Below (wr.alloc (.cells #[.int .i64 y.id, .int .i64 y.zone, .int .u64 y.cap.a, .int .u64 y.cap.b, .int .u64 y.cap.c, .int .u64 y.cap.d, .int .u64 y.held.a, .int .u64 y.held.b, .int .u64 y.held.c, .int .u64 y.held.d] 63)).heap.size (wr.alloc (.cells #[.int .i64 y.id, .int .i64 y.zone, .int .u64 y.cap.a, .int .u64 y.cap.b, .int .u64 y.cap.c, .int .u64 y.cap.d, .int .u64 y.held.a, .int .u64 y.held.b, .int .u64 y.held.c, .int .u64 y.held.d] 63)) w') := HCR.out
        clear HCR
        go_wp2_with fail
        refine HCC.out.mono ?_
        rintro e w1 ⟨rfl, hb1⟩
        have HTT := Lib.hid (((HT1.out.alloc _).keep hb1).alloc (.cells #[.int .u64 r.a, .int .u64 r.b, .int .u64 r.c, .int .u64 r.d] 59))
        clear hb1 e0 e1 e2 e3 e4 e5 e6 e7 e8 e9 a0 a1 a2 a3 b0 b1 b2 b3
        go_wp2
        go_roundw
        case rel => exact ⟨k + 1, by omega, by go_num, HE.out, HTT.out⟩
        case measure => simp [intOf]; omega
      · have HE := Lib.hid (HX.out.1 hc)
        have HCO := Lib.hid (HRC.out hc)
        have HCC : Hid (Calls Tryz.prog 153 #[.agg #[.slice (some ⟨b, o, none⟩) n1 c1, s2, s3], .agg #[.slice A4 n4 c4, v1, v2], .int .i64 y.id] (wr.alloc (.cells #[.int .i64 y.id, .int .i64 y.zone, .int .u64 y.cap.a, .int .u64 y.cap.b, .int .u64 y.cap.c, .int .u64 y.cap.d, .int .u64 y.held.a, .int .u64 y.held.b, .int .u64 y.held.c, .int .u64 y.held.d] 63)) fun e w' => e = .returned (.tuple #[aggV r, .iface 98 (.int .i64 code)]) ∧ Below (wr.alloc (.cells #[.int .i64 y.id, .int .i64 y.zone, .int .u64 y.cap.a, .int .u64 y.cap.b, .int .u64 y.cap.c, .int .u64 y.cap.d, .int .u64 y.held.a, .int .u64 y.held.b, .int .u64 y.held.c, .int .u64 y.held.d] 63)).heap.size (wr.alloc (.cells #[.int .i64 y.id, .int .i64 y.zone, .int .u64 y.cap.a, .int .u64 y.cap.b, .int .u64 y.cap.c, .int .u64 y.cap.d, .int .u64 y.held.a, .int .u64 y.held.b, .int .u64 y.held.c, .int .u64 y.held.d] 63)) w') := by
          have h := HCR.out
          rw [codeV_pos hc] at h
          exact h
        clear HCR hc
        go_wp2_with fail
        refine HCC.out.mono ?_
        rintro e w1 ⟨rfl, hb1⟩
        have TT := ((HT1.out.alloc _).keep hb1).alloc (.cells #[.int .u64 r.a, .int .u64 r.b, .int .u64 r.c, .int .u64 r.d] 59)
        have HSP := Lib.hid (roomSpot_any k code (w1.alloc (.cells #[.int .u64 r.a, .int .u64 r.b, .int .u64 r.c, .int .u64 r.d] 59)) (Laid.below HG.out TT.below (Nat.le_refl _)))
        have HTT := Lib.hid TT
        clear hb1 e0 e1 e2 e3 e4 e5 e6 e7 e8 e9 a0 a1 a2 a3 b0 b1 b2 b3 TT
        go_wp2_with fail
        refine HSP.out.mono ?_
        rintro e w2 ⟨g, rfl, hg1, hg2, hb2⟩
        have HG1 := Lib.hid hg1
        have HG2 := Lib.hid hg2
        have HB2 := Lib.hid hb2
        clear hg1 hg2 hb2
        go_wp2
        go_ret
        refine ⟨_, rfl, .inr (.inr ⟨k, g, by rw [HE.out], rfl, Nat.le_trans HTT.out.below.size HG1.out, by rw [HE.out]; exact HG2.out⟩), (HTT.out.keep HB2.out).below⟩
    · have HE := Lib.hid (roomD_end (by have := HN1.out; omega) HP.out)
      have kwr := T1.below
      clear T1
      go_wp2
      go_ret
      exact ⟨_, rfl, .inl ⟨HE.out, rfl⟩, kwr⟩
end Go.Proofs.YtpfjeoldgcepnaaGreatDoor

/- dunnageref03.Zones. -/
namespace Go.Proofs.YtpfjeoldgcepnaaGreatDoor
set_option linter.unusedSimpArgs false
open Go.RowKit
set_option linter.unusedVariables false

abbrev i64s (l : List Int) : List Value := l.map (Value.int .i64)
theorem Tryz.info3 : (Tryz.prog.info? 3).map (fun i => (i.zero, i.size, i.bytes)) = some (some (.int .i64 0), 1, 8) := by kernel_rfl

def ZonesTo (l : List NodeD) (w : World) (e : Ending) (w' : World) : Prop :=
  ∃ v, e = .returned v ∧ w'.ownsRow (w.heap.size + 1) 3 1 v (i64s (zonesOf l)).length (i64s (zonesOf l)) ∧ Below w.heap.size w w'

end Go.Proofs.YtpfjeoldgcepnaaGreatDoor

/- The program's Zones, from what slices.Sort and slices.Compact come to. -/
namespace Go.Proofs.YtpfjeoldgcepnaaGreatDoor
set_option linter.unusedSimpArgs false
open Go.RowKit
set_option linter.unusedVariables false

abbrev sortI (zs : List Int) : List Int := zs.mergeSort fun x y => decide (x ≤ y)
/-- slices.Sort at a slice of the call's own. -/
def SortOwn : Prop := ∀ (B : Nat) (v : Value) (zs : List Int) (w : World), B ≤ w.heap.size → w.ownsRow B 3 1 v zs.length (i64s zs) → zs.length ≤ 1000 →
  Calls Tryz.prog 168 #[v] w fun e w' => e = .returned (.tuple #[]) ∧ w'.ownsRow B 3 1 v zs.length (i64s (sortI zs)) ∧ Below B w w'
def CompTo (zs : List Int) (B : Nat) (w : World) (e : Ending) (w' : World) : Prop := ∃ v', e = .returned v' ∧ w'.ownsRow B 3 1 v' (Lib.compact zs).length (i64s (Lib.compact zs)) ∧ Below B w w'
/-- slices.Compact at a slice of the call's own. -/
def CompOwn : Prop := ∀ (B : Nat) (v : Value) (zs : List Int) (w : World), B ≤ w.heap.size → w.ownsRow B 3 1 v zs.length (i64s zs) → zs.length ≤ 1000 → Calls Tryz.prog 169 #[v] w (CompTo zs B w)

def ZoRel (l : List NodeD) (W : World) (B : Nat) (v i : Value) (wr : World) : Prop :=
  ∃ k : Nat, k ≤ l.length ∧ i = .int .i64 k ∧ wr.ownsRow B 3 1 v (i64s ((l.take k).map NodeD.zone)).length (i64s ((l.take k).map NodeD.zone)) ∧ Below B W wr
theorem zones_more {l : List NodeD} {k : Nat} {nd : NodeD} (h : k < l.length) (hx : l[k] = nd) : i64s ((l.take (k + 1)).map NodeD.zone) = i64s ((l.take k).map NodeD.zone) ++ [.int .i64 nd.zone] := by
  rw [List.take_succ_eq_append_getElem h, hx]; simp

set_option maxHeartbeats 3200000 in
set_option maxRecDepth 100000 in
theorem zones_any (HS : SortOwn) (HC : CompOwn) (l : List NodeD) (A : Option Addr) (n c : Nat) (v2 v3 : Value) (w : World) (hn : n = l.length) (hl : n ≤ 1000) (hr : Recs 10 cellsN w w.heap.size A l) :
    Calls Tryz.prog 163 #[.agg #[.slice A n c, v2, v3]] w (ZonesTo l w) := by
  have HSS := Lib.hid HS
  have HCC := Lib.hid HC
  have HR := Lib.hid hr
  have HN := Lib.hid hn
  clear hr hn HS HC
  have b00 : Below w.heap.size w (w.alloc (.cells #[.slice A n c, v2, v3] 26)) := (Below.refl _ _).alloc (Nat.le_refl _) _
  go_enter Tryz.func163, Tryz.ntmps163
  go_wp2
  go_loopw [3, 9] (ZoRel l (w.alloc (.cells #[.slice A n c, v2, v3] 26)) (w.heap.size + 1)) (fun _ i _ => n - (intOf i).toNat)
  case atStart => exact ⟨0, by omega, rfl, ⟨by simp, .inl ⟨rfl, by simp⟩⟩, Below.refl _ _⟩
  case round =>
    obtain ⟨k, hk, rfl, hown, hbr⟩ := hrel
    have HOWN := Lib.hid hown
    have hzr : w.heap.size + 1 ≤ wr.heap.size := by have := hbr.size; simpa using this
    have kwr : Below w.heap.size w wr := b00.trans (hbr.mono (by omega))
    clear hown
    by_cases hlt : k < n
    · have hkl : k < l.length := by have := HN.out; omega
      obtain ⟨b, o, rfl, hb, he⟩ := HR.out.at hkl
      generalize hx : l[k] = nd at *
      have HX := Lib.hid hx
      clear hx
      have e0 : wr.cell? ⟨b, o + k * 10, none⟩ = some (.int .i64 nd.id) := (kwr.cell (p := ⟨b, o + k * 10, none⟩) hb).trans (he 0 _ rfl)
      have e1 : wr.cell? ⟨b, o + k * 10 + 1, none⟩ = some (.int .i64 nd.zone) := (kwr.cell (p := ⟨b, o + k * 10 + 1, none⟩) hb).trans (he 1 _ rfl)
      have e2 : wr.cell? ⟨b, o + k * 10 + 2, none⟩ = some (.int .u64 nd.cap.a) := (kwr.cell (p := ⟨b, o + k * 10 + 2, none⟩) hb).trans (he 2 _ rfl)
      have e3 : wr.cell? ⟨b, o + k * 10 + 3, none⟩ = some (.int .u64 nd.cap.b) := (kwr.cell (p := ⟨b, o + k * 10 + 3, none⟩) hb).trans (he 3 _ rfl)
      have e4 : wr.cell? ⟨b, o + k * 10 + 4, none⟩ = some (.int .u64 nd.cap.c) := (kwr.cell (p := ⟨b, o + k * 10 + 4, none⟩) hb).trans (he 4 _ rfl)
      have e5 : wr.cell? ⟨b, o + k * 10 + 5, none⟩ = some (.int .u64 nd.cap.d) := (kwr.cell (p := ⟨b, o + k * 10 + 5, none⟩) hb).trans (he 5 _ rfl)
      have e6 : wr.cell? ⟨b, o + k * 10 + 6, none⟩ = some (.int .u64 nd.held.a) := (kwr.cell (p := ⟨b, o + k * 10 + 6, none⟩) hb).trans (he 6 _ rfl)
      have e7 : wr.cell? ⟨b, o + k * 10 + 7, none⟩ = some (.int .u64 nd.held.b) := (kwr.cell (p := ⟨b, o + k * 10 + 7, none⟩) hb).trans (he 7 _ rfl)
      have e8 : wr.cell? ⟨b, o + k * 10 + 8, none⟩ = some (.int .u64 nd.held.c) := (kwr.cell (p := ⟨b, o + k * 10 + 8, none⟩) hb).trans (he 8 _ rfl)
      have e9 : wr.cell? ⟨b, o + k * 10 + 9, none⟩ = some (.int .u64 nd.held.d) := (kwr.cell (p := ⟨b, o + k * 10 + 9, none⟩) hb).trans (he 9 _ rfl)
      have hbw : b < wr.heap.size := by omega
      have HM := Lib.hid (zones_more hkl HX.out)
      have HL : Hid ((i64s ((l.take k).map NodeD.zone)).length ≤ 2000000) := by show _ ≤ _; simp; omega
      have k1 : Below (w.heap.size + 1) (w.alloc (.cells #[.slice (some ⟨b, o, none⟩) n c, v2, v3] 26)) (wr.alloc (.cells #[.int .i64 nd.id, .int .i64 nd.zone, .int .u64 nd.cap.a, .int .u64 nd.cap.b, .int .u64 nd.cap.c, .int .u64 nd.cap.d, .int .u64 nd.held.a, .int .u64 nd.held.b, .int .u64 nd.held.c, .int .u64 nd.held.d] 63)) := hbr.alloc hzr _
      have HO1 := Lib.hid (HOWN.out.alloc (.cells #[.int .i64 nd.id, .int .i64 nd.zone, .int .u64 nd.cap.a, .int .u64 nd.cap.b, .int .u64 nd.cap.c, .int .u64 nd.cap.d, .int .u64 nd.held.a, .int .u64 nd.held.b, .int .u64 nd.held.c, .int .u64 nd.held.d] 63))
      clear he
      go_wp2_with (at_builtin; refine wpList_push 140 3 (.int .i64 0) 8 Tryz.underlying140 Tryz.info3 rfl (by decide) rfl (.tmp 13) (.tmp 16) rfl (w.heap.size + 1) _ (i64s ((l.take k).map NodeD.zone)) (.int .i64 nd.zone) rfl HO1.out (by show w.heap.size + 1 ≤ (wr.alloc _).heap.size; simp; omega) HL.out rfl (by simp [go_sem]) ?_; intro v5 w3 hown3 hb3 hB3)
      have HO3 := Lib.hid hown3
      clear hown3
      go_wp2
      go_roundw
      case rel => exact ⟨k + 1, by omega, by go_num, by rw [HM.out]; exact HO3.out, k1.trans hb3⟩
      case measure => simp [intOf]; omega
    · have HK : Hid (l.take k = l) := List.take_of_length_le (by have := HN.out; omega)
      have HO : Hid (wr.ownsRow (w.heap.size + 1) 3 1 u3 (l.map NodeD.zone).length (i64s (l.map NodeD.zone))) := by
        have h := HOWN.out
        rw [HK.out, List.length_map (f := Value.int .i64)] at h
        exact h
      have HLL : Hid ((l.map NodeD.zone).length ≤ 1000) := by show _ ≤ _; have := HN.out; simp; omega
      go_wp2_with fail
      refine (HSS.out _ _ _ _ hzr HO.out HLL.out).mono ?_
      rintro e w1 ⟨rfl, hown1, hb1⟩
      have HO1 : Hid (w1.ownsRow (w.heap.size + 1) 3 1 u3 (sortI (l.map NodeD.zone)).length (i64s (sortI (l.map NodeD.zone)))) := by
        rw [show (sortI (l.map NodeD.zone)).length = (l.map NodeD.zone).length from List.length_mergeSort _]; exact hown1
      have HL1 : Hid ((sortI (l.map NodeD.zone)).length ≤ 1000) := by
        show _ ≤ _; rw [show (sortI (l.map NodeD.zone)).length = (l.map NodeD.zone).length from List.length_mergeSort _]; exact HLL.out
      clear hown1
      have hz1 : w.heap.size + 1 ≤ w1.heap.size := Nat.le_trans hzr hb1.size
      go_wp2_with fail
      refine (HCC.out _ _ _ _ hz1 HO1.out HL1.out).mono ?_
      rintro e w2 ⟨v', rfl, hown2, hb2⟩
      rw [zones_compact] at hown2
      have HO2 := Lib.hid hown2
      clear hown2
      have kw2 : Below w.heap.size w w2 := b00.trans (((hbr.trans hb1).trans hb2).mono (by omega))
      go_wp2
      go_ret
      exact ⟨_, rfl, by rw [List.length_map]; exact HO2.out, kw2⟩
end Go.Proofs.YtpfjeoldgcepnaaGreatDoor

/- Plain mathematics of pods that may not be together. -/
namespace Go.Proofs.YtpfjeoldgcepnaaGreatDoor
set_option linter.unusedSimpArgs false
open Go.RowKit
set_option linter.unusedVariables false

/-- Has the first load of this Id Apart? -/
def apartD (id : Int) : List LoadD → Bool
  | [] => false
  | x :: r => if x.id = id then x.apart else apartD id r
theorem apartD_no {id : Int} : ∀ {l : List LoadD} {k : Int}, 0 ≤ k → place LoadD.id id l k < 0 → apartD id l = false
  | [], _, _, _ => rfl
  | x :: r, k, hk, h => by
    by_cases hx : x.id = id
    · simp [place, hx] at h; omega
    · simp only [place, if_neg hx] at h
      simp only [apartD, if_neg hx]
      exact apartD_no (by omega) h
theorem apartD_yes {id : Int} : ∀ {l : List LoadD} {k : Int} {i : Nat} (hi : i < l.length), place LoadD.id id l k = k + i → 0 ≤ k → apartD id l = l[i].apart
  | [], _, _, hi, _, _ => by simp at hi
  | x :: r, k, i, hi, h, hk => by
    by_cases hx : x.id = id
    · simp only [place, if_pos hx] at h
      obtain rfl : i = 0 := by omega
      simp [apartD, hx]
    · simp only [place, if_neg hx] at h
      cases i with
      | zero =>
        have h3 : place LoadD.id id r (k + 1) < 0 ∨ k + 1 ≤ place LoadD.id id r (k + 1) := place_or r (k + 1) (by omega)
        omega
      | succ i =>
        simp only [apartD, if_neg hx, List.getElem_cons_succ]
        exact apartD_yes (by simpa using hi) (by rw [h]; omega) (by omega)
/-- Do two pods clash? -/
def clashD (ls : List LoadD) (a b : PodD) : Bool := a.node != 0 && (a.node == b.node && (a.load == b.load && apartD a.load ls))
/-- The first pod, behind k others, that clashes with one ahead of it. -/
def apartFrom (ls : List LoadD) (l : List PodD) : List PodD → Nat → Int × Int
  | [], _ => (0, -1)
  | p :: r, k => if (l.take k).any (clashD ls p) = true then (10, (k : Int)) else apartFrom ls l r (k + 1)
def apartOf (ls : List LoadD) (l : List PodD) : Int × Int := apartFrom ls l l 0
theorem apartFrom_at {ls : List LoadD} {l : List PodD} {k : Nat} {z : Int × Int} (h : k < l.length) {p : PodD} (hx : l[k] = p) (hp : apartFrom ls l (l.drop k) k = z) :
    ((l.take k).any (clashD ls p) = true → z = (10, (k : Int))) ∧ ((l.take k).any (clashD ls p) = false → apartFrom ls l (l.drop (k + 1)) (k + 1) = z) := by
  rw [List.drop_eq_getElem_cons h, hx, apartFrom] at hp
  constructor
  · intro e; rw [if_pos e] at hp; exact hp.symm
  · intro e; rw [if_neg (by rw [e]; decide)] at hp; exact hp
theorem apartFrom_end {ls : List LoadD} {l : List PodD} {k : Nat} {z : Int × Int} (h : l.length ≤ k) (hp : apartFrom ls l (l.drop k) k = z) : z = (0, -1) := by
  rw [List.drop_of_length_le h] at hp
  exact hp.symm
/-- The place of the first one of which it is true; -1: of none. -/
def idxF (f : PodD → Bool) : List PodD → Int → Int
  | [], _ => -1
  | q :: r, k => if f q = true then k else idxF f r (k + 1)
theorem idxF_at {f : PodD → Bool} {l : List PodD} {k : Nat} {z : Int} (h : k < l.length) {q : PodD} (hx : l[k] = q) (hp : idxF f (l.drop k) k = z) :
    (f q = true → z = k) ∧ (f q = false → idxF f (l.drop (k + 1)) ((k + 1 : Nat) : Int) = z) := by
  rw [List.drop_eq_getElem_cons h, hx, idxF] at hp
  constructor
  · intro e; rw [if_pos e] at hp; exact hp.symm
  · intro e; rw [if_neg (by rw [e]; decide)] at hp; exact hp
theorem idxF_end {f : PodD → Bool} {l : List PodD} {k : Nat} {z : Int} (h : l.length ≤ k) (hp : idxF f (l.drop k) k = z) : z = -1 := by
  rw [List.drop_of_length_le h] at hp
  exact hp.symm
theorem idxF_any {f : PodD → Bool} : ∀ (l : List PodD) (k : Int), 0 ≤ k → (decide (0 ≤ idxF f l k) = l.any f)
  | [], k, hk => by simp [idxF]
  | q :: r, k, hk => by
    cases h : f q with
    | true => simp [idxF, h, hk]
    | false => simp only [idxF, h, List.any_cons, Bool.false_or]; rw [if_neg (by decide)]; exact idxF_any r (k + 1) (by omega)
theorem apartFrom_pair {ls : List LoadD} {l : List PodD} : ∀ (r : List PodD) (k : Nat), ((apartFrom ls l r k).1 = 0 ∧ apartFrom ls l r k = (0, -1)) ∨ ∃ j : Nat, apartFrom ls l r k = (10, (j : Int))
  | [], _ => .inl ⟨rfl, rfl⟩
  | p :: r, k => by
    unfold apartFrom
    split
    · exact .inr ⟨k, rfl⟩
    · exact apartFrom_pair r (k + 1)
theorem apartFrom_iff {ls : List LoadD} {l : List PodD} : ∀ (n k : Nat), l.length = k + n → (apartFrom ls l (l.drop k) k = (0, -1) ↔ ∀ j, k ≤ j → ∀ h : j < l.length, (l.take j).any (clashD ls l[j]) = false)
  | 0, k, hn => by
    rw [List.drop_of_length_le (by omega), apartFrom]
    simp only [true_iff]
    intro j h1 h2; omega
  | n + 1, k, hn => by
    have hk : k < l.length := by omega
    rw [List.drop_eq_getElem_cons hk, apartFrom]
    cases h : (l.take k).any (clashD ls l[k]) with
    | true =>
      simp only [if_true]
      constructor
      · intro e; injection e with e1 e2; omega
      · intro e; have := e k (Nat.le_refl _) hk; rw [h] at this; cases this
    | false =>
      rw [if_neg (by decide), apartFrom_iff n (k + 1) (by omega)]
      constructor
      · intro e j h1 h2
        by_cases hj : j = k
        · subst hj; exact h
        · exact e j (by omega) h2
      · intro e j h1 h2; exact e j (by omega) h2
theorem apart_pairwise {ls : List LoadD} {l : List PodD} : apartOf ls l = (0, -1) ↔ l.Pairwise (fun p q => clashD ls q p = false) := by
  have h := apartFrom_iff (ls := ls) (l := l) l.length 0 (by omega)
  rw [List.drop_zero] at h
  rw [apartOf, h, List.pairwise_iff_getElem]
  constructor
  · intro e i j hi hj hij
    have := e j (by omega) hj
    rw [List.any_eq_false] at this
    have h2 := this l[i] (by rw [List.mem_take_iff_getElem]; exact ⟨i, by omega, rfl⟩)
    simpa using h2
  · intro e j _ hj
    rw [List.any_eq_false]
    intro p hp
    rw [List.mem_take_iff_getElem] at hp
    obtain ⟨i, hi, rfl⟩ := hp
    have := e i j (by omega) hj (by omega)
    simpa using this
end Go.Proofs.YtpfjeoldgcepnaaGreatDoor

/- The program's hasApart, clash, and its closures; slices.IndexFunc and slices.ContainsFunc at them. -/
namespace Go.Proofs.YtpfjeoldgcepnaaGreatDoor
set_option linter.unusedSimpArgs false
open Go.RowKit
set_option linter.unusedVariables false

section
variable {V : World}
theorem Bf.cells8 {b : Nat} {x : PodD} (h : Bf V b (cellsP x)) : (V.cell? ⟨b, 0, none⟩ = some (.int .i64 x.id) ∧ V.cell? ⟨b, 1, none⟩ = some (.int .i64 x.load) ∧ V.cell? ⟨b, 2, none⟩ = some (.int .i64 x.prio) ∧ V.cell? ⟨b, 3, none⟩ = some (.int .u64 x.req.a)) ∧
    V.cell? ⟨b, 4, none⟩ = some (.int .u64 x.req.b) ∧ V.cell? ⟨b, 5, none⟩ = some (.int .u64 x.req.c) ∧ V.cell? ⟨b, 6, none⟩ = some (.int .u64 x.req.d) ∧ V.cell? ⟨b, 7, none⟩ = some (.int .i64 x.node) ∧ b < V.heap.size :=
  ⟨⟨h.cell 0 _ rfl, h.cell 1 _ rfl, h.cell 2 _ rfl, h.cell 3 _ rfl⟩, h.cell 4 _ rfl, h.cell 5 _ rfl, h.cell 6 _ rfl, h.cell 7 _ rfl, h.lt⟩
end
set_option maxHeartbeats 3200000 in
set_option maxRecDepth 100000 in
theorem hasApart_any (ls : List LoadD) (id : Int) (A2 : Option Addr) (n2 c2 : Nat) (s1 s3 : Value) (w : World) (hn : n2 = ls.length) (hl : n2 ≤ 400) (hr : Recs 5 cellsL w w.heap.size A2 ls) :
    Calls Tryz.prog 162 #[.agg #[s1, .slice A2 n2 c2, s3], .int .i64 id] w fun e w' => e = .returned (.bool (apartD id ls)) ∧ Below w.heap.size w w' := by
  have b00 : Below w.heap.size w (w.alloc (.cells #[s1, .slice A2 n2 c2, s3] 26)) := (Below.refl _ _).alloc (Nat.le_refl _) _
  have HF := Lib.hid (load_any ls id A2 n2 c2 s1 s3 (w.alloc (.cells #[s1, .slice A2 n2 c2, s3] 26)) hn (by omega) ((hr.below b00 (Nat.le_refl _)).more b00.size))
  clear hr hn
  go_enter Tryz.func162, Tryz.ntmps162
  go_wp2_with fail
  refine HF.out.mono ?_
  rintro e w1 ⟨hh, hb1⟩
  have kw1 : Below w.heap.size w w1 := b00.trans (hb1.mono b00.size)
  clear hb1 b00
  rcases hh with ⟨hp, rfl⟩ | ⟨i, hi, hp, rfl⟩
  · have HE := Lib.hid (apartD_no (k := 0) (Int.le_refl _) hp)
    clear hp
    go_wp2
    go_ret
    exact ⟨ret_bool HE.out.symm, kw1.alloc kw1.size _⟩
  · have HE := Lib.hid (apartD_yes (k := 0) hi (by rw [hp]; omega) (Int.le_refl _))
    generalize ls[i] = x at *
    clear hp
    go_wp2
    go_ret
    exact ⟨ret_bool HE.out.symm, kw1.alloc kw1.size _⟩

set_option maxHeartbeats 3200000 in
set_option maxRecDepth 100000 in
theorem apClash_any (ls : List LoadD) (a b : PodD) (A2 : Option Addr) (n2 c2 : Nat) (s1 s3 : Value) (w : World) (hn : n2 = ls.length) (hl : n2 ≤ 400) (hr : Recs 5 cellsL w w.heap.size A2 ls) :
    Calls Tryz.prog 156 #[.agg #[s1, .slice A2 n2 c2, s3], aggP a, aggP b] w fun e w' => e = .returned (.bool (clashD ls a b)) ∧ Below w.heap.size w w' := by
  have T0 := T3.new w [s1, .slice A2 n2 c2, s3] (cellsP a) (cellsP b) 26 79 79
  have k0 := T0.below
  have HF := Lib.hid (fun (V : World) (hV : Below w.heap.size w V) => hasApart_any ls a.load A2 n2 c2 s1 s3 V hn hl ((hr.below hV (Nat.le_refl _)).more hV.size))
  have HFF := Lib.hid (HF.out _ k0)
  have HK := Lib.hid k0
  clear hr hn T0 k0 HF
  by_cases h0 : a.node = 0
  · have HE := Lib.hid (show clashD ls a b = false by simp [clashD, h0])
    have hd : (a.node != 0) = false := by simp [h0]
    clear h0
    go_enter Tryz.func156, Tryz.ntmps156
    go_wp2
    go_ret
    exact ⟨ret_bool HE.out.symm, HK.out⟩
  have hd : (a.node != 0) = true := by simp [h0]
  by_cases h1 : a.node = b.node
  · have hd1 : (a.node == b.node) = true := by simp [h1]
    by_cases h2 : a.load = b.load
    · have hd2 : (a.load == b.load) = true := by simp [h2]
      have HE := Lib.hid (show clashD ls a b = apartD a.load ls by simp only [clashD, hd, hd1, hd2, Bool.true_and])
      clear h0 h1 h2
      go_enter Tryz.func156, Tryz.ntmps156
      go_wp2_with fail
      refine HFF.out.mono ?_
      rintro e w1 ⟨rfl, hb1⟩
      have k1 := HK.out.trans (hb1.mono HK.out.size)
      clear hb1
      go_wp2
      go_ret
      exact ⟨ret_bool HE.out.symm, k1⟩
    · have hd2 : (a.load == b.load) = false := by simp [h2]
      have HE := Lib.hid (show clashD ls a b = false by simp only [clashD, hd, hd1, hd2, Bool.true_and, Bool.false_and])
      clear h0 h1 h2
      go_enter Tryz.func156, Tryz.ntmps156
      go_wp2
      go_ret
      exact ⟨ret_bool HE.out.symm, HK.out⟩
  · have hd1 : (a.node == b.node) = false := by simp [h1]
    have HE := Lib.hid (show clashD ls a b = false by simp only [clashD, hd, hd1, Bool.true_and, Bool.false_and])
    clear h0 h1
    go_enter Tryz.func156, Tryz.ntmps156
    go_wp2
    go_ret
    exact ⟨ret_bool HE.out.symm, HK.out⟩

/-- The closure in Check: does this one clash with the pod that was captured? -/
theorem apTwoClosure_any (ls : List LoadD) (p q : PodD) (gs gp : Nat) (A2 : Option Addr) (n2 c2 : Nat) (s1 s3 : Value) (w : World) (hs : Bf w gs [s1, .slice A2 n2 c2, s3]) (hp : Bf w gp (cellsP p)) (hn : n2 = ls.length) (hl : n2 ≤ 400) (hr : Recs 5 cellsL w w.heap.size A2 ls) :
    Calls Tryz.prog 155 #[aggP q, .pointer (some ⟨gs, 0, none⟩), .pointer (some ⟨gp, 0, none⟩)] w fun e w' => e = .returned (.bool (clashD ls p q)) ∧ Below w.heap.size w w' := by
  obtain ⟨a0, a1, a2, a3⟩ := hs.cells3
  obtain ⟨⟨b0, b1, b2, b3⟩, b4, b5, b6, b7, b8⟩ := hp.cells8
  have b00 : Below w.heap.size w (w.alloc (.cells #[.int .i64 q.id, .int .i64 q.load, .int .i64 q.prio, .int .u64 q.req.a, .int .u64 q.req.b, .int .u64 q.req.c, .int .u64 q.req.d, .int .i64 q.node] 79)) := (Below.refl _ _).alloc (Nat.le_refl _) _
  have HF := Lib.hid (apClash_any ls p q A2 n2 c2 s1 s3 (w.alloc (.cells #[.int .i64 q.id, .int .i64 q.load, .int .i64 q.prio, .int .u64 q.req.a, .int .u64 q.req.b, .int .u64 q.req.c, .int .u64 q.req.d, .int .i64 q.node] 79)) hn hl ((hr.below b00 (Nat.le_refl _)).more b00.size))
  clear hr hn hs hp
  go_enter Tryz.func155, Tryz.ntmps155
  go_wp2_with fail
  refine HF.out.mono ?_
  rintro e w1 ⟨rfl, hb1⟩
  go_wp2
  go_ret
  exact ⟨rfl, b00.trans (hb1.mono b00.size)⟩

def IdxRel (f : PodD → Bool) (l : List PodD) (W : World) (i : Value) (wr : World) : Prop := ∃ k : Nat, k ≤ l.length ∧ i = .int .i64 k ∧ idxF f (l.drop k) k = idxF f l 0 ∧ Below W.heap.size W wr
set_option maxHeartbeats 3200000 in
set_option maxRecDepth 100000 in
theorem apIndexTwo_any (ls : List LoadD) (p : PodD) (l : List PodD) (gs gp : Nat) (A2 : Option Addr) (n2 c2 : Nat) (s1 s3 : Value) (A : Option Addr) (n c : Nat) (w : World) (hs : Bf w gs [s1, .slice A2 n2 c2, s3]) (hp : Bf w gp (cellsP p)) (hn2 : n2 = ls.length) (hl2 : n2 ≤ 400) (hr2 : Recs 5 cellsL w w.heap.size A2 ls) (hn : n = l.length) (hl : n ≤ 1000) (hr : Recs 8 cellsP w w.heap.size A l) :
    Calls Tryz.prog 77 #[.slice A n c, .func (.func 155) #[] #[.pointer (some ⟨gs, 0, none⟩), .pointer (some ⟨gp, 0, none⟩)]] w fun e w' => e = .returned (.int .i64 (idxF (clashD ls p) l 0)) ∧ Below w.heap.size w w' := by
  have HR := Lib.hid hr
  have HN := Lib.hid hn
  have HC := Lib.hid (fun (V : World) (hV : Below w.heap.size w V) (q : PodD) => apTwoClosure_any ls p q gs gp A2 n2 c2 s1 s3 V (hs.below hV hs.lt) (hp.below hV hp.lt) hn2 hl2 ((hr2.below hV (Nat.le_refl _)).more hV.size))
  clear hr hn hs hp hn2 hr2
  go_enter Tryz.func77, Tryz.ntmps77
  go_wp2
  go_loopw [8] (IdxRel (clashD ls p) l w) (fun i _ => n - (intOf i).toNat)
  case atStart => exact ⟨0, by omega, rfl, rfl, Below.refl _ _⟩
  case round =>
    obtain ⟨k, hk, rfl, hp, hbr⟩ := hrel
    have HP := Lib.hid hp
    have hzr := hbr.size
    clear hp
    by_cases hlt : k < n
    · have hkl : k < l.length := by have := HN.out; omega
      obtain ⟨b, o, rfl, hb, he⟩ := HR.out.at hkl
      generalize hx : l[k] = x at *
      have HX := Lib.hid (idxF_at hkl hx HP.out)
      clear hx
      have e0 : wr.cell? ⟨b, o + k * 8, none⟩ = some (.int .i64 x.id) := (hbr.cell (p := ⟨b, o + k * 8, none⟩) hb).trans (he 0 _ rfl)
      have e1 : wr.cell? ⟨b, o + k * 8 + 1, none⟩ = some (.int .i64 x.load) := (hbr.cell (p := ⟨b, o + k * 8 + 1, none⟩) hb).trans (he 1 _ rfl)
      have e2 : wr.cell? ⟨b, o + k * 8 + 2, none⟩ = some (.int .i64 x.prio) := (hbr.cell (p := ⟨b, o + k * 8 + 2, none⟩) hb).trans (he 2 _ rfl)
      have e3 : wr.cell? ⟨b, o + k * 8 + 3, none⟩ = some (.int .u64 x.req.a) := (hbr.cell (p := ⟨b, o + k * 8 + 3, none⟩) hb).trans (he 3 _ rfl)
      have e4 : wr.cell? ⟨b, o + k * 8 + 4, none⟩ = some (.int .u64 x.req.b) := (hbr.cell (p := ⟨b, o + k * 8 + 4, none⟩) hb).trans (he 4 _ rfl)
      have e5 : wr.cell? ⟨b, o + k * 8 + 5, none⟩ = some (.int .u64 x.req.c) := (hbr.cell (p := ⟨b, o + k * 8 + 5, none⟩) hb).trans (he 5 _ rfl)
      have e6 : wr.cell? ⟨b, o + k * 8 + 6, none⟩ = some (.int .u64 x.req.d) := (hbr.cell (p := ⟨b, o + k * 8 + 6, none⟩) hb).trans (he 6 _ rfl)
      have e7 : wr.cell? ⟨b, o + k * 8 + 7, none⟩ = some (.int .i64 x.node) := (hbr.cell (p := ⟨b, o + k * 8 + 7, none⟩) hb).trans (he 7 _ rfl)
      have hbw : b < wr.heap.size := by omega
      have HCR := Lib.hid (HC.out wr hbr x)
      clear he
      go_wp2_with fail
      go_at_call 155
      refine HCR.out.mono ?_
      rintro e w1 ⟨rfl, hb1⟩
      have k1 : Below w.heap.size w w1 := hbr.trans (hb1.mono hzr)
      cases hd : clashD ls p x with
      | true =>
        have HE := Lib.hid (HX.out.1 hd)
        clear hd
        go_wp2
        go_ret
        exact ⟨ret_int HE.out.symm, k1⟩
      | false =>
        have HE := Lib.hid (HX.out.2 hd)
        clear hd
        go_wp2
        go_roundw
        case rel => exact ⟨k + 1, by omega, by go_num, HE.out, k1⟩
        case measure => simp [intOf]; omega
    · have HE := Lib.hid (idxF_end (by have := HN.out; omega) HP.out)
      go_wp2
      go_ret
      exact ⟨ret_int HE.out.symm, hbr⟩

set_option maxHeartbeats 1600000 in
theorem apContains_any (ls : List LoadD) (p : PodD) (l : List PodD) (gs gp : Nat) (A2 : Option Addr) (n2 c2 : Nat) (s1 s3 : Value) (A : Option Addr) (n c : Nat) (w : World) (hs : Bf w gs [s1, .slice A2 n2 c2, s3]) (hp : Bf w gp (cellsP p)) (hn2 : n2 = ls.length) (hl2 : n2 ≤ 400) (hr2 : Recs 5 cellsL w w.heap.size A2 ls) (hn : n = l.length) (hl : n ≤ 1000) (hr : Recs 8 cellsP w w.heap.size A l) :
    Calls Tryz.prog 89 #[.slice A n c, .func (.func 155) #[] #[.pointer (some ⟨gs, 0, none⟩), .pointer (some ⟨gp, 0, none⟩)]] w fun e w' => e = .returned (.bool (l.any (clashD ls p))) ∧ Below w.heap.size w w' := by
  have HF := Lib.hid (apIndexTwo_any ls p l gs gp A2 n2 c2 s1 s3 A n c w hs hp hn2 hl2 hr2 hn hl hr)
  have HE := Lib.hid (idxF_any (f := clashD ls p) l 0 (Int.le_refl _))
  clear hs hp hn2 hl2 hr2 hn hl hr
  go_enter Tryz.func89, Tryz.ntmps89
  go_wp2_with fail
  refine HF.out.mono ?_
  rintro e w1 ⟨rfl, hb1⟩
  go_wp2
  go_ret
  exact ⟨ret_bool HE.out, hb1⟩
end Go.Proofs.YtpfjeoldgcepnaaGreatDoor

/- slices.Sort, Compact, BinarySearch, Max and Min at []int as they stand in this program: the tables of numbers under which the library's contracts hold here. -/
namespace Go.Proofs.YtpfjeoldgcepnaaGreatDoor
set_option linter.unusedSimpArgs false
open Go.Shelf
def Tryz.laysSort_ren : Go.Shelf.Ren := ⟨fun | 189 => 168 | 125 => 173 | 257 => 172 | 128 => 184 | 129 => 185 | 294 => 176 | 295 => 177 | 296 => 178 | 297 => 179 | 298 => 180 | 299 => 181 | 216 => 174 | 300 => 182 | 301 => 183 | 328 => 186 | 329 => 187 | 330 => 188 | 331 => 189 | 332 => 190 | 215 => 129 | 343 => 191 | n => n, fun | 28 => 140 | 3 => 3 | 46 => 241 | 0 => 0 | 51 => 251 | 53 => 57 | 4 => 4 | 183 => 245 | 182 => 244 | 131 => 236 | 5 => 5 | 9 => 9 | 218 => 253 | 222 => 257 | 228 => 259 | 229 => 38 | n => n, fun | n => n⟩
theorem Tryz.laysSort : Go.Proofs.Lays.n189 Tryz.prog Tryz.laysSort_ren := {
  mixed := by kernel_rfl
  f125 := Tryz.func173.trans (congrArg some (by kernel_rfl))
  f128 := Tryz.func184.trans (congrArg some (by kernel_rfl))
  f129 := Tryz.func185.trans (congrArg some (by kernel_rfl))
  f189 := Tryz.func168.trans (congrArg some (by kernel_rfl))
  f215 := Tryz.func129.trans (congrArg some (by kernel_rfl))
  f216 := Tryz.func174.trans (congrArg some (by kernel_rfl))
  f257 := Tryz.func172.trans (congrArg some (by kernel_rfl))
  f294 := Tryz.func176.trans (congrArg some (by kernel_rfl))
  f295 := Tryz.func177.trans (congrArg some (by kernel_rfl))
  f296 := Tryz.func178.trans (congrArg some (by kernel_rfl))
  f297 := Tryz.func179.trans (congrArg some (by kernel_rfl))
  f298 := Tryz.func180.trans (congrArg some (by kernel_rfl))
  f299 := Tryz.func181.trans (congrArg some (by kernel_rfl))
  f300 := Tryz.func182.trans (congrArg some (by kernel_rfl))
  f301 := Tryz.func183.trans (congrArg some (by kernel_rfl))
  f328 := Tryz.func186.trans (congrArg some (by kernel_rfl))
  f329 := Tryz.func187.trans (congrArg some (by kernel_rfl))
  f330 := Tryz.func188.trans (congrArg some (by kernel_rfl))
  f331 := Tryz.func189.trans (congrArg some (by kernel_rfl))
  f332 := Tryz.func190.trans (congrArg some (by kernel_rfl))
  f343 := Tryz.func191.trans (congrArg some (by kernel_rfl))
  t0 := Tryz.underlying0
  a0 := Tryz.isAgg0
  z0 := Tryz.sizeOf0
  v0 := Tryz.zeroValue0
  t3 := Tryz.underlying3
  a3 := Tryz.isAgg3
  z3 := Tryz.sizeOf3
  v3 := Tryz.zeroValue3
  t4 := Tryz.underlying4
  a4 := Tryz.isAgg4
  z4 := Tryz.sizeOf4
  v4 := Tryz.zeroValue4
  t5 := Tryz.underlying5
  a5 := Tryz.isAgg5
  z5 := Tryz.sizeOf5
  v5 := Tryz.zeroValue5
  t9 := Tryz.underlying9
  a9 := Tryz.isAgg9
  z9 := Tryz.sizeOf9
  v9 := Tryz.zeroValue9
  t28 := Tryz.underlying140
  a28 := Tryz.isAgg140
  z28 := Tryz.sizeOf140
  v28 := Tryz.zeroValue140
  t46 := Tryz.underlying241
  a46 := Tryz.isAgg241
  z46 := Tryz.sizeOf241
  v46 := Tryz.zeroValue241
  t51 := Tryz.underlying251
  a51 := Tryz.isAgg251
  z51 := Tryz.sizeOf251
  v51 := Tryz.zeroValue251
  t53 := Tryz.underlying57
  a53 := Tryz.isAgg57
  z53 := Tryz.sizeOf57
  v53 := Tryz.zeroValue57
  t131 := Tryz.underlying236
  a131 := Tryz.isAgg236
  z131 := Tryz.sizeOf236
  v131 := Tryz.zeroValue236
  t182 := Tryz.underlying244
  a182 := Tryz.isAgg244
  z182 := Tryz.sizeOf244
  v182 := Tryz.zeroValue244
  t183 := Tryz.underlying245
  a183 := Tryz.isAgg245
  z183 := Tryz.sizeOf245
  v183 := Tryz.zeroValue245
  t218 := Tryz.underlying253
  a218 := Tryz.isAgg253
  z218 := Tryz.sizeOf253
  v218 := Tryz.zeroValue253
  t222 := Tryz.underlying257
  a222 := Tryz.isAgg257
  z222 := Tryz.sizeOf257
  v222 := Tryz.zeroValue257
  t228 := Tryz.underlying259
  a228 := Tryz.isAgg259
  z228 := Tryz.sizeOf259
  v228 := Tryz.zeroValue259
  t229 := Tryz.underlying38
  a229 := Tryz.isAgg38
  z229 := Tryz.sizeOf38
  v229 := Tryz.zeroValue38 }
def Tryz.laysCompact_ren : Go.Shelf.Ren := ⟨fun | 20 => 169 | n => n, fun | 22 => 140 | 3 => 3 | 4 => 4 | 0 => 0 | n => n, fun | n => n⟩
theorem Tryz.laysCompact : Go.Proofs.Lays2.n20 Tryz.prog Tryz.laysCompact_ren := {
  mixed := by kernel_rfl
  f20 := Tryz.func169.trans (congrArg some (by kernel_rfl))
  t0 := Tryz.underlying0
  a0 := Tryz.isAgg0
  z0 := Tryz.sizeOf0
  v0 := Tryz.zeroValue0
  t3 := Tryz.underlying3
  a3 := Tryz.isAgg3
  z3 := Tryz.sizeOf3
  v3 := Tryz.zeroValue3
  t4 := Tryz.underlying4
  a4 := Tryz.isAgg4
  z4 := Tryz.sizeOf4
  v4 := Tryz.zeroValue4
  t22 := Tryz.underlying140
  a22 := Tryz.isAgg140
  z22 := Tryz.sizeOf140
  v22 := Tryz.zeroValue140
  i3 := by kernel_rfl }
def Tryz.laysSearch_ren : Go.Shelf.Ren := ⟨fun | 25 => 171 | 31 => 174 | 32 => 175 | 37 => 129 | n => n, fun | 22 => 140 | 3 => 3 | 4 => 4 | 40 => 241 | 0 => 0 | n => n, fun | n => n⟩
theorem Tryz.laysSearch : Go.Proofs.Lays2.n25 Tryz.prog Tryz.laysSearch_ren := {
  mixed := by kernel_rfl
  f25 := Tryz.func171.trans (congrArg some (by kernel_rfl))
  f31 := Tryz.func174.trans (congrArg some (by kernel_rfl))
  f32 := Tryz.func175.trans (congrArg some (by kernel_rfl))
  f37 := Tryz.func129.trans (congrArg some (by kernel_rfl))
  t0 := Tryz.underlying0
  a0 := Tryz.isAgg0
  z0 := Tryz.sizeOf0
  v0 := Tryz.zeroValue0
  t3 := Tryz.underlying3
  a3 := Tryz.isAgg3
  z3 := Tryz.sizeOf3
  v3 := Tryz.zeroValue3
  t4 := Tryz.underlying4
  a4 := Tryz.isAgg4
  z4 := Tryz.sizeOf4
  v4 := Tryz.zeroValue4
  t22 := Tryz.underlying140
  a22 := Tryz.isAgg140
  z22 := Tryz.sizeOf140
  v22 := Tryz.zeroValue140
  t40 := Tryz.underlying241
  a40 := Tryz.isAgg241
  z40 := Tryz.sizeOf241
  v40 := Tryz.zeroValue241 }
def Tryz.laysMax_ren : Go.Shelf.Ren := ⟨fun | 113 => 165 | n => n, fun | 28 => 140 | 3 => 3 | 4 => 4 | 9 => 9 | 20 => 20 | 0 => 0 | n => n, fun | n => n⟩
theorem Tryz.laysMax : Go.Proofs.Lays.n113 Tryz.prog Tryz.laysMax_ren := {
  mixed := by kernel_rfl
  f113 := Tryz.func165.trans (congrArg some (by kernel_rfl))
  t0 := Tryz.underlying0
  a0 := Tryz.isAgg0
  z0 := Tryz.sizeOf0
  v0 := Tryz.zeroValue0
  t3 := Tryz.underlying3
  a3 := Tryz.isAgg3
  z3 := Tryz.sizeOf3
  v3 := Tryz.zeroValue3
  t4 := Tryz.underlying4
  a4 := Tryz.isAgg4
  z4 := Tryz.sizeOf4
  v4 := Tryz.zeroValue4
  t9 := Tryz.underlying9
  a9 := Tryz.isAgg9
  z9 := Tryz.sizeOf9
  v9 := Tryz.zeroValue9
  t20 := Tryz.underlying20
  a20 := Tryz.isAgg20
  z20 := Tryz.sizeOf20
  v20 := Tryz.zeroValue20
  t28 := Tryz.underlying140
  a28 := Tryz.isAgg140
  z28 := Tryz.sizeOf140
  v28 := Tryz.zeroValue140 }
def Tryz.laysMin_ren : Go.Shelf.Ren := ⟨fun | 114 => 166 | n => n, fun | 28 => 140 | 3 => 3 | 4 => 4 | 9 => 9 | 20 => 20 | 0 => 0 | n => n, fun | n => n⟩
theorem Tryz.laysMin : Go.Proofs.Lays.n114 Tryz.prog Tryz.laysMin_ren := {
  mixed := by kernel_rfl
  f114 := Tryz.func166.trans (congrArg some (by kernel_rfl))
  t0 := Tryz.underlying0
  a0 := Tryz.isAgg0
  z0 := Tryz.sizeOf0
  v0 := Tryz.zeroValue0
  t3 := Tryz.underlying3
  a3 := Tryz.isAgg3
  z3 := Tryz.sizeOf3
  v3 := Tryz.zeroValue3
  t4 := Tryz.underlying4
  a4 := Tryz.isAgg4
  z4 := Tryz.sizeOf4
  v4 := Tryz.zeroValue4
  t9 := Tryz.underlying9
  a9 := Tryz.isAgg9
  z9 := Tryz.sizeOf9
  v9 := Tryz.zeroValue9
  t20 := Tryz.underlying20
  a20 := Tryz.isAgg20
  z20 := Tryz.sizeOf20
  v20 := Tryz.zeroValue20
  t28 := Tryz.underlying140
  a28 := Tryz.isAgg140
  z28 := Tryz.sizeOf140
  v28 := Tryz.zeroValue140 }
end Go.Proofs.YtpfjeoldgcepnaaGreatDoor

/- The zone that a pod is in, and a load's counts in each of some zones: the program's zoneOf and counts of layer 8. -/
namespace Go.Proofs.YtpfjeoldgcepnaaGreatDoor
set_option linter.unusedSimpArgs false
open Go.RowKit Go.Shelf
set_option linter.unusedVariables false

set_option maxHeartbeats 6400000 in
set_option maxRecDepth 100000 in
theorem zoneOf_any (ns : List NodeD) (p : PodD) (A1 : Option Addr) (n1 c1 : Nat) (s2 s3 : Value) (w : World) (hn1 : n1 = ns.length) (hl1 : n1 ≤ 1000) (hr1 : Recs 10 cellsN w w.heap.size A1 ns) :
    Calls Tryz.prog 170 #[.agg #[.slice A1 n1 c1, s2, s3], aggP p] w fun e w' => e = .returned (.tuple #[.int .i64 ((zoneD ns p).getD 0), .bool (zoneD ns p).isSome]) ∧ Below w.heap.size w w' := by
  have T0 := T2.new w [.slice A1 n1 c1, s2, s3] (cellsP p) 26 79
  have HF := Lib.hid (node_any ns p.node A1 n1 c1 s2 s3 _ hn1 hl1 ((hr1.below T0.below (Nat.le_refl _)).more T0.below.size))
  have HN1 := Lib.hid hn1
  have HT0 := Lib.hid T0
  clear hr1 hn1 T0
  go_enter Tryz.func170, Tryz.ntmps170
  by_cases h0 : p.node = 0
  · have hd : (p.node == 0) = true := by simp [h0]
    have HE := Lib.hid (zoneD_nowhere (ns := ns) h0)
    have kw := HT0.out.below
    clear h0
    go_wp2
    go_ret2
    exact ⟨by rw [HE.out]; rfl, kw⟩
  · have hd : (p.node == 0) = false := by simp [h0]
    have H0 := Lib.hid h0
    clear h0
    go_wp2_with fail
    refine HF.out.mono ?_
    rintro e w1 ⟨hh, hb1⟩
    have T1 := HT0.out.keep hb1
    clear hb1 HT0 HF
    rcases hh with ⟨hp, rfl⟩ | ⟨i, hi, hp, rfl⟩
    · have HE := Lib.hid (zoneD_none (ns := ns) hp)
      have kw := T1.below.alloc T1.below.size (.cells (cellsN ⟨0, 0, ⟨0, 0, 0, 0⟩, ⟨0, 0, 0, 0⟩⟩).toArray 63)
      clear hp T1
      go_wp2
      go_ret2
      exact ⟨by rw [HE.out]; rfl, kw⟩
    · have HE := Lib.hid (zoneD_some (ns := ns) H0.out hi hp)
      generalize ns[i] = x at *
      have kw := T1.below.alloc T1.below.size (.cells (cellsN x).toArray 63)
      clear hp T1
      go_wp2
      go_ret2
      exact ⟨by rw [HE.out]; rfl, kw⟩

/-- slices.BinarySearch of a row of numbers that rise. -/
theorem search_any (zs : List Int) (x : Int) (b o n c : Nat) (w : World) (hn : n = zs.length) (hl : n ≤ 1000) (hr : Rising zs) (hc : ∀ j, j < zs.length → w.cell? ⟨b, o + j, none⟩ = some (.int .i64 (zs.getD j 0))) :
    Calls Tryz.prog 171 #[.slice (some ⟨b, o, none⟩) n c, .int .i64 x] w fun e w' => e = .returned (.tuple #[.int .i64 (zs.countP (· < x) : Nat), .bool (zs.contains x)]) ∧ Below w.heap.size w w' := by
  have h := Any.slices_BinarySearch_int Tryz.laysSearch b o n c zs x w (by omega) (by omega) hc (by rw [hn, List.take_length]; exact rising_le hr)
  rw [hn, List.take_length] at h
  subst hn
  exact h.mono fun e w' ⟨h1, q, h2⟩ => ⟨h1, by rw [h2]; exact below_draws (Below.refl _ _) q⟩
theorem made_zero (n : Nat) : madeCells #[Value.int .i64 0] n = (i64s (List.replicate n 0)).toArray := by
  apply Array.ext'
  simp [madeCells, Nat.mod_one]
  exact List.ext_getElem (by simp) fun i h1 h2 => by simp
theorem T3.put {a b c : List Value} {w V : World} (h : T3 a b c w V) (i : Nat) (v : Value) : T3 a b (c.set i v) w (V.setCell ⟨w.heap.size + 2, i, none⟩ v) :=
  ⟨h.one.other (by simp) _, h.two.other (by simp) _, h.three.set i v, h.below.setCell (by simp) _⟩
theorem i64s_set (l : List Int) (i : Nat) (x : Int) : (i64s l).set i (.int .i64 x) = i64s (l.set i x) := by simp [i64s, List.map_set]
def CountRel (ns : List NodeD) (load : Int) (zs : List Int) (l : List PodD) (a b : List Value) (w : World) (i : Value) (wr : World) : Prop := ∃ k : Nat, k ≤ l.length ∧ i = .int .i64 k ∧ T3 a b (i64s (countsD ns load zs (l.take k))) w wr
/-- The counts, in new memory. -/
def CountTo (ns : List NodeD) (load : Int) (zs : List Int) (l : List PodD) (n : Nat) (w : World) (e : Ending) (w' : World) : Prop := ∃ g, e = .returned (.slice (some ⟨g, 0, none⟩) n n) ∧ w.heap.size ≤ g ∧ Bf w' g (i64s (countsD ns load zs l)) ∧ Below w.heap.size w w'

set_option maxHeartbeats 12800000 in
set_option maxRecDepth 100000 in
theorem counts_any (ns : List NodeD) (l : List PodD) (load : Int) (zs : List Int) (A1 A4 : Option Addr) (n1 c1 n4 c4 bz oz nz cz : Nat) (s2 s3 v1 v2 : Value) (w : World)
    (hn1 : n1 = ns.length) (hl1 : n1 ≤ 400) (hr1 : Recs 10 cellsN w w.heap.size A1 ns) (hn4 : n4 = l.length) (hl4 : n4 ≤ 400) (hr4 : Recs 8 cellsP w w.heap.size A4 l)
    (hnz : nz = zs.length) (hlz : nz ≤ 1000) (hrz : Rising zs) (hbz : bz < w.heap.size) (hcz : ∀ j, j < zs.length → w.cell? ⟨bz, oz + j, none⟩ = some (.int .i64 (zs.getD j 0))) :
    Calls Tryz.prog 164 #[.agg #[.slice A1 n1 c1, s2, s3], .agg #[.slice A4 n4 c4, v1, v2], .int .i64 load, .slice (some ⟨bz, oz, none⟩) nz cz] w (CountTo ns load zs l nz w) := by
  have T0 := T3.new w [.slice A1 n1 c1, s2, s3] [.slice A4 n4 c4, v1, v2] (i64s (List.replicate nz 0)) 26 42 3
  have HN4 := Lib.hid hn4
  have HR4 := Lib.hid hr4
  have HNZ := Lib.hid hnz
  have HRZ := Lib.hid hrz
  have HZO := Lib.hid (fun (V : World) (hV : Below w.heap.size w V) (p : PodD) => zoneOf_any ns p A1 n1 c1 s2 s3 V hn1 (by omega) ((hr1.below hV (Nat.le_refl _)).more hV.size))
  have HSE := Lib.hid (fun (V : World) (hV : Below w.heap.size w V) (x : Int) => search_any zs x bz oz nz cz V hnz hlz hrz (fun j hj => (hV.cell (p := ⟨bz, oz + j, none⟩) hbz).trans (hcz j hj)))
  have HT0 := Lib.hid T0
  have hmk : ∀ w : World, (Instr.makeSlice 140 (.int .i64 (nz : Int)) (.int .i64 (nz : Int))).run Tryz.prog w = .ok (.slice (some ⟨w.heap.size, 0, none⟩) nz nz) (w.alloc (.cells (i64s (List.replicate nz 0)).toArray 3)) := fun w => by
    rw [← made_zero]
    exact run_make_row' 140 3 (.int .i64 0) 8 Tryz.underlying140 Tryz.info3 rfl .i64 .i64 nz (by omega) (by omega) w
  clear hr1 hn1 hr4 hn4 hnz hrz hcz T0
  go_enter Tryz.func164, Tryz.ntmps164
  go_wp2
  go_loopw [22] (CountRel ns load zs l [.slice A1 n1 c1, s2, s3] [.slice A4 n4 c4, v1, v2] w) (fun i _ => n4 - (intOf i).toNat)
  case atStart => exact ⟨0, by omega, rfl, by rw [counts_zero, ← HNZ.out]; have h := HT0.out; simp only [i64s, List.map_replicate, List.toArray_replicate] at h ⊢; exact h⟩
  case round =>
    obtain ⟨k, hk, rfl, T1⟩ := hrel
    have HT1 := Lib.hid T1
    clear hmk
    by_cases hlt : k < n4
    · have hkl : k < l.length := by have := HN4.out; omega
      have kwr := T1.below
      obtain ⟨b, o, rfl, hb, he⟩ := HR4.out.at hkl
      generalize hx : l[k] = p at *
      have HX := Lib.hid hx
      clear hx
      have e0 : wr.cell? ⟨b, o + k * 8, none⟩ = some (.int .i64 p.id) := (kwr.cell (p := ⟨b, o + k * 8, none⟩) hb).trans (he 0 _ rfl)
      have e1 : wr.cell? ⟨b, o + k * 8 + 1, none⟩ = some (.int .i64 p.load) := (kwr.cell (p := ⟨b, o + k * 8 + 1, none⟩) hb).trans (he 1 _ rfl)
      have e2 : wr.cell? ⟨b, o + k * 8 + 2, none⟩ = some (.int .i64 p.prio) := (kwr.cell (p := ⟨b, o + k * 8 + 2, none⟩) hb).trans (he 2 _ rfl)
      have e3 : wr.cell? ⟨b, o + k * 8 + 3, none⟩ = some (.int .u64 p.req.a) := (kwr.cell (p := ⟨b, o + k * 8 + 3, none⟩) hb).trans (he 3 _ rfl)
      have e4 : wr.cell? ⟨b, o + k * 8 + 4, none⟩ = some (.int .u64 p.req.b) := (kwr.cell (p := ⟨b, o + k * 8 + 4, none⟩) hb).trans (he 4 _ rfl)
      have e5 : wr.cell? ⟨b, o + k * 8 + 5, none⟩ = some (.int .u64 p.req.c) := (kwr.cell (p := ⟨b, o + k * 8 + 5, none⟩) hb).trans (he 5 _ rfl)
      have e6 : wr.cell? ⟨b, o + k * 8 + 6, none⟩ = some (.int .u64 p.req.d) := (kwr.cell (p := ⟨b, o + k * 8 + 6, none⟩) hb).trans (he 6 _ rfl)
      have e7 : wr.cell? ⟨b, o + k * 8 + 7, none⟩ = some (.int .i64 p.node) := (kwr.cell (p := ⟨b, o + k * 8 + 7, none⟩) hb).trans (he 7 _ rfl)
      have hbw : b < wr.heap.size := Nat.lt_of_lt_of_le hb kwr.size
      obtain ⟨a0, a1, a2, a3⟩ := T1.one.cells3
      have TW := T1.alloc (.cells #[.int .i64 p.id, .int .i64 p.load, .int .i64 p.prio, .int .u64 p.req.a, .int .u64 p.req.b, .int .u64 p.req.c, .int .u64 p.req.d, .int .i64 p.node] 79)
      have HTW := Lib.hid TW
      clear he T1 kwr
      by_cases hload : p.load = load
      · have hd : (p.load != load) = false := by simp [hload]
        have HL := Lib.hid hload
        have HZW := Lib.hid (HZO.out _ TW.below p)
        clear hload TW
        go_wp2_with fail
        refine HZW.out.mono ?_
        rintro e w2 ⟨rfl, hb2⟩
        have HT2 := Lib.hid (HTW.out.keep hb2)
        clear hb2 HZW HTW e0 e1 e2 e3 e4 e5 e6 e7 a0 a1 a2 a3 hd
        rcases hz : zoneD ns p with _ | z
        · have HN := Lib.hid (counts_skip (ns := ns) (load := load) (zs := zs) hkl HX.out (fun z _ => inZ_none hz))
          clear hz
          go_wp2
          go_roundw
          case rel => exact ⟨k + 1, by omega, by go_num, by rw [HN.out]; exact HT2.out⟩
          case measure => simp [intOf]; omega
        · have HSW := Lib.hid (HSE.out _ HT2.out.below z)
          cases hm : zs.contains z with
          | false =>
            have HN := Lib.hid (counts_skip (ns := ns) (load := load) (zs := zs) hkl HX.out (fun y hy => inZ_other hz (fun q => by rw [q] at hm; simp at hm; exact hm hy)))
            rw [hm] at HSW
            clear hz hm
            go_wp2_with fail
            refine HSW.out.mono ?_
            rintro e w3 ⟨rfl, hb3⟩
            have HT3 := Lib.hid (HT2.out.keep hb3)
            clear hb3 HSW
            go_wp2
            go_roundw
            case rel => exact ⟨k + 1, by omega, by go_num, by rw [HN.out]; exact HT3.out⟩
            case measure => simp [intOf]; omega
          | true =>
            have HN := Lib.hid (counts_bump (ns := ns) (load := load) (zs := zs) hkl HX.out HL.out hz HRZ.out (by simpa using hm))
            have hcl := count_le ns load z (l.take k)
            rw [List.length_take] at hcl
            rw [hm] at HSW
            clear hz hm
            generalize hi : zs.countP (· < z) = i at *
            generalize hcc : countD ns load z (l.take k) = cc at *
            clear hi hcc
            have hin : (i : Int) < (nz : Int) := by have := HN.out.1; have := HNZ.out; omega
            have hi0 : (0 : Int) ≤ (i : Int) := by omega
            have hcc : (cc : Int) ≤ 1000 := by omega
            have hcc0 : (0 : Int) ≤ (cc : Int) := by omega
            clear hcl
            go_wp2_with fail
            refine HSW.out.mono ?_
            rintro e w3 ⟨rfl, hb3⟩
            have T3' := HT2.out.keep hb3
            have HT3 := Lib.hid T3'
            have g0 : w3.cell? ⟨w.heap.size + 2, i, none⟩ = some (.int .i64 cc) := T3'.three.cell i _ (by rw [List.getElem?_map, HN.out.2.1]; rfl)
            have g1 : w3.frozen? ⟨w.heap.size + 2, i, none⟩ = false := T3'.three.frozen i
            have g2 : w.heap.size + 2 < w3.heap.size := T3'.three.lt
            clear hb3 HSW T3'
            go_wp2
            go_roundw
            case rel => exact ⟨k + 1, by omega, by go_num, by rw [HN.out.2.2, ← i64s_set]; exact HT3.out.put i _⟩
            case measure => simp [intOf]; omega
      · have hd : (p.load != load) = true := by simp [hload]
        have HN := Lib.hid (counts_skip (ns := ns) (load := load) (zs := zs) hkl HX.out (fun z _ => inZ_load hload))
        clear hload TW
        go_wp2
        go_roundw
        case rel => exact ⟨k + 1, by omega, by go_num, by rw [HN.out]; exact HTW.out⟩
        case measure => simp [intOf]; omega
    · have HK : Hid (l.take k = l) := List.take_of_length_le (by have := HN4.out; omega)
      clear T1
      go_wp2
      go_ret
      exact ⟨w.heap.size + 2, rfl, by omega, by have := HT1.out.three; rw [HK.out] at this; exact this, HT1.out.below⟩
end Go.Proofs.YtpfjeoldgcepnaaGreatDoor

namespace Go.Proofs.YtpfjeoldgcepnaaGreatDoor
set_option linter.unusedSimpArgs false
open Go.RowKit Go.Shelf Go.Sort
set_option linter.unusedVariables false

theorem slice_shape {w : World} {B : Nat} {v : Value} {zs : List Int} (h : w.ownsRow B 3 1 v zs.length (i64s zs)) : (v = .slice none 0 0 ∧ zs = []) ∨ ∃ g cap cur, v = .slice (some ⟨g, 0, none⟩) zs.length cap ∧ B ≤ g ∧ w.heap[g]? = some (.cells cur 3 (0, 0)) ∧ zs.length ≤ cap ∧ cap ≤ maxLen ∧ cur.size = cap * 1 ∧ cur.toList.take zs.length = i64s zs := by
  rcases h.2 with ⟨h1, h2⟩ | ⟨g, cap, cur, h1, h2, h3, h4, h5, h6, h7⟩
  · exact .inl ⟨h1, List.eq_nil_of_length_eq_zero h2⟩
  · exact .inr ⟨g, cap, cur, h1, h2, h3, h4, h5, h6, by rw [Nat.mul_one] at h7; exact h7⟩
theorem sort_own : SortOwn := by
  intro B v zs w hB hown hl
  rcases slice_shape hown with ⟨rfl, rfl⟩ | ⟨g, cap, cur, rfl, hbase, hb, h1, h2, h3, h4⟩
  · exact (Any.slices_Sort_int_none Tryz.laysSort none 0 w).mono fun e w' ⟨he, hw⟩ => ⟨he, by subst hw; rw [show sortI [] = [] by simp [sortI]]; exact hown, by subst hw; exact Below.refl _ _⟩
  · have hgl : g < w.heap.size := (Array.getElem?_eq_some_iff.1 hb).1
    refine (Any.slices_Sort_int Tryz.laysSort g 0 cap zs w (holds_of_blockI hb h4) hgl (by omega)).mono fun e w' ⟨he, n, os, hw⟩ => ⟨he, ?_, ?_⟩
    · subst hw
      exact ownsRow_sortedI (ss := zs) (ts := sortI zs) (List.length_mergeSort zs) hbase hb h1 h2 h3
    · subst hw
      exact (Below.refl B w).grown (grownBy_sortedI _) hB (fun j hj => by cases hj; exact hbase)
theorem comp_own : CompOwn := by
  intro B v zs w hB hown hl
  rcases slice_shape hown with ⟨rfl, rfl⟩ | ⟨g, cap, cur, rfl, hbase, hb, h1, h2, h3, h4⟩
  · exact (Any.slices_Compact_int_empty Tryz.laysCompact none 0 w).mono fun e w' ⟨he, hw⟩ => ⟨_, he, by subst hw; exact hown, by subst hw; exact Below.refl _ _⟩
  · refine (Any.slices_Compact_int Tryz.laysCompact g 0 cap zs w (holds_of_blockI hb h4) (by omega) h1).mono fun e w' ⟨he, q, hw⟩ => ⟨_, he, ?_, ?_⟩
    · subst hw
      have hle : (Lib.compact zs).length ≤ zs.length := Lib.compact_length_le zs
      have hc := Lib.ownsRow_putRow (enc := Value.int .i64) (q := q) (k := (Lib.compact zs).length) (ys := Lib.compact zs ++ List.replicate (zs.length - (Lib.compact zs).length) 0) hown (by simp; omega) hle
      rw [List.take_left] at hc
      exact hc
    · subst hw
      exact Lib.below_putRow (Below.refl _ _) hbase
end Go.Proofs.YtpfjeoldgcepnaaGreatDoor
