/- Joined texts, part 13: NJ UE UL ZP ZC ZW NK. -/
import Derived.Test.YtkipfalolfleaaaGreatDoorZ11
import Derived.Test.YtkipfalolfleaaaGreatDoorZ03
import Derived.Test.YtkipfalolfleaaaGreatDoorZ07
import Derived.Test.YtkipfalolfleaaaGreatDoorZ01
import Derived.Deep.QuietTactic
import Derived.BigQuiet
import Derived.Test.YtkipfalolfleaaaGreatDoorZ02
import Derived.Test.YtkipfalolfleaaaGreatDoorZ12
import Derived.Test.YtkipfalolfleaaaGreatDoorZ09
import Derived.Test.YtkipfalolfleaaaGreatDoorZ05
import Derived.Deep.RegionHeld3
import Derived.Deep.CutRange
import Derived.Test.YtkipfalolfleaaaGreatDoorZ06

/- How far it is: the program's met and Far of layer 18. -/
namespace Go.Proofs.YtkipfalolfleaaaGreatDoor
set_option linter.unusedSimpArgs false
open Go.RowKit
set_option linter.unusedVariables false

theorem metClosure_any (x : PodD) (id : Int) (g : Nat) (w : World) (h0 : w.cell? ⟨g, 0, none⟩ = some (.int .i64 id)) :
    Calls Tryz.prog 18 #[aggP x, .pointer (some ⟨g, 0, none⟩)] w fun e w' => e = .returned (.bool (x.id == id)) ∧ Below w.heap.size w w' := by
  have hg : g < w.heap.size := World.block_lt_of_cell? w _ h0
  go_enter Tryz.func18, Tryz.ntmps18
  go_wp2
  go_ret
  exact ⟨rfl, (Below.refl _ _).alloc (Nat.le_refl _) _⟩

set_option maxHeartbeats 3200000 in
set_option maxRecDepth 100000 in
theorem metIndex_any (l : List PodD) (id : Int) (g : Nat) (A : Option Addr) (n c : Nat) (w : World) (hn : n = l.length) (hl : n ≤ 1000) (hr : Recs 8 cellsP w w.heap.size A l) (h0 : w.cell? ⟨g, 0, none⟩ = some (.int .i64 id)) :
    Calls Tryz.prog 17 #[.slice A n c, .func (.func 18) #[] #[.pointer (some ⟨g, 0, none⟩)]] w fun e w' => e = .returned (.int .i64 (place PodD.id id l 0)) ∧ Below w.heap.size w w' := by
  have hg : g < w.heap.size := World.block_lt_of_cell? w _ h0
  have HR := Lib.hid hr
  have HN := Lib.hid hn
  have H0 := Lib.hid h0
  clear hr hn h0
  go_enter Tryz.func17, Tryz.ntmps17
  go_wp2
  go_loopw [8] (FRel PodD.id id l w w.heap.size) (fun i _ => n - (intOf i).toNat)
  case atStart => exact ⟨0, by omega, rfl, rfl, Below.refl _ _⟩
  case round =>
    obtain ⟨k, hk, rfl, hp, hbr⟩ := hrel
    have HP := Lib.hid hp
    have hzr := hbr.size
    clear hp
    by_cases hlt : k < n
    · have hkl : k < l.length := by have := HN.out; omega
      obtain ⟨b, o, rfl, hb, he⟩ := HR.out.at hkl
      generalize hx : l[k] = x at *
      have HX := Lib.hid hx
      clear hx
      have e0 : wr.cell? ⟨b, o + k * 8, none⟩ = some (.int .i64 x.id) := (hbr.cell (p := ⟨b, o + k * 8, none⟩) hb).trans (he 0 _ rfl)
      have e1 : wr.cell? ⟨b, o + k * 8 + 1, none⟩ = some (.int .i64 x.load) := (hbr.cell (p := ⟨b, o + k * 8 + 1, none⟩) hb).trans (he 1 _ rfl)
      have e2 : wr.cell? ⟨b, o + k * 8 + 2, none⟩ = some (.int .i64 x.prio) := (hbr.cell (p := ⟨b, o + k * 8 + 2, none⟩) hb).trans (he 2 _ rfl)
      have e3 : wr.cell? ⟨b, o + k * 8 + 3, none⟩ = some (.int .u64 x.req.a) := (hbr.cell (p := ⟨b, o + k * 8 + 3, none⟩) hb).trans (he 3 _ rfl)
      have e4 : wr.cell? ⟨b, o + k * 8 + 4, none⟩ = some (.int .u64 x.req.b) := (hbr.cell (p := ⟨b, o + k * 8 + 4, none⟩) hb).trans (he 4 _ rfl)
      have e5 : wr.cell? ⟨b, o + k * 8 + 5, none⟩ = some (.int .u64 x.req.c) := (hbr.cell (p := ⟨b, o + k * 8 + 5, none⟩) hb).trans (he 5 _ rfl)
      have e6 : wr.cell? ⟨b, o + k * 8 + 6, none⟩ = some (.int .u64 x.req.d) := (hbr.cell (p := ⟨b, o + k * 8 + 6, none⟩) hb).trans (he 6 _ rfl)
      have e7 : wr.cell? ⟨b, o + k * 8 + 7, none⟩ = some (.int .i64 x.node) := (hbr.cell (p := ⟨b, o + k * 8 + 7, none⟩) hb).trans (he 7 _ rfl)
      have hbw : b < wr.heap.size := by omega
      have hgc : wr.cell? ⟨g, 0, none⟩ = some (.int .i64 id) := (hbr.cell (p := ⟨g, 0, none⟩) hg).trans H0.out
      clear he
      go_wp2_with fail
      go_at_call 18
      refine (metClosure_any x id g _ hgc).mono ?_
      rintro e w1 ⟨rfl, hb1⟩
      have k1 : Below w.heap.size w w1 := hbr.trans (hb1.mono hzr)
      by_cases hid : x.id = id
      · have HE := Lib.hid (place_found hkl (by rw [HX.out]; exact hid) HP.out)
        have hd : (x.id == id) = true := by simp [hid]
        clear hid
        go_wp2
        go_ret
        exact ⟨ret_int HE.out.symm, k1⟩
      · have HE := Lib.hid (place_step hkl (by rw [HX.out]; exact hid) HP.out)
        have hd : (x.id == id) = false := by simp [hid]
        clear hid
        go_wp2
        go_roundw
        case rel => exact ⟨k + 1, by omega, by go_num, HE.out, k1⟩
        case measure => simp [intOf]; omega
    · have HE := Lib.hid (place_end (by have := HN.out; omega) HP.out)
      go_wp2
      go_ret
      exact ⟨ret_int HE.out.symm, hbr⟩


set_option maxHeartbeats 3200000 in
set_option maxRecDepth 100000 in
theorem met_any (l : List PodD) (x : WantD) (A : Option Addr) (n c : Nat) (v1 v2 : Value) (w : World) (hn : n = l.length) (hl : n ≤ 1000) (hr : Recs 8 cellsP w w.heap.size A l) :
    Calls Tryz.prog 11 #[.agg #[.slice A n c, v1, v2], aggW x] w fun e w' => e = .returned (.bool (metD l x)) ∧ Below w.heap.size w w' := by
  have T0 := T2.new w [.slice A n c, v1, v2] [.int .i64 x.pod, .int .u64 x.req.a, .int .u64 x.req.b, .int .u64 x.req.c, .int .u64 x.req.d, .bool x.stay] 31 40
  have HI := Lib.hid (metIndex_any l x.pod (w.heap.size + 1) A n c _ hn hl ((hr.below T0.below (Nat.le_refl _)).more T0.below.size) (T0.two.cell 0 _ rfl))
  have HR := Lib.hid hr
  have HN := Lib.hid hn
  have HT := Lib.hid T0
  obtain ⟨z, hz⟩ : ∃ z, place PodD.id x.pod l 0 = z := ⟨_, rfl⟩
  rw [hz] at HI
  have HZ := Lib.hid hz
  clear hr hn T0 hz
  by_cases hneg : z < 0
  · have HE := Lib.hid (met_none (by rw [HZ.out]; exact hneg))
    have hd : decide (z < 0) = true := decide_eq_true hneg
    clear hneg
    go_enter Tryz.func11, Tryz.ntmps11
    go_wp2_with fail
    refine HI.out.mono ?_
    rintro e w1 ⟨rfl, hb1⟩
    have kw := (HT.out.keep hb1).below
    clear hb1 HI HT
    go_wp2
    go_ret
    exact ⟨ret_bool HE.out.symm, kw⟩
  · obtain ⟨i, hi, hp⟩ := place_hit (by rw [HZ.out]; exact hneg)
    obtain rfl : z = (i : Int) := HZ.out.symm.trans hp
    have hd : decide ((i : Int) < 0) = false := decide_eq_false hneg
    have HM := Lib.hid (met_some (w := x) hi hp rfl)
    obtain ⟨b, o, rfl, hb, he⟩ := HR.out.at hi
    have hin : i < n := by have := HN.out; omega
    generalize l[i] = p at *
    clear hneg hp HZ hi
    go_enter Tryz.func11, Tryz.ntmps11
    go_wp2_with fail
    refine HI.out.mono ?_
    rintro e w1 ⟨rfl, hb1⟩
    have T1 := HT.out.keep hb1
    have HK := Lib.hid T1.below
    have e0 : w1.cell? ⟨b, o + i * 8, none⟩ = some (.int .i64 p.id) := (T1.below.cell (p := ⟨b, o + i * 8, none⟩) hb).trans (he 0 _ rfl)
    have e1 : w1.cell? ⟨b, o + i * 8 + 1, none⟩ = some (.int .i64 p.load) := (T1.below.cell (p := ⟨b, o + i * 8 + 1, none⟩) hb).trans (he 1 _ rfl)
    have e2 : w1.cell? ⟨b, o + i * 8 + 2, none⟩ = some (.int .i64 p.prio) := (T1.below.cell (p := ⟨b, o + i * 8 + 2, none⟩) hb).trans (he 2 _ rfl)
    have e3 : w1.cell? ⟨b, o + i * 8 + 3, none⟩ = some (.int .u64 p.req.a) := (T1.below.cell (p := ⟨b, o + i * 8 + 3, none⟩) hb).trans (he 3 _ rfl)
    have e4 : w1.cell? ⟨b, o + i * 8 + 4, none⟩ = some (.int .u64 p.req.b) := (T1.below.cell (p := ⟨b, o + i * 8 + 4, none⟩) hb).trans (he 4 _ rfl)
    have e5 : w1.cell? ⟨b, o + i * 8 + 5, none⟩ = some (.int .u64 p.req.c) := (T1.below.cell (p := ⟨b, o + i * 8 + 5, none⟩) hb).trans (he 5 _ rfl)
    have e6 : w1.cell? ⟨b, o + i * 8 + 6, none⟩ = some (.int .u64 p.req.d) := (T1.below.cell (p := ⟨b, o + i * 8 + 6, none⟩) hb).trans (he 6 _ rfl)
    have e7 : w1.cell? ⟨b, o + i * 8 + 7, none⟩ = some (.int .i64 p.node) := (T1.below.cell (p := ⟨b, o + i * 8 + 7, none⟩) hb).trans (he 7 _ rfl)
    have hbw : b < w1.heap.size := by have := T1.below.size; omega
    obtain ⟨a0, a1, a2, a3⟩ := T1.one.cells3
    have c1 : w1.cell? ⟨w.heap.size + 1, 1, none⟩ = some (.int .u64 x.req.a) := T1.two.cell 1 _ rfl
    have c2 : w1.cell? ⟨w.heap.size + 1, 2, none⟩ = some (.int .u64 x.req.b) := T1.two.cell 2 _ rfl
    have c3 : w1.cell? ⟨w.heap.size + 1, 3, none⟩ = some (.int .u64 x.req.c) := T1.two.cell 3 _ rfl
    have c4 : w1.cell? ⟨w.heap.size + 1, 4, none⟩ = some (.int .u64 x.req.d) := T1.two.cell 4 _ rfl
    have c5 : w1.cell? ⟨w.heap.size + 1, 5, none⟩ = some (.bool x.stay) := T1.two.cell 5 _ rfl
    have hlt := T1.two.lt
    have hve := fun v => vec_is p.req x.req v
    clear he hb1 T1 HI HT
    cases hs : x.stay with
    | true =>
      rw [hs] at c5
      by_cases h0 : p.node = 0
      · have hd : (p.node != 0) = false := by simp [h0]
        have HE : Hid (metD l x = false) := by rw [hs] at HM; show _ = _; rw [HM.out]; simp [h0]
        clear h0 hs HM hve
        go_wp2
        go_ret
        exact ⟨ret_bool HE.out.symm, HK.out.alloc HK.out.size _⟩
      · have hd : (p.node != 0) = true := by simp [h0]
        have HE : Hid (metD l x = vecEq p.req x.req) := by rw [hs] at HM; show _ = _; rw [HM.out]; simp [h0]
        clear h0 hs HM
        generalize vecEq p.req x.req = q at *
        go_wp2
        go_ret
        exact ⟨ret_bool HE.out.symm, HK.out.alloc HK.out.size _⟩
    | false =>
      rw [hs] at c5
      have HE : Hid (metD l x = (p.node == 0)) := by rw [hs] at HM; show _ = _; rw [HM.out]; rfl
      clear hs HM hve
      go_wp2
      go_ret
      exact ⟨ret_bool HE.out.symm, HK.out.alloc HK.out.size _⟩

def FarRel (x : List WantD) (l : List PodD) (a b : List Value) (w : World) (v i : Value) (wr : World) : Prop := ∃ k : Nat, k ≤ x.length ∧ v = .int .i64 (unmetD (x.take k) l : Nat) ∧ i = .int .i64 k ∧ T2 a b w wr
set_option maxHeartbeats 3200000 in
set_option maxRecDepth 100000 in
theorem far_any (x : List WantD) (l : List PodD) (A A' : Option Addr) (n c n' c' : Nat) (v1 v2 u1 u2 : Value) (w : World) (hn : n = x.length) (hl : n ≤ 1000) (hn' : n' = l.length) (hl' : n' ≤ 1000) (hr : Recs 6 cellsW w w.heap.size A x) (hr' : Recs 8 cellsP w w.heap.size A' l) :
    Calls Tryz.prog 6 #[.agg #[.slice A n c, v1, v2], .agg #[.slice A' n' c', u1, u2]] w fun e w' => e = .returned (.int .i64 (farD x l : Nat)) ∧ Below w.heap.size w w' := by
  have HR := Lib.hid hr
  have HN := Lib.hid hn
  have HM := Lib.hid (fun (y : WantD) (V : World) (hV : Below w.heap.size w V) => met_any l y A' n' c' u1 u2 V hn' hl' ((hr'.below hV (Nat.le_refl _)).more hV.size))
  have T0 := T2.new w [.slice A n c, v1, v2] [.slice A' n' c', u1, u2] 29 31
  clear hr hn hr' hn'
  go_enter Tryz.func6, Tryz.ntmps6
  go_wp2
  go_loopw [5, 11] (FarRel x l [.slice A n c, v1, v2] [.slice A' n' c', u1, u2] w) (fun _ i _ => n - (intOf i).toNat)
  case atStart => exact ⟨0, by omega, rfl, rfl, T0⟩
  case round =>
    obtain ⟨k, hk, rfl, rfl, T1⟩ := hrel
    have kwr := T1.below
    have HUL : Hid (unmetD (x.take k) l ≤ 1000) := by
      have h1 := unmet_le (x.take k) l
      rw [List.length_take] at h1
      have h2 := HN.out
      show _ ≤ _
      omega
    have hul := HUL.out
    clear T0
    by_cases hlt : k < n
    · have hkl : k < x.length := by have := HN.out; omega
      obtain ⟨b, o, rfl, hb, he⟩ := HR.out.at hkl
      generalize hxx : x[k] = y at *
      have HE := Lib.hid (unmet_next (l := l) hkl hxx)
      generalize unmetD (x.take k) l = u at *
      have e0 : wr.cell? ⟨b, o + k * 6, none⟩ = some (.int .i64 y.pod) := (kwr.cell (p := ⟨b, o + k * 6, none⟩) hb).trans (he 0 _ rfl)
      have e1 : wr.cell? ⟨b, o + k * 6 + 1, none⟩ = some (.int .u64 y.req.a) := (kwr.cell (p := ⟨b, o + k * 6 + 1, none⟩) hb).trans (he 1 _ rfl)
      have e2 : wr.cell? ⟨b, o + k * 6 + 2, none⟩ = some (.int .u64 y.req.b) := (kwr.cell (p := ⟨b, o + k * 6 + 2, none⟩) hb).trans (he 2 _ rfl)
      have e3 : wr.cell? ⟨b, o + k * 6 + 3, none⟩ = some (.int .u64 y.req.c) := (kwr.cell (p := ⟨b, o + k * 6 + 3, none⟩) hb).trans (he 3 _ rfl)
      have e4 : wr.cell? ⟨b, o + k * 6 + 4, none⟩ = some (.int .u64 y.req.d) := (kwr.cell (p := ⟨b, o + k * 6 + 4, none⟩) hb).trans (he 4 _ rfl)
      have e5 : wr.cell? ⟨b, o + k * 6 + 5, none⟩ = some (.bool y.stay) := (kwr.cell (p := ⟨b, o + k * 6 + 5, none⟩) hb).trans (he 5 _ rfl)
      have hbw : b < wr.heap.size := by have := kwr.size; omega
      have TV := T1.alloc (.cells #[.int .i64 y.pod, .int .u64 y.req.a, .int .u64 y.req.b, .int .u64 y.req.c, .int .u64 y.req.d, .bool y.stay] 40)
      have HTV := Lib.hid TV
      have HMV := Lib.hid (HM.out y _ TV.below)
      obtain ⟨a0, a1, a2, a3⟩ := TV.two.cells3
      clear he hxx T1 TV kwr HM
      go_wp2_with fail
      refine HMV.out.mono ?_
      rintro e w5 ⟨rfl, hb5⟩
      have HT5 := Lib.hid (HTV.out.keep hb5)
      clear hb5 e0 e1 e2 e3 e4 e5 a0 a1 a2 a3 HTV HMV
      cases hm : metD l y with
      | true =>
        rw [hm] at HE
        go_wp2
        go_roundw
        case rel => exact ⟨k + 1, by omega, by rw [HE.out]; rfl, by go_num, HT5.out⟩
        case measure => simp [intOf]; omega
      | false =>
        rw [hm] at HE
        go_wp2
        go_roundw
        case rel => exact ⟨k + 1, by omega, by rw [HE.out]; go_num, by go_num, HT5.out⟩
        case measure => simp [intOf]; omega
    · have HK : Hid (unmetD (x.take k) l = unmetD x l) := by show _ = _; rw [List.take_of_length_le (by have := HN.out; omega)]
      rw [HK.out] at hul ⊢
      have HF : Hid (((unmetD x l : Nat) : Int) - ((unmetD x l : Nat) : Int) / 2 = ((farD x l : Nat) : Int)) := by
        show _ = _
        unfold farD
        omega
      generalize unmetD x l = u at *
      clear HK HUL
      go_wp2
      go_ret
      exact ⟨ret_int HF.out, kwr⟩
end Go.Proofs.YtkipfalolfleaaaGreatDoor

/- The reference's Place and Goal of layer 5. -/
namespace Go.Proofs.YtkipfalolfleaaaGreatDoor
set_option linter.unusedSimpArgs false
open Go.RowKit
set_option linter.unusedVariables false

set_option maxHeartbeats 800000 in
/-- dunnageref05.Place. -/
theorem rPlace05_any (l : List PodD) (id : Int) (A : Option Addr) (n c B : Nat) (v1 v2 : Value) (w : World) (hn : n = l.length) (hl : n ≤ 1000) (hB : B ≤ w.heap.size) (hr : Recs 8 cellsP w B A l) :
    Calls Tryz.prog 12 #[.agg #[.slice A n c, v1, v2], .int .i64 id] w fun e w' => e = .returned (.int .i64 (place PodD.id id l 0)) ∧ Below w.heap.size w w' := by
  have HR := Lib.hid hr
  have HL := Lib.hid hn
  clear hr hn
  go_enter Tryz.func12, Tryz.ntmps12
  go_wp2
  go_loop [5] (FindRel PodD.id id l) (fun i => n - (intOf i).toNat)
  case atStart => exact ⟨0, by omega, rfl, rfl⟩
  case round =>
    obtain ⟨k, hk, rfl, hp⟩ := hrel
    have HP := Lib.hid hp
    clear hp
    by_cases hlt : k < n
    · have hkl : k < l.length := by have := HL.out; omega
      obtain ⟨b, o, rfl, hb, hcell⟩ := HR.out.at hkl
      have hc : w.cell? ⟨b, o + k * 8, none⟩ = some (.int .i64 l[k].id) := hcell 0 _ rfl
      have hbl : b < w.heap.size := by omega
      clear hcell
      by_cases he : l[k].id = id
      · have HE := Lib.hid (place_here hkl he HP.out)
        obtain rfl := he
        go_wp2
        go_ret
        exact ⟨ret_int HE.out.symm, (Below.refl _ _).alloc (Nat.le_refl _) _⟩
      · have HE := Lib.hid (place_step hkl he HP.out)
        go_wp2
        go_round
        case rel => exact ⟨k + 1, by omega, by go_num, HE.out⟩
        case measure => simp [intOf]; omega
    · have HE := Lib.hid (place_end (by have := HL.out; omega) HP.out)
      go_wp2
      go_ret
      exact ⟨ret_int HE.out.symm, (Below.refl _ _).alloc (Nat.le_refl _) _⟩
set_option maxHeartbeats 6400000 in
set_option maxRecDepth 100000 in
/-- dunnageref05.Goal. -/
theorem rGoal05_any (x : List WantD) (l : List PodD) (A A' : Option Addr) (n c n' c' : Nat) (v1 v2 u1 u2 : Value) (w : World) (hn : n = x.length) (hl : n ≤ 1000) (hn' : n' = l.length) (hl' : n' ≤ 1000) (hr : Recs 6 cellsW w w.heap.size A x) (hr' : Recs 8 cellsP w w.heap.size A' l) :
    Calls Tryz.prog 7 #[.agg #[.slice A n c, v1, v2], .agg #[.slice A' n' c', u1, u2]] w fun e w' => e = .returned (.bool (goalD x l)) ∧ Below w.heap.size w w' := by
  have HR := Lib.hid hr
  have HN := Lib.hid hn
  have HR' := Lib.hid hr'
  have HN' := Lib.hid hn'
  have b00 := below_two w (.cells #[.slice A n c, v1, v2] 29) (.cells #[.slice A' n' c', u1, u2] 31)
  clear hr hn hr' hn'
  go_enter Tryz.func7, Tryz.ntmps7
  go_wp2
  go_loopw [5] (GoalRel x l ((w.alloc (.cells #[.slice A n c, v1, v2] 29)).alloc (.cells #[.slice A' n' c', u1, u2] 31)) (w.heap.size + 2)) (fun i _ => n - (intOf i).toNat)
  case atStart => exact ⟨0, by omega, rfl, rfl, Below.refl _ _⟩
  case round =>
    obtain ⟨k, hk, rfl, hg, hbr⟩ := hrel
    have HG := Lib.hid hg
    have kwr := b00.trans (hbr.mono (by omega))
    have hzr : w.heap.size + 2 ≤ wr.heap.size := by have := hbr.size; simpa using this
    obtain ⟨⟨b0, b1, b2⟩, b3, b4, b5⟩ := box2_cells hbr
    have hwl : w.heap.size < wr.heap.size := by omega
    have hwl1 : w.heap.size + 1 < wr.heap.size := by omega
    clear hg
    by_cases hlt : k < n
    · have hkl : k < x.length := by have := HN.out; omega
      obtain ⟨b, o, rfl, hb, he⟩ := HR.out.at hkl
      generalize hx : x[k] = y at *
      have HX := Lib.hid (goal_at hkl hx HG.out)
      clear hx
      have e0 : wr.cell? ⟨b, o + k * 6, none⟩ = some (.int .i64 y.pod) := (kwr.cell (p := ⟨b, o + k * 6, none⟩) hb).trans (he 0 _ rfl)
      have e1 : wr.cell? ⟨b, o + k * 6 + 1, none⟩ = some (.int .u64 y.req.a) := (kwr.cell (p := ⟨b, o + k * 6 + 1, none⟩) hb).trans (he 1 _ rfl)
      have e2 : wr.cell? ⟨b, o + k * 6 + 2, none⟩ = some (.int .u64 y.req.b) := (kwr.cell (p := ⟨b, o + k * 6 + 2, none⟩) hb).trans (he 2 _ rfl)
      have e3 : wr.cell? ⟨b, o + k * 6 + 3, none⟩ = some (.int .u64 y.req.c) := (kwr.cell (p := ⟨b, o + k * 6 + 3, none⟩) hb).trans (he 3 _ rfl)
      have e4 : wr.cell? ⟨b, o + k * 6 + 4, none⟩ = some (.int .u64 y.req.d) := (kwr.cell (p := ⟨b, o + k * 6 + 4, none⟩) hb).trans (he 4 _ rfl)
      have e5 : wr.cell? ⟨b, o + k * 6 + 5, none⟩ = some (.bool y.stay) := (kwr.cell (p := ⟨b, o + k * 6 + 5, none⟩) hb).trans (he 5 _ rfl)
      have hbw : b < wr.heap.size := by omega
      have hk0 : (0 : Int) ≤ (k : Int) := by omega
      have hk1 : (k : Int) < (n : Int) := by omega
      clear he
      have HC : Hid (∀ v : World, Keeps wr v → Calls Tryz.prog 12 #[.agg #[.slice A' n' c', u1, u2], .int .i64 y.pod] v fun e w' => e = .returned (.int .i64 (place PodD.id y.pod l 0)) ∧ Below v.heap.size v w') :=
        fun v hv => rPlace05_any l y.pod A' n' c' v.heap.size u1 u2 v HN'.out hl' (Nat.le_refl _) ((HR'.out.below (kwr.trans (hv.2.mono kwr.size)) (Nat.le_refl _)).more (kwr.trans (hv.2.mono kwr.size)).size)
      generalize hpl : place PodD.id y.pod l 0 = pl at *
      have HPL := Lib.hid hpl
      clear hpl
      go_wp2
      go_region_held3 (fun w' => (∀ b o, b < wr.heap.size → w'.cell? ⟨b, o, none⟩ = wr.cell? ⟨b, o, none⟩) ∧ Below wr.heap.size wr w')
        (first | (with_reducible assumption) | exact Keeps.of (Below.refl _ _) | exact Keeps.of (Below.drew (Below.refl _ _)) | exact Keeps.step (by assumption) (by assumption) | exact Keeps.alloc (by assumption) _)
        (first | (go_at_call 12; refine (HC.out _ (by assumption)).mono ?_; rintro e w' ⟨rfl, hb⟩))
      rename_i hK
      have k1 := hbr.trans (hK.2.mono hzr)
      have kw1 := b00.trans (k1.mono (by omega))
      have hz1 : w.heap.size + 2 ≤ w'.heap.size := by have := hK.2.size; omega
      have hwl' : w.heap.size < w'.heap.size := by omega
      have hwl1' : w.heap.size + 1 < w'.heap.size := by omega
      have hbw' : b < w'.heap.size := by have := hK.2.size; omega
      have f0 := (hK.1 b (o + k * 6) hbw).trans e0
      have f1 := (hK.1 b (o + k * 6 + 1) hbw).trans e1
      have f2 := (hK.1 b (o + k * 6 + 2) hbw).trans e2
      have f3 := (hK.1 b (o + k * 6 + 3) hbw).trans e3
      have f4 := (hK.1 b (o + k * 6 + 4) hbw).trans e4
      have f5 := (hK.1 b (o + k * 6 + 5) hbw).trans e5
      clear b0 b1 b2 b3 b4 b5 e0 e1 e2 e3 e4 e5 hb hK
      obtain ⟨⟨b0, b1, b2⟩, b3, b4, b5⟩ := box2_cells k1
      by_cases hp : pl < 0
      · have HE := Lib.hid (HX.out.1 (met_none (by rw [HPL.out]; exact hp)))
        have hd : decide (pl < 0) = true := decide_eq_true hp
        clear hp
        go_wp2
        go_ret
        exact ⟨ret_bool HE.out.symm, kw1⟩
      · obtain ⟨i, hi, hpi⟩ := place_hit (by rw [HPL.out]; exact hp)
        have HM := Lib.hid (met_some hi hpi rfl)
        rw [HPL.out] at hpi
        subst hpi
        obtain ⟨bp, op, rfl, hbp, hep⟩ := HR'.out.at hi
        have hin : i < n' := by have := HN'.out; omega
        generalize l[i] = p at *
        have e0 : w'.cell? ⟨bp, op + i * 8, none⟩ = some (.int .i64 p.id) := (kw1.cell (p := ⟨bp, op + i * 8, none⟩) hbp).trans (hep 0 _ rfl)
        have e1 : w'.cell? ⟨bp, op + i * 8 + 1, none⟩ = some (.int .i64 p.load) := (kw1.cell (p := ⟨bp, op + i * 8 + 1, none⟩) hbp).trans (hep 1 _ rfl)
        have e2 : w'.cell? ⟨bp, op + i * 8 + 2, none⟩ = some (.int .i64 p.prio) := (kw1.cell (p := ⟨bp, op + i * 8 + 2, none⟩) hbp).trans (hep 2 _ rfl)
        have e3 : w'.cell? ⟨bp, op + i * 8 + 3, none⟩ = some (.int .u64 p.req.a) := (kw1.cell (p := ⟨bp, op + i * 8 + 3, none⟩) hbp).trans (hep 3 _ rfl)
        have e4 : w'.cell? ⟨bp, op + i * 8 + 4, none⟩ = some (.int .u64 p.req.b) := (kw1.cell (p := ⟨bp, op + i * 8 + 4, none⟩) hbp).trans (hep 4 _ rfl)
        have e5 : w'.cell? ⟨bp, op + i * 8 + 5, none⟩ = some (.int .u64 p.req.c) := (kw1.cell (p := ⟨bp, op + i * 8 + 5, none⟩) hbp).trans (hep 5 _ rfl)
        have e6 : w'.cell? ⟨bp, op + i * 8 + 6, none⟩ = some (.int .u64 p.req.d) := (kw1.cell (p := ⟨bp, op + i * 8 + 6, none⟩) hbp).trans (hep 6 _ rfl)
        have e7 : w'.cell? ⟨bp, op + i * 8 + 7, none⟩ = some (.int .i64 p.node) := (kw1.cell (p := ⟨bp, op + i * 8 + 7, none⟩) hbp).trans (hep 7 _ rfl)
        have hbpw : bp < w'.heap.size := by omega
        have hi0 : (0 : Int) ≤ (i : Int) := by omega
        have hi1 : (i : Int) < (n' : Int) := by omega
        have hpd : decide ((i : Int) < 0) = false := decide_eq_false (by omega)
        clear hep hp
        go_wp2
        generalize hW : w'.alloc (.cells #[.int .i64 p.id, .int .i64 p.load, .int .i64 p.prio, .int .u64 p.req.a, .int .u64 p.req.b, .int .u64 p.req.c, .int .u64 p.req.d, .int .i64 p.node] 55) = W at *
        have k2 := k1.alloc hz1 (.cells #[.int .i64 p.id, .int .i64 p.load, .int .i64 p.prio, .int .u64 p.req.a, .int .u64 p.req.b, .int .u64 p.req.c, .int .u64 p.req.d, .int .i64 p.node] 55)
        rw [hW] at k2
        have kw2 := b00.trans (k2.mono (by omega))
        have hzW : w'.heap.size < W.heap.size := by rw [← hW]; simp
        have d0 : W.cell? ⟨w'.heap.size, 0, none⟩ = some (.int .i64 p.id) := by rw [← hW]; simp
        have d1 : W.cell? ⟨w'.heap.size, 1, none⟩ = some (.int .i64 p.load) := by rw [← hW]; simp
        have d2 : W.cell? ⟨w'.heap.size, 2, none⟩ = some (.int .i64 p.prio) := by rw [← hW]; simp
        have d3 : W.cell? ⟨w'.heap.size, 3, none⟩ = some (.int .u64 p.req.a) := by rw [← hW]; simp
        have d4 : W.cell? ⟨w'.heap.size, 4, none⟩ = some (.int .u64 p.req.b) := by rw [← hW]; simp
        have d5 : W.cell? ⟨w'.heap.size, 5, none⟩ = some (.int .u64 p.req.c) := by rw [← hW]; simp
        have d6 : W.cell? ⟨w'.heap.size, 6, none⟩ = some (.int .u64 p.req.d) := by rw [← hW]; simp
        have d7 : W.cell? ⟨w'.heap.size, 7, none⟩ = some (.int .i64 p.node) := by rw [← hW]; simp
        have q0 : W.cell? ⟨b, o + k * 6, none⟩ = some (.int .i64 y.pod) := by rw [← hW, World.cell?_alloc_lt _ _ _ hbw']; exact f0
        have q1 : W.cell? ⟨b, o + k * 6 + 1, none⟩ = some (.int .u64 y.req.a) := by rw [← hW, World.cell?_alloc_lt _ _ _ hbw']; exact f1
        have q2 : W.cell? ⟨b, o + k * 6 + 2, none⟩ = some (.int .u64 y.req.b) := by rw [← hW, World.cell?_alloc_lt _ _ _ hbw']; exact f2
        have q3 : W.cell? ⟨b, o + k * 6 + 3, none⟩ = some (.int .u64 y.req.c) := by rw [← hW, World.cell?_alloc_lt _ _ _ hbw']; exact f3
        have q4 : W.cell? ⟨b, o + k * 6 + 4, none⟩ = some (.int .u64 y.req.d) := by rw [← hW, World.cell?_alloc_lt _ _ _ hbw']; exact f4
        have q5 : W.cell? ⟨b, o + k * 6 + 5, none⟩ = some (.bool y.stay) := by rw [← hW, World.cell?_alloc_lt _ _ _ hbw']; exact f5
        have hbW : b < W.heap.size := by omega
        clear hW b0 b1 b2 b3 b4 b5 f0 f1 f2 f3 f4 f5 e0 e1 e2 e3 e4 e5 e6 e7
        obtain ⟨⟨b0, b1, b2⟩, b3, b4, b5⟩ := box2_cells k2
        have hwW : w.heap.size < W.heap.size := by omega
        have hwW1 : w.heap.size + 1 < W.heap.size := by omega
        have hnq := fun v => vec_neq p.req y.req v
        cases hs : y.stay with
        | true =>
          by_cases hn : p.node = 0
          · have hd : (p.node == 0) = true := by simp [hn]
            have HE := Lib.hid (HX.out.1 (HM.out.trans (by simp [hs, hn])))
            clear hn
            go_wp2
            go_quiet (fail)
            go_wp2
            go_ret
            exact ⟨ret_bool HE.out.symm, below_draws kw2 _⟩
          · have hd : (p.node == 0) = false := by simp [hn]
            cases hv : vecEq p.req y.req with
            | false =>
              have HE := Lib.hid (HX.out.1 (HM.out.trans (by simp [hs, hv])))
              clear hn
              go_wp2
              go_quiet (fail)
              go_wp2
              go_ret
              exact ⟨ret_bool HE.out.symm, below_draws kw2 _⟩
            | true =>
              have HE := Lib.hid (HX.out.2 (HM.out.trans (by simp [hs, hv, hn])))
              clear hn
              go_wp2
              go_quiet (fail)
              go_wp2
              go_roundw
              case rel => exact ⟨k + 1, by omega, by go_num, HE.out, below_draws k2 _⟩
              case measure => simp [intOf]; omega
        | false =>
          by_cases hn : p.node = 0
          · have hd : (p.node != 0) = false := by simp [hn]
            have HE := Lib.hid (HX.out.2 (HM.out.trans (by simp [hs, hn])))
            clear hn
            go_wp2
            go_quiet (fail)
            go_wp2
            go_roundw
            case rel => exact ⟨k + 1, by omega, by go_num, HE.out, below_draws k2 _⟩
            case measure => simp [intOf]; omega
          · have hd : (p.node != 0) = true := by simp [hn]
            have HE := Lib.hid (HX.out.1 (HM.out.trans (by simp [hs, hn])))
            clear hn
            go_wp2
            go_quiet (fail)
            go_wp2
            go_ret
            exact ⟨ret_bool HE.out.symm, below_draws kw2 _⟩
    · have HE := Lib.hid (goal_end (by have := HN.out; omega) HG.out)
      go_wp2
      go_ret
      exact ⟨ret_bool HE.out.symm, kwr⟩
end Go.Proofs.YtkipfalolfleaaaGreatDoor

/- The law StateTells where there are too many of something. -/
namespace Go.Proofs.YtkipfalolfleaaaGreatDoor
set_option linter.unusedSimpArgs false
open Go.RowKit
set_option linter.unusedVariables false

/-- Four boxes of the call's own. -/
structure Fo (a b c d : List Value) (w V : World) : Prop where
  one : Bf V w.heap.size a
  two : Bf V (w.heap.size + 1) b
  three : Bf V (w.heap.size + 2) c
  four : Bf V (w.heap.size + 3) d
  below : Below w.heap.size w V
section
variable {a b c d : List Value} {w V V' : World}
theorem Fo.keep (h : Fo a b c d w V) (hb : Below V.heap.size V V') : Fo a b c d w V' :=
  ⟨h.one.below hb h.one.lt, h.two.below hb h.two.lt, h.three.below hb h.three.lt, h.four.below hb h.four.lt, h.below.trans (hb.mono h.below.size)⟩
theorem Fo.alloc (h : Fo a b c d w V) (o : Obj) : Fo a b c d w (V.alloc o) := h.keep ((Below.refl _ V).alloc (Nat.le_refl _) o)
theorem Fo.new (w : World) (a b c d : List Value) (t1 t2 t3 t4 : TypeId) : Fo a b c d w ((((w.alloc (.cells a.toArray t1)).alloc (.cells b.toArray t2)).alloc (.cells c.toArray t3)).alloc (.cells d.toArray t4)) :=
  ⟨(((Bf.new w a t1 rfl).alloc _).alloc _).alloc _, ((Bf.new (w.alloc (.cells a.toArray t1)) b t2 (b := w.heap.size + 1) (by simp)).alloc _).alloc _,
    (Bf.new ((w.alloc (.cells a.toArray t1)).alloc (.cells b.toArray t2)) c t3 (b := w.heap.size + 2) (by simp)).alloc _, Bf.new (((w.alloc (.cells a.toArray t1)).alloc (.cells b.toArray t2)).alloc (.cells c.toArray t3)) d t4 (b := w.heap.size + 3) (by simp),
    below_four w _ _ _ _⟩
theorem Fo.facts {a0 a1 a2 b0 b1 b2 c0 c1 c2 d0 d1 d2 : Value} (h : Fo [a0, a1, a2] [b0, b1, b2] [c0, c1, c2] [d0, d1, d2] w V) :
    (V.cell? ⟨w.heap.size, 0, none⟩ = some a0 ∧ V.cell? ⟨w.heap.size, 1, none⟩ = some a1 ∧ V.cell? ⟨w.heap.size, 2, none⟩ = some a2) ∧
    (V.cell? ⟨w.heap.size + 1, 0, none⟩ = some b0 ∧ V.cell? ⟨w.heap.size + 1, 1, none⟩ = some b1 ∧ V.cell? ⟨w.heap.size + 1, 2, none⟩ = some b2) ∧
    (V.cell? ⟨w.heap.size + 2, 0, none⟩ = some c0 ∧ V.cell? ⟨w.heap.size + 2, 1, none⟩ = some c1 ∧ V.cell? ⟨w.heap.size + 2, 2, none⟩ = some c2) ∧
    (V.cell? ⟨w.heap.size + 3, 0, none⟩ = some d0 ∧ V.cell? ⟨w.heap.size + 3, 1, none⟩ = some d1 ∧ V.cell? ⟨w.heap.size + 3, 2, none⟩ = some d2) ∧ w.heap.size < V.heap.size ∧ w.heap.size + 1 < V.heap.size ∧ w.heap.size + 2 < V.heap.size ∧ w.heap.size + 3 < V.heap.size :=
  ⟨⟨h.one.cell 0 _ rfl, h.one.cell 1 _ rfl, h.one.cell 2 _ rfl⟩, ⟨h.two.cell 0 _ rfl, h.two.cell 1 _ rfl, h.two.cell 2 _ rfl⟩, ⟨h.three.cell 0 _ rfl, h.three.cell 1 _ rfl, h.three.cell 2 _ rfl⟩, ⟨h.four.cell 0 _ rfl, h.four.cell 1 _ rfl, h.four.cell 2 _ rfl⟩, h.one.lt, h.two.lt, h.three.lt, h.four.lt⟩
end
end Go.Proofs.YtkipfalolfleaaaGreatDoor

/- The head of layer 9's laws: the document's example, and a budget that is used up. -/
namespace Go.Proofs.YtkipfalolfleaaaGreatDoor
set_option linter.unusedSimpArgs false
open Go.RowKit
set_option linter.unusedVariables false

end Go.Proofs.YtkipfalolfleaaaGreatDoor

/- How many of a load are somewhere, which load is at fault, whether a budget is used up: the reference's Size, Used, Budget of layer 9. -/
namespace Go.Proofs.YtkipfalolfleaaaGreatDoor
set_option linter.unusedSimpArgs false
open Go.RowKit
set_option linter.unusedVariables false

end Go.Proofs.YtkipfalolfleaaaGreatDoor

/- The law BudgetTells. -/
namespace Go.Proofs.YtkipfalolfleaaaGreatDoor
set_option linter.unusedSimpArgs false
open Go.RowKit
set_option linter.unusedVariables false

theorem few09 {n1 n2 n3 n4 n5 : Nat} (h : few05 n1 n2 n3 n4 n5 = true) : n1 ≤ 40 ∧ n2 ≤ 40 ∧ n3 ≤ 40 ∧ n4 ≤ 40 ∧ n5 ≤ 40 := by
  simp [few05] at h
  omega

end Go.Proofs.YtkipfalolfleaaaGreatDoor

namespace Go.Proofs.YtkipfalolfleaaaGreatDoor
set_option linter.unusedSimpArgs false
open Go.RowKit
set_option linter.unusedVariables false

def MfRel (x : List WantD) (a b c d : List Value) (w : World) (i : Value) (wr : World) : Prop :=
  ∃ k : Nat, 1 ≤ k ∧ (k ≤ x.length ∨ k = 1) ∧ i = .int .i64 k ∧ (∀ j (h : j + 1 < x.length), j + 1 < k → x[j].pod < x[j + 1].pod) ∧ Fo a b c d w wr
theorem Fo.draws18 {a b c d : List Value} {w V : World} (h : Fo a b c d w V) (q : Nat) : Fo a b c d w (V.drewN q) := h.keep (below_draws (Below.refl _ _) q)

set_option maxHeartbeats 12800000 in
set_option maxRecDepth 100000 in
theorem movesFar_in (s : SnapD) (x : SpecD) (t : StateD) (m : MoveD) (hs : s.Ok) (hx : ∀ a ∈ x.wants, a.Ok) (hlo : ∀ p ∈ t.pods, p.Ok) (A1 A2 A3 A4 A5 : Option Addr) (n1 c1 n2 c2 n3 c3 n4 c4 n5 c5 : Nat) (w : World) (hg : Laid w)
    (h1 : n1 = s.nodes.length) (h2 : n2 = s.loads.length) (h4 : n4 = t.pods.length ∧ n4 ≤ c4 ∧ (A4 = none → c4 = 0)) (h5 : n5 = x.wants.length)
    (hr1 : Recs 10 cellsN w w.heap.size A1 s.nodes) (hr2 : Recs 5 cellsL w w.heap.size A2 s.loads) (hr4 : Recs 8 cellsP w w.heap.size A4 t.pods) (hr5 : Recs 6 cellsW w w.heap.size A5 x.wants) :
    Calls Tryz.prog 3 #[.agg #[.slice A1 n1 c1, .slice A2 n2 c2, .slice A3 n3 c3], .agg #[.slice A5 n5 c5, .int .i64 x.preempts, .int .i64 x.shifts], .agg #[.slice A4 n4 c4, .int .i64 t.preempts, .int .i64 t.shifts], aggM m] w fun e w' => e = .returned (.bool true) ∧ Below w.heap.size w w' := by
  have T0 := Fo.new w [.slice A1 n1 c1, .slice A2 n2 c2, .slice A3 n3 c3] [.slice A5 n5 c5, .int .i64 x.preempts, .int .i64 x.shifts] [.slice A4 n4 c4, .int .i64 t.preempts, .int .i64 t.shifts] (cellsM m) 26 29 31 33
  have HUP := Lib.hid (up18_any _ (Laid.below hg T0.below (Nat.le_refl _)))
  have HTA : Hid (n1 ≤ 40 → n2 ≤ 40 → n5 ≤ 40 → n4 ≤ 40 → TidyArgs s.nodes s.loads x t A1 A2 A4 A5 n1 n2 n4 c4 n5 w) := fun l1 l2 l5 l4 =>
    ⟨⟨hg, hs.1, hlo, h1, by omega, hr1, h2, by omega, hr2, h4.1, by omega, h4.2.1, hr4⟩, h4.2.2, h5, by omega, hr5, hx⟩
  have HR5 := Lib.hid hr5
  have HN5 := Lib.hid h5
  clear hs hx hlo hg h1 h2 h4 h5 hr1 hr2 hr4 hr5
  go_enter Tryz.func3, Tryz.ntmps3
  go_wp2_with fail
  refine HUP.out.mono ?_
  rintro e w1 ⟨rfl, hb1⟩
  have T1 := T0.keep hb1
  clear hb1 T0 HUP
  obtain ⟨a0, a1, a2, a3⟩ := T1.one.cells3
  obtain ⟨b0, b1, b2, b3⟩ := T1.two.cells3
  obtain ⟨d0, d1, d2, d3⟩ := T1.three.cells3
  go_wp2_with fail
  refine (few05_any _ _ _ _ _ _ _ _ _ _ _ _ _ _ _ _ _ _ _ _).mono ?_
  rintro e w2 ⟨rfl, hb2⟩
  have T2' := T1.keep hb2
  have HT2 := Lib.hid T2'
  clear hb2 T1 T2' a0 a1 a2 a3 b0 b1 b2 b3 d0 d1 d2 d3
  cases hfw : few05 n1 n2 n3 n5 n4 with
  | false =>
    clear hfw
    go_wp2
    go_ret
    exact ⟨rfl, HT2.out.below⟩
  | true =>
    obtain ⟨hl1, hl2, hl3, hl5, hl4⟩ := few09 hfw
    have HA := Lib.hid (HTA.out hl1 hl2 hl5 hl4)
    clear hfw HTA
    go_wp2
    go_loopw [11] (MfRel x.wants [.slice A1 n1 c1, .slice A2 n2 c2, .slice A3 n3 c3] [.slice A5 n5 c5, .int .i64 x.preempts, .int .i64 x.shifts] [.slice A4 n4 c4, .int .i64 t.preempts, .int .i64 t.shifts] (cellsM m) w) (fun i _ => n5 - (intOf i).toNat)
    case atStart => exact ⟨1, Nat.le_refl _, .inr rfl, rfl, fun j _ hj => by omega, HT2.out⟩
    case round =>
      obtain ⟨k, hk1, hk2, rfl, hri, T1⟩ := hrel
      have HT1 := Lib.hid T1
      have HRI := Lib.hid hri
      have kwr := T1.below
      obtain ⟨b0, b1, b2, b3⟩ := T1.two.cells3
      clear hri HT2
      by_cases hlt : k < n5
      · have hkl : k < x.wants.length := by have := HN5.out; omega
        obtain ⟨b, o, rfl, hb, he⟩ := HR5.out.at hkl
        obtain ⟨j, rfl⟩ : ∃ j, k = j + 1 := ⟨k - 1, by omega⟩
        have hjl : j < x.wants.length := by omega
        obtain ⟨b', o', h1, _, hf⟩ := HR5.out.at hjl
        injection h1 with h1
        injection h1 with h1 h2 _
        subst h1 h2
        have hst : ¬ (x.wants[j + 1].pod ≤ x.wants[j].pod) → ∀ i (h : i + 1 < x.wants.length), i + 1 < j + 1 + 1 → x.wants[i].pod < x.wants[i + 1].pod := fun hn i h hi => by
          by_cases hij : i = j
          · subst hij; omega
          · exact HRI.out i h (by omega)
        have e0 : wr.cell? ⟨b, o + (j + 1) * 6, none⟩ = some (.int .i64 x.wants[j + 1].pod) := (kwr.cell (p := ⟨b, o + (j + 1) * 6, none⟩) hb).trans (he 0 _ rfl)
        have f0 : wr.cell? ⟨b, o + j * 6, none⟩ = some (.int .i64 x.wants[j].pod) := (kwr.cell (p := ⟨b, o + j * 6, none⟩) hb).trans (hf 0 _ rfl)
        have hbw : b < wr.heap.size := Nat.lt_of_lt_of_le hb kwr.size
        have hj0 : (0 : Int) ≤ (j : Int) := by omega
        have hj1 : (0 : Int) ≤ (j : Int) + 1 := by omega
        have hjn : (j : Int) < (n5 : Int) := by omega
        have hjn1 : (j : Int) + 1 < (n5 : Int) := by omega
        have s1 : IntKind.i64.wrap ((j : Int) + 1 - 1) = (j : Int) := by rw [IntWalk.i64_in _ (by omega)]; omega
        have s2 : IntKind.i64.wrap (j : Int) = (j : Int) := IntWalk.i64_in _ (by omega)
        have s3 : ((j : Int) + 1).toNat = j + 1 := by omega
        have s4 : IntKind.i64.wrap ((j : Int) + 1 + 1) = (j : Int) + 1 + 1 := IntWalk.i64_in _ (by omega)
        have HST := Lib.hid hst
        clear he hf T1 hk1 hk2 hst
        by_cases h2 : x.wants[j + 1].pod ≤ x.wants[j].pod
        · have hd2 : decide (x.wants[j + 1].pod ≤ x.wants[j].pod) = true := decide_eq_true h2
          generalize x.wants[j + 1].pod = p1 at *
          generalize x.wants[j].pod = p0 at *
          clear h2 HST
          go_wp2
          go_quiet (fail)
          go_wp2
          go_ret
          exact ⟨rfl, below_draws kwr _⟩
        · have hd2 : decide (x.wants[j + 1].pod ≤ x.wants[j].pod) = false := decide_eq_false h2
          have HS := Lib.hid (HST.out h2)
          clear h2 HST
          generalize x.wants[j + 1].pod = p1 at *
          generalize x.wants[j].pod = p0 at *
          go_wp2
          go_quiet (fail)
          go_wp2
          go_roundw
          case rel => exact ⟨j + 1 + 1, by omega, .inl (by have := HN5.out; omega), by go_num, HS.out, HT1.out.draws18 _⟩
          case measure => simp [intOf]; omega
      · have HRW : Hid (RiseW x.wants) := by
          refine riseW_of fun i hi => HRI.out i hi ?_
          have := HN5.out
          omega
        have ka := HA.out.at kwr
        have HFA := Lib.hid (fun (V : World) (hV : Below w.heap.size w V) => (HA.out.at hV))
        have HF := Lib.hid (far_any x.wants t.pods A5 A4 n5 c5 n4 c4 (.int .i64 x.preempts) (.int .i64 x.shifts) (.int .i64 t.preempts) (.int .i64 t.shifts) wr ka.e5 (by omega) ka.a.e4 (by omega) ka.r5 ka.a.r4)
        have HFU := Lib.hid (fun (l : List PodD) (A : Option Addr) (n' c' : Nat) (u1 u2 : Value) (V : World) (hV : Below w.heap.size w V) (hn : n' = l.length) (hl : n' ≤ 1000) (hr : Recs 8 cellsP V V.heap.size A l) => far_any x.wants l A5 A n5 c5 n' c' (.int .i64 x.preempts) (.int .i64 x.shifts) u1 u2 V HN5.out (by omega) hn hl (HA.out.at hV).r5 hr)
        have HFL : Hid (farD x.wants t.pods ≤ 40) := by
          show _ ≤ _
          have h1 := unmet_le x.wants t.pods
          have h2 := HN5.out
          unfold farD
          omega
        have hfg := far_goal (x := x.wants) (l := t.pods)
        obtain ⟨d0, d1, d2, d3⟩ := T1.three.cells3
        clear ka T1 hk1 hk2 HRI
        go_wp2_with fail
        refine HF.out.mono ?_
        rintro e w3 ⟨rfl, hb3⟩
        have T3' := HT1.out.keep hb3
        have HT3 := Lib.hid T3'
        have ka := HA.out.at T3'.below
        have HG := Lib.hid (rGoal05_any x.wants t.pods A5 A4 n5 c5 n4 c4 (.int .i64 x.preempts) (.int .i64 x.shifts) (.int .i64 t.preempts) (.int .i64 t.shifts) w3 ka.e5 (by omega) ka.a.e4 (by omega) ka.r5 ka.a.r4)
        clear hb3 HF HT1 ka kwr b0 b1 b2 b3 d0 d1 d2 d3
        obtain ⟨b0, b1, b2, b3⟩ := T3'.two.cells3
        obtain ⟨d0, d1, d2, d3⟩ := T3'.three.cells3
        clear T3'
        obtain ⟨f, hf⟩ : ∃ f, farD x.wants t.pods = f := ⟨_, rfl⟩
        obtain ⟨g, hgg⟩ : ∃ g, goalD x.wants t.pods = g := ⟨_, rfl⟩
        rw [hf, hgg] at hfg
        rw [hf] at HFL ⊢
        rw [hgg] at HG
        have HFF := Lib.hid hf
        have hfi : (((f : Nat) : Int) == 0) = g := by
          rw [← hfg, Bool.eq_iff_iff, beq_iff_eq, beq_iff_eq]
          omega
        clear hf hgg hfg
        go_wp2_with fail
        refine HG.out.mono ?_
        rintro e w4 ⟨rfl, hb4⟩
        have T4' := HT3.out.keep hb4
        have HT4 := Lib.hid T4'
        have HDO : Hid (Calls Tryz.prog 8 #[.agg #[.slice A1 n1 c1, .slice A2 n2 c2, .slice A3 n3 c3], .agg #[.slice A5 n5 c5, .int .i64 x.preempts, .int .i64 x.shifts], .agg #[.slice A4 n4 c4, .int .i64 t.preempts, .int .i64 t.shifts], .agg #[.int .i64 m.kind, .int .i64 m.pod, .int .i64 m.node, .int .i64 m.over]] w4 (DoTo (doD s.nodes s.loads x t m) w4)) := by
          have k := HA.out.at T4'.below
          exact stepDo_any s.nodes s.loads x t m A1 A2 A3 A4 A5 n1 c1 n2 c2 n3 c3 n4 c4 n5 c5 _ k.a k.h04 k.e5 k.l5 k.r5 k.xo
        clear hb4 HG HT3 b0 b1 b2 b3 d0 d1 d2 d3
        obtain ⟨a0, a1, a2, a3⟩ := T4'.one.cells3
        obtain ⟨b0, b1, b2, b3⟩ := T4'.two.cells3
        obtain ⟨d0, d1, d2, d3⟩ := T4'.three.cells3
        obtain ⟨⟨m0, m1⟩, m2, m3, m4⟩ := T4'.four.cells4q
        clear T4'
        by_cases hd0 : (doD s.nodes s.loads x t m).2 = 0
        · have HD1 := Lib.hid (HDO.out.mono fun e w' h => do_good hd0 h)
          have hle := far_less HRW.out hd0
          have hul := (do_ok (ls := s.loads) HA.out.a.no HA.out.xo HA.out.a.lo hd0).2
          rw [HFF.out] at hle
          rw [← HA.out.a.e4] at hul
          clear hd0 HDO
          generalize doD s.nodes s.loads x t m = r at *
          have HUL := Lib.hid hul
          have HLE := Lib.hid hle
          clear hul hle
          go_wp2_with fail
          refine HD1.out.mono ?_
          rintro e w7 ⟨A7, c7, rfl, ho7, hfr7, hb7⟩
          have k8 : Below w7.heap.size w7 (w7.alloc (.cells #[.slice A7 r.1.pods.length c7, .int .i64 r.1.preempts, .int .i64 r.1.shifts] 31)) := (Below.refl _ _).alloc (Nat.le_refl _) _
          have T8 := (HT4.out.keep hb7).keep k8
          have HT8 := Lib.hid T8
          have HF8 := Lib.hid (HFU.out r.1.pods A7 r.1.pods.length c7 (.int .i64 r.1.preempts) (.int .i64 r.1.shifts) _ T8.below rfl (by have := HUL.out; omega) (ho7.later k8).recs)
          clear ho7 hfr7 hb7 k8 HT4 HD1 HFU a0 a1 a2 a3 b0 b1 b2 b3 d0 d1 d2 d3 m0 m1 m2 m3 m4
          obtain ⟨b0, b1, b2, b3⟩ := T8.two.cells3
          clear T8
          obtain ⟨f', hf'⟩ : ∃ f', farD x.wants r.1.pods = f' := ⟨_, rfl⟩
          rw [hf'] at HF8
          have hfl := HFL.out
          have q1 : IntKind.i64.wrap ((f : Int) - 1) = (f : Int) - 1 := IntWalk.i64_in _ (by omega)
          have q2 : decide (((f' : Nat) : Int) ≥ (f : Int) - 1) = true := decide_eq_true (by have := HLE.out; rw [hf'] at this; omega)
          have q3 : decide ((f : Int) - 1 ≤ ((f' : Nat) : Int)) = true := q2
          have q4 : decide ((f : Int) ≤ ((f' : Nat) : Int) + 1) = true := decide_eq_true (by have := HLE.out; rw [hf'] at this; omega)
          clear hf'
          go_wp2_with fail
          refine HF8.out.mono ?_
          rintro e w9 ⟨rfl, hb9⟩
          have HK9 := Lib.hid (HT8.out.keep hb9).below
          clear hb9 HF8 b0 b1 b2 b3
          go_wp2
          go_ret
          exact ⟨rfl, HK9.out⟩
        · have HD1 := Lib.hid (HDO.out.mono fun e w' h => do_bad hd0 h)
          clear hd0 HDO
          generalize doD s.nodes s.loads x t m = r at *
          go_wp2_with fail
          refine HD1.out.mono ?_
          rintro e w7 ⟨A7, c7, rfl, ho7, hfr7, hb7⟩
          have k8 : Below w7.heap.size w7 (w7.alloc (.cells #[.slice A7 r.1.pods.length c7, .int .i64 r.1.preempts, .int .i64 r.1.shifts] 31)) := (Below.refl _ _).alloc (Nat.le_refl _) _
          have HK8 := Lib.hid ((HT4.out.keep hb7).keep k8).below
          clear ho7 hfr7 hb7 k8 HT4 HD1 HFU a0 a1 a2 a3 b0 b1 b2 b3 d0 d1 d2 d3 m0 m1 m2 m3 m4
          go_wp2
          go_ret
          exact ⟨rfl, HK8.out⟩
end Go.Proofs.YtkipfalolfleaaaGreatDoor
