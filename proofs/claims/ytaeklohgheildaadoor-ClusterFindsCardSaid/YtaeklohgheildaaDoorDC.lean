/- The program's orderFault at every place, and idFault, at each kind of record. -/
import Derived.Test.YtaeklohgheildaaDoorDB
namespace Go.Proofs.YtaeklohgheildaaDoor
open Go.RowKit
set_option linter.unusedVariables false

/-- What is amiss with the Id at a place beside the one ahead. -/
def ordAt {α : Type} (f : α → Int) (l : List α) : Nat → Int
  | 0 => 0
  | j + 1 => match l[j]?, l[j + 1]? with
    | some y, some x => ordI (f y) (f x)
    | _, _ => 0
theorem ordAt_next {α : Type} {f : α → Int} {l : List α} {j : Nat} (h : j + 1 < l.length) : ordAt f l (j + 1) = ordI (f l[j]) (f l[j + 1]) := by
  simp [ordAt, List.getElem?_eq_getElem h, List.getElem?_eq_getElem (show j < l.length by omega)]

theorem orderN_any (l : List NodeD) (k : Nat) (A : Option Addr) (n c : Nat) (w : World) (hn : n = l.length) (hl : n ≤ 1000) (hk : k < l.length) (hr : Recs 10 cellsN w w.heap.size A l) :
    Calls Tryd.prog 67 #[.slice A n c, .int .i64 (k : Int), .func (.func 30) #[] #[]] w fun e w' => e = .returned (.int .i64 (ordAt NodeD.id l k)) ∧ Below w.heap.size w w' := by
  cases k with
  | zero => exact (orderN_first A n c _ w).mono fun e w' ⟨h1, h2⟩ => ⟨h1, h2 ▸ Below.refl _ _⟩
  | succ j =>
    rw [ordAt_next hk]
    exact orderN_next l j A n c w hn hl hk hr

theorem orderL_any (l : List LoadD) (k : Nat) (A : Option Addr) (n c : Nat) (w : World) (hn : n = l.length) (hl : n ≤ 1000) (hk : k < l.length) (hr : Recs 5 cellsL w w.heap.size A l) :
    Calls Tryd.prog 68 #[.slice A n c, .int .i64 (k : Int), .func (.func 33) #[] #[]] w fun e w' => e = .returned (.int .i64 (ordAt LoadD.id l k)) ∧ Below w.heap.size w w' := by
  cases k with
  | zero => exact (orderL_first A n c _ w).mono fun e w' ⟨h1, h2⟩ => ⟨h1, h2 ▸ Below.refl _ _⟩
  | succ j =>
    rw [ordAt_next hk]
    exact orderL_next l j A n c w hn hl hk hr

theorem orderP_any (l : List PodD) (k : Nat) (A : Option Addr) (n c : Nat) (w : World) (hn : n = l.length) (hl : n ≤ 1000) (hk : k < l.length) (hr : Recs 8 cellsP w w.heap.size A l) :
    Calls Tryd.prog 69 #[.slice A n c, .int .i64 (k : Int), .func (.func 36) #[] #[]] w fun e w' => e = .returned (.int .i64 (ordAt PodD.id l k)) ∧ Below w.heap.size w w' := by
  cases k with
  | zero => exact (orderP_first A n c _ w).mono fun e w' ⟨h1, h2⟩ => ⟨h1, h2 ▸ Below.refl _ _⟩
  | succ j =>
    rw [ordAt_next hk]
    exact orderP_next l j A n c w hn hl hk hr

theorem orderW_any (l : List WantD) (k : Nat) (A : Option Addr) (n c : Nat) (w : World) (hn : n = l.length) (hl : n ≤ 1000) (hk : k < l.length) (hr : Recs 6 cellsW w w.heap.size A l) :
    Calls Tryd.prog 41 #[.slice A n c, .int .i64 (k : Int), .func (.func 42) #[] #[]] w fun e w' => e = .returned (.int .i64 (ordAt WantD.pod l k)) ∧ Below w.heap.size w w' := by
  cases k with
  | zero => exact (orderW_first A n c _ w).mono fun e w' ⟨h1, h2⟩ => ⟨h1, h2 ▸ Below.refl _ _⟩
  | succ j =>
    rw [ordAt_next hk]
    exact orderW_next l j A n c w hn hl hk hr

set_option maxHeartbeats 1600000 in
theorem idFaultN_any (l : List NodeD) (k : Nat) (A : Option Addr) (n c : Nat) (w : World) (hn : n = l.length) (hl : n ≤ 1000) (hk : k < l.length) (hr : Recs 10 cellsN w w.heap.size A l) :
    Calls Tryd.prog 52 #[.slice A n c, .int .i64 (k : Int), .func (.func 30) #[] #[]] w fun e w' => e = .returned (.int .i64 (idI (ordAt NodeD.id l k) l[k].id)) ∧ Below w.heap.size w w' := by
  have HO := Lib.hid (orderN_any l k A n c w hn hl hk hr)
  obtain ⟨b, o, rfl, hb, he⟩ := hr.at hk
  have hkn : (k : Int) < (n : Int) := by omega
  have hk0 : (0 : Int) ≤ (k : Int) := by omega
  generalize l[k] = x at *
  generalize ordAt NodeD.id l k = q at *
  have HEE := Lib.hid he
  clear he hn hr hk
  go_enter Tryd.func52, Tryd.ntmps52
  go_wp2_with fail
  refine HO.out.mono ?_
  rintro e w1 ⟨rfl, hb1⟩
  by_cases hq : q = 0
  · obtain rfl := hq
    have e0 : w1.cell? ⟨b, o + k * 10, none⟩ = some (.int .i64 x.id) := (hb1.cell (p := ⟨b, o + k * 10, none⟩) hb).trans (HEE.out 0 _ rfl)
    have e1 : w1.cell? ⟨b, o + k * 10 + 1, none⟩ = some (.int .i64 x.zone) := (hb1.cell (p := ⟨b, o + k * 10 + 1, none⟩) hb).trans (HEE.out 1 _ rfl)
    have e2 : w1.cell? ⟨b, o + k * 10 + 2, none⟩ = some (.int .u64 x.cap.a) := (hb1.cell (p := ⟨b, o + k * 10 + 2, none⟩) hb).trans (HEE.out 2 _ rfl)
    have e3 : w1.cell? ⟨b, o + k * 10 + 3, none⟩ = some (.int .u64 x.cap.b) := (hb1.cell (p := ⟨b, o + k * 10 + 3, none⟩) hb).trans (HEE.out 3 _ rfl)
    have e4 : w1.cell? ⟨b, o + k * 10 + 4, none⟩ = some (.int .u64 x.cap.c) := (hb1.cell (p := ⟨b, o + k * 10 + 4, none⟩) hb).trans (HEE.out 4 _ rfl)
    have e5 : w1.cell? ⟨b, o + k * 10 + 5, none⟩ = some (.int .u64 x.cap.d) := (hb1.cell (p := ⟨b, o + k * 10 + 5, none⟩) hb).trans (HEE.out 5 _ rfl)
    have e6 : w1.cell? ⟨b, o + k * 10 + 6, none⟩ = some (.int .u64 x.held.a) := (hb1.cell (p := ⟨b, o + k * 10 + 6, none⟩) hb).trans (HEE.out 6 _ rfl)
    have e7 : w1.cell? ⟨b, o + k * 10 + 7, none⟩ = some (.int .u64 x.held.b) := (hb1.cell (p := ⟨b, o + k * 10 + 7, none⟩) hb).trans (HEE.out 7 _ rfl)
    have e8 : w1.cell? ⟨b, o + k * 10 + 8, none⟩ = some (.int .u64 x.held.c) := (hb1.cell (p := ⟨b, o + k * 10 + 8, none⟩) hb).trans (HEE.out 8 _ rfl)
    have e9 : w1.cell? ⟨b, o + k * 10 + 9, none⟩ = some (.int .u64 x.held.d) := (hb1.cell (p := ⟨b, o + k * 10 + 9, none⟩) hb).trans (HEE.out 9 _ rfl)
    go_wp2_with fail
    refine (idN_any x _).mono ?_
    rintro e w2 ⟨rfl, hb2⟩
    have kk : Below w.heap.size w w2 := hb1.trans (hb2.mono hb1.size)
    go_wp2_with fail
    refine (within_any _ _ _ _).mono ?_
    rintro e w2 ⟨rfl, rfl⟩
    by_cases hi : inB x.id 1 2147483647 = true
    · have HE := Lib.hid (show idI 0 x.id = 0 by simp [idI, hi])
      go_wp2
      go_ret
      exact ⟨ret_int HE.out.symm, kk⟩
    · have hi' : inB x.id 1 2147483647 = false := by simpa using hi
      have HE := Lib.hid (show idI 0 x.id = 1 by simp [idI, hi'])
      clear hi
      go_wp2
      go_ret
      exact ⟨ret_int HE.out.symm, kk⟩
  · have hm : (q != 0) = true := by simpa using hq
    have HE := Lib.hid (show idI q x.id = q by simp [idI, hq])
    clear hq
    go_wp2
    go_ret
    exact ⟨ret_int HE.out.symm, hb1⟩

set_option maxHeartbeats 1600000 in
theorem idFaultL_any (l : List LoadD) (k : Nat) (A : Option Addr) (n c : Nat) (w : World) (hn : n = l.length) (hl : n ≤ 1000) (hk : k < l.length) (hr : Recs 5 cellsL w w.heap.size A l) :
    Calls Tryd.prog 54 #[.slice A n c, .int .i64 (k : Int), .func (.func 33) #[] #[]] w fun e w' => e = .returned (.int .i64 (idI (ordAt LoadD.id l k) l[k].id)) ∧ Below w.heap.size w w' := by
  have HO := Lib.hid (orderL_any l k A n c w hn hl hk hr)
  obtain ⟨b, o, rfl, hb, he⟩ := hr.at hk
  have hkn : (k : Int) < (n : Int) := by omega
  have hk0 : (0 : Int) ≤ (k : Int) := by omega
  generalize l[k] = x at *
  generalize ordAt LoadD.id l k = q at *
  have HEE := Lib.hid he
  clear he hn hr hk
  go_enter Tryd.func54, Tryd.ntmps54
  go_wp2_with fail
  refine HO.out.mono ?_
  rintro e w1 ⟨rfl, hb1⟩
  by_cases hq : q = 0
  · obtain rfl := hq
    have e0 : w1.cell? ⟨b, o + k * 5, none⟩ = some (.int .i64 x.id) := (hb1.cell (p := ⟨b, o + k * 5, none⟩) hb).trans (HEE.out 0 _ rfl)
    have e1 : w1.cell? ⟨b, o + k * 5 + 1, none⟩ = some (.bool x.apart) := (hb1.cell (p := ⟨b, o + k * 5 + 1, none⟩) hb).trans (HEE.out 1 _ rfl)
    have e2 : w1.cell? ⟨b, o + k * 5 + 2, none⟩ = some (.int .i64 x.skew) := (hb1.cell (p := ⟨b, o + k * 5 + 2, none⟩) hb).trans (HEE.out 2 _ rfl)
    have e3 : w1.cell? ⟨b, o + k * 5 + 3, none⟩ = some (.int .i64 x.min) := (hb1.cell (p := ⟨b, o + k * 5 + 3, none⟩) hb).trans (HEE.out 3 _ rfl)
    have e4 : w1.cell? ⟨b, o + k * 5 + 4, none⟩ = some (.int .i64 x.max) := (hb1.cell (p := ⟨b, o + k * 5 + 4, none⟩) hb).trans (HEE.out 4 _ rfl)
    go_wp2_with fail
    refine (idL_any x _).mono ?_
    rintro e w2 ⟨rfl, hb2⟩
    have kk : Below w.heap.size w w2 := hb1.trans (hb2.mono hb1.size)
    go_wp2_with fail
    refine (within_any _ _ _ _).mono ?_
    rintro e w2 ⟨rfl, rfl⟩
    by_cases hi : inB x.id 1 2147483647 = true
    · have HE := Lib.hid (show idI 0 x.id = 0 by simp [idI, hi])
      go_wp2
      go_ret
      exact ⟨ret_int HE.out.symm, kk⟩
    · have hi' : inB x.id 1 2147483647 = false := by simpa using hi
      have HE := Lib.hid (show idI 0 x.id = 1 by simp [idI, hi'])
      clear hi
      go_wp2
      go_ret
      exact ⟨ret_int HE.out.symm, kk⟩
  · have hm : (q != 0) = true := by simpa using hq
    have HE := Lib.hid (show idI q x.id = q by simp [idI, hq])
    clear hq
    go_wp2
    go_ret
    exact ⟨ret_int HE.out.symm, hb1⟩

set_option maxHeartbeats 1600000 in
theorem idFaultP_any (l : List PodD) (k : Nat) (A : Option Addr) (n c : Nat) (w : World) (hn : n = l.length) (hl : n ≤ 1000) (hk : k < l.length) (hr : Recs 8 cellsP w w.heap.size A l) :
    Calls Tryd.prog 56 #[.slice A n c, .int .i64 (k : Int), .func (.func 36) #[] #[]] w fun e w' => e = .returned (.int .i64 (idI (ordAt PodD.id l k) l[k].id)) ∧ Below w.heap.size w w' := by
  have HO := Lib.hid (orderP_any l k A n c w hn hl hk hr)
  obtain ⟨b, o, rfl, hb, he⟩ := hr.at hk
  have hkn : (k : Int) < (n : Int) := by omega
  have hk0 : (0 : Int) ≤ (k : Int) := by omega
  generalize l[k] = x at *
  generalize ordAt PodD.id l k = q at *
  have HEE := Lib.hid he
  clear he hn hr hk
  go_enter Tryd.func56, Tryd.ntmps56
  go_wp2_with fail
  refine HO.out.mono ?_
  rintro e w1 ⟨rfl, hb1⟩
  by_cases hq : q = 0
  · obtain rfl := hq
    have e0 : w1.cell? ⟨b, o + k * 8, none⟩ = some (.int .i64 x.id) := (hb1.cell (p := ⟨b, o + k * 8, none⟩) hb).trans (HEE.out 0 _ rfl)
    have e1 : w1.cell? ⟨b, o + k * 8 + 1, none⟩ = some (.int .i64 x.load) := (hb1.cell (p := ⟨b, o + k * 8 + 1, none⟩) hb).trans (HEE.out 1 _ rfl)
    have e2 : w1.cell? ⟨b, o + k * 8 + 2, none⟩ = some (.int .i64 x.prio) := (hb1.cell (p := ⟨b, o + k * 8 + 2, none⟩) hb).trans (HEE.out 2 _ rfl)
    have e3 : w1.cell? ⟨b, o + k * 8 + 3, none⟩ = some (.int .u64 x.req.a) := (hb1.cell (p := ⟨b, o + k * 8 + 3, none⟩) hb).trans (HEE.out 3 _ rfl)
    have e4 : w1.cell? ⟨b, o + k * 8 + 4, none⟩ = some (.int .u64 x.req.b) := (hb1.cell (p := ⟨b, o + k * 8 + 4, none⟩) hb).trans (HEE.out 4 _ rfl)
    have e5 : w1.cell? ⟨b, o + k * 8 + 5, none⟩ = some (.int .u64 x.req.c) := (hb1.cell (p := ⟨b, o + k * 8 + 5, none⟩) hb).trans (HEE.out 5 _ rfl)
    have e6 : w1.cell? ⟨b, o + k * 8 + 6, none⟩ = some (.int .u64 x.req.d) := (hb1.cell (p := ⟨b, o + k * 8 + 6, none⟩) hb).trans (HEE.out 6 _ rfl)
    have e7 : w1.cell? ⟨b, o + k * 8 + 7, none⟩ = some (.int .i64 x.node) := (hb1.cell (p := ⟨b, o + k * 8 + 7, none⟩) hb).trans (HEE.out 7 _ rfl)
    go_wp2_with fail
    refine (idP_any x _).mono ?_
    rintro e w2 ⟨rfl, hb2⟩
    have kk : Below w.heap.size w w2 := hb1.trans (hb2.mono hb1.size)
    go_wp2_with fail
    refine (within_any _ _ _ _).mono ?_
    rintro e w2 ⟨rfl, rfl⟩
    by_cases hi : inB x.id 1 2147483647 = true
    · have HE := Lib.hid (show idI 0 x.id = 0 by simp [idI, hi])
      go_wp2
      go_ret
      exact ⟨ret_int HE.out.symm, kk⟩
    · have hi' : inB x.id 1 2147483647 = false := by simpa using hi
      have HE := Lib.hid (show idI 0 x.id = 1 by simp [idI, hi'])
      clear hi
      go_wp2
      go_ret
      exact ⟨ret_int HE.out.symm, kk⟩
  · have hm : (q != 0) = true := by simpa using hq
    have HE := Lib.hid (show idI q x.id = q by simp [idI, hq])
    clear hq
    go_wp2
    go_ret
    exact ⟨ret_int HE.out.symm, hb1⟩

end Go.Proofs.YtaeklohgheildaaDoor
