/- The program's orderFault and idFault, at each kind of record. -/
import Derived.Test.YtaeklohgheildaaDoorDA
import Derived.IntWalk
namespace Go.Proofs.YtaeklohgheildaaDoor
open Go.RowKit
set_option linter.unusedVariables false

/-- What a region with loads and calls keeps: all blocks that there were are as they were. -/
def Keeps (W : World) (w' : World) : Prop := (∀ b o, b < W.heap.size → w'.cell? ⟨b, o, none⟩ = W.cell? ⟨b, o, none⟩) ∧ Below W.heap.size W w'
theorem Keeps.of {W v : World} (k : Below W.heap.size W v) : Keeps W v := ⟨fun b o h => k.cell (p := ⟨b, o, none⟩) h, k⟩
theorem Keeps.step {W v v' : World} (h : Keeps W v) (hb : Below v.heap.size v v') : Keeps W v' := Keeps.of (h.2.trans (hb.mono h.2.size))
theorem Keeps.alloc {W v : World} (h : Keeps W v) (o : Obj) : Keeps W (v.alloc o) := Keeps.of (h.2.alloc h.2.size o)

/-- What is amiss with an Id beside the one ahead. -/
def ordI (last n : Int) : Int := if n = last then 5 else if n < last then 1 else 0
def idI (order n : Int) : Int := if order = 0 then (if inB n 1 2147483647 = true then 0 else 1) else order

set_option maxHeartbeats 1600000 in
theorem orderN_first (A : Option Addr) (n c : Nat) (f : Value) (w : World) :
    Calls Tryd.prog 67 #[.slice A n c, .int .i64 0, f] w fun e w' => e = .returned (.int .i64 0) ∧ w = w' := by
  go_enter Tryd.func67, Tryd.ntmps67
  go_wp2
  go_ret
  exact ⟨rfl, rfl⟩
set_option maxHeartbeats 3200000 in
set_option maxRecDepth 100000 in
theorem orderN_next (l : List NodeD) (j : Nat) (A : Option Addr) (n c : Nat) (w : World) (hn : n = l.length) (hl : n ≤ 1000) (hj : j + 1 < l.length) (hr : Recs 10 cellsN w w.heap.size A l) :
    Calls Tryd.prog 67 #[.slice A n c, .int .i64 ((j : Int) + 1), .func (.func 30) #[] #[]] w fun e w' => e = .returned (.int .i64 (ordI l[j].id l[j + 1].id)) ∧ Below w.heap.size w w' := by
  obtain ⟨b, o, rfl, hb, he⟩ := hr.at hj
  obtain ⟨b', o', h1, _, hf⟩ := hr.at (show j < l.length by omega)
  injection h1 with h1
  injection h1 with h1 h2 _
  subst h1 h2
  generalize l[j + 1] = x at *
  generalize l[j] = y at *
  have e0 : w.cell? ⟨b, o + (j + 1) * 10, none⟩ = some (.int .i64 x.id) := he 0 _ rfl
  have e1 : w.cell? ⟨b, o + (j + 1) * 10 + 1, none⟩ = some (.int .i64 x.zone) := he 1 _ rfl
  have e2 : w.cell? ⟨b, o + (j + 1) * 10 + 2, none⟩ = some (.int .u64 x.cap.a) := he 2 _ rfl
  have e3 : w.cell? ⟨b, o + (j + 1) * 10 + 3, none⟩ = some (.int .u64 x.cap.b) := he 3 _ rfl
  have e4 : w.cell? ⟨b, o + (j + 1) * 10 + 4, none⟩ = some (.int .u64 x.cap.c) := he 4 _ rfl
  have e5 : w.cell? ⟨b, o + (j + 1) * 10 + 5, none⟩ = some (.int .u64 x.cap.d) := he 5 _ rfl
  have e6 : w.cell? ⟨b, o + (j + 1) * 10 + 6, none⟩ = some (.int .u64 x.held.a) := he 6 _ rfl
  have e7 : w.cell? ⟨b, o + (j + 1) * 10 + 7, none⟩ = some (.int .u64 x.held.b) := he 7 _ rfl
  have e8 : w.cell? ⟨b, o + (j + 1) * 10 + 8, none⟩ = some (.int .u64 x.held.c) := he 8 _ rfl
  have e9 : w.cell? ⟨b, o + (j + 1) * 10 + 9, none⟩ = some (.int .u64 x.held.d) := he 9 _ rfl
  have f0 : w.cell? ⟨b, o + j * 10, none⟩ = some (.int .i64 y.id) := hf 0 _ rfl
  have f1 : w.cell? ⟨b, o + j * 10 + 1, none⟩ = some (.int .i64 y.zone) := hf 1 _ rfl
  have f2 : w.cell? ⟨b, o + j * 10 + 2, none⟩ = some (.int .u64 y.cap.a) := hf 2 _ rfl
  have f3 : w.cell? ⟨b, o + j * 10 + 3, none⟩ = some (.int .u64 y.cap.b) := hf 3 _ rfl
  have f4 : w.cell? ⟨b, o + j * 10 + 4, none⟩ = some (.int .u64 y.cap.c) := hf 4 _ rfl
  have f5 : w.cell? ⟨b, o + j * 10 + 5, none⟩ = some (.int .u64 y.cap.d) := hf 5 _ rfl
  have f6 : w.cell? ⟨b, o + j * 10 + 6, none⟩ = some (.int .u64 y.held.a) := hf 6 _ rfl
  have f7 : w.cell? ⟨b, o + j * 10 + 7, none⟩ = some (.int .u64 y.held.b) := hf 7 _ rfl
  have f8 : w.cell? ⟨b, o + j * 10 + 8, none⟩ = some (.int .u64 y.held.c) := hf 8 _ rfl
  have f9 : w.cell? ⟨b, o + j * 10 + 9, none⟩ = some (.int .u64 y.held.d) := hf 9 _ rfl
  have hjn : (j : Int) + 1 < (n : Int) := by omega
  have hj1 : (j : Int) < (n : Int) := by omega
  have hj0 : (0 : Int) ≤ (j : Int) := by omega
  have hj2 : (0 : Int) ≤ (j : Int) + 1 := by omega
  have hjk : (j : Int) + 1 ≤ 1000 := by omega
  have hjz : ((j : Int) + 1 == 0) = false := by rw [beq_eq_false_iff_ne]; omega
  have s1 : IntKind.i64.wrap ((j : Int) + 1 - 1) = (j : Int) := by rw [IntWalk.i64_in _ (by omega)]; omega
  have s2 : IntKind.i64.wrap (j : Int) = (j : Int) := IntWalk.i64_in _ (by omega)
  have s3 : ((j : Int) + 1).toNat = j + 1 := by omega
  clear he hf hn hr hj
  by_cases hlt : x.id < y.id
  · have HE := Lib.hid (show ordI y.id x.id = 1 by unfold ordI; rw [if_neg (by omega), if_pos hlt])
    have HC : cmpI x.id y.id = -1 := by unfold cmpI; rw [if_pos hlt]
    go_enter Tryd.func67, Tryd.ntmps67
    go_wp2
    go_region_held3 (fun w' => (∀ b o, b < w.heap.size → w'.cell? ⟨b, o, none⟩ = w.cell? ⟨b, o, none⟩) ∧ Below w.heap.size w w')
      (first | (with_reducible assumption) | exact Keeps.of (Below.drew (Below.refl _ _)) | exact Keeps.step (by assumption) (by assumption))
      (first
        | (go_at_call 30; first
            | ((with_reducible refine (idN_any x _).mono ?_); rintro e w' ⟨rfl, hb⟩)
            | ((with_reducible refine (idN_any y _).mono ?_); rintro e w' ⟨rfl, hb⟩))
        | (go_at_call 57; (with_reducible refine (compare_any _ _ _).mono ?_); rintro e w' ⟨rfl, rfl⟩))
    clear s1 s2 s3
    go_wp2
    go_ret
    exact ⟨ret_int HE.out.symm, (by assumption : Keeps w _).2⟩
  · by_cases heq : x.id = y.id
    · have HE := Lib.hid (show ordI y.id x.id = 5 by unfold ordI; rw [if_pos heq])
      have HC : cmpI x.id y.id = 0 := by unfold cmpI; rw [if_neg hlt, if_neg (by omega)]
      clear heq
      go_enter Tryd.func67, Tryd.ntmps67
      go_wp2
      go_region_held3 (fun w' => (∀ b o, b < w.heap.size → w'.cell? ⟨b, o, none⟩ = w.cell? ⟨b, o, none⟩) ∧ Below w.heap.size w w')
        (first | (with_reducible assumption) | exact Keeps.of (Below.drew (Below.refl _ _)) | exact Keeps.step (by assumption) (by assumption))
        (first
          | (go_at_call 30; first
              | ((with_reducible refine (idN_any x _).mono ?_); rintro e w' ⟨rfl, hb⟩)
              | ((with_reducible refine (idN_any y _).mono ?_); rintro e w' ⟨rfl, hb⟩))
          | (go_at_call 57; (with_reducible refine (compare_any _ _ _).mono ?_); rintro e w' ⟨rfl, rfl⟩))
      clear s1 s2 s3
      go_wp2
      go_ret
      exact ⟨ret_int HE.out.symm, (by assumption : Keeps w _).2⟩
    · have HE := Lib.hid (show ordI y.id x.id = 0 by unfold ordI; rw [if_neg heq, if_neg hlt])
      have HC : cmpI x.id y.id = 1 := by unfold cmpI; rw [if_neg hlt, if_pos (by omega)]
      go_enter Tryd.func67, Tryd.ntmps67
      go_wp2
      go_region_held3 (fun w' => (∀ b o, b < w.heap.size → w'.cell? ⟨b, o, none⟩ = w.cell? ⟨b, o, none⟩) ∧ Below w.heap.size w w')
        (first | (with_reducible assumption) | exact Keeps.of (Below.drew (Below.refl _ _)) | exact Keeps.step (by assumption) (by assumption))
        (first
          | (go_at_call 30; first
              | ((with_reducible refine (idN_any x _).mono ?_); rintro e w' ⟨rfl, hb⟩)
              | ((with_reducible refine (idN_any y _).mono ?_); rintro e w' ⟨rfl, hb⟩))
          | (go_at_call 57; (with_reducible refine (compare_any _ _ _).mono ?_); rintro e w' ⟨rfl, rfl⟩))
      clear s1 s2 s3
      go_wp2
      go_ret
      exact ⟨ret_int HE.out.symm, (by assumption : Keeps w _).2⟩

set_option maxHeartbeats 1600000 in
theorem orderL_first (A : Option Addr) (n c : Nat) (f : Value) (w : World) :
    Calls Tryd.prog 68 #[.slice A n c, .int .i64 0, f] w fun e w' => e = .returned (.int .i64 0) ∧ w = w' := by
  go_enter Tryd.func68, Tryd.ntmps68
  go_wp2
  go_ret
  exact ⟨rfl, rfl⟩
set_option maxHeartbeats 3200000 in
set_option maxRecDepth 100000 in
theorem orderL_next (l : List LoadD) (j : Nat) (A : Option Addr) (n c : Nat) (w : World) (hn : n = l.length) (hl : n ≤ 1000) (hj : j + 1 < l.length) (hr : Recs 5 cellsL w w.heap.size A l) :
    Calls Tryd.prog 68 #[.slice A n c, .int .i64 ((j : Int) + 1), .func (.func 33) #[] #[]] w fun e w' => e = .returned (.int .i64 (ordI l[j].id l[j + 1].id)) ∧ Below w.heap.size w w' := by
  obtain ⟨b, o, rfl, hb, he⟩ := hr.at hj
  obtain ⟨b', o', h1, _, hf⟩ := hr.at (show j < l.length by omega)
  injection h1 with h1
  injection h1 with h1 h2 _
  subst h1 h2
  generalize l[j + 1] = x at *
  generalize l[j] = y at *
  have e0 : w.cell? ⟨b, o + (j + 1) * 5, none⟩ = some (.int .i64 x.id) := he 0 _ rfl
  have e1 : w.cell? ⟨b, o + (j + 1) * 5 + 1, none⟩ = some (.bool x.apart) := he 1 _ rfl
  have e2 : w.cell? ⟨b, o + (j + 1) * 5 + 2, none⟩ = some (.int .i64 x.skew) := he 2 _ rfl
  have e3 : w.cell? ⟨b, o + (j + 1) * 5 + 3, none⟩ = some (.int .i64 x.min) := he 3 _ rfl
  have e4 : w.cell? ⟨b, o + (j + 1) * 5 + 4, none⟩ = some (.int .i64 x.max) := he 4 _ rfl
  have f0 : w.cell? ⟨b, o + j * 5, none⟩ = some (.int .i64 y.id) := hf 0 _ rfl
  have f1 : w.cell? ⟨b, o + j * 5 + 1, none⟩ = some (.bool y.apart) := hf 1 _ rfl
  have f2 : w.cell? ⟨b, o + j * 5 + 2, none⟩ = some (.int .i64 y.skew) := hf 2 _ rfl
  have f3 : w.cell? ⟨b, o + j * 5 + 3, none⟩ = some (.int .i64 y.min) := hf 3 _ rfl
  have f4 : w.cell? ⟨b, o + j * 5 + 4, none⟩ = some (.int .i64 y.max) := hf 4 _ rfl
  have hjn : (j : Int) + 1 < (n : Int) := by omega
  have hj1 : (j : Int) < (n : Int) := by omega
  have hj0 : (0 : Int) ≤ (j : Int) := by omega
  have hj2 : (0 : Int) ≤ (j : Int) + 1 := by omega
  have hjk : (j : Int) + 1 ≤ 1000 := by omega
  have hjz : ((j : Int) + 1 == 0) = false := by rw [beq_eq_false_iff_ne]; omega
  have s1 : IntKind.i64.wrap ((j : Int) + 1 - 1) = (j : Int) := by rw [IntWalk.i64_in _ (by omega)]; omega
  have s2 : IntKind.i64.wrap (j : Int) = (j : Int) := IntWalk.i64_in _ (by omega)
  have s3 : ((j : Int) + 1).toNat = j + 1 := by omega
  clear he hf hn hr hj
  by_cases hlt : x.id < y.id
  · have HE := Lib.hid (show ordI y.id x.id = 1 by unfold ordI; rw [if_neg (by omega), if_pos hlt])
    have HC : cmpI x.id y.id = -1 := by unfold cmpI; rw [if_pos hlt]
    go_enter Tryd.func68, Tryd.ntmps68
    go_wp2
    go_region_held3 (fun w' => (∀ b o, b < w.heap.size → w'.cell? ⟨b, o, none⟩ = w.cell? ⟨b, o, none⟩) ∧ Below w.heap.size w w')
      (first | (with_reducible assumption) | exact Keeps.of (Below.drew (Below.refl _ _)) | exact Keeps.step (by assumption) (by assumption))
      (first
        | (go_at_call 33; first
            | ((with_reducible refine (idL_any x _).mono ?_); rintro e w' ⟨rfl, hb⟩)
            | ((with_reducible refine (idL_any y _).mono ?_); rintro e w' ⟨rfl, hb⟩))
        | (go_at_call 57; (with_reducible refine (compare_any _ _ _).mono ?_); rintro e w' ⟨rfl, rfl⟩))
    clear s1 s2 s3
    go_wp2
    go_ret
    exact ⟨ret_int HE.out.symm, (by assumption : Keeps w _).2⟩
  · by_cases heq : x.id = y.id
    · have HE := Lib.hid (show ordI y.id x.id = 5 by unfold ordI; rw [if_pos heq])
      have HC : cmpI x.id y.id = 0 := by unfold cmpI; rw [if_neg hlt, if_neg (by omega)]
      clear heq
      go_enter Tryd.func68, Tryd.ntmps68
      go_wp2
      go_region_held3 (fun w' => (∀ b o, b < w.heap.size → w'.cell? ⟨b, o, none⟩ = w.cell? ⟨b, o, none⟩) ∧ Below w.heap.size w w')
        (first | (with_reducible assumption) | exact Keeps.of (Below.drew (Below.refl _ _)) | exact Keeps.step (by assumption) (by assumption))
        (first
          | (go_at_call 33; first
              | ((with_reducible refine (idL_any x _).mono ?_); rintro e w' ⟨rfl, hb⟩)
              | ((with_reducible refine (idL_any y _).mono ?_); rintro e w' ⟨rfl, hb⟩))
          | (go_at_call 57; (with_reducible refine (compare_any _ _ _).mono ?_); rintro e w' ⟨rfl, rfl⟩))
      clear s1 s2 s3
      go_wp2
      go_ret
      exact ⟨ret_int HE.out.symm, (by assumption : Keeps w _).2⟩
    · have HE := Lib.hid (show ordI y.id x.id = 0 by unfold ordI; rw [if_neg heq, if_neg hlt])
      have HC : cmpI x.id y.id = 1 := by unfold cmpI; rw [if_neg hlt, if_pos (by omega)]
      go_enter Tryd.func68, Tryd.ntmps68
      go_wp2
      go_region_held3 (fun w' => (∀ b o, b < w.heap.size → w'.cell? ⟨b, o, none⟩ = w.cell? ⟨b, o, none⟩) ∧ Below w.heap.size w w')
        (first | (with_reducible assumption) | exact Keeps.of (Below.drew (Below.refl _ _)) | exact Keeps.step (by assumption) (by assumption))
        (first
          | (go_at_call 33; first
              | ((with_reducible refine (idL_any x _).mono ?_); rintro e w' ⟨rfl, hb⟩)
              | ((with_reducible refine (idL_any y _).mono ?_); rintro e w' ⟨rfl, hb⟩))
          | (go_at_call 57; (with_reducible refine (compare_any _ _ _).mono ?_); rintro e w' ⟨rfl, rfl⟩))
      clear s1 s2 s3
      go_wp2
      go_ret
      exact ⟨ret_int HE.out.symm, (by assumption : Keeps w _).2⟩

set_option maxHeartbeats 1600000 in
theorem orderP_first (A : Option Addr) (n c : Nat) (f : Value) (w : World) :
    Calls Tryd.prog 69 #[.slice A n c, .int .i64 0, f] w fun e w' => e = .returned (.int .i64 0) ∧ w = w' := by
  go_enter Tryd.func69, Tryd.ntmps69
  go_wp2
  go_ret
  exact ⟨rfl, rfl⟩
set_option maxHeartbeats 3200000 in
set_option maxRecDepth 100000 in
theorem orderP_next (l : List PodD) (j : Nat) (A : Option Addr) (n c : Nat) (w : World) (hn : n = l.length) (hl : n ≤ 1000) (hj : j + 1 < l.length) (hr : Recs 8 cellsP w w.heap.size A l) :
    Calls Tryd.prog 69 #[.slice A n c, .int .i64 ((j : Int) + 1), .func (.func 36) #[] #[]] w fun e w' => e = .returned (.int .i64 (ordI l[j].id l[j + 1].id)) ∧ Below w.heap.size w w' := by
  obtain ⟨b, o, rfl, hb, he⟩ := hr.at hj
  obtain ⟨b', o', h1, _, hf⟩ := hr.at (show j < l.length by omega)
  injection h1 with h1
  injection h1 with h1 h2 _
  subst h1 h2
  generalize l[j + 1] = x at *
  generalize l[j] = y at *
  have e0 : w.cell? ⟨b, o + (j + 1) * 8, none⟩ = some (.int .i64 x.id) := he 0 _ rfl
  have e1 : w.cell? ⟨b, o + (j + 1) * 8 + 1, none⟩ = some (.int .i64 x.load) := he 1 _ rfl
  have e2 : w.cell? ⟨b, o + (j + 1) * 8 + 2, none⟩ = some (.int .i64 x.prio) := he 2 _ rfl
  have e3 : w.cell? ⟨b, o + (j + 1) * 8 + 3, none⟩ = some (.int .u64 x.req.a) := he 3 _ rfl
  have e4 : w.cell? ⟨b, o + (j + 1) * 8 + 4, none⟩ = some (.int .u64 x.req.b) := he 4 _ rfl
  have e5 : w.cell? ⟨b, o + (j + 1) * 8 + 5, none⟩ = some (.int .u64 x.req.c) := he 5 _ rfl
  have e6 : w.cell? ⟨b, o + (j + 1) * 8 + 6, none⟩ = some (.int .u64 x.req.d) := he 6 _ rfl
  have e7 : w.cell? ⟨b, o + (j + 1) * 8 + 7, none⟩ = some (.int .i64 x.node) := he 7 _ rfl
  have f0 : w.cell? ⟨b, o + j * 8, none⟩ = some (.int .i64 y.id) := hf 0 _ rfl
  have f1 : w.cell? ⟨b, o + j * 8 + 1, none⟩ = some (.int .i64 y.load) := hf 1 _ rfl
  have f2 : w.cell? ⟨b, o + j * 8 + 2, none⟩ = some (.int .i64 y.prio) := hf 2 _ rfl
  have f3 : w.cell? ⟨b, o + j * 8 + 3, none⟩ = some (.int .u64 y.req.a) := hf 3 _ rfl
  have f4 : w.cell? ⟨b, o + j * 8 + 4, none⟩ = some (.int .u64 y.req.b) := hf 4 _ rfl
  have f5 : w.cell? ⟨b, o + j * 8 + 5, none⟩ = some (.int .u64 y.req.c) := hf 5 _ rfl
  have f6 : w.cell? ⟨b, o + j * 8 + 6, none⟩ = some (.int .u64 y.req.d) := hf 6 _ rfl
  have f7 : w.cell? ⟨b, o + j * 8 + 7, none⟩ = some (.int .i64 y.node) := hf 7 _ rfl
  have hjn : (j : Int) + 1 < (n : Int) := by omega
  have hj1 : (j : Int) < (n : Int) := by omega
  have hj0 : (0 : Int) ≤ (j : Int) := by omega
  have hj2 : (0 : Int) ≤ (j : Int) + 1 := by omega
  have hjk : (j : Int) + 1 ≤ 1000 := by omega
  have hjz : ((j : Int) + 1 == 0) = false := by rw [beq_eq_false_iff_ne]; omega
  have s1 : IntKind.i64.wrap ((j : Int) + 1 - 1) = (j : Int) := by rw [IntWalk.i64_in _ (by omega)]; omega
  have s2 : IntKind.i64.wrap (j : Int) = (j : Int) := IntWalk.i64_in _ (by omega)
  have s3 : ((j : Int) + 1).toNat = j + 1 := by omega
  clear he hf hn hr hj
  by_cases hlt : x.id < y.id
  · have HE := Lib.hid (show ordI y.id x.id = 1 by unfold ordI; rw [if_neg (by omega), if_pos hlt])
    have HC : cmpI x.id y.id = -1 := by unfold cmpI; rw [if_pos hlt]
    go_enter Tryd.func69, Tryd.ntmps69
    go_wp2
    go_region_held3 (fun w' => (∀ b o, b < w.heap.size → w'.cell? ⟨b, o, none⟩ = w.cell? ⟨b, o, none⟩) ∧ Below w.heap.size w w')
      (first | (with_reducible assumption) | exact Keeps.of (Below.drew (Below.refl _ _)) | exact Keeps.step (by assumption) (by assumption))
      (first
        | (go_at_call 36; first
            | ((with_reducible refine (idP_any x _).mono ?_); rintro e w' ⟨rfl, hb⟩)
            | ((with_reducible refine (idP_any y _).mono ?_); rintro e w' ⟨rfl, hb⟩))
        | (go_at_call 57; (with_reducible refine (compare_any _ _ _).mono ?_); rintro e w' ⟨rfl, rfl⟩))
    clear s1 s2 s3
    go_wp2
    go_ret
    exact ⟨ret_int HE.out.symm, (by assumption : Keeps w _).2⟩
  · by_cases heq : x.id = y.id
    · have HE := Lib.hid (show ordI y.id x.id = 5 by unfold ordI; rw [if_pos heq])
      have HC : cmpI x.id y.id = 0 := by unfold cmpI; rw [if_neg hlt, if_neg (by omega)]
      clear heq
      go_enter Tryd.func69, Tryd.ntmps69
      go_wp2
      go_region_held3 (fun w' => (∀ b o, b < w.heap.size → w'.cell? ⟨b, o, none⟩ = w.cell? ⟨b, o, none⟩) ∧ Below w.heap.size w w')
        (first | (with_reducible assumption) | exact Keeps.of (Below.drew (Below.refl _ _)) | exact Keeps.step (by assumption) (by assumption))
        (first
          | (go_at_call 36; first
              | ((with_reducible refine (idP_any x _).mono ?_); rintro e w' ⟨rfl, hb⟩)
              | ((with_reducible refine (idP_any y _).mono ?_); rintro e w' ⟨rfl, hb⟩))
          | (go_at_call 57; (with_reducible refine (compare_any _ _ _).mono ?_); rintro e w' ⟨rfl, rfl⟩))
      clear s1 s2 s3
      go_wp2
      go_ret
      exact ⟨ret_int HE.out.symm, (by assumption : Keeps w _).2⟩
    · have HE := Lib.hid (show ordI y.id x.id = 0 by unfold ordI; rw [if_neg heq, if_neg hlt])
      have HC : cmpI x.id y.id = 1 := by unfold cmpI; rw [if_neg hlt, if_pos (by omega)]
      go_enter Tryd.func69, Tryd.ntmps69
      go_wp2
      go_region_held3 (fun w' => (∀ b o, b < w.heap.size → w'.cell? ⟨b, o, none⟩ = w.cell? ⟨b, o, none⟩) ∧ Below w.heap.size w w')
        (first | (with_reducible assumption) | exact Keeps.of (Below.drew (Below.refl _ _)) | exact Keeps.step (by assumption) (by assumption))
        (first
          | (go_at_call 36; first
              | ((with_reducible refine (idP_any x _).mono ?_); rintro e w' ⟨rfl, hb⟩)
              | ((with_reducible refine (idP_any y _).mono ?_); rintro e w' ⟨rfl, hb⟩))
          | (go_at_call 57; (with_reducible refine (compare_any _ _ _).mono ?_); rintro e w' ⟨rfl, rfl⟩))
      clear s1 s2 s3
      go_wp2
      go_ret
      exact ⟨ret_int HE.out.symm, (by assumption : Keeps w _).2⟩

set_option maxHeartbeats 1600000 in
theorem orderW_first (A : Option Addr) (n c : Nat) (f : Value) (w : World) :
    Calls Tryd.prog 41 #[.slice A n c, .int .i64 0, f] w fun e w' => e = .returned (.int .i64 0) ∧ w = w' := by
  go_enter Tryd.func41, Tryd.ntmps41
  go_wp2
  go_ret
  exact ⟨rfl, rfl⟩
set_option maxHeartbeats 3200000 in
set_option maxRecDepth 100000 in
theorem orderW_next (l : List WantD) (j : Nat) (A : Option Addr) (n c : Nat) (w : World) (hn : n = l.length) (hl : n ≤ 1000) (hj : j + 1 < l.length) (hr : Recs 6 cellsW w w.heap.size A l) :
    Calls Tryd.prog 41 #[.slice A n c, .int .i64 ((j : Int) + 1), .func (.func 42) #[] #[]] w fun e w' => e = .returned (.int .i64 (ordI l[j].pod l[j + 1].pod)) ∧ Below w.heap.size w w' := by
  obtain ⟨b, o, rfl, hb, he⟩ := hr.at hj
  obtain ⟨b', o', h1, _, hf⟩ := hr.at (show j < l.length by omega)
  injection h1 with h1
  injection h1 with h1 h2 _
  subst h1 h2
  generalize l[j + 1] = x at *
  generalize l[j] = y at *
  have e0 : w.cell? ⟨b, o + (j + 1) * 6, none⟩ = some (.int .i64 x.pod) := he 0 _ rfl
  have e1 : w.cell? ⟨b, o + (j + 1) * 6 + 1, none⟩ = some (.int .u64 x.req.a) := he 1 _ rfl
  have e2 : w.cell? ⟨b, o + (j + 1) * 6 + 2, none⟩ = some (.int .u64 x.req.b) := he 2 _ rfl
  have e3 : w.cell? ⟨b, o + (j + 1) * 6 + 3, none⟩ = some (.int .u64 x.req.c) := he 3 _ rfl
  have e4 : w.cell? ⟨b, o + (j + 1) * 6 + 4, none⟩ = some (.int .u64 x.req.d) := he 4 _ rfl
  have e5 : w.cell? ⟨b, o + (j + 1) * 6 + 5, none⟩ = some (.bool x.stay) := he 5 _ rfl
  have f0 : w.cell? ⟨b, o + j * 6, none⟩ = some (.int .i64 y.pod) := hf 0 _ rfl
  have f1 : w.cell? ⟨b, o + j * 6 + 1, none⟩ = some (.int .u64 y.req.a) := hf 1 _ rfl
  have f2 : w.cell? ⟨b, o + j * 6 + 2, none⟩ = some (.int .u64 y.req.b) := hf 2 _ rfl
  have f3 : w.cell? ⟨b, o + j * 6 + 3, none⟩ = some (.int .u64 y.req.c) := hf 3 _ rfl
  have f4 : w.cell? ⟨b, o + j * 6 + 4, none⟩ = some (.int .u64 y.req.d) := hf 4 _ rfl
  have f5 : w.cell? ⟨b, o + j * 6 + 5, none⟩ = some (.bool y.stay) := hf 5 _ rfl
  have hjn : (j : Int) + 1 < (n : Int) := by omega
  have hj1 : (j : Int) < (n : Int) := by omega
  have hj0 : (0 : Int) ≤ (j : Int) := by omega
  have hj2 : (0 : Int) ≤ (j : Int) + 1 := by omega
  have hjk : (j : Int) + 1 ≤ 1000 := by omega
  have hjz : ((j : Int) + 1 == 0) = false := by rw [beq_eq_false_iff_ne]; omega
  have s1 : IntKind.i64.wrap ((j : Int) + 1 - 1) = (j : Int) := by rw [IntWalk.i64_in _ (by omega)]; omega
  have s2 : IntKind.i64.wrap (j : Int) = (j : Int) := IntWalk.i64_in _ (by omega)
  have s3 : ((j : Int) + 1).toNat = j + 1 := by omega
  clear he hf hn hr hj
  by_cases hlt : x.pod < y.pod
  · have HE := Lib.hid (show ordI y.pod x.pod = 1 by unfold ordI; rw [if_neg (by omega), if_pos hlt])
    have HC : cmpI x.pod y.pod = -1 := by unfold cmpI; rw [if_pos hlt]
    go_enter Tryd.func41, Tryd.ntmps41
    go_wp2
    go_region_held3 (fun w' => (∀ b o, b < w.heap.size → w'.cell? ⟨b, o, none⟩ = w.cell? ⟨b, o, none⟩) ∧ Below w.heap.size w w')
      (first | (with_reducible assumption) | exact Keeps.of (Below.drew (Below.refl _ _)) | exact Keeps.step (by assumption) (by assumption))
      (first
        | (go_at_call 42; first
            | ((with_reducible refine (idW_any x _).mono ?_); rintro e w' ⟨rfl, hb⟩)
            | ((with_reducible refine (idW_any y _).mono ?_); rintro e w' ⟨rfl, hb⟩))
        | (go_at_call 57; (with_reducible refine (compare_any _ _ _).mono ?_); rintro e w' ⟨rfl, rfl⟩))
    clear s1 s2 s3
    go_wp2
    go_ret
    exact ⟨ret_int HE.out.symm, (by assumption : Keeps w _).2⟩
  · by_cases heq : x.pod = y.pod
    · have HE := Lib.hid (show ordI y.pod x.pod = 5 by unfold ordI; rw [if_pos heq])
      have HC : cmpI x.pod y.pod = 0 := by unfold cmpI; rw [if_neg hlt, if_neg (by omega)]
      clear heq
      go_enter Tryd.func41, Tryd.ntmps41
      go_wp2
      go_region_held3 (fun w' => (∀ b o, b < w.heap.size → w'.cell? ⟨b, o, none⟩ = w.cell? ⟨b, o, none⟩) ∧ Below w.heap.size w w')
        (first | (with_reducible assumption) | exact Keeps.of (Below.drew (Below.refl _ _)) | exact Keeps.step (by assumption) (by assumption))
        (first
          | (go_at_call 42; first
              | ((with_reducible refine (idW_any x _).mono ?_); rintro e w' ⟨rfl, hb⟩)
              | ((with_reducible refine (idW_any y _).mono ?_); rintro e w' ⟨rfl, hb⟩))
          | (go_at_call 57; (with_reducible refine (compare_any _ _ _).mono ?_); rintro e w' ⟨rfl, rfl⟩))
      clear s1 s2 s3
      go_wp2
      go_ret
      exact ⟨ret_int HE.out.symm, (by assumption : Keeps w _).2⟩
    · have HE := Lib.hid (show ordI y.pod x.pod = 0 by unfold ordI; rw [if_neg heq, if_neg hlt])
      have HC : cmpI x.pod y.pod = 1 := by unfold cmpI; rw [if_neg hlt, if_pos (by omega)]
      go_enter Tryd.func41, Tryd.ntmps41
      go_wp2
      go_region_held3 (fun w' => (∀ b o, b < w.heap.size → w'.cell? ⟨b, o, none⟩ = w.cell? ⟨b, o, none⟩) ∧ Below w.heap.size w w')
        (first | (with_reducible assumption) | exact Keeps.of (Below.drew (Below.refl _ _)) | exact Keeps.step (by assumption) (by assumption))
        (first
          | (go_at_call 42; first
              | ((with_reducible refine (idW_any x _).mono ?_); rintro e w' ⟨rfl, hb⟩)
              | ((with_reducible refine (idW_any y _).mono ?_); rintro e w' ⟨rfl, hb⟩))
          | (go_at_call 57; (with_reducible refine (compare_any _ _ _).mono ?_); rintro e w' ⟨rfl, rfl⟩))
      clear s1 s2 s3
      go_wp2
      go_ret
      exact ⟨ret_int HE.out.symm, (by assumption : Keeps w _).2⟩

end Go.Proofs.YtaeklohgheildaaDoor
