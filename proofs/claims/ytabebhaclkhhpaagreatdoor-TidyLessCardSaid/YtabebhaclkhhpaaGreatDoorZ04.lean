/- Joined texts, part 4: DB DE DEN DEL. -/
import Derived.Test.YtabebhaclkhhpaaGreatDoorZ02
import Derived.IntWalk

/- The program's orderFault and idFault, at each kind of record. -/
namespace Go.Proofs.YtabebhaclkhhpaaGreatDoor
set_option linter.unusedSimpArgs false
open Go.RowKit
set_option linter.unusedVariables false

/-- What a region with loads and calls keeps: all blocks that there were are as they were. -/
def Keeps (W : World) (w' : World) : Prop := (∀ b o, b < W.heap.size → w'.cell? ⟨b, o, none⟩ = W.cell? ⟨b, o, none⟩) ∧ Below W.heap.size W w'
theorem Keeps.of {W v : World} (k : Below W.heap.size W v) : Keeps W v := ⟨fun b o h => k.cell (p := ⟨b, o, none⟩) h, k⟩
theorem Keeps.step {W v v' : World} (h : Keeps W v) (hb : Below v.heap.size v v') : Keeps W v' := Keeps.of (h.2.trans (hb.mono h.2.size))
theorem Keeps.alloc {W v : World} (h : Keeps W v) (o : Obj) : Keeps W (v.alloc o) := Keeps.of (h.2.alloc h.2.size o)
theorem Keeps.refl (W : World) : Keeps W W := Keeps.of (Below.refl _ _)
theorem Keeps.drew {W v : World} (h : Keeps W v) : Keeps W v.drew := Keeps.of (Below.drew h.2)
theorem Keeps.set {W v : World} {p : Addr} (h : Keeps W v) (hp : W.heap.size ≤ p.block) (x : Value) : Keeps W (v.setCell p x) := Keeps.of (h.2.setCell hp x)

/-- What is amiss with an Id beside the one ahead. -/
def ordI (last n : Int) : Int := if n = last then 5 else if n < last then 1 else 0
def idI (order n : Int) : Int := if order = 0 then (if inB n 1 2147483647 = true then 0 else 1) else order

set_option maxHeartbeats 1600000 in
theorem orderN_first (A : Option Addr) (n c : Nat) (f : Value) (w : World) :
    Calls Tryz.prog 84 #[.slice A n c, .int .i64 0, f] w fun e w' => e = .returned (.int .i64 0) ∧ w = w' := by
  go_enter Tryz.func84, Tryz.ntmps84
  go_wp2
  go_ret
  exact ⟨rfl, rfl⟩
set_option maxHeartbeats 3200000 in
set_option maxRecDepth 100000 in
theorem orderN_next (l : List NodeD) (j : Nat) (A : Option Addr) (n c : Nat) (w : World) (hn : n = l.length) (hl : n ≤ 1000) (hj : j + 1 < l.length) (hr : Recs 10 cellsN w w.heap.size A l) :
    Calls Tryz.prog 84 #[.slice A n c, .int .i64 ((j : Int) + 1), .func (.func 31) #[] #[]] w fun e w' => e = .returned (.int .i64 (ordI l[j].id l[j + 1].id)) ∧ Below w.heap.size w w' := by
  obtain ⟨b, o, rfl, hb, he⟩ := hr.at hj
  obtain ⟨b', o', h1, _, hf⟩ := hr.at (show j < l.length by omega)
  injection h1 with h1
  injection h1 with h1 h2 _
  subst h1 h2
  generalize l[j + 1] = x at *
  generalize l[j] = y at *
  have e0 : w.cell? ⟨b, o + (j + 1) * 10, none⟩ = some (.int .i64 x.id) := he 0 _ rfl
  have e1 : w.cell? ⟨b, o + (j + 1) * 10 + 1, none⟩ = some (.int .i64 x.zone) := he 1 _ rfl
  have e2 : w.cell? ⟨b, o + (j + 1) * 10 + 2, none⟩ = some (.int .u64 x.cap.a) := he 2 _ rfl
  have e3 : w.cell? ⟨b, o + (j + 1) * 10 + 3, none⟩ = some (.int .u64 x.cap.b) := he 3 _ rfl
  have e4 : w.cell? ⟨b, o + (j + 1) * 10 + 4, none⟩ = some (.int .u64 x.cap.c) := he 4 _ rfl
  have e5 : w.cell? ⟨b, o + (j + 1) * 10 + 5, none⟩ = some (.int .u64 x.cap.d) := he 5 _ rfl
  have e6 : w.cell? ⟨b, o + (j + 1) * 10 + 6, none⟩ = some (.int .u64 x.held.a) := he 6 _ rfl
  have e7 : w.cell? ⟨b, o + (j + 1) * 10 + 7, none⟩ = some (.int .u64 x.held.b) := he 7 _ rfl
  have e8 : w.cell? ⟨b, o + (j + 1) * 10 + 8, none⟩ = some (.int .u64 x.held.c) := he 8 _ rfl
  have e9 : w.cell? ⟨b, o + (j + 1) * 10 + 9, none⟩ = some (.int .u64 x.held.d) := he 9 _ rfl
  have f0 : w.cell? ⟨b, o + j * 10, none⟩ = some (.int .i64 y.id) := hf 0 _ rfl
  have f1 : w.cell? ⟨b, o + j * 10 + 1, none⟩ = some (.int .i64 y.zone) := hf 1 _ rfl
  have f2 : w.cell? ⟨b, o + j * 10 + 2, none⟩ = some (.int .u64 y.cap.a) := hf 2 _ rfl
  have f3 : w.cell? ⟨b, o + j * 10 + 3, none⟩ = some (.int .u64 y.cap.b) := hf 3 _ rfl
  have f4 : w.cell? ⟨b, o + j * 10 + 4, none⟩ = some (.int .u64 y.cap.c) := hf 4 _ rfl
  have f5 : w.cell? ⟨b, o + j * 10 + 5, none⟩ = some (.int .u64 y.cap.d) := hf 5 _ rfl
  have f6 : w.cell? ⟨b, o + j * 10 + 6, none⟩ = some (.int .u64 y.held.a) := hf 6 _ rfl
  have f7 : w.cell? ⟨b, o + j * 10 + 7, none⟩ = some (.int .u64 y.held.b) := hf 7 _ rfl
  have f8 : w.cell? ⟨b, o + j * 10 + 8, none⟩ = some (.int .u64 y.held.c) := hf 8 _ rfl
  have f9 : w.cell? ⟨b, o + j * 10 + 9, none⟩ = some (.int .u64 y.held.d) := hf 9 _ rfl
  have hjn : (j : Int) + 1 < (n : Int) := by omega
  have hj1 : (j : Int) < (n : Int) := by omega
  have hj0 : (0 : Int) ≤ (j : Int) := by omega
  have hj2 : (0 : Int) ≤ (j : Int) + 1 := by omega
  have hjk : (j : Int) + 1 ≤ 1000 := by omega
  have hjz : ((j : Int) + 1 == 0) = false := by rw [beq_eq_false_iff_ne]; omega
  have s1 : IntKind.i64.wrap ((j : Int) + 1 - 1) = (j : Int) := by rw [IntWalk.i64_in _ (by omega)]; omega
  have s2 : IntKind.i64.wrap (j : Int) = (j : Int) := IntWalk.i64_in _ (by omega)
  have s3 : ((j : Int) + 1).toNat = j + 1 := by omega
  clear he hf hn hr hj
  by_cases hlt : x.id < y.id
  · have HE := Lib.hid (show ordI y.id x.id = 1 by unfold ordI; rw [if_neg (by omega), if_pos hlt])
    have HC : cmpI x.id y.id = -1 := by unfold cmpI; rw [if_pos hlt]
    go_enter Tryz.func84, Tryz.ntmps84
    go_wp2
    go_region_held3 (fun w' => (∀ b o, b < w.heap.size → w'.cell? ⟨b, o, none⟩ = w.cell? ⟨b, o, none⟩) ∧ Below w.heap.size w w')
      (first | (with_reducible assumption) | exact Keeps.of (Below.drew (Below.refl _ _)) | exact Keeps.step (by assumption) (by assumption))
      (first
        | (go_at_call 31; first
            | ((with_reducible refine (idN_any x _).mono ?_); rintro e w' ⟨rfl, hb⟩)
            | ((with_reducible refine (idN_any y _).mono ?_); rintro e w' ⟨rfl, hb⟩))
        | (go_at_call 40; (with_reducible refine (compare_any _ _ _).mono ?_); rintro e w' ⟨rfl, rfl⟩))
    clear s1 s2 s3
    go_wp2
    go_ret
    exact ⟨ret_int HE.out.symm, (by assumption : Keeps w _).2⟩
  · by_cases heq : x.id = y.id
    · have HE := Lib.hid (show ordI y.id x.id = 5 by unfold ordI; rw [if_pos heq])
      have HC : cmpI x.id y.id = 0 := by unfold cmpI; rw [if_neg hlt, if_neg (by omega)]
      clear heq
      go_enter Tryz.func84, Tryz.ntmps84
      go_wp2
      go_region_held3 (fun w' => (∀ b o, b < w.heap.size → w'.cell? ⟨b, o, none⟩ = w.cell? ⟨b, o, none⟩) ∧ Below w.heap.size w w')
        (first | (with_reducible assumption) | exact Keeps.of (Below.drew (Below.refl _ _)) | exact Keeps.step (by assumption) (by assumption))
        (first
          | (go_at_call 31; first
              | ((with_reducible refine (idN_any x _).mono ?_); rintro e w' ⟨rfl, hb⟩)
              | ((with_reducible refine (idN_any y _).mono ?_); rintro e w' ⟨rfl, hb⟩))
          | (go_at_call 40; (with_reducible refine (compare_any _ _ _).mono ?_); rintro e w' ⟨rfl, rfl⟩))
      clear s1 s2 s3
      go_wp2
      go_ret
      exact ⟨ret_int HE.out.symm, (by assumption : Keeps w _).2⟩
    · have HE := Lib.hid (show ordI y.id x.id = 0 by unfold ordI; rw [if_neg heq, if_neg hlt])
      have HC : cmpI x.id y.id = 1 := by unfold cmpI; rw [if_neg hlt, if_pos (by omega)]
      go_enter Tryz.func84, Tryz.ntmps84
      go_wp2
      go_region_held3 (fun w' => (∀ b o, b < w.heap.size → w'.cell? ⟨b, o, none⟩ = w.cell? ⟨b, o, none⟩) ∧ Below w.heap.size w w')
        (first | (with_reducible assumption) | exact Keeps.of (Below.drew (Below.refl _ _)) | exact Keeps.step (by assumption) (by assumption))
        (first
          | (go_at_call 31; first
              | ((with_reducible refine (idN_any x _).mono ?_); rintro e w' ⟨rfl, hb⟩)
              | ((with_reducible refine (idN_any y _).mono ?_); rintro e w' ⟨rfl, hb⟩))
          | (go_at_call 40; (with_reducible refine (compare_any _ _ _).mono ?_); rintro e w' ⟨rfl, rfl⟩))
      clear s1 s2 s3
      go_wp2
      go_ret
      exact ⟨ret_int HE.out.symm, (by assumption : Keeps w _).2⟩

set_option maxHeartbeats 1600000 in
theorem orderL_first (A : Option Addr) (n c : Nat) (f : Value) (w : World) :
    Calls Tryz.prog 85 #[.slice A n c, .int .i64 0, f] w fun e w' => e = .returned (.int .i64 0) ∧ w = w' := by
  go_enter Tryz.func85, Tryz.ntmps85
  go_wp2
  go_ret
  exact ⟨rfl, rfl⟩
set_option maxHeartbeats 3200000 in
set_option maxRecDepth 100000 in
theorem orderL_next (l : List LoadD) (j : Nat) (A : Option Addr) (n c : Nat) (w : World) (hn : n = l.length) (hl : n ≤ 1000) (hj : j + 1 < l.length) (hr : Recs 5 cellsL w w.heap.size A l) :
    Calls Tryz.prog 85 #[.slice A n c, .int .i64 ((j : Int) + 1), .func (.func 34) #[] #[]] w fun e w' => e = .returned (.int .i64 (ordI l[j].id l[j + 1].id)) ∧ Below w.heap.size w w' := by
  obtain ⟨b, o, rfl, hb, he⟩ := hr.at hj
  obtain ⟨b', o', h1, _, hf⟩ := hr.at (show j < l.length by omega)
  injection h1 with h1
  injection h1 with h1 h2 _
  subst h1 h2
  generalize l[j + 1] = x at *
  generalize l[j] = y at *
  have e0 : w.cell? ⟨b, o + (j + 1) * 5, none⟩ = some (.int .i64 x.id) := he 0 _ rfl
  have e1 : w.cell? ⟨b, o + (j + 1) * 5 + 1, none⟩ = some (.bool x.apart) := he 1 _ rfl
  have e2 : w.cell? ⟨b, o + (j + 1) * 5 + 2, none⟩ = some (.int .i64 x.skew) := he 2 _ rfl
  have e3 : w.cell? ⟨b, o + (j + 1) * 5 + 3, none⟩ = some (.int .i64 x.min) := he 3 _ rfl
  have e4 : w.cell? ⟨b, o + (j + 1) * 5 + 4, none⟩ = some (.int .i64 x.max) := he 4 _ rfl
  have f0 : w.cell? ⟨b, o + j * 5, none⟩ = some (.int .i64 y.id) := hf 0 _ rfl
  have f1 : w.cell? ⟨b, o + j * 5 + 1, none⟩ = some (.bool y.apart) := hf 1 _ rfl
  have f2 : w.cell? ⟨b, o + j * 5 + 2, none⟩ = some (.int .i64 y.skew) := hf 2 _ rfl
  have f3 : w.cell? ⟨b, o + j * 5 + 3, none⟩ = some (.int .i64 y.min) := hf 3 _ rfl
  have f4 : w.cell? ⟨b, o + j * 5 + 4, none⟩ = some (.int .i64 y.max) := hf 4 _ rfl
  have hjn : (j : Int) + 1 < (n : Int) := by omega
  have hj1 : (j : Int) < (n : Int) := by omega
  have hj0 : (0 : Int) ≤ (j : Int) := by omega
  have hj2 : (0 : Int) ≤ (j : Int) + 1 := by omega
  have hjk : (j : Int) + 1 ≤ 1000 := by omega
  have hjz : ((j : Int) + 1 == 0) = false := by rw [beq_eq_false_iff_ne]; omega
  have s1 : IntKind.i64.wrap ((j : Int) + 1 - 1) = (j : Int) := by rw [IntWalk.i64_in _ (by omega)]; omega
  have s2 : IntKind.i64.wrap (j : Int) = (j : Int) := IntWalk.i64_in _ (by omega)
  have s3 : ((j : Int) + 1).toNat = j + 1 := by omega
  clear he hf hn hr hj
  by_cases hlt : x.id < y.id
  · have HE := Lib.hid (show ordI y.id x.id = 1 by unfold ordI; rw [if_neg (by omega), if_pos hlt])
    have HC : cmpI x.id y.id = -1 := by unfold cmpI; rw [if_pos hlt]
    go_enter Tryz.func85, Tryz.ntmps85
    go_wp2
    go_region_held3 (fun w' => (∀ b o, b < w.heap.size → w'.cell? ⟨b, o, none⟩ = w.cell? ⟨b, o, none⟩) ∧ Below w.heap.size w w')
      (first | (with_reducible assumption) | exact Keeps.of (Below.drew (Below.refl _ _)) | exact Keeps.step (by assumption) (by assumption))
      (first
        | (go_at_call 34; first
            | ((with_reducible refine (idL_any x _).mono ?_); rintro e w' ⟨rfl, hb⟩)
            | ((with_reducible refine (idL_any y _).mono ?_); rintro e w' ⟨rfl, hb⟩))
        | (go_at_call 40; (with_reducible refine (compare_any _ _ _).mono ?_); rintro e w' ⟨rfl, rfl⟩))
    clear s1 s2 s3
    go_wp2
    go_ret
    exact ⟨ret_int HE.out.symm, (by assumption : Keeps w _).2⟩
  · by_cases heq : x.id = y.id
    · have HE := Lib.hid (show ordI y.id x.id = 5 by unfold ordI; rw [if_pos heq])
      have HC : cmpI x.id y.id = 0 := by unfold cmpI; rw [if_neg hlt, if_neg (by omega)]
      clear heq
      go_enter Tryz.func85, Tryz.ntmps85
      go_wp2
      go_region_held3 (fun w' => (∀ b o, b < w.heap.size → w'.cell? ⟨b, o, none⟩ = w.cell? ⟨b, o, none⟩) ∧ Below w.heap.size w w')
        (first | (with_reducible assumption) | exact Keeps.of (Below.drew (Below.refl _ _)) | exact Keeps.step (by assumption) (by assumption))
        (first
          | (go_at_call 34; first
              | ((with_reducible refine (idL_any x _).mono ?_); rintro e w' ⟨rfl, hb⟩)
              | ((with_reducible refine (idL_any y _).mono ?_); rintro e w' ⟨rfl, hb⟩))
          | (go_at_call 40; (with_reducible refine (compare_any _ _ _).mono ?_); rintro e w' ⟨rfl, rfl⟩))
      clear s1 s2 s3
      go_wp2
      go_ret
      exact ⟨ret_int HE.out.symm, (by assumption : Keeps w _).2⟩
    · have HE := Lib.hid (show ordI y.id x.id = 0 by unfold ordI; rw [if_neg heq, if_neg hlt])
      have HC : cmpI x.id y.id = 1 := by unfold cmpI; rw [if_neg hlt, if_pos (by omega)]
      go_enter Tryz.func85, Tryz.ntmps85
      go_wp2
      go_region_held3 (fun w' => (∀ b o, b < w.heap.size → w'.cell? ⟨b, o, none⟩ = w.cell? ⟨b, o, none⟩) ∧ Below w.heap.size w w')
        (first | (with_reducible assumption) | exact Keeps.of (Below.drew (Below.refl _ _)) | exact Keeps.step (by assumption) (by assumption))
        (first
          | (go_at_call 34; first
              | ((with_reducible refine (idL_any x _).mono ?_); rintro e w' ⟨rfl, hb⟩)
              | ((with_reducible refine (idL_any y _).mono ?_); rintro e w' ⟨rfl, hb⟩))
          | (go_at_call 40; (with_reducible refine (compare_any _ _ _).mono ?_); rintro e w' ⟨rfl, rfl⟩))
      clear s1 s2 s3
      go_wp2
      go_ret
      exact ⟨ret_int HE.out.symm, (by assumption : Keeps w _).2⟩

set_option maxHeartbeats 1600000 in
theorem orderP_first (A : Option Addr) (n c : Nat) (f : Value) (w : World) :
    Calls Tryz.prog 86 #[.slice A n c, .int .i64 0, f] w fun e w' => e = .returned (.int .i64 0) ∧ w = w' := by
  go_enter Tryz.func86, Tryz.ntmps86
  go_wp2
  go_ret
  exact ⟨rfl, rfl⟩
set_option maxHeartbeats 3200000 in
set_option maxRecDepth 100000 in
theorem orderP_next (l : List PodD) (j : Nat) (A : Option Addr) (n c : Nat) (w : World) (hn : n = l.length) (hl : n ≤ 1000) (hj : j + 1 < l.length) (hr : Recs 8 cellsP w w.heap.size A l) :
    Calls Tryz.prog 86 #[.slice A n c, .int .i64 ((j : Int) + 1), .func (.func 37) #[] #[]] w fun e w' => e = .returned (.int .i64 (ordI l[j].id l[j + 1].id)) ∧ Below w.heap.size w w' := by
  obtain ⟨b, o, rfl, hb, he⟩ := hr.at hj
  obtain ⟨b', o', h1, _, hf⟩ := hr.at (show j < l.length by omega)
  injection h1 with h1
  injection h1 with h1 h2 _
  subst h1 h2
  generalize l[j + 1] = x at *
  generalize l[j] = y at *
  have e0 : w.cell? ⟨b, o + (j + 1) * 8, none⟩ = some (.int .i64 x.id) := he 0 _ rfl
  have e1 : w.cell? ⟨b, o + (j + 1) * 8 + 1, none⟩ = some (.int .i64 x.load) := he 1 _ rfl
  have e2 : w.cell? ⟨b, o + (j + 1) * 8 + 2, none⟩ = some (.int .i64 x.prio) := he 2 _ rfl
  have e3 : w.cell? ⟨b, o + (j + 1) * 8 + 3, none⟩ = some (.int .u64 x.req.a) := he 3 _ rfl
  have e4 : w.cell? ⟨b, o + (j + 1) * 8 + 4, none⟩ = some (.int .u64 x.req.b) := he 4 _ rfl
  have e5 : w.cell? ⟨b, o + (j + 1) * 8 + 5, none⟩ = some (.int .u64 x.req.c) := he 5 _ rfl
  have e6 : w.cell? ⟨b, o + (j + 1) * 8 + 6, none⟩ = some (.int .u64 x.req.d) := he 6 _ rfl
  have e7 : w.cell? ⟨b, o + (j + 1) * 8 + 7, none⟩ = some (.int .i64 x.node) := he 7 _ rfl
  have f0 : w.cell? ⟨b, o + j * 8, none⟩ = some (.int .i64 y.id) := hf 0 _ rfl
  have f1 : w.cell? ⟨b, o + j * 8 + 1, none⟩ = some (.int .i64 y.load) := hf 1 _ rfl
  have f2 : w.cell? ⟨b, o + j * 8 + 2, none⟩ = some (.int .i64 y.prio) := hf 2 _ rfl
  have f3 : w.cell? ⟨b, o + j * 8 + 3, none⟩ = some (.int .u64 y.req.a) := hf 3 _ rfl
  have f4 : w.cell? ⟨b, o + j * 8 + 4, none⟩ = some (.int .u64 y.req.b) := hf 4 _ rfl
  have f5 : w.cell? ⟨b, o + j * 8 + 5, none⟩ = some (.int .u64 y.req.c) := hf 5 _ rfl
  have f6 : w.cell? ⟨b, o + j * 8 + 6, none⟩ = some (.int .u64 y.req.d) := hf 6 _ rfl
  have f7 : w.cell? ⟨b, o + j * 8 + 7, none⟩ = some (.int .i64 y.node) := hf 7 _ rfl
  have hjn : (j : Int) + 1 < (n : Int) := by omega
  have hj1 : (j : Int) < (n : Int) := by omega
  have hj0 : (0 : Int) ≤ (j : Int) := by omega
  have hj2 : (0 : Int) ≤ (j : Int) + 1 := by omega
  have hjk : (j : Int) + 1 ≤ 1000 := by omega
  have hjz : ((j : Int) + 1 == 0) = false := by rw [beq_eq_false_iff_ne]; omega
  have s1 : IntKind.i64.wrap ((j : Int) + 1 - 1) = (j : Int) := by rw [IntWalk.i64_in _ (by omega)]; omega
  have s2 : IntKind.i64.wrap (j : Int) = (j : Int) := IntWalk.i64_in _ (by omega)
  have s3 : ((j : Int) + 1).toNat = j + 1 := by omega
  clear he hf hn hr hj
  by_cases hlt : x.id < y.id
  · have HE := Lib.hid (show ordI y.id x.id = 1 by unfold ordI; rw [if_neg (by omega), if_pos hlt])
    have HC : cmpI x.id y.id = -1 := by unfold cmpI; rw [if_pos hlt]
    go_enter Tryz.func86, Tryz.ntmps86
    go_wp2
    go_region_held3 (fun w' => (∀ b o, b < w.heap.size → w'.cell? ⟨b, o, none⟩ = w.cell? ⟨b, o, none⟩) ∧ Below w.heap.size w w')
      (first | (with_reducible assumption) | exact Keeps.of (Below.drew (Below.refl _ _)) | exact Keeps.step (by assumption) (by assumption))
      (first
        | (go_at_call 37; first
            | ((with_reducible refine (idP_any x _).mono ?_); rintro e w' ⟨rfl, hb⟩)
            | ((with_reducible refine (idP_any y _).mono ?_); rintro e w' ⟨rfl, hb⟩))
        | (go_at_call 40; (with_reducible refine (compare_any _ _ _).mono ?_); rintro e w' ⟨rfl, rfl⟩))
    clear s1 s2 s3
    go_wp2
    go_ret
    exact ⟨ret_int HE.out.symm, (by assumption : Keeps w _).2⟩
  · by_cases heq : x.id = y.id
    · have HE := Lib.hid (show ordI y.id x.id = 5 by unfold ordI; rw [if_pos heq])
      have HC : cmpI x.id y.id = 0 := by unfold cmpI; rw [if_neg hlt, if_neg (by omega)]
      clear heq
      go_enter Tryz.func86, Tryz.ntmps86
      go_wp2
      go_region_held3 (fun w' => (∀ b o, b < w.heap.size → w'.cell? ⟨b, o, none⟩ = w.cell? ⟨b, o, none⟩) ∧ Below w.heap.size w w')
        (first | (with_reducible assumption) | exact Keeps.of (Below.drew (Below.refl _ _)) | exact Keeps.step (by assumption) (by assumption))
        (first
          | (go_at_call 37; first
              | ((with_reducible refine (idP_any x _).mono ?_); rintro e w' ⟨rfl, hb⟩)
              | ((with_reducible refine (idP_any y _).mono ?_); rintro e w' ⟨rfl, hb⟩))
          | (go_at_call 40; (with_reducible refine (compare_any _ _ _).mono ?_); rintro e w' ⟨rfl, rfl⟩))
      clear s1 s2 s3
      go_wp2
      go_ret
      exact ⟨ret_int HE.out.symm, (by assumption : Keeps w _).2⟩
    · have HE := Lib.hid (show ordI y.id x.id = 0 by unfold ordI; rw [if_neg heq, if_neg hlt])
      have HC : cmpI x.id y.id = 1 := by unfold cmpI; rw [if_neg hlt, if_pos (by omega)]
      go_enter Tryz.func86, Tryz.ntmps86
      go_wp2
      go_region_held3 (fun w' => (∀ b o, b < w.heap.size → w'.cell? ⟨b, o, none⟩ = w.cell? ⟨b, o, none⟩) ∧ Below w.heap.size w w')
        (first | (with_reducible assumption) | exact Keeps.of (Below.drew (Below.refl _ _)) | exact Keeps.step (by assumption) (by assumption))
        (first
          | (go_at_call 37; first
              | ((with_reducible refine (idP_any x _).mono ?_); rintro e w' ⟨rfl, hb⟩)
              | ((with_reducible refine (idP_any y _).mono ?_); rintro e w' ⟨rfl, hb⟩))
          | (go_at_call 40; (with_reducible refine (compare_any _ _ _).mono ?_); rintro e w' ⟨rfl, rfl⟩))
      clear s1 s2 s3
      go_wp2
      go_ret
      exact ⟨ret_int HE.out.symm, (by assumption : Keeps w _).2⟩

set_option maxHeartbeats 1600000 in
theorem orderW_first (A : Option Addr) (n c : Nat) (f : Value) (w : World) :
    Calls Tryz.prog 17 #[.slice A n c, .int .i64 0, f] w fun e w' => e = .returned (.int .i64 0) ∧ w = w' := by
  go_enter Tryz.func17, Tryz.ntmps17
  go_wp2
  go_ret
  exact ⟨rfl, rfl⟩
set_option maxHeartbeats 3200000 in
set_option maxRecDepth 100000 in
theorem orderW_next (l : List WantD) (j : Nat) (A : Option Addr) (n c : Nat) (w : World) (hn : n = l.length) (hl : n ≤ 1000) (hj : j + 1 < l.length) (hr : Recs 6 cellsW w w.heap.size A l) :
    Calls Tryz.prog 17 #[.slice A n c, .int .i64 ((j : Int) + 1), .func (.func 18) #[] #[]] w fun e w' => e = .returned (.int .i64 (ordI l[j].pod l[j + 1].pod)) ∧ Below w.heap.size w w' := by
  obtain ⟨b, o, rfl, hb, he⟩ := hr.at hj
  obtain ⟨b', o', h1, _, hf⟩ := hr.at (show j < l.length by omega)
  injection h1 with h1
  injection h1 with h1 h2 _
  subst h1 h2
  generalize l[j + 1] = x at *
  generalize l[j] = y at *
  have e0 : w.cell? ⟨b, o + (j + 1) * 6, none⟩ = some (.int .i64 x.pod) := he 0 _ rfl
  have e1 : w.cell? ⟨b, o + (j + 1) * 6 + 1, none⟩ = some (.int .u64 x.req.a) := he 1 _ rfl
  have e2 : w.cell? ⟨b, o + (j + 1) * 6 + 2, none⟩ = some (.int .u64 x.req.b) := he 2 _ rfl
  have e3 : w.cell? ⟨b, o + (j + 1) * 6 + 3, none⟩ = some (.int .u64 x.req.c) := he 3 _ rfl
  have e4 : w.cell? ⟨b, o + (j + 1) * 6 + 4, none⟩ = some (.int .u64 x.req.d) := he 4 _ rfl
  have e5 : w.cell? ⟨b, o + (j + 1) * 6 + 5, none⟩ = some (.bool x.stay) := he 5 _ rfl
  have f0 : w.cell? ⟨b, o + j * 6, none⟩ = some (.int .i64 y.pod) := hf 0 _ rfl
  have f1 : w.cell? ⟨b, o + j * 6 + 1, none⟩ = some (.int .u64 y.req.a) := hf 1 _ rfl
  have f2 : w.cell? ⟨b, o + j * 6 + 2, none⟩ = some (.int .u64 y.req.b) := hf 2 _ rfl
  have f3 : w.cell? ⟨b, o + j * 6 + 3, none⟩ = some (.int .u64 y.req.c) := hf 3 _ rfl
  have f4 : w.cell? ⟨b, o + j * 6 + 4, none⟩ = some (.int .u64 y.req.d) := hf 4 _ rfl
  have f5 : w.cell? ⟨b, o + j * 6 + 5, none⟩ = some (.bool y.stay) := hf 5 _ rfl
  have hjn : (j : Int) + 1 < (n : Int) := by omega
  have hj1 : (j : Int) < (n : Int) := by omega
  have hj0 : (0 : Int) ≤ (j : Int) := by omega
  have hj2 : (0 : Int) ≤ (j : Int) + 1 := by omega
  have hjk : (j : Int) + 1 ≤ 1000 := by omega
  have hjz : ((j : Int) + 1 == 0) = false := by rw [beq_eq_false_iff_ne]; omega
  have s1 : IntKind.i64.wrap ((j : Int) + 1 - 1) = (j : Int) := by rw [IntWalk.i64_in _ (by omega)]; omega
  have s2 : IntKind.i64.wrap (j : Int) = (j : Int) := IntWalk.i64_in _ (by omega)
  have s3 : ((j : Int) + 1).toNat = j + 1 := by omega
  clear he hf hn hr hj
  by_cases hlt : x.pod < y.pod
  · have HE := Lib.hid (show ordI y.pod x.pod = 1 by unfold ordI; rw [if_neg (by omega), if_pos hlt])
    have HC : cmpI x.pod y.pod = -1 := by unfold cmpI; rw [if_pos hlt]
    go_enter Tryz.func17, Tryz.ntmps17
    go_wp2
    go_region_held3 (fun w' => (∀ b o, b < w.heap.size → w'.cell? ⟨b, o, none⟩ = w.cell? ⟨b, o, none⟩) ∧ Below w.heap.size w w')
      (first | (with_reducible assumption) | exact Keeps.of (Below.drew (Below.refl _ _)) | exact Keeps.step (by assumption) (by assumption))
      (first
        | (go_at_call 18; first
            | ((with_reducible refine (idW_any x _).mono ?_); rintro e w' ⟨rfl, hb⟩)
            | ((with_reducible refine (idW_any y _).mono ?_); rintro e w' ⟨rfl, hb⟩))
        | (go_at_call 40; (with_reducible refine (compare_any _ _ _).mono ?_); rintro e w' ⟨rfl, rfl⟩))
    clear s1 s2 s3
    go_wp2
    go_ret
    exact ⟨ret_int HE.out.symm, (by assumption : Keeps w _).2⟩
  · by_cases heq : x.pod = y.pod
    · have HE := Lib.hid (show ordI y.pod x.pod = 5 by unfold ordI; rw [if_pos heq])
      have HC : cmpI x.pod y.pod = 0 := by unfold cmpI; rw [if_neg hlt, if_neg (by omega)]
      clear heq
      go_enter Tryz.func17, Tryz.ntmps17
      go_wp2
      go_region_held3 (fun w' => (∀ b o, b < w.heap.size → w'.cell? ⟨b, o, none⟩ = w.cell? ⟨b, o, none⟩) ∧ Below w.heap.size w w')
        (first | (with_reducible assumption) | exact Keeps.of (Below.drew (Below.refl _ _)) | exact Keeps.step (by assumption) (by assumption))
        (first
          | (go_at_call 18; first
              | ((with_reducible refine (idW_any x _).mono ?_); rintro e w' ⟨rfl, hb⟩)
              | ((with_reducible refine (idW_any y _).mono ?_); rintro e w' ⟨rfl, hb⟩))
          | (go_at_call 40; (with_reducible refine (compare_any _ _ _).mono ?_); rintro e w' ⟨rfl, rfl⟩))
      clear s1 s2 s3
      go_wp2
      go_ret
      exact ⟨ret_int HE.out.symm, (by assumption : Keeps w _).2⟩
    · have HE := Lib.hid (show ordI y.pod x.pod = 0 by unfold ordI; rw [if_neg heq, if_neg hlt])
      have HC : cmpI x.pod y.pod = 1 := by unfold cmpI; rw [if_neg hlt, if_pos (by omega)]
      go_enter Tryz.func17, Tryz.ntmps17
      go_wp2
      go_region_held3 (fun w' => (∀ b o, b < w.heap.size → w'.cell? ⟨b, o, none⟩ = w.cell? ⟨b, o, none⟩) ∧ Below w.heap.size w w')
        (first | (with_reducible assumption) | exact Keeps.of (Below.drew (Below.refl _ _)) | exact Keeps.step (by assumption) (by assumption))
        (first
          | (go_at_call 18; first
              | ((with_reducible refine (idW_any x _).mono ?_); rintro e w' ⟨rfl, hb⟩)
              | ((with_reducible refine (idW_any y _).mono ?_); rintro e w' ⟨rfl, hb⟩))
          | (go_at_call 40; (with_reducible refine (compare_any _ _ _).mono ?_); rintro e w' ⟨rfl, rfl⟩))
      clear s1 s2 s3
      go_wp2
      go_ret
      exact ⟨ret_int HE.out.symm, (by assumption : Keeps w _).2⟩

end Go.Proofs.YtabebhaclkhhpaaGreatDoor

/- The program's find, at each kind of record: what is common. -/
namespace Go.Proofs.YtabebhaclkhhpaaGreatDoor
set_option linter.unusedSimpArgs false
open Go.RowKit
set_option linter.unusedVariables false

/-- The first one with that Id, true; or a zero one, false. -/
def FindTo {α : Type} (agg : α → Value) (zero : Value) (f : α → Int) (l : List α) (id : Int) (w : World) (e : Ending) (w' : World) : Prop :=
  ((place f id l 0 < 0 ∧ e = .returned (.tuple #[zero, .bool false])) ∨ ∃ (i : Nat) (h : i < l.length), place f id l 0 = i ∧ e = .returned (.tuple #[agg l[i], .bool true])) ∧ Below w.heap.size w w'
def FRel {α : Type} (f : α → Int) (id : Int) (l : List α) (W : World) (B : Nat) (i : Value) (wr : World) : Prop := ∃ k : Nat, k ≤ l.length ∧ i = .int .i64 k ∧ place f id (l.drop k) k = place f id l 0 ∧ Below B W wr
theorem place_found {α : Type} {f : α → Int} {id : Int} {l : List α} {k : Nat} (h : k < l.length) (he : f l[k] = id) (hp : place f id (l.drop k) k = place f id l 0) : place f id l 0 = k := place_here h he hp
end Go.Proofs.YtabebhaclkhhpaaGreatDoor

/- The program's find, at one kind of record. -/
namespace Go.Proofs.YtabebhaclkhhpaaGreatDoor
set_option linter.unusedSimpArgs false
open Go.RowKit
set_option linter.unusedVariables false

abbrev zeroN : Value := .agg #[.int .i64 0, .int .i64 0, .int .u64 0, .int .u64 0, .int .u64 0, .int .u64 0, .int .u64 0, .int .u64 0, .int .u64 0, .int .u64 0]
set_option maxHeartbeats 3200000 in
set_option maxRecDepth 100000 in
theorem findN_any (l : List NodeD) (id : Int) (A : Option Addr) (n c : Nat) (w : World) (hn : n = l.length) (hl : n ≤ 1000) (hr : Recs 10 cellsN w w.heap.size A l) :
    Calls Tryz.prog 88 #[.slice A n c, .int .i64 id, .func (.func 31) #[] #[]] w (FindTo aggN zeroN NodeD.id l id w) := by
  have HR := Lib.hid hr
  have HN := Lib.hid hn
  clear hr hn
  have b00 : Below w.heap.size w (w.alloc (.cells #[.int .i64 0, .int .i64 0, .int .u64 0, .int .u64 0, .int .u64 0, .int .u64 0, .int .u64 0, .int .u64 0, .int .u64 0, .int .u64 0] 53)) := (Below.refl _ _).alloc (Nat.le_refl _) _
  go_enter Tryz.func88, Tryz.ntmps88
  go_wp2
  go_loopw [13] (FRel NodeD.id id l (w.alloc (.cells #[.int .i64 0, .int .i64 0, .int .u64 0, .int .u64 0, .int .u64 0, .int .u64 0, .int .u64 0, .int .u64 0, .int .u64 0, .int .u64 0] 53)) (w.heap.size + 1)) (fun i _ => n - (intOf i).toNat)
  case atStart => exact ⟨0, by omega, rfl, rfl, Below.refl _ _⟩
  case round =>
    obtain ⟨k, hk, rfl, hp, hbr⟩ := hrel
    have HP := Lib.hid hp
    have hzr : w.heap.size + 1 ≤ wr.heap.size := by have := hbr.size; simpa using this
    have kwr : Below w.heap.size w wr := b00.trans (hbr.mono (by omega))
    clear hp
    by_cases hlt : k < n
    · have hkl : k < l.length := by have := HN.out; omega
      obtain ⟨b, o, rfl, hb, he⟩ := HR.out.at hkl
      generalize hx : l[k] = x at *
      have HX := Lib.hid hx
      clear hx
      have e0 : wr.cell? ⟨b, o + k * 10, none⟩ = some (.int .i64 x.id) := (kwr.cell (p := ⟨b, o + k * 10, none⟩) hb).trans (he 0 _ rfl)
      have e1 : wr.cell? ⟨b, o + k * 10 + 1, none⟩ = some (.int .i64 x.zone) := (kwr.cell (p := ⟨b, o + k * 10 + 1, none⟩) hb).trans (he 1 _ rfl)
      have e2 : wr.cell? ⟨b, o + k * 10 + 2, none⟩ = some (.int .u64 x.cap.a) := (kwr.cell (p := ⟨b, o + k * 10 + 2, none⟩) hb).trans (he 2 _ rfl)
      have e3 : wr.cell? ⟨b, o + k * 10 + 3, none⟩ = some (.int .u64 x.cap.b) := (kwr.cell (p := ⟨b, o + k * 10 + 3, none⟩) hb).trans (he 3 _ rfl)
      have e4 : wr.cell? ⟨b, o + k * 10 + 4, none⟩ = some (.int .u64 x.cap.c) := (kwr.cell (p := ⟨b, o + k * 10 + 4, none⟩) hb).trans (he 4 _ rfl)
      have e5 : wr.cell? ⟨b, o + k * 10 + 5, none⟩ = some (.int .u64 x.cap.d) := (kwr.cell (p := ⟨b, o + k * 10 + 5, none⟩) hb).trans (he 5 _ rfl)
      have e6 : wr.cell? ⟨b, o + k * 10 + 6, none⟩ = some (.int .u64 x.held.a) := (kwr.cell (p := ⟨b, o + k * 10 + 6, none⟩) hb).trans (he 6 _ rfl)
      have e7 : wr.cell? ⟨b, o + k * 10 + 7, none⟩ = some (.int .u64 x.held.b) := (kwr.cell (p := ⟨b, o + k * 10 + 7, none⟩) hb).trans (he 7 _ rfl)
      have e8 : wr.cell? ⟨b, o + k * 10 + 8, none⟩ = some (.int .u64 x.held.c) := (kwr.cell (p := ⟨b, o + k * 10 + 8, none⟩) hb).trans (he 8 _ rfl)
      have e9 : wr.cell? ⟨b, o + k * 10 + 9, none⟩ = some (.int .u64 x.held.d) := (kwr.cell (p := ⟨b, o + k * 10 + 9, none⟩) hb).trans (he 9 _ rfl)
      have hbw : b < wr.heap.size := by omega
      clear he
      go_wp2_with fail
      refine (idN_any x _).mono ?_
      rintro e w2 ⟨rfl, hb2⟩
      have k1 : Below (w.heap.size + 1) (w.alloc (.cells #[.int .i64 0, .int .i64 0, .int .u64 0, .int .u64 0, .int .u64 0, .int .u64 0, .int .u64 0, .int .u64 0, .int .u64 0, .int .u64 0] 53)) (wr.alloc (.cells #[.int .i64 x.id, .int .i64 x.zone, .int .u64 x.cap.a, .int .u64 x.cap.b, .int .u64 x.cap.c, .int .u64 x.cap.d, .int .u64 x.held.a, .int .u64 x.held.b, .int .u64 x.held.c, .int .u64 x.held.d] 53)) := hbr.alloc hzr _
      have k2 : Below (w.heap.size + 1) (w.alloc (.cells #[.int .i64 0, .int .i64 0, .int .u64 0, .int .u64 0, .int .u64 0, .int .u64 0, .int .u64 0, .int .u64 0, .int .u64 0, .int .u64 0] 53)) w2 := k1.trans (hb2.mono (by simp; omega))
      have kw2 : Below w.heap.size w w2 := b00.trans (k2.mono (by omega))
      clear e0 e1 e2 e3 e4 e5 e6 e7 e8 e9
      by_cases hid : x.id = id
      · have HE := Lib.hid (place_found hkl (by rw [HX.out]; exact hid) HP.out)
        subst hid
        have f0 : w2.cell? ⟨wr.heap.size, 0, none⟩ = some (.int .i64 x.id) := (hb2.cell (p := ⟨wr.heap.size, 0, none⟩) (by simp)).trans (by simp)
        have f1 : w2.cell? ⟨wr.heap.size, 1, none⟩ = some (.int .i64 x.zone) := (hb2.cell (p := ⟨wr.heap.size, 1, none⟩) (by simp)).trans (by simp)
        have f2 : w2.cell? ⟨wr.heap.size, 2, none⟩ = some (.int .u64 x.cap.a) := (hb2.cell (p := ⟨wr.heap.size, 2, none⟩) (by simp)).trans (by simp)
        have f3 : w2.cell? ⟨wr.heap.size, 3, none⟩ = some (.int .u64 x.cap.b) := (hb2.cell (p := ⟨wr.heap.size, 3, none⟩) (by simp)).trans (by simp)
        have f4 : w2.cell? ⟨wr.heap.size, 4, none⟩ = some (.int .u64 x.cap.c) := (hb2.cell (p := ⟨wr.heap.size, 4, none⟩) (by simp)).trans (by simp)
        have f5 : w2.cell? ⟨wr.heap.size, 5, none⟩ = some (.int .u64 x.cap.d) := (hb2.cell (p := ⟨wr.heap.size, 5, none⟩) (by simp)).trans (by simp)
        have f6 : w2.cell? ⟨wr.heap.size, 6, none⟩ = some (.int .u64 x.held.a) := (hb2.cell (p := ⟨wr.heap.size, 6, none⟩) (by simp)).trans (by simp)
        have f7 : w2.cell? ⟨wr.heap.size, 7, none⟩ = some (.int .u64 x.held.b) := (hb2.cell (p := ⟨wr.heap.size, 7, none⟩) (by simp)).trans (by simp)
        have f8 : w2.cell? ⟨wr.heap.size, 8, none⟩ = some (.int .u64 x.held.c) := (hb2.cell (p := ⟨wr.heap.size, 8, none⟩) (by simp)).trans (by simp)
        have f9 : w2.cell? ⟨wr.heap.size, 9, none⟩ = some (.int .u64 x.held.d) := (hb2.cell (p := ⟨wr.heap.size, 9, none⟩) (by simp)).trans (by simp)
        have g0 : w2.cell? ⟨w.heap.size, 0, none⟩ = some (.int .i64 0) := (k2.cell (p := ⟨w.heap.size, 0, none⟩) (by show w.heap.size < w.heap.size + 1; omega)).trans (by simp)
        have h0 : w2.frozen? ⟨w.heap.size, 0, none⟩ = false := (k2.frozen (p := ⟨w.heap.size, 0, none⟩) (by show w.heap.size < w.heap.size + 1; omega)).trans (by simp)
        have g1 : w2.cell? ⟨w.heap.size, 1, none⟩ = some (.int .i64 0) := (k2.cell (p := ⟨w.heap.size, 1, none⟩) (by show w.heap.size < w.heap.size + 1; omega)).trans (by simp)
        have h1 : w2.frozen? ⟨w.heap.size, 1, none⟩ = false := (k2.frozen (p := ⟨w.heap.size, 1, none⟩) (by show w.heap.size < w.heap.size + 1; omega)).trans (by simp)
        have g2 : w2.cell? ⟨w.heap.size, 2, none⟩ = some (.int .u64 0) := (k2.cell (p := ⟨w.heap.size, 2, none⟩) (by show w.heap.size < w.heap.size + 1; omega)).trans (by simp)
        have h2 : w2.frozen? ⟨w.heap.size, 2, none⟩ = false := (k2.frozen (p := ⟨w.heap.size, 2, none⟩) (by show w.heap.size < w.heap.size + 1; omega)).trans (by simp)
        have g3 : w2.cell? ⟨w.heap.size, 3, none⟩ = some (.int .u64 0) := (k2.cell (p := ⟨w.heap.size, 3, none⟩) (by show w.heap.size < w.heap.size + 1; omega)).trans (by simp)
        have h3 : w2.frozen? ⟨w.heap.size, 3, none⟩ = false := (k2.frozen (p := ⟨w.heap.size, 3, none⟩) (by show w.heap.size < w.heap.size + 1; omega)).trans (by simp)
        have g4 : w2.cell? ⟨w.heap.size, 4, none⟩ = some (.int .u64 0) := (k2.cell (p := ⟨w.heap.size, 4, none⟩) (by show w.heap.size < w.heap.size + 1; omega)).trans (by simp)
        have h4 : w2.frozen? ⟨w.heap.size, 4, none⟩ = false := (k2.frozen (p := ⟨w.heap.size, 4, none⟩) (by show w.heap.size < w.heap.size + 1; omega)).trans (by simp)
        have g5 : w2.cell? ⟨w.heap.size, 5, none⟩ = some (.int .u64 0) := (k2.cell (p := ⟨w.heap.size, 5, none⟩) (by show w.heap.size < w.heap.size + 1; omega)).trans (by simp)
        have h5 : w2.frozen? ⟨w.heap.size, 5, none⟩ = false := (k2.frozen (p := ⟨w.heap.size, 5, none⟩) (by show w.heap.size < w.heap.size + 1; omega)).trans (by simp)
        have g6 : w2.cell? ⟨w.heap.size, 6, none⟩ = some (.int .u64 0) := (k2.cell (p := ⟨w.heap.size, 6, none⟩) (by show w.heap.size < w.heap.size + 1; omega)).trans (by simp)
        have h6 : w2.frozen? ⟨w.heap.size, 6, none⟩ = false := (k2.frozen (p := ⟨w.heap.size, 6, none⟩) (by show w.heap.size < w.heap.size + 1; omega)).trans (by simp)
        have g7 : w2.cell? ⟨w.heap.size, 7, none⟩ = some (.int .u64 0) := (k2.cell (p := ⟨w.heap.size, 7, none⟩) (by show w.heap.size < w.heap.size + 1; omega)).trans (by simp)
        have h7 : w2.frozen? ⟨w.heap.size, 7, none⟩ = false := (k2.frozen (p := ⟨w.heap.size, 7, none⟩) (by show w.heap.size < w.heap.size + 1; omega)).trans (by simp)
        have g8 : w2.cell? ⟨w.heap.size, 8, none⟩ = some (.int .u64 0) := (k2.cell (p := ⟨w.heap.size, 8, none⟩) (by show w.heap.size < w.heap.size + 1; omega)).trans (by simp)
        have h8 : w2.frozen? ⟨w.heap.size, 8, none⟩ = false := (k2.frozen (p := ⟨w.heap.size, 8, none⟩) (by show w.heap.size < w.heap.size + 1; omega)).trans (by simp)
        have g9 : w2.cell? ⟨w.heap.size, 9, none⟩ = some (.int .u64 0) := (k2.cell (p := ⟨w.heap.size, 9, none⟩) (by show w.heap.size < w.heap.size + 1; omega)).trans (by simp)
        have h9 : w2.frozen? ⟨w.heap.size, 9, none⟩ = false := (k2.frozen (p := ⟨w.heap.size, 9, none⟩) (by show w.heap.size < w.heap.size + 1; omega)).trans (by simp)
        go_wp2
        refine bodyPost_ret (v := .tuple #[aggN x, .bool true]) ?_ rfl ?_
        · simp [results, Tryz.results88, go_sem, *]
        · refine ⟨.inr ⟨k, hkl, HE.out, by rw [HX.out]⟩, ?_⟩
          repeat (first | with_reducible exact kw2 | with_reducible refine Below.setCell ?_ ?_ _)
          all_goals exact Nat.le_refl _
      · have HE := Lib.hid (place_step hkl (by rw [HX.out]; exact hid) HP.out)
        go_wp2
        go_roundw
        case rel => exact ⟨k + 1, by omega, by go_num, HE.out, k2⟩
        case measure => simp [intOf]; omega
    · have HE := Lib.hid (place_end (by have := HN.out; omega) HP.out)
      have g0 : wr.cell? ⟨w.heap.size, 0, none⟩ = some (.int .i64 0) := (hbr.cell (p := ⟨w.heap.size, 0, none⟩) (by show w.heap.size < w.heap.size + 1; omega)).trans (by simp)
      have h0 : wr.frozen? ⟨w.heap.size, 0, none⟩ = false := (hbr.frozen (p := ⟨w.heap.size, 0, none⟩) (by show w.heap.size < w.heap.size + 1; omega)).trans (by simp)
      have g1 : wr.cell? ⟨w.heap.size, 1, none⟩ = some (.int .i64 0) := (hbr.cell (p := ⟨w.heap.size, 1, none⟩) (by show w.heap.size < w.heap.size + 1; omega)).trans (by simp)
      have h1 : wr.frozen? ⟨w.heap.size, 1, none⟩ = false := (hbr.frozen (p := ⟨w.heap.size, 1, none⟩) (by show w.heap.size < w.heap.size + 1; omega)).trans (by simp)
      have g2 : wr.cell? ⟨w.heap.size, 2, none⟩ = some (.int .u64 0) := (hbr.cell (p := ⟨w.heap.size, 2, none⟩) (by show w.heap.size < w.heap.size + 1; omega)).trans (by simp)
      have h2 : wr.frozen? ⟨w.heap.size, 2, none⟩ = false := (hbr.frozen (p := ⟨w.heap.size, 2, none⟩) (by show w.heap.size < w.heap.size + 1; omega)).trans (by simp)
      have g3 : wr.cell? ⟨w.heap.size, 3, none⟩ = some (.int .u64 0) := (hbr.cell (p := ⟨w.heap.size, 3, none⟩) (by show w.heap.size < w.heap.size + 1; omega)).trans (by simp)
      have h3 : wr.frozen? ⟨w.heap.size, 3, none⟩ = false := (hbr.frozen (p := ⟨w.heap.size, 3, none⟩) (by show w.heap.size < w.heap.size + 1; omega)).trans (by simp)
      have g4 : wr.cell? ⟨w.heap.size, 4, none⟩ = some (.int .u64 0) := (hbr.cell (p := ⟨w.heap.size, 4, none⟩) (by show w.heap.size < w.heap.size + 1; omega)).trans (by simp)
      have h4 : wr.frozen? ⟨w.heap.size, 4, none⟩ = false := (hbr.frozen (p := ⟨w.heap.size, 4, none⟩) (by show w.heap.size < w.heap.size + 1; omega)).trans (by simp)
      have g5 : wr.cell? ⟨w.heap.size, 5, none⟩ = some (.int .u64 0) := (hbr.cell (p := ⟨w.heap.size, 5, none⟩) (by show w.heap.size < w.heap.size + 1; omega)).trans (by simp)
      have h5 : wr.frozen? ⟨w.heap.size, 5, none⟩ = false := (hbr.frozen (p := ⟨w.heap.size, 5, none⟩) (by show w.heap.size < w.heap.size + 1; omega)).trans (by simp)
      have g6 : wr.cell? ⟨w.heap.size, 6, none⟩ = some (.int .u64 0) := (hbr.cell (p := ⟨w.heap.size, 6, none⟩) (by show w.heap.size < w.heap.size + 1; omega)).trans (by simp)
      have h6 : wr.frozen? ⟨w.heap.size, 6, none⟩ = false := (hbr.frozen (p := ⟨w.heap.size, 6, none⟩) (by show w.heap.size < w.heap.size + 1; omega)).trans (by simp)
      have g7 : wr.cell? ⟨w.heap.size, 7, none⟩ = some (.int .u64 0) := (hbr.cell (p := ⟨w.heap.size, 7, none⟩) (by show w.heap.size < w.heap.size + 1; omega)).trans (by simp)
      have h7 : wr.frozen? ⟨w.heap.size, 7, none⟩ = false := (hbr.frozen (p := ⟨w.heap.size, 7, none⟩) (by show w.heap.size < w.heap.size + 1; omega)).trans (by simp)
      have g8 : wr.cell? ⟨w.heap.size, 8, none⟩ = some (.int .u64 0) := (hbr.cell (p := ⟨w.heap.size, 8, none⟩) (by show w.heap.size < w.heap.size + 1; omega)).trans (by simp)
      have h8 : wr.frozen? ⟨w.heap.size, 8, none⟩ = false := (hbr.frozen (p := ⟨w.heap.size, 8, none⟩) (by show w.heap.size < w.heap.size + 1; omega)).trans (by simp)
      have g9 : wr.cell? ⟨w.heap.size, 9, none⟩ = some (.int .u64 0) := (hbr.cell (p := ⟨w.heap.size, 9, none⟩) (by show w.heap.size < w.heap.size + 1; omega)).trans (by simp)
      have h9 : wr.frozen? ⟨w.heap.size, 9, none⟩ = false := (hbr.frozen (p := ⟨w.heap.size, 9, none⟩) (by show w.heap.size < w.heap.size + 1; omega)).trans (by simp)
      have hwl : w.heap.size < wr.heap.size := by omega
      have hne : w.heap.size ≠ wr.heap.size := by omega
      go_wp2
      refine bodyPost_ret (v := .tuple #[zeroN, .bool false]) ?_ rfl ?_
      · simp [results, Tryz.results88, go_sem, *]
      · refine ⟨.inl ⟨by rw [HE.out]; decide, rfl⟩, ?_⟩
        have kwa : Below w.heap.size w (wr.alloc (.cells #[.int .i64 0, .int .i64 0, .int .u64 0, .int .u64 0, .int .u64 0, .int .u64 0, .int .u64 0, .int .u64 0, .int .u64 0, .int .u64 0] 53)) := kwr.alloc (by omega) _
        clear kwa
        repeat (first | with_reducible exact kwr | with_reducible refine Below.setCell ?_ ?_ _ | with_reducible refine Below.alloc ?_ ?_ _)
        all_goals first | (simp; done) | (simp; omega)

end Go.Proofs.YtabebhaclkhhpaaGreatDoor

namespace Go.Proofs.YtabebhaclkhhpaaGreatDoor
set_option linter.unusedSimpArgs false
open Go.RowKit
set_option linter.unusedVariables false

abbrev zeroL : Value := .agg #[.int .i64 0, .bool false, .int .i64 0, .int .i64 0, .int .i64 0]
set_option maxHeartbeats 3200000 in
set_option maxRecDepth 100000 in
theorem findL_any (l : List LoadD) (id : Int) (A : Option Addr) (n c : Nat) (w : World) (hn : n = l.length) (hl : n ≤ 1000) (hr : Recs 5 cellsL w w.heap.size A l) :
    Calls Tryz.prog 87 #[.slice A n c, .int .i64 id, .func (.func 34) #[] #[]] w (FindTo aggL zeroL LoadD.id l id w) := by
  have HR := Lib.hid hr
  have HN := Lib.hid hn
  clear hr hn
  have b00 : Below w.heap.size w (w.alloc (.cells #[.int .i64 0, .bool false, .int .i64 0, .int .i64 0, .int .i64 0] 55)) := (Below.refl _ _).alloc (Nat.le_refl _) _
  go_enter Tryz.func87, Tryz.ntmps87
  go_wp2
  go_loopw [13] (FRel LoadD.id id l (w.alloc (.cells #[.int .i64 0, .bool false, .int .i64 0, .int .i64 0, .int .i64 0] 55)) (w.heap.size + 1)) (fun i _ => n - (intOf i).toNat)
  case atStart => exact ⟨0, by omega, rfl, rfl, Below.refl _ _⟩
  case round =>
    obtain ⟨k, hk, rfl, hp, hbr⟩ := hrel
    have HP := Lib.hid hp
    have hzr : w.heap.size + 1 ≤ wr.heap.size := by have := hbr.size; simpa using this
    have kwr : Below w.heap.size w wr := b00.trans (hbr.mono (by omega))
    clear hp
    by_cases hlt : k < n
    · have hkl : k < l.length := by have := HN.out; omega
      obtain ⟨b, o, rfl, hb, he⟩ := HR.out.at hkl
      generalize hx : l[k] = x at *
      have HX := Lib.hid hx
      clear hx
      have e0 : wr.cell? ⟨b, o + k * 5, none⟩ = some (.int .i64 x.id) := (kwr.cell (p := ⟨b, o + k * 5, none⟩) hb).trans (he 0 _ rfl)
      have e1 : wr.cell? ⟨b, o + k * 5 + 1, none⟩ = some (.bool x.apart) := (kwr.cell (p := ⟨b, o + k * 5 + 1, none⟩) hb).trans (he 1 _ rfl)
      have e2 : wr.cell? ⟨b, o + k * 5 + 2, none⟩ = some (.int .i64 x.skew) := (kwr.cell (p := ⟨b, o + k * 5 + 2, none⟩) hb).trans (he 2 _ rfl)
      have e3 : wr.cell? ⟨b, o + k * 5 + 3, none⟩ = some (.int .i64 x.min) := (kwr.cell (p := ⟨b, o + k * 5 + 3, none⟩) hb).trans (he 3 _ rfl)
      have e4 : wr.cell? ⟨b, o + k * 5 + 4, none⟩ = some (.int .i64 x.max) := (kwr.cell (p := ⟨b, o + k * 5 + 4, none⟩) hb).trans (he 4 _ rfl)
      have hbw : b < wr.heap.size := by omega
      clear he
      go_wp2_with fail
      refine (idL_any x _).mono ?_
      rintro e w2 ⟨rfl, hb2⟩
      have k1 : Below (w.heap.size + 1) (w.alloc (.cells #[.int .i64 0, .bool false, .int .i64 0, .int .i64 0, .int .i64 0] 55)) (wr.alloc (.cells #[.int .i64 x.id, .bool x.apart, .int .i64 x.skew, .int .i64 x.min, .int .i64 x.max] 55)) := hbr.alloc hzr _
      have k2 : Below (w.heap.size + 1) (w.alloc (.cells #[.int .i64 0, .bool false, .int .i64 0, .int .i64 0, .int .i64 0] 55)) w2 := k1.trans (hb2.mono (by simp; omega))
      have kw2 : Below w.heap.size w w2 := b00.trans (k2.mono (by omega))
      clear e0 e1 e2 e3 e4
      by_cases hid : x.id = id
      · have HE := Lib.hid (place_found hkl (by rw [HX.out]; exact hid) HP.out)
        subst hid
        have f0 : w2.cell? ⟨wr.heap.size, 0, none⟩ = some (.int .i64 x.id) := (hb2.cell (p := ⟨wr.heap.size, 0, none⟩) (by simp)).trans (by simp)
        have f1 : w2.cell? ⟨wr.heap.size, 1, none⟩ = some (.bool x.apart) := (hb2.cell (p := ⟨wr.heap.size, 1, none⟩) (by simp)).trans (by simp)
        have f2 : w2.cell? ⟨wr.heap.size, 2, none⟩ = some (.int .i64 x.skew) := (hb2.cell (p := ⟨wr.heap.size, 2, none⟩) (by simp)).trans (by simp)
        have f3 : w2.cell? ⟨wr.heap.size, 3, none⟩ = some (.int .i64 x.min) := (hb2.cell (p := ⟨wr.heap.size, 3, none⟩) (by simp)).trans (by simp)
        have f4 : w2.cell? ⟨wr.heap.size, 4, none⟩ = some (.int .i64 x.max) := (hb2.cell (p := ⟨wr.heap.size, 4, none⟩) (by simp)).trans (by simp)
        have g0 : w2.cell? ⟨w.heap.size, 0, none⟩ = some (.int .i64 0) := (k2.cell (p := ⟨w.heap.size, 0, none⟩) (by show w.heap.size < w.heap.size + 1; omega)).trans (by simp)
        have h0 : w2.frozen? ⟨w.heap.size, 0, none⟩ = false := (k2.frozen (p := ⟨w.heap.size, 0, none⟩) (by show w.heap.size < w.heap.size + 1; omega)).trans (by simp)
        have g1 : w2.cell? ⟨w.heap.size, 1, none⟩ = some (.bool false) := (k2.cell (p := ⟨w.heap.size, 1, none⟩) (by show w.heap.size < w.heap.size + 1; omega)).trans (by simp)
        have h1 : w2.frozen? ⟨w.heap.size, 1, none⟩ = false := (k2.frozen (p := ⟨w.heap.size, 1, none⟩) (by show w.heap.size < w.heap.size + 1; omega)).trans (by simp)
        have g2 : w2.cell? ⟨w.heap.size, 2, none⟩ = some (.int .i64 0) := (k2.cell (p := ⟨w.heap.size, 2, none⟩) (by show w.heap.size < w.heap.size + 1; omega)).trans (by simp)
        have h2 : w2.frozen? ⟨w.heap.size, 2, none⟩ = false := (k2.frozen (p := ⟨w.heap.size, 2, none⟩) (by show w.heap.size < w.heap.size + 1; omega)).trans (by simp)
        have g3 : w2.cell? ⟨w.heap.size, 3, none⟩ = some (.int .i64 0) := (k2.cell (p := ⟨w.heap.size, 3, none⟩) (by show w.heap.size < w.heap.size + 1; omega)).trans (by simp)
        have h3 : w2.frozen? ⟨w.heap.size, 3, none⟩ = false := (k2.frozen (p := ⟨w.heap.size, 3, none⟩) (by show w.heap.size < w.heap.size + 1; omega)).trans (by simp)
        have g4 : w2.cell? ⟨w.heap.size, 4, none⟩ = some (.int .i64 0) := (k2.cell (p := ⟨w.heap.size, 4, none⟩) (by show w.heap.size < w.heap.size + 1; omega)).trans (by simp)
        have h4 : w2.frozen? ⟨w.heap.size, 4, none⟩ = false := (k2.frozen (p := ⟨w.heap.size, 4, none⟩) (by show w.heap.size < w.heap.size + 1; omega)).trans (by simp)
        go_wp2
        refine bodyPost_ret (v := .tuple #[aggL x, .bool true]) ?_ rfl ?_
        · simp [results, Tryz.results87, go_sem, *]
        · refine ⟨.inr ⟨k, hkl, HE.out, by rw [HX.out]⟩, ?_⟩
          repeat (first | with_reducible exact kw2 | with_reducible refine Below.setCell ?_ ?_ _)
          all_goals exact Nat.le_refl _
      · have HE := Lib.hid (place_step hkl (by rw [HX.out]; exact hid) HP.out)
        go_wp2
        go_roundw
        case rel => exact ⟨k + 1, by omega, by go_num, HE.out, k2⟩
        case measure => simp [intOf]; omega
    · have HE := Lib.hid (place_end (by have := HN.out; omega) HP.out)
      have g0 : wr.cell? ⟨w.heap.size, 0, none⟩ = some (.int .i64 0) := (hbr.cell (p := ⟨w.heap.size, 0, none⟩) (by show w.heap.size < w.heap.size + 1; omega)).trans (by simp)
      have h0 : wr.frozen? ⟨w.heap.size, 0, none⟩ = false := (hbr.frozen (p := ⟨w.heap.size, 0, none⟩) (by show w.heap.size < w.heap.size + 1; omega)).trans (by simp)
      have g1 : wr.cell? ⟨w.heap.size, 1, none⟩ = some (.bool false) := (hbr.cell (p := ⟨w.heap.size, 1, none⟩) (by show w.heap.size < w.heap.size + 1; omega)).trans (by simp)
      have h1 : wr.frozen? ⟨w.heap.size, 1, none⟩ = false := (hbr.frozen (p := ⟨w.heap.size, 1, none⟩) (by show w.heap.size < w.heap.size + 1; omega)).trans (by simp)
      have g2 : wr.cell? ⟨w.heap.size, 2, none⟩ = some (.int .i64 0) := (hbr.cell (p := ⟨w.heap.size, 2, none⟩) (by show w.heap.size < w.heap.size + 1; omega)).trans (by simp)
      have h2 : wr.frozen? ⟨w.heap.size, 2, none⟩ = false := (hbr.frozen (p := ⟨w.heap.size, 2, none⟩) (by show w.heap.size < w.heap.size + 1; omega)).trans (by simp)
      have g3 : wr.cell? ⟨w.heap.size, 3, none⟩ = some (.int .i64 0) := (hbr.cell (p := ⟨w.heap.size, 3, none⟩) (by show w.heap.size < w.heap.size + 1; omega)).trans (by simp)
      have h3 : wr.frozen? ⟨w.heap.size, 3, none⟩ = false := (hbr.frozen (p := ⟨w.heap.size, 3, none⟩) (by show w.heap.size < w.heap.size + 1; omega)).trans (by simp)
      have g4 : wr.cell? ⟨w.heap.size, 4, none⟩ = some (.int .i64 0) := (hbr.cell (p := ⟨w.heap.size, 4, none⟩) (by show w.heap.size < w.heap.size + 1; omega)).trans (by simp)
      have h4 : wr.frozen? ⟨w.heap.size, 4, none⟩ = false := (hbr.frozen (p := ⟨w.heap.size, 4, none⟩) (by show w.heap.size < w.heap.size + 1; omega)).trans (by simp)
      have hwl : w.heap.size < wr.heap.size := by omega
      have hne : w.heap.size ≠ wr.heap.size := by omega
      go_wp2
      refine bodyPost_ret (v := .tuple #[zeroL, .bool false]) ?_ rfl ?_
      · simp [results, Tryz.results87, go_sem, *]
      · refine ⟨.inl ⟨by rw [HE.out]; decide, rfl⟩, ?_⟩
        have kwa : Below w.heap.size w (wr.alloc (.cells #[.int .i64 0, .bool false, .int .i64 0, .int .i64 0, .int .i64 0] 55)) := kwr.alloc (by omega) _
        clear kwa
        repeat (first | with_reducible exact kwr | with_reducible refine Below.setCell ?_ ?_ _ | with_reducible refine Below.alloc ?_ ?_ _)
        all_goals first | (simp; done) | (simp; omega)

end Go.Proofs.YtabebhaclkhhpaaGreatDoor
