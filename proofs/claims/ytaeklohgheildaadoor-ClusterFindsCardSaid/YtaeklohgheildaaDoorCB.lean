/- The reference's functions of layer 3 that look for one, and its small functions. -/
import Derived.Test.YtaeklohgheildaaDoorCA
namespace Go.Proofs.YtaeklohgheildaaDoor
open Go.RowKit
set_option linter.unusedVariables false

set_option maxHeartbeats 800000 in
theorem rLoad_any (l : List LoadD) (id : Int) (A : Option Addr) (n c B : Nat) (v1 v3 : Value) (w : World) (hn : n = l.length) (hl : n ≤ 1000) (hB : B ≤ w.heap.size) (hr : Recs 5 cellsL w B A l) :
    Calls Tryd.prog 18 #[.agg #[v1, .slice A n c, v3], .int .i64 id] w fun e w' => e = .returned (.int .i64 (place LoadD.id id l 0)) ∧ Below w.heap.size w w' := by
  have HR := Lib.hid hr
  have HL := Lib.hid hn
  clear hr hn
  go_enter Tryd.func18, Tryd.ntmps18
  go_wp2
  go_loop [5] (FindRel LoadD.id id l) (fun i => n - (intOf i).toNat)
  case atStart => exact ⟨0, by omega, rfl, rfl⟩
  case round =>
    obtain ⟨k, hk, rfl, hp⟩ := hrel
    have HP := Lib.hid hp
    clear hp
    by_cases hlt : k < n
    · have hkl : k < l.length := by have := HL.out; omega
      obtain ⟨b, o, rfl, hb, hcell⟩ := HR.out.at hkl
      have hc : w.cell? ⟨b, o + k * 5, none⟩ = some (.int .i64 l[k].id) := hcell 0 _ rfl
      have hbl : b < w.heap.size := by omega
      clear hcell
      by_cases he : l[k].id = id
      · have HE := Lib.hid (place_here hkl he HP.out)
        obtain rfl := he
        go_wp2
        go_ret
        exact ⟨ret_int HE.out.symm, (Below.refl _ _).alloc (Nat.le_refl _) _⟩
      · have HE := Lib.hid (place_step hkl he HP.out)
        go_wp2
        go_round
        case rel => exact ⟨k + 1, by omega, by go_num, HE.out⟩
        case measure => simp [intOf]; omega
    · have HE := Lib.hid (place_end (by have := HL.out; omega) HP.out)
      go_wp2
      go_ret
      exact ⟨ret_int HE.out.symm, (Below.refl _ _).alloc (Nat.le_refl _) _⟩

set_option maxHeartbeats 800000 in
theorem rPod_any (l : List PodD) (id : Int) (A : Option Addr) (n c B : Nat) (v1 v2 : Value) (w : World) (hn : n = l.length) (hl : n ≤ 1000) (hB : B ≤ w.heap.size) (hr : Recs 8 cellsP w B A l) :
    Calls Tryd.prog 26 #[.agg #[v1, v2, .slice A n c], .int .i64 id] w fun e w' => e = .returned (.int .i64 (place PodD.id id l 0)) ∧ Below w.heap.size w w' := by
  have HR := Lib.hid hr
  have HL := Lib.hid hn
  clear hr hn
  go_enter Tryd.func26, Tryd.ntmps26
  go_wp2
  go_loop [5] (FindRel PodD.id id l) (fun i => n - (intOf i).toNat)
  case atStart => exact ⟨0, by omega, rfl, rfl⟩
  case round =>
    obtain ⟨k, hk, rfl, hp⟩ := hrel
    have HP := Lib.hid hp
    clear hp
    by_cases hlt : k < n
    · have hkl : k < l.length := by have := HL.out; omega
      obtain ⟨b, o, rfl, hb, hcell⟩ := HR.out.at hkl
      have hc : w.cell? ⟨b, o + k * 8, none⟩ = some (.int .i64 l[k].id) := hcell 0 _ rfl
      have hbl : b < w.heap.size := by omega
      clear hcell
      by_cases he : l[k].id = id
      · have HE := Lib.hid (place_here hkl he HP.out)
        obtain rfl := he
        go_wp2
        go_ret
        exact ⟨ret_int HE.out.symm, (Below.refl _ _).alloc (Nat.le_refl _) _⟩
      · have HE := Lib.hid (place_step hkl he HP.out)
        go_wp2
        go_round
        case rel => exact ⟨k + 1, by omega, by go_num, HE.out⟩
        case measure => simp [intOf]; omega
    · have HE := Lib.hid (place_end (by have := HL.out; omega) HP.out)
      go_wp2
      go_ret
      exact ⟨ret_int HE.out.symm, (Below.refl _ _).alloc (Nat.le_refl _) _⟩

set_option maxHeartbeats 800000 in
theorem rWant_any (l : List WantD) (id : Int) (A : Option Addr) (n c B : Nat) (v2 v3 : Value) (w : World) (hn : n = l.length) (hl : n ≤ 1000) (hB : B ≤ w.heap.size) (hr : Recs 6 cellsW w B A l) :
    Calls Tryd.prog 19 #[.agg #[.slice A n c, v2, v3], .int .i64 id] w fun e w' => e = .returned (.int .i64 (place WantD.pod id l 0)) ∧ Below w.heap.size w w' := by
  have HR := Lib.hid hr
  have HL := Lib.hid hn
  clear hr hn
  go_enter Tryd.func19, Tryd.ntmps19
  go_wp2
  go_loop [5] (FindRel WantD.pod id l) (fun i => n - (intOf i).toNat)
  case atStart => exact ⟨0, by omega, rfl, rfl⟩
  case round =>
    obtain ⟨k, hk, rfl, hp⟩ := hrel
    have HP := Lib.hid hp
    clear hp
    by_cases hlt : k < n
    · have hkl : k < l.length := by have := HL.out; omega
      obtain ⟨b, o, rfl, hb, hcell⟩ := HR.out.at hkl
      have hc : w.cell? ⟨b, o + k * 6, none⟩ = some (.int .i64 l[k].pod) := hcell 0 _ rfl
      have hbl : b < w.heap.size := by omega
      clear hcell
      by_cases he : l[k].pod = id
      · have HE := Lib.hid (place_here hkl he HP.out)
        obtain rfl := he
        go_wp2
        go_ret
        exact ⟨ret_int HE.out.symm, (Below.refl _ _).alloc (Nat.le_refl _) _⟩
      · have HE := Lib.hid (place_step hkl he HP.out)
        go_wp2
        go_round
        case rel => exact ⟨k + 1, by omega, by go_num, HE.out⟩
        case measure => simp [intOf]; omega
    · have HE := Lib.hid (place_end (by have := HL.out; omega) HP.out)
      go_wp2
      go_ret
      exact ⟨ret_int HE.out.symm, (Below.refl _ _).alloc (Nat.le_refl _) _⟩

theorem id_any (n last : Int) (w : World) : Calls Tryd.prog 23 #[.int .i64 n, .int .i64 last] w fun e w' => e = .returned (.int .i64 (idBad n last)) ∧ w = w' := by
  by_cases h1 : n < 1
  · have HE := Lib.hid (show idBad n last = 1 by unfold idBad; rw [if_pos (.inl h1)])
    go_enter Tryd.func23, Tryd.ntmps23
    go_wp2
    go_ret
    exact ⟨ret_int HE.out.symm, rfl⟩
  · by_cases h2 : 2147483647 < n
    · have HE := Lib.hid (show idBad n last = 1 by unfold idBad; rw [if_pos (.inr h2)])
      go_enter Tryd.func23, Tryd.ntmps23
      go_wp2
      go_ret
      exact ⟨ret_int HE.out.symm, rfl⟩
    · by_cases h3 : n = last
      · have HE := Lib.hid (show idBad n last = 5 by unfold idBad; rw [if_neg (by omega), if_pos h3])
        obtain rfl := h3
        go_enter Tryd.func23, Tryd.ntmps23
        go_wp2
        go_ret
        exact ⟨ret_int HE.out.symm, rfl⟩
      · by_cases h4 : n < last
        · have HE := Lib.hid (show idBad n last = 1 by unfold idBad; rw [if_neg (by omega), if_neg h3, if_pos h4])
          go_enter Tryd.func23, Tryd.ntmps23
          go_wp2
          go_ret
          exact ⟨ret_int HE.out.symm, rfl⟩
        · have HE := Lib.hid (show idBad n last = 0 by unfold idBad; rw [if_neg (by omega), if_neg h3, if_neg h4])
          go_enter Tryd.func23, Tryd.ntmps23
          go_wp2
          go_ret
          exact ⟨ret_int HE.out.symm, rfl⟩
theorem ret_bool {a b : Bool} (h : a = b) : Ending.returned (.bool a) = .returned (.bool b) := by rw [h]
theorem count_any (n : Int) (w : World) : Calls Tryd.prog 25 #[.int .i64 n] w fun e w' => e = .returned (.bool (countOk n)) ∧ w = w' := by
  by_cases h : 0 ≤ n ∧ n ≤ 100
  · have HE := Lib.hid (show countOk n = true by simpa [countOk] using h)
    obtain ⟨h1, h2⟩ := h
    go_enter Tryd.func25, Tryd.ntmps25
    go_wp2
    go_ret
    exact ⟨ret_bool HE.out.symm, rfl⟩
  · have HE := Lib.hid (show countOk n = false by unfold countOk; exact decide_eq_false h)
    by_cases h1 : 0 ≤ n
    · have h2 : 100 < n := by omega
      have hd : decide (n ≤ 100) = false := decide_eq_false (by omega)
      go_enter Tryd.func25, Tryd.ntmps25
      go_wp2
      go_ret
      exact ⟨ret_bool HE.out.symm, rfl⟩
    · have hd : decide (0 ≤ n) = false := decide_eq_false h1
      have h2 : n < 0 := by omega
      go_enter Tryd.func25, Tryd.ntmps25
      go_wp2
      go_ret
      exact ⟨ret_bool HE.out.symm, rfl⟩
set_option maxHeartbeats 800000 in
theorem few_any (A1 A2 A3 : Option Addr) (n1 c1 n2 c2 n3 c3 : Nat) (w : World) :
    Calls Tryd.prog 8 #[.agg #[.slice A1 n1 c1, .slice A2 n2 c2, .slice A3 n3 c3]] w fun e w' => e = .returned (.bool (decide (n1 ≤ 40 ∧ n2 ≤ 40 ∧ n3 ≤ 40))) ∧ Below w.heap.size w w' := by
  by_cases h1 : n1 ≤ 40
  · by_cases h2 : n2 ≤ 40
    · by_cases h3 : n3 ≤ 40
      · have HE := Lib.hid (show decide (n1 ≤ 40 ∧ n2 ≤ 40 ∧ n3 ≤ 40) = true by simp [h1, h2, h3])
        have hd : decide ((n3 : Int) ≤ 40) = true := decide_eq_true (by omega)
        go_enter Tryd.func8, Tryd.ntmps8
        go_wp2
        go_ret
        exact ⟨ret_bool HE.out.symm, (Below.refl _ _).alloc (Nat.le_refl _) _⟩
      · have HE := Lib.hid (show decide (n1 ≤ 40 ∧ n2 ≤ 40 ∧ n3 ≤ 40) = false by simp; omega)
        have hd : decide ((n3 : Int) ≤ 40) = false := decide_eq_false (by omega)
        go_enter Tryd.func8, Tryd.ntmps8
        go_wp2
        go_ret
        exact ⟨ret_bool HE.out.symm, (Below.refl _ _).alloc (Nat.le_refl _) _⟩
    · have HE := Lib.hid (show decide (n1 ≤ 40 ∧ n2 ≤ 40 ∧ n3 ≤ 40) = false by simp; omega)
      have hd : decide ((n2 : Int) ≤ 40) = false := decide_eq_false (by omega)
      go_enter Tryd.func8, Tryd.ntmps8
      go_wp2
      go_ret
      exact ⟨ret_bool HE.out.symm, (Below.refl _ _).alloc (Nat.le_refl _) _⟩
  · have HE := Lib.hid (show decide (n1 ≤ 40 ∧ n2 ≤ 40 ∧ n3 ≤ 40) = false by simp; omega)
    have hd : decide ((n1 : Int) ≤ 40) = false := decide_eq_false (by omega)
    go_enter Tryd.func8, Tryd.ntmps8
    go_wp2
    go_ret
    exact ⟨ret_bool HE.out.symm, (Below.refl _ _).alloc (Nat.le_refl _) _⟩
end Go.Proofs.YtaeklohgheildaaDoor
