/- Contract of the reference's reader of one number: dunnageref02.one. -/
import Derived.Test.YtglblaeplibjmaaDoorF
namespace Go.Proofs.YtglblaeplibjmaaDoor
open Go.RowKit
set_option linter.unusedVariables false

def oneVal (pos : Nat) (s : Int × Nat) : Value := if s.2 = 0 then .tuple #[.int .u64 0, .int .i64 (-1)] else .tuple #[.int .u64 s.1, .int .i64 ((pos + s.2 : Nat) : Int)]
theorem ret_one_none {pos : Nat} {S : Int × Nat} (h : S = (0, 0)) : Ending.returned (.tuple #[.int .u64 0, .int .i64 (-1)]) = .returned (oneVal pos S) := by rw [h]; rfl
theorem ret_one_some {pos j : Nat} {S : Int × Nat} {n : Int} (hj : pos ≤ j) (h : S = (n, j - pos + 1)) : Ending.returned (.tuple #[.int .u64 n, .int .i64 ((j : Int) + 1)]) = .returned (oneVal pos S) := by
  rw [h]; unfold oneVal; rw [if_neg (by simp)]
  simp only
  rw [show ((pos + (j - pos + 1) : Nat) : Int) = (j : Int) + 1 by omega]

def OneRel (bs : List Int) (pos : Nat) (n p i : Value) : Prop :=
  ∃ (j : Nat) (m q : Int), pos ≤ j ∧ j ≤ bs.length ∧ j ≤ pos + 10 ∧ i = .int .i64 j ∧ n = .int .u64 m ∧ p = .int .u64 q ∧
    ((j ≤ pos + 9 ∧ 0 ≤ m ∧ m < pw (j - pos) ∧ q = pw (j - pos) ∧ scan (bs.drop j) (j - pos) m = scan (bs.drop pos) 0 0) ∨ (pos + 10 ≤ j ∧ scan (bs.drop pos) 0 0 = (0, 0)))

theorem scan_from (bs : List Int) (j k : Nat) (m : Int) (h : j < bs.length) : scan (bs.drop j) k m =
    if k = 9 ∧ 1 < bs[j] then (0, 0) else if 128 ≤ bs[j] then scan (bs.drop (j + 1)) (k + 1) (m + (bs[j] - 128) * pw k) else if bs[j] = 0 ∧ 0 < k then (0, 0) else (m + bs[j] * pw k, k + 1) := by
  rw [List.drop_eq_getElem_cons h, scan]


theorem one_len (m x : Int) (k : Nat) (hm0 : 0 ≤ m) (hm1 : m < pw k) (hx0 : 0 ≤ x) (hx1 : x < 128) : (x = 0 ∧ 0 < k → (enc (m + x * pw k)).length ≤ k) ∧ (¬ (x = 0 ∧ 0 < k) → (enc (m + x * pw k)).length = k + 1) := by
  have hp := pw_pos k
  have h1 : x * pw k ≤ 127 * pw k := Int.mul_le_mul_of_nonneg_right (by omega) (by omega)
  constructor
  · rintro ⟨rfl, hk⟩
    obtain ⟨k, rfl⟩ : ∃ i, k = i + 1 := ⟨k - 1, by omega⟩
    exact enc_len_le k _ (by omega)
  · intro hn
    have hle := enc_len_le k (m + x * pw k) (by rw [pw_succ]; omega)
    by_cases hk : k = 0
    · have := enc_len_pos (m + x * pw k); omega
    · have h2 : 1 * pw k ≤ x * pw k := Int.mul_le_mul_of_nonneg_right (by omega) (by omega)
      have := enc_len_ge k (m + x * pw k) (by omega)
      omega

set_option maxHeartbeats 1600000 in
theorem one_any (bs : List Int) (pos : Nat) (A : Option Addr) (c R : Nat) (w : World) (hl : bs.length ≤ 100000) (hat : pos ≤ bs.length) (hb : Octs bs) (hr : Row w R A (u8s bs)) :
    Calls Tryd.prog 21 #[.slice A bs.length c, .int .i64 pos] w fun e w' => e = .returned (oneVal pos (scan (bs.drop pos) 0 0)) ∧ Below w.heap.size w w' := by
  have HB := Lib.hid hb
  have HR := Lib.hid hr
  clear hb hr
  go_enter Tryd.func21, Tryd.ntmps21
  go_wp2
  go_loop [6, 7, 8] (OneRel bs pos) (fun _ _ i => bs.length - (intOf i).toNat)
  case atStart => exact ⟨pos, 0, 1, by omega, by omega, by omega, rfl, rfl, rfl, .inl ⟨by omega, by omega, by rw [Nat.sub_self, pw_zero]; omega, by rw [Nat.sub_self, pw_zero], by rw [Nat.sub_self]⟩⟩
  case round =>
    obtain ⟨j, m, q, hj0, hj1, hj10, rfl, rfl, rfl, ⟨hj9, hm0, hm1, hq, hsc⟩ | ⟨hj9, hsc⟩⟩ := hrel
    · have HS := Lib.hid hsc
      clear hsc
      by_cases hlt : j < bs.length
      · obtain ⟨b, o, rfl, hb, hcell⟩ := HR.out.at (k := j) (by simpa using hlt)
        have hc := hcell j (by simpa using hlt)
        simp only [List.getElem_map] at hc
        have hcb := HB.out bs[j] (List.getElem_mem hlt)
        clear hcell
        have hst := scan_from bs j (j - pos) m hlt
        have HT := Lib.hid (HS.out.symm.trans hst)
        clear hst HS
        generalize hce : bs[j] = x at *
        clear hce
        by_cases hy : pos + 9 ≤ j ∧ 1 < x % 128
        · obtain ⟨h9, h1⟩ := hy
          clear hq
          go_wp2
          go_ret2
          exact ⟨ret_one_none (HT.out.trans (if_pos (by omega))), Below.refl _ _⟩
        · obtain ⟨f0, f1⟩ := pw_fits (x % 128) (j - pos) (by omega) (by omega) (by omega) (by omega)
          have hone := one_len m x (j - pos) hm0 hm1 hcb.1
          have hp := pw_pos (j - pos)
          rw [← hq] at f0 f1 hm1 hone hp
          have hfit : m + x % 128 * q < 18446744073709551616 := by omega
          have hfit0 : 0 ≤ m + x % 128 * q := by omega
          have HQ := Lib.hid hq
          have HO := Lib.hid hone
          clear hq hone
          have hlen1 : ∀ (_ : x < 128) (_ : x = 0 ∧ pos < j), (enc (m + x * q)).length + pos < j + 1 := fun a b => by have := (HO.out a).1 (by omega); omega
          have hlen2 : ∀ (_ : x < 128) (_ : ¬ (x = 0 ∧ pos < j)), (enc (m + x * q)).length + pos = j + 1 := fun a b => by have := (HO.out a).2 (by omega); omega
          have HL1 := Lib.hid hlen1
          have HL2 := Lib.hid hlen2
          clear hlen1 hlen2 HO
          by_cases h9 : j = pos + 9
          · subst h9
            by_cases h128 : 128 ≤ x
            · have h1 : x % 128 ≤ 1 := by omega
              go_wp2
              go_round
              case rel => exact ⟨pos + 9 + 1, _, _, by omega, by omega, by omega, by go_num, rfl, rfl, .inr ⟨by omega, HT.out.trans (if_pos (by omega))⟩⟩
              case measure => simp [intOf]; omega
            · have hx : x % 128 = x := by omega
              rw [hx] at f0 f1 hfit hfit0 hy
              have hx1 : x ≤ 1 := by omega
              by_cases h0 : x = 0
              · have hlt' := HL1.out (by omega) (by omega)
                have HN : Hid (scan (bs.drop pos) 0 0 = (0, 0)) := HT.out.trans (by rw [if_neg (by omega), if_neg h128, if_pos (by omega)])
                clear HT HL1 HL2
                subst h0
                rw [Int.zero_mul, Int.add_zero] at hlt'
                go_wp2_with fail
                refine (rput_any m _ hm0 (by omega)).mono ?_
                rintro e w1 ⟨v, rfl, hown1, hb1⟩
                obtain ⟨A1, c1, rfl, _, _, _⟩ := own_form hown1
                clear hown1
                go_wp2
                go_ret2
                exact ⟨ret_one_none HN.out, hb1⟩
              · have hlt' := HL2.out (by omega) (by omega)
                have HN : Hid (scan (bs.drop pos) 0 0 = (m + x * q, pos + 9 - pos + 1)) := HT.out.trans (by rw [if_neg (by omega), if_neg h128, if_neg (by omega), HQ.out])
                clear HT HL1 HL2
                have hl1 : (enc (m + x * q)).length + pos ≤ pos + 9 + 1 := by omega
                have hl2 : pos + 9 + 1 ≤ (enc (m + x * q)).length + pos := by omega
                clear hlt'
                go_wp2_with fail
                refine (rput_any (m + x * q) _ hfit0 hfit).mono ?_
                rintro e w1 ⟨v, rfl, hown1, hb1⟩
                obtain ⟨A1, c1, rfl, _, _, _⟩ := own_form hown1
                clear hown1
                go_wp2
                go_ret2
                exact ⟨ret_one_some (by omega) HN.out, hb1⟩
          · by_cases h128 : 128 ≤ x
            · have h8 := pw_le (show j - pos ≤ 8 by omega)
              rw [pw_8, ← HQ.out] at h8
              have HR2 : Hid (m + x % 128 * q < pw (j + 1 - pos) ∧ q * 128 = pw (j + 1 - pos) ∧ scan (bs.drop (j + 1)) (j + 1 - pos) (m + x % 128 * q) = scan (bs.drop pos) 0 0) := by
                have hle : x % 128 * q ≤ 127 * q := Int.mul_le_mul_of_nonneg_right (by omega) (by omega)
                rw [show j + 1 - pos = (j - pos) + 1 by omega]
                refine ⟨by rw [pw_succ, ← HQ.out]; omega, by rw [pw_succ, ← HQ.out]; omega, ?_⟩
                rw [HT.out, if_neg (by omega), if_pos h128, show x % 128 = x - 128 by omega, HQ.out]
              go_wp2
              go_round
              case rel => exact ⟨j + 1, _, _, by omega, by omega, by omega, by go_num, rfl, rfl, .inl ⟨by omega, hfit0, HR2.out.1, HR2.out.2.1, HR2.out.2.2⟩⟩
              case measure => simp [intOf]; omega
            · have hx : x % 128 = x := by omega
              have hj8 : j < pos + 9 := by omega
              rw [hx] at f0 f1 hfit hfit0 hy
              by_cases h0 : x = 0 ∧ pos < j
              · have hlt' := HL1.out (by omega) h0
                have HN : Hid (scan (bs.drop pos) 0 0 = (0, 0)) := HT.out.trans (by rw [if_neg (by omega), if_neg h128, if_pos (by omega)])
                clear HT HL1 HL2
                obtain ⟨rfl, h0⟩ := h0
                rw [Int.zero_mul, Int.add_zero] at hlt'
                go_wp2_with fail
                refine (rput_any m _ hm0 (by omega)).mono ?_
                rintro e w1 ⟨v, rfl, hown1, hb1⟩
                obtain ⟨A1, c1, rfl, _, _, _⟩ := own_form hown1
                clear hown1
                go_wp2
                go_ret2
                exact ⟨ret_one_none HN.out, hb1⟩
              · have hlt' := HL2.out (by omega) h0
                have HN : Hid (scan (bs.drop pos) 0 0 = (m + x * q, j - pos + 1)) := HT.out.trans (by rw [if_neg (by omega), if_neg h128, if_neg (by omega), HQ.out])
                clear HT HL1 HL2
                have hl1 : (enc (m + x * q)).length + pos ≤ j + 1 := by omega
                have hl2 : j + 1 ≤ (enc (m + x * q)).length + pos := by omega
                clear hlt'
                go_wp2_with fail
                refine (rput_any (m + x * q) _ hfit0 hfit).mono ?_
                rintro e w1 ⟨v, rfl, hown1, hb1⟩
                obtain ⟨A1, c1, rfl, _, _, _⟩ := own_form hown1
                clear hown1
                go_wp2
                go_ret2
                exact ⟨ret_one_some (by omega) HN.out, hb1⟩
      · have HN : Hid (scan (bs.drop pos) 0 0 = (0, 0)) := by
          rw [← HS.out, List.drop_of_length_le (by omega)]; rfl
        go_wp2
        go_ret2
        exact ⟨ret_one_none HN.out, Below.refl _ _⟩
    · have HN := Lib.hid hsc
      clear hsc
      go_wp2
      all_goals
        go_ret2
        exact ⟨ret_one_none HN.out, Below.refl _ _⟩
end Go.Proofs.YtglblaeplibjmaaDoor
