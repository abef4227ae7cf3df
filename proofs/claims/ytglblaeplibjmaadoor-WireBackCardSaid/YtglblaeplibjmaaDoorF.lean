/- Contract of the function that reads one number: wire.first. -/
import Derived.Test.YtglblaeplibjmaaDoorP
namespace Go.Proofs.YtglblaeplibjmaaDoor
open Go.RowKit
set_option linter.unusedVariables false

set_option maxRecDepth 100000 in
theorem andNot128 (c : Int) (h0 : 0 ≤ c) (h1 : c < 256) : bits .andNot .u8 c 128 = c % 128 := by
  have : c = c.toNat := by omega
  rw [this, show (128 : Int) = ((128 : Nat) : Int) from rfl, u8_andNot_nat _ _ (by omega) (by omega)]
  have hh : ∀ a : Nat, a < 256 → a &&& (255 - 128) = a % 128 := by decide
  rw [hh _ (by omega)]
  omega

theorem pw_two (k : Nat) : (2 : Int) ^ (7 * k) = pw k := by
  unfold pw
  rw [Int.pow_mul]
  rfl
theorem pw_nat (k : Nat) : pw k = ((2 ^ (7 * k) : Nat) : Int) := by rw [← pw_two]; simp
theorem pw_fits (x : Int) (k : Nat) (hx0 : 0 ≤ x) (hx : x < 128) (hk : k ≤ 9) (h9 : k = 9 → x ≤ 1) : 0 ≤ x * pw k ∧ x * pw k + pw k ≤ 18446744073709551616 := by
  have hp := pw_pos k
  refine ⟨Int.mul_nonneg hx0 (by omega), ?_⟩
  by_cases e9 : k = 9
  · have := h9 e9; subst e9; rw [pw_9]; omega
  · have h8 := pw_le (show k ≤ 8 by omega)
    rw [pw_8] at h8
    have : (x + 1) * pw k ≤ 128 * pw k := Int.mul_le_mul_of_nonneg_right (by omega) (by omega)
    rw [Int.add_mul] at this
    omega
theorem shl_or (m x : Int) (k : Nat) (hm0 : 0 ≤ m) (hm1 : m < pw k) (hx0 : 0 ≤ x) (hx : x < 128) (hk : k ≤ 9) (h9 : k = 9 → x ≤ 1) :
    bits .or .u64 m (IntKind.u64.wrap (x * 2 ^ (7 * k))) = m + x * pw k := by
  obtain ⟨f0, f1⟩ := pw_fits x k hx0 hx hk h9
  have hp := pw_pos k
  rw [pw_two, show IntKind.u64.wrap (x * pw k) = x * pw k by rw [IntKind.wrap_u64]; omega]
  obtain ⟨a, rfl⟩ := Int.eq_ofNat_of_zero_le hm0
  obtain ⟨y, rfl⟩ := Int.eq_ofNat_of_zero_le hx0
  rw [pw_nat] at f1 hm1 ⊢
  rw [← Int.natCast_mul] at f1 ⊢
  rw [u64_or_nat _ _ (by omega) (by omega), Nat.or_comm, Nat.mul_comm, ← Nat.two_pow_add_eq_or_of_lt (by omega)]
  omega

theorem scan_at (bs : List Int) (k : Nat) (m : Int) (h : k < bs.length) : scan (bs.drop k) k m =
    if k = 9 ∧ 1 < bs[k] then (0, 0) else if 128 ≤ bs[k] then scan (bs.drop (k + 1)) (k + 1) (m + (bs[k] - 128) * pw k) else if bs[k] = 0 ∧ 0 < k then (0, 0) else (m + bs[k] * pw k, k + 1) := by
  rw [List.drop_eq_getElem_cons h, scan]

def FirstRel (bs : List Int) (n i : Value) : Prop :=
  ∃ (k : Nat) (m : Int), k ≤ bs.length ∧ k ≤ 9 ∧ i = .int .i64 k ∧ n = .int .u64 m ∧ 0 ≤ m ∧ m < pw k ∧ scan (bs.drop k) k m = scan bs 0 0
theorem firstRel_go {bs : List Int} {k : Nat} {m x : Int} {h : k < bs.length} (hx : bs[k] = x) (hb : 0 ≤ x ∧ x < 256) (hk : k ≤ 8) (h128 : 128 ≤ x) (hm0 : 0 ≤ m) (hm1 : m < pw k) (hs : scan (bs.drop k) k m = scan bs 0 0) :
    FirstRel bs (.int .u64 (bits .or .u64 m (IntKind.u64.wrap (x % 128 * 2 ^ (7 * k))))) (.int .i64 (↑k + 1)) := by
  have hp := pw_pos k
  have e1 : x % 128 = x - 128 := by omega
  rw [shl_or m (x % 128) k hm0 hm1 (by omega) (by omega) (by omega) (by omega), e1]
  have h1 : 0 ≤ (x - 128) * pw k := Int.mul_nonneg (by omega) (by omega)
  have h2 : (x - 128) * pw k ≤ 127 * pw k := Int.mul_le_mul_of_nonneg_right (by omega) (by omega)
  refine ⟨k + 1, m + (x - 128) * pw k, by omega, by omega, by simp, rfl, by omega, by rw [pw_succ]; omega, ?_⟩
  rw [← hs, scan_at bs k m h, hx, if_neg (by omega), if_pos h128]
theorem ret_first {bs : List Int} {a : Int} {s : Nat} (h : scan bs 0 0 = (a, s)) : Ending.returned (.tuple #[.int .u64 a, .int .i64 (s : Int)]) = .returned (.tuple #[.int .u64 (scan bs 0 0).1, .int .i64 (scan bs 0 0).2]) := by rw [h]
theorem scan_none {bs : List Int} {k : Nat} {m x : Int} {h : k < bs.length} (hx : bs[k] = x) (hs : scan (bs.drop k) k m = scan bs 0 0) (hh : k = 9 ∧ 1 < x ∨ x = 0 ∧ 0 < k) : scan bs 0 0 = (0, 0) := by
  rw [← hs, scan_at bs k m h, hx]
  rcases hh with hh | hh
  · rw [if_pos hh]
  · rw [if_neg (by omega), if_neg (by omega), if_pos hh]
theorem scan_some {bs : List Int} {k : Nat} {m x : Int} {h : k < bs.length} (hx : bs[k] = x) (hb : 0 ≤ x) (hm0 : 0 ≤ m) (hm1 : m < pw k) (hk : k ≤ 9) (hs : scan (bs.drop k) k m = scan bs 0 0) (h1 : ¬ (k = 9 ∧ 1 < x)) (h2 : ¬ 128 ≤ x) (h3 : ¬ (x = 0 ∧ 0 < k)) :
    scan bs 0 0 = (bits .or .u64 m (IntKind.u64.wrap (x % 128 * 2 ^ (7 * k))), k + 1) := by
  rw [show x % 128 = x by omega, shl_or m x k hm0 hm1 (by omega) (by omega) (by omega) (by omega), ← hs, scan_at bs k m h, hx, if_neg h1, if_neg h2, if_neg h3]

set_option maxHeartbeats 800000 in
theorem first_any (bs : List Int) (A : Option Addr) (c R : Nat) (w : World) (hl : bs.length ≤ 100000) (hb : Octs bs) (hr : Row w R A (u8s bs)) :
    Calls Tryd.prog 19 #[.slice A bs.length c] w fun e w' => e = .returned (.tuple #[.int .u64 (scan bs 0 0).1, .int .i64 (scan bs 0 0).2]) ∧ w = w' := by
  have HB := Lib.hid hb
  have HR := Lib.hid hr
  clear hb hr
  go_enter Tryd.func19, Tryd.ntmps19
  go_wp2
  go_loop [4, 9] (FirstRel bs) (fun _ i => bs.length - (intOf i).toNat)
  case atStart => exact ⟨0, 0, by omega, by omega, rfl, rfl, by omega, by rw [pw_zero]; omega, rfl⟩
  case round =>
    obtain ⟨k, m, hk, hk9, rfl, rfl, hm0, hm1, hsc⟩ := hrel
    have HS := Lib.hid hsc
    clear hsc
    by_cases hlt : k < bs.length
    · obtain ⟨b, o, rfl, hb, hcell⟩ := HR.out.at (k := k) (by simpa using hlt)
      have hc := hcell k (by simpa using hlt)
      simp only [List.getElem_map] at hc
      have hcb := HB.out bs[k] (List.getElem_mem hlt)
      clear hcell
      generalize hce : bs[k] = x at *
      have HX := Lib.hid hce
      clear hce
      have han := andNot128 x hcb.1 hcb.2
      by_cases h9 : k = 9 ∧ 1 < x
      · obtain ⟨rfl, hx1⟩ := h9
        clear hm1
        go_wp2
        go_ret2
        exact ⟨ret_first (scan_none HX.out HS.out (.inl ⟨rfl, hx1⟩)), rfl⟩
      · by_cases h128 : 128 ≤ x
        · have hk8 : k ≤ 8 := by omega
          go_wp2
          go_round
          case rel => exact firstRel_go HX.out hcb hk8 h128 hm0 hm1 HS.out
          case measure => simp [intOf]; omega
        · by_cases h0 : x = 0 ∧ 0 < k
          · obtain ⟨rfl, hk0⟩ := h0
            go_wp2
            all_goals
              go_ret2
              exact ⟨ret_first (scan_none HX.out HS.out (.inr ⟨rfl, hk0⟩)), rfl⟩
          · have HE := Lib.hid (scan_some HX.out hcb.1 hm0 hm1 hk9 HS.out h9 h128 h0)
            by_cases e9 : k = 9
            · obtain rfl := e9
              have h1 : ¬ x = 0 := by omega
              have hx1 : x ≤ 1 := by omega
              have HF : Hid (scan bs 0 0 = (bits .or .u64 m (x % 128 * 9223372036854775808), 10)) := by
                have := HE.out
                rw [pw_two, pw_9, show IntKind.u64.wrap (x % 128 * 9223372036854775808) = x % 128 * 9223372036854775808 by rw [IntKind.wrap_u64]; omega] at this
                exact this
              clear h9 h0 hm1
              go_wp2
              go_ret2
              exact ⟨ret_first HF.out, rfl⟩
            · by_cases e0 : x = 0
              · obtain rfl := e0
                have HF : Hid (scan bs 0 0 = (bits .or .u64 m (IntKind.u64.wrap 0), k + 1)) := by
                  have := HE.out
                  rw [Int.zero_emod, Int.zero_mul] at this
                  exact this
                go_wp2
                go_ret2
                exact ⟨ret_first HF.out, rfl⟩
              · go_wp2
                go_ret2
                exact ⟨ret_first HE.out, rfl⟩
    · have e : k = bs.length := by omega
      have HE : Hid (scan bs 0 0 = (0, 0)) := by
        have := HS.out
        rw [List.drop_of_length_le (by omega)] at this
        exact this.symm
      clear e
      go_wp2
      go_ret2
      exact ⟨ret_first HE.out, rfl⟩
end Go.Proofs.YtglblaeplibjmaaDoor
