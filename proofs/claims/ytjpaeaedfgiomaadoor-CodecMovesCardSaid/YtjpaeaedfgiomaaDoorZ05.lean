/- Joined texts, part 5: P F G Q H FM FN. -/
import Derived.Test.YtjpaeaedfgiomaaDoorZ01

/- Contracts of the two functions that write one number: wire.put and dunnageref02.put. -/
namespace Go.Proofs.YtjpaeaedfgiomaaDoor
set_option linter.unusedSimpArgs false
open Go.RowKit
set_option linter.unusedVariables false

theorem enc_of_lt {n : Int} (h : n < 128) (xs : List Int) : xs ++ [n] = xs ++ enc n := by rw [enc_lt h]
theorem enc_of_ge {n : Int} (h : 128 ≤ n) (xs : List Int) : (xs ++ [n % 128 + 128]) ++ enc (n / 128) = xs ++ enc n := by rw [enc_ge (n := n) (by omega)]; simp

/-- What is told is a row of the caller's own that holds these bytes. -/
def PutTo (B : Nat) (l : List Int) (w : World) (e : Ending) (w' : World) : Prop :=
  ∃ v, e = .returned v ∧ w'.ownsRow B 5 1 v (u8s l).length (u8s l) ∧ Below B w w'

theorem own8 {B : Nat} {w1 : World} {v : Value} {xs ys : List Int} {c : Int} (h : w1.ownsRow B 5 1 v (u8s xs ++ [Value.int .u8 c]).length (u8s xs ++ [Value.int .u8 c])) (e : xs ++ [c] = ys) : w1.ownsRow B 5 1 v (u8s ys).length (u8s ys) := by
  subst e; simpa using h

def PutRel (B : Nat) (all : List Int) (w : World) (v m : Value) (wr : World) : Prop :=
  ∃ (ys : List Int) (k : Int), 0 ≤ k ∧ k < 18446744073709551616 ∧ m = .int .u64 k ∧ ys ++ enc k = all ∧ wr.ownsRow B 5 1 v (u8s ys).length (u8s ys) ∧ Below B w wr ∧ B ≤ wr.heap.size

set_option maxRecDepth 100000 in
theorem or128 (k : Int) (h : 0 ≤ k) : bits .or .u8 (k % 256) 128 = k % 128 + 128 := by
  have : k % 256 = (k % 256).toNat := by omega
  rw [this, show (128 : Int) = ((128 : Nat) : Int) from rfl, u8_or_nat _ _ (by omega) (by omega)]
  have hh : ∀ a : Nat, a < 256 → a ||| 128 = a % 128 + 128 := by decide
  rw [hh _ (by omega)]
  omega

set_option maxHeartbeats 800000 in
theorem put_any (B : Nat) (v : Value) (xs : List Int) (n : Int) (w : World) (hB : B ≤ w.heap.size) (hown : w.ownsRow B 5 1 v (u8s xs).length (u8s xs)) (h0 : 0 ≤ n) (h1 : n < 18446744073709551616) (hx : xs.length ≤ 1000000) :
    Calls Tryd.prog 37 #[v, .int .u64 n] w (PutTo B (xs ++ enc n) w) := by
  have hlen : (enc n).length ≤ 10 := enc_len_ten n h1
  have hall : (xs ++ enc n).length ≤ 1000010 := by simp; omega
  go_enter Tryd.func37, Tryd.ntmps37
  go_wp2
  go_loopw [0, 1] (PutRel B (xs ++ enc n) w) (fun _ m _ => (intOf m).toNat)
  case atStart => exact ⟨xs, n, h0, h1, rfl, rfl, hown, Below.refl _ _, hB⟩
  case round =>
    obtain ⟨ys, k, hk0, hk1, rfl, hall', hownr, hbr, hBr⟩ := hrel
    have hys : (u8s ys).length ≤ 2000000 := by rw [← hall'] at hall; simp at hall ⊢; omega
    have HA := Lib.hid hall'
    have HY := Lib.hid hys
    clear hall' hall hlen hys
    by_cases hlt : 128 ≤ k
    · have hor := or128 k hk0
      go_wp2_with (at_builtin; refine wpList_push 23 5 (.int .u8 0) 1 Tryd.underlying23 Tryd.info5 rfl (by decide) rfl (.tmp 7) (.tmp 11) rfl B _ (u8s ys) (.int .u8 (k % 128 + 128)) rfl hownr hBr HY.out rfl rfl ?_; intro v' w1 hown1 hb1 hB1)
      go_roundw
      case rel => exact ⟨ys ++ [k % 128 + 128], k / 128, by omega, by omega, rfl, (enc_of_ge hlt ys).trans HA.out, own8 hown1 rfl, hbr.trans hb1, hB1⟩
      case measure => simp [intOf]; omega
    · have hk : k < 128 := by omega
      have hm : k % 256 = k := by omega
      clear hk1
      go_wp2_with (at_builtin; refine wpList_push 23 5 (.int .u8 0) 1 Tryd.underlying23 Tryd.info5 rfl (by decide) rfl (.tmp 15) (.tmp 18) rfl B _ (u8s ys) (.int .u8 k) rfl hownr hBr HY.out rfl rfl ?_; intro v' w1 hown1 hb1 hB1)
      go_ret
      exact ⟨v', rfl, own8 hown1 ((enc_of_lt hk ys).trans HA.out), hbr.trans hb1⟩

def RputRel (B : Nat) (all : List Int) (w : World) (m v : Value) (wr : World) : Prop := PutRel B all w v m wr
set_option maxHeartbeats 800000 in
/-- dunnageref02.put: the number's bytes, in a row of its own. -/
theorem rput_any (n : Int) (w : World) (h0 : 0 ≤ n) (h1 : n < 18446744073709551616) :
    Calls Tryd.prog 20 #[.int .u64 n] w (PutTo w.heap.size (enc n) w) := by
  have hlen : (enc n).length ≤ 10 := enc_len_ten n h1
  go_enter Tryd.func20, Tryd.ntmps20
  go_wp2
  go_loopw [0, 3] (RputRel w.heap.size (enc n) w) (fun m _ _ => (intOf m).toNat)
  case atStart => exact ⟨[], n, h0, h1, rfl, rfl, World.ownsRow_nil _ _ _ _, Below.refl _ _, Nat.le_refl _⟩
  case round =>
    obtain ⟨ys, k, hk0, hk1, rfl, hall', hownr, hbr, hBr⟩ := hrel
    have hys : (u8s ys).length ≤ 2000000 := by rw [← hall'] at hlen; simp at hlen ⊢; omega
    have HA := Lib.hid hall'
    have HY := Lib.hid hys
    clear hall' hlen hys
    by_cases hlt : 128 ≤ k
    · have hm : k % 128 % 256 = k % 128 := by omega
      go_wp2_with (at_builtin; refine wpList_push 23 5 (.int .u8 0) 1 Tryd.underlying23 Tryd.info5 rfl (by decide) rfl (.tmp 6) (.tmp 11) rfl w.heap.size _ (u8s ys) (.int .u8 (k % 128 + 128)) rfl hownr hBr HY.out rfl rfl ?_; intro v' w1 hown1 hb1 hB1)
      go_roundw
      case rel => exact ⟨ys ++ [k % 128 + 128], k / 128, by omega, by omega, rfl, (enc_of_ge hlt ys).trans HA.out, own8 hown1 rfl, hbr.trans hb1, hB1⟩
      case measure => simp [intOf]; omega
    · have hk : k < 128 := by omega
      have hm : k % 256 = k := by omega
      clear hk1
      go_wp2_with (at_builtin; refine wpList_push 23 5 (.int .u8 0) 1 Tryd.underlying23 Tryd.info5 rfl (by decide) rfl (.tmp 15) (.tmp 18) rfl w.heap.size _ (u8s ys) (.int .u8 k) rfl hownr hBr HY.out rfl rfl ?_; intro v' w1 hown1 hb1 hB1)
      go_ret
      exact ⟨v', rfl, own8 hown1 ((enc_of_lt hk ys).trans HA.out), hbr.trans hb1⟩
end Go.Proofs.YtjpaeaedfgiomaaDoor

/- Contract of the function that reads one number: wire.first. -/
namespace Go.Proofs.YtjpaeaedfgiomaaDoor
set_option linter.unusedSimpArgs false
open Go.RowKit
set_option linter.unusedVariables false

set_option maxRecDepth 100000 in
theorem andNot128 (c : Int) (h0 : 0 ≤ c) (h1 : c < 256) : bits .andNot .u8 c 128 = c % 128 := by
  have : c = c.toNat := by omega
  rw [this, show (128 : Int) = ((128 : Nat) : Int) from rfl, u8_andNot_nat _ _ (by omega) (by omega)]
  have hh : ∀ a : Nat, a < 256 → a &&& (255 - 128) = a % 128 := by decide
  rw [hh _ (by omega)]
  omega

theorem pw_two (k : Nat) : (2 : Int) ^ (7 * k) = pw k := by
  unfold pw
  rw [Int.pow_mul]
  rfl
theorem pw_nat (k : Nat) : pw k = ((2 ^ (7 * k) : Nat) : Int) := by rw [← pw_two]; simp
theorem pw_fits (x : Int) (k : Nat) (hx0 : 0 ≤ x) (hx : x < 128) (hk : k ≤ 9) (h9 : k = 9 → x ≤ 1) : 0 ≤ x * pw k ∧ x * pw k + pw k ≤ 18446744073709551616 := by
  have hp := pw_pos k
  refine ⟨Int.mul_nonneg hx0 (by omega), ?_⟩
  by_cases e9 : k = 9
  · have := h9 e9; subst e9; rw [pw_9]; omega
  · have h8 := pw_le (show k ≤ 8 by omega)
    rw [pw_8] at h8
    have : (x + 1) * pw k ≤ 128 * pw k := Int.mul_le_mul_of_nonneg_right (by omega) (by omega)
    rw [Int.add_mul] at this
    omega
theorem shl_or (m x : Int) (k : Nat) (hm0 : 0 ≤ m) (hm1 : m < pw k) (hx0 : 0 ≤ x) (hx : x < 128) (hk : k ≤ 9) (h9 : k = 9 → x ≤ 1) :
    bits .or .u64 m (IntKind.u64.wrap (x * 2 ^ (7 * k))) = m + x * pw k := by
  obtain ⟨f0, f1⟩ := pw_fits x k hx0 hx hk h9
  have hp := pw_pos k
  rw [pw_two, show IntKind.u64.wrap (x * pw k) = x * pw k by rw [IntKind.wrap_u64]; omega]
  obtain ⟨a, rfl⟩ := Int.eq_ofNat_of_zero_le hm0
  obtain ⟨y, rfl⟩ := Int.eq_ofNat_of_zero_le hx0
  rw [pw_nat] at f1 hm1 ⊢
  rw [← Int.natCast_mul] at f1 ⊢
  rw [u64_or_nat _ _ (by omega) (by omega), Nat.or_comm, Nat.mul_comm, ← Nat.two_pow_add_eq_or_of_lt (by omega)]
  omega

theorem scan_at (bs : List Int) (k : Nat) (m : Int) (h : k < bs.length) : scan (bs.drop k) k m =
    if k = 9 ∧ 1 < bs[k] then (0, 0) else if 128 ≤ bs[k] then scan (bs.drop (k + 1)) (k + 1) (m + (bs[k] - 128) * pw k) else if bs[k] = 0 ∧ 0 < k then (0, 0) else (m + bs[k] * pw k, k + 1) := by
  rw [List.drop_eq_getElem_cons h, scan]

def FirstRel (bs : List Int) (n i : Value) : Prop :=
  ∃ (k : Nat) (m : Int), k ≤ bs.length ∧ k ≤ 9 ∧ i = .int .i64 k ∧ n = .int .u64 m ∧ 0 ≤ m ∧ m < pw k ∧ scan (bs.drop k) k m = scan bs 0 0
theorem firstRel_go {bs : List Int} {k : Nat} {m x : Int} {h : k < bs.length} (hx : bs[k] = x) (hb : 0 ≤ x ∧ x < 256) (hk : k ≤ 8) (h128 : 128 ≤ x) (hm0 : 0 ≤ m) (hm1 : m < pw k) (hs : scan (bs.drop k) k m = scan bs 0 0) :
    FirstRel bs (.int .u64 (bits .or .u64 m (IntKind.u64.wrap (x % 128 * 2 ^ (7 * k))))) (.int .i64 (↑k + 1)) := by
  have hp := pw_pos k
  have e1 : x % 128 = x - 128 := by omega
  rw [shl_or m (x % 128) k hm0 hm1 (by omega) (by omega) (by omega) (by omega), e1]
  have h1 : 0 ≤ (x - 128) * pw k := Int.mul_nonneg (by omega) (by omega)
  have h2 : (x - 128) * pw k ≤ 127 * pw k := Int.mul_le_mul_of_nonneg_right (by omega) (by omega)
  refine ⟨k + 1, m + (x - 128) * pw k, by omega, by omega, by simp, rfl, by omega, by rw [pw_succ]; omega, ?_⟩
  rw [← hs, scan_at bs k m h, hx, if_neg (by omega), if_pos h128]
theorem ret_first {bs : List Int} {a : Int} {s : Nat} (h : scan bs 0 0 = (a, s)) : Ending.returned (.tuple #[.int .u64 a, .int .i64 (s : Int)]) = .returned (.tuple #[.int .u64 (scan bs 0 0).1, .int .i64 (scan bs 0 0).2]) := by rw [h]
theorem scan_none {bs : List Int} {k : Nat} {m x : Int} {h : k < bs.length} (hx : bs[k] = x) (hs : scan (bs.drop k) k m = scan bs 0 0) (hh : k = 9 ∧ 1 < x ∨ x = 0 ∧ 0 < k) : scan bs 0 0 = (0, 0) := by
  rw [← hs, scan_at bs k m h, hx]
  rcases hh with hh | hh
  · rw [if_pos hh]
  · rw [if_neg (by omega), if_neg (by omega), if_pos hh]
theorem scan_some {bs : List Int} {k : Nat} {m x : Int} {h : k < bs.length} (hx : bs[k] = x) (hb : 0 ≤ x) (hm0 : 0 ≤ m) (hm1 : m < pw k) (hk : k ≤ 9) (hs : scan (bs.drop k) k m = scan bs 0 0) (h1 : ¬ (k = 9 ∧ 1 < x)) (h2 : ¬ 128 ≤ x) (h3 : ¬ (x = 0 ∧ 0 < k)) :
    scan bs 0 0 = (bits .or .u64 m (IntKind.u64.wrap (x % 128 * 2 ^ (7 * k))), k + 1) := by
  rw [show x % 128 = x by omega, shl_or m x k hm0 hm1 (by omega) (by omega) (by omega) (by omega), ← hs, scan_at bs k m h, hx, if_neg h1, if_neg h2, if_neg h3]

set_option maxHeartbeats 800000 in
theorem first_any (bs : List Int) (A : Option Addr) (c R : Nat) (w : World) (hl : bs.length ≤ 100000) (hb : Octs bs) (hr : Row w R A (u8s bs)) :
    Calls Tryd.prog 57 #[.slice A bs.length c] w fun e w' => e = .returned (.tuple #[.int .u64 (scan bs 0 0).1, .int .i64 (scan bs 0 0).2]) ∧ w = w' := by
  have HB := Lib.hid hb
  have HR := Lib.hid hr
  clear hb hr
  go_enter Tryd.func57, Tryd.ntmps57
  go_wp2
  go_loop [4, 9] (FirstRel bs) (fun _ i => bs.length - (intOf i).toNat)
  case atStart => exact ⟨0, 0, by omega, by omega, rfl, rfl, by omega, by rw [pw_zero]; omega, rfl⟩
  case round =>
    obtain ⟨k, m, hk, hk9, rfl, rfl, hm0, hm1, hsc⟩ := hrel
    have HS := Lib.hid hsc
    clear hsc
    by_cases hlt : k < bs.length
    · obtain ⟨b, o, rfl, hb, hcell⟩ := HR.out.at (k := k) (by simpa using hlt)
      have hc := hcell k (by simpa using hlt)
      simp only [List.getElem_map] at hc
      have hcb := HB.out bs[k] (List.getElem_mem hlt)
      clear hcell
      generalize hce : bs[k] = x at *
      have HX := Lib.hid hce
      clear hce
      have han := andNot128 x hcb.1 hcb.2
      by_cases h9 : k = 9 ∧ 1 < x
      · obtain ⟨rfl, hx1⟩ := h9
        clear hm1
        go_wp2
        go_ret2
        exact ⟨ret_first (scan_none HX.out HS.out (.inl ⟨rfl, hx1⟩)), rfl⟩
      · by_cases h128 : 128 ≤ x
        · have hk8 : k ≤ 8 := by omega
          go_wp2
          go_round
          case rel => exact firstRel_go HX.out hcb hk8 h128 hm0 hm1 HS.out
          case measure => simp [intOf]; omega
        · by_cases h0 : x = 0 ∧ 0 < k
          · obtain ⟨rfl, hk0⟩ := h0
            go_wp2
            all_goals
              go_ret2
              exact ⟨ret_first (scan_none HX.out HS.out (.inr ⟨rfl, hk0⟩)), rfl⟩
          · have HE := Lib.hid (scan_some HX.out hcb.1 hm0 hm1 hk9 HS.out h9 h128 h0)
            by_cases e9 : k = 9
            · obtain rfl := e9
              have h1 : ¬ x = 0 := by omega
              have hx1 : x ≤ 1 := by omega
              have HF : Hid (scan bs 0 0 = (bits .or .u64 m (x % 128 * 9223372036854775808), 10)) := by
                have := HE.out
                rw [pw_two, pw_9, show IntKind.u64.wrap (x % 128 * 9223372036854775808) = x % 128 * 9223372036854775808 by rw [IntKind.wrap_u64]; omega] at this
                exact this
              clear h9 h0 hm1
              go_wp2
              go_ret2
              exact ⟨ret_first HF.out, rfl⟩
            · by_cases e0 : x = 0
              · obtain rfl := e0
                have HF : Hid (scan bs 0 0 = (bits .or .u64 m (IntKind.u64.wrap 0), k + 1)) := by
                  have := HE.out
                  rw [Int.zero_emod, Int.zero_mul] at this
                  exact this
                go_wp2
                go_ret2
                exact ⟨ret_first HF.out, rfl⟩
              · go_wp2
                go_ret2
                exact ⟨ret_first HE.out, rfl⟩
    · have e : k = bs.length := by omega
      have HE : Hid (scan bs 0 0 = (0, 0)) := by
        have := HS.out
        rw [List.drop_of_length_le (by omega)] at this
        exact this.symm
      clear e
      go_wp2
      go_ret2
      exact ⟨ret_first HE.out, rfl⟩
end Go.Proofs.YtjpaeaedfgiomaaDoor

/- Contract of the reference's reader of one number: dunnageref02.one. -/
namespace Go.Proofs.YtjpaeaedfgiomaaDoor
set_option linter.unusedSimpArgs false
open Go.RowKit
set_option linter.unusedVariables false

def oneVal (pos : Nat) (s : Int × Nat) : Value := if s.2 = 0 then .tuple #[.int .u64 0, .int .i64 (-1)] else .tuple #[.int .u64 s.1, .int .i64 ((pos + s.2 : Nat) : Int)]
theorem ret_one_none {pos : Nat} {S : Int × Nat} (h : S = (0, 0)) : Ending.returned (.tuple #[.int .u64 0, .int .i64 (-1)]) = .returned (oneVal pos S) := by rw [h]; rfl
theorem ret_one_some {pos j : Nat} {S : Int × Nat} {n : Int} (hj : pos ≤ j) (h : S = (n, j - pos + 1)) : Ending.returned (.tuple #[.int .u64 n, .int .i64 ((j : Int) + 1)]) = .returned (oneVal pos S) := by
  rw [h]; unfold oneVal; rw [if_neg (by simp)]
  simp only
  rw [show ((pos + (j - pos + 1) : Nat) : Int) = (j : Int) + 1 by omega]

def OneRel (bs : List Int) (pos : Nat) (n p i : Value) : Prop :=
  ∃ (j : Nat) (m q : Int), pos ≤ j ∧ j ≤ bs.length ∧ j ≤ pos + 10 ∧ i = .int .i64 j ∧ n = .int .u64 m ∧ p = .int .u64 q ∧
    ((j ≤ pos + 9 ∧ 0 ≤ m ∧ m < pw (j - pos) ∧ q = pw (j - pos) ∧ scan (bs.drop j) (j - pos) m = scan (bs.drop pos) 0 0) ∨ (pos + 10 ≤ j ∧ scan (bs.drop pos) 0 0 = (0, 0)))

theorem scan_from (bs : List Int) (j k : Nat) (m : Int) (h : j < bs.length) : scan (bs.drop j) k m =
    if k = 9 ∧ 1 < bs[j] then (0, 0) else if 128 ≤ bs[j] then scan (bs.drop (j + 1)) (k + 1) (m + (bs[j] - 128) * pw k) else if bs[j] = 0 ∧ 0 < k then (0, 0) else (m + bs[j] * pw k, k + 1) := by
  rw [List.drop_eq_getElem_cons h, scan]


theorem one_len (m x : Int) (k : Nat) (hm0 : 0 ≤ m) (hm1 : m < pw k) (hx0 : 0 ≤ x) (hx1 : x < 128) : (x = 0 ∧ 0 < k → (enc (m + x * pw k)).length ≤ k) ∧ (¬ (x = 0 ∧ 0 < k) → (enc (m + x * pw k)).length = k + 1) := by
  have hp := pw_pos k
  have h1 : x * pw k ≤ 127 * pw k := Int.mul_le_mul_of_nonneg_right (by omega) (by omega)
  constructor
  · rintro ⟨rfl, hk⟩
    obtain ⟨k, rfl⟩ : ∃ i, k = i + 1 := ⟨k - 1, by omega⟩
    exact enc_len_le k _ (by omega)
  · intro hn
    have hle := enc_len_le k (m + x * pw k) (by rw [pw_succ]; omega)
    by_cases hk : k = 0
    · have := enc_len_pos (m + x * pw k); omega
    · have h2 : 1 * pw k ≤ x * pw k := Int.mul_le_mul_of_nonneg_right (by omega) (by omega)
      have := enc_len_ge k (m + x * pw k) (by omega)
      omega

set_option maxHeartbeats 1600000 in
theorem one_any (bs : List Int) (pos : Nat) (A : Option Addr) (c R : Nat) (w : World) (hl : bs.length ≤ 100000) (hat : pos ≤ bs.length) (hb : Octs bs) (hr : Row w R A (u8s bs)) :
    Calls Tryd.prog 41 #[.slice A bs.length c, .int .i64 pos] w fun e w' => e = .returned (oneVal pos (scan (bs.drop pos) 0 0)) ∧ Below w.heap.size w w' := by
  have HB := Lib.hid hb
  have HR := Lib.hid hr
  clear hb hr
  go_enter Tryd.func41, Tryd.ntmps41
  go_wp2
  go_loop [6, 7, 8] (OneRel bs pos) (fun _ _ i => bs.length - (intOf i).toNat)
  case atStart => exact ⟨pos, 0, 1, by omega, by omega, by omega, rfl, rfl, rfl, .inl ⟨by omega, by omega, by rw [Nat.sub_self, pw_zero]; omega, by rw [Nat.sub_self, pw_zero], by rw [Nat.sub_self]⟩⟩
  case round =>
    obtain ⟨j, m, q, hj0, hj1, hj10, rfl, rfl, rfl, ⟨hj9, hm0, hm1, hq, hsc⟩ | ⟨hj9, hsc⟩⟩ := hrel
    · have HS := Lib.hid hsc
      clear hsc
      by_cases hlt : j < bs.length
      · obtain ⟨b, o, rfl, hb, hcell⟩ := HR.out.at (k := j) (by simpa using hlt)
        have hc := hcell j (by simpa using hlt)
        simp only [List.getElem_map] at hc
        have hcb := HB.out bs[j] (List.getElem_mem hlt)
        clear hcell
        have hst := scan_from bs j (j - pos) m hlt
        have HT := Lib.hid (HS.out.symm.trans hst)
        clear hst HS
        generalize hce : bs[j] = x at *
        clear hce
        by_cases hy : pos + 9 ≤ j ∧ 1 < x % 128
        · obtain ⟨h9, h1⟩ := hy
          clear hq
          go_wp2
          go_ret2
          exact ⟨ret_one_none (HT.out.trans (if_pos (by omega))), Below.refl _ _⟩
        · obtain ⟨f0, f1⟩ := pw_fits (x % 128) (j - pos) (by omega) (by omega) (by omega) (by omega)
          have hone := one_len m x (j - pos) hm0 hm1 hcb.1
          have hp := pw_pos (j - pos)
          rw [← hq] at f0 f1 hm1 hone hp
          have hfit : m + x % 128 * q < 18446744073709551616 := by omega
          have hfit0 : 0 ≤ m + x % 128 * q := by omega
          have HQ := Lib.hid hq
          have HO := Lib.hid hone
          clear hq hone
          have hlen1 : ∀ (_ : x < 128) (_ : x = 0 ∧ pos < j), (enc (m + x * q)).length + pos < j + 1 := fun a b => by have := (HO.out a).1 (by omega); omega
          have hlen2 : ∀ (_ : x < 128) (_ : ¬ (x = 0 ∧ pos < j)), (enc (m + x * q)).length + pos = j + 1 := fun a b => by have := (HO.out a).2 (by omega); omega
          have HL1 := Lib.hid hlen1
          have HL2 := Lib.hid hlen2
          clear hlen1 hlen2 HO
          by_cases h9 : j = pos + 9
          · subst h9
            by_cases h128 : 128 ≤ x
            · have h1 : x % 128 ≤ 1 := by omega
              go_wp2
              go_round
              case rel => exact ⟨pos + 9 + 1, _, _, by omega, by omega, by omega, by go_num, rfl, rfl, .inr ⟨by omega, HT.out.trans (if_pos (by omega))⟩⟩
              case measure => simp [intOf]; omega
            · have hx : x % 128 = x := by omega
              rw [hx] at f0 f1 hfit hfit0 hy
              have hx1 : x ≤ 1 := by omega
              by_cases h0 : x = 0
              · have hlt' := HL1.out (by omega) (by omega)
                have HN : Hid (scan (bs.drop pos) 0 0 = (0, 0)) := HT.out.trans (by rw [if_neg (by omega), if_neg h128, if_pos (by omega)])
                clear HT HL1 HL2
                subst h0
                rw [Int.zero_mul, Int.add_zero] at hlt'
                go_wp2_with fail
                refine (rput_any m _ hm0 (by omega)).mono ?_
                rintro e w1 ⟨v, rfl, hown1, hb1⟩
                obtain ⟨A1, c1, rfl, _, _, _⟩ := own_form hown1
                clear hown1
                go_wp2
                go_ret2
                exact ⟨ret_one_none HN.out, hb1⟩
              · have hlt' := HL2.out (by omega) (by omega)
                have HN : Hid (scan (bs.drop pos) 0 0 = (m + x * q, pos + 9 - pos + 1)) := HT.out.trans (by rw [if_neg (by omega), if_neg h128, if_neg (by omega), HQ.out])
                clear HT HL1 HL2
                have hl1 : (enc (m + x * q)).length + pos ≤ pos + 9 + 1 := by omega
                have hl2 : pos + 9 + 1 ≤ (enc (m + x * q)).length + pos := by omega
                clear hlt'
                go_wp2_with fail
                refine (rput_any (m + x * q) _ hfit0 hfit).mono ?_
                rintro e w1 ⟨v, rfl, hown1, hb1⟩
                obtain ⟨A1, c1, rfl, _, _, _⟩ := own_form hown1
                clear hown1
                go_wp2
                go_ret2
                exact ⟨ret_one_some (by omega) HN.out, hb1⟩
          · by_cases h128 : 128 ≤ x
            · have h8 := pw_le (show j - pos ≤ 8 by omega)
              rw [pw_8, ← HQ.out] at h8
              have HR2 : Hid (m + x % 128 * q < pw (j + 1 - pos) ∧ q * 128 = pw (j + 1 - pos) ∧ scan (bs.drop (j + 1)) (j + 1 - pos) (m + x % 128 * q) = scan (bs.drop pos) 0 0) := by
                have hle : x % 128 * q ≤ 127 * q := Int.mul_le_mul_of_nonneg_right (by omega) (by omega)
                rw [show j + 1 - pos = (j - pos) + 1 by omega]
                refine ⟨by rw [pw_succ, ← HQ.out]; omega, by rw [pw_succ, ← HQ.out]; omega, ?_⟩
                rw [HT.out, if_neg (by omega), if_pos h128, show x % 128 = x - 128 by omega, HQ.out]
              go_wp2
              go_round
              case rel => exact ⟨j + 1, _, _, by omega, by omega, by omega, by go_num, rfl, rfl, .inl ⟨by omega, hfit0, HR2.out.1, HR2.out.2.1, HR2.out.2.2⟩⟩
              case measure => simp [intOf]; omega
            · have hx : x % 128 = x := by omega
              have hj8 : j < pos + 9 := by omega
              rw [hx] at f0 f1 hfit hfit0 hy
              by_cases h0 : x = 0 ∧ pos < j
              · have hlt' := HL1.out (by omega) h0
                have HN : Hid (scan (bs.drop pos) 0 0 = (0, 0)) := HT.out.trans (by rw [if_neg (by omega), if_neg h128, if_pos (by omega)])
                clear HT HL1 HL2
                obtain ⟨rfl, h0⟩ := h0
                rw [Int.zero_mul, Int.add_zero] at hlt'
                go_wp2_with fail
                refine (rput_any m _ hm0 (by omega)).mono ?_
                rintro e w1 ⟨v, rfl, hown1, hb1⟩
                obtain ⟨A1, c1, rfl, _, _, _⟩ := own_form hown1
                clear hown1
                go_wp2
                go_ret2
                exact ⟨ret_one_none HN.out, hb1⟩
              · have hlt' := HL2.out (by omega) h0
                have HN : Hid (scan (bs.drop pos) 0 0 = (m + x * q, j - pos + 1)) := HT.out.trans (by rw [if_neg (by omega), if_neg h128, if_neg (by omega), HQ.out])
                clear HT HL1 HL2
                have hl1 : (enc (m + x * q)).length + pos ≤ j + 1 := by omega
                have hl2 : j + 1 ≤ (enc (m + x * q)).length + pos := by omega
                clear hlt'
                go_wp2_with fail
                refine (rput_any (m + x * q) _ hfit0 hfit).mono ?_
                rintro e w1 ⟨v, rfl, hown1, hb1⟩
                obtain ⟨A1, c1, rfl, _, _, _⟩ := own_form hown1
                clear hown1
                go_wp2
                go_ret2
                exact ⟨ret_one_some (by omega) HN.out, hb1⟩
      · have HN : Hid (scan (bs.drop pos) 0 0 = (0, 0)) := by
          rw [← HS.out, List.drop_of_length_le (by omega)]; rfl
        go_wp2
        go_ret2
        exact ⟨ret_one_none HN.out, Below.refl _ _⟩
    · have HN := Lib.hid hsc
      clear hsc
      go_wp2
      all_goals
        go_ret2
        exact ⟨ret_one_none HN.out, Below.refl _ _⟩
end Go.Proofs.YtjpaeaedfgiomaaDoor

/- Contracts of the two functions that write numbers: wire.Put and dunnageref02.Put. -/
namespace Go.Proofs.YtjpaeaedfgiomaaDoor
set_option linter.unusedSimpArgs false
open Go.RowKit
set_option linter.unusedVariables false

theorem encs_take (l : List Int) (k : Nat) (h : k < l.length) : encs (l.take k) ++ enc l[k] = encs (l.take (k + 1)) := by
  rw [List.take_succ_eq_append_getElem h, encs_append, encs_one]
theorem encs_take_len (l : List Int) (hn : Nums l) (hl : l.length ≤ 5000) (k : Nat) : (encs (l.take k)).length ≤ 50000 := by
  have := encs_len_le (hn.take k)
  have := List.length_take_le' k l
  omega

def PutsRel (l : List Int) (w : World) (v i : Value) (wr : World) : Prop :=
  ∃ k : Nat, k ≤ l.length ∧ i = .int .i64 k ∧ wr.ownsRow w.heap.size 5 1 v (u8s (encs (l.take k))).length (u8s (encs (l.take k))) ∧ Below w.heap.size w wr

set_option maxHeartbeats 800000 in
theorem Put_any (l : List Int) (A : Option Addr) (c : Nat) (w : World) (hl : l.length ≤ 5000) (hn : Nums l) (hr : Row w w.heap.size A (u64s l)) :
    Calls Tryd.prog 14 #[.slice A l.length c] w (PutTo w.heap.size (encs l) w) := by
  have HN := Lib.hid hn
  have HR := Lib.hid hr
  clear hn hr
  go_enter Tryd.func14, Tryd.ntmps14
  go_wp2
  go_loopw [3, 8] (PutsRel l w) (fun _ i _ => l.length - (intOf i).toNat)
  case atStart => exact ⟨0, by omega, rfl, World.ownsRow_nil _ _ _ _, Below.refl _ _⟩
  case round =>
    obtain ⟨k, hk, rfl, hown, hbr⟩ := hrel
    by_cases hlt : k < l.length
    · obtain ⟨b, o, rfl, hb, hcell⟩ := HR.out.at (k := k) (by simpa using hlt)
      have hc := (hbr.cell (p := ⟨b, o + k, none⟩) hb).trans (hcell k (by simpa using hlt))
      simp only [List.getElem_map] at hc
      clear hcell
      have hz := hbr.size
      go_wp2_with fail
      refine (put_any w.heap.size _ (encs (l.take k)) l[k] _ hz hown (HN.out _ (List.getElem_mem hlt)).1 (HN.out _ (List.getElem_mem hlt)).2 (by have := encs_take_len l HN.out hl k; omega)).mono ?_
      rintro e w1 ⟨v, rfl, hown1, hb1⟩
      go_wp2
      go_roundw
      case rel => exact ⟨k + 1, by omega, by go_num, by rw [← encs_take l k hlt]; exact hown1, hbr.trans hb1⟩
      case measure => simp [intOf]; omega
    · have HK : Hid (l.take k = l) := List.take_of_length_le (by omega)
      go_wp2
      go_ret
      exact ⟨_, rfl, by rw [HK.out] at hown; exact hown, hbr⟩

set_option maxHeartbeats 800000 in
theorem rPut_any (l : List Int) (A : Option Addr) (c : Nat) (w : World) (hl : l.length ≤ 5000) (hn : Nums l) (hr : Row w w.heap.size A (u64s l)) :
    Calls Tryd.prog 7 #[.slice A l.length c] w (PutTo w.heap.size (encs l) w) := by
  have HN := Lib.hid hn
  have HR := Lib.hid hr
  clear hn hr
  go_enter Tryd.func7, Tryd.ntmps7
  go_wp2
  go_loopw [3, 4] (PutsRel l w) (fun _ i _ => l.length - (intOf i).toNat)
  case atStart => exact ⟨0, by omega, rfl, World.ownsRow_nil _ _ _ _, Below.refl _ _⟩
  case round =>
    obtain ⟨k, hk, rfl, hown, hbr⟩ := hrel
    by_cases hlt : k < l.length
    · obtain ⟨b, o, rfl, hb, hcell⟩ := HR.out.at (k := k) (by simpa using hlt)
      have hc := (hbr.cell (p := ⟨b, o + k, none⟩) hb).trans (hcell k (by simpa using hlt))
      simp only [List.getElem_map] at hc
      clear hcell
      have hz := hbr.size
      go_wp2_with fail
      refine (rput_any l[k] _ (HN.out _ (List.getElem_mem hlt)).1 (HN.out _ (List.getElem_mem hlt)).2).mono ?_
      rintro e w1 ⟨v, rfl, hown1, hb1⟩
      obtain ⟨A1, c1, rfl, _, _, hnil⟩ := own_form hown1
      have hrow := (Row.of_own hown1).1
      have hown0 := own_below hown hb1 (Nat.le_refl _)
      have hz1 := hb1.size
      have h10 := encs_take_len l HN.out hl k
      have h11 := enc_len_ten l[k] (HN.out _ (List.getElem_mem hlt)).2
      have HL : Hid ((u8s (encs (l.take k))).length + (u8s (enc l[k])).length ≤ 2000000) := by show _ ≤ _; simp only [List.length_map]; omega
      clear h10 h11
      go_wp2_with (at_builtin; refine wpList_cat 23 5 (.int .u8 0) 1 Tryd.underlying23 Tryd.info5 rfl (by decide) rfl (.tmp 11) (.tmp 16) rfl w.heap.size _ _ (u8s (encs (l.take k))) (u8s (enc l[k])) A1 c1 (one_u8s _) (fun h => (hnil h).2) hown0 hrow (by omega) HL.out rfl rfl (by simp) ?_; intro v' w2 hown2 hb2 hB2)
      go_roundw
      case rel => exact ⟨k + 1, by omega, by go_num, by rw [← encs_take l k hlt]; simpa using hown2, (hbr.trans (hb1.mono hz)).trans hb2⟩
      case measure => simp [intOf]; omega
    · have HK : Hid (l.take k = l) := List.take_of_length_le (by omega)
      go_wp2
      go_ret
      exact ⟨_, rfl, by rw [HK.out] at hown; exact hown, hbr⟩
end Go.Proofs.YtjpaeaedfgiomaaDoor

/- Contracts of the functions that read numbers: wire.All, wire.Get and the reference's. -/
namespace Go.Proofs.YtjpaeaedfgiomaaDoor
set_option linter.unusedSimpArgs false
open Go.RowKit
set_option linter.unusedVariables false

/-- An error of package wire: a Spot of the call's own, at a place, ErrForm. -/
def Spotted (B p : Nat) (w' : World) (u : Value) : Prop :=
  ∃ g, u = .iface 96 (.pointer (some ⟨g, 0, none⟩)) ∧ B ≤ g ∧ w'.heap[g]? = some (.cells #[.int .i64 (p : Int), .int .i64 2] 101 (0, 0))

theorem misformed_any (p : Int) (w : World) : Calls Tryd.prog 58 #[.int .i64 p] w fun e w' => e = .returned (.iface 96 (.pointer (some ⟨w.heap.size, 0, none⟩))) ∧ w.alloc (.cells #[.int .i64 p, .int .i64 2] 101) = w' := by
  go_enter Tryd.func58, Tryd.ntmps58
  go_wp2
  go_ret
  exact ⟨rfl, rfl⟩

def AllRel (ns : List Int) (w : World) (v i : Value) (wr : World) : Prop :=
  ∃ k : Nat, k ≤ ns.length ∧ i = .int .i64 ((encs (ns.take k)).length : Nat) ∧ wr.ownsRow w.heap.size 52 1 v (u64s (ns.take k)).length (u64s (ns.take k)) ∧ Below w.heap.size w wr

def AllTo (ns rest : List Int) (w : World) (e : Ending) (w' : World) : Prop :=
  ((rest = [] ∧ ∃ v, e = .returned (.tuple #[v, .nilIface]) ∧ w'.ownsRow w.heap.size 52 1 v (u64s ns).length (u64s ns)) ∨
   (rest ≠ [] ∧ ∃ u, e = .returned (.tuple #[.slice none 0 0, u]) ∧ Spotted w.heap.size (encs ns).length w' u)) ∧ Below w.heap.size w w'

theorem Row.cut {w : World} {B : Nat} {A : Option Addr} {xs : List Value} (h : Row w B A xs) (p : Nat) : Row w B (A.map (·.add p)) (xs.drop p) := by
  rcases h with h | ⟨b, o, h1, h2, h3⟩
  · exact .inl (by simp [h])
  · refine .inr ⟨b, o + p, by rw [h1]; simp [Addr.add_lit], h2, fun j hj => ?_⟩
    rw [List.getElem_drop, Nat.add_assoc]
    exact h3 (p + j) (by simp at hj; omega)
theorem u8s_drop (l : List Int) (p : Nat) : u8s (l.drop p) = (u8s l).drop p := by simp
theorem first_hit (v : Int) (r : List Int) (A : Option Addr) (n c R : Nat) (w : World) (hn : n = (enc v ++ r).length) (hl : n ≤ 100000) (h0 : 0 ≤ v ∧ v < 18446744073709551616) (hb : Octs r) (hr : Row w R A (u8s (enc v ++ r))) :
    Calls Tryd.prog 57 #[.slice A n c] w fun e w' => e = .returned (.tuple #[.int .u64 v, .int .i64 ((enc v).length : Nat)]) ∧ w = w' := by
  subst hn
  have := first_any (enc v ++ r) A c R w hl (fun x hx => by rcases List.mem_append.1 hx with h | h; exact enc_bytes v h0.1 x h; exact hb x h) hr
  rw [scan_hit v r h0.1 h0.2] at this
  exact this
theorem first_miss (r : List Int) (A : Option Addr) (n c R : Nat) (w : World) (hn : n = r.length) (hl : n ≤ 100000) (hb : Octs r) (hm : Miss r) (hr : Row w R A (u8s r)) :
    Calls Tryd.prog 57 #[.slice A n c] w fun e w' => e = .returned (.tuple #[.int .u64 0, .int .i64 0]) ∧ w = w' := by
  subst hn
  have := first_any r A c R w hl hb hr
  rw [show scan r 0 0 = (0, 0) from hm] at this
  exact this

theorem drop_at (ns rest : List Int) (k : Nat) (h : k < ns.length) : (encs ns ++ rest).drop (encs (ns.take k)).length = enc ns[k] ++ (encs (ns.drop (k + 1)) ++ rest) := by
  have e : encs ns = encs (ns.take k) ++ (enc ns[k] ++ encs (ns.drop (k + 1))) := by
    have : ns = ns.take k ++ (ns[k] :: ns.drop (k + 1)) := by rw [← List.drop_eq_getElem_cons h, List.take_append_drop]
    conv => lhs; rw [this]
    rw [encs_append]; rfl
  rw [e, List.append_assoc, List.drop_left, List.append_assoc]
theorem len_at (ns rest : List Int) (k : Nat) (h : k < ns.length) : (encs (ns.take k)).length + (enc ns[k]).length ≤ (encs ns ++ rest).length := by
  have := congrArg List.length (drop_at ns rest k h)
  have h1 := enc_len_pos ns[k]
  simp only [List.length_drop, List.length_append] at this ⊢
  omega
theorem len_next (ns : List Int) (k : Nat) (h : k < ns.length) : (encs (ns.take (k + 1))).length = (encs (ns.take k)).length + (enc ns[k]).length := by
  rw [← encs_take ns k h, List.length_append]
theorem drop_end (ns rest : List Int) : (encs ns ++ rest).drop (encs ns).length = rest := List.drop_left
theorem octs_append {a b : List Int} (ha : Octs a) (hb : Octs b) : Octs (a ++ b) := fun x hx => by
  rcases List.mem_append.1 hx with h | h
  · exact ha x h
  · exact hb x h
theorem nums_drop {a : List Int} (ha : Nums a) (k : Nat) : Nums (a.drop k) := fun n hn => ha n (List.mem_of_mem_drop hn)
theorem own64 {B : Nat} {w1 : World} {v : Value} {xs ys : List Int} {c : Int} (h : w1.ownsRow B 52 1 v (u64s xs ++ [Value.int .u64 c]).length (u64s xs ++ [Value.int .u64 c])) (e : xs ++ [c] = ys) : w1.ownsRow B 52 1 v (u64s ys).length (u64s ys) := by
  subst e; simpa using h

set_option maxHeartbeats 800000 in
theorem All_any (ns rest : List Int) (A : Option Addr) (n c : Nat) (w : World) (hn : n = (encs ns ++ rest).length) (hl : n ≤ 100000) (hc : n ≤ c) (hc' : c ≤ maxLen) (hns : Nums ns) (hb : Octs rest) (hm : rest = [] ∨ (rest ≠ [] ∧ Miss rest)) (hr : Row w w.heap.size A (u8s (encs ns ++ rest))) :
    Calls Tryd.prog 39 #[.slice A n c] w (AllTo ns rest w) := by
  unfold maxLen at hc'
  have HN := Lib.hid hns
  have HB := Lib.hid hb
  have HR := Lib.hid hr
  have HM := Lib.hid hm
  have HL := Lib.hid hn
  clear hns hb hr hm hn
  go_enter Tryd.func39, Tryd.ntmps39
  go_wp2
  go_loopw [4, 5] (AllRel ns w) (fun _ i _ => n - (intOf i).toNat)
  case atStart => exact ⟨0, by omega, rfl, World.ownsRow_nil _ _ _ _, Below.refl _ _⟩
  case round =>
    obtain ⟨k, hk, rfl, hown, hbr⟩ := hrel
    have hz := hbr.size
    have hrow := HR.out.below hbr (Nat.le_refl _)
    by_cases hlt : k < ns.length
    · have hat := len_at ns rest k hlt
      have hnx := len_next ns k hlt
      have hcut := hrow.cut (encs (ns.take k)).length
      rw [← u8s_drop, drop_at ns rest k hlt] at hcut
      have hd := congrArg List.length (drop_at ns rest k hlt)
      rw [List.length_drop] at hd
      rw [← HL.out] at hat hd
      have hpos := enc_len_pos ns[k]
      have hv := HN.out _ (List.getElem_mem hlt)
      have ho : Octs (encs (ns.drop (k + 1)) ++ rest) := octs_append (encs_octs (nums_drop HN.out _)) HB.out
      have hul : (u64s (ns.take k)).length ≤ 2000000 := by
        have := encs_len_ge ns
        have h1 := HL.out
        simp at h1 ⊢; omega
      have htk : ns.take k ++ [ns[k]] = ns.take (k + 1) := (List.take_succ_eq_append_getElem hlt).symm
      generalize hpe : (encs (ns.take k)).length = p at *
      have HP := Lib.hid hpe
      have HX := Lib.hid hnx
      have HD := Lib.hid hd
      have HC := Lib.hid hcut
      have HT := Lib.hid htk
      have HU := Lib.hid hul
      have HO := Lib.hid ho
      clear hpe hnx hd hcut htk hul hrow ho
      have hlen10 := enc_len_ten ns[k] hv.2
      go_wp2_with fail
      refine (first_hit ns[k] (encs (ns.drop (k + 1)) ++ rest) _ _ _ _ _ HD.out (by omega) hv HO.out HC.out).mono ?_
      rintro e w1 ⟨rfl, rfl⟩
      generalize hqe : (enc ns[k]).length = q at *
      generalize hve : ns[k] = x at *
      clear HD HC
      have HQ := Lib.hid hqe
      clear hqe hve
      go_wp2_with (at_builtin; refine wpList_push 29 52 (.int .u64 0) 8 Tryd.underlying29 Tryd.info52 rfl (by decide) rfl (.tmp 23) (.tmp 25) rfl w.heap.size _ (u64s (ns.take k)) (.int .u64 x) rfl hown hz HU.out rfl rfl ?_; intro v' w1 hown1 hb1 hB1)
      go_roundw
      case rel => exact ⟨k + 1, by omega, by rw [HX.out]; go_num, own64 hown1 HT.out, hbr.trans hb1⟩
      case measure => simp [intOf]; omega
    · have htk : ns.take k = ns := List.take_of_length_le (by omega)
      rw [htk] at hown ⊢
      rcases HM.out with h0 | ⟨hne, hm⟩
      · subst h0
        have he : (encs ns).length = n := by rw [HL.out]; simp
        generalize hpe : (encs ns).length = p at *
        have hp : n ≤ p := by omega
        clear hpe he htk hrow
        go_wp2
        go_ret2
        exact ⟨.inl ⟨rfl, _, rfl, hown⟩, hbr⟩
      · have hcut := hrow.cut (encs ns).length
        rw [← u8s_drop, drop_end] at hcut
        have hd : n - (encs ns).length = rest.length := by rw [HL.out]; simp
        have hr0 : 0 < rest.length := List.length_pos_iff.2 hne
        have HNE := Lib.hid hne
        generalize hpe : (encs ns).length = p at *
        have hp : p < n := by omega
        have HP := Lib.hid hpe
        have HD := Lib.hid hd
        have HC := Lib.hid hcut
        have HM' := Lib.hid hm
        clear hpe hd hcut htk hrow hm hne
        go_wp2_with fail
        refine (first_miss rest _ _ _ _ _ HD.out (by omega) HB.out HM'.out HC.out).mono ?_
        rintro e w1 ⟨rfl, rfl⟩
        go_wp2_with fail
        refine (misformed_any _ _).mono ?_
        rintro e w1 ⟨rfl, rfl⟩
        go_wp2
        go_ret2
        refine ⟨.inr ⟨HNE.out, _, rfl, wr.heap.size, rfl, hz, ?_⟩, hbr.alloc hz _⟩
        rw [HP.out]
        exact heap_alloc_new _ _
end Go.Proofs.YtjpaeaedfgiomaaDoor

/- Plain mathematics of layer 4: records as numbers, one behind the other, and back; no program stands in it. -/
namespace Go.Proofs.YtjpaeaedfgiomaaDoor
set_option linter.unusedSimpArgs false

structure MoveD where
  kind : Int
  pod : Int
  node : Int
  over : Int

/-- A kind of record: how many numbers it has, what they are, and back; which numbers may be one's. -/
structure Kind (α : Type) where
  size : Nat
  nums : α → List Int
  get : List Int → α
  ok : List Int → Bool
  len : ∀ x, (nums x).length = size
  back : ∀ x, get (nums x) = x
  once : ∀ c, c.length = size → ok c = true → nums (get c) = c

section
variable {α : Type} (K : Kind α)
def parse : Nat → List Int → List α
  | 0, _ => []
  | n + 1, l => K.get (l.take K.size) :: parse n (l.drop K.size)
def fine : Nat → List Int → Bool
  | 0, _ => true
  | n + 1, l => K.ok (l.take K.size) && fine n (l.drop K.size)
theorem parse_length : ∀ (n : Nat) (l : List Int), (parse K n l).length = n
  | 0, _ => rfl
  | n + 1, l => by simp [parse, parse_length n]
/-- What was written is read as it was. -/
theorem parse_flat : ∀ (xs : List α) (rest : List Int), parse K xs.length (xs.flatMap K.nums ++ rest) = xs
  | [], rest => rfl
  | x :: r, rest => by
    have e : (x :: r).flatMap K.nums ++ rest = K.nums x ++ (r.flatMap K.nums ++ rest) := by simp
    show parse K (r.length + 1) _ = _
    rw [e, parse, List.take_left' (K.len x), List.drop_left' (K.len x), K.back, parse_flat r rest]
/-- What is read is written as it was. -/
theorem flat_parse : ∀ (n : Nat) (l : List Int), n * K.size ≤ l.length → fine K n l = true → (parse K n l).flatMap K.nums = l.take (n * K.size)
  | 0, l, _, _ => by simp [parse]
  | n + 1, l, hl, hf => by
    simp only [fine, Bool.and_eq_true] at hf
    have hs : K.size ≤ l.length := by rw [Nat.add_one_mul] at hl; omega
    have h1 := K.once (l.take K.size) (by simp; omega) hf.1
    have h2 := flat_parse n (l.drop K.size) (by rw [List.length_drop]; rw [Nat.add_one_mul] at hl; omega) hf.2
    simp only [parse, List.flatMap_cons, h1, h2]
    rw [Nat.add_one_mul, Nat.add_comm, List.take_add]
theorem flat_length (xs : List α) : (xs.flatMap K.nums).length = xs.length * K.size := by
  induction xs with
  | nil => simp
  | cons x r ih => simp only [List.flatMap_cons, List.length_append, List.length_cons, ih, K.len, Nat.add_one_mul]; omega
theorem parse_get : ∀ (n : Nat) (l : List Int) (i : Nat) (h : i < n), (parse K n l)[i]'(by rw [parse_length]; exact h) = K.get ((l.drop (i * K.size)).take K.size)
  | 0, _, _, h => by omega
  | n + 1, l, 0, _ => by simp [parse]
  | n + 1, l, i + 1, h => by
    have := parse_get n (l.drop K.size) i (by omega)
    simp only [parse, List.getElem_cons_succ, this, List.drop_drop, Nat.add_one_mul]
    rw [Nat.add_comm]
theorem fine_iff : ∀ (n : Nat) (l : List Int), fine K n l = true ↔ ∀ i, i < n → K.ok ((l.drop (i * K.size)).take K.size) = true
  | 0, l => by simp [fine]
  | n + 1, l => by
    simp only [fine, Bool.and_eq_true, fine_iff n]
    constructor
    · rintro ⟨h1, h2⟩ i hi
      cases i with
      | zero => simpa using h1
      | succ i =>
        have := h2 i (by omega)
        rw [List.drop_drop] at this
        rwa [Nat.add_one_mul, Nat.add_comm]
    · intro h
      refine ⟨by simpa using h 0 (by omega), fun i hi => ?_⟩
      have := h (i + 1) (by omega)
      rw [List.drop_drop]
      rwa [Nat.add_one_mul, Nat.add_comm] at this
end

def truthN (b : Bool) : Int := if b then 1 else 0
def smallN (n : Int) : Bool := decide (n ≤ 2147483647)
def bitN (n : Int) : Bool := decide (n = 0 ∨ n = 1)
theorem truth_back (b : Bool) : (truthN b == 1) = b := by cases b <;> rfl
theorem truth_once {n : Int} (h : bitN n = true) : truthN (n == 1) = n := by
  unfold bitN at h
  rcases of_decide_eq_true h with h | h <;> subst h <;> rfl

theorem take_5 {l : List Int} (h : l.length = 5) : ∃ a b c d e, l = [a, b, c, d, e] := by
  match l, h with
  | [a, b, c, d, e], _ => exact ⟨a, b, c, d, e, rfl⟩
theorem take_4 {l : List Int} (h : l.length = 4) : ∃ a b c d, l = [a, b, c, d] := by
  match l, h with
  | [a, b, c, d], _ => exact ⟨a, b, c, d, rfl⟩
theorem take_6 {l : List Int} (h : l.length = 6) : ∃ a b c d e f, l = [a, b, c, d, e, f] := by
  match l, h with
  | [a, b, c, d, e, f], _ => exact ⟨a, b, c, d, e, f, rfl⟩
theorem take_8 {l : List Int} (h : l.length = 8) : ∃ a b c d e f g i, l = [a, b, c, d, e, f, g, i] := by
  match l, h with
  | [a, b, c, d, e, f, g, i], _ => exact ⟨a, b, c, d, e, f, g, i, rfl⟩
theorem take_10 {l : List Int} (h : l.length = 10) : ∃ a b c d e f g i j k, l = [a, b, c, d, e, f, g, i, j, k] := by
  match l, h with
  | [a, b, c, d, e, f, g, i, j, k], _ => exact ⟨a, b, c, d, e, f, g, i, j, k, rfl⟩

def nodeK : Kind NodeD where
  size := 10
  nums n := [n.id, n.zone, n.cap.a, n.cap.b, n.cap.c, n.cap.d, n.held.a, n.held.b, n.held.c, n.held.d]
  get c := ⟨c.getD 0 0, c.getD 1 0, ⟨c.getD 2 0, c.getD 3 0, c.getD 4 0, c.getD 5 0⟩, ⟨c.getD 6 0, c.getD 7 0, c.getD 8 0, c.getD 9 0⟩⟩
  ok c := smallN (c.getD 0 0) && smallN (c.getD 1 0)
  len _ := rfl
  back _ := rfl
  once c h _ := by obtain ⟨a, b, c, d, e, f, g, i, j, k, rfl⟩ := take_10 h; rfl
def loadK : Kind LoadD where
  size := 5
  nums l := [l.id, truthN l.apart, l.skew, l.min, l.max]
  get c := ⟨c.getD 0 0, c.getD 1 0 == 1, c.getD 2 0, c.getD 3 0, c.getD 4 0⟩
  ok c := smallN (c.getD 0 0) && (smallN (c.getD 2 0) && (smallN (c.getD 3 0) && (smallN (c.getD 4 0) && bitN (c.getD 1 0))))
  len _ := rfl
  back l := by obtain ⟨a, b, c, d, e⟩ := l; simp [truth_back]
  once c h ho := by
    obtain ⟨a, b, c, d, e, rfl⟩ := take_5 h
    simp only [Bool.and_eq_true] at ho
    have := truth_once ho.2.2.2.2
    simp at this ⊢
    exact this
def podK : Kind PodD where
  size := 8
  nums p := [p.id, p.load, p.prio, p.req.a, p.req.b, p.req.c, p.req.d, p.node]
  get c := ⟨c.getD 0 0, c.getD 1 0, c.getD 2 0, ⟨c.getD 3 0, c.getD 4 0, c.getD 5 0, c.getD 6 0⟩, c.getD 7 0⟩
  ok c := smallN (c.getD 0 0) && (smallN (c.getD 1 0) && (smallN (c.getD 2 0) && smallN (c.getD 7 0)))
  len _ := rfl
  back _ := rfl
  once c h _ := by obtain ⟨a, b, c, d, e, f, g, i, rfl⟩ := take_8 h; rfl
def wantK : Kind WantD where
  size := 6
  nums x := [x.pod, x.req.a, x.req.b, x.req.c, x.req.d, truthN x.stay]
  get c := ⟨c.getD 0 0, ⟨c.getD 1 0, c.getD 2 0, c.getD 3 0, c.getD 4 0⟩, c.getD 5 0 == 1⟩
  ok c := smallN (c.getD 0 0) && bitN (c.getD 5 0)
  len _ := rfl
  back x := by obtain ⟨a, b, c⟩ := x; simp [truth_back]
  once c h ho := by
    obtain ⟨a, b, c, d, e, f, rfl⟩ := take_6 h
    simp only [Bool.and_eq_true] at ho
    have := truth_once ho.2
    simp at this ⊢
    exact this
def moveK : Kind MoveD where
  size := 4
  nums m := [m.kind, m.pod, m.node, m.over]
  get c := ⟨c.getD 0 0, c.getD 1 0, c.getD 2 0, c.getD 3 0⟩
  ok c := smallN (c.getD 0 0) && (smallN (c.getD 1 0) && (smallN (c.getD 2 0) && smallN (c.getD 3 0)))
  len _ := rfl
  back _ := rfl
  once c h _ := by obtain ⟨a, b, c, d, rfl⟩ := take_4 h; rfl

def snapNums (s : SnapD) : List Int := [(s.nodes.length : Int), (s.loads.length : Int), (s.pods.length : Int)] ++ (s.nodes.flatMap nodeK.nums ++ (s.loads.flatMap loadK.nums ++ s.pods.flatMap podK.nums))
def specNums (x : SpecD) : List Int := [(x.wants.length : Int), x.preempts, x.shifts] ++ x.wants.flatMap wantK.nums
def moveNums (m : List MoveD) : List Int := (m.length : Int) :: m.flatMap moveK.nums

/-- The snapshot of so many nodes, loads and pods whose numbers these are. -/
def snapOf (a b c : Nat) (l : List Int) : SnapD := ⟨parse nodeK a l, parse loadK b (l.drop (a * 10)), parse podK c (l.drop (a * 10 + b * 5))⟩
def snapFine (a b c : Nat) (l : List Int) : Bool := fine nodeK a l && (fine loadK b (l.drop (a * 10)) && fine podK c (l.drop (a * 10 + b * 5)))
theorem snap_back (s : SnapD) : snapOf s.nodes.length s.loads.length s.pods.length ((snapNums s).drop 3) = s := by
  obtain ⟨n, l, p⟩ := s
  have h1 : (n.flatMap nodeK.nums).length = n.length * 10 := flat_length nodeK n
  have h2 : (l.flatMap loadK.nums).length = l.length * 5 := flat_length loadK l
  have e : (snapNums ⟨n, l, p⟩).drop 3 = n.flatMap nodeK.nums ++ (l.flatMap loadK.nums ++ p.flatMap podK.nums) := rfl
  rw [e]
  show SnapD.mk _ _ _ = _
  simp only []
  rw [parse_flat nodeK n, List.drop_left' h1, parse_flat loadK l, ← List.drop_drop, List.drop_left' h1, List.drop_left' h2]
  have := parse_flat podK p []
  rw [List.append_nil] at this
  rw [this]
theorem snap_once {a b c : Nat} {l : List Int} (hl : l.length = a * 10 + b * 5 + c * 8) (hf : snapFine a b c l = true) : snapNums (snapOf a b c l) = [(a : Int), (b : Int), (c : Int)] ++ l := by
  simp only [snapFine, Bool.and_eq_true] at hf
  have s10 : nodeK.size = 10 := rfl
  have s5 : loadK.size = 5 := rfl
  have s8 : podK.size = 8 := rfl
  have h1 := flat_parse nodeK a l (by rw [s10]; omega) hf.1
  have h2 := flat_parse loadK b (l.drop (a * 10)) (by rw [s5, List.length_drop]; omega) hf.2.1
  have h3 := flat_parse podK c (l.drop (a * 10 + b * 5)) (by rw [s8, List.length_drop]; omega) hf.2.2
  simp only [snapNums, snapOf, parse_length, h1, h2, h3, s10, s5, s8]
  congr 1
  rw [List.take_of_length_le (i := c * 8) (by rw [List.length_drop]; omega), ← List.drop_drop, List.take_append_drop, List.take_append_drop]
theorem spec_back (x : SpecD) : parse wantK x.wants.length ((specNums x).drop 3) = x.wants := by
  have := parse_flat wantK x.wants []
  rw [List.append_nil] at this
  simpa [specNums] using this
theorem spec_once {a : Nat} {p q : Int} {l : List Int} (hl : l.length = a * 6) (hf : fine wantK a l = true) : specNums ⟨parse wantK a l, p, q⟩ = [(a : Int), p, q] ++ l := by
  have s6 : wantK.size = 6 := rfl
  have h := flat_parse wantK a l (by rw [s6]; omega) hf
  simp only [specNums, parse_length, h, s6]
  rw [List.take_of_length_le (by omega)]
theorem move_back (m : List MoveD) : parse moveK m.length ((moveNums m).drop 1) = m := by
  have := parse_flat moveK m []
  rw [List.append_nil] at this
  simpa [moveNums] using this
theorem move_once {a : Nat} {l : List Int} (hl : l.length = a * 4) (hf : fine moveK a l = true) : moveNums (parse moveK a l) = (a : Int) :: l := by
  have s4 : moveK.size = 4 := rfl
  have h := flat_parse moveK a l (by rw [s4]; omega) hf
  simp only [moveNums, parse_length, h, s4]
  rw [List.take_of_length_le (by omega)]
end Go.Proofs.YtjpaeaedfgiomaaDoor

namespace Go.Proofs.YtjpaeaedfgiomaaDoor
set_option linter.unusedSimpArgs false

theorem fine_flat {α : Type} (K : Kind α) : ∀ (xs : List α) (rest : List Int), (∀ x ∈ xs, K.ok (K.nums x) = true) → fine K xs.length (xs.flatMap K.nums ++ rest) = true
  | [], _, _ => rfl
  | x :: r, rest, h => by
    have e : (x :: r).flatMap K.nums ++ rest = K.nums x ++ (r.flatMap K.nums ++ rest) := by simp
    show fine K (r.length + 1) _ = _
    rw [e, fine, List.take_left' (K.len x), List.drop_left' (K.len x), h x (by simp), fine_flat K r rest fun y hy => h y (by simp [hy])]
    rfl
theorem firstBad_each {α : Type} {bad : Int → α → Int} {f : α → Int} : ∀ {l : List α} {last : Int} {k : Nat}, firstBad bad f last k l = none → ∀ x ∈ l, ∃ la, bad la x = 0
  | [], _, _, _, x, hx => by simp at hx
  | y :: r, last, k, h, x, hx => by
    simp only [firstBad] at h
    split at h
    · cases h
    · rename_i h0
      rcases List.mem_cons.1 hx with rfl | hx
      · exact ⟨last, by simpa using h0⟩
      · exact firstBad_each h x hx
theorem small_of {n : Int} (h : n ≤ 2147483647) : smallN n = true := by simp [smallN, h]
theorem node_ok {la : Int} {x : NodeD} (h : nodeBad la x = 0) : 1 ≤ x.id ∧ x.id ≤ 2147483647 ∧ 1 ≤ x.zone ∧ x.zone ≤ 8 := by
  unfold nodeBad at h
  split at h
  · cases h
  · rename_i h1
    have h2 := idBad_ok h
    refine ⟨h2.1, h2.2.1, ?_, ?_⟩
    · by_cases e : x.zone < 1
      · exact absurd ⟨h, .inl e⟩ h1
      · omega
    · by_cases e : 8 < x.zone
      · exact absurd ⟨h, .inr (.inl e)⟩ h1
      · omega
theorem count_of {n : Int} (h : countOk n = true) : 0 ≤ n ∧ n ≤ 100 := by simpa [countOk] using h
theorem load_ok {la : Int} {x : LoadD} (h : loadBad la x = 0) : 1 ≤ x.id ∧ x.id ≤ 2147483647 ∧ (0 ≤ x.skew ∧ x.skew ≤ 100) ∧ (0 ≤ x.min ∧ x.min ≤ 100) ∧ (0 ≤ x.max ∧ x.max ≤ 100) := by
  unfold loadBad at h
  split at h
  · cases h
  · rename_i h1
    have h2 := idBad_ok h
    refine ⟨h2.1, h2.2.1, count_of ?_, count_of ?_, count_of ?_⟩
    · cases e : countOk x.skew
      · exact absurd ⟨h, .inl e⟩ h1
      · rfl
    · cases e : countOk x.min
      · exact absurd ⟨h, .inr (.inl e)⟩ h1
      · rfl
    · cases e : countOk x.max
      · exact absurd ⟨h, .inr (.inr (.inl e))⟩ h1
      · rfl
theorem pod_ok {nodes : List NodeD} {loads : List LoadD} {la : Int} {x : PodD} (h : podBad nodes loads la x = 0) : 1 ≤ x.id ∧ x.id ≤ 2147483647 ∧ (0 ≤ x.prio ∧ x.prio ≤ 100) ∧ (∃ l ∈ loads, l.id = x.load) ∧ (x.node = 0 ∨ ∃ n ∈ nodes, n.id = x.node) := by
  unfold podBad at h
  split at h
  · rename_i h1; exact absurd h h1
  · rename_i h1
    have h2 := idBad_ok (by simpa using h1)
    split at h
    · cases h
    · rename_i h3
      split at h
      · cases h
      · rename_i h4
        refine ⟨h2.1, h2.2.1, count_of (by simpa using h3), ?_, ?_⟩
        · have : ¬ place LoadD.id x.load loads 0 < 0 := fun e => h4 (.inl e)
          rw [place_neg (by omega)] at this
          simpa using this
        · by_cases e : x.node = 0
          · exact .inl e
          · have : ¬ place NodeD.id x.node nodes 0 < 0 := fun q => h4 (.inr ⟨e, q⟩)
            rw [place_neg (by omega)] at this
            exact .inr (by simpa using this)
theorem nums_fine {s : SnapD} (h : (check s).1 = 0) : snapFine s.nodes.length s.loads.length s.pods.length ((snapNums s).drop 3) = true := by
  obtain ⟨_, h1, h2, h3⟩ := check_ok.1 h
  have n1 := firstBad_each h1
  have n2 := firstBad_each h2
  have n3 := firstBad_each h3
  obtain ⟨n, l, p⟩ := s
  simp only at n1 n2 n3
  have e : (snapNums ⟨n, l, p⟩).drop 3 = n.flatMap nodeK.nums ++ (l.flatMap loadK.nums ++ p.flatMap podK.nums) := rfl
  have g1 : (n.flatMap nodeK.nums).length = n.length * 10 := flat_length nodeK n
  have g2 : (l.flatMap loadK.nums).length = l.length * 5 := flat_length loadK l
  have f1 : ∀ x ∈ n, nodeK.ok (nodeK.nums x) = true := fun x hx => by
    obtain ⟨la, hb⟩ := n1 x hx
    have := node_ok hb
    simp [nodeK, smallN]; omega
  have f2 : ∀ x ∈ l, loadK.ok (loadK.nums x) = true := fun x hx => by
    obtain ⟨la, hb⟩ := n2 x hx
    have := load_ok hb
    have ht : bitN (truthN x.apart) = true := by cases x.apart <;> rfl
    simp [loadK, smallN, ht]; omega
  have f3 : ∀ x ∈ p, podK.ok (podK.nums x) = true := fun x hx => by
    obtain ⟨la, hb⟩ := n3 x hx
    obtain ⟨a1, a2, a3, ⟨y, hy, ey⟩, a5⟩ := pod_ok hb
    obtain ⟨lb, hlb⟩ := n2 y hy
    have := load_ok hlb
    have hn : x.node ≤ 2147483647 := by
      rcases a5 with a5 | ⟨z, hz, ez⟩
      · omega
      · obtain ⟨lc, hlc⟩ := n1 z hz
        have := node_ok hlc
        omega
    simp [podK, smallN]; omega
  rw [e]
  simp only [snapFine]
  have q1 := fine_flat nodeK n (l.flatMap loadK.nums ++ p.flatMap podK.nums) f1
  have q2 := fine_flat loadK l (p.flatMap podK.nums) f2
  have q3 := fine_flat podK p [] f3
  rw [List.append_nil] at q3
  rw [q1, List.drop_left' g1, q2, ← List.drop_drop, List.drop_left' g1, List.drop_left' g2, q3]
  rfl

abbrev noSnap : SnapD := ⟨[], [], []⟩
/-- What numbers are read as: a snapshot, or an error's number and its place (-1: itself). -/
def rdSnap (l : List Int) : SnapD × Int × Int :=
  if l.length < 3 then (noSnap, 2, -1)
  else if 8 < l.getD 0 0 ∨ 8 < l.getD 1 0 ∨ 12 < l.getD 2 0 then (noSnap, 3, -1)
  else if l.length ≠ 3 + 10 * (l.getD 0 0).toNat + 5 * (l.getD 1 0).toNat + 8 * (l.getD 2 0).toNat then (noSnap, 2, -1)
  else if snapFine (l.getD 0 0).toNat (l.getD 1 0).toNat (l.getD 2 0).toNat (l.drop 3) = false then (noSnap, 2, -1)
  else if (check (snapOf (l.getD 0 0).toNat (l.getD 1 0).toNat (l.getD 2 0).toNat (l.drop 3))).1 ≠ 0 then (noSnap, check (snapOf (l.getD 0 0).toNat (l.getD 1 0).toNat (l.getD 2 0).toNat (l.drop 3)))
  else (snapOf (l.getD 0 0).toNat (l.getD 1 0).toNat (l.getD 2 0).toNat (l.drop 3), 0, -1)
theorem snapNums_length (s : SnapD) : (snapNums s).length = 3 + 10 * s.nodes.length + 5 * s.loads.length + 8 * s.pods.length := by
  have g1 : (s.nodes.flatMap nodeK.nums).length = s.nodes.length * 10 := flat_length nodeK _
  have g2 : (s.loads.flatMap loadK.nums).length = s.loads.length * 5 := flat_length loadK _
  have g3 : (s.pods.flatMap podK.nums).length = s.pods.length * 8 := flat_length podK _
  simp only [snapNums, List.length_append, g1, g2, g3, List.length_cons, List.length_nil]
  omega
/-- What was written is read as it was. -/
theorem rd_back {s : SnapD} (h : (check s).1 = 0) : rdSnap (snapNums s) = (s, 0, -1) := by
  have hl := snapNums_length s
  have hb := snap_back s
  have hf := nums_fine h
  have hg := (check_ok.1 h).1
  have e0 : (snapNums s).getD 0 0 = (s.nodes.length : Int) := rfl
  have e1 : (snapNums s).getD 1 0 = (s.loads.length : Int) := rfl
  have e2 : (snapNums s).getD 2 0 = (s.pods.length : Int) := rfl
  have hg' : ¬ (s.nodes.length = 0 ∨ 8 < s.nodes.length ∨ 8 < s.loads.length ∨ 12 < s.pods.length) := by simpa only [large, decide_eq_false_iff_not] using hg
  unfold rdSnap
  rw [e0, e1, e2]
  simp only [Int.toNat_natCast]
  rw [hb, hf, if_neg (by omega), if_neg (by omega), if_neg (by omega), if_neg (by decide), if_neg (by simpa using h)]
/-- What is read is written as it was. -/
theorem rd_once {l : List Int} (hp : ∀ x ∈ l, 0 ≤ x) {s : SnapD} (h : rdSnap l = (s, 0, -1)) : snapNums s = l ∧ (check s).1 = 0 := by
  unfold rdSnap at h
  split at h
  · simp at h
  · rename_i h1
    split at h
    · simp at h
    · rename_i h2
      split at h
      · simp at h
      · rename_i h3
        split at h
        · simp at h
        · rename_i h4
          split at h
          · rename_i h5
            have : (check (snapOf (l.getD 0 0).toNat (l.getD 1 0).toNat (l.getD 2 0).toNat (l.drop 3))).1 = 0 := by
              have := congrArg (fun q => q.2.1) h
              exact this
            exact absurd this h5
          · rename_i h5
            have hs : snapOf (l.getD 0 0).toNat (l.getD 1 0).toNat (l.getD 2 0).toNat (l.drop 3) = s := congrArg (fun q => q.1) h
            match l, h1, hp, h3, h4, h5, hs with
            | a :: b :: c :: r, _, hp, h3, h4, h5, hs =>
              have pa := hp a (by simp)
              have pb := hp b (by simp)
              have pc := hp c (by simp)
              simp only [List.getD_cons_zero, List.getD_cons_succ, List.drop_succ_cons, List.drop_zero, List.length_cons, ne_eq, Decidable.not_not, Bool.not_eq_false] at h3 h4 h5 hs
              rw [← hs]
              refine ⟨?_, h5⟩
              rw [snap_once (by omega) h4, Int.toNat_of_nonneg pa, Int.toNat_of_nonneg pb, Int.toNat_of_nonneg pc]
              rfl
            | [], h1, _, _, _, _, _ => simp at h1
            | [_], h1, _, _, _, _, _ => simp at h1
            | [_, _], h1, _, _, _, _, _ => simp at h1
end Go.Proofs.YtjpaeaedfgiomaaDoor
