/- Contracts of the two functions that write one number: wire.put and dunnageref02.put. -/
import Derived.Test.YtglblaeplibjmaaDoorL
namespace Go.Proofs.YtglblaeplibjmaaDoor
open Go.RowKit
set_option linter.unusedVariables false

theorem enc_of_lt {n : Int} (h : n < 128) (xs : List Int) : xs ++ [n] = xs ++ enc n := by rw [enc_lt h]
theorem enc_of_ge {n : Int} (h : 128 ≤ n) (xs : List Int) : (xs ++ [n % 128 + 128]) ++ enc (n / 128) = xs ++ enc n := by rw [enc_ge (n := n) (by omega)]; simp

/-- What is told is a row of the caller's own that holds these bytes. -/
def PutTo (B : Nat) (l : List Int) (w : World) (e : Ending) (w' : World) : Prop :=
  ∃ v, e = .returned v ∧ w'.ownsRow B 5 1 v (u8s l).length (u8s l) ∧ Below B w w'

theorem own8 {B : Nat} {w1 : World} {v : Value} {xs ys : List Int} {c : Int} (h : w1.ownsRow B 5 1 v (u8s xs ++ [Value.int .u8 c]).length (u8s xs ++ [Value.int .u8 c])) (e : xs ++ [c] = ys) : w1.ownsRow B 5 1 v (u8s ys).length (u8s ys) := by
  subst e; simpa using h

def PutRel (B : Nat) (all : List Int) (w : World) (v m : Value) (wr : World) : Prop :=
  ∃ (ys : List Int) (k : Int), 0 ≤ k ∧ k < 18446744073709551616 ∧ m = .int .u64 k ∧ ys ++ enc k = all ∧ wr.ownsRow B 5 1 v (u8s ys).length (u8s ys) ∧ Below B w wr ∧ B ≤ wr.heap.size

set_option maxRecDepth 100000 in
theorem or128 (k : Int) (h : 0 ≤ k) : bits .or .u8 (k % 256) 128 = k % 128 + 128 := by
  have : k % 256 = (k % 256).toNat := by omega
  rw [this, show (128 : Int) = ((128 : Nat) : Int) from rfl, u8_or_nat _ _ (by omega) (by omega)]
  have hh : ∀ a : Nat, a < 256 → a ||| 128 = a % 128 + 128 := by decide
  rw [hh _ (by omega)]
  omega

set_option maxHeartbeats 800000 in
theorem put_any (B : Nat) (v : Value) (xs : List Int) (n : Int) (w : World) (hB : B ≤ w.heap.size) (hown : w.ownsRow B 5 1 v (u8s xs).length (u8s xs)) (h0 : 0 ≤ n) (h1 : n < 18446744073709551616) (hx : xs.length ≤ 1000000) :
    Calls Tryd.prog 17 #[v, .int .u64 n] w (PutTo B (xs ++ enc n) w) := by
  have hlen : (enc n).length ≤ 10 := enc_len_ten n h1
  have hall : (xs ++ enc n).length ≤ 1000010 := by simp; omega
  go_enter Tryd.func17, Tryd.ntmps17
  go_wp2
  go_loopw [0, 1] (PutRel B (xs ++ enc n) w) (fun _ m _ => (intOf m).toNat)
  case atStart => exact ⟨xs, n, h0, h1, rfl, rfl, hown, Below.refl _ _, hB⟩
  case round =>
    obtain ⟨ys, k, hk0, hk1, rfl, hall', hownr, hbr, hBr⟩ := hrel
    have hys : (u8s ys).length ≤ 2000000 := by rw [← hall'] at hall; simp at hall ⊢; omega
    have HA := Lib.hid hall'
    have HY := Lib.hid hys
    clear hall' hall hlen hys
    by_cases hlt : 128 ≤ k
    · have hor := or128 k hk0
      go_wp2_with (at_builtin; refine wpList_push 24 5 (.int .u8 0) 1 Tryd.underlying24 Tryd.info5 rfl (by decide) rfl (.tmp 7) (.tmp 11) rfl B _ (u8s ys) (.int .u8 (k % 128 + 128)) rfl hownr hBr HY.out rfl rfl ?_; intro v' w1 hown1 hb1 hB1)
      go_roundw
      case rel => exact ⟨ys ++ [k % 128 + 128], k / 128, by omega, by omega, rfl, (enc_of_ge hlt ys).trans HA.out, own8 hown1 rfl, hbr.trans hb1, hB1⟩
      case measure => simp [intOf]; omega
    · have hk : k < 128 := by omega
      have hm : k % 256 = k := by omega
      clear hk1
      go_wp2_with (at_builtin; refine wpList_push 24 5 (.int .u8 0) 1 Tryd.underlying24 Tryd.info5 rfl (by decide) rfl (.tmp 15) (.tmp 18) rfl B _ (u8s ys) (.int .u8 k) rfl hownr hBr HY.out rfl rfl ?_; intro v' w1 hown1 hb1 hB1)
      go_ret
      exact ⟨v', rfl, own8 hown1 ((enc_of_lt hk ys).trans HA.out), hbr.trans hb1⟩

def RputRel (B : Nat) (all : List Int) (w : World) (m v : Value) (wr : World) : Prop := PutRel B all w v m wr
set_option maxHeartbeats 800000 in
/-- dunnageref02.put: the number's bytes, in a row of its own. -/
theorem rput_any (n : Int) (w : World) (h0 : 0 ≤ n) (h1 : n < 18446744073709551616) :
    Calls Tryd.prog 18 #[.int .u64 n] w (PutTo w.heap.size (enc n) w) := by
  have hlen : (enc n).length ≤ 10 := enc_len_ten n h1
  go_enter Tryd.func18, Tryd.ntmps18
  go_wp2
  go_loopw [0, 3] (RputRel w.heap.size (enc n) w) (fun m _ _ => (intOf m).toNat)
  case atStart => exact ⟨[], n, h0, h1, rfl, rfl, World.ownsRow_nil _ _ _ _, Below.refl _ _, Nat.le_refl _⟩
  case round =>
    obtain ⟨ys, k, hk0, hk1, rfl, hall', hownr, hbr, hBr⟩ := hrel
    have hys : (u8s ys).length ≤ 2000000 := by rw [← hall'] at hlen; simp at hlen ⊢; omega
    have HA := Lib.hid hall'
    have HY := Lib.hid hys
    clear hall' hlen hys
    by_cases hlt : 128 ≤ k
    · have hm : k % 128 % 256 = k % 128 := by omega
      go_wp2_with (at_builtin; refine wpList_push 24 5 (.int .u8 0) 1 Tryd.underlying24 Tryd.info5 rfl (by decide) rfl (.tmp 6) (.tmp 11) rfl w.heap.size _ (u8s ys) (.int .u8 (k % 128 + 128)) rfl hownr hBr HY.out rfl rfl ?_; intro v' w1 hown1 hb1 hB1)
      go_roundw
      case rel => exact ⟨ys ++ [k % 128 + 128], k / 128, by omega, by omega, rfl, (enc_of_ge hlt ys).trans HA.out, own8 hown1 rfl, hbr.trans hb1, hB1⟩
      case measure => simp [intOf]; omega
    · have hk : k < 128 := by omega
      have hm : k % 256 = k := by omega
      clear hk1
      go_wp2_with (at_builtin; refine wpList_push 24 5 (.int .u8 0) 1 Tryd.underlying24 Tryd.info5 rfl (by decide) rfl (.tmp 15) (.tmp 18) rfl w.heap.size _ (u8s ys) (.int .u8 k) rfl hownr hBr HY.out rfl rfl ?_; intro v' w1 hown1 hb1 hB1)
      go_ret
      exact ⟨v', rfl, own8 hown1 ((enc_of_lt hk ys).trans HA.out), hbr.trans hb1⟩
end Go.Proofs.YtglblaeplibjmaaDoor
