/- Products: Mul64, and the reference's times. -/
import Derived.Test.YtcmlbbingmnigaaVecA
import Derived.Lib.Mul64
namespace Go.Proofs.Ytcmlbbingmnigaa
open Go.RowKit
set_option linter.unusedVariables false

namespace Mul
theorem maskN (a : Nat) (ha : a < 18446744073709551616) : bits .and .u64 (a : Int) 4294967295 = ((a % 4294967296 : Nat) : Int) := by
  have h := bits_and_u64_nat a 4294967295 ha (by omega)
  have e : a &&& 4294967295 = a % 4294967296 := Nat.and_two_pow_sub_one_eq_mod a 32
  rw [e] at h
  exact h
theorem divN (a : Nat) : (a : Int) / 4294967296 = ((a / 4294967296 : Nat) : Int) := by omega
theorem mulN (a b : Nat) : (a : Int) * (b : Int) = ((a * b : Nat) : Int) := (Int.natCast_mul a b).symm
theorem addN (a b : Nat) : (a : Int) + (b : Int) = ((a + b : Nat) : Int) := (Int.natCast_add a b).symm
theorem wrapN (a : Nat) (ha : a < 18446744073709551616) : IntKind.u64.wrap (a : Int) = (a : Int) := by rw [IntKind.wrap_u64]; omega
theorem wrapM (a : Nat) : IntKind.u64.wrap (a : Int) = ((a % 18446744073709551616 : Nat) : Int) := by rw [IntKind.wrap_u64]; omega
end Mul

set_option maxHeartbeats 1000000 in
theorem mul64N (x y : Nat) (hx : x < 18446744073709551616) (hy : y < 18446744073709551616) (w : World) :
    Calls Try.prog 25 #[.int .u64 x, .int .u64 y] w fun e w' => e = .returned (.tuple #[.int .u64 ((x * y / 18446744073709551616 : Nat) : Int), .int .u64 ((x * y % 18446744073709551616 : Nat) : Int)]) ∧ w = w' := by
  obtain ⟨bd, bt, bw, hhi⟩ := Lib.mul64_hi x y hx hy
  have ba := Lib.half_mul_le (a := x / 4294967296) (b := y / 4294967296) (by omega) (by omega)
  have bb := Lib.half_mul_le (a := x / 4294967296) (b := y % 4294967296) (by omega) (by omega)
  have bc := Lib.half_mul_le (a := x % 4294967296) (b := y / 4294967296) (by omega) (by omega)
  have ba' : x / 4294967296 * (y / 4294967296) < 18446744073709551616 := by omega
  have bb' : x / 4294967296 * (y % 4294967296) < 18446744073709551616 := by omega
  have bc' : x % 4294967296 * (y / 4294967296) < 18446744073709551616 := by omega
  have bh1 : x / 4294967296 * (y / 4294967296) + (x / 4294967296 * (y % 4294967296) + x % 4294967296 * (y % 4294967296) / 4294967296) / 4294967296 < 18446744073709551616 := by omega
  have bh : x / 4294967296 * (y / 4294967296) + (x / 4294967296 * (y % 4294967296) + x % 4294967296 * (y % 4294967296) / 4294967296) / 4294967296 + ((x / 4294967296 * (y % 4294967296) + x % 4294967296 * (y % 4294967296) / 4294967296) % 4294967296 + x % 4294967296 * (y / 4294967296)) / 4294967296 < 18446744073709551616 := by omega
  go_enter Try.func25, Try.ntmps25
  go_wp2
  simp only [Mul.maskN x hx, Mul.maskN y hy, Mul.divN, Mul.mulN, Mul.addN, Mul.wrapN _ bd, Mul.wrapN _ bb', Mul.wrapN _ bt, Mul.maskN _ bt, Mul.wrapN _ bc', Mul.wrapN _ bw, Mul.wrapN _ ba', Mul.wrapN _ bh1, Mul.wrapN _ bh, Mul.wrapM (x * y)]
  rw [hhi]
  go_ret2
  exact ⟨rfl, rfl⟩
theorem mul_ok (x y : Int) (hx : 0 ≤ x) (hy : 0 ≤ y) (hx1 : x < 18446744073709551616) (hy1 : y < 18446744073709551616) (h : x * y < 18446744073709551616) (w : World) :
    Calls Try.prog 25 #[.int .u64 x, .int .u64 y] w fun e w' => e = .returned (.tuple #[.int .u64 0, .int .u64 (x * y)]) ∧ w = w' := by
  obtain ⟨x, rfl⟩ := Int.eq_ofNat_of_zero_le hx
  obtain ⟨y, rfl⟩ := Int.eq_ofNat_of_zero_le hy
  refine (mul64N x y (by omega) (by omega) w).mono ?_
  rintro e w' ⟨rfl, rfl⟩
  rw [← Int.natCast_mul] at h ⊢
  rw [Nat.div_eq_of_lt (by omega), Nat.mod_eq_of_lt (by omega)]
  exact ⟨rfl, rfl⟩
theorem mul_over (x y : Int) (hx : 0 ≤ x) (hy : 0 ≤ y) (hx1 : x < 18446744073709551616) (hy1 : y < 18446744073709551616) (h : 18446744073709551616 ≤ x * y) : ∃ a b : Int, (a != 0) = true ∧ ∀ w : World,
    Calls Try.prog 25 #[.int .u64 x, .int .u64 y] w fun e w' => e = .returned (.tuple #[.int .u64 a, .int .u64 b]) ∧ w = w' := by
  obtain ⟨x, rfl⟩ := Int.eq_ofNat_of_zero_le hx
  obtain ⟨y, rfl⟩ := Int.eq_ofNat_of_zero_le hy
  rw [← Int.natCast_mul] at h
  exact ⟨_, _, by rw [bne_iff_ne]; omega, fun w => mul64N x y (by omega) (by omega) w⟩
theorem half_up' (x q : Int) (h0 : 0 ≤ x) (h1 : x < 18446744073709551616) (hq : x / 4294967296 = q) (w : World) :
    Calls Try.prog 27 #[.int .u64 x, .bool true] w fun e w' => e = .returned (.int .u64 q) ∧ w = w' := by subst hq; exact half_up x h0 h1 w
theorem half_low' (x q : Int) (h0 : 0 ≤ x) (h1 : x < 18446744073709551616) (hq : x % 4294967296 = q) (w : World) :
    Calls Try.prog 27 #[.int .u64 x, .bool false] w fun e w' => e = .returned (.int .u64 q) ∧ w = w' := by subst hq; exact half_low x h0 h1 w

theorem split_mul' (xh xl yh yl : Int) : (xh * 4294967296 + xl) * (yh * 4294967296 + yl) = xh * yh * 18446744073709551616 + (xh * yl + xl * yh) * 4294967296 + xl * yl := split_mul xh xl yh yl
theorem pb (a b : Int) (ha : 0 ≤ a) (ha' : a < 4294967296) (hb : 0 ≤ b) (hb' : b < 4294967296) : 0 ≤ a * b ∧ a * b ≤ 18446744065119617025 := prod_bound a b ha (by omega) hb (by omega)

set_option maxHeartbeats 1000000 in
/-- both have an upper half: it goes over. -/
theorem times_A (x y xh xl yh yl : Int) (hx : 0 ≤ x) (hy : 0 ≤ y) (hx1 : x < 18446744073709551616) (hy1 : y < 18446744073709551616)
    (exh : Hid (x / 4294967296 = xh)) (exl : Hid (x % 4294967296 = xl)) (eyh : Hid (y / 4294967296 = yh)) (eyl : Hid (y % 4294967296 = yl))
    (b1 : 0 < xh) (b2 : xh < 4294967296) (b3 : 0 ≤ xl) (b4 : xl < 4294967296) (b5 : 0 < yh) (b6 : yh < 4294967296) (b7 : 0 ≤ yl) (b8 : yl < 4294967296) (w : World) :
    Calls Try.prog 26 #[.int .u64 x, .int .u64 y] w fun e w' => e = .returned (.tuple #[.int .u64 0, .bool false]) ∧ w = w' := by
  obtain ⟨m1, m2⟩ := pb xh yl (by omega) (by omega) (by omega) (by omega)
  obtain ⟨m3, m4⟩ := pb xl yh (by omega) (by omega) (by omega) (by omega)
  go_enter Try.func26, Try.ntmps26
  go_wp2_with fail
  refine (half_up' x xh hx hx1 exh.out _).mono ?_; rintro e w' ⟨rfl, rfl⟩
  go_wp2_with fail
  refine (half_low' y yl hy hy1 eyl.out _).mono ?_; rintro e w' ⟨rfl, rfl⟩
  go_wp2_with fail
  refine (half_low' x xl hx hx1 exl.out _).mono ?_; rintro e w' ⟨rfl, rfl⟩
  go_wp2_with fail
  refine (half_up' y yh hy hy1 eyh.out _).mono ?_; rintro e w' ⟨rfl, rfl⟩
  go_wp2_with fail
  refine (half_up' x xh hx hx1 exh.out _).mono ?_; rintro e w' ⟨rfl, rfl⟩
  go_wp2_with fail
  refine (half_up' y yh hy hy1 eyh.out _).mono ?_; rintro e w' ⟨rfl, rfl⟩
  go_wp2
  go_ret2
  exact ⟨rfl, rfl⟩
set_option maxHeartbeats 1000000 in
theorem times_B0big (x y xh xl yh yl : Int) (hx : 0 ≤ x) (hy : 0 ≤ y) (hx1 : x < 18446744073709551616) (hy1 : y < 18446744073709551616)
    (exh : Hid (x / 4294967296 = xh)) (exl : Hid (x % 4294967296 = xl)) (eyh : Hid (y / 4294967296 = yh)) (eyl : Hid (y % 4294967296 = yl))
    (b1 : 0 ≤ xh) (b2 : xh < 4294967296) (b3 : 0 ≤ xl) (b4 : xl < 4294967296) (b5 : 0 ≤ yh) (b6 : yh < 4294967296) (b7 : 0 ≤ yl) (b8 : yl < 4294967296)
    (c1 : xh ≤ 0) (hm : xh * yl + xl * yh < 18446744073709551616) (d : 4294967296 ≤ xh * yl + xl * yh) (w : World) :
    Calls Try.prog 26 #[.int .u64 x, .int .u64 y] w fun e w' => e = .returned (.tuple #[.int .u64 0, .bool false]) ∧ w = w' := by
  obtain ⟨m1, m2⟩ := pb xh yl (by omega) (by omega) (by omega) (by omega)
  obtain ⟨m3, m4⟩ := pb xl yh (by omega) (by omega) (by omega) (by omega)
  obtain ⟨m5, m6⟩ := pb xl yl (by omega) (by omega) (by omega) (by omega)
  go_enter Try.func26, Try.ntmps26
  go_wp2_with fail
  refine (half_up' x xh hx hx1 exh.out _).mono ?_; rintro e w' ⟨rfl, rfl⟩
  go_wp2_with fail
  refine (half_low' y yl hy hy1 eyl.out _).mono ?_; rintro e w' ⟨rfl, rfl⟩
  go_wp2_with fail
  refine (half_low' x xl hx hx1 exl.out _).mono ?_; rintro e w' ⟨rfl, rfl⟩
  go_wp2_with fail
  refine (half_up' y yh hy hy1 eyh.out _).mono ?_; rintro e w' ⟨rfl, rfl⟩
  go_wp2_with fail
  refine (half_up' x xh hx hx1 exh.out _).mono ?_; rintro e w' ⟨rfl, rfl⟩
  go_wp2_with fail
  refine (one_ok (xh * yl) (xl * yh) m1 m3 hm _).mono ?_; rintro e w' ⟨rfl, rfl⟩
  go_wp2
  go_ret2
  exact ⟨rfl, rfl⟩
set_option maxHeartbeats 1000000 in
theorem times_B0ok (x y xh xl yh yl : Int) (hx : 0 ≤ x) (hy : 0 ≤ y) (hx1 : x < 18446744073709551616) (hy1 : y < 18446744073709551616)
    (exh : Hid (x / 4294967296 = xh)) (exl : Hid (x % 4294967296 = xl)) (eyh : Hid (y / 4294967296 = yh)) (eyl : Hid (y % 4294967296 = yl))
    (b1 : 0 ≤ xh) (b2 : xh < 4294967296) (b3 : 0 ≤ xl) (b4 : xl < 4294967296) (b5 : 0 ≤ yh) (b6 : yh < 4294967296) (b7 : 0 ≤ yl) (b8 : yl < 4294967296)
    (c1 : xh ≤ 0) (hm : xh * yl + xl * yh < 18446744073709551616) (d : xh * yl + xl * yh < 4294967296) (f : (xh * yl + xl * yh) * 4294967296 + xl * yl < 18446744073709551616) (w : World) :
    Calls Try.prog 26 #[.int .u64 x, .int .u64 y] w fun e w' => e = .returned (.tuple #[.int .u64 ((xh * yl + xl * yh) * 4294967296 + xl * yl), .bool true]) ∧ w = w' := by
  obtain ⟨m1, m2⟩ := pb xh yl (by omega) (by omega) (by omega) (by omega)
  obtain ⟨m3, m4⟩ := pb xl yh (by omega) (by omega) (by omega) (by omega)
  obtain ⟨m5, m6⟩ := pb xl yl (by omega) (by omega) (by omega) (by omega)
  go_enter Try.func26, Try.ntmps26
  go_wp2_with fail
  refine (half_up' x xh hx hx1 exh.out _).mono ?_; rintro e w' ⟨rfl, rfl⟩
  go_wp2_with fail
  refine (half_low' y yl hy hy1 eyl.out _).mono ?_; rintro e w' ⟨rfl, rfl⟩
  go_wp2_with fail
  refine (half_low' x xl hx hx1 exl.out _).mono ?_; rintro e w' ⟨rfl, rfl⟩
  go_wp2_with fail
  refine (half_up' y yh hy hy1 eyh.out _).mono ?_; rintro e w' ⟨rfl, rfl⟩
  go_wp2_with fail
  refine (half_up' x xh hx hx1 exh.out _).mono ?_; rintro e w' ⟨rfl, rfl⟩
  go_wp2_with fail
  refine (one_ok (xh * yl) (xl * yh) m1 m3 hm _).mono ?_; rintro e w' ⟨rfl, rfl⟩
  go_wp2_with fail
  refine (half_low' x xl hx hx1 exl.out _).mono ?_; rintro e w' ⟨rfl, rfl⟩
  go_wp2_with fail
  refine (half_low' y yl hy hy1 eyl.out _).mono ?_; rintro e w' ⟨rfl, rfl⟩
  go_wp2_with fail
  refine (one_ok ((xh * yl + xl * yh) * 4294967296) (xl * yl) (by omega) m5 f _).mono ?_; rintro e w' ⟨rfl, rfl⟩
  go_wp2
  go_ret2
  exact ⟨rfl, rfl⟩
set_option maxHeartbeats 1000000 in
theorem times_B0over (x y xh xl yh yl : Int) (hx : 0 ≤ x) (hy : 0 ≤ y) (hx1 : x < 18446744073709551616) (hy1 : y < 18446744073709551616)
    (exh : Hid (x / 4294967296 = xh)) (exl : Hid (x % 4294967296 = xl)) (eyh : Hid (y / 4294967296 = yh)) (eyl : Hid (y % 4294967296 = yl))
    (b1 : 0 ≤ xh) (b2 : xh < 4294967296) (b3 : 0 ≤ xl) (b4 : xl < 4294967296) (b5 : 0 ≤ yh) (b6 : yh < 4294967296) (b7 : 0 ≤ yl) (b8 : yl < 4294967296)
    (c1 : xh ≤ 0) (hm : xh * yl + xl * yh < 18446744073709551616) (d : xh * yl + xl * yh < 4294967296) (f : 18446744073709551616 ≤ (xh * yl + xl * yh) * 4294967296 + xl * yl) (w : World) :
    Calls Try.prog 26 #[.int .u64 x, .int .u64 y] w fun e w' => e = .returned (.tuple #[.int .u64 0, .bool false]) ∧ w = w' := by
  obtain ⟨m1, m2⟩ := pb xh yl (by omega) (by omega) (by omega) (by omega)
  obtain ⟨m3, m4⟩ := pb xl yh (by omega) (by omega) (by omega) (by omega)
  obtain ⟨m5, m6⟩ := pb xl yl (by omega) (by omega) (by omega) (by omega)
  go_enter Try.func26, Try.ntmps26
  go_wp2_with fail
  refine (half_up' x xh hx hx1 exh.out _).mono ?_; rintro e w' ⟨rfl, rfl⟩
  go_wp2_with fail
  refine (half_low' y yl hy hy1 eyl.out _).mono ?_; rintro e w' ⟨rfl, rfl⟩
  go_wp2_with fail
  refine (half_low' x xl hx hx1 exl.out _).mono ?_; rintro e w' ⟨rfl, rfl⟩
  go_wp2_with fail
  refine (half_up' y yh hy hy1 eyh.out _).mono ?_; rintro e w' ⟨rfl, rfl⟩
  go_wp2_with fail
  refine (half_up' x xh hx hx1 exh.out _).mono ?_; rintro e w' ⟨rfl, rfl⟩
  go_wp2_with fail
  refine (one_ok (xh * yl) (xl * yh) m1 m3 hm _).mono ?_; rintro e w' ⟨rfl, rfl⟩
  go_wp2_with fail
  refine (half_low' x xl hx hx1 exl.out _).mono ?_; rintro e w' ⟨rfl, rfl⟩
  go_wp2_with fail
  refine (half_low' y yl hy hy1 eyl.out _).mono ?_; rintro e w' ⟨rfl, rfl⟩
  go_wp2_with fail
  refine (one_over ((xh * yl + xl * yh) * 4294967296) (xl * yl) (by omega) m5 (by omega) (by omega) f _).mono ?_; rintro e w' ⟨rfl, rfl⟩
  go_wp2
  go_ret2
  exact ⟨rfl, rfl⟩
set_option maxHeartbeats 1000000 in
theorem times_B1big (x y xh xl yh yl : Int) (hx : 0 ≤ x) (hy : 0 ≤ y) (hx1 : x < 18446744073709551616) (hy1 : y < 18446744073709551616)
    (exh : Hid (x / 4294967296 = xh)) (exl : Hid (x % 4294967296 = xl)) (eyh : Hid (y / 4294967296 = yh)) (eyl : Hid (y % 4294967296 = yl))
    (b1 : 0 ≤ xh) (b2 : xh < 4294967296) (b3 : 0 ≤ xl) (b4 : xl < 4294967296) (b5 : 0 ≤ yh) (b6 : yh < 4294967296) (b7 : 0 ≤ yl) (b8 : yl < 4294967296)
    (c1 : 0 < xh) (c2 : yh ≤ 0) (hm : xh * yl + xl * yh < 18446744073709551616) (d : 4294967296 ≤ xh * yl + xl * yh) (w : World) :
    Calls Try.prog 26 #[.int .u64 x, .int .u64 y] w fun e w' => e = .returned (.tuple #[.int .u64 0, .bool false]) ∧ w = w' := by
  obtain ⟨m1, m2⟩ := pb xh yl (by omega) (by omega) (by omega) (by omega)
  obtain ⟨m3, m4⟩ := pb xl yh (by omega) (by omega) (by omega) (by omega)
  obtain ⟨m5, m6⟩ := pb xl yl (by omega) (by omega) (by omega) (by omega)
  go_enter Try.func26, Try.ntmps26
  go_wp2_with fail
  refine (half_up' x xh hx hx1 exh.out _).mono ?_; rintro e w' ⟨rfl, rfl⟩
  go_wp2_with fail
  refine (half_low' y yl hy hy1 eyl.out _).mono ?_; rintro e w' ⟨rfl, rfl⟩
  go_wp2_with fail
  refine (half_low' x xl hx hx1 exl.out _).mono ?_; rintro e w' ⟨rfl, rfl⟩
  go_wp2_with fail
  refine (half_up' y yh hy hy1 eyh.out _).mono ?_; rintro e w' ⟨rfl, rfl⟩
  go_wp2_with fail
  refine (half_up' x xh hx hx1 exh.out _).mono ?_; rintro e w' ⟨rfl, rfl⟩
  go_wp2_with fail
  refine (half_up' y yh hy hy1 eyh.out _).mono ?_; rintro e w' ⟨rfl, rfl⟩
  go_wp2_with fail
  refine (one_ok (xh * yl) (xl * yh) m1 m3 hm _).mono ?_; rintro e w' ⟨rfl, rfl⟩
  go_wp2
  go_ret2
  exact ⟨rfl, rfl⟩
set_option maxHeartbeats 1000000 in
theorem times_B1ok (x y xh xl yh yl : Int) (hx : 0 ≤ x) (hy : 0 ≤ y) (hx1 : x < 18446744073709551616) (hy1 : y < 18446744073709551616)
    (exh : Hid (x / 4294967296 = xh)) (exl : Hid (x % 4294967296 = xl)) (eyh : Hid (y / 4294967296 = yh)) (eyl : Hid (y % 4294967296 = yl))
    (b1 : 0 ≤ xh) (b2 : xh < 4294967296) (b3 : 0 ≤ xl) (b4 : xl < 4294967296) (b5 : 0 ≤ yh) (b6 : yh < 4294967296) (b7 : 0 ≤ yl) (b8 : yl < 4294967296)
    (c1 : 0 < xh) (c2 : yh ≤ 0) (hm : xh * yl + xl * yh < 18446744073709551616) (d : xh * yl + xl * yh < 4294967296) (f : (xh * yl + xl * yh) * 4294967296 + xl * yl < 18446744073709551616) (w : World) :
    Calls Try.prog 26 #[.int .u64 x, .int .u64 y] w fun e w' => e = .returned (.tuple #[.int .u64 ((xh * yl + xl * yh) * 4294967296 + xl * yl), .bool true]) ∧ w = w' := by
  obtain ⟨m1, m2⟩ := pb xh yl (by omega) (by omega) (by omega) (by omega)
  obtain ⟨m3, m4⟩ := pb xl yh (by omega) (by omega) (by omega) (by omega)
  obtain ⟨m5, m6⟩ := pb xl yl (by omega) (by omega) (by omega) (by omega)
  go_enter Try.func26, Try.ntmps26
  go_wp2_with fail
  refine (half_up' x xh hx hx1 exh.out _).mono ?_; rintro e w' ⟨rfl, rfl⟩
  go_wp2_with fail
  refine (half_low' y yl hy hy1 eyl.out _).mono ?_; rintro e w' ⟨rfl, rfl⟩
  go_wp2_with fail
  refine (half_low' x xl hx hx1 exl.out _).mono ?_; rintro e w' ⟨rfl, rfl⟩
  go_wp2_with fail
  refine (half_up' y yh hy hy1 eyh.out _).mono ?_; rintro e w' ⟨rfl, rfl⟩
  go_wp2_with fail
  refine (half_up' x xh hx hx1 exh.out _).mono ?_; rintro e w' ⟨rfl, rfl⟩
  go_wp2_with fail
  refine (half_up' y yh hy hy1 eyh.out _).mono ?_; rintro e w' ⟨rfl, rfl⟩
  go_wp2_with fail
  refine (one_ok (xh * yl) (xl * yh) m1 m3 hm _).mono ?_; rintro e w' ⟨rfl, rfl⟩
  go_wp2_with fail
  refine (half_low' x xl hx hx1 exl.out _).mono ?_; rintro e w' ⟨rfl, rfl⟩
  go_wp2_with fail
  refine (half_low' y yl hy hy1 eyl.out _).mono ?_; rintro e w' ⟨rfl, rfl⟩
  go_wp2_with fail
  refine (one_ok ((xh * yl + xl * yh) * 4294967296) (xl * yl) (by omega) m5 f _).mono ?_; rintro e w' ⟨rfl, rfl⟩
  go_wp2
  go_ret2
  exact ⟨rfl, rfl⟩
set_option maxHeartbeats 1000000 in
theorem times_B1over (x y xh xl yh yl : Int) (hx : 0 ≤ x) (hy : 0 ≤ y) (hx1 : x < 18446744073709551616) (hy1 : y < 18446744073709551616)
    (exh : Hid (x / 4294967296 = xh)) (exl : Hid (x % 4294967296 = xl)) (eyh : Hid (y / 4294967296 = yh)) (eyl : Hid (y % 4294967296 = yl))
    (b1 : 0 ≤ xh) (b2 : xh < 4294967296) (b3 : 0 ≤ xl) (b4 : xl < 4294967296) (b5 : 0 ≤ yh) (b6 : yh < 4294967296) (b7 : 0 ≤ yl) (b8 : yl < 4294967296)
    (c1 : 0 < xh) (c2 : yh ≤ 0) (hm : xh * yl + xl * yh < 18446744073709551616) (d : xh * yl + xl * yh < 4294967296) (f : 18446744073709551616 ≤ (xh * yl + xl * yh) * 4294967296 + xl * yl) (w : World) :
    Calls Try.prog 26 #[.int .u64 x, .int .u64 y] w fun e w' => e = .returned (.tuple #[.int .u64 0, .bool false]) ∧ w = w' := by
  obtain ⟨m1, m2⟩ := pb xh yl (by omega) (by omega) (by omega) (by omega)
  obtain ⟨m3, m4⟩ := pb xl yh (by omega) (by omega) (by omega) (by omega)
  obtain ⟨m5, m6⟩ := pb xl yl (by omega) (by omega) (by omega) (by omega)
  go_enter Try.func26, Try.ntmps26
  go_wp2_with fail
  refine (half_up' x xh hx hx1 exh.out _).mono ?_; rintro e w' ⟨rfl, rfl⟩
  go_wp2_with fail
  refine (half_low' y yl hy hy1 eyl.out _).mono ?_; rintro e w' ⟨rfl, rfl⟩
  go_wp2_with fail
  refine (half_low' x xl hx hx1 exl.out _).mono ?_; rintro e w' ⟨rfl, rfl⟩
  go_wp2_with fail
  refine (half_up' y yh hy hy1 eyh.out _).mono ?_; rintro e w' ⟨rfl, rfl⟩
  go_wp2_with fail
  refine (half_up' x xh hx hx1 exh.out _).mono ?_; rintro e w' ⟨rfl, rfl⟩
  go_wp2_with fail
  refine (half_up' y yh hy hy1 eyh.out _).mono ?_; rintro e w' ⟨rfl, rfl⟩
  go_wp2_with fail
  refine (one_ok (xh * yl) (xl * yh) m1 m3 hm _).mono ?_; rintro e w' ⟨rfl, rfl⟩
  go_wp2_with fail
  refine (half_low' x xl hx hx1 exl.out _).mono ?_; rintro e w' ⟨rfl, rfl⟩
  go_wp2_with fail
  refine (half_low' y yl hy hy1 eyl.out _).mono ?_; rintro e w' ⟨rfl, rfl⟩
  go_wp2_with fail
  refine (one_over ((xh * yl + xl * yh) * 4294967296) (xl * yl) (by omega) m5 (by omega) (by omega) f _).mono ?_; rintro e w' ⟨rfl, rfl⟩
  go_wp2
  go_ret2
  exact ⟨rfl, rfl⟩
theorem times_ok (x y : Int) (hx : 0 ≤ x) (hy : 0 ≤ y) (hx1 : x < 18446744073709551616) (hy1 : y < 18446744073709551616) (h : x * y < 18446744073709551616) (w : World) :
    Calls Try.prog 26 #[.int .u64 x, .int .u64 y] w fun e w' => e = .returned (.tuple #[.int .u64 (x * y), .bool true]) ∧ w = w' := by
  obtain ⟨xh, exh⟩ : ∃ xh, x / 4294967296 = xh := ⟨_, rfl⟩
  obtain ⟨xl, exl⟩ : ∃ xl, x % 4294967296 = xl := ⟨_, rfl⟩
  obtain ⟨yh, eyh⟩ : ∃ yh, y / 4294967296 = yh := ⟨_, rfl⟩
  obtain ⟨yl, eyl⟩ : ∃ yl, y % 4294967296 = yl := ⟨_, rfl⟩
  have hxy : x * y = xh * yh * 18446744073709551616 + (xh * yl + xl * yh) * 4294967296 + xl * yl := by
    rw [← split_mul', show xh * 4294967296 + xl = x by omega, show yh * 4294967296 + yl = y by omega]
  obtain ⟨m1, m2⟩ := pb xh yl (by omega) (by omega) (by omega) (by omega)
  obtain ⟨m3, m4⟩ := pb xl yh (by omega) (by omega) (by omega) (by omega)
  obtain ⟨m5, m6⟩ := pb xl yl (by omega) (by omega) (by omega) (by omega)
  obtain ⟨m7, m8⟩ := pb xh yh (by omega) (by omega) (by omega) (by omega)
  have m9 : xh * yh = 0 := by omega
  have e : x * y = (xh * yl + xl * yh) * 4294967296 + xl * yl := by omega
  rw [e]
  by_cases c1 : xh ≤ 0
  · exact times_B0ok x y xh xl yh yl hx hy hx1 hy1 exh exl eyh eyl (by omega) (by omega) (by omega) (by omega) (by omega) (by omega) (by omega) (by omega) c1 (by omega) (by omega) (by omega) w
  · have c2 : yh ≤ 0 := by
      rcases Int.mul_eq_zero.1 m9 with h | h <;> omega
    exact times_B1ok x y xh xl yh yl hx hy hx1 hy1 exh exl eyh eyl (by omega) (by omega) (by omega) (by omega) (by omega) (by omega) (by omega) (by omega) (by omega) c2 (by omega) (by omega) (by omega) w
theorem times_over (x y : Int) (hx : 0 ≤ x) (hy : 0 ≤ y) (hx1 : x < 18446744073709551616) (hy1 : y < 18446744073709551616) (h : 18446744073709551616 ≤ x * y) (w : World) :
    Calls Try.prog 26 #[.int .u64 x, .int .u64 y] w fun e w' => e = .returned (.tuple #[.int .u64 0, .bool false]) ∧ w = w' := by
  obtain ⟨xh, exh⟩ : ∃ xh, x / 4294967296 = xh := ⟨_, rfl⟩
  obtain ⟨xl, exl⟩ : ∃ xl, x % 4294967296 = xl := ⟨_, rfl⟩
  obtain ⟨yh, eyh⟩ : ∃ yh, y / 4294967296 = yh := ⟨_, rfl⟩
  obtain ⟨yl, eyl⟩ : ∃ yl, y % 4294967296 = yl := ⟨_, rfl⟩
  have hxy : x * y = xh * yh * 18446744073709551616 + (xh * yl + xl * yh) * 4294967296 + xl * yl := by
    rw [← split_mul', show xh * 4294967296 + xl = x by omega, show yh * 4294967296 + yl = y by omega]
  obtain ⟨m1, m2⟩ := pb xh yl (by omega) (by omega) (by omega) (by omega)
  obtain ⟨m3, m4⟩ := pb xl yh (by omega) (by omega) (by omega) (by omega)
  obtain ⟨m5, m6⟩ := pb xl yl (by omega) (by omega) (by omega) (by omega)
  obtain ⟨m7, m8⟩ := pb xh yh (by omega) (by omega) (by omega) (by omega)
  by_cases c1 : xh ≤ 0
  · have e0 : xh = 0 := by omega
    have m9 : xh * yh = 0 := by rw [e0, Int.zero_mul]
    have m10 : xh * yl = 0 := by rw [e0, Int.zero_mul]
    by_cases d : 4294967296 ≤ xh * yl + xl * yh
    · exact times_B0big x y xh xl yh yl hx hy hx1 hy1 exh exl eyh eyl (by omega) (by omega) (by omega) (by omega) (by omega) (by omega) (by omega) (by omega) c1 (by omega) d w
    · exact times_B0over x y xh xl yh yl hx hy hx1 hy1 exh exl eyh eyl (by omega) (by omega) (by omega) (by omega) (by omega) (by omega) (by omega) (by omega) c1 (by omega) (by omega) (by omega) w
  · by_cases c2 : yh ≤ 0
    · have e0 : yh = 0 := by omega
      have m9 : xh * yh = 0 := by rw [e0, Int.mul_zero]
      have m10 : xl * yh = 0 := by rw [e0, Int.mul_zero]
      by_cases d : 4294967296 ≤ xh * yl + xl * yh
      · exact times_B1big x y xh xl yh yl hx hy hx1 hy1 exh exl eyh eyl (by omega) (by omega) (by omega) (by omega) (by omega) (by omega) (by omega) (by omega) (by omega) c2 (by omega) d w
      · exact times_B1over x y xh xl yh yl hx hy hx1 hy1 exh exl eyh eyl (by omega) (by omega) (by omega) (by omega) (by omega) (by omega) (by omega) (by omega) (by omega) c2 (by omega) (by omega) (by omega) w
    · exact times_A x y xh xl yh yl hx hy hx1 hy1 exh exl eyh eyl (by omega) (by omega) (by omega) (by omega) (by omega) (by omega) (by omega) (by omega) w
end Go.Proofs.Ytcmlbbingmnigaa
