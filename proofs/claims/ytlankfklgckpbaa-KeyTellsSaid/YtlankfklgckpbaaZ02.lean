/- Joined texts, part 2: P Q NC UD LB LC LD DB LE. -/
import Derived.Test.YtlankfklgckpbaaZ01
import Derived.IntWalk
import Derived.Deep.RegionHeld3

/- Contracts of the two functions that write one number: wire.put and dunnageref02.put. -/
namespace Go.Proofs.Ytlankfklgckpbaa
set_option linter.unusedSimpArgs false
open Go.RowKit
set_option linter.unusedVariables false

theorem enc_of_lt {n : Int} (h : n < 128) (xs : List Int) : xs ++ [n] = xs ++ enc n := by rw [enc_lt h]
theorem enc_of_ge {n : Int} (h : 128 ≤ n) (xs : List Int) : (xs ++ [n % 128 + 128]) ++ enc (n / 128) = xs ++ enc n := by rw [enc_ge (n := n) (by omega)]; simp

/-- What is told is a row of the caller's own that holds these bytes. -/
def PutTo (B : Nat) (l : List Int) (w : World) (e : Ending) (w' : World) : Prop :=
  ∃ v, e = .returned v ∧ w'.ownsRow B 5 1 v (u8s l).length (u8s l) ∧ Below B w w'

theorem own8 {B : Nat} {w1 : World} {v : Value} {xs ys : List Int} {c : Int} (h : w1.ownsRow B 5 1 v (u8s xs ++ [Value.int .u8 c]).length (u8s xs ++ [Value.int .u8 c])) (e : xs ++ [c] = ys) : w1.ownsRow B 5 1 v (u8s ys).length (u8s ys) := by
  subst e; simpa using h

def PutRel (B : Nat) (all : List Int) (w : World) (v m : Value) (wr : World) : Prop :=
  ∃ (ys : List Int) (k : Int), 0 ≤ k ∧ k < 18446744073709551616 ∧ m = .int .u64 k ∧ ys ++ enc k = all ∧ wr.ownsRow B 5 1 v (u8s ys).length (u8s ys) ∧ Below B w wr ∧ B ≤ wr.heap.size

set_option maxRecDepth 100000 in
theorem or128 (k : Int) (h : 0 ≤ k) : bits .or .u8 (k % 256) 128 = k % 128 + 128 := by
  have : k % 256 = (k % 256).toNat := by omega
  rw [this, show (128 : Int) = ((128 : Nat) : Int) from rfl, u8_or_nat _ _ (by omega) (by omega)]
  have hh : ∀ a : Nat, a < 256 → a ||| 128 = a % 128 + 128 := by decide
  rw [hh _ (by omega)]
  omega

set_option maxHeartbeats 800000 in
theorem put_any (B : Nat) (v : Value) (xs : List Int) (n : Int) (w : World) (hB : B ≤ w.heap.size) (hown : w.ownsRow B 5 1 v (u8s xs).length (u8s xs)) (h0 : 0 ≤ n) (h1 : n < 18446744073709551616) (hx : xs.length ≤ 1000000) :
    Calls Try.prog 16 #[v, .int .u64 n] w (PutTo B (xs ++ enc n) w) := by
  have hlen : (enc n).length ≤ 10 := enc_len_ten n h1
  have hall : (xs ++ enc n).length ≤ 1000010 := by simp; omega
  go_enter Try.func16, Try.ntmps16
  go_wp2
  go_loopw [0, 1] (PutRel B (xs ++ enc n) w) (fun _ m _ => (intOf m).toNat)
  case atStart => exact ⟨xs, n, h0, h1, rfl, rfl, hown, Below.refl _ _, hB⟩
  case round =>
    obtain ⟨ys, k, hk0, hk1, rfl, hall', hownr, hbr, hBr⟩ := hrel
    have hys : (u8s ys).length ≤ 2000000 := by rw [← hall'] at hall; simp at hall ⊢; omega
    have HA := Lib.hid hall'
    have HY := Lib.hid hys
    clear hall' hall hlen hys
    by_cases hlt : 128 ≤ k
    · have hor := or128 k hk0
      go_wp2_with (at_builtin; refine wpList_push 31 5 (.int .u8 0) 1 Try.underlying31 Try.info5 rfl (by decide) rfl (.tmp 7) (.tmp 11) rfl B _ (u8s ys) (.int .u8 (k % 128 + 128)) rfl hownr hBr HY.out rfl rfl ?_; intro v' w1 hown1 hb1 hB1)
      go_roundw
      case rel => exact ⟨ys ++ [k % 128 + 128], k / 128, by omega, by omega, rfl, (enc_of_ge hlt ys).trans HA.out, own8 hown1 rfl, hbr.trans hb1, hB1⟩
      case measure => simp [intOf]; omega
    · have hk : k < 128 := by omega
      have hm : k % 256 = k := by omega
      clear hk1
      go_wp2_with (at_builtin; refine wpList_push 31 5 (.int .u8 0) 1 Try.underlying31 Try.info5 rfl (by decide) rfl (.tmp 15) (.tmp 18) rfl B _ (u8s ys) (.int .u8 k) rfl hownr hBr HY.out rfl rfl ?_; intro v' w1 hown1 hb1 hB1)
      go_ret
      exact ⟨v', rfl, own8 hown1 ((enc_of_lt hk ys).trans HA.out), hbr.trans hb1⟩

def RputRel (B : Nat) (all : List Int) (w : World) (m v : Value) (wr : World) : Prop := PutRel B all w v m wr
set_option maxHeartbeats 800000 in
/-- dunnageref02.put: the number's bytes, in a row of its own. -/
theorem rput_any (n : Int) (w : World) (h0 : 0 ≤ n) (h1 : n < 18446744073709551616) :
    Calls Try.prog 17 #[.int .u64 n] w (PutTo w.heap.size (enc n) w) := by
  have hlen : (enc n).length ≤ 10 := enc_len_ten n h1
  go_enter Try.func17, Try.ntmps17
  go_wp2
  go_loopw [0, 3] (RputRel w.heap.size (enc n) w) (fun m _ _ => (intOf m).toNat)
  case atStart => exact ⟨[], n, h0, h1, rfl, rfl, World.ownsRow_nil _ _ _ _, Below.refl _ _, Nat.le_refl _⟩
  case round =>
    obtain ⟨ys, k, hk0, hk1, rfl, hall', hownr, hbr, hBr⟩ := hrel
    have hys : (u8s ys).length ≤ 2000000 := by rw [← hall'] at hlen; simp at hlen ⊢; omega
    have HA := Lib.hid hall'
    have HY := Lib.hid hys
    clear hall' hlen hys
    by_cases hlt : 128 ≤ k
    · have hm : k % 128 % 256 = k % 128 := by omega
      go_wp2_with (at_builtin; refine wpList_push 31 5 (.int .u8 0) 1 Try.underlying31 Try.info5 rfl (by decide) rfl (.tmp 6) (.tmp 11) rfl w.heap.size _ (u8s ys) (.int .u8 (k % 128 + 128)) rfl hownr hBr HY.out rfl rfl ?_; intro v' w1 hown1 hb1 hB1)
      go_roundw
      case rel => exact ⟨ys ++ [k % 128 + 128], k / 128, by omega, by omega, rfl, (enc_of_ge hlt ys).trans HA.out, own8 hown1 rfl, hbr.trans hb1, hB1⟩
      case measure => simp [intOf]; omega
    · have hk : k < 128 := by omega
      have hm : k % 256 = k := by omega
      clear hk1
      go_wp2_with (at_builtin; refine wpList_push 31 5 (.int .u8 0) 1 Try.underlying31 Try.info5 rfl (by decide) rfl (.tmp 15) (.tmp 18) rfl w.heap.size _ (u8s ys) (.int .u8 k) rfl hownr hBr HY.out rfl rfl ?_; intro v' w1 hown1 hb1 hB1)
      go_ret
      exact ⟨v', rfl, own8 hown1 ((enc_of_lt hk ys).trans HA.out), hbr.trans hb1⟩
end Go.Proofs.Ytlankfklgckpbaa

/- Contracts of the two functions that write numbers: wire.Put and dunnageref02.Put. -/
namespace Go.Proofs.Ytlankfklgckpbaa
set_option linter.unusedSimpArgs false
open Go.RowKit
set_option linter.unusedVariables false

theorem encs_take (l : List Int) (k : Nat) (h : k < l.length) : encs (l.take k) ++ enc l[k] = encs (l.take (k + 1)) := by
  rw [List.take_succ_eq_append_getElem h, encs_append, encs_one]
theorem encs_take_len (l : List Int) (hn : Nums l) (hl : l.length ≤ 5000) (k : Nat) : (encs (l.take k)).length ≤ 50000 := by
  have := encs_len_le (hn.take k)
  have := List.length_take_le' k l
  omega

def PutsRel (l : List Int) (w : World) (v i : Value) (wr : World) : Prop :=
  ∃ k : Nat, k ≤ l.length ∧ i = .int .i64 k ∧ wr.ownsRow w.heap.size 5 1 v (u8s (encs (l.take k))).length (u8s (encs (l.take k))) ∧ Below w.heap.size w wr

set_option maxHeartbeats 800000 in
theorem Put_any (l : List Int) (A : Option Addr) (c : Nat) (w : World) (hl : l.length ≤ 5000) (hn : Nums l) (hr : Row w w.heap.size A (u64s l)) :
    Calls Try.prog 12 #[.slice A l.length c] w (PutTo w.heap.size (encs l) w) := by
  have HN := Lib.hid hn
  have HR := Lib.hid hr
  clear hn hr
  go_enter Try.func12, Try.ntmps12
  go_wp2
  go_loopw [3, 8] (PutsRel l w) (fun _ i _ => l.length - (intOf i).toNat)
  case atStart => exact ⟨0, by omega, rfl, World.ownsRow_nil _ _ _ _, Below.refl _ _⟩
  case round =>
    obtain ⟨k, hk, rfl, hown, hbr⟩ := hrel
    by_cases hlt : k < l.length
    · obtain ⟨b, o, rfl, hb, hcell⟩ := HR.out.at (k := k) (by simpa using hlt)
      have hc := (hbr.cell (p := ⟨b, o + k, none⟩) hb).trans (hcell k (by simpa using hlt))
      simp only [List.getElem_map] at hc
      clear hcell
      have hz := hbr.size
      go_wp2_with fail
      refine (put_any w.heap.size _ (encs (l.take k)) l[k] _ hz hown (HN.out _ (List.getElem_mem hlt)).1 (HN.out _ (List.getElem_mem hlt)).2 (by have := encs_take_len l HN.out hl k; omega)).mono ?_
      rintro e w1 ⟨v, rfl, hown1, hb1⟩
      go_wp2
      go_roundw
      case rel => exact ⟨k + 1, by omega, by go_num, by rw [← encs_take l k hlt]; exact hown1, hbr.trans hb1⟩
      case measure => simp [intOf]; omega
    · have HK : Hid (l.take k = l) := List.take_of_length_le (by omega)
      go_wp2
      go_ret
      exact ⟨_, rfl, by rw [HK.out] at hown; exact hown, hbr⟩

set_option maxHeartbeats 800000 in
theorem rPut_any (l : List Int) (A : Option Addr) (c : Nat) (w : World) (hl : l.length ≤ 5000) (hn : Nums l) (hr : Row w w.heap.size A (u64s l)) :
    Calls Try.prog 14 #[.slice A l.length c] w (PutTo w.heap.size (encs l) w) := by
  have HN := Lib.hid hn
  have HR := Lib.hid hr
  clear hn hr
  go_enter Try.func14, Try.ntmps14
  go_wp2
  go_loopw [3, 4] (PutsRel l w) (fun _ i _ => l.length - (intOf i).toNat)
  case atStart => exact ⟨0, by omega, rfl, World.ownsRow_nil _ _ _ _, Below.refl _ _⟩
  case round =>
    obtain ⟨k, hk, rfl, hown, hbr⟩ := hrel
    by_cases hlt : k < l.length
    · obtain ⟨b, o, rfl, hb, hcell⟩ := HR.out.at (k := k) (by simpa using hlt)
      have hc := (hbr.cell (p := ⟨b, o + k, none⟩) hb).trans (hcell k (by simpa using hlt))
      simp only [List.getElem_map] at hc
      clear hcell
      have hz := hbr.size
      go_wp2_with fail
      refine (rput_any l[k] _ (HN.out _ (List.getElem_mem hlt)).1 (HN.out _ (List.getElem_mem hlt)).2).mono ?_
      rintro e w1 ⟨v, rfl, hown1, hb1⟩
      obtain ⟨A1, c1, rfl, _, _, hnil⟩ := own_form hown1
      have hrow := (Row.of_own hown1).1
      have hown0 := own_below hown hb1 (Nat.le_refl _)
      have hz1 := hb1.size
      have h10 := encs_take_len l HN.out hl k
      have h11 := enc_len_ten l[k] (HN.out _ (List.getElem_mem hlt)).2
      have HL : Hid ((u8s (encs (l.take k))).length + (u8s (enc l[k])).length ≤ 2000000) := by show _ ≤ _; simp only [List.length_map]; omega
      clear h10 h11
      go_wp2_with (at_builtin; refine wpList_cat 31 5 (.int .u8 0) 1 Try.underlying31 Try.info5 rfl (by decide) rfl (.tmp 11) (.tmp 16) rfl w.heap.size _ _ (u8s (encs (l.take k))) (u8s (enc l[k])) A1 c1 (one_u8s _) (fun h => (hnil h).2) hown0 hrow (by omega) HL.out rfl rfl (by simp) ?_; intro v' w2 hown2 hb2 hB2)
      go_roundw
      case rel => exact ⟨k + 1, by omega, by go_num, by rw [← encs_take l k hlt]; simpa using hown2, (hbr.trans (hb1.mono hz)).trans hb2⟩
      case measure => simp [intOf]; omega
    · have HK : Hid (l.take k = l) := List.take_of_length_le (by omega)
      go_wp2
      go_ret
      exact ⟨_, rfl, by rw [HK.out] at hown; exact hown, hbr⟩
end Go.Proofs.Ytlankfklgckpbaa

/- string(b) of bytes that read as a list; '==' of two strings. -/
namespace Go.Proofs.Ytlankfklgckpbaa
set_option linter.unusedSimpArgs false
open Go.RowKit
set_option linter.unusedVariables false

/-- string(b) of bytes that read as a list, nil or not. -/
theorem conv_row (l : List Int) (A : Option Addr) (n c R : Nat) (w : World) (hn : n = l.length) (hr : Row w R A (u8s l)) : (convert 31 9 (.slice A n c)).run Try.prog w = .ok (.string (strOfNums l)) w := by
  subst hn
  rcases hr with h0 | ⟨b, o, rfl, _, hcell⟩
  · have h1 : l = [] := by simpa using h0
    subst h1
    rw [run_convert_bytes_string w 31 9 5 A _ c Try.underlying31 Try.underlying5 Try.underlying9]
    rcases A with _ | a
    · simp [Conv.bytesToString]; rfl
    · exact run_bytesToString w a 0 c [] (by simp [loadCells, loadCellsFrom])
  · refine run_convert_bytes_arg w 31 5 Try.underlying31 Try.underlying5 b o l.length c l rfl (fun i hi => ?_) 9 Try.underlying9
    have := hcell i (by simpa using hi)
    rw [this]
    simp [List.getD, List.getElem?_eq_getElem hi]

theorem str_eq (b : ByteArray) (w : World) : (binOp .eql 9 (.string b) (.string b)).run Try.prog w = .ok (.bool true) w := by
  simp [go_sem]
theorem str_neq (b : ByteArray) (w : World) : (binOp .neq 9 (.string b) (.string b)).run Try.prog w = .ok (.bool false) w := by
  simp [go_sem]

end Go.Proofs.Ytlankfklgckpbaa

/- Are two states alike? The program's and the reference's Same of layer 5. -/
namespace Go.Proofs.Ytlankfklgckpbaa
set_option linter.unusedSimpArgs false
open Go.RowKit
set_option linter.unusedVariables false

def PodsEqRel (l m : List PodD) (W : World) (B : Nat) (i : Value) (wr : World) : Prop := ∃ k : Nat, k ≤ l.length ∧ i = .int .i64 k ∧ podsEq (l.drop k) (m.drop k) = podsEq l m ∧ Below B W wr
set_option maxHeartbeats 3200000 in
set_option maxRecDepth 100000 in
theorem slicesEqual_any (l m : List PodD) (A A' : Option Addr) (n c n' c' : Nat) (w : World) (hn : n = l.length) (hl : n ≤ 1000) (hn' : n' = m.length) (hl' : n' ≤ 1000) (hr : Recs 8 cellsP w w.heap.size A l) (hr' : Recs 8 cellsP w w.heap.size A' m) :
    Calls Try.prog 15 #[.slice A n c, .slice A' n' c'] w fun e w' => e = .returned (.bool (podsEq l m)) ∧ Below w.heap.size w w' := by
  by_cases hnn : n = n'
  · subst hnn
    have HR := Lib.hid hr
    have HR' := Lib.hid hr'
    have HN := Lib.hid hn
    have HM := Lib.hid hn'
    clear hr hr' hn hn'
    go_enter Try.func15, Try.ntmps15
    go_wp2
    go_loopw [13] (PodsEqRel l m w w.heap.size) (fun i _ => n - (intOf i).toNat)
    case atStart => exact ⟨0, by omega, rfl, rfl, Below.refl _ _⟩
    case round =>
      obtain ⟨k, hk, rfl, hp, hbr⟩ := hrel
      have HP := Lib.hid hp
      have hzr := hbr.size
      clear hp
      by_cases hlt : k < n
      · have hkl : k < l.length := by have := HN.out; omega
        have hkm : k < m.length := by have := HM.out; omega
        obtain ⟨b, o, rfl, hb, he⟩ := HR.out.at hkl
        obtain ⟨b', o', rfl, hb', he'⟩ := HR'.out.at hkm
        have HA := Lib.hid (podsEq_at hkl hkm rfl rfl HP.out)
        generalize l[k] = x at *
        generalize m[k] = y at *
        have e0 : wr.cell? ⟨b, o + k * 8, none⟩ = some (.int .i64 x.id) := (hbr.cell (p := ⟨b, o + k * 8, none⟩) hb).trans (he 0 _ rfl)
        have e1 : wr.cell? ⟨b, o + k * 8 + 1, none⟩ = some (.int .i64 x.load) := (hbr.cell (p := ⟨b, o + k * 8 + 1, none⟩) hb).trans (he 1 _ rfl)
        have e2 : wr.cell? ⟨b, o + k * 8 + 2, none⟩ = some (.int .i64 x.prio) := (hbr.cell (p := ⟨b, o + k * 8 + 2, none⟩) hb).trans (he 2 _ rfl)
        have e3 : wr.cell? ⟨b, o + k * 8 + 3, none⟩ = some (.int .u64 x.req.a) := (hbr.cell (p := ⟨b, o + k * 8 + 3, none⟩) hb).trans (he 3 _ rfl)
        have e4 : wr.cell? ⟨b, o + k * 8 + 4, none⟩ = some (.int .u64 x.req.b) := (hbr.cell (p := ⟨b, o + k * 8 + 4, none⟩) hb).trans (he 4 _ rfl)
        have e5 : wr.cell? ⟨b, o + k * 8 + 5, none⟩ = some (.int .u64 x.req.c) := (hbr.cell (p := ⟨b, o + k * 8 + 5, none⟩) hb).trans (he 5 _ rfl)
        have e6 : wr.cell? ⟨b, o + k * 8 + 6, none⟩ = some (.int .u64 x.req.d) := (hbr.cell (p := ⟨b, o + k * 8 + 6, none⟩) hb).trans (he 6 _ rfl)
        have e7 : wr.cell? ⟨b, o + k * 8 + 7, none⟩ = some (.int .i64 x.node) := (hbr.cell (p := ⟨b, o + k * 8 + 7, none⟩) hb).trans (he 7 _ rfl)
        have g0 : wr.cell? ⟨b', o' + k * 8, none⟩ = some (.int .i64 y.id) := (hbr.cell (p := ⟨b', o' + k * 8, none⟩) hb').trans (he' 0 _ rfl)
        have g1 : wr.cell? ⟨b', o' + k * 8 + 1, none⟩ = some (.int .i64 y.load) := (hbr.cell (p := ⟨b', o' + k * 8 + 1, none⟩) hb').trans (he' 1 _ rfl)
        have g2 : wr.cell? ⟨b', o' + k * 8 + 2, none⟩ = some (.int .i64 y.prio) := (hbr.cell (p := ⟨b', o' + k * 8 + 2, none⟩) hb').trans (he' 2 _ rfl)
        have g3 : wr.cell? ⟨b', o' + k * 8 + 3, none⟩ = some (.int .u64 y.req.a) := (hbr.cell (p := ⟨b', o' + k * 8 + 3, none⟩) hb').trans (he' 3 _ rfl)
        have g4 : wr.cell? ⟨b', o' + k * 8 + 4, none⟩ = some (.int .u64 y.req.b) := (hbr.cell (p := ⟨b', o' + k * 8 + 4, none⟩) hb').trans (he' 4 _ rfl)
        have g5 : wr.cell? ⟨b', o' + k * 8 + 5, none⟩ = some (.int .u64 y.req.c) := (hbr.cell (p := ⟨b', o' + k * 8 + 5, none⟩) hb').trans (he' 5 _ rfl)
        have g6 : wr.cell? ⟨b', o' + k * 8 + 6, none⟩ = some (.int .u64 y.req.d) := (hbr.cell (p := ⟨b', o' + k * 8 + 6, none⟩) hb').trans (he' 6 _ rfl)
        have g7 : wr.cell? ⟨b', o' + k * 8 + 7, none⟩ = some (.int .i64 y.node) := (hbr.cell (p := ⟨b', o' + k * 8 + 7, none⟩) hb').trans (he' 7 _ rfl)
        clear he he'
        have hk0 : (0 : Int) ≤ (k : Int) := by omega
        have hk1 : (k : Int) < (n : Int) := by omega
        have hbw : b < wr.heap.size := by omega
        have hbw' : b' < wr.heap.size := by omega
        cases hq : podEq x y with
        | false =>
          have hns : ∀ v, (binOp .neq 39 (aggP x) (aggP y)).run Try.prog v = .ok (.bool true) v := fun v => by rw [pod_neq, hq]; rfl
          have HE := Lib.hid (HA.out.1 hq)
          clear hq
          go_wp2
          go_quiet (fail)
          go_wp2
          go_ret
          exact ⟨ret_bool HE.out.symm, below_draws hbr _⟩
        | true =>
          have hns : ∀ v, (binOp .neq 39 (aggP x) (aggP y)).run Try.prog v = .ok (.bool false) v := fun v => by rw [pod_neq, hq]; rfl
          have HE := Lib.hid (HA.out.2 hq)
          clear hq
          go_wp2
          go_quiet (fail)
          go_wp2
          go_roundw
          case rel => exact ⟨k + 1, by omega, by go_num, HE.out, below_draws hbr _⟩
          case measure => simp [intOf]; omega
      · have HE := Lib.hid (podsEq_end (by have := HN.out; omega) (by have := HM.out; omega) HP.out)
        go_wp2
        go_ret
        exact ⟨ret_bool HE.out.symm, hbr⟩
  · have HE := Lib.hid (podsEq_len (l := l) (m := m) (by omega))
    have hd : ((n : Int) != (n' : Int)) = true := by simp; omega
    go_enter Try.func15, Try.ntmps15
    go_wp2
    go_ret
    exact ⟨ret_bool HE.out.symm, Below.refl _ _⟩
abbrev stateV (A : Option Addr) (n c : Nat) (p s : Int) : Value := .agg #[.slice A n c, .int .i64 p, .int .i64 s]
set_option maxHeartbeats 1600000 in
theorem stateSame_any (t u : StateD) (A A' : Option Addr) (n c n' c' : Nat) (w : World) (hn : n = t.pods.length) (hl : n ≤ 1000) (hn' : n' = u.pods.length) (hl' : n' ≤ 1000) (hr : Recs 8 cellsP w w.heap.size A t.pods) (hr' : Recs 8 cellsP w w.heap.size A' u.pods) :
    Calls Try.prog 11 #[stateV A n c t.preempts t.shifts, stateV A' n' c' u.preempts u.shifts] w fun e w' => e = .returned (.bool (stateEq t u)) ∧ Below w.heap.size w w' := by
  have b00 := below_two w (.cells #[.slice A n c, .int .i64 t.preempts, .int .i64 t.shifts] 26) (.cells #[.slice A' n' c', .int .i64 u.preempts, .int .i64 u.shifts] 26)
  have HF := Lib.hid (slicesEqual_any t.pods u.pods A A' n c n' c' ((w.alloc (.cells #[.slice A n c, .int .i64 t.preempts, .int .i64 t.shifts] 26)).alloc (.cells #[.slice A' n' c', .int .i64 u.preempts, .int .i64 u.shifts] 26)) hn hl hn' hl' ((hr.below b00 (Nat.le_refl _)).more b00.size) ((hr'.below b00 (Nat.le_refl _)).more b00.size))
  clear hr hr' hn hn'
  go_enter Try.func11, Try.ntmps11
  go_wp2_with fail
  refine HF.out.mono ?_
  rintro e w1 ⟨rfl, hb1⟩
  obtain ⟨⟨b0, b1, b2⟩, b3, b4, b5⟩ := box2_cells (hb1.mono (show w.heap.size + 2 ≤ _ by simp))
  have kw1 := b00.trans (hb1.mono b00.size)
  cases hq : podsEq t.pods u.pods with
  | false =>
    have HE := Lib.hid (show stateEq t u = false by simp [stateEq, hq])
    go_wp2
    go_ret
    exact ⟨ret_bool HE.out.symm, kw1⟩
  | true =>
    cases hp : t.preempts == u.preempts with
    | false =>
      have HE := Lib.hid (show stateEq t u = false by unfold stateEq; rw [hq, hp]; rfl)
      go_wp2
      go_ret
      exact ⟨ret_bool HE.out.symm, kw1⟩
    | true =>
      have HE := Lib.hid (show stateEq t u = (t.shifts == u.shifts) by unfold stateEq; rw [hq, hp]; simp)
      go_wp2
      go_ret
      exact ⟨ret_bool HE.out.symm, kw1⟩
end Go.Proofs.Ytlankfklgckpbaa

/- The numbers of a state, one behind the other in a row of the call's own: the program's. -/
namespace Go.Proofs.Ytlankfklgckpbaa
set_option linter.unusedSimpArgs false
open Go.RowKit
set_option linter.unusedVariables false

/-- A block of the call's own that holds these cells, and is of this type. -/
def Bk (w : World) (b : Nat) (cs : List Value) (t : TypeId) : Prop := w.heap[b]? = some (.cells cs.toArray t (0, 0))
section
variable {w w' : World} {b B : Nat} {cs : List Value} {t e : TypeId}
theorem Bk.new (w : World) (cs : List Value) (t : TypeId) : Bk (w.alloc (.cells cs.toArray t)) w.heap.size cs t := heap_alloc_new w _
theorem Bk.lt (h : Bk w b cs t) : b < w.heap.size := (Array.getElem?_eq_some_iff.1 h).1
theorem Bk.below (h : Bk w b cs t) (hb : Below B w w') (hB : b < B) : Bk w' b cs t := (hb.block b hB).trans h
theorem Bk.alloc (h : Bk w b cs t) (o : Obj) : Bk (w.alloc o) b cs t := h.below ((Below.refl _ w).alloc (Nat.le_refl _) o) h.lt
theorem Bk.cell (h : Bk w b cs t) (j : Nat) (u : Value) (hu : cs[j]? = some u) : w.cell? ⟨b, j, none⟩ = some u := by
  have := cell_of_row w b j cs.toArray t (0, 0) h
  rw [this]; simpa using hu
theorem Bk.not {n : Nat} {v : Value} {xs : List Value} (h : Bk w b cs t) (hne : t ≠ e) (ho : w.ownsRow B e 1 v n xs) : v.ownBlock ≠ some b := by
  rcases ho.2 with ⟨rfl, _⟩ | ⟨g, cap, cur, rfl, _, hg, _⟩
  · intro e'; cases e'
  · intro e'
    have e2 : g = b := by simpa [Value.ownBlock] using e'
    subst e2
    have := Option.some.inj (hg.symm.trans h)
    injection this with _ h2 _
    exact hne h2.symm
end
section
variable {ops : Array Oper} {rest : List Oper} {o : Oper} {a : Act} {Q : Exit → Act → World → Prop} {wr : World}
/-- append of a row's numbers to a row of the call's own; nothing but that row has turned. -/
theorem wpList_catN (hgd : o.guard = none) (s x : Operand) (ho : o.op = .call { callee := .builtin .append, args := #[s, x], argTypes := #[33, 33] })
    {n c : Nat} (B : Nat) (v : Value) (xs ys : List Int) (ad : Addr) (hown : wr.ownsRow B 35 1 v (u64s xs).length (u64s xs)) (hrow : ∀ j u, (u64s ys)[j]? = some u → wr.cell? (ad.add j) = some u) (hB : B ≤ wr.heap.size) (hl : xs.length + ys.length ≤ 2000000)
    (hs : a.eval s = v) (hx : a.eval x = .slice (some ad) n c) (hn : n = ys.length)
    (h : ∀ v' w', w'.ownsRow B 35 1 v' (u64s (xs ++ ys)).length (u64s (xs ++ ys)) → Below B wr w' → B ≤ w'.heap.size → (∀ b cs t, t ≠ 35 → Bk wr b cs t → Bk w' b cs t) → wpList Try.prog ops Q rest (a.put o.dst v') w') :
    wpList Try.prog ops Q (o :: rest) a wr := by
  obtain ⟨i0, hi, hz0, hz1, hz2⟩ := info_parts Try.info35
  subst hn
  have hxs : (u64s xs).length = xs.length := by simp
  refine wpList_append_own _ hgd s x 33 ho B 35 i0 (.int .u64 0) 1 8 Try.underlying33 hi hz0 hz1 hz2 rfl (by decide) v (u64s xs).length (u64s xs) hs hown ad ys.length c (u64s ys) hx (by simp) hrow (one_u64s _) ?_ ?_ hB ?_
  · unfold maxLen; omega
  · omega
  · intro v' w' h1 h2 _
    have e : u64s xs ++ u64s ys = u64s (xs ++ ys) := by simp
    have e2 : (u64s xs).length + ys.length = (u64s (xs ++ ys)).length := by simp
    rw [e, e2] at h1
    exact h v' w' h1 ((Below.refl B wr).grown h2 hB (fun j hj => (hown.lt j hj).1)) (by have := h2.size; omega) fun b cs t hne hbk => (h2.block b hbk.lt fun e => hbk.not hne hown e.symm).trans hbk
/-- append of numbers that a literal lays out. -/
theorem wpList_litN (hgd : o.guard = none) (s x : Operand) (ho : o.op = .call { callee := .builtin .append, args := #[s, x], argTypes := #[33, 33] })
    {m g : Nat} (B : Nat) (v : Value) (xs ys : List Int) (hown : wr.ownsRow B 35 1 v (u64s xs).length (u64s xs)) (hB : B ≤ wr.heap.size) (hl : xs.length + ys.length ≤ 2000000)
    (hs : a.eval s = v) (hg : g = wr.heap.size) (hx : a.eval x = .slice (some ⟨g, 0, none⟩) m m) (hn : m = ys.length)
    (h : ∀ v' w', w'.ownsRow B 35 1 v' (u64s (xs ++ ys)).length (u64s (xs ++ ys)) → Below B wr w' → B ≤ w'.heap.size → (∀ b cs t, t ≠ 35 → Bk wr b cs t → Bk w' b cs t) → wpList Try.prog ops Q rest (a.put o.dst v') w') :
    wpList Try.prog ops Q (o :: rest) a (wr.alloc (.cells (u64s ys).toArray 35)) := by
  subst hg
  refine wpList_catN hgd s x ho B v xs ys ⟨wr.heap.size, 0, none⟩ (hown.alloc _) (fun j u hu => by rw [Addr.add_lit, Nat.zero_add]; exact lit_cells wr _ _ j u hu) (by simp; omega) hl hs hx hn ?_
  intro v' w' h1 h2 h3 h4
  exact h v' w' h1 (((Below.refl B wr).alloc hB _).trans h2) h3 fun b cs t hne hbk => h4 b cs t hne (hbk.alloc _)
end
theorem req_row {w : World} {b : Nat} {x : PodD} {t : TypeId} (h : Bk w b (cellsP x) t) : ∀ j u, (u64s [x.req.a, x.req.b, x.req.c, x.req.d])[j]? = some u → w.cell? ((⟨b, 3, none⟩ : Addr).add j) = some u := by
  intro j u hu
  rw [Addr.add_lit]
  refine h.cell (3 + j) u ?_
  have hj : j < 4 := by simpa using (List.getElem?_eq_some_iff.1 hu).1
  rcases j with _ | _ | _ | _ | j
  · exact hu
  · exact hu
  · exact hu
  · exact hu
  · omega
theorem own64s {w : World} {B : Nat} {v : Value} {xs ys : List Int} (h : w.ownsRow B 35 1 v (u64s xs).length (u64s xs)) (e : xs = ys) : w.ownsRow B 35 1 v (u64s ys).length (u64s ys) := e ▸ h

/-- What tells a row of numbers. -/
def NumsTo17 (l : List Int) (w : World) (e : Ending) (w' : World) : Prop :=
  ∃ A c, e = .returned (.slice A l.length c) ∧ Row w' w'.heap.size A (u64s l) ∧ Below w.heap.size w w'
def NumsRel17 (l : List PodD) (W : World) (B : Nat) (v i : Value) (wr : World) : Prop :=
  ∃ k : Nat, k ≤ l.length ∧ i = .int .i64 k ∧ wr.ownsRow B 35 1 v (u64s (headNums l k)).length (u64s (headNums l k)) ∧ Below B W wr

set_option maxHeartbeats 3200000 in
set_option maxRecDepth 100000 in
theorem numbers_any17 (t : StateD) (A : Option Addr) (n c : Nat) (w : World) (hn : n = t.pods.length) (hl : n ≤ 1000) (hr : Recs 8 cellsP w w.heap.size A t.pods) :
    Calls Try.prog 13 #[stateV A n c t.preempts t.shifts] w (NumsTo17 (numsT t) w) := by
  have HS : Hid (∀ W1 : World, w.heap.size + 1 = W1.heap.size → (W1.alloc (.cells #[.int .u64 (n : Int)] 35)).ownsRow (w.heap.size + 1) 35 1 (.slice (some ⟨w.heap.size + 1, 0, none⟩) 1 1) (u64s (headNums t.pods 0)).length (u64s (headNums t.pods 0))) := fun W1 h => by
    have := own_lit W1 (w.heap.size + 1) 1 35 [.int .u64 (n : Int)] (by omega) rfl (by decide)
    subst hn
    rw [h] at this ⊢
    exact this
  have HR := Lib.hid hr
  have HN := Lib.hid hn
  clear hr hn
  have HR1 := Lib.hid (HR.out.below ((Below.refl w.heap.size w).alloc (Nat.le_refl _) (.cells #[.slice A n c, .int .i64 t.preempts, .int .i64 t.shifts] 26)) (Nat.le_refl _))
  have hbx := Bx.new w [.slice A n c, .int .i64 t.preempts, .int .i64 t.shifts] 26
  have HBX := Lib.hid hbx
  clear HR hbx
  go_enter Try.func13, Try.ntmps13
  go_wp2
  generalize hW1 : (w.alloc (.cells #[.slice A n c, .int .i64 t.preempts, .int .i64 t.shifts] 26)) = W1 at *
  go_loopw [3, 14] (NumsRel17 t.pods W1 (w.heap.size + 1)) (fun _ i _ => n - (intOf i).toNat)
  case atStart => exact ⟨0, by omega, rfl, HS.out W1 (by subst hW1; simp), (Below.refl _ _).alloc (by subst hW1; simp) _⟩
  case round =>
    obtain ⟨k, hk, rfl, hown, hbr⟩ := hrel
    have hz := hbr.size
    have hzw : w.heap.size + 1 ≤ wr.heap.size := by subst hW1; simpa using hz
    have hlen : (headNums t.pods k).length ≤ 8001 := by have := head_len t.pods k; have := HN.out; omega
    by_cases hlt : k < n
    · have hkl : k < t.pods.length := by have := HN.out; omega
      obtain ⟨b, o, rfl, hb, he⟩ := HR1.out.at hkl
      have HX := Lib.hid (head_next t.pods k hkl)
      generalize t.pods[k] = x at *
      generalize headNums t.pods k = hd at *
      have hb1 : b < w.heap.size + 1 := by omega
      have e0 : wr.cell? ⟨b, o + k * 8, none⟩ = some (.int .i64 x.id) := (hbr.cell (p := ⟨b, o + k * 8, none⟩) hb1).trans (he 0 _ rfl)
      have e1 : wr.cell? ⟨b, o + k * 8 + 1, none⟩ = some (.int .i64 x.load) := (hbr.cell (p := ⟨b, o + k * 8 + 1, none⟩) hb1).trans (he 1 _ rfl)
      have e2 : wr.cell? ⟨b, o + k * 8 + 2, none⟩ = some (.int .i64 x.prio) := (hbr.cell (p := ⟨b, o + k * 8 + 2, none⟩) hb1).trans (he 2 _ rfl)
      have e3 : wr.cell? ⟨b, o + k * 8 + 3, none⟩ = some (.int .u64 x.req.a) := (hbr.cell (p := ⟨b, o + k * 8 + 3, none⟩) hb1).trans (he 3 _ rfl)
      have e4 : wr.cell? ⟨b, o + k * 8 + 4, none⟩ = some (.int .u64 x.req.b) := (hbr.cell (p := ⟨b, o + k * 8 + 4, none⟩) hb1).trans (he 4 _ rfl)
      have e5 : wr.cell? ⟨b, o + k * 8 + 5, none⟩ = some (.int .u64 x.req.c) := (hbr.cell (p := ⟨b, o + k * 8 + 5, none⟩) hb1).trans (he 5 _ rfl)
      have e6 : wr.cell? ⟨b, o + k * 8 + 6, none⟩ = some (.int .u64 x.req.d) := (hbr.cell (p := ⟨b, o + k * 8 + 6, none⟩) hb1).trans (he 6 _ rfl)
      have e7 : wr.cell? ⟨b, o + k * 8 + 7, none⟩ = some (.int .i64 x.node) := (hbr.cell (p := ⟨b, o + k * 8 + 7, none⟩) hb1).trans (he 7 _ rfl)
      have HS1 : Hid (hd.length + [w64 x.id, w64 x.load, w64 x.prio].length ≤ 2000000) := by show _ ≤ _; simp; omega
      have HS2 : Hid ((hd ++ [w64 x.id, w64 x.load, w64 x.prio]).length + [x.req.a, x.req.b, x.req.c, x.req.d].length ≤ 2000000) := by show _ ≤ _; simp; omega
      have HS3 : Hid (((hd ++ [w64 x.id, w64 x.load, w64 x.prio]) ++ [x.req.a, x.req.b, x.req.c, x.req.d]).length + [w64 x.node].length ≤ 2000000) := by show _ ≤ _; simp; omega
      have HB0 := Lib.hid (Bk.new wr (cellsP x) 39)
      have HO0 := Lib.hid (hown.alloc (.cells (cellsP x).toArray 39))
      have HBB := Lib.hid ((Below.refl (w.heap.size + 1) wr).alloc hzw (.cells (cellsP x).toArray 39))
      have HZ0 : Hid (w.heap.size + 1 ≤ (wr.alloc (.cells (cellsP x).toArray 39)).heap.size) := by show _ ≤ _; simp; omega
      clear he hlen
      go_wp2_with (first
        | (at_builtin; refine wpList_litN (wr := wr.alloc (.cells (cellsP x).toArray 39)) rfl (.tmp 18) (.tmp 28) rfl (w.heap.size + 1) _ hd [w64 x.id, w64 x.load, w64 x.prio] HO0.out HZ0.out HS1.out rfl (by simp) rfl rfl ?_; intro v1 w1 hown1 hb1 hB1 hk1; have HK1 := Lib.hid (hk1 _ _ _ (by decide) HB0.out); clear hk1)
        | (at_builtin; refine wpList_catN rfl (.tmp 30) (.tmp 32) rfl (w.heap.size + 1) _ _ [x.req.a, x.req.b, x.req.c, x.req.d] _ hown1 (req_row HK1.out) hB1 HS2.out rfl rfl rfl ?_; intro v2 w2 hown2 hb2 hB2 hk2; have hkb2 := hk2 _ _ _ (by decide) HK1.out; have c2 := hkb2.cell 7 _ rfl; have lt2 := hkb2.lt; clear hk2 hkb2)
        | (at_builtin; refine wpList_litN rfl (.tmp 34) (.tmp 38) rfl (w.heap.size + 1) _ _ [w64 x.node] hown2 hB2 HS3.out rfl rfl rfl rfl ?_; intro v3 w3 hown3 hb3 hB3 hk3; clear hk3))
      go_roundw
      case rel => exact ⟨k + 1, by omega, by go_num, own64s hown3 (by rw [← HX.out]; simp [numsP]), (((hbr.trans HBB.out).trans hb1).trans hb2).trans hb3⟩
      case measure => simp [intOf]; omega
    · have HX := Lib.hid (head_end t k (by have := HN.out; omega))
      have hbw := HBX.out.below hbr (by omega)
      have d1 := hbw.at 1 _ rfl
      have d2 := hbw.at 2 _ rfl
      have d0 := hbw.1
      have HS1 : Hid ((headNums t.pods k).length + [w64 t.preempts, w64 t.shifts].length ≤ 2000000) := by show _ ≤ _; simp; omega
      clear hbw hlen
      go_wp2_with (at_builtin; refine wpList_litN rfl (.tmp 41) (.tmp 48) rfl (w.heap.size + 1) _ _ [w64 t.preempts, w64 t.shifts] hown hzw HS1.out rfl rfl rfl rfl ?_; intro v1 w1 hown1 hb1 hB1 hk1)
      have hown2 := own64s hown1 HX.out
      obtain ⟨A', c', rfl, _, _, _⟩ := own_form hown2
      go_ret
      exact ⟨A', c', by simp, (Row.of_own hown2).1, ((((Below.refl w.heap.size w).alloc (Nat.le_refl _) _).trans ((hW1 ▸ hbr).mono (by omega))).trans (hb1.mono (by omega)))⟩
end Go.Proofs.Ytlankfklgckpbaa

/- A state's key: the program's Of and the reference's Key. -/
namespace Go.Proofs.Ytlankfklgckpbaa
set_option linter.unusedSimpArgs false
open Go.RowKit
set_option linter.unusedVariables false

/-- What tells a state's key. -/
def KeyTo (t : StateD) (w : World) (e : Ending) (w' : World) : Prop := e = .returned (.string (keyS t)) ∧ Below w.heap.size w w'

set_option maxHeartbeats 1600000 in
theorem keyOf_any (t : StateD) (A : Option Addr) (n c : Nat) (w : World) (ht : t.Ok) (hn : n = t.pods.length) (hl : n ≤ 600) (hr : Recs 8 cellsP w w.heap.size A t.pods) :
    Calls Try.prog 7 #[stateV A n c t.preempts t.shifts] w (KeyTo t w) := by
  have b0 := (Below.refl w.heap.size w).alloc (Nat.le_refl _) (.cells #[.slice A n c, .int .i64 t.preempts, .int .i64 t.shifts] 26)
  have HF := Lib.hid (numbers_any17 t A n c (w.alloc (.cells #[.slice A n c, .int .i64 t.preempts, .int .i64 t.shifts] 26)) hn (by omega) ((hr.below b0 (Nat.le_refl _)).more b0.size))
  have HB := Lib.hid b0
  have HNS := Lib.hid (numsT_nums ht (by omega))
  have HLN : Hid ((numsT t).length ≤ 5000) := by show _ ≤ _; rw [numsT_len]; omega
  clear hr hn ht b0
  go_enter Try.func7, Try.ntmps7
  go_wp2_with fail
  refine HF.out.mono ?_
  rintro e w1 ⟨A1, c1, rfl, hrow1, hb1⟩
  have HR1 := Lib.hid hrow1
  clear hrow1
  go_wp2_with fail
  refine (Put_any (numsT t) A1 c1 w1 HLN.out HNS.out HR1.out).mono ?_
  rintro e w2 ⟨v, rfl, hown2, hb2⟩
  obtain ⟨A2, c2, rfl, _, _, _⟩ := own_form hown2
  have hrow2 := (Row.of_own hown2).1
  have hcv := conv_row (encs (numsT t)) A2 (encs (numsT t)).length c2 _ w2 rfl hrow2
  have HK := Lib.hid (show strOfNums (encs (numsT t)) = keyS t from rfl)
  clear hown2 hrow2
  go_wp2
  go_ret
  exact ⟨rfl, (HB.out.trans (hb1.mono HB.out.size)).trans (hb2.mono (by have := HB.out.size; have := hb1.size; omega))⟩

set_option maxHeartbeats 3200000 in
set_option maxRecDepth 100000 in
theorem rKey_any (t : StateD) (A : Option Addr) (n c : Nat) (w : World) (ht : t.Ok) (hn : n = t.pods.length) (hl : n ≤ 600) (hr : Recs 8 cellsP w w.heap.size A t.pods) :
    Calls Try.prog 8 #[stateV A n c t.preempts t.shifts] w (KeyTo t w) := by
  have HNS := Lib.hid (numsT_nums ht (by omega))
  have HLN : Hid ((numsT t).length ≤ 5000) := by show _ ≤ _; rw [numsT_len]; omega
  have HS : Hid (∀ W1 : World, w.heap.size + 1 = W1.heap.size → (W1.alloc (.cells #[.int .u64 (n : Int)] 35)).ownsRow (w.heap.size + 1) 35 1 (.slice (some ⟨w.heap.size + 1, 0, none⟩) 1 1) (u64s (headNums t.pods 0)).length (u64s (headNums t.pods 0))) := fun W1 h => by
    have := own_lit W1 (w.heap.size + 1) 1 35 [.int .u64 (n : Int)] (by omega) rfl (by decide)
    subst hn
    rw [h] at this ⊢
    exact this
  have HR := Lib.hid hr
  have HN := Lib.hid hn
  clear hr hn ht
  have HR1 := Lib.hid (HR.out.below ((Below.refl w.heap.size w).alloc (Nat.le_refl _) (.cells #[.slice A n c, .int .i64 t.preempts, .int .i64 t.shifts] 26)) (Nat.le_refl _))
  have HBX := Lib.hid (Bx.new w [.slice A n c, .int .i64 t.preempts, .int .i64 t.shifts] 26)
  clear HR
  go_enter Try.func8, Try.ntmps8
  go_wp2
  generalize hW1 : (w.alloc (.cells #[.slice A n c, .int .i64 t.preempts, .int .i64 t.shifts] 26)) = W1 at *
  go_loopw [3, 4] (NumsRel17 t.pods W1 (w.heap.size + 1)) (fun _ i _ => n - (intOf i).toNat)
  case atStart => exact ⟨0, by omega, rfl, HS.out W1 (by subst hW1; simp), (Below.refl _ _).alloc (by subst hW1; simp) _⟩
  case round =>
    obtain ⟨k, hk, rfl, hown, hbr⟩ := hrel
    have hz := hbr.size
    have hzw : w.heap.size + 1 ≤ wr.heap.size := by subst hW1; simpa using hz
    have hlen : (headNums t.pods k).length ≤ 8001 := by have := head_len t.pods k; have := HN.out; omega
    have hbw := HBX.out.below hbr (by omega)
    have d0 := hbw.at 0 _ rfl
    have d1 := hbw.at 1 _ rfl
    have d2 := hbw.at 2 _ rfl
    have dl := hbw.1
    clear hbw
    by_cases hlt : k < n
    · have hkl : k < t.pods.length := by have := HN.out; omega
      obtain ⟨b, o, rfl, hb, he⟩ := HR1.out.at hkl
      have HX := Lib.hid (head_next t.pods k hkl)
      generalize t.pods[k] = x at *
      generalize headNums t.pods k = hd at *
      have hb1 : b < w.heap.size + 1 := by omega
      have e0 : wr.cell? ⟨b, o + k * 8, none⟩ = some (.int .i64 x.id) := (hbr.cell (p := ⟨b, o + k * 8, none⟩) hb1).trans (he 0 _ rfl)
      have e1 : wr.cell? ⟨b, o + k * 8 + 1, none⟩ = some (.int .i64 x.load) := (hbr.cell (p := ⟨b, o + k * 8 + 1, none⟩) hb1).trans (he 1 _ rfl)
      have e2 : wr.cell? ⟨b, o + k * 8 + 2, none⟩ = some (.int .i64 x.prio) := (hbr.cell (p := ⟨b, o + k * 8 + 2, none⟩) hb1).trans (he 2 _ rfl)
      have e3 : wr.cell? ⟨b, o + k * 8 + 3, none⟩ = some (.int .u64 x.req.a) := (hbr.cell (p := ⟨b, o + k * 8 + 3, none⟩) hb1).trans (he 3 _ rfl)
      have e4 : wr.cell? ⟨b, o + k * 8 + 4, none⟩ = some (.int .u64 x.req.b) := (hbr.cell (p := ⟨b, o + k * 8 + 4, none⟩) hb1).trans (he 4 _ rfl)
      have e5 : wr.cell? ⟨b, o + k * 8 + 5, none⟩ = some (.int .u64 x.req.c) := (hbr.cell (p := ⟨b, o + k * 8 + 5, none⟩) hb1).trans (he 5 _ rfl)
      have e6 : wr.cell? ⟨b, o + k * 8 + 6, none⟩ = some (.int .u64 x.req.d) := (hbr.cell (p := ⟨b, o + k * 8 + 6, none⟩) hb1).trans (he 6 _ rfl)
      have e7 : wr.cell? ⟨b, o + k * 8 + 7, none⟩ = some (.int .i64 x.node) := (hbr.cell (p := ⟨b, o + k * 8 + 7, none⟩) hb1).trans (he 7 _ rfl)
      have HS1 : Hid (hd.length + [w64 x.id, w64 x.load, w64 x.prio, x.req.a, x.req.b, x.req.c, x.req.d, w64 x.node].length ≤ 2000000) := by show _ ≤ _; simp; omega
      have HO0 := Lib.hid (hown.alloc (.cells (cellsP x).toArray 39))
      have HBB := Lib.hid ((Below.refl (w.heap.size + 1) wr).alloc hzw (.cells (cellsP x).toArray 39))
      have HZ0 : Hid (w.heap.size + 1 ≤ (wr.alloc (.cells (cellsP x).toArray 39)).heap.size) := by show _ ≤ _; simp; omega
      have hk0 : (0 : Int) ≤ (k : Int) := by omega
      have hk1 : (k : Int) < (n : Int) := by omega
      clear he hlen
      go_wp2_with (at_builtin; refine wpList_litN (wr := wr.alloc (.cells (cellsP x).toArray 39)) rfl (.tmp 23) (.tmp 48) rfl (w.heap.size + 1) _ hd [w64 x.id, w64 x.load, w64 x.prio, x.req.a, x.req.b, x.req.c, x.req.d, w64 x.node] HO0.out HZ0.out HS1.out rfl (by simp) rfl rfl ?_; intro v1 w1 hown1 hb1 hB1 hk1; clear hk1)
      go_roundw
      case rel => exact ⟨k + 1, by omega, by go_num, own64s hown1 (by rw [← HX.out]; simp [numsP]), (hbr.trans HBB.out).trans hb1⟩
      case measure => simp [intOf]; omega
    · have HX := Lib.hid (head_end t k (by have := HN.out; omega))
      have HS1 : Hid ((headNums t.pods k).length + [w64 t.preempts, w64 t.shifts].length ≤ 2000000) := by show _ ≤ _; simp; omega
      have kW : Below w.heap.size w wr := ((Below.refl w.heap.size w).alloc (Nat.le_refl _) _).trans ((hW1 ▸ hbr).mono (by omega))
      clear hlen
      go_wp2_with (at_builtin; refine wpList_litN rfl (.tmp 50) (.tmp 57) rfl (w.heap.size + 1) _ _ [w64 t.preempts, w64 t.shifts] hown hzw HS1.out rfl rfl rfl rfl ?_; intro v1 w1 hown1 hb1 hB1 hk1; have hown2 := own64s hown1 HX.out; obtain ⟨A', c', rfl, _, _, _⟩ := own_form hown2; have HROW := Lib.hid (Row.of_own hown2).1; clear hk1 hown1 hown2)
      have kW1 := kW.trans (hb1.mono (show w.heap.size ≤ w.heap.size + 1 by omega))
      refine (rPut_any (numsT t) A' c' w1 HLN.out HNS.out HROW.out).mono ?_
      rintro e w2 ⟨v, rfl, hown2, hb2⟩
      obtain ⟨A2, c2, rfl, _, _, _⟩ := own_form hown2
      have hrow2 := (Row.of_own hown2).1
      have hcv := conv_row (encs (numsT t)) A2 (encs (numsT t)).length c2 _ w2 rfl hrow2
      have HK := Lib.hid (show strOfNums (encs (numsT t)) = keyS t from rfl)
      clear hown2 hrow2
      go_wp2
      go_ret
      exact ⟨rfl, kW1.trans (hb2.mono kW1.size)⟩
end Go.Proofs.Ytlankfklgckpbaa

/- States in a row in memory; the place of the first one whose key is the least: the program's Least and the reference's. -/
namespace Go.Proofs.Ytlankfklgckpbaa
set_option linter.unusedSimpArgs false
open Go.RowKit
set_option linter.unusedVariables false

/-- A state in a row: where its pods lie. -/
structure StL where
  A : Option Addr
  c : Nat
  t : StateD
def cellsSL (x : StL) : List Value := [.slice x.A x.t.pods.length x.c, .int .i64 x.t.preempts, .int .i64 x.t.shifts]
/-- The states of a row lie below block B. -/
structure Sts (w : World) (B : Nat) (A : Option Addr) (l : List StL) : Prop where
  row : Recs 3 cellsSL w B A l
  each : ∀ x ∈ l, Recs 8 cellsP w B x.A x.t.pods
section
variable {w w' : World} {B B' : Nat} {A : Option Addr} {l : List StL}
theorem Sts.below (h : Sts w B A l) (hb : Below B' w w') (hB : B ≤ B') : Sts w' B A l := ⟨h.row.below hb hB, fun x hx => (h.each x hx).below hb hB⟩
theorem Sts.more (h : Sts w B A l) (hB : B ≤ B') : Sts w B' A l := ⟨h.row.more hB, fun x hx => (h.each x hx).more hB⟩
end
/-- States that may be told of: numbers that fit, and not too many pods. -/
def FineS17 (l : List StL) : Prop := ∀ x ∈ l, x.t.Ok ∧ x.t.pods.length ≤ 600
def keysL (l : List StL) : Nat → List UInt8 := keyAt (l.map StL.t)
theorem keysL_get {l : List StL} {i : Nat} (h : i < l.length) : keysL l i = (keyS l[i].t).toList := keyAt_get (l := l.map StL.t) (by simpa using h) (by simp)

/-- What tells the place of the first least key. -/
def LeastTo17 (l : List StL) (w : World) (e : Ending) (w' : World) : Prop := ∃ b : Int, e = .returned (.int .i64 b) ∧ Best (keysL l) l.length b ∧ Below w.heap.size w w'
def LeastRel17 (l : List StL) (W : World) (v3 v4 i : Value) (wr : World) : Prop :=
  ∃ k : Nat, k ≤ l.length ∧ i = .int .i64 k ∧ ((k = 0 ∧ v3 = .int .i64 (-1) ∧ v4 = .string ⟨#[]⟩) ∨ ∃ (j : Nat) (s : ByteArray), 0 < k ∧ v3 = .int .i64 j ∧ v4 = .string s ∧ s.toList = keysL l j ∧ Best (keysL l) k j) ∧ Below W.heap.size W wr

set_option maxHeartbeats 3200000 in
set_option maxRecDepth 100000 in
theorem keyLeast_any (l : List StL) (A : Option Addr) (n c : Nat) (w : World) (hn : n = l.length) (hl : n ≤ 1000) (hf : FineS17 l) (hr : Sts w w.heap.size A l) :
    Calls Try.prog 9 #[.slice A n c] w (LeastTo17 l w) := by
  have HR := Lib.hid hr
  have HN := Lib.hid hn
  have HF := Lib.hid hf
  clear hr hn hf
  go_enter Try.func9, Try.ntmps9
  go_wp2
  go_loopw [3, 4, 10] (LeastRel17 l w) (fun _ _ i _ => n - (intOf i).toNat)
  case atStart => exact ⟨0, by omega, rfl, .inl ⟨rfl, rfl, rfl⟩, Below.refl _ _⟩
  case round =>
    obtain ⟨k, hk, rfl, hs, hbr⟩ := hrel
    have hz := hbr.size
    by_cases hlt : k < n
    · have hkl : k < l.length := by have := HN.out; omega
      have HK := Lib.hid (keysL_get hkl)
      have hx := HF.out _ (List.getElem_mem hkl)
      have hp := HR.out.each _ (List.getElem_mem hkl)
      obtain ⟨b, o, rfl, hb, he⟩ := HR.out.row.at hkl
      generalize l[k] = x at *
      have e0 : wr.cell? ⟨b, o + k * 3, none⟩ = some (.slice x.A x.t.pods.length x.c) := (hbr.cell (p := ⟨b, o + k * 3, none⟩) hb).trans (he 0 _ rfl)
      have e1 : wr.cell? ⟨b, o + k * 3 + 1, none⟩ = some (.int .i64 x.t.preempts) := (hbr.cell (p := ⟨b, o + k * 3 + 1, none⟩) hb).trans (he 1 _ rfl)
      have e2 : wr.cell? ⟨b, o + k * 3 + 2, none⟩ = some (.int .i64 x.t.shifts) := (hbr.cell (p := ⟨b, o + k * 3 + 2, none⟩) hb).trans (he 2 _ rfl)
      have b0 := (Below.refl wr.heap.size wr).alloc (Nat.le_refl _) (.cells (cellsSL x).toArray 26)
      have HC := Lib.hid (keyOf_any x.t x.A x.t.pods.length x.c (wr.alloc (.cells (cellsSL x).toArray 26)) hx.1 rfl hx.2 (((hp.below hbr (Nat.le_refl _)).below b0 hz).more (Nat.le_trans hz b0.size)))
      have HB := Lib.hid (hbr.trans (b0.mono hz))
      have HB0 := Lib.hid (Nat.le_trans hz b0.size)
      clear he hp hx b0
      rcases hs with ⟨rfl, rfl, rfl⟩ | ⟨j, s, hk1, rfl, rfl, hj, hbest⟩
      · simp only [Nat.zero_mul, Nat.add_zero] at e0 e1 e2
        go_wp2_with fail
        refine HC.out.mono ?_
        rintro e w1 ⟨rfl, hb1⟩
        go_wp2
        go_roundw
        case rel => exact ⟨1, by omega, by go_num, .inr ⟨0, _, by omega, rfl, rfl, HK.out.symm, Best.one⟩, HB.out.trans (hb1.mono HB0.out)⟩
        case measure => simp [intOf]; omega
      · have hj0 : (0 : Int) ≤ (j : Int) := by omega
        have HBE := Lib.hid hbest
        have HJ := Lib.hid hj
        cases hq : Op.bytesLess (keyS x.t).toList s.toList with
        | true =>
          have HH := Lib.hid (Best.here hbest (by rw [HK.out, ← hj]; exact hq))
          clear hbest hj
          go_wp2_with fail
          refine HC.out.mono ?_
          rintro e w1 ⟨rfl, hb1⟩
          go_wp2
          go_roundw
          case rel => exact ⟨k + 1, by omega, by go_num, .inr ⟨k, _, by omega, rfl, rfl, HK.out.symm, HH.out⟩, HB.out.trans (hb1.mono HB0.out)⟩
          case measure => simp [intOf]; omega
        | false =>
          have HH := Lib.hid (Best.there hbest (by rw [HK.out, ← hj]; exact hq))
          clear hbest hj
          go_wp2_with fail
          refine HC.out.mono ?_
          rintro e w1 ⟨rfl, hb1⟩
          go_wp2
          go_roundw
          case rel => exact ⟨k + 1, by omega, by go_num, .inr ⟨j, s, by omega, rfl, rfl, HJ.out, HH.out⟩, HB.out.trans (hb1.mono HB0.out)⟩
          case measure => simp [intOf]; omega
    · have hkn : k = l.length := by have := HN.out; omega
      have HKN := Lib.hid hkn
      rcases hs with ⟨h0, rfl, rfl⟩ | ⟨j, s, hk1, rfl, rfl, hj, hbest⟩
      · have HBE : Hid (Best (keysL l) l.length (-1)) := .inl ⟨by omega, rfl⟩
        clear hkn
        go_wp2
        go_ret
        exact ⟨_, rfl, HBE.out, hbr⟩
      · have HBE := Lib.hid (hkn ▸ hbest)
        clear hkn hbest hj
        go_wp2
        go_ret
        exact ⟨_, rfl, HBE.out, hbr⟩
end Go.Proofs.Ytlankfklgckpbaa

/- The program's orderFault and idFault, at each kind of record. -/
namespace Go.Proofs.Ytlankfklgckpbaa
set_option linter.unusedSimpArgs false
open Go.RowKit
set_option linter.unusedVariables false

/-- What a region with loads and calls keeps: all blocks that there were are as they were. -/
def Keeps (W : World) (w' : World) : Prop := (∀ b o, b < W.heap.size → w'.cell? ⟨b, o, none⟩ = W.cell? ⟨b, o, none⟩) ∧ Below W.heap.size W w'
theorem Keeps.of {W v : World} (k : Below W.heap.size W v) : Keeps W v := ⟨fun b o h => k.cell (p := ⟨b, o, none⟩) h, k⟩
theorem Keeps.step {W v v' : World} (h : Keeps W v) (hb : Below v.heap.size v v') : Keeps W v' := Keeps.of (h.2.trans (hb.mono h.2.size))
theorem Keeps.alloc {W v : World} (h : Keeps W v) (o : Obj) : Keeps W (v.alloc o) := Keeps.of (h.2.alloc h.2.size o)
theorem Keeps.refl (W : World) : Keeps W W := Keeps.of (Below.refl _ _)
theorem Keeps.drew {W v : World} (h : Keeps W v) : Keeps W v.drew := Keeps.of (Below.drew h.2)
end Go.Proofs.Ytlankfklgckpbaa

namespace Go.Proofs.Ytlankfklgckpbaa
set_option linter.unusedSimpArgs false
open Go.RowKit
set_option linter.unusedVariables false

def RLeastRel (l : List StL) (W : World) (v3 i : Value) (wr : World) : Prop :=
  ∃ k : Nat, k ≤ l.length ∧ i = .int .i64 k ∧ ((k = 0 ∧ v3 = .int .i64 (-1)) ∨ ∃ j : Nat, j < k ∧ v3 = .int .i64 j ∧ Best (keysL l) k j) ∧ Below W.heap.size W wr
theorem Best.lt {K : Nat → List UInt8} {k j : Nat} (h : Best K k j) : j < k := by
  rcases h with ⟨_, h⟩ | ⟨j', h1, h2, _⟩ <;> omega

set_option maxHeartbeats 6400000 in
set_option maxRecDepth 100000 in
theorem rLeast_any (l : List StL) (A : Option Addr) (n c : Nat) (w : World) (hn : n = l.length) (hl : n ≤ 1000) (hf : FineS17 l) (hr : Sts w w.heap.size A l) :
    Calls Try.prog 10 #[.slice A n c] w (LeastTo17 l w) := by
  have HR := Lib.hid hr
  have HN := Lib.hid hn
  have HF := Lib.hid hf
  clear hr hn hf
  go_enter Try.func10, Try.ntmps10
  go_wp2
  go_loopw [3, 4] (RLeastRel l w) (fun _ i _ => n - (intOf i).toNat)
  case atStart => exact ⟨0, by omega, rfl, .inl ⟨rfl, rfl⟩, Below.refl _ _⟩
  case round =>
    obtain ⟨k, hk, rfl, hs, hbr⟩ := hrel
    have hz := hbr.size
    by_cases hlt : k < n
    · have hkl : k < l.length := by have := HN.out; omega
      have HK := Lib.hid (keysL_get hkl)
      have hx := HF.out _ (List.getElem_mem hkl)
      have hp := HR.out.each _ (List.getElem_mem hkl)
      obtain ⟨b, o, rfl, hb, he⟩ := HR.out.row.at hkl
      have hbl : b < wr.heap.size := by omega
      generalize l[k] = x at *
      have e0 : wr.cell? ⟨b, o + k * 3, none⟩ = some (.slice x.A x.t.pods.length x.c) := (hbr.cell (p := ⟨b, o + k * 3, none⟩) hb).trans (he 0 _ rfl)
      have e1 : wr.cell? ⟨b, o + k * 3 + 1, none⟩ = some (.int .i64 x.t.preempts) := (hbr.cell (p := ⟨b, o + k * 3 + 1, none⟩) hb).trans (he 1 _ rfl)
      have e2 : wr.cell? ⟨b, o + k * 3 + 2, none⟩ = some (.int .i64 x.t.shifts) := (hbr.cell (p := ⟨b, o + k * 3 + 2, none⟩) hb).trans (he 2 _ rfl)
      have HCX : Hid (∀ V : World, ((∀ b o, b < wr.heap.size → V.cell? ⟨b, o, none⟩ = wr.cell? ⟨b, o, none⟩) ∧ Below wr.heap.size wr V) → Calls Try.prog 8 #[.agg #[.slice x.A x.t.pods.length x.c, .int .i64 x.t.preempts, .int .i64 x.t.shifts]] V fun e w' => e = .returned (.string (keyS x.t)) ∧ Below V.heap.size V w') := fun V hV =>
        rKey_any x.t x.A x.t.pods.length x.c V hx.1 rfl hx.2 (((hp.below hbr (Nat.le_refl _)).below hV.2 hz).more (Nat.le_trans hz hV.2.size))
      have hk0 : (0 : Int) ≤ (k : Int) := by omega
      have hk1 : (k : Int) < (n : Int) := by omega
      clear he hp hx
      rcases hs with ⟨h0, rfl⟩ | ⟨j, hjk, rfl, hbest⟩
      · have hq := less_irrefl (keyS x.t).toList
        have HBE : Hid (Best (keysL l) (k + 1) (k : Int)) := by show Best _ _ _; subst h0; exact Best.one
        clear h0
        go_wp2
        go_region_held3 (fun w' => (∀ b o, b < wr.heap.size → w'.cell? ⟨b, o, none⟩ = wr.cell? ⟨b, o, none⟩) ∧ Below wr.heap.size wr w')
          (first | (with_reducible assumption) | (show Keeps wr _; with_reducible (repeat (first | exact Keeps.refl _ | assumption | refine Keeps.drew ?_ | refine Keeps.alloc ?_ _ | refine Keeps.step ?_ (by assumption)))))
          (first | (go_at_call 8; (with_reducible refine (HCX.out _ (by assumption)).mono ?_); rintro e w6 ⟨rfl, hb6⟩))
        all_goals
          rename_i hK
          have kV := hK.2
          clear hK
          go_wp2
          go_roundw
          case rel => exact ⟨k + 1, by omega, by go_num, .inr ⟨k, by omega, rfl, HBE.out⟩, hbr.trans (kV.mono hz)⟩
          case measure => simp [intOf]; omega
      · have hjl : j < l.length := by omega
        have HJ := Lib.hid (keysL_get hjl)
        have hx := HF.out _ (List.getElem_mem hjl)
        have hp := HR.out.each _ (List.getElem_mem hjl)
        obtain ⟨b', o', hbo, hb', he⟩ := HR.out.row.at hjl
        have hbo' := Option.some.inj hbo
        obtain ⟨rfl, rfl⟩ : b' = b ∧ o' = o := by injection hbo' with h1 h2; exact ⟨h1.symm, h2.symm⟩
        clear hbo hbo'
        generalize l[j] = y at *
        have j0 : wr.cell? ⟨b', o' + j * 3, none⟩ = some (.slice y.A y.t.pods.length y.c) := (hbr.cell (p := ⟨b', o' + j * 3, none⟩) hb).trans (he 0 _ rfl)
        have j1 : wr.cell? ⟨b', o' + j * 3 + 1, none⟩ = some (.int .i64 y.t.preempts) := (hbr.cell (p := ⟨b', o' + j * 3 + 1, none⟩) hb).trans (he 1 _ rfl)
        have j2 : wr.cell? ⟨b', o' + j * 3 + 2, none⟩ = some (.int .i64 y.t.shifts) := (hbr.cell (p := ⟨b', o' + j * 3 + 2, none⟩) hb).trans (he 2 _ rfl)
        have HCY : Hid (∀ V : World, ((∀ b o, b < wr.heap.size → V.cell? ⟨b, o, none⟩ = wr.cell? ⟨b, o, none⟩) ∧ Below wr.heap.size wr V) → Calls Try.prog 8 #[.agg #[.slice y.A y.t.pods.length y.c, .int .i64 y.t.preempts, .int .i64 y.t.shifts]] V fun e w' => e = .returned (.string (keyS y.t)) ∧ Below V.heap.size V w') := fun V hV =>
          rKey_any y.t y.A y.t.pods.length y.c V hx.1 rfl hx.2 (((hp.below hbr (Nat.le_refl _)).below hV.2 hz).more (Nat.le_trans hz hV.2.size))
        have hj0 : (0 : Int) ≤ (j : Int) := by omega
        have hj1 : (j : Int) < (n : Int) := by omega
        clear he hp hx
        cases hq : Op.bytesLess (keyS x.t).toList (keyS y.t).toList with
        | true =>
          have HH := Lib.hid (Best.here hbest (by rw [HK.out, HJ.out]; exact hq))
          clear hbest
          go_wp2
          go_region_held3 (fun w' => (∀ b o, b < wr.heap.size → w'.cell? ⟨b, o, none⟩ = wr.cell? ⟨b, o, none⟩) ∧ Below wr.heap.size wr w')
            (first | (with_reducible assumption) | (show Keeps wr _; with_reducible (repeat (first | exact Keeps.refl _ | assumption | refine Keeps.drew ?_ | refine Keeps.alloc ?_ _ | refine Keeps.step ?_ (by assumption)))))
            (first
              | (go_at_call 8; (with_reducible refine (HCX.out _ (by assumption)).mono ?_); rintro e w6 ⟨rfl, hb6⟩)
              | (go_at_call 8; (with_reducible refine (HCY.out _ (by assumption)).mono ?_); rintro e w7 ⟨rfl, hb7⟩))
          all_goals
            rename_i hK
            have kV := hK.2
            clear hK
            go_wp2
            go_roundw
            case rel => exact ⟨k + 1, by omega, by go_num, .inr ⟨k, by omega, rfl, HH.out⟩, hbr.trans (kV.mono hz)⟩
            case measure => simp [intOf]; omega
        | false =>
          have HH := Lib.hid (Best.there hbest (by rw [HK.out, HJ.out]; exact hq))
          clear hbest
          go_wp2
          go_region_held3 (fun w' => (∀ b o, b < wr.heap.size → w'.cell? ⟨b, o, none⟩ = wr.cell? ⟨b, o, none⟩) ∧ Below wr.heap.size wr w')
            (first | (with_reducible assumption) | (show Keeps wr _; with_reducible (repeat (first | exact Keeps.refl _ | assumption | refine Keeps.drew ?_ | refine Keeps.alloc ?_ _ | refine Keeps.step ?_ (by assumption)))))
            (first
              | (go_at_call 8; (with_reducible refine (HCX.out _ (by assumption)).mono ?_); rintro e w6 ⟨rfl, hb6⟩)
              | (go_at_call 8; (with_reducible refine (HCY.out _ (by assumption)).mono ?_); rintro e w7 ⟨rfl, hb7⟩))
          all_goals
            rename_i hK
            have kV := hK.2
            clear hK
            go_wp2
            go_roundw
            case rel => exact ⟨k + 1, by omega, by go_num, .inr ⟨j, by omega, rfl, HH.out⟩, hbr.trans (kV.mono hz)⟩
            case measure => simp [intOf]; omega
    · have hkn : k = l.length := by have := HN.out; omega
      have HKN := Lib.hid hkn
      rcases hs with ⟨h0, rfl⟩ | ⟨j, hjk, rfl, hbest⟩
      · have HBE : Hid (Best (keysL l) l.length (-1)) := .inl ⟨by omega, rfl⟩
        clear hkn
        go_wp2
        go_ret
        exact ⟨_, rfl, HBE.out, hbr⟩
      · have HBE := Lib.hid (hkn ▸ hbest)
        clear hkn hbest
        go_wp2
        go_ret
        exact ⟨_, rfl, HBE.out, hbr⟩
end Go.Proofs.Ytlankfklgckpbaa
