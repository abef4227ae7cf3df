/- Joined texts, part 2: DA RO FM MC UA UO UD M A L UF WM VecA. -/
import Derived.Test.YtabebhaclkhhpaaGreatDoorZ01
import Derived.Deep.QuietTactic
import Derived.BigQuiet
import Derived.Deep.RegionHeld3
import Derived.ChangeSame
import Derived.ChangeVars
import Derived.JoinedOf
import Derived.RowKit
import Derived.RowKitTokens
import Derived.Carry
import Derived.ChangeSlices
import Derived.KernelRfl
import Derived.Test.YtabebhaclkhhpaaGreatDoorRows
import Derived.WalkKit
import Derived.WalkSpells
import Derived.WalkLawsBesides
import Derived.Lib.Hide
import Derived.OwnWalk
import Derived.Laws.AppendOwnNone
import Derived.Laws.BytesArg
import Derived.Laws.BitsAllLaws
import Derived.Laws.Bits128
import Derived.Laws.Externs
import Derived.Shelf.Spec.BitsCarry

/- The program's small functions of layer 3: within, isCount, cmp.Compare, cmp.Or, spot, the Ids of records. -/
namespace Go.Proofs.YtabebhaclkhhpaaGreatDoor
set_option linter.unusedSimpArgs false
open Go.RowKit
set_option linter.unusedVariables false

def inB (n lo hi : Int) : Bool := decide (lo ≤ n ∧ n ≤ hi)
theorem within_any (n lo hi : Int) (w : World) : Calls Tryz.prog 15 #[.int .i64 n, .int .i64 lo, .int .i64 hi] w fun e w' => e = .returned (.bool (inB n lo hi)) ∧ w = w' := by
  by_cases h1 : lo ≤ n
  · have hd1 : decide (lo ≤ n) = true := decide_eq_true h1
    by_cases h2 : n ≤ hi
    · have HE := Lib.hid (show inB n lo hi = true by simp [inB, h1, h2])
      have hd : decide (n ≤ hi) = true := decide_eq_true h2
      go_enter Tryz.func15, Tryz.ntmps15
      go_wp2
      go_ret
      exact ⟨ret_bool HE.out.symm, rfl⟩
    · have HE := Lib.hid (show inB n lo hi = false by simp [inB]; omega)
      have hd : decide (n ≤ hi) = false := decide_eq_false h2
      go_enter Tryz.func15, Tryz.ntmps15
      go_wp2
      go_ret
      exact ⟨ret_bool HE.out.symm, rfl⟩
  · have HE := Lib.hid (show inB n lo hi = false by simp [inB]; omega)
    have hd : decide (lo ≤ n) = false := decide_eq_false h1
    go_enter Tryz.func15, Tryz.ntmps15
    go_wp2
    go_ret
    exact ⟨ret_bool HE.out.symm, rfl⟩
theorem isCount_any (n : Int) (w : World) : Calls Tryz.prog 57 #[.int .i64 n] w fun e w' => e = .returned (.bool (countOk n)) ∧ w = w' := by
  have HE := Lib.hid (show inB n 0 100 = countOk n from rfl)
  go_enter Tryz.func57, Tryz.ntmps57
  go_wp2_with fail
  refine (within_any _ _ _ _).mono ?_
  rintro e w' ⟨rfl, rfl⟩
  go_wp2
  go_ret
  exact ⟨ret_bool HE.out, rfl⟩
theorem isNaN_any (n : Int) (w : World) : Calls Tryz.prog 61 #[.int .i64 n] w fun e w' => e = .returned (.bool false) ∧ w = w' := by
  have hd : (n != n) = false := by simp
  go_enter Tryz.func61, Tryz.ntmps61
  go_wp2
  go_ret
  exact ⟨rfl, rfl⟩
def cmpI (a b : Int) : Int := if a < b then -1 else if b < a then 1 else 0
theorem compare_any (a b : Int) (w : World) : Calls Tryz.prog 40 #[.int .i64 a, .int .i64 b] w fun e w' => e = .returned (.int .i64 (cmpI a b)) ∧ w = w' := by
  by_cases h1 : a < b
  · have HE := Lib.hid (show cmpI a b = -1 by simp [cmpI, h1])
    go_enter Tryz.func40, Tryz.ntmps40
    go_wp2_with (go_at_call 61; refine (isNaN_any _ _).mono ?_; rintro e w' ⟨rfl, rfl⟩)
    go_ret
    exact ⟨ret_int HE.out.symm, rfl⟩
  · by_cases h2 : b < a
    · have HE := Lib.hid (show cmpI a b = 1 by simp [cmpI, h1, h2])
      go_enter Tryz.func40, Tryz.ntmps40
      go_wp2_with (go_at_call 61; refine (isNaN_any _ _).mono ?_; rintro e w' ⟨rfl, rfl⟩)
      go_ret
      exact ⟨ret_int HE.out.symm, rfl⟩
    · have HE := Lib.hid (show cmpI a b = 0 by simp [cmpI, h1, h2])
      go_enter Tryz.func40, Tryz.ntmps40
      go_wp2_with (go_at_call 61; refine (isNaN_any _ _).mono ?_; rintro e w' ⟨rfl, rfl⟩)
      go_ret
      exact ⟨ret_int HE.out.symm, rfl⟩
def orI (a b : Int) : Int := if a = 0 then b else a
theorem or_any (a b : Int) (g : Nat) (w : World) (h0 : w.cell? ⟨g, 0, none⟩ = some (.int .i64 a)) (h1 : w.cell? ⟨g, 1, none⟩ = some (.int .i64 b)) :
    Calls Tryz.prog 16 #[.slice (some ⟨g, 0, none⟩) 2 2] w fun e w' => e = .returned (.int .i64 (orI a b)) ∧ w = w' := by
  by_cases ha : a = 0
  · subst ha
    by_cases hb : b = 0
    · subst hb
      go_enter Tryz.func16, Tryz.ntmps16
      go_wp2
      refine wp_loop_rounds 3 ?_
      rw [rounds_succ]
      go_wp2
      rw [rounds_succ]
      go_wp2
      rw [rounds_succ]
      go_wp2
      go_ret
      exact ⟨rfl, rfl⟩
    · have hm : (b != 0) = true := by simpa using hb
      have HE := Lib.hid (show orI 0 b = b from rfl)
      clear hb
      go_enter Tryz.func16, Tryz.ntmps16
      go_wp2
      refine wp_loop_rounds 3 ?_
      rw [rounds_succ]
      go_wp2
      rw [rounds_succ]
      go_wp2
      go_ret
      exact ⟨ret_int HE.out.symm, rfl⟩
  · have hm : (a != 0) = true := by simpa using ha
    have HE := Lib.hid (show orI a b = a by simp [orI, ha])
    clear ha
    go_enter Tryz.func16, Tryz.ntmps16
    go_wp2
    refine wp_loop_rounds 3 ?_
    rw [rounds_succ]
    go_wp2
    go_ret
    exact ⟨ret_int HE.out.symm, rfl⟩
theorem spot_any (p c : Int) (w : World) : Calls Tryz.prog 20 #[.int .i64 p, .int .i64 c] w fun e w' => e = .returned (.iface 92 (.pointer (some ⟨w.heap.size, 0, none⟩))) ∧ w' = w.alloc (.cells #[.int .i64 p, .int .i64 c] 94) := by
  go_enter Tryz.func20, Tryz.ntmps20
  go_wp2
  go_ret
  exact ⟨rfl, rfl⟩

abbrev aggN (x : NodeD) : Value := .agg #[.int .i64 x.id, .int .i64 x.zone, .int .u64 x.cap.a, .int .u64 x.cap.b, .int .u64 x.cap.c, .int .u64 x.cap.d, .int .u64 x.held.a, .int .u64 x.held.b, .int .u64 x.held.c, .int .u64 x.held.d]
theorem idN_any (x : NodeD) (w : World) : Calls Tryz.prog 31 #[aggN x] w fun e w' => e = .returned (.int .i64 x.id) ∧ Below w.heap.size w w' := by
  go_enter Tryz.func31, Tryz.ntmps31
  go_wp2
  go_ret
  exact ⟨rfl, (Below.refl _ _).alloc (Nat.le_refl _) _⟩

abbrev aggL (x : LoadD) : Value := .agg #[.int .i64 x.id, .bool x.apart, .int .i64 x.skew, .int .i64 x.min, .int .i64 x.max]
theorem idL_any (x : LoadD) (w : World) : Calls Tryz.prog 34 #[aggL x] w fun e w' => e = .returned (.int .i64 x.id) ∧ Below w.heap.size w w' := by
  go_enter Tryz.func34, Tryz.ntmps34
  go_wp2
  go_ret
  exact ⟨rfl, (Below.refl _ _).alloc (Nat.le_refl _) _⟩

abbrev aggP (x : PodD) : Value := .agg #[.int .i64 x.id, .int .i64 x.load, .int .i64 x.prio, .int .u64 x.req.a, .int .u64 x.req.b, .int .u64 x.req.c, .int .u64 x.req.d, .int .i64 x.node]
theorem idP_any (x : PodD) (w : World) : Calls Tryz.prog 37 #[aggP x] w fun e w' => e = .returned (.int .i64 x.id) ∧ Below w.heap.size w w' := by
  go_enter Tryz.func37, Tryz.ntmps37
  go_wp2
  go_ret
  exact ⟨rfl, (Below.refl _ _).alloc (Nat.le_refl _) _⟩

abbrev aggW (x : WantD) : Value := .agg #[.int .i64 x.pod, .int .u64 x.req.a, .int .u64 x.req.b, .int .u64 x.req.c, .int .u64 x.req.d, .bool x.stay]
theorem idW_any (x : WantD) (w : World) : Calls Tryz.prog 18 #[aggW x] w fun e w' => e = .returned (.int .i64 x.pod) ∧ Below w.heap.size w w' := by
  go_enter Tryz.func18, Tryz.ntmps18
  go_wp2
  go_ret
  exact ⟨rfl, (Below.refl _ _).alloc (Nat.le_refl _) _⟩

theorem fits_below (w : World) (o o' : Obj) (n : Nat) : Below w.heap.size w (((w.alloc o).alloc o').drewN n) := let k := below_two w o o'; ⟨k.os, k.tape, k.output, k.size, k.block⟩
theorem fits_below2 (w : World) (o o' : Obj) (n m : Nat) : Below w.heap.size w ((((w.alloc o).alloc o').drewN n).drewN m) := let k := fits_below w o o' n; ⟨k.os, k.tape, k.output, k.size, k.block⟩
set_option maxHeartbeats 1600000 in
/-- vec.Fits. -/
theorem fits_any (x y : V4) (w : World) : Calls Tryz.prog 55 #[aggV x, aggV y] w fun e w' => e = .returned (.bool (x.le y)) ∧ Below w.heap.size w w' := by

  by_cases h0 : x.a ≤ y.a
  · have d0 : decide (y.a < x.a) = false := decide_eq_false (by omega)
    by_cases h1 : x.b ≤ y.b
    · have d1 : decide (y.b < x.b) = false := decide_eq_false (by omega)
      by_cases h2 : x.c ≤ y.c
      · have d2 : decide (y.c < x.c) = false := decide_eq_false (by omega)
        by_cases h3 : x.d ≤ y.d
        · have d3 : decide (y.d < x.d) = false := decide_eq_false (by omega)
          have HE := Lib.hid (show x.le y = true by simp [V4.le, h0, h1, h2, h3])
          go_enter Tryz.func55, Tryz.ntmps55
          go_wp2
          refine wp_loop_rounds 5 ?_
          rw [rounds_succ]
          go_wp2
          go_quiet (fail)
          go_wp2
          rw [rounds_succ]
          go_wp2
          go_quiet (fail)
          go_wp2
          rw [rounds_succ]
          go_wp2
          go_quiet (fail)
          go_wp2
          rw [rounds_succ]
          go_wp2
          go_quiet (fail)
          go_wp2
          rw [rounds_succ]
          go_wp2
          go_ret
          refine ⟨ret_bool HE.out.symm, ?_⟩
          first | exact fits_below _ _ _ _ | exact fits_below2 _ _ _ _ _
        · have d3 : decide (y.d < x.d) = true := decide_eq_true (by omega)
          have HE := Lib.hid (show x.le y = false by simp [V4.le, h3])
          go_enter Tryz.func55, Tryz.ntmps55
          go_wp2
          refine wp_loop_rounds 5 ?_
          rw [rounds_succ]
          go_wp2
          go_quiet (fail)
          go_wp2
          rw [rounds_succ]
          go_wp2
          go_quiet (fail)
          go_wp2
          rw [rounds_succ]
          go_wp2
          go_quiet (fail)
          go_wp2
          rw [rounds_succ]
          go_wp2
          go_quiet (fail)
          go_wp2
          go_ret
          refine ⟨ret_bool HE.out.symm, ?_⟩
          first | exact fits_below _ _ _ _ | exact fits_below2 _ _ _ _ _
      · have d2 : decide (y.c < x.c) = true := decide_eq_true (by omega)
        have HE := Lib.hid (show x.le y = false by simp [V4.le, h2])
        go_enter Tryz.func55, Tryz.ntmps55
        go_wp2
        refine wp_loop_rounds 5 ?_
        rw [rounds_succ]
        go_wp2
        go_quiet (fail)
        go_wp2
        rw [rounds_succ]
        go_wp2
        go_quiet (fail)
        go_wp2
        rw [rounds_succ]
        go_wp2
        go_quiet (fail)
        go_wp2
        go_ret
        refine ⟨ret_bool HE.out.symm, ?_⟩
        first | exact fits_below _ _ _ _ | exact fits_below2 _ _ _ _ _
    · have d1 : decide (y.b < x.b) = true := decide_eq_true (by omega)
      have HE := Lib.hid (show x.le y = false by simp [V4.le, h1])
      go_enter Tryz.func55, Tryz.ntmps55
      go_wp2
      refine wp_loop_rounds 5 ?_
      rw [rounds_succ]
      go_wp2
      go_quiet (fail)
      go_wp2
      rw [rounds_succ]
      go_wp2
      go_quiet (fail)
      go_wp2
      go_ret
      refine ⟨ret_bool HE.out.symm, ?_⟩
      first | exact fits_below _ _ _ _ | exact fits_below2 _ _ _ _ _
  · have d0 : decide (y.a < x.a) = true := decide_eq_true (by omega)
    have HE := Lib.hid (show x.le y = false by simp [V4.le, h0])
    go_enter Tryz.func55, Tryz.ntmps55
    go_wp2
    refine wp_loop_rounds 5 ?_
    rw [rounds_succ]
    go_wp2
    go_quiet (fail)
    go_wp2
    go_ret
    refine ⟨ret_bool HE.out.symm, ?_⟩
    first | exact fits_below _ _ _ _ | exact fits_below2 _ _ _ _ _

end Go.Proofs.YtabebhaclkhhpaaGreatDoor

/- Records in a row of the call's own read as these records. -/
namespace Go.Proofs.YtabebhaclkhhpaaGreatDoor
set_option linter.unusedSimpArgs false
open Go.RowKit
set_option linter.unusedVariables false

theorem flatMap_get {α : Type} {size : Nat} {cells : α → List Value} (hc : ∀ x, (cells x).length = size) : ∀ {xs : List α} {i j : Nat} (hi : i < xs.length), j < size → (xs.flatMap cells)[i * size + j]? = (cells xs[i])[j]?
  | [], i, j, hi, _ => by simp at hi
  | x :: r, 0, j, _, hj => by
    rw [List.flatMap_cons, Nat.zero_mul, Nat.zero_add, List.getElem?_append_left (by rw [hc]; exact hj)]; rfl
  | x :: r, i + 1, j, hi, hj => by
    rw [List.flatMap_cons, List.getElem?_append_right (by rw [hc, Nat.add_one_mul]; omega), hc]
    have e : (i + 1) * size + j - size = i * size + j := by rw [Nat.add_one_mul]; omega
    rw [e, flatMap_get hc (xs := r) (by simpa using hi) hj]; rfl
theorem recs_of_own {α : Type} {size : Nat} {cells : α → List Value} (hc : ∀ x, (cells x).length = size) {w : World} {B n : Nat} {e : TypeId} {v : Value} {xs : List α} (hn : n = xs.length) (h : w.ownsRow B e size v n (xs.flatMap cells)) :
    ∃ A c, v = .slice A n c ∧ n ≤ c ∧ c ≤ maxLen ∧ (A = none → c = 0) ∧ Recs size cells w w.heap.size A xs := by
  subst hn
  have hcs := fun g hg => h.cells (g := g) hg
  rcases h.2 with ⟨hv, h0⟩ | ⟨g, cap, cur, hv, hb, hg, hnc, hm, _⟩
  · exact ⟨none, 0, by rw [hv, h0], by omega, by decide, fun _ => rfl, .inl (List.eq_nil_of_length_eq_zero h0)⟩
  · refine ⟨_, cap, hv, hnc, hm, (by intro h; cases h), .inr ⟨g, 0, rfl, (Array.getElem?_eq_some_iff.1 hg).1, fun i hi j u hu => ?_⟩⟩
    have hj : j < size := by have := (List.getElem?_eq_some_iff.1 hu).1; rw [hc] at this; exact this
    have := hcs g (by rw [hv]; rfl) (i * size + j) u (by rw [flatMap_get hc hi hj]; exact hu)
    rw [Addr.add_lit] at this
    simpa using this
/-- Records as they are told: a slice that reads as these. -/
def Out {α : Type} (size : Nat) (cells : α → List Value) (w : World) (xs : List α) (A : Option Addr) (c : Nat) : Prop := xs.length ≤ c ∧ c ≤ maxLen ∧ (A = none → c = 0) ∧ Recs size cells w w.heap.size A xs
theorem Out.nil {α : Type} {size : Nat} {cells : α → List Value} {w : World} {xs : List α} (h : xs = []) : Out size cells w xs none 0 := ⟨by rw [h]; exact Nat.le_refl _, by decide, fun _ => rfl, .inl h⟩
theorem out_of_own {α : Type} {size : Nat} {cells : α → List Value} (hc : ∀ x, (cells x).length = size) {w : World} {B n c : Nat} {e : TypeId} {A : Option Addr} {xs : List α} (hn : n = xs.length) (h : w.ownsRow B e size (.slice A n c) n (xs.flatMap cells)) : Out size cells w xs A c := by
  obtain ⟨A', c', e1, p1, p2, p3, p4⟩ := recs_of_own hc hn h
  injection e1 with e1 _ e2
  subst e1 e2 hn
  exact ⟨p1, p2, p3, p4⟩
theorem Out.recs {α : Type} {size : Nat} {cells : α → List Value} {w : World} {xs : List α} {A : Option Addr} {c : Nat} (h : Out size cells w xs A c) : Recs size cells w w.heap.size A xs := h.2.2.2
end Go.Proofs.YtabebhaclkhhpaaGreatDoor

/- Plain mathematics of layer 4: records as numbers, one behind the other, and back; no program stands in it. -/
namespace Go.Proofs.YtabebhaclkhhpaaGreatDoor
set_option linter.unusedSimpArgs false

structure MoveD where
  kind : Int
  pod : Int
  node : Int
  over : Int

/-- A kind of record: how many numbers it has, what they are, and back; which numbers may be one's. -/
structure Kind (α : Type) where
  size : Nat
  nums : α → List Int
  get : List Int → α
  ok : List Int → Bool
  len : ∀ x, (nums x).length = size
  back : ∀ x, get (nums x) = x
  once : ∀ c, c.length = size → ok c = true → nums (get c) = c

section
variable {α : Type} (K : Kind α)
end

end Go.Proofs.YtabebhaclkhhpaaGreatDoor

/- The cells of a move. -/
namespace Go.Proofs.YtabebhaclkhhpaaGreatDoor
set_option linter.unusedSimpArgs false

abbrev aggM (x : MoveD) : Value := .agg #[.int .i64 x.kind, .int .i64 x.pod, .int .i64 x.node, .int .i64 x.over]
def cellsM (x : MoveD) : List Value := [.int .i64 x.kind, .int .i64 x.pod, .int .i64 x.node, .int .i64 x.over]
end Go.Proofs.YtabebhaclkhhpaaGreatDoor

/- Plain mathematics of states; '!=' of any two pods. -/
namespace Go.Proofs.YtabebhaclkhhpaaGreatDoor
set_option linter.unusedSimpArgs false
open Go.RowKit
set_option linter.unusedVariables false

structure StateD where
  pods : List PodD
  preempts : Int
  shifts : Int
def vecEq (x y : V4) : Bool := x.a == y.a && (x.b == y.b && (x.c == y.c && x.d == y.d))
def podEq (x y : PodD) : Bool := x.id == y.id && (x.load == y.load && (x.prio == y.prio && (vecEq x.req y.req && x.node == y.node)))
theorem vecEq_self (x : V4) : vecEq x x = true := by simp [vecEq]
theorem podEq_self (x : PodD) : podEq x x = true := by simp [podEq, vecEq_self]
theorem vecEq_iff {x y : V4} : vecEq x y = true ↔ x = y := by
  cases x; cases y; simp [vecEq]
theorem podEq_iff {x y : PodD} : podEq x y = true ↔ x = y := by
  cases x; cases y; simp [podEq, vecEq_iff]
/-- Are two lists of pods alike? -/
def podsEq : List PodD → List PodD → Bool
  | [], [] => true
  | x :: r, y :: s => podEq x y && podsEq r s
  | _, _ => false
theorem podsEq_self : ∀ l : List PodD, podsEq l l = true
  | [] => rfl
  | x :: r => by simp [podsEq, podEq_self, podsEq_self r]
theorem podsEq_iff : ∀ {l m : List PodD}, podsEq l m = true ↔ l = m
  | [], [] => by simp [podsEq]
  | [], _ :: _ => by simp [podsEq]
  | _ :: _, [] => by simp [podsEq]
  | x :: r, y :: s => by simp [podsEq, podEq_iff, podsEq_iff (l := r) (m := s)]
theorem podsEq_len : ∀ {l m : List PodD}, l.length ≠ m.length → podsEq l m = false := fun {l m} h => by
  cases e : podsEq l m with
  | false => rfl
  | true => exact absurd (congrArg List.length (podsEq_iff.1 e)) h
def stateEq (t u : StateD) : Bool := podsEq t.pods u.pods && (t.preempts == u.preempts && t.shifts == u.shifts)
theorem stateEq_self (t : StateD) : stateEq t t = true := by simp [stateEq, podsEq_self]
theorem podsEq_at {l m : List PodD} {k : Nat} {b : Bool} (h : k < l.length) (h' : k < m.length) {x y : PodD} (hx : l[k] = x) (hy : m[k] = y) (hp : podsEq (l.drop k) (m.drop k) = b) :
    (podEq x y = false → b = false) ∧ (podEq x y = true → podsEq (l.drop (k + 1)) (m.drop (k + 1)) = b) := by
  rw [List.drop_eq_getElem_cons h, List.drop_eq_getElem_cons h', hx, hy, podsEq] at hp
  constructor
  · intro e; rw [e] at hp; exact hp.symm
  · intro e; rw [e, Bool.true_and] at hp; exact hp
theorem podsEq_end {l m : List PodD} {k : Nat} {b : Bool} (h : l.length ≤ k) (h' : m.length ≤ k) (hp : podsEq (l.drop k) (m.drop k) = b) : b = true := by
  rw [List.drop_of_length_le h, List.drop_of_length_le h'] at hp
  exact hp.symm
/-- The first pod of an Id. -/
def podAt (id : Int) : List PodD → Option PodD
  | [] => none
  | x :: r => if x.id = id then some x else podAt id r
theorem podAt_none {id : Int} : ∀ {l : List PodD} {k : Int}, 0 ≤ k → (podAt id l = none ↔ place PodD.id id l k < 0)
  | [], k, _ => by simp [podAt, place]
  | x :: r, k, hk => by
    by_cases h : x.id = id
    · simp [podAt, place, h]; omega
    · simp only [podAt, place, if_neg h]; exact podAt_none (by omega)
theorem place_or {α : Type} {f : α → Int} {id : Int} : ∀ (r : List α) (k : Int), 0 ≤ k → place f id r k < 0 ∨ k ≤ place f id r k
  | [], _, _ => by simp [place]
  | x :: r, k, hk => by
    simp only [place]
    split
    · right; omega
    · rcases place_or r (k + 1) (by omega) with h | h
      · exact .inl h
      · exact .inr (by omega)
theorem podAt_some {id : Int} : ∀ {l : List PodD} {k : Int} {i : Nat} (hi : i < l.length), place PodD.id id l k = k + i → 0 ≤ k → podAt id l = some l[i]
  | [], _, _, hi, _, _ => by simp at hi
  | x :: r, k, i, hi, h, hk => by
    by_cases hx : x.id = id
    · simp only [place, if_pos hx] at h
      obtain rfl : i = 0 := by omega
      simp [podAt, hx]
    · simp only [place, if_neg hx] at h
      cases i with
      | zero =>
        have := (place_neg (f := PodD.id) (id := id) (l := r) (k := k + 1) (by omega))
        have h2 := place_ge (f := PodD.id) (id := id) (l := r) (k := k + 1) (by omega)
        have h3 : place PodD.id id r (k + 1) < 0 ∨ k + 1 ≤ place PodD.id id r (k + 1) := place_or r (k + 1) (by omega)
        omega
      | succ i =>
        simp only [podAt, if_neg hx, List.getElem_cons_succ]
        exact podAt_some (by simpa using hi) (by rw [h]; omega) (by omega)
theorem eqFields_cons {d : Nat} {xs ys : Array Value} {f : Field} {fs : List Field} {a b : Value} {c : Bool} {w : World} (hn : f.name ≠ "_") (ha : (part f.type xs f.offset).run Tryz.prog w = .ok a w) (hb : (part f.type ys f.offset).run Tryz.prog w = .ok b w) (he : (Op.equalIn d f.type a b).run Tryz.prog w = .ok c w) {r : Bool} (hr : (Op.eqFields d xs ys fs).run Tryz.prog w = .ok r w) :
    (Op.eqFields d xs ys (f :: fs)).run Tryz.prog w = .ok (c && r) w := by
  cases c <;> simp [Op.eqFields, hn, ha, hb, he, hr]
theorem int_eqIn2 (d : Nat) (a b : Int) (w : World) : (Op.equalIn (d + 1) 3 (.int .i64 a) (.int .i64 b)).run Tryz.prog w = .ok (a == b) w := by
  simp [Op.equalIn, run_underlying Tryz.underlying3]
set_option maxRecDepth 100000 in
theorem pod_eqIn (x y : PodD) (w : World) : (Op.equalIn 10000 41 (aggP x) (aggP y)).run Tryz.prog w = .ok (podEq x y) w := by
  have hf : (Tryz.prog.fieldsOf 41).toList = [(⟨"Id", 3, 0, false, "", "", 0⟩ : Field), (⟨"Load", 3, 1, false, "", "", 8⟩ : Field), (⟨"Prio", 3, 2, false, "", "", 16⟩ : Field), (⟨"Req", 39, 3, false, "", "", 24⟩ : Field), (⟨"Node", 3, 7, false, "", "", 56⟩ : Field)] := by kernel_rfl
  rw [run_equalIn_struct w 9999 41 _ _ (by kernel_rfl) (by kernel_rfl), hf]
  clear hf
  refine (eqFields_cons (a := .int .i64 x.id) (b := .int .i64 y.id) (by decide) (part_int _ 0 _ rfl w) (part_int _ 0 _ rfl w) (int_eqIn2 9998 _ _ w) ?_).trans rfl
  refine (eqFields_cons (a := .int .i64 x.load) (b := .int .i64 y.load) (by decide) (part_int _ 1 _ rfl w) (part_int _ 1 _ rfl w) (int_eqIn2 9998 _ _ w) ?_)
  refine (eqFields_cons (a := .int .i64 x.prio) (b := .int .i64 y.prio) (by decide) (part_int _ 2 _ rfl w) (part_int _ 2 _ rfl w) (int_eqIn2 9998 _ _ w) ?_)
  refine (eqFields_cons (a := .agg #[.int .u64 x.req.a, .int .u64 x.req.b, .int .u64 x.req.c, .int .u64 x.req.d]) (b := .agg #[.int .u64 y.req.a, .int .u64 y.req.b, .int .u64 y.req.c, .int .u64 y.req.d]) (by decide) (part_vec _ 3 _ _ _ _ rfl w) (part_vec _ 3 _ _ _ _ rfl w) (vec_eqlIn 9997 _ _ _ _ _ _ _ _ w) ?_)
  refine (eqFields_cons (a := .int .i64 x.node) (b := .int .i64 y.node) (r := true) (by decide) (part_int _ 7 _ rfl w) (part_int _ 7 _ rfl w) (int_eqIn2 9998 _ _ w) ?_).trans (by rw [Bool.and_true])
  simp [Op.eqFields]
set_option maxRecDepth 100000 in
theorem pod_neq (x y : PodD) (w : World) : (binOp .neq 41 (aggP x) (aggP y)).run Tryz.prog w = .ok (.bool (!podEq x y)) w := by
  rw [run_neq_struct, pod_eqIn]
  rfl
end Go.Proofs.YtabebhaclkhhpaaGreatDoor

/- How a state is read as data; five arguments. -/
namespace Go.Proofs.YtabebhaclkhhpaaGreatDoor
set_option linter.unusedSimpArgs false
open Go.ChangeShapes Go.WideShapes Go.ChangeAt Go.RowKit

theorem Tryz.cellsT : Tryz.prog.cellsOf 31 = 3 := by kernel_rfl
section
variable {H : Type} {enc : TypeId × Value → H} {w : World} {base : Nat} {sp : Nat → Bool} {held : Bool}
set_option maxRecDepth 100000 in
/-- A state by value. -/
theorem open_state {r : Reach} {b0 : Nat} {v : Value} {d : DataW H} {ps : List MemPlace} (hval : Value.okWide Tryz.prog w r b0 31 v) (h : DataW.Trod enc Tryz.prog w base sp held 31 v d ps) :
    ∃ (t : StateD) (A : Option Addr) (c : Nat), v = .agg #[.slice A t.pods.length c, .int .i64 t.preempts, .int .i64 t.shifts] ∧ I64 t.preempts ∧ I64 t.shifts ∧
      (t.pods.length ≤ c ∧ c ≤ maxLen ∧ (A = none → c = 0) ∧ Recs 8 cellsP w w.heap.size A t.pods ∧ ∀ a ∈ t.pods, a.Ok) := by
  obtain ⟨v0, v1, v2, y0, y1, y2, n, rfl, _, _, h0, h1, h2⟩ := Go.Joins.open_agg3 Tryz.underlying31 (by kernel_rfl) Tryz.cellsT hval h
  obtain ⟨A, c, l, rfl, p⟩ := open_recs (Ok := PodD.Ok) Tryz.underlying24 Tryz.cellsP (by decide) (fun _ _ _ hl h => pod_of hl h) h0
  obtain ⟨k1, rfl, i1⟩ := int_of rfl h1
  obtain ⟨k2, rfl, i2⟩ := int_of rfl h2
  exact ⟨⟨l, k1, k2⟩, A, c, rfl, i1, i2, p⟩
end
section
variable {H : Type} {enc : TypeId × Value → H} {P : Program} {w : World} {base : Nat} {spare : Nat → Bool} {held : Bool}
end
end Go.Proofs.YtabebhaclkhhpaaGreatDoor

/- Are two states alike? The program's and the reference's Same of layer 5. -/
namespace Go.Proofs.YtabebhaclkhhpaaGreatDoor
set_option linter.unusedSimpArgs false
open Go.RowKit
set_option linter.unusedVariables false

def PodsEqRel (l m : List PodD) (W : World) (B : Nat) (i : Value) (wr : World) : Prop := ∃ k : Nat, k ≤ l.length ∧ i = .int .i64 k ∧ podsEq (l.drop k) (m.drop k) = podsEq l m ∧ Below B W wr
abbrev stateV (A : Option Addr) (n c : Nat) (p s : Int) : Value := .agg #[.slice A n c, .int .i64 p, .int .i64 s]
set_option maxHeartbeats 3200000 in
set_option maxRecDepth 100000 in
/-- dunnageref05.Same. -/
theorem rSame05_any (t u : StateD) (A A' : Option Addr) (n c n' c' : Nat) (w : World) (hn : n = t.pods.length) (hl : n ≤ 1000) (hn' : n' = u.pods.length) (hl' : n' ≤ 1000) (hr : Recs 8 cellsP w w.heap.size A t.pods) (hr' : Recs 8 cellsP w w.heap.size A' u.pods) :
    Calls Tryz.prog 10 #[stateV A n c t.preempts t.shifts, stateV A' n' c' u.preempts u.shifts] w fun e w' => e = .returned (.bool (stateEq t u)) ∧ Below w.heap.size w w' := by
  have b00 := below_two w (.cells #[.slice A n c, .int .i64 t.preempts, .int .i64 t.shifts] 31) (.cells #[.slice A' n' c', .int .i64 u.preempts, .int .i64 u.shifts] 31)
  by_cases hnn : n = n'
  · subst hnn
    cases hp : t.preempts == u.preempts with
    | false =>
      have HE := Lib.hid (show stateEq t u = false by unfold stateEq; rw [hp]; simp)
      have hd : (t.preempts != u.preempts) = true := by simpa using hp
      go_enter Tryz.func10, Tryz.ntmps10
      go_wp2
      go_ret
      exact ⟨ret_bool HE.out.symm, below_two _ _ _⟩
    | true =>
      have hd : (t.preempts != u.preempts) = false := by simpa using hp
      cases hs : t.shifts == u.shifts with
      | false =>
        have HE := Lib.hid (show stateEq t u = false by unfold stateEq; rw [hs]; simp)
        have hd' : (t.shifts != u.shifts) = true := by simpa using hs
        clear hp hs
        go_enter Tryz.func10, Tryz.ntmps10
        go_wp2
        go_ret
        exact ⟨ret_bool HE.out.symm, below_two _ _ _⟩
      | true =>
        have hd' : (t.shifts != u.shifts) = false := by simpa using hs
        have HS := Lib.hid (show stateEq t u = podsEq t.pods u.pods by unfold stateEq; rw [hp, hs]; simp)
        clear hp hs
        have HR := Lib.hid hr
        have HR' := Lib.hid hr'
        have HN := Lib.hid hn
        have HM := Lib.hid hn'
        clear hr hr' hn hn'
        generalize t.pods = l at *
        generalize u.pods = m at *
        go_enter Tryz.func10, Tryz.ntmps10
        go_wp2
        go_loopw [5] (PodsEqRel l m ((w.alloc (.cells #[.slice A n c, .int .i64 t.preempts, .int .i64 t.shifts] 31)).alloc (.cells #[.slice A' n c', .int .i64 u.preempts, .int .i64 u.shifts] 31)) (w.heap.size + 2)) (fun i _ => n - (intOf i).toNat)
        case atStart => exact ⟨0, by omega, rfl, rfl, Below.refl _ _⟩
        case round =>
          obtain ⟨k, hk, rfl, hp, hbr⟩ := hrel
          have HP := Lib.hid hp
          have kwr := b00.trans (hbr.mono (by omega))
          have hzr : w.heap.size + 2 ≤ wr.heap.size := by have := hbr.size; simpa using this
          obtain ⟨⟨b0, b1, b2⟩, b3, b4, b5⟩ := box2_cells hbr
          have hwl : w.heap.size < wr.heap.size := by omega
          have hwl1 : w.heap.size + 1 < wr.heap.size := by omega
          clear hp
          by_cases hlt : k < n
          · have hkl : k < l.length := by have := HN.out; omega
            have hkm : k < m.length := by have := HM.out; omega
            obtain ⟨b, o, rfl, hb, he⟩ := HR.out.at hkl
            obtain ⟨b', o', rfl, hb', he'⟩ := HR'.out.at hkm
            have HA := Lib.hid (podsEq_at hkl hkm rfl rfl HP.out)
            generalize l[k] = x at *
            generalize m[k] = y at *
            have e0 : wr.cell? ⟨b, o + k * 8, none⟩ = some (.int .i64 x.id) := (kwr.cell (p := ⟨b, o + k * 8, none⟩) hb).trans (he 0 _ rfl)
            have e1 : wr.cell? ⟨b, o + k * 8 + 1, none⟩ = some (.int .i64 x.load) := (kwr.cell (p := ⟨b, o + k * 8 + 1, none⟩) hb).trans (he 1 _ rfl)
            have e2 : wr.cell? ⟨b, o + k * 8 + 2, none⟩ = some (.int .i64 x.prio) := (kwr.cell (p := ⟨b, o + k * 8 + 2, none⟩) hb).trans (he 2 _ rfl)
            have e3 : wr.cell? ⟨b, o + k * 8 + 3, none⟩ = some (.int .u64 x.req.a) := (kwr.cell (p := ⟨b, o + k * 8 + 3, none⟩) hb).trans (he 3 _ rfl)
            have e4 : wr.cell? ⟨b, o + k * 8 + 4, none⟩ = some (.int .u64 x.req.b) := (kwr.cell (p := ⟨b, o + k * 8 + 4, none⟩) hb).trans (he 4 _ rfl)
            have e5 : wr.cell? ⟨b, o + k * 8 + 5, none⟩ = some (.int .u64 x.req.c) := (kwr.cell (p := ⟨b, o + k * 8 + 5, none⟩) hb).trans (he 5 _ rfl)
            have e6 : wr.cell? ⟨b, o + k * 8 + 6, none⟩ = some (.int .u64 x.req.d) := (kwr.cell (p := ⟨b, o + k * 8 + 6, none⟩) hb).trans (he 6 _ rfl)
            have e7 : wr.cell? ⟨b, o + k * 8 + 7, none⟩ = some (.int .i64 x.node) := (kwr.cell (p := ⟨b, o + k * 8 + 7, none⟩) hb).trans (he 7 _ rfl)
            have g0 : wr.cell? ⟨b', o' + k * 8, none⟩ = some (.int .i64 y.id) := (kwr.cell (p := ⟨b', o' + k * 8, none⟩) hb').trans (he' 0 _ rfl)
            have g1 : wr.cell? ⟨b', o' + k * 8 + 1, none⟩ = some (.int .i64 y.load) := (kwr.cell (p := ⟨b', o' + k * 8 + 1, none⟩) hb').trans (he' 1 _ rfl)
            have g2 : wr.cell? ⟨b', o' + k * 8 + 2, none⟩ = some (.int .i64 y.prio) := (kwr.cell (p := ⟨b', o' + k * 8 + 2, none⟩) hb').trans (he' 2 _ rfl)
            have g3 : wr.cell? ⟨b', o' + k * 8 + 3, none⟩ = some (.int .u64 y.req.a) := (kwr.cell (p := ⟨b', o' + k * 8 + 3, none⟩) hb').trans (he' 3 _ rfl)
            have g4 : wr.cell? ⟨b', o' + k * 8 + 4, none⟩ = some (.int .u64 y.req.b) := (kwr.cell (p := ⟨b', o' + k * 8 + 4, none⟩) hb').trans (he' 4 _ rfl)
            have g5 : wr.cell? ⟨b', o' + k * 8 + 5, none⟩ = some (.int .u64 y.req.c) := (kwr.cell (p := ⟨b', o' + k * 8 + 5, none⟩) hb').trans (he' 5 _ rfl)
            have g6 : wr.cell? ⟨b', o' + k * 8 + 6, none⟩ = some (.int .u64 y.req.d) := (kwr.cell (p := ⟨b', o' + k * 8 + 6, none⟩) hb').trans (he' 6 _ rfl)
            have g7 : wr.cell? ⟨b', o' + k * 8 + 7, none⟩ = some (.int .i64 y.node) := (kwr.cell (p := ⟨b', o' + k * 8 + 7, none⟩) hb').trans (he' 7 _ rfl)
            clear he he'
            have hk0 : (0 : Int) ≤ (k : Int) := by omega
            have hk1 : (k : Int) < (n : Int) := by omega
            have hbw : b < wr.heap.size := by omega
            have hbw' : b' < wr.heap.size := by omega
            cases hq : podEq x y with
            | false =>
              have hns : ∀ v, (binOp .neq 41 (aggP x) (aggP y)).run Tryz.prog v = .ok (.bool true) v := fun v => by rw [pod_neq, hq]; rfl
              have HE := Lib.hid (HA.out.1 hq)
              clear hq
              go_wp2
              go_quiet (fail)
              go_wp2
              go_ret
              exact ⟨ret_bool (HS.out.trans HE.out).symm, below_draws kwr _⟩
            | true =>
              have hns : ∀ v, (binOp .neq 41 (aggP x) (aggP y)).run Tryz.prog v = .ok (.bool false) v := fun v => by rw [pod_neq, hq]; rfl
              have HE := Lib.hid (HA.out.2 hq)
              clear hq
              go_wp2
              go_quiet (fail)
              go_wp2
              go_roundw
              case rel => exact ⟨k + 1, by omega, by go_num, HE.out, below_draws hbr _⟩
              case measure => simp [intOf]; omega
          · have HE := Lib.hid (podsEq_end (by have := HN.out; omega) (by have := HM.out; omega) HP.out)
            go_wp2
            go_ret
            exact ⟨ret_bool (HS.out.trans HE.out).symm, kwr⟩
  · have HE := Lib.hid (show stateEq t u = false by unfold stateEq; rw [podsEq_len (by omega)]; rfl)
    have hd : ((n : Int) != (n' : Int)) = true := by simp; omega
    go_enter Tryz.func10, Tryz.ntmps10
    go_wp2
    go_ret
    exact ⟨ret_bool HE.out.symm, below_two _ _ _⟩
end Go.Proofs.YtabebhaclkhhpaaGreatDoor

/- Plain mathematics of numbers as bytes; no program stands in it. -/
namespace Go.Proofs.YtabebhaclkhhpaaGreatDoor
set_option linter.unusedSimpArgs false

/-- A number's bytes: seven bits a byte, the lowest first. -/
def enc (n : Int) : List Int := if n < 128 then [n] else (n % 128 + 128) :: enc (n / 128)
  termination_by n.toNat
  decreasing_by omega

def encs : List Int → List Int
  | [] => []
  | n :: l => enc n ++ encs l
def Nums (l : List Int) : Prop := ∀ n ∈ l, 0 ≤ n ∧ n < 18446744073709551616
def Octs (l : List Int) : Prop := ∀ c ∈ l, 0 ≤ c ∧ c < 256
theorem Nums.append {a b : List Int} (ha : Nums a) (hb : Nums b) : Nums (a ++ b) := fun n hn => by
  rcases List.mem_append.1 hn with h | h
  · exact ha n h
  · exact hb n h
theorem Nums.take {a : List Int} (ha : Nums a) (k : Nat) : Nums (a.take k) := fun n hn => ha n (List.mem_of_mem_take hn)
theorem Octs.drop {a : List Int} (ha : Octs a) (k : Nat) : Octs (a.drop k) := fun n hn => ha n (List.mem_of_mem_drop hn)
end Go.Proofs.YtabebhaclkhhpaaGreatDoor

/- Words for memory that the walks share: a slice that reads as a list of values, nil or not; what stays of it. -/
namespace Go.Proofs.YtabebhaclkhhpaaGreatDoor
set_option linter.unusedSimpArgs false
open Go.RowKit
set_option linter.unusedVariables false

theorem old_cells {W w1 : World} (hb : Below W.heap.size W w1) : (∀ b o, b < W.heap.size → w1.cell? ⟨b, o, none⟩ = W.cell? ⟨b, o, none⟩) ∧ (∀ b o, b < W.heap.size → w1.frozen? ⟨b, o, none⟩ = W.frozen? ⟨b, o, none⟩) :=
  ⟨fun b o h => hb.cell (p := ⟨b, o, none⟩) h, fun b o h => hb.frozen (p := ⟨b, o, none⟩) h⟩

/-- The slice '.slice A xs.length c' reads as xs in w, and lies below block B. -/
def Row (w : World) (B : Nat) (A : Option Addr) (xs : List Value) : Prop :=
  xs = [] ∨ ∃ b o, A = some ⟨b, o, none⟩ ∧ b < B ∧ ∀ j (h : j < xs.length), w.cell? ⟨b, o + j, none⟩ = some xs[j]

theorem Row.nil {w : World} {B : Nat} {A : Option Addr} : Row w B A [] := .inl rfl
theorem Row.below {w w' : World} {B B' : Nat} {A : Option Addr} {xs : List Value} (h : Row w B A xs) (hb : Below B' w w') (hB : B ≤ B') : Row w' B A xs := by
  rcases h with h | ⟨b, o, h1, h2, h3⟩
  · exact .inl h
  · exact .inr ⟨b, o, h1, h2, fun j hj => (hb.cell (p := ⟨b, o + j, none⟩) (Nat.lt_of_lt_of_le h2 hB)).trans (h3 j hj)⟩
theorem Row.more {w : World} {B B' : Nat} {A : Option Addr} {xs : List Value} (h : Row w B A xs) (hB : B ≤ B') : Row w B' A xs := by
  rcases h with h | ⟨b, o, h1, h2, h3⟩
  · exact .inl h
  · exact .inr ⟨b, o, h1, Nat.lt_of_lt_of_le h2 hB, h3⟩
theorem Row.at {w : World} {B : Nat} {A : Option Addr} {xs : List Value} (h : Row w B A xs) {k : Nat} (hk : k < xs.length) :
    ∃ b o, A = some ⟨b, o, none⟩ ∧ b < B ∧ ∀ j (h : j < xs.length), w.cell? ⟨b, o + j, none⟩ = some xs[j] := by
  rcases h with h | h
  · subst h; simp at hk
  · exact h
theorem Row.take {w : World} {B : Nat} {A : Option Addr} {xs : List Value} (h : Row w B A xs) (k : Nat) : Row w B A (xs.take k) := by
  rcases h with h | ⟨b, o, h1, h2, h3⟩
  · exact .inl (by simp [h])
  · exact .inr ⟨b, o, h1, h2, fun j hj => by rw [List.getElem_take]; exact h3 j (by simp at hj; omega)⟩
theorem Row.drop {w : World} {B : Nat} {A : Option Addr} {xs : List Value} (h : Row w B A xs) {k c : Nat} (hc : xs.length ≤ c) :
    Row w B (if c = k then A else A.map (·.add k)) (xs.drop k) := by
  rcases h with h | ⟨b, o, h1, h2, h3⟩
  · exact .inl (by simp [h])
  · by_cases hk : k < xs.length
    · refine .inr ⟨b, o + k, ?_, h2, fun j hj => ?_⟩
      · rw [if_neg (by omega), h1]; simp [Addr.add_lit]
      · rw [List.getElem_drop, Nat.add_assoc]; exact h3 (k + j) (by simp at hj; omega)
    · exact .inl (by simp; omega)
/-- What one append to a row of the call's own leaves. -/
theorem push_own {B : Nat} {e : TypeId} {w wr w1 : World} {v : Value} {n : Nat} {xs : List Value} {o : Obj}
    (hB : B ≤ wr.heap.size) (hown : wr.ownsRow B e 1 v n xs) (hb : Below B w wr) (hgrow : (wr.alloc o).grownBy w1 v.ownBlock) : Below B w w1 :=
  (hb.alloc hB o).grown hgrow (by simp; omega) (fun j hj => (hown.lt j hj).1)
end Go.Proofs.YtabebhaclkhhpaaGreatDoor

/- What an append to a row of the call's own leaves: one element; a slice that reads as a list, nil or not. -/
namespace Go.Proofs.YtabebhaclkhhpaaGreatDoor
set_option linter.unusedSimpArgs false
open Go.RowKit
set_option linter.unusedVariables false

section
variable {ops : Array Oper} {rest : List Oper} {o : Oper} {a : Act} {Q : Exit → Act → World → Prop} {wr : World}

theorem wpList_push (t e : TypeId) (z : Value) (bytes : Nat) (ht : Tryz.prog.underlying t = some (.slice e)) (hinfo : (Tryz.prog.info? e).map (fun i => (i.zero, i.size, i.bytes)) = some (some z, 1, bytes)) (hz : z.cells.size = 1) (hby : bytes ≤ 8)
    (hgd : o.guard = none) (s x : Operand) (ho : o.op = .call { callee := .builtin .append, args := #[s, x], argTypes := #[t, t] })
    (B : Nat) (v : Value) (xs : List Value) (u : Value) (hu : u.oneCell' = true) (hown : wr.ownsRow B e 1 v xs.length xs) (hB : B ≤ wr.heap.size) (hl : xs.length ≤ 2000000)
    (hs : a.eval s = v) (hx : a.eval x = .slice (some ⟨wr.heap.size, 0, none⟩) 1 1)
    (h : ∀ v' w', w'.ownsRow B e 1 v' (xs ++ [u]).length (xs ++ [u]) → Below B wr w' → B ≤ w'.heap.size → wpList Tryz.prog ops Q rest (a.put o.dst v') w') :
    wpList Tryz.prog ops Q (o :: rest) a (wr.alloc (.cells #[u] e)) := by
  obtain ⟨i0, hi, hz0, hz1, hz2⟩ := info_parts hinfo
  refine wpList_append_own _ hgd s x t ho B e i0 z 1 bytes ht hi hz0 hz1 hz2 hz (by decide) v xs.length xs hs (hown.alloc _) ⟨wr.heap.size, 0, none⟩ 1 1 [u] hx rfl ?_ ?_ ?_ ?_ ?_ ?_
  · intro j y hy
    rcases j with _ | j
    · simp at hy; subst hy; simp [Addr.add]
    · simp at hy
  · intro y hy; simp at hy; subst hy; exact hu
  · unfold maxLen; omega
  · have : (xs.length + 1) * bytes ≤ (xs.length + 1) * 8 := Nat.mul_le_mul_left _ hby
    omega
  · simp; omega
  · intro v' w' h1 h2 _
    exact h v' w' (by simpa using h1) (push_own hB hown (Below.refl _ _) h2) (by have := h2.size; simp at this; omega)

end
end Go.Proofs.YtabebhaclkhhpaaGreatDoor

/- What is told is new memory: a copy of a list of pods. -/
namespace Go.Proofs.YtabebhaclkhhpaaGreatDoor
set_option linter.unusedSimpArgs false
open Go.RowKit
set_option linter.unusedVariables false

theorem infoPod : (Tryz.prog.info? 41).map (fun i => (i.zero, i.size, i.bytes)) = some (some (.agg #[.int .i64 0, .int .i64 0, .int .i64 0, .int .u64 0, .int .u64 0, .int .u64 0, .int .u64 0, .int .i64 0]), 8, 64) := by kernel_rfl
theorem underPods : Tryz.prog.underlying 24 = some (.slice 41) := by kernel_rfl
theorem onePod (x : PodD) : ∀ u ∈ cellsP x, u.oneCell' = true := by
  intro u hu; simp only [cellsP, List.mem_cons, List.not_mem_nil, or_false] at hu
  rcases hu with rfl | rfl | rfl | rfl | rfl | rfl | rfl | rfl <;> rfl
theorem info_parts3 {P : Program} {t : TypeId} {z : Value} {s b : Nat} (h : (P.info? t).map (fun i => (i.zero, i.size, i.bytes)) = some (some z, s, b)) : ∃ i, P.info? t = some i ∧ i.zero = some z ∧ i.size = s ∧ i.bytes = b := by
  cases hi : P.info? t with
  | none => rw [hi] at h; cases h
  | some i =>
    rw [hi] at h
    have h := Option.some.inj h
    simp only [Prod.mk.injEq] at h
    exact ⟨i, rfl, h.1, h.2.1, h.2.2⟩
theorem flatMap_len {α : Type} {size : Nat} {cells : α → List Value} (hc : ∀ x, (cells x).length = size) : ∀ xs : List α, (xs.flatMap cells).length = xs.length * size
  | [] => by simp
  | x :: r => by rw [List.flatMap_cons, List.length_append, hc, flatMap_len hc r, List.length_cons, Nat.add_one_mul]; omega
section
variable {ops : Array Oper} {rest : List Oper} {o : Oper} {a : Act} {Q : Exit → Act → World → Prop} {wr : World}
/-- append of all records of a slice, nil or not, to a row of the call's own. -/
theorem wpList_recs {α : Type} {cells : α → List Value} (t e : TypeId) (z : Value) (size bytes : Nat) (ht : Tryz.prog.underlying t = some (.slice e)) (hinfo : (Tryz.prog.info? e).map (fun i => (i.zero, i.size, i.bytes)) = some (some z, size, bytes)) (hz : z.cells.size = size) (hsz : 0 < size) (hby : bytes ≤ 1000)
    (hc : ∀ x, (cells x).length = size) (hu : ∀ x, ∀ u ∈ cells x, u.oneCell' = true)
    (hgd : o.guard = none) (s x : Operand) (ho : o.op = .call { callee := .builtin .append, args := #[s, x], argTypes := #[t, t] })
    (B R : Nat) (v : Value) (n m : Nat) (xs ys : List α) (A : Option Addr) (c : Nat) (hnil : A = none → c = 0) (hown : wr.ownsRow B e size v n (xs.flatMap cells)) (hrow : Recs size cells wr R A ys) (hB : B ≤ wr.heap.size) (hl : n + m ≤ 2000000)
    (hs : a.eval s = v) (hx : a.eval x = .slice A m c) (hm : m = ys.length)
    (h : ∀ v' w', w'.ownsRow B e size v' (n + m) ((xs ++ ys).flatMap cells) → Below B wr w' → B ≤ w'.heap.size → wpList Tryz.prog ops Q rest (a.put o.dst v') w') :
    wpList Tryz.prog ops Q (o :: rest) a wr := by
  obtain ⟨i0, hi, hz0, hz1, hz2⟩ := info_parts3 hinfo
  have fin : ∀ v' w', w'.ownsRow B e size v' (n + m) (xs.flatMap cells ++ ys.flatMap cells) → wr.grownBy w' v.ownBlock → wpList Tryz.prog ops Q rest (a.put o.dst v') w' := fun v' w' h1 h2 =>
    h v' w' (by rw [List.flatMap_append]; exact h1) ((Below.refl B wr).grown h2 hB (fun j hj => (hown.lt j hj).1)) (by have := h2.size; omega)
  rcases A with _ | ad
  · have h0 : ys = [] := by
      rcases hrow with h0 | ⟨_, _, h0, _⟩
      · exact h0
      · cases h0
    subst h0
    have := hnil rfl
    subst this
    have hm0 : m = 0 := hm
    subst hm0
    exact wpList_append_own_none hgd s x t ho B e i0 size ht hi v n (xs.flatMap cells) hs hown hx (fin v wr (by simpa using hown) (World.grownBy.refl _ _))
  · refine wpList_append_own _ hgd s x t ho B e i0 z size bytes ht hi hz0 hz1 hz2 hz hsz v n (xs.flatMap cells) hs hown ad m c (ys.flatMap cells) hx (by rw [flatMap_len hc, hm]) ?_ ?_ ?_ ?_ hB (fun v' w' h1 h2 _ => fin v' w' h1 h2)
    · intro j y hy
      rcases hrow with h0 | ⟨b, o', h0, _, h1⟩
      · subst h0; simp at hy
      · have h0' := Option.some.inj h0
        subst h0'
        have hj : j < ys.length * size := by have := (List.getElem?_eq_some_iff.1 hy).1; rwa [flatMap_len hc] at this
        have hi : j / size < ys.length := Nat.div_lt_of_lt_mul (by rw [Nat.mul_comm]; exact hj)
        have e1 : j = j / size * size + j % size := by rw [Nat.mul_comm]; exact (Nat.div_add_mod j size).symm
        rw [e1, flatMap_get hc hi (Nat.mod_lt _ hsz)] at hy
        rw [Addr.add_lit]
        have := h1 (j / size) hi (j % size) y hy
        rw [Nat.add_assoc, ← e1] at this
        exact this
    · intro u hu'
      obtain ⟨x, _, hx⟩ := List.mem_flatMap.1 hu'
      exact hu x u hx
    · unfold maxLen; omega
    · have : (n + m) * bytes ≤ (n + m) * 1000 := Nat.mul_le_mul_left _ hby
      omega
end
theorem own_form3 {w : World} {base n size : Nat} {e : TypeId} {v : Value} {xs : List Value} (h : w.ownsRow base e size v n xs) : ∃ A c, v = .slice A n c ∧ n ≤ c ∧ c ≤ maxLen ∧ (A = none → c = 0) := by
  rcases h.2 with ⟨hv, h0⟩ | ⟨g, cap, cur, hv, hb, hg, hc, hm, _⟩
  · exact ⟨none, 0, by rw [hv, h0], by omega, by decide, fun _ => rfl⟩
  · exact ⟨_, cap, hv, hc, hm, fun h => by cases h⟩
/-- A slice of these records in memory of the call's own. -/
def Fresh (l : List PodD) (w : World) (A : Option Addr) (c : Nat) (w' : World) : Prop := w'.ownsRow w.heap.size 41 8 (.slice A l.length c) l.length (l.flatMap cellsP)
theorem lenP (x : PodD) : (cellsP x).length = 8 := rfl
theorem Fresh.out {l : List PodD} {w w' : World} {A : Option Addr} {c : Nat} (h : Fresh l w A c w') : Out 8 cellsP w' l A c := out_of_own lenP rfl h
theorem Fresh.recs {l : List PodD} {w w' : World} {A : Option Addr} {c : Nat} (h : Fresh l w A c w') : Recs 8 cellsP w' w'.heap.size A l := h.out.2.2.2
set_option maxHeartbeats 800000 in
theorem clone_any (l : List PodD) (A : Option Addr) (n c : Nat) (w : World) (hn : n = l.length) (hl : n ≤ 1000) (h0 : A = none → c = 0) (hr : Recs 8 cellsP w w.heap.size A l) :
    Calls Tryz.prog 67 #[.slice A n c] w fun e w' => ∃ A' c', e = .returned (.slice A' n c') ∧ Fresh l w A' c' w' ∧ Below w.heap.size w w' := by
  have HR := Lib.hid hr
  have HN := Lib.hid hn
  have H0 := Lib.hid h0
  clear hr hn h0
  go_enter Tryz.func67, Tryz.ntmps67
  go_wp2_with (at_builtin; refine wpList_recs 24 41 (.agg #[.int .i64 0, .int .i64 0, .int .i64 0, .int .u64 0, .int .u64 0, .int .u64 0, .int .u64 0, .int .i64 0]) 8 64 underPods infoPod rfl (by decide) (by decide) lenP onePod rfl (.const (.slice none 0 0)) (.tmp 3) rfl w.heap.size w.heap.size (.slice none 0 0) 0 n [] l A c H0.out (World.ownsRow_nil _ _ _ _) HR.out (Nat.le_refl _) (by omega) rfl rfl HN.out ?_; intro v' w' hown hb hB)
  obtain ⟨A', c', rfl, _⟩ := own_form3 hown
  rw [Nat.zero_add] at hown
  go_ret
  refine ⟨A', c', congrArg (fun k => Ending.returned (.slice A' k c')) (Nat.zero_add n), ?_, hb⟩
  have := HN.out
  subst this
  exact hown
/-- A row of the call's own is told, and a box of the call's own is written. -/
def OwnAt (B : Nat) (l : List PodD) (w : World) (A : Option Addr) (c : Nat) : Prop := w.ownsRow B 41 8 (.slice A l.length c) l.length (l.flatMap cellsP)
theorem OwnAt.set {B : Nat} {l : List PodD} {w : World} {A : Option Addr} {c : Nat} (h : OwnAt B l w A c) {p : Addr} (hp : p.block < B) (v : Value) : OwnAt B l (w.setCell p v) A c := by
  refine ⟨h.1, ?_⟩
  rcases h.2 with h0 | ⟨g, cap, cur, hv, hb, hg, rest⟩
  · exact .inl h0
  · exact .inr ⟨g, cap, cur, hv, hb, (Below.heap_setCell w p v g (by omega)).trans hg, rest⟩
theorem OwnAt.out {B : Nat} {l : List PodD} {w : World} {A : Option Addr} {c : Nat} (h : OwnAt B l w A c) : Out 8 cellsP w l A c := out_of_own lenP rfl h
theorem OwnAt.of {l : List PodD} {w w' : World} {A : Option Addr} {c : Nat} (h : Fresh l w A c w') : OwnAt w.heap.size l w' A c := h
theorem below_three (w : World) (o o' o'' : Obj) : Below w.heap.size w (((w.alloc o).alloc o').alloc o'') := (below_two w o o').alloc (by simp; omega) o''
theorem below_four (w : World) (o o' o'' o3 : Obj) : Below w.heap.size w ((((w.alloc o).alloc o').alloc o'').alloc o3) := (below_three w o o' o'').alloc (by simp; omega) o3
end Go.Proofs.YtabebhaclkhhpaaGreatDoor

/- Plain mathematics of nodes' room; no program stands in it. -/
namespace Go.Proofs.YtabebhaclkhhpaaGreatDoor
set_option linter.unusedSimpArgs false
open Go.RowKit
set_option linter.unusedVariables false

def V4.add (x y : V4) : V4 := ⟨x.a + y.a, x.b + y.b, x.c + y.c, x.d + y.d⟩
def V4.sub (x y : V4) : V4 := ⟨x.a - y.a, x.b - y.b, x.c - y.c, x.d - y.d⟩
def V4.zer : V4 := ⟨0, 0, 0, 0⟩
def V4.small (x : V4) : Bool := decide (x.a < 18446744073709551616 ∧ x.b < 18446744073709551616 ∧ x.c < 18446744073709551616 ∧ x.d < 18446744073709551616)
/-- The difference, or none: it goes below 0. -/
def subV (x y : V4) : Option V4 := if y.le x then some (x.sub y) else none
def totV : List V4 → V4
  | [] => .zer
  | x :: r => x.add (totV r)
def sumV (l : List V4) : Option V4 := if (totV l).small then some (totV l) else none
def reqsAt (node : Int) : List PodD → List V4
  | [] => []
  | p :: r => if p.node = node then p.req :: reqsAt node r else reqsAt node r
/-- A node's use, or none: it goes over. -/
def useD (l : List PodD) (node : Int) : Option V4 := sumV (reqsAt node l)
/-- What is left of a node beside a use, or none. -/
def leftD (n : NodeD) (u : V4) : Option V4 := match subV n.cap n.held with
  | none => none
  | some f => subV f u
def nodeAt (id : Int) : List NodeD → Option NodeD
  | [] => none
  | x :: r => if x.id = id then some x else nodeAt id r
/-- A node's rest, and an error's number. -/
def restD (ns : List NodeD) (l : List PodD) (id : Int) : V4 × Int :=
  match nodeAt id ns with
  | none => (.zer, 4)
  | some n => match useD l id with
    | none => (.zer, 8)
    | some u => match leftD n u with
      | none => (.zer, 9)
      | some r => (r, 0)
def roomD (ns : List NodeD) (l : List PodD) : List NodeD → Nat → Int × Int
  | [], _ => (0, -1)
  | n :: r, k => if (restD ns l n.id).2 ≠ 0 then ((restD ns l n.id).2, (k : Int)) else roomD ns l r (k + 1)
/-- The first node at fault: an error's number, and its place. -/
def roomOf (ns : List NodeD) (l : List PodD) : Int × Int := roomD ns l ns 0

theorem rest_none {ns : List NodeD} {l : List PodD} {id : Int} (h : nodeAt id ns = none) : restD ns l id = (.zer, 4) := by simp only [restD, h]
theorem rest_over {ns : List NodeD} {l : List PodD} {id : Int} {n : NodeD} (h : nodeAt id ns = some n) (h2 : useD l id = none) : restD ns l id = (.zer, 8) := by simp only [restD, h, h2]
theorem rest_room {ns : List NodeD} {l : List PodD} {id : Int} {n : NodeD} {u : V4} (h : nodeAt id ns = some n) (h2 : useD l id = some u) (h3 : leftD n u = none) : restD ns l id = (.zer, 9) := by simp only [restD, h, h2, h3]
theorem rest_some {ns : List NodeD} {l : List PodD} {id : Int} {n : NodeD} {u r : V4} (h : nodeAt id ns = some n) (h2 : useD l id = some u) (h3 : leftD n u = some r) : restD ns l id = (r, 0) := by simp only [restD, h, h2, h3]
theorem left_none {n : NodeD} {u : V4} (h : subV n.cap n.held = none) : leftD n u = none := by simp only [leftD, h]
theorem left_some {n : NodeD} {u f : V4} (h : subV n.cap n.held = some f) : leftD n u = subV f u := by simp only [leftD, h]
theorem rest_vals (ns : List NodeD) (l : List PodD) (id : Int) : ((restD ns l id).2 = 0) ∨ ((restD ns l id).1 = .zer ∧ ((restD ns l id).2 = 4 ∨ (restD ns l id).2 = 8 ∨ (restD ns l id).2 = 9)) := by
  rcases h1 : nodeAt id ns with _ | n
  · rw [rest_none h1]; simp
  · rcases h2 : useD l id with _ | u
    · rw [rest_over h1 h2]; simp
    · rcases h3 : leftD n u with _ | r
      · rw [rest_room h1 h2 h3]; simp
      · rw [rest_some h1 h2 h3]; simp
theorem nodeAt_no {id : Int} : ∀ {l : List NodeD} {k : Int}, 0 ≤ k → place NodeD.id id l k < 0 → nodeAt id l = none
  | [], _, _, _ => rfl
  | x :: r, k, hk, h => by
    by_cases e : x.id = id
    · simp [place, e] at h; omega
    · simp only [place, if_neg e] at h
      simp only [nodeAt, if_neg e]
      exact nodeAt_no (k := k + 1) (by omega) h
theorem nodeAt_yes {id : Int} : ∀ {l : List NodeD} {k : Int} {i : Nat} (h : i < l.length), 0 ≤ k → place NodeD.id id l k = k + i → nodeAt id l = some l[i]
  | [], _, _, h, _, _ => by simp at h
  | x :: r, k, i, h, hk, hp => by
    by_cases e : x.id = id
    · simp only [place, if_pos e] at hp
      obtain rfl : i = 0 := by omega
      simp [nodeAt, e]
    · simp only [place, if_neg e] at hp
      cases i with
      | zero => have := place_ge (f := NodeD.id) (id := id) (l := r) (k := k + 1) (by omega); rw [hp] at this; exfalso
                have h2 : k + 1 ≤ place NodeD.id id r (k + 1) ∨ place NodeD.id id r (k + 1) < 0 := by
                  by_cases hn : place NodeD.id id r (k + 1) < 0
                  · exact .inr hn
                  · left
                    have : ∀ (r : List NodeD) (k : Int), 0 ≤ k → place NodeD.id id r k < 0 ∨ k ≤ place NodeD.id id r k := by
                      intro r
                      induction r with
                      | nil => intro k _; left; simp [place]
                      | cons y r ih => intro k hk; by_cases e : y.id = id <;> simp only [place, e, if_true, if_false]; exact .inr (Int.le_refl _); rcases ih (k + 1) (by omega) with h | h; exact .inl h; exact .inr (by omega)
                    rcases this r (k + 1) (by omega) with h | h
                    · exact absurd h hn
                    · exact h
                omega
      | succ i =>
        simp only [nodeAt, if_neg e]
        rw [nodeAt_yes (l := r) (k := k + 1) (i := i) (by simpa using h) (by omega) (by omega)]
        simp
theorem roomD_at {ns : List NodeD} {l : List PodD} {m : List NodeD} {k : Nat} {p : Int × Int} (h : k < m.length) {n : NodeD} (hn : m[k] = n) (hp : roomD ns l (m.drop k) k = p) :
    ((restD ns l n.id).2 ≠ 0 → p = ((restD ns l n.id).2, (k : Int))) ∧ ((restD ns l n.id).2 = 0 → roomD ns l (m.drop (k + 1)) (k + 1) = p) := by
  rw [List.drop_eq_getElem_cons h, hn, roomD] at hp
  constructor
  · intro e; rw [if_pos e] at hp; exact hp.symm
  · intro e; rw [if_neg (by simpa using e)] at hp; exact hp
theorem roomD_end {ns : List NodeD} {l : List PodD} {m : List NodeD} {k : Nat} {p : Int × Int} (h : m.length ≤ k) (hp : roomD ns l (m.drop k) k = p) : p = (0, -1) := by
  rw [List.drop_of_length_le h, roomD] at hp; exact hp.symm
theorem sub_le {x y z : V4} (h : subV x y = some z) : z = x.sub y ∧ y.le x = true := by
  unfold subV at h
  split at h
  · rename_i hs; exact ⟨(Option.some.inj h).symm, hs⟩
  · cases h
theorem sub_ok4 {x y z : V4} (hx : x.Ok) (hy : y.Ok) (h : subV x y = some z) : z.Ok := by
  obtain ⟨rfl, hl⟩ := sub_le h
  simp only [V4.le, decide_eq_true_eq] at hl
  simp only [V4.Ok, U64, V4.sub] at *
  omega
theorem tot_pos : ∀ {l : List V4}, (∀ x ∈ l, x.Ok) → 0 ≤ (totV l).a ∧ 0 ≤ (totV l).b ∧ 0 ≤ (totV l).c ∧ 0 ≤ (totV l).d
  | [], _ => by simp [totV, V4.zer]
  | x :: r, h => by
    have h1 := tot_pos (l := r) (fun y hy => h y (List.mem_cons_of_mem _ hy))
    have h2 := h x (List.mem_cons_self ..)
    simp only [V4.Ok, U64] at h2
    simp only [totV, V4.add]
    omega
theorem sum_ok4 {l : List V4} {u : V4} (h : ∀ x ∈ l, x.Ok) (hu : sumV l = some u) : u.Ok := by
  have hp := tot_pos h
  unfold sumV at hu
  split at hu
  · rename_i hs
    have := Option.some.inj hu
    subst this
    simp only [V4.small, decide_eq_true_eq] at hs
    simp only [V4.Ok, U64]
    omega
  · cases hu
theorem reqs_ok {node : Int} : ∀ {l : List PodD}, (∀ p ∈ l, p.Ok) → ∀ x ∈ reqsAt node l, x.Ok
  | [], _, x, hx => by simp [reqsAt] at hx
  | p :: r, h, x, hx => by
    unfold reqsAt at hx
    split at hx
    · rcases List.mem_cons.1 hx with rfl | hx
      · exact (h p (List.mem_cons_self ..)).2.2.2.1
      · exact reqs_ok (fun q hq => h q (List.mem_cons_of_mem _ hq)) x hx
    · exact reqs_ok (fun q hq => h q (List.mem_cons_of_mem _ hq)) x hx
theorem use_ok {l : List PodD} {node : Int} {u : V4} (h : ∀ p ∈ l, p.Ok) (hu : useD l node = some u) : u.Ok := sum_ok4 (reqs_ok h) hu
theorem reqs_len (node : Int) : ∀ l : List PodD, (reqsAt node l).length ≤ l.length
  | [] => Nat.le_refl _
  | p :: r => by
    have := reqs_len node r
    unfold reqsAt
    split <;> simp <;> omega
theorem reqs_append (node : Int) : ∀ (l m : List PodD), reqsAt node (l ++ m) = reqsAt node l ++ reqsAt node m
  | [], m => rfl
  | p :: r, m => by
    rw [List.cons_append, reqsAt, reqsAt, reqs_append node r m]
    split <;> simp
theorem reqs_take {node : Int} {l : List PodD} {k : Nat} (h : k < l.length) {p : PodD} (hp : l[k] = p) :
    (p.node = node → reqsAt node (l.take (k + 1)) = reqsAt node (l.take k) ++ [p.req]) ∧ (p.node ≠ node → reqsAt node (l.take (k + 1)) = reqsAt node (l.take k)) := by
  rw [List.take_succ_eq_append_getElem h, reqs_append, hp]
  constructor
  · intro e; simp [reqsAt, e]
  · intro e; simp [reqsAt, e]
theorem tot_append : ∀ (l m : List V4), totV (l ++ m) = (totV l).add (totV m)
  | [], m => by simp [totV, V4.add, V4.zer]
  | x :: r, m => by rw [List.cons_append, totV, tot_append r m]; simp [totV, V4.add, Int.add_assoc]
end Go.Proofs.YtabebhaclkhhpaaGreatDoor

namespace Go.Proofs.YtabebhaclkhhpaaGreatDoor
set_option linter.unusedSimpArgs false
open Go.RowKit
set_option linter.unusedVariables false

theorem below_drewN {B : Nat} {a w : World} (h : Below B a w) (n : Nat) : Below B a (w.drewN n) := ⟨h.os, h.tape, h.output, h.size, h.block⟩
theorem add64_ok (x y : Int) (hx : 0 ≤ x) (hy : 0 ≤ y) (h : x + y < 18446744073709551616) (w : World) :
    (callFunc 135 #[.int .u64 x, .int .u64 y, .int .u64 0]).run Tryz.prog w = .ok (.value (.tuple #[.int .u64 (x + y), .int .u64 0])) w := by
  rw [run_callFunc_extern Tryz.func135 (by kernel_rfl) (by kernel_rfl) (by kernel_rfl) (e := add64Entry) (by kernel_rfl),
    run_add64 (P := Tryz.prog) x y 0 hx hy (by omega) (by omega) w]
  rw [show (x + y + 0) % 18446744073709551616 = x + y by omega, show (x + y + 0) / 18446744073709551616 = 0 by omega]
  rfl
theorem add64_over (x y : Int) (hx : 0 ≤ x) (hy : 0 ≤ y) (hx1 : x < 18446744073709551616) (hy1 : y < 18446744073709551616) (h : 18446744073709551616 ≤ x + y) (w : World) :
    (callFunc 135 #[.int .u64 x, .int .u64 y, .int .u64 0]).run Tryz.prog w = .ok (.value (.tuple #[.int .u64 ((x + y) % 18446744073709551616), .int .u64 1])) w := by
  rw [run_callFunc_extern Tryz.func135 (by kernel_rfl) (by kernel_rfl) (by kernel_rfl) (e := add64Entry) (by kernel_rfl),
    run_add64 (P := Tryz.prog) x y 0 hx hy (by omega) (by omega) w]
  rw [show x + y + 0 = x + y by omega, show (x + y) / 18446744073709551616 = 1 by omega]
  rfl
theorem sub64_ok (x y : Int) (hx : 0 ≤ x) (hy : 0 ≤ y) (hx1 : x < 18446744073709551616) (h : y ≤ x) (w : World) :
    (callFunc 133 #[.int .u64 x, .int .u64 y, .int .u64 0]).run Tryz.prog w = .ok (.value (.tuple #[.int .u64 (x - y), .int .u64 0])) w := by
  obtain ⟨x, rfl⟩ := Int.eq_ofNat_of_zero_le hx
  obtain ⟨y, rfl⟩ := Int.eq_ofNat_of_zero_le hy
  rw [run_callFunc_extern Tryz.func133 (by kernel_rfl) (by kernel_rfl) (by kernel_rfl) (e := sub64Entry) (by kernel_rfl), show (sub64Entry #[.int .u64 x, .int .u64 y, .int .u64 0]).run Tryz.prog w = _ from run_sub64 x y 0 (by omega) w]
  rw [if_neg (by omega), show (((x + 18446744073709551616 - y - 0) % 18446744073709551616 : Nat) : Int) = x - y by omega]
  rfl
theorem sub64_over (x y : Int) (hx : 0 ≤ x) (hy : 0 ≤ y) (h : x < y) (w : World) :
    (callFunc 133 #[.int .u64 x, .int .u64 y, .int .u64 0]).run Tryz.prog w = .ok (.value (.tuple #[.int .u64 ((x + 18446744073709551616 - y).toNat % 18446744073709551616 : Nat), .int .u64 1])) w := by
  obtain ⟨x, rfl⟩ := Int.eq_ofNat_of_zero_le hx
  obtain ⟨y, rfl⟩ := Int.eq_ofNat_of_zero_le hy
  rw [run_callFunc_extern Tryz.func133 (by kernel_rfl) (by kernel_rfl) (by kernel_rfl) (e := sub64Entry) (by kernel_rfl), show (sub64Entry #[.int .u64 x, .int .u64 y, .int .u64 0]).run Tryz.prog w = _ from run_sub64 x y 0 (by omega) w]
  rw [if_pos (by omega), show ((x : Int) + 18446744073709551616 - y).toNat = x + 18446744073709551616 - y - 0 by omega]
  rfl

end Go.Proofs.YtabebhaclkhhpaaGreatDoor
