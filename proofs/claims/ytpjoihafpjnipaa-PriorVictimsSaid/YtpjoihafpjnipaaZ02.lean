/- Joined texts, part 2: UA DB DE DEN DEL DEP DEW DF UB UD M A L UF UC UG. -/
import Derived.Test.YtpjoihafpjnipaaZ01
import Derived.Deep.QuietTactic
import Derived.BigQuiet
import Derived.IntWalk
import Derived.KernelRfl
import Derived.Test.YtpjoihafpjnipaaRows
import Derived.WalkKit
import Derived.WalkSpells
import Derived.WalkLawsBesides
import Derived.Lib.Hide
import Derived.OwnWalk
import Derived.Laws.AppendOwnNone
import Derived.Laws.BytesArg
import Derived.Laws.BitsAllLaws
import Derived.Laws.Bits128

/- Plain mathematics of states; '!=' of any two pods. -/
namespace Go.Proofs.Ytpjoihafpjnipaa
set_option linter.unusedSimpArgs false
open Go.RowKit
set_option linter.unusedVariables false

structure StateD where
  pods : List PodD
  preempts : Int
  shifts : Int
def vecEq (x y : V4) : Bool := x.a == y.a && (x.b == y.b && (x.c == y.c && x.d == y.d))
def podEq (x y : PodD) : Bool := x.id == y.id && (x.load == y.load && (x.prio == y.prio && (vecEq x.req y.req && x.node == y.node)))
theorem vecEq_self (x : V4) : vecEq x x = true := by simp [vecEq]
theorem podEq_self (x : PodD) : podEq x x = true := by simp [podEq, vecEq_self]
theorem vecEq_iff {x y : V4} : vecEq x y = true ↔ x = y := by
  cases x; cases y; simp [vecEq]
theorem podEq_iff {x y : PodD} : podEq x y = true ↔ x = y := by
  cases x; cases y; simp [podEq, vecEq_iff]
/-- Are two lists of pods alike? -/
def podsEq : List PodD → List PodD → Bool
  | [], [] => true
  | x :: r, y :: s => podEq x y && podsEq r s
  | _, _ => false
theorem podsEq_self : ∀ l : List PodD, podsEq l l = true
  | [] => rfl
  | x :: r => by simp [podsEq, podEq_self, podsEq_self r]
theorem podsEq_iff : ∀ {l m : List PodD}, podsEq l m = true ↔ l = m
  | [], [] => by simp [podsEq]
  | [], _ :: _ => by simp [podsEq]
  | _ :: _, [] => by simp [podsEq]
  | x :: r, y :: s => by simp [podsEq, podEq_iff, podsEq_iff (l := r) (m := s)]
theorem podsEq_len : ∀ {l m : List PodD}, l.length ≠ m.length → podsEq l m = false := fun {l m} h => by
  cases e : podsEq l m with
  | false => rfl
  | true => exact absurd (congrArg List.length (podsEq_iff.1 e)) h
def stateEq (t u : StateD) : Bool := podsEq t.pods u.pods && (t.preempts == u.preempts && t.shifts == u.shifts)
theorem stateEq_self (t : StateD) : stateEq t t = true := by simp [stateEq, podsEq_self]
theorem stateEq_iff {t u : StateD} : stateEq t u = true ↔ t = u := by
  cases t; cases u; simp [stateEq, podsEq_iff]
theorem podsEq_at {l m : List PodD} {k : Nat} {b : Bool} (h : k < l.length) (h' : k < m.length) {x y : PodD} (hx : l[k] = x) (hy : m[k] = y) (hp : podsEq (l.drop k) (m.drop k) = b) :
    (podEq x y = false → b = false) ∧ (podEq x y = true → podsEq (l.drop (k + 1)) (m.drop (k + 1)) = b) := by
  rw [List.drop_eq_getElem_cons h, List.drop_eq_getElem_cons h', hx, hy, podsEq] at hp
  constructor
  · intro e; rw [e] at hp; exact hp.symm
  · intro e; rw [e, Bool.true_and] at hp; exact hp
theorem podsEq_end {l m : List PodD} {k : Nat} {b : Bool} (h : l.length ≤ k) (h' : m.length ≤ k) (hp : podsEq (l.drop k) (m.drop k) = b) : b = true := by
  rw [List.drop_of_length_le h, List.drop_of_length_le h'] at hp
  exact hp.symm
/-- The first pod of an Id. -/
def podAt (id : Int) : List PodD → Option PodD
  | [] => none
  | x :: r => if x.id = id then some x else podAt id r
theorem podAt_none {id : Int} : ∀ {l : List PodD} {k : Int}, 0 ≤ k → (podAt id l = none ↔ place PodD.id id l k < 0)
  | [], k, _ => by simp [podAt, place]
  | x :: r, k, hk => by
    by_cases h : x.id = id
    · simp [podAt, place, h]; omega
    · simp only [podAt, place, if_neg h]; exact podAt_none (by omega)
theorem place_or {α : Type} {f : α → Int} {id : Int} : ∀ (r : List α) (k : Int), 0 ≤ k → place f id r k < 0 ∨ k ≤ place f id r k
  | [], _, _ => by simp [place]
  | x :: r, k, hk => by
    simp only [place]
    split
    · right; omega
    · rcases place_or r (k + 1) (by omega) with h | h
      · exact .inl h
      · exact .inr (by omega)
theorem podAt_some {id : Int} : ∀ {l : List PodD} {k : Int} {i : Nat} (hi : i < l.length), place PodD.id id l k = k + i → 0 ≤ k → podAt id l = some l[i]
  | [], _, _, hi, _, _ => by simp at hi
  | x :: r, k, i, hi, h, hk => by
    by_cases hx : x.id = id
    · simp only [place, if_pos hx] at h
      obtain rfl : i = 0 := by omega
      simp [podAt, hx]
    · simp only [place, if_neg hx] at h
      cases i with
      | zero =>
        have := (place_neg (f := PodD.id) (id := id) (l := r) (k := k + 1) (by omega))
        have h2 := place_ge (f := PodD.id) (id := id) (l := r) (k := k + 1) (by omega)
        have h3 : place PodD.id id r (k + 1) < 0 ∨ k + 1 ≤ place PodD.id id r (k + 1) := place_or r (k + 1) (by omega)
        omega
      | succ i =>
        simp only [podAt, if_neg hx, List.getElem_cons_succ]
        exact podAt_some (by simpa using hi) (by rw [h]; omega) (by omega)
/-- Is a want met? -/
def metD (l : List PodD) (w : WantD) : Bool :=
  match podAt w.pod l with
  | none => false
  | some p => if w.stay then p.node != 0 && vecEq p.req w.req else p.node == 0
def goalD (x : List WantD) (l : List PodD) : Bool := x.all (metD l)
theorem goal_at {x : List WantD} {l : List PodD} {k : Nat} {b : Bool} (h : k < x.length) {w : WantD} (hx : x[k] = w) (hg : goalD (x.drop k) l = b) :
    (metD l w = false → b = false) ∧ (metD l w = true → goalD (x.drop (k + 1)) l = b) := by
  rw [List.drop_eq_getElem_cons h, hx, goalD, List.all_cons] at hg
  constructor
  · intro e; rw [e] at hg; exact hg.symm
  · intro e; rw [e, Bool.true_and] at hg; exact hg
theorem goal_end {x : List WantD} {l : List PodD} {k : Nat} {b : Bool} (h : x.length ≤ k) (hg : goalD (x.drop k) l = b) : b = true := by
  rw [List.drop_of_length_le h] at hg
  exact hg.symm
theorem met_none {l : List PodD} {w : WantD} (h : place PodD.id w.pod l 0 < 0) : metD l w = false := by
  rw [metD, (podAt_none (l := l) (k := 0) (by omega)).2 h]
theorem met_some {l : List PodD} {w : WantD} {i : Nat} (hi : i < l.length) (h : place PodD.id w.pod l 0 = i) {p : PodD} (hp : l[i] = p) : metD l w = if w.stay then p.node != 0 && vecEq p.req w.req else p.node == 0 := by
  rw [metD, podAt_some (l := l) (k := 0) hi (by rw [h]; omega) (by omega), hp]

theorem eqFields_cons {d : Nat} {xs ys : Array Value} {f : Field} {fs : List Field} {a b : Value} {c : Bool} {w : World} (hn : f.name ≠ "_") (ha : (part f.type xs f.offset).run Try.prog w = .ok a w) (hb : (part f.type ys f.offset).run Try.prog w = .ok b w) (he : (Op.equalIn d f.type a b).run Try.prog w = .ok c w) {r : Bool} (hr : (Op.eqFields d xs ys fs).run Try.prog w = .ok r w) :
    (Op.eqFields d xs ys (f :: fs)).run Try.prog w = .ok (c && r) w := by
  cases c <;> simp [Op.eqFields, hn, ha, hb, he, hr]
theorem int_eqIn2 (d : Nat) (a b : Int) (w : World) : (Op.equalIn (d + 1) 3 (.int .i64 a) (.int .i64 b)).run Try.prog w = .ok (a == b) w := by
  simp [Op.equalIn, run_underlying Try.underlying3]
set_option maxRecDepth 100000 in
theorem pod_eqIn (x y : PodD) (w : World) : (Op.equalIn 10000 32 (aggP x) (aggP y)).run Try.prog w = .ok (podEq x y) w := by
  have hf : (Try.prog.fieldsOf 32).toList = [(⟨"Id", 3, 0, false, "", "", 0⟩ : Field), (⟨"Load", 3, 1, false, "", "", 8⟩ : Field), (⟨"Prio", 3, 2, false, "", "", 16⟩ : Field), (⟨"Req", 30, 3, false, "", "", 24⟩ : Field), (⟨"Node", 3, 7, false, "", "", 56⟩ : Field)] := by kernel_rfl
  rw [run_equalIn_struct w 9999 32 _ _ (by kernel_rfl) (by kernel_rfl), hf]
  clear hf
  refine (eqFields_cons (a := .int .i64 x.id) (b := .int .i64 y.id) (by decide) (part_int _ 0 _ rfl w) (part_int _ 0 _ rfl w) (int_eqIn2 9998 _ _ w) ?_).trans rfl
  refine (eqFields_cons (a := .int .i64 x.load) (b := .int .i64 y.load) (by decide) (part_int _ 1 _ rfl w) (part_int _ 1 _ rfl w) (int_eqIn2 9998 _ _ w) ?_)
  refine (eqFields_cons (a := .int .i64 x.prio) (b := .int .i64 y.prio) (by decide) (part_int _ 2 _ rfl w) (part_int _ 2 _ rfl w) (int_eqIn2 9998 _ _ w) ?_)
  refine (eqFields_cons (a := .agg #[.int .u64 x.req.a, .int .u64 x.req.b, .int .u64 x.req.c, .int .u64 x.req.d]) (b := .agg #[.int .u64 y.req.a, .int .u64 y.req.b, .int .u64 y.req.c, .int .u64 y.req.d]) (by decide) (part_vec _ 3 _ _ _ _ rfl w) (part_vec _ 3 _ _ _ _ rfl w) (vec_eqlIn 9997 _ _ _ _ _ _ _ _ w) ?_)
  refine (eqFields_cons (a := .int .i64 x.node) (b := .int .i64 y.node) (r := true) (by decide) (part_int _ 7 _ rfl w) (part_int _ 7 _ rfl w) (int_eqIn2 9998 _ _ w) ?_).trans (by rw [Bool.and_true])
  simp [Op.eqFields]
set_option maxRecDepth 100000 in
theorem pod_neq (x y : PodD) (w : World) : (binOp .neq 32 (aggP x) (aggP y)).run Try.prog w = .ok (.bool (!podEq x y)) w := by
  rw [run_neq_struct, pod_eqIn]
  rfl
theorem vec_neq (x y : V4) (w : World) : (binOp .neq 30 (aggV x) (aggV y)).run Try.prog w = .ok (.bool (!vecEq x y)) w := by
  simp only [binOp]
  simp [Op.equal, Op.maxDepth, vec_eqlIn 9998, vecEq]
theorem vec_is (x y : V4) (w : World) : (binOp .eql 30 (aggV x) (aggV y)).run Try.prog w = .ok (.bool (vecEq x y)) w := vec_eql _ _ _ _ _ _ _ _ w
end Go.Proofs.Ytpjoihafpjnipaa

/- The program's orderFault and idFault, at each kind of record. -/
namespace Go.Proofs.Ytpjoihafpjnipaa
set_option linter.unusedSimpArgs false
open Go.RowKit
set_option linter.unusedVariables false

/-- What a region with loads and calls keeps: all blocks that there were are as they were. -/
def Keeps (W : World) (w' : World) : Prop := (∀ b o, b < W.heap.size → w'.cell? ⟨b, o, none⟩ = W.cell? ⟨b, o, none⟩) ∧ Below W.heap.size W w'
theorem Keeps.of {W v : World} (k : Below W.heap.size W v) : Keeps W v := ⟨fun b o h => k.cell (p := ⟨b, o, none⟩) h, k⟩
theorem Keeps.step {W v v' : World} (h : Keeps W v) (hb : Below v.heap.size v v') : Keeps W v' := Keeps.of (h.2.trans (hb.mono h.2.size))
theorem Keeps.alloc {W v : World} (h : Keeps W v) (o : Obj) : Keeps W (v.alloc o) := Keeps.of (h.2.alloc h.2.size o)
theorem Keeps.refl (W : World) : Keeps W W := Keeps.of (Below.refl _ _)
theorem Keeps.drew {W v : World} (h : Keeps W v) : Keeps W v.drew := Keeps.of (Below.drew h.2)
theorem Keeps.set {W v : World} {p : Addr} (h : Keeps W v) (hp : W.heap.size ≤ p.block) (x : Value) : Keeps W (v.setCell p x) := Keeps.of (h.2.setCell hp x)

/-- What is amiss with an Id beside the one ahead. -/
def ordI (last n : Int) : Int := if n = last then 5 else if n < last then 1 else 0
def idI (order n : Int) : Int := if order = 0 then (if inB n 1 2147483647 = true then 0 else 1) else order

end Go.Proofs.Ytpjoihafpjnipaa

/- The program's find, at each kind of record: what is common. -/
namespace Go.Proofs.Ytpjoihafpjnipaa
set_option linter.unusedSimpArgs false
open Go.RowKit
set_option linter.unusedVariables false

/-- The first one with that Id, true; or a zero one, false. -/
def FindTo {α : Type} (agg : α → Value) (zero : Value) (f : α → Int) (l : List α) (id : Int) (w : World) (e : Ending) (w' : World) : Prop :=
  ((place f id l 0 < 0 ∧ e = .returned (.tuple #[zero, .bool false])) ∨ ∃ (i : Nat) (h : i < l.length), place f id l 0 = i ∧ e = .returned (.tuple #[agg l[i], .bool true])) ∧ Below w.heap.size w w'
def FRel {α : Type} (f : α → Int) (id : Int) (l : List α) (W : World) (B : Nat) (i : Value) (wr : World) : Prop := ∃ k : Nat, k ≤ l.length ∧ i = .int .i64 k ∧ place f id (l.drop k) k = place f id l 0 ∧ Below B W wr
theorem place_found {α : Type} {f : α → Int} {id : Int} {l : List α} {k : Nat} (h : k < l.length) (he : f l[k] = id) (hp : place f id (l.drop k) k = place f id l 0) : place f id l 0 = k := place_here h he hp
end Go.Proofs.Ytpjoihafpjnipaa

/- The program's find, at one kind of record. -/
namespace Go.Proofs.Ytpjoihafpjnipaa
set_option linter.unusedSimpArgs false
open Go.RowKit
set_option linter.unusedVariables false

abbrev zeroN : Value := .agg #[.int .i64 0, .int .i64 0, .int .u64 0, .int .u64 0, .int .u64 0, .int .u64 0, .int .u64 0, .int .u64 0, .int .u64 0, .int .u64 0]
end Go.Proofs.Ytpjoihafpjnipaa

/- The program's find, at one kind of record. -/
namespace Go.Proofs.Ytpjoihafpjnipaa
set_option linter.unusedSimpArgs false
open Go.RowKit
set_option linter.unusedVariables false

abbrev zeroL : Value := .agg #[.int .i64 0, .bool false, .int .i64 0, .int .i64 0, .int .i64 0]
end Go.Proofs.Ytpjoihafpjnipaa

/- The program's find, at one kind of record. -/
namespace Go.Proofs.Ytpjoihafpjnipaa
set_option linter.unusedSimpArgs false
open Go.RowKit
set_option linter.unusedVariables false

abbrev zeroP : Value := .agg #[.int .i64 0, .int .i64 0, .int .i64 0, .int .u64 0, .int .u64 0, .int .u64 0, .int .u64 0, .int .i64 0]
end Go.Proofs.Ytpjoihafpjnipaa

/- The program's find, at one kind of record. -/
namespace Go.Proofs.Ytpjoihafpjnipaa
set_option linter.unusedSimpArgs false
open Go.RowKit
set_option linter.unusedVariables false

abbrev zeroW : Value := .agg #[.int .i64 0, .int .u64 0, .int .u64 0, .int .u64 0, .int .u64 0, .bool false]
end Go.Proofs.Ytpjoihafpjnipaa

/- The program's Node, Load and Want. -/
namespace Go.Proofs.Ytpjoihafpjnipaa
set_option linter.unusedSimpArgs false
open Go.RowKit
set_option linter.unusedVariables false

end Go.Proofs.Ytpjoihafpjnipaa

/- The program's place and Pod of layer 5. -/
namespace Go.Proofs.Ytpjoihafpjnipaa
set_option linter.unusedSimpArgs false
open Go.RowKit
set_option linter.unusedVariables false

/-- The closure in place: is this the pod's Id? -/
theorem placeClosure_any (x : PodD) (id : Int) (g : Nat) (w : World) (h0 : w.cell? ⟨g, 0, none⟩ = some (.int .i64 id)) :
    Calls Try.prog 21 #[aggP x, .pointer (some ⟨g, 0, none⟩)] w fun e w' => e = .returned (.bool (x.id == id)) ∧ Below w.heap.size w w' := by
  have hg : g < w.heap.size := World.block_lt_of_cell? w _ h0
  go_enter Try.func21, Try.ntmps21
  go_wp2
  go_ret
  exact ⟨rfl, (Below.refl _ _).alloc (Nat.le_refl _) _⟩
set_option maxHeartbeats 3200000 in
set_option maxRecDepth 100000 in
theorem indexFunc_any (l : List PodD) (id : Int) (g : Nat) (A : Option Addr) (n c : Nat) (w : World) (hn : n = l.length) (hl : n ≤ 1000) (hr : Recs 8 cellsP w w.heap.size A l) (h0 : w.cell? ⟨g, 0, none⟩ = some (.int .i64 id)) :
    Calls Try.prog 20 #[.slice A n c, .func (.func 21) #[] #[.pointer (some ⟨g, 0, none⟩)]] w fun e w' => e = .returned (.int .i64 (place PodD.id id l 0)) ∧ Below w.heap.size w w' := by
  have hg : g < w.heap.size := World.block_lt_of_cell? w _ h0
  have HR := Lib.hid hr
  have HN := Lib.hid hn
  have H0 := Lib.hid h0
  clear hr hn h0
  go_enter Try.func20, Try.ntmps20
  go_wp2
  go_loopw [8] (FRel PodD.id id l w w.heap.size) (fun i _ => n - (intOf i).toNat)
  case atStart => exact ⟨0, by omega, rfl, rfl, Below.refl _ _⟩
  case round =>
    obtain ⟨k, hk, rfl, hp, hbr⟩ := hrel
    have HP := Lib.hid hp
    have hzr := hbr.size
    clear hp
    by_cases hlt : k < n
    · have hkl : k < l.length := by have := HN.out; omega
      obtain ⟨b, o, rfl, hb, he⟩ := HR.out.at hkl
      generalize hx : l[k] = x at *
      have HX := Lib.hid hx
      clear hx
      have e0 : wr.cell? ⟨b, o + k * 8, none⟩ = some (.int .i64 x.id) := (hbr.cell (p := ⟨b, o + k * 8, none⟩) hb).trans (he 0 _ rfl)
      have e1 : wr.cell? ⟨b, o + k * 8 + 1, none⟩ = some (.int .i64 x.load) := (hbr.cell (p := ⟨b, o + k * 8 + 1, none⟩) hb).trans (he 1 _ rfl)
      have e2 : wr.cell? ⟨b, o + k * 8 + 2, none⟩ = some (.int .i64 x.prio) := (hbr.cell (p := ⟨b, o + k * 8 + 2, none⟩) hb).trans (he 2 _ rfl)
      have e3 : wr.cell? ⟨b, o + k * 8 + 3, none⟩ = some (.int .u64 x.req.a) := (hbr.cell (p := ⟨b, o + k * 8 + 3, none⟩) hb).trans (he 3 _ rfl)
      have e4 : wr.cell? ⟨b, o + k * 8 + 4, none⟩ = some (.int .u64 x.req.b) := (hbr.cell (p := ⟨b, o + k * 8 + 4, none⟩) hb).trans (he 4 _ rfl)
      have e5 : wr.cell? ⟨b, o + k * 8 + 5, none⟩ = some (.int .u64 x.req.c) := (hbr.cell (p := ⟨b, o + k * 8 + 5, none⟩) hb).trans (he 5 _ rfl)
      have e6 : wr.cell? ⟨b, o + k * 8 + 6, none⟩ = some (.int .u64 x.req.d) := (hbr.cell (p := ⟨b, o + k * 8 + 6, none⟩) hb).trans (he 6 _ rfl)
      have e7 : wr.cell? ⟨b, o + k * 8 + 7, none⟩ = some (.int .i64 x.node) := (hbr.cell (p := ⟨b, o + k * 8 + 7, none⟩) hb).trans (he 7 _ rfl)
      have hbw : b < wr.heap.size := by omega
      have hgc : wr.cell? ⟨g, 0, none⟩ = some (.int .i64 id) := (hbr.cell (p := ⟨g, 0, none⟩) hg).trans H0.out
      clear he
      go_wp2_with fail
      go_at_call 21
      refine (placeClosure_any x id g _ hgc).mono ?_
      rintro e w1 ⟨rfl, hb1⟩
      have k1 : Below w.heap.size w w1 := hbr.trans (hb1.mono hzr)
      by_cases hid : x.id = id
      · have HE := Lib.hid (place_found hkl (by rw [HX.out]; exact hid) HP.out)
        have hd : (x.id == id) = true := by simp [hid]
        clear hid
        go_wp2
        go_ret
        exact ⟨ret_int HE.out.symm, k1⟩
      · have HE := Lib.hid (place_step hkl (by rw [HX.out]; exact hid) HP.out)
        have hd : (x.id == id) = false := by simp [hid]
        clear hid
        go_wp2
        go_roundw
        case rel => exact ⟨k + 1, by omega, by go_num, HE.out, k1⟩
        case measure => simp [intOf]; omega
    · have HE := Lib.hid (place_end (by have := HN.out; omega) HP.out)
      go_wp2
      go_ret
      exact ⟨ret_int HE.out.symm, hbr⟩
theorem place_any (l : List PodD) (id : Int) (A : Option Addr) (n c : Nat) (v1 v2 : Value) (w : World) (hn : n = l.length) (hl : n ≤ 1000) (hr : Recs 8 cellsP w w.heap.size A l) :
    Calls Try.prog 15 #[.agg #[.slice A n c, v1, v2], .int .i64 id] w fun e w' => e = .returned (.int .i64 (place PodD.id id l 0)) ∧ Below w.heap.size w w' := by
  have b00 := below_two w (.cells #[.slice A n c, v1, v2] 24) (.cells #[.int .i64 id] 3)
  have HF := Lib.hid (indexFunc_any l id (w.heap.size + 1) A n c ((w.alloc (.cells #[.slice A n c, v1, v2] 24)).alloc (.cells #[.int .i64 id] 3)) hn hl ((hr.below b00 (Nat.le_refl _)).more b00.size) (by simp))
  have hmf : ∀ (fn : Fn) (first cap : Array Value) (w : World), (Instr.makeFunc fn first cap).run Try.prog w = .ok (.func fn first cap) w := fun _ _ _ _ => rfl
  clear hr hn
  go_enter Try.func15, Try.ntmps15
  go_wp2_with fail
  refine HF.out.mono ?_
  rintro e w1 ⟨rfl, hb1⟩
  go_wp2
  go_ret
  exact ⟨rfl, b00.trans (hb1.mono b00.size)⟩
theorem place_hit {l : List PodD} {id : Int} (h : ¬ place PodD.id id l 0 < 0) : ∃ i : Nat, i < l.length ∧ place PodD.id id l 0 = i := by
  have := place_ge (f := PodD.id) (id := id) (l := l) (k := 0) (by omega)
  exact ⟨(place PodD.id id l 0).toNat, by omega, by omega⟩
set_option maxHeartbeats 3200000 in
set_option maxRecDepth 100000 in
theorem statePod_any (l : List PodD) (id : Int) (A : Option Addr) (n c : Nat) (v1 v2 : Value) (w : World) (hn : n = l.length) (hl : n ≤ 1000) (hr : Recs 8 cellsP w w.heap.size A l) :
    Calls Try.prog 10 #[.agg #[.slice A n c, v1, v2], .int .i64 id] w (FindTo aggP zeroP PodD.id l id w) := by
  have b00 := below_two w (.cells #[.slice A n c, v1, v2] 24) (.cells #[.int .i64 0, .int .i64 0, .int .i64 0, .int .u64 0, .int .u64 0, .int .u64 0, .int .u64 0, .int .i64 0] 32)
  have HF := Lib.hid (place_any l id A n c v1 v2 ((w.alloc (.cells #[.slice A n c, v1, v2] 24)).alloc (.cells #[.int .i64 0, .int .i64 0, .int .i64 0, .int .u64 0, .int .u64 0, .int .u64 0, .int .u64 0, .int .i64 0] 32)) hn hl ((hr.below b00 (Nat.le_refl _)).more b00.size))
  have HR := Lib.hid hr
  have HN := Lib.hid hn
  clear hr hn
  go_enter Try.func10, Try.ntmps10
  go_wp2_with fail
  refine HF.out.mono ?_
  rintro e w1 ⟨rfl, hb1⟩
  have kw1 : Below w.heap.size w w1 := b00.trans (hb1.mono b00.size)
  have hz1 : w.heap.size + 2 ≤ w1.heap.size := by have := hb1.size; simpa using this
  have b0 : w1.cell? ⟨w.heap.size, 0, none⟩ = some (.slice A n c) := (hb1.cell (p := ⟨w.heap.size, 0, none⟩) (by simp; omega)).trans (by simp)
  have b1 : w1.cell? ⟨w.heap.size, 1, none⟩ = some v1 := (hb1.cell (p := ⟨w.heap.size, 1, none⟩) (by simp; omega)).trans (by simp)
  have b2 : w1.cell? ⟨w.heap.size, 2, none⟩ = some v2 := (hb1.cell (p := ⟨w.heap.size, 2, none⟩) (by simp; omega)).trans (by simp)
  have g0 : w1.cell? ⟨w.heap.size + 1, 0, none⟩ = some (.int .i64 0) := (hb1.cell (p := ⟨w.heap.size + 1, 0, none⟩) (by simp)).trans (by simp)
  have h0 : w1.frozen? ⟨w.heap.size + 1, 0, none⟩ = false := (hb1.frozen (p := ⟨w.heap.size + 1, 0, none⟩) (by simp)).trans (by simp)
  have g1 : w1.cell? ⟨w.heap.size + 1, 1, none⟩ = some (.int .i64 0) := (hb1.cell (p := ⟨w.heap.size + 1, 1, none⟩) (by simp)).trans (by simp)
  have h1 : w1.frozen? ⟨w.heap.size + 1, 1, none⟩ = false := (hb1.frozen (p := ⟨w.heap.size + 1, 1, none⟩) (by simp)).trans (by simp)
  have g2 : w1.cell? ⟨w.heap.size + 1, 2, none⟩ = some (.int .i64 0) := (hb1.cell (p := ⟨w.heap.size + 1, 2, none⟩) (by simp)).trans (by simp)
  have h2 : w1.frozen? ⟨w.heap.size + 1, 2, none⟩ = false := (hb1.frozen (p := ⟨w.heap.size + 1, 2, none⟩) (by simp)).trans (by simp)
  have g3 : w1.cell? ⟨w.heap.size + 1, 3, none⟩ = some (.int .u64 0) := (hb1.cell (p := ⟨w.heap.size + 1, 3, none⟩) (by simp)).trans (by simp)
  have h3 : w1.frozen? ⟨w.heap.size + 1, 3, none⟩ = false := (hb1.frozen (p := ⟨w.heap.size + 1, 3, none⟩) (by simp)).trans (by simp)
  have g4 : w1.cell? ⟨w.heap.size + 1, 4, none⟩ = some (.int .u64 0) := (hb1.cell (p := ⟨w.heap.size + 1, 4, none⟩) (by simp)).trans (by simp)
  have h4 : w1.frozen? ⟨w.heap.size + 1, 4, none⟩ = false := (hb1.frozen (p := ⟨w.heap.size + 1, 4, none⟩) (by simp)).trans (by simp)
  have g5 : w1.cell? ⟨w.heap.size + 1, 5, none⟩ = some (.int .u64 0) := (hb1.cell (p := ⟨w.heap.size + 1, 5, none⟩) (by simp)).trans (by simp)
  have h5 : w1.frozen? ⟨w.heap.size + 1, 5, none⟩ = false := (hb1.frozen (p := ⟨w.heap.size + 1, 5, none⟩) (by simp)).trans (by simp)
  have g6 : w1.cell? ⟨w.heap.size + 1, 6, none⟩ = some (.int .u64 0) := (hb1.cell (p := ⟨w.heap.size + 1, 6, none⟩) (by simp)).trans (by simp)
  have h6 : w1.frozen? ⟨w.heap.size + 1, 6, none⟩ = false := (hb1.frozen (p := ⟨w.heap.size + 1, 6, none⟩) (by simp)).trans (by simp)
  have g7 : w1.cell? ⟨w.heap.size + 1, 7, none⟩ = some (.int .i64 0) := (hb1.cell (p := ⟨w.heap.size + 1, 7, none⟩) (by simp)).trans (by simp)
  have h7 : w1.frozen? ⟨w.heap.size + 1, 7, none⟩ = false := (hb1.frozen (p := ⟨w.heap.size + 1, 7, none⟩) (by simp)).trans (by simp)
  by_cases hp : place PodD.id id l 0 < 0
  · have HP := Lib.hid hp
    have hd : decide (place PodD.id id l 0 < 0) = true := decide_eq_true hp
    clear hp
    go_wp2
    refine bodyPost_ret (v := .tuple #[zeroP, .bool false]) ?_ rfl ?_
    · simp [results, Try.results10, go_sem, *]
    · refine ⟨.inl ⟨HP.out, rfl⟩, ?_⟩
      repeat (first | with_reducible exact kw1 | with_reducible refine Below.setCell ?_ ?_ _)
      all_goals (show w.heap.size ≤ w.heap.size + 1; omega)
  · obtain ⟨i, hi, hpi⟩ := place_hit hp
    clear hp
    obtain ⟨b, o, rfl, hb, he⟩ := HR.out.at hi
    have hin : i < n := by have := HN.out; omega
    have HP := Lib.hid hpi
    rw [hpi]
    clear hpi
    generalize hx : l[i] = x at *
    have HX := Lib.hid hx
    clear hx
    have e0 : w1.cell? ⟨b, o + i * 8, none⟩ = some (.int .i64 x.id) := (kw1.cell (p := ⟨b, o + i * 8, none⟩) hb).trans (he 0 _ rfl)
    have e1 : w1.cell? ⟨b, o + i * 8 + 1, none⟩ = some (.int .i64 x.load) := (kw1.cell (p := ⟨b, o + i * 8 + 1, none⟩) hb).trans (he 1 _ rfl)
    have e2 : w1.cell? ⟨b, o + i * 8 + 2, none⟩ = some (.int .i64 x.prio) := (kw1.cell (p := ⟨b, o + i * 8 + 2, none⟩) hb).trans (he 2 _ rfl)
    have e3 : w1.cell? ⟨b, o + i * 8 + 3, none⟩ = some (.int .u64 x.req.a) := (kw1.cell (p := ⟨b, o + i * 8 + 3, none⟩) hb).trans (he 3 _ rfl)
    have e4 : w1.cell? ⟨b, o + i * 8 + 4, none⟩ = some (.int .u64 x.req.b) := (kw1.cell (p := ⟨b, o + i * 8 + 4, none⟩) hb).trans (he 4 _ rfl)
    have e5 : w1.cell? ⟨b, o + i * 8 + 5, none⟩ = some (.int .u64 x.req.c) := (kw1.cell (p := ⟨b, o + i * 8 + 5, none⟩) hb).trans (he 5 _ rfl)
    have e6 : w1.cell? ⟨b, o + i * 8 + 6, none⟩ = some (.int .u64 x.req.d) := (kw1.cell (p := ⟨b, o + i * 8 + 6, none⟩) hb).trans (he 6 _ rfl)
    have e7 : w1.cell? ⟨b, o + i * 8 + 7, none⟩ = some (.int .i64 x.node) := (kw1.cell (p := ⟨b, o + i * 8 + 7, none⟩) hb).trans (he 7 _ rfl)
    have hbw : b < w1.heap.size := by omega
    clear he
    go_wp2
    refine bodyPost_ret (v := .tuple #[aggP x, .bool true]) ?_ rfl ?_
    · simp [results, Try.results10, go_sem, *]
    · refine ⟨.inr ⟨i, hi, HP.out, by rw [HX.out]⟩, ?_⟩
      repeat (first | with_reducible exact kw1 | with_reducible refine Below.setCell ?_ ?_ _)
      all_goals (show w.heap.size ≤ w.heap.size + 1; omega)
end Go.Proofs.Ytpjoihafpjnipaa

/- Are two states alike? The program's and the reference's Same of layer 5. -/
namespace Go.Proofs.Ytpjoihafpjnipaa
set_option linter.unusedSimpArgs false
open Go.RowKit
set_option linter.unusedVariables false

def PodsEqRel (l m : List PodD) (W : World) (B : Nat) (i : Value) (wr : World) : Prop := ∃ k : Nat, k ≤ l.length ∧ i = .int .i64 k ∧ podsEq (l.drop k) (m.drop k) = podsEq l m ∧ Below B W wr
abbrev stateV (A : Option Addr) (n c : Nat) (p s : Int) : Value := .agg #[.slice A n c, .int .i64 p, .int .i64 s]
end Go.Proofs.Ytpjoihafpjnipaa

/- Plain mathematics of numbers as bytes; no program stands in it. -/
namespace Go.Proofs.Ytpjoihafpjnipaa
set_option linter.unusedSimpArgs false

/-- A number's bytes: seven bits a byte, the lowest first. -/
def enc (n : Int) : List Int := if n < 128 then [n] else (n % 128 + 128) :: enc (n / 128)
  termination_by n.toNat
  decreasing_by omega

theorem enc_lt {n : Int} (h : n < 128) : enc n = [n] := by rw [enc, if_pos h]
theorem enc_ge {n : Int} (h : ¬ n < 128) : enc n = (n % 128 + 128) :: enc (n / 128) := by rw [enc, if_neg h]

def encs : List Int → List Int
  | [] => []
  | n :: l => enc n ++ encs l
theorem encs_append (a b : List Int) : encs (a ++ b) = encs a ++ encs b := by
  induction a with
  | nil => rfl
  | cons n l ih => simp [encs, ih]
theorem encs_one (n : Int) : encs [n] = enc n := by simp [encs]

def pw (i : Nat) : Int := 128 ^ i
theorem pw_zero : pw 0 = 1 := rfl
theorem pw_succ (i : Nat) : pw (i + 1) = 128 * pw i := by unfold pw; rw [Int.pow_succ, Int.mul_comm]
theorem pw_pos (i : Nat) : 0 < pw i := Int.pow_pos (by decide)
theorem pw_le {i j : Nat} (h : i ≤ j) : pw i ≤ pw j := by
  induction h with
  | refl => exact Int.le_refl _
  | step _ ih => rw [pw_succ]; have := pw_pos i; omega
theorem pw_9 : pw 9 = 9223372036854775808 := by decide
theorem pw_8 : pw 8 = 72057594037927936 := by decide

theorem enc_len_pos (n : Int) : 1 ≤ (enc n).length := by
  by_cases h : n < 128
  · rw [enc_lt h]; simp
  · rw [enc_ge h]; simp
theorem enc_ne (n : Int) : enc n ≠ [] := by
  have := enc_len_pos n
  intro h
  rw [h] at this
  simp at this
theorem enc_len_le (k : Nat) : ∀ n : Int, n < pw (k + 1) → (enc n).length ≤ k + 1 := by
  induction k with
  | zero => intro n h; rw [pw_succ, pw_zero] at h; rw [enc_lt (by omega)]; simp
  | succ k ih =>
    intro n h
    by_cases h1 : n < 128
    · rw [enc_lt h1]; simp
    · rw [enc_ge h1]
      have := ih (n / 128) (by rw [pw_succ] at h; omega)
      simp
      omega
theorem enc_len_ge (k : Nat) : ∀ n : Int, pw k ≤ n → k + 1 ≤ (enc n).length := by
  induction k with
  | zero => intro n _; exact enc_len_pos n
  | succ k ih =>
    intro n h
    have hp := pw_pos k
    rw [pw_succ] at h
    rw [enc_ge (by omega)]
    have := ih (n / 128) (by omega)
    simp
    omega
theorem enc_len_ten (n : Int) (h : n < 18446744073709551616) : (enc n).length ≤ 10 := by
  have e : pw 10 = 1180591620717411303424 := by decide
  exact enc_len_le 9 n (by rw [e]; omega)
theorem enc_bytes (n : Int) (h : 0 ≤ n) : ∀ c ∈ enc n, 0 ≤ c ∧ c < 256 := by
  induction n using enc.induct with
  | case1 n h1 => rw [enc_lt h1]; intro c hc; simp at hc; omega
  | case2 n h1 ih =>
    rw [enc_ge h1]
    intro c hc
    simp at hc
    rcases hc with rfl | hc
    · omega
    · exact ih (by omega) c hc

def Nums (l : List Int) : Prop := ∀ n ∈ l, 0 ≤ n ∧ n < 18446744073709551616
def Octs (l : List Int) : Prop := ∀ c ∈ l, 0 ≤ c ∧ c < 256
theorem Nums.append {a b : List Int} (ha : Nums a) (hb : Nums b) : Nums (a ++ b) := fun n hn => by
  rcases List.mem_append.1 hn with h | h
  · exact ha n h
  · exact hb n h
theorem Nums.take {a : List Int} (ha : Nums a) (k : Nat) : Nums (a.take k) := fun n hn => ha n (List.mem_of_mem_take hn)
theorem Octs.drop {a : List Int} (ha : Octs a) (k : Nat) : Octs (a.drop k) := fun n hn => ha n (List.mem_of_mem_drop hn)
theorem encs_octs {l : List Int} (h : Nums l) : Octs (encs l) := by
  induction l with
  | nil => intro c hc; simp [encs] at hc
  | cons n l ih =>
    intro c hc
    rcases List.mem_append.1 hc with h1 | h1
    · exact enc_bytes n (h n (by simp)).1 c h1
    · exact ih (fun m hm => h m (by simp [hm])) c h1
theorem encs_len_le {l : List Int} (h : Nums l) : (encs l).length ≤ 10 * l.length := by
  induction l with
  | nil => simp [encs]
  | cons n l ih =>
    have h1 := enc_len_ten n (h n (by simp)).2
    have h2 := ih (fun m hm => h m (by simp [hm]))
    simp [encs]
    omega
theorem encs_len_ge (l : List Int) : l.length ≤ (encs l).length := by
  induction l with
  | nil => simp [encs]
  | cons n l ih =>
    have h1 := enc_len_pos n
    simp [encs]
    omega

/-- What a reader of bytes finds from the i-th byte of a number on, n being what the bytes before are worth: the number and how many bytes it has; 0 bytes: none. -/
def scan : List Int → Nat → Int → Int × Nat
  | [], _, _ => (0, 0)
  | c :: r, i, n =>
    if i = 9 ∧ 1 < c then (0, 0)
    else if 128 ≤ c then scan r (i + 1) (n + (c - 128) * pw i)
    else if c = 0 ∧ 0 < i then (0, 0)
    else (n + c * pw i, i + 1)

theorem scan_enc (v : Int) (r : List Int) : ∀ (i : Nat) (n : Int), 0 ≤ v → 0 ≤ n → (0 < v ∨ i = 0) → n + v * pw i < 18446744073709551616 →
    scan (enc v ++ r) i n = (n + v * pw i, i + (enc v).length) := by
  induction v using enc.induct with
  | case1 v h =>
    intro i n h0 hn hz hs
    rw [enc_lt h]
    have h9 : ¬ (i = 9 ∧ 1 < v) := by
      rintro ⟨rfl, h1⟩
      rw [pw_9] at hs
      omega
    have hz' : ¬ (v = 0 ∧ 0 < i) := by omega
    simp only [List.cons_append, List.nil_append, scan, if_neg h9, if_neg (show ¬ 128 ≤ v by omega), if_neg hz', List.length_singleton]
  | case2 v h ih =>
    intro i n h0 hn hz hs
    rw [enc_ge h]
    have h9 : ¬ (i = 9 ∧ 1 < v % 128 + 128) := by
      rintro ⟨rfl, h1⟩
      rw [pw_9] at hs
      omega
    have hp := pw_pos i
    have e : n + (v % 128 + 128 - 128) * pw i + v / 128 * pw (i + 1) = n + v * pw i := by
      rw [pw_succ]
      have hv : v = v / 128 * 128 + v % 128 := by omega
      have : v * pw i = (v / 128 * 128 + v % 128) * pw i := by rw [← hv]
      rw [this, Int.add_mul, Int.mul_assoc, show v % 128 + 128 - 128 = v % 128 by omega]
      omega
    have hm : 0 ≤ (v % 128 + 128 - 128) * pw i := Int.mul_nonneg (by omega) (by omega)
    have := ih (i + 1) (n + (v % 128 + 128 - 128) * pw i) (by omega) (by omega) (by omega) (by rw [e]; exact hs)
    simp only [List.cons_append, scan, if_neg h9, if_pos (show 128 ≤ v % 128 + 128 by omega), this, List.length_cons, e]
    congr 1
    omega

theorem scan_inv (bs : List Int) : ∀ (i : Nat) (n : Int), Octs bs → i ≤ 9 →
    scan bs i n = (0, 0) ∨ ∃ v rest, bs = enc v ++ rest ∧ 0 ≤ v ∧ (0 < v ∨ i = 0) ∧ v * pw i + pw i ≤ 18446744073709551616 ∧ scan bs i n = (n + v * pw i, i + (enc v).length) := by
  induction bs with
  | nil => intro i n _ _; exact .inl rfl
  | cons c r ih =>
    intro i n hb hi
    have hc := hb c (by simp)
    have hr : Octs r := fun x hx => hb x (by simp [hx])
    by_cases h9 : i = 9 ∧ 1 < c
    · left; simp only [scan, if_pos h9]
    by_cases h1 : 128 ≤ c
    · have hi9 : i + 1 ≤ 9 := by omega
      rcases ih (i + 1) (n + (c - 128) * pw i) hr hi9 with h | ⟨v, rest, rfl, hv0, hv1, hle, hs⟩
      · left; simp only [scan, if_neg h9, if_pos h1, h]
      · right
        have hd : (v * 128 + (c - 128)) / 128 = v := by omega
        have hm : (v * 128 + (c - 128)) % 128 + 128 = c := by omega
        have he : enc (v * 128 + (c - 128)) = c :: enc v := by rw [enc_ge (by omega), hd, hm]
        have hp := pw_pos i
        have hq : (c - 128) * pw i + pw i ≤ 128 * pw i := by
          have : (c - 128 + 1) * pw i ≤ 128 * pw i := Int.mul_le_mul_of_nonneg_right (by omega) (by omega)
          rw [Int.add_mul] at this
          omega
        have hx : (v * 128 + (c - 128)) * pw i = v * pw (i + 1) + (c - 128) * pw i := by rw [pw_succ, Int.add_mul, Int.mul_assoc]
        refine ⟨v * 128 + (c - 128), rest, by rw [he]; rfl, by omega, by omega, ?_, ?_⟩
        · rw [hx]; rw [pw_succ] at hle ⊢; omega
        · simp only [scan, if_neg h9, if_pos h1, hs, he, hx, List.length_cons]
          congr 1
          · omega
          · omega
    · by_cases h0 : c = 0 ∧ 0 < i
      · left; simp only [scan, if_neg h9, if_neg h1, if_pos h0]
      · right
        refine ⟨c, r, by rw [enc_lt (by omega)]; rfl, hc.1, by omega, ?_, ?_⟩
        · by_cases e9 : i = 9
          · subst e9; rw [pw_9]; omega
          · have h8 := pw_le (show i ≤ 8 by omega)
            rw [pw_8] at h8
            have hp := pw_pos i
            have : (c + 1) * pw i ≤ 128 * pw i := Int.mul_le_mul_of_nonneg_right (by omega) (by omega)
            rw [Int.add_mul] at this
            omega
        · rw [enc_lt (by omega)]
          simp only [scan, if_neg h9, if_neg h1, if_neg h0, List.length_singleton]

/-- The bytes begin with no number. -/
def Miss (bs : List Int) : Prop := scan bs 0 0 = (0, 0)
theorem scan_hit (v : Int) (r : List Int) (h0 : 0 ≤ v) (h1 : v < 18446744073709551616) : scan (enc v ++ r) 0 0 = (v, (enc v).length) := by
  have := scan_enc v r 0 0 h0 (by omega) (by omega) (by rw [pw_zero]; omega)
  rw [this, pw_zero]
  congr 1 <;> omega
theorem hit_or_miss (bs : List Int) (hb : Octs bs) : Miss bs ∨ ∃ v rest, bs = enc v ++ rest ∧ 0 ≤ v ∧ v < 18446744073709551616 := by
  rcases scan_inv bs 0 0 hb (by omega) with h | ⟨v, rest, h1, h2, _, h3, _⟩
  · exact .inl h
  · rw [pw_zero] at h3
    exact .inr ⟨v, rest, h1, h2, by omega⟩

theorem nums_cons {n : Int} {l : List Int} (h1 : 0 ≤ n ∧ n < 18446744073709551616) (h : Nums l) : Nums (n :: l) := fun m hm => by
  rcases List.mem_cons.1 hm with rfl | hm
  · exact h1
  · exact h m hm
/-- Any bytes are the bytes of numbers, and of nothing more; or of numbers, and then of what begins with none. -/
theorem all_parts (m : Nat) : ∀ bs : List Int, bs.length ≤ m → Octs bs → ∃ ns rest, bs = encs ns ++ rest ∧ Nums ns ∧ (rest = [] ∨ (rest ≠ [] ∧ Miss rest)) := by
  induction m with
  | zero => intro bs h _; exact ⟨[], [], by simp at h; simp [h, encs], fun _ h => by simp at h, .inl rfl⟩
  | succ m ih =>
    intro bs h hb
    by_cases he : bs = []
    · subst he; exact ⟨[], [], rfl, fun _ h => by simp at h, .inl rfl⟩
    rcases hit_or_miss bs hb with hm | ⟨v, rest, rfl, h0, h1⟩
    · exact ⟨[], bs, rfl, fun _ h => by simp at h, .inr ⟨he, hm⟩⟩
    · have hl := enc_len_pos v
      obtain ⟨ns, r2, h2, h3, h4⟩ := ih rest (by simp at h; omega) (fun c hc => hb c (by simp [hc]))
      exact ⟨v :: ns, r2, by rw [h2]; simp [encs], nums_cons ⟨h0, h1⟩ h3, h4⟩
theorem get_parts (k : Nat) : ∀ bs : List Int, Octs bs → ∃ ns rest, bs = encs ns ++ rest ∧ Nums ns ∧ (ns.length = k ∨ (ns.length < k ∧ Miss rest)) := by
  induction k with
  | zero => intro bs _; exact ⟨[], bs, rfl, fun _ h => by simp at h, .inl rfl⟩
  | succ k ih =>
    intro bs hb
    rcases hit_or_miss bs hb with hm | ⟨v, rest, rfl, h0, h1⟩
    · exact ⟨[], bs, rfl, fun _ h => by simp at h, .inr ⟨by simp, hm⟩⟩
    · obtain ⟨ns, r2, h2, h3, h4⟩ := ih rest (fun c hc => hb c (by simp [hc]))
      refine ⟨v :: ns, r2, by rw [h2]; simp [encs], nums_cons ⟨h0, h1⟩ h3, ?_⟩
      rcases h4 with h4 | ⟨h4, h5⟩
      · exact .inl (by simp [h4])
      · exact .inr ⟨by simp; omega, h5⟩
end Go.Proofs.Ytpjoihafpjnipaa

/- Words for memory that the walks share: a slice that reads as a list of values, nil or not; what stays of it. -/
namespace Go.Proofs.Ytpjoihafpjnipaa
set_option linter.unusedSimpArgs false
open Go.RowKit
set_option linter.unusedVariables false

theorem old_cells {W w1 : World} (hb : Below W.heap.size W w1) : (∀ b o, b < W.heap.size → w1.cell? ⟨b, o, none⟩ = W.cell? ⟨b, o, none⟩) ∧ (∀ b o, b < W.heap.size → w1.frozen? ⟨b, o, none⟩ = W.frozen? ⟨b, o, none⟩) :=
  ⟨fun b o h => hb.cell (p := ⟨b, o, none⟩) h, fun b o h => hb.frozen (p := ⟨b, o, none⟩) h⟩

/-- The slice '.slice A xs.length c' reads as xs in w, and lies below block B. -/
def Row (w : World) (B : Nat) (A : Option Addr) (xs : List Value) : Prop :=
  xs = [] ∨ ∃ b o, A = some ⟨b, o, none⟩ ∧ b < B ∧ ∀ j (h : j < xs.length), w.cell? ⟨b, o + j, none⟩ = some xs[j]

theorem Row.nil {w : World} {B : Nat} {A : Option Addr} : Row w B A [] := .inl rfl
theorem Row.below {w w' : World} {B B' : Nat} {A : Option Addr} {xs : List Value} (h : Row w B A xs) (hb : Below B' w w') (hB : B ≤ B') : Row w' B A xs := by
  rcases h with h | ⟨b, o, h1, h2, h3⟩
  · exact .inl h
  · exact .inr ⟨b, o, h1, h2, fun j hj => (hb.cell (p := ⟨b, o + j, none⟩) (Nat.lt_of_lt_of_le h2 hB)).trans (h3 j hj)⟩
theorem Row.more {w : World} {B B' : Nat} {A : Option Addr} {xs : List Value} (h : Row w B A xs) (hB : B ≤ B') : Row w B' A xs := by
  rcases h with h | ⟨b, o, h1, h2, h3⟩
  · exact .inl h
  · exact .inr ⟨b, o, h1, Nat.lt_of_lt_of_le h2 hB, h3⟩
theorem Row.at {w : World} {B : Nat} {A : Option Addr} {xs : List Value} (h : Row w B A xs) {k : Nat} (hk : k < xs.length) :
    ∃ b o, A = some ⟨b, o, none⟩ ∧ b < B ∧ ∀ j (h : j < xs.length), w.cell? ⟨b, o + j, none⟩ = some xs[j] := by
  rcases h with h | h
  · subst h; simp at hk
  · exact h
theorem Row.take {w : World} {B : Nat} {A : Option Addr} {xs : List Value} (h : Row w B A xs) (k : Nat) : Row w B A (xs.take k) := by
  rcases h with h | ⟨b, o, h1, h2, h3⟩
  · exact .inl (by simp [h])
  · exact .inr ⟨b, o, h1, h2, fun j hj => by rw [List.getElem_take]; exact h3 j (by simp at hj; omega)⟩
theorem Row.drop {w : World} {B : Nat} {A : Option Addr} {xs : List Value} (h : Row w B A xs) {k c : Nat} (hc : xs.length ≤ c) :
    Row w B (if c = k then A else A.map (·.add k)) (xs.drop k) := by
  rcases h with h | ⟨b, o, h1, h2, h3⟩
  · exact .inl (by simp [h])
  · by_cases hk : k < xs.length
    · refine .inr ⟨b, o + k, ?_, h2, fun j hj => ?_⟩
      · rw [if_neg (by omega), h1]; simp [Addr.add_lit]
      · rw [List.getElem_drop, Nat.add_assoc]; exact h3 (k + j) (by simp at hj; omega)
    · exact .inl (by simp; omega)
/-- A row of the call's own reads as what it holds. -/
theorem Row.of_own {w : World} {base n c : Nat} {e : TypeId} {A : Option Addr} {xs : List Value} (h : w.ownsRow base e 1 (.slice A n c) n xs) : Row w w.heap.size A xs ∧ n = xs.length := by
  have hn : n = xs.length := by have := h.1; omega
  refine ⟨?_, hn⟩
  rcases h.2 with ⟨_, h0⟩ | ⟨g, cap, cur, hv, hb, hg, _⟩
  · exact .inl (List.eq_nil_of_length_eq_zero (by omega))
  · injection hv with hA _ _
    subst hA
    refine .inr ⟨g, 0, rfl, (Array.getElem?_eq_some_iff.1 hg).1, fun j hj => ?_⟩
    have := h.cells (g := g) rfl j xs[j] (List.getElem?_eq_getElem hj)
    rwa [Addr.add_lit] at this
theorem own_form {w : World} {base n : Nat} {e : TypeId} {v : Value} {xs : List Value} (h : w.ownsRow base e 1 v n xs) : ∃ A c, v = .slice A n c ∧ n ≤ c ∧ n = xs.length ∧ (A = none → n = 0 ∧ c = 0) := by
  have hn : n = xs.length := by have := h.1; omega
  rcases h.2 with ⟨hv, h0⟩ | ⟨g, cap, cur, hv, hb, hg, hc, _⟩
  · exact ⟨none, 0, by rw [hv, h0], by omega, hn, fun _ => ⟨h0, rfl⟩⟩
  · exact ⟨_, cap, hv, hc, hn, fun h => by cases h⟩
theorem own_below {w w' : World} {B base n : Nat} {e : TypeId} {v : Value} {xs : List Value} (h : w.ownsRow base e 1 v n xs) (hb : Below B w w') (hB : w.heap.size ≤ B) : w'.ownsRow base e 1 v n xs := by
  refine ⟨h.1, ?_⟩
  rcases h.2 with h0 | ⟨g, cap, cur, hv, hb1, hg, rest⟩
  · exact .inl h0
  · exact .inr ⟨g, cap, cur, hv, hb1, (hb.block g (Nat.lt_of_lt_of_le (Array.getElem?_eq_some_iff.1 hg).1 hB)).trans hg, rest⟩

abbrev u8s (l : List Int) : List Value := l.map (Value.int .u8)
abbrev u64s (l : List Int) : List Value := l.map (Value.int .u64)

theorem Try.info5 : (Try.prog.info? 5).map (fun i => (i.zero, i.size, i.bytes)) = some (some (.int .u8 0), 1, 1) := by kernel_rfl
theorem Try.info28 : (Try.prog.info? 28).map (fun i => (i.zero, i.size, i.bytes)) = some (some (.int .u64 0), 1, 8) := by kernel_rfl

theorem ret_val {a b : Value} (h : a = b) : Ending.returned a = .returned b := by rw [h]

/-- What one append to a row of the call's own leaves. -/
theorem push_own {B : Nat} {e : TypeId} {w wr w1 : World} {v : Value} {n : Nat} {xs : List Value} {o : Obj}
    (hB : B ≤ wr.heap.size) (hown : wr.ownsRow B e 1 v n xs) (hb : Below B w wr) (hgrow : (wr.alloc o).grownBy w1 v.ownBlock) : Below B w w1 :=
  (hb.alloc hB o).grown hgrow (by simp; omega) (fun j hj => (hown.lt j hj).1)
end Go.Proofs.Ytpjoihafpjnipaa

/- What an append to a row of the call's own leaves: one element; a slice that reads as a list, nil or not. -/
namespace Go.Proofs.Ytpjoihafpjnipaa
set_option linter.unusedSimpArgs false
open Go.RowKit
set_option linter.unusedVariables false

theorem one_u8s (l : List Int) : ∀ u ∈ u8s l, u.oneCell' = true := by
  intro u hu; simp at hu; obtain ⟨x, _, rfl⟩ := hu; rfl
theorem one_u64s (l : List Int) : ∀ u ∈ u64s l, u.oneCell' = true := by
  intro u hu; simp at hu; obtain ⟨x, _, rfl⟩ := hu; rfl

section
variable {ops : Array Oper} {rest : List Oper} {o : Oper} {a : Act} {Q : Exit → Act → World → Prop} {wr : World}

theorem wpList_push (t e : TypeId) (z : Value) (bytes : Nat) (ht : Try.prog.underlying t = some (.slice e)) (hinfo : (Try.prog.info? e).map (fun i => (i.zero, i.size, i.bytes)) = some (some z, 1, bytes)) (hz : z.cells.size = 1) (hby : bytes ≤ 8)
    (hgd : o.guard = none) (s x : Operand) (ho : o.op = .call { callee := .builtin .append, args := #[s, x], argTypes := #[t, t] })
    (B : Nat) (v : Value) (xs : List Value) (u : Value) (hu : u.oneCell' = true) (hown : wr.ownsRow B e 1 v xs.length xs) (hB : B ≤ wr.heap.size) (hl : xs.length ≤ 2000000)
    (hs : a.eval s = v) (hx : a.eval x = .slice (some ⟨wr.heap.size, 0, none⟩) 1 1)
    (h : ∀ v' w', w'.ownsRow B e 1 v' (xs ++ [u]).length (xs ++ [u]) → Below B wr w' → B ≤ w'.heap.size → wpList Try.prog ops Q rest (a.put o.dst v') w') :
    wpList Try.prog ops Q (o :: rest) a (wr.alloc (.cells #[u] e)) := by
  obtain ⟨i0, hi, hz0, hz1, hz2⟩ := info_parts hinfo
  refine wpList_append_own _ hgd s x t ho B e i0 z 1 bytes ht hi hz0 hz1 hz2 hz (by decide) v xs.length xs hs (hown.alloc _) ⟨wr.heap.size, 0, none⟩ 1 1 [u] hx rfl ?_ ?_ ?_ ?_ ?_ ?_
  · intro j y hy
    rcases j with _ | j
    · simp at hy; subst hy; simp [Addr.add]
    · simp at hy
  · intro y hy; simp at hy; subst hy; exact hu
  · unfold maxLen; omega
  · have : (xs.length + 1) * bytes ≤ (xs.length + 1) * 8 := Nat.mul_le_mul_left _ hby
    omega
  · simp; omega
  · intro v' w' h1 h2 _
    exact h v' w' (by simpa using h1) (push_own hB hown (Below.refl _ _) h2) (by have := h2.size; simp at this; omega)

theorem wpList_cat (t e : TypeId) (z : Value) (bytes : Nat) (ht : Try.prog.underlying t = some (.slice e)) (hinfo : (Try.prog.info? e).map (fun i => (i.zero, i.size, i.bytes)) = some (some z, 1, bytes)) (hz : z.cells.size = 1) (hby : bytes ≤ 8)
    (hgd : o.guard = none) (s x : Operand) (ho : o.op = .call { callee := .builtin .append, args := #[s, x], argTypes := #[t, t] })
    {n : Nat} (B R : Nat) (v : Value) (xs ys : List Value) (A : Option Addr) (c : Nat) (hu : ∀ u ∈ ys, u.oneCell' = true) (hnil : A = none → c = 0) (hown : wr.ownsRow B e 1 v xs.length xs) (hrow : Row wr R A ys) (hB : B ≤ wr.heap.size) (hl : xs.length + ys.length ≤ 2000000)
    (hs : a.eval s = v) (hx : a.eval x = .slice A n c) (hn : n = ys.length)
    (h : ∀ v' w', w'.ownsRow B e 1 v' (xs ++ ys).length (xs ++ ys) → Below B wr w' → B ≤ w'.heap.size → wpList Try.prog ops Q rest (a.put o.dst v') w') :
    wpList Try.prog ops Q (o :: rest) a wr := by
  obtain ⟨i0, hi, hz0, hz1, hz2⟩ := info_parts hinfo
  subst hn
  have fin : ∀ v' w', w'.ownsRow B e 1 v' (xs.length + ys.length) (xs ++ ys) → wr.grownBy w' v.ownBlock → wpList Try.prog ops Q rest (a.put o.dst v') w' := fun v' w' h1 h2 =>
    h v' w' (by simpa using h1) ((Below.refl B wr).grown h2 hB (fun j hj => (hown.lt j hj).1)) (by have := h2.size; omega)
  rcases A with _ | ad
  · have h0 : ys = [] := by
      rcases hrow with h0 | ⟨_, _, h0, _⟩
      · exact h0
      · cases h0
    subst h0
    have := hnil rfl
    subst this
    exact wpList_append_own_none hgd s x t ho B e i0 1 ht hi v xs.length xs hs hown hx (fin v wr (by simpa using hown) (World.grownBy.refl _ _))
  · refine wpList_append_own _ hgd s x t ho B e i0 z 1 bytes ht hi hz0 hz1 hz2 hz (by decide) v xs.length xs hs hown ad ys.length c ys hx (by simp) ?_ hu ?_ ?_ hB (fun v' w' h1 h2 _ => fin v' w' h1 h2)
    · intro j y hy
      rcases hrow with h0 | ⟨b, o', h0, _, h1⟩
      · subst h0; simp at hy
      · have h0' := Option.some.inj h0
        subst h0'
        obtain ⟨hj, rfl⟩ := List.getElem?_eq_some_iff.1 hy
        rw [Addr.add_lit]
        exact h1 j hj
    · unfold maxLen; omega
    · have : (xs.length + ys.length) * bytes ≤ (xs.length + ys.length) * 8 := Nat.mul_le_mul_left _ hby
      omega
end
end Go.Proofs.Ytpjoihafpjnipaa

/- What is told is new memory: a copy of a list of pods. -/
namespace Go.Proofs.Ytpjoihafpjnipaa
set_option linter.unusedSimpArgs false
open Go.RowKit
set_option linter.unusedVariables false

theorem infoPod : (Try.prog.info? 32).map (fun i => (i.zero, i.size, i.bytes)) = some (some (.agg #[.int .i64 0, .int .i64 0, .int .i64 0, .int .u64 0, .int .u64 0, .int .u64 0, .int .u64 0, .int .i64 0]), 8, 64) := by kernel_rfl
theorem underPods : Try.prog.underlying 22 = some (.slice 32) := by kernel_rfl
theorem onePod (x : PodD) : ∀ u ∈ cellsP x, u.oneCell' = true := by
  intro u hu; simp only [cellsP, List.mem_cons, List.not_mem_nil, or_false] at hu
  rcases hu with rfl | rfl | rfl | rfl | rfl | rfl | rfl | rfl <;> rfl
theorem info_parts3 {P : Program} {t : TypeId} {z : Value} {s b : Nat} (h : (P.info? t).map (fun i => (i.zero, i.size, i.bytes)) = some (some z, s, b)) : ∃ i, P.info? t = some i ∧ i.zero = some z ∧ i.size = s ∧ i.bytes = b := by
  cases hi : P.info? t with
  | none => rw [hi] at h; cases h
  | some i =>
    rw [hi] at h
    have h := Option.some.inj h
    simp only [Prod.mk.injEq] at h
    exact ⟨i, rfl, h.1, h.2.1, h.2.2⟩
theorem flatMap_len {α : Type} {size : Nat} {cells : α → List Value} (hc : ∀ x, (cells x).length = size) : ∀ xs : List α, (xs.flatMap cells).length = xs.length * size
  | [] => by simp
  | x :: r => by rw [List.flatMap_cons, List.length_append, hc, flatMap_len hc r, List.length_cons, Nat.add_one_mul]; omega
section
variable {ops : Array Oper} {rest : List Oper} {o : Oper} {a : Act} {Q : Exit → Act → World → Prop} {wr : World}
/-- append of all records of a slice, nil or not, to a row of the call's own. -/
theorem wpList_recs {α : Type} {cells : α → List Value} (t e : TypeId) (z : Value) (size bytes : Nat) (ht : Try.prog.underlying t = some (.slice e)) (hinfo : (Try.prog.info? e).map (fun i => (i.zero, i.size, i.bytes)) = some (some z, size, bytes)) (hz : z.cells.size = size) (hsz : 0 < size) (hby : bytes ≤ 1000)
    (hc : ∀ x, (cells x).length = size) (hu : ∀ x, ∀ u ∈ cells x, u.oneCell' = true)
    (hgd : o.guard = none) (s x : Operand) (ho : o.op = .call { callee := .builtin .append, args := #[s, x], argTypes := #[t, t] })
    (B R : Nat) (v : Value) (n m : Nat) (xs ys : List α) (A : Option Addr) (c : Nat) (hnil : A = none → c = 0) (hown : wr.ownsRow B e size v n (xs.flatMap cells)) (hrow : Recs size cells wr R A ys) (hB : B ≤ wr.heap.size) (hl : n + m ≤ 2000000)
    (hs : a.eval s = v) (hx : a.eval x = .slice A m c) (hm : m = ys.length)
    (h : ∀ v' w', w'.ownsRow B e size v' (n + m) ((xs ++ ys).flatMap cells) → Below B wr w' → B ≤ w'.heap.size → wpList Try.prog ops Q rest (a.put o.dst v') w') :
    wpList Try.prog ops Q (o :: rest) a wr := by
  obtain ⟨i0, hi, hz0, hz1, hz2⟩ := info_parts3 hinfo
  have fin : ∀ v' w', w'.ownsRow B e size v' (n + m) (xs.flatMap cells ++ ys.flatMap cells) → wr.grownBy w' v.ownBlock → wpList Try.prog ops Q rest (a.put o.dst v') w' := fun v' w' h1 h2 =>
    h v' w' (by rw [List.flatMap_append]; exact h1) ((Below.refl B wr).grown h2 hB (fun j hj => (hown.lt j hj).1)) (by have := h2.size; omega)
  rcases A with _ | ad
  · have h0 : ys = [] := by
      rcases hrow with h0 | ⟨_, _, h0, _⟩
      · exact h0
      · cases h0
    subst h0
    have := hnil rfl
    subst this
    have hm0 : m = 0 := hm
    subst hm0
    exact wpList_append_own_none hgd s x t ho B e i0 size ht hi v n (xs.flatMap cells) hs hown hx (fin v wr (by simpa using hown) (World.grownBy.refl _ _))
  · refine wpList_append_own _ hgd s x t ho B e i0 z size bytes ht hi hz0 hz1 hz2 hz hsz v n (xs.flatMap cells) hs hown ad m c (ys.flatMap cells) hx (by rw [flatMap_len hc, hm]) ?_ ?_ ?_ ?_ hB (fun v' w' h1 h2 _ => fin v' w' h1 h2)
    · intro j y hy
      rcases hrow with h0 | ⟨b, o', h0, _, h1⟩
      · subst h0; simp at hy
      · have h0' := Option.some.inj h0
        subst h0'
        have hj : j < ys.length * size := by have := (List.getElem?_eq_some_iff.1 hy).1; rwa [flatMap_len hc] at this
        have hi : j / size < ys.length := Nat.div_lt_of_lt_mul (by rw [Nat.mul_comm]; exact hj)
        have e1 : j = j / size * size + j % size := by rw [Nat.mul_comm]; exact (Nat.div_add_mod j size).symm
        rw [e1, flatMap_get hc hi (Nat.mod_lt _ hsz)] at hy
        rw [Addr.add_lit]
        have := h1 (j / size) hi (j % size) y hy
        rw [Nat.add_assoc, ← e1] at this
        exact this
    · intro u hu'
      obtain ⟨x, _, hx⟩ := List.mem_flatMap.1 hu'
      exact hu x u hx
    · unfold maxLen; omega
    · have : (n + m) * bytes ≤ (n + m) * 1000 := Nat.mul_le_mul_left _ hby
      omega
end
theorem own_form3 {w : World} {base n size : Nat} {e : TypeId} {v : Value} {xs : List Value} (h : w.ownsRow base e size v n xs) : ∃ A c, v = .slice A n c ∧ n ≤ c ∧ c ≤ maxLen ∧ (A = none → c = 0) := by
  rcases h.2 with ⟨hv, h0⟩ | ⟨g, cap, cur, hv, hb, hg, hc, hm, _⟩
  · exact ⟨none, 0, by rw [hv, h0], by omega, by decide, fun _ => rfl⟩
  · exact ⟨_, cap, hv, hc, hm, fun h => by cases h⟩
/-- A slice of these records in memory of the call's own. -/
def Fresh (l : List PodD) (w : World) (A : Option Addr) (c : Nat) (w' : World) : Prop := w'.ownsRow w.heap.size 32 8 (.slice A l.length c) l.length (l.flatMap cellsP)
theorem lenP (x : PodD) : (cellsP x).length = 8 := rfl
theorem Fresh.out {l : List PodD} {w w' : World} {A : Option Addr} {c : Nat} (h : Fresh l w A c w') : Out 8 cellsP w' l A c := out_of_own lenP rfl h
theorem Fresh.recs {l : List PodD} {w w' : World} {A : Option Addr} {c : Nat} (h : Fresh l w A c w') : Recs 8 cellsP w' w'.heap.size A l := h.out.2.2.2
/-- A row of the call's own is told, and a box of the call's own is written. -/
def OwnAt (B : Nat) (l : List PodD) (w : World) (A : Option Addr) (c : Nat) : Prop := w.ownsRow B 32 8 (.slice A l.length c) l.length (l.flatMap cellsP)
theorem OwnAt.set {B : Nat} {l : List PodD} {w : World} {A : Option Addr} {c : Nat} (h : OwnAt B l w A c) {p : Addr} (hp : p.block < B) (v : Value) : OwnAt B l (w.setCell p v) A c := by
  refine ⟨h.1, ?_⟩
  rcases h.2 with h0 | ⟨g, cap, cur, hv, hb, hg, rest⟩
  · exact .inl h0
  · exact .inr ⟨g, cap, cur, hv, hb, (Below.heap_setCell w p v g (by omega)).trans hg, rest⟩
theorem OwnAt.out {B : Nat} {l : List PodD} {w : World} {A : Option Addr} {c : Nat} (h : OwnAt B l w A c) : Out 8 cellsP w l A c := out_of_own lenP rfl h
theorem OwnAt.of {l : List PodD} {w w' : World} {A : Option Addr} {c : Nat} (h : Fresh l w A c w') : OwnAt w.heap.size l w' A c := h
theorem own_empty (w : World) (B g : Nat) (e : TypeId) (hg : g = w.heap.size) (hB : B ≤ w.heap.size) : (w.alloc (.cells #[] e)).ownsRow B e 8 (.slice (some ⟨g, 0, none⟩) 0 0) 0 (([] : List PodD).flatMap cellsP) := by
  subst hg
  exact ⟨rfl, .inr ⟨w.heap.size, 0, #[], rfl, hB, heap_alloc_new w _, Nat.le_refl _, by decide, rfl, rfl⟩⟩
theorem below_last {B : Nat} {w w' : World} {o : Obj} (h : Below B (w.alloc o) w') (hB : B ≤ w.heap.size) : Below B w w' := ((Below.refl B w).alloc hB o).trans h
theorem below_three (w : World) (o o' o'' : Obj) : Below w.heap.size w (((w.alloc o).alloc o').alloc o'') := (below_two w o o').alloc (by simp; omega) o''
theorem below_four (w : World) (o o' o'' o3 : Obj) : Below w.heap.size w ((((w.alloc o).alloc o').alloc o'').alloc o3) := (below_three w o o' o'').alloc (by simp; omega) o3
end Go.Proofs.Ytpjoihafpjnipaa

/- The program's Goal of layer 5. -/
namespace Go.Proofs.Ytpjoihafpjnipaa
set_option linter.unusedSimpArgs false
open Go.RowKit
set_option linter.unusedVariables false

def metB (p : PodD) (x : WantD) : Bool := if x.stay then p.node != 0 && vecEq p.req x.req else p.node == 0
def GoalRel (x : List WantD) (l : List PodD) (W : World) (B : Nat) (i : Value) (wr : World) : Prop := ∃ k : Nat, k ≤ x.length ∧ i = .int .i64 k ∧ goalD (x.drop k) l = goalD x l ∧ Below B W wr
end Go.Proofs.Ytpjoihafpjnipaa

namespace Go.Proofs.Ytpjoihafpjnipaa
set_option linter.unusedSimpArgs false
open Go.RowKit
set_option linter.unusedVariables false

/-- A pod that isn't there. -/
def noPod : PodD := ⟨0, 0, 0, ⟨0, 0, 0, 0⟩, 0⟩
def podZ (id : Int) (l : List PodD) : PodD := (podAt id l).getD noPod
theorem podZ_none {id : Int} {l : List PodD} (h : place PodD.id id l 0 < 0) : podZ id l = noPod := by
  rw [podZ, (podAt_none (l := l) (k := 0) (by omega)).2 h]; rfl
theorem podZ_some {id : Int} {l : List PodD} {i : Nat} (hi : i < l.length) (h : place PodD.id id l 0 = i) : podZ id l = l[i] := by
  rw [podZ, podAt_some (l := l) (k := 0) hi (by rw [h]; omega) (by omega)]; rfl
def wellD (m : MoveD) : Bool := if m.kind = 1 ∨ m.kind = 3 then m.over == 0 else if m.kind = 2 then m.node == 0 && m.over == 0 else m.kind == 4
def hereD (nodes : List NodeD) (l : List PodD) (m : MoveD) : Bool :=
  !decide (place PodD.id m.pod l 0 < 0) && ((!decide (place NodeD.id m.node nodes 0 < 0) || m.kind == 2) && (m.kind != 4 || !decide (place PodD.id m.over l 0 < 0)))
def canD (l : List PodD) (m : MoveD) : Bool :=
  if m.kind = 2 then (podZ m.pod l).node != 0 else if m.kind = 3 then (podZ m.pod l).node != 0 && (podZ m.pod l).node != m.node
  else if m.kind = 4 then !((podZ m.pod l).node != 0) && (m.over != m.pod && (podZ m.over l).node == m.node) else !((podZ m.pod l).node != 0)
theorem statePodZ_any (l : List PodD) (id : Int) (A : Option Addr) (n c : Nat) (v1 v2 : Value) (w : World) (hn : n = l.length) (hl : n ≤ 1000) (hr : Recs 8 cellsP w w.heap.size A l) :
    Calls Try.prog 10 #[.agg #[.slice A n c, v1, v2], .int .i64 id] w fun e w' => ∃ b, e = .returned (.tuple #[aggP (podZ id l), .bool b]) ∧ Below w.heap.size w w' := by
  refine (statePod_any l id A n c v1 v2 w hn hl hr).mono ?_
  rintro e w' ⟨⟨hp, rfl⟩ | ⟨i, hi, hp, rfl⟩, hb⟩
  · exact ⟨false, by rw [podZ_none hp]; rfl, hb⟩
  · exact ⟨true, by rw [podZ_some hi hp], hb⟩
/-- Three boxes of the call's own, of three, three and four cells. -/
theorem box3_cells {w wr : World} {x y z x' y' z' a b c d : Value} {t t' t'' : TypeId} (hb : Below (w.heap.size + 3) (((w.alloc (.cells #[x, y, z] t)).alloc (.cells #[x', y', z'] t')).alloc (.cells #[a, b, c, d] t'')) wr) :
    (wr.cell? ⟨w.heap.size, 0, none⟩ = some x ∧ wr.cell? ⟨w.heap.size, 1, none⟩ = some y ∧ wr.cell? ⟨w.heap.size, 2, none⟩ = some z) ∧
    (wr.cell? ⟨w.heap.size + 1, 0, none⟩ = some x' ∧ wr.cell? ⟨w.heap.size + 1, 1, none⟩ = some y' ∧ wr.cell? ⟨w.heap.size + 1, 2, none⟩ = some z') ∧
    (wr.cell? ⟨w.heap.size + 2, 0, none⟩ = some a ∧ wr.cell? ⟨w.heap.size + 2, 1, none⟩ = some b ∧ wr.cell? ⟨w.heap.size + 2, 2, none⟩ = some c ∧ wr.cell? ⟨w.heap.size + 2, 3, none⟩ = some d) := by
  have h2 : Below (w.heap.size + 2) ((w.alloc (.cells #[x, y, z] t)).alloc (.cells #[x', y', z'] t')) wr := ((Below.refl _ _).alloc (by simp) _).trans (hb.mono (by omega))
  obtain ⟨p, q⟩ := box2_cells h2
  refine ⟨p, q, ?_, ?_, ?_, ?_⟩
  all_goals
    rw [hb.cell (by simp), World.cell?_alloc_at _ _ _ _ (by simp)]
    simp
end Go.Proofs.Ytpjoihafpjnipaa
