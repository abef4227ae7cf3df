/- Joined texts, part 4: WV WL PB PC CZ PE FN FO HA WU. -/
import Derived.Test.YtpjoihafpjnipaaZ03
import Derived.Test.YtpjoihafpjnipaaZ01
import Derived.Test.YtpjoihafpjnipaaZ02
import Derived.Sort.Grow
import Derived.Deep.CutRange
import Derived.Deep.QuietTactic
import Derived.BigQuiet
import Derived.Deep.AppendLies
import Derived.Deep.RegionHeld3

/- Sums and differences of amounts, the program's and the reference's, as contracts over amounts. -/
namespace Go.Proofs.Ytpjoihafpjnipaa
set_option linter.unusedSimpArgs false
open Go.RowKit
set_option linter.unusedVariables false

abbrev zeroV : Value := .agg #[.int .u64 0, .int .u64 0, .int .u64 0, .int .u64 0]
theorem add_none4 {x y : V4} (h : addV x y = none) : ¬ (x.a + y.a < 18446744073709551616 ∧ x.b + y.b < 18446744073709551616 ∧ x.c + y.c < 18446744073709551616 ∧ x.d + y.d < 18446744073709551616) := by
  unfold addV at h
  split at h
  · cases h
  · rename_i hs
    simp only [V4.small, V4.add] at hs
    exact fun h => hs (decide_eq_true h)
theorem sub_none4 {x y : V4} (h : subV x y = none) : ¬ (y.a ≤ x.a ∧ y.b ≤ x.b ∧ y.c ≤ x.c ∧ y.d ≤ x.d) := by
  unfold subV at h
  split at h
  · cases h
  · rename_i hs
    simp only [V4.le] at hs
    exact fun h => hs (decide_eq_true h)
/-! Sums of a list of amounts. -/
def atV (l : List V4) (i : Nat) : V4 := (l[i]?).getD .zer
theorem atV_of {l : List V4} {i : Nat} (h : i < l.length) : atV l i = l[i] := by simp [atV, List.getElem?_eq_getElem h]
theorem psum_tot (l : List V4) : ∀ k, k ≤ l.length → psum (fun i => (atV l i).a) k = (totV (l.take k)).a ∧ psum (fun i => (atV l i).b) k = (totV (l.take k)).b ∧ psum (fun i => (atV l i).c) k = (totV (l.take k)).c ∧ psum (fun i => (atV l i).d) k = (totV (l.take k)).d
  | 0, _ => by simp [psum, totV, V4.zer]
  | k + 1, h => by
    obtain ⟨h0, h1, h2, h3⟩ := psum_tot l k (by omega)
    rw [List.take_succ_eq_append_getElem (by omega), tot_append]
    simp only [psum, h0, h1, h2, h3, atV_of (show k < l.length by omega)]
    simp [V4.add, totV, V4.zer]
theorem vecs_at {l : List V4} {w : World} {b o : Nat} (hb : b < w.heap.size) (h : ∀ i (h : i < l.length) j u, (cellsV l[i])[j]? = some u → w.cell? ⟨b, o + i * 4 + j, none⟩ = some u) :
    VecsAt w ⟨b, o, none⟩ l.length (fun i => (atV l i).a) (fun i => (atV l i).b) (fun i => (atV l i).c) (fun i => (atV l i).d) := by
  refine ⟨fun _ => hb, fun i hi => ?_, fun i hi => ?_, fun i hi => ?_, fun i hi => ?_⟩
  all_goals
    rw [Addr.add_lit]
    simp only [atV_of hi]
  · exact h i hi 0 _ rfl
  · exact h i hi 1 _ rfl
  · exact h i hi 2 _ rfl
  · exact h i hi 3 _ rfl
theorem nums_at {l : List V4} (ho : ∀ x ∈ l, x.Ok) : Nums4 (fun i => (atV l i).a) (fun i => (atV l i).b) (fun i => (atV l i).c) (fun i => (atV l i).d) l.length := by
  intro i hi
  simp only [atV_of hi]
  exact ho _ (List.getElem_mem hi)
theorem recs_vecs {l : List V4} {A : Option Addr} {w : World} {B : Nat} (hB : B ≤ w.heap.size) (hr : Recs 4 cellsV w B A l) : ∃ a, (0 < l.length → A = some a) ∧ VecsAt w a l.length (fun i => (atV l i).a) (fun i => (atV l i).b) (fun i => (atV l i).c) (fun i => (atV l i).d) := by
  rcases hr with rfl | ⟨b, o, rfl, hb, h⟩
  · exact ⟨⟨0, 0, none⟩, fun h => by simp at h, ⟨fun h => by simp at h, fun i hi => by simp at hi, fun i hi => by simp at hi, fun i hi => by simp at hi, fun i hi => by simp at hi⟩⟩
  · exact ⟨_, fun _ => rfl, vecs_at (by omega) h⟩
theorem sum_ends {l : List V4} {good bad : Value} {e : Ending} (h : SumEnds (fun i => (atV l i).a) (fun i => (atV l i).b) (fun i => (atV l i).c) (fun i => (atV l i).d) l.length good bad e) :
    (∃ u, sumV l = some u ∧ e = .returned (.tuple #[aggV u, good])) ∨ (sumV l = none ∧ e = .returned (.tuple #[zeroV, bad])) := by
  obtain ⟨h0, h1, h2, h3⟩ := psum_tot l l.length (Nat.le_refl _)
  rw [List.take_of_length_le (Nat.le_refl _)] at h0 h1 h2 h3
  unfold SumEnds Fine at h
  rw [h0, h1, h2, h3] at h
  rcases h with ⟨hf, rfl⟩ | ⟨hf, rfl⟩
  · refine .inl ⟨totV l, ?_, rfl⟩
    unfold sumV
    rw [if_pos (show (totV l).small = true from decide_eq_true hf)]
  · refine .inr ⟨?_, rfl⟩
    unfold sumV
    rw [if_neg]
    intro h
    exact hf (of_decide_eq_true h)
end Go.Proofs.Ytpjoihafpjnipaa

/- What a node has left beside a use: the program's left. -/
namespace Go.Proofs.Ytpjoihafpjnipaa
set_option linter.unusedSimpArgs false
open Go.RowKit
set_option linter.unusedVariables false

/-- Three boxes of the call's own. -/
structure T3 (a b c : List Value) (w V : World) : Prop where
  one : Bf V w.heap.size a
  two : Bf V (w.heap.size + 1) b
  three : Bf V (w.heap.size + 2) c
  below : Below w.heap.size w V
section
variable {a b c : List Value} {w V V' : World}
theorem T3.keep (h : T3 a b c w V) (hb : Below V.heap.size V V') : T3 a b c w V' :=
  ⟨h.one.below hb h.one.lt, h.two.below hb h.two.lt, h.three.below hb h.three.lt, h.below.trans (hb.mono h.below.size)⟩
theorem T3.alloc (h : T3 a b c w V) (o : Obj) : T3 a b c w (V.alloc o) := h.keep ((Below.refl _ V).alloc (Nat.le_refl _) o)
theorem T3.drew (h : T3 a b c w V) : T3 a b c w V.drew := h.keep (Below.refl _ V).drew
theorem T3.new (w : World) (a b c : List Value) (t1 t2 t3 : TypeId) : T3 a b c w (((w.alloc (.cells a.toArray t1)).alloc (.cells b.toArray t2)).alloc (.cells c.toArray t3)) :=
  ⟨((Bf.new w a t1 rfl).alloc _).alloc _, (Bf.new (w.alloc (.cells a.toArray t1)) b t2 (b := w.heap.size + 1) (by simp)).alloc _,
    Bf.new ((w.alloc (.cells a.toArray t1)).alloc (.cells b.toArray t2)) c t3 (b := w.heap.size + 2) (by simp), ((((Below.refl _ w).alloc (Nat.le_refl _) _).alloc (by simp) _).alloc (by simp; omega) _)⟩
theorem Bf.cells4 {b : Nat} {x : V4} (h : Bf V b (cellsV x)) : V.cell? ⟨b, 0, none⟩ = some (.int .u64 x.a) ∧ V.cell? ⟨b, 1, none⟩ = some (.int .u64 x.b) ∧ V.cell? ⟨b, 2, none⟩ = some (.int .u64 x.c) ∧ V.cell? ⟨b, 3, none⟩ = some (.int .u64 x.d) ∧ b < V.heap.size :=
  ⟨h.cell 0 _ rfl, h.cell 1 _ rfl, h.cell 2 _ rfl, h.cell 3 _ rfl, h.lt⟩
theorem Bf.zero4 {b : Nat} (h : Bf V b (cellsV .zer)) : (V.cell? ⟨b, 0, none⟩ = some (.int .u64 0) ∧ V.cell? ⟨b, 1, none⟩ = some (.int .u64 0) ∧ V.cell? ⟨b, 2, none⟩ = some (.int .u64 0) ∧ V.cell? ⟨b, 3, none⟩ = some (.int .u64 0)) ∧ b < V.heap.size :=
  ⟨⟨h.cell 0 _ rfl, h.cell 1 _ rfl, h.cell 2 _ rfl, h.cell 3 _ rfl⟩, h.lt⟩
theorem Bf.free4 {b : Nat} {l : List Value} (h : Bf V b l) : V.frozen? ⟨b, 0, none⟩ = false ∧ V.frozen? ⟨b, 1, none⟩ = false ∧ V.frozen? ⟨b, 2, none⟩ = false ∧ V.frozen? ⟨b, 3, none⟩ = false :=
  ⟨h.frozen 0, h.frozen 1, h.frozen 2, h.frozen 3⟩
theorem Bf.cells3 {b : Nat} {x0 x1 x2 : Value} (h : Bf V b [x0, x1, x2]) : V.cell? ⟨b, 0, none⟩ = some x0 ∧ V.cell? ⟨b, 1, none⟩ = some x1 ∧ V.cell? ⟨b, 2, none⟩ = some x2 ∧ b < V.heap.size :=
  ⟨h.cell 0 _ rfl, h.cell 1 _ rfl, h.cell 2 _ rfl, h.lt⟩
end
theorem zer_agg : aggV V4.zer = zeroV := rfl

end Go.Proofs.Ytpjoihafpjnipaa

/- The program's mayGo, May and Check of layer 10. -/
namespace Go.Proofs.Ytpjoihafpjnipaa
set_option linter.unusedSimpArgs false
open Go.RowKit
set_option linter.unusedVariables false

section
variable {V : World}
theorem Bf.cells8p {b : Nat} {x : PodD} (h : Bf V b (cellsP x)) : (V.cell? ⟨b, 0, none⟩ = some (.int .i64 x.id) ∧ V.cell? ⟨b, 1, none⟩ = some (.int .i64 x.load) ∧ V.cell? ⟨b, 2, none⟩ = some (.int .i64 x.prio) ∧ V.cell? ⟨b, 3, none⟩ = some (.int .u64 x.req.a)) ∧
    V.cell? ⟨b, 4, none⟩ = some (.int .u64 x.req.b) ∧ V.cell? ⟨b, 5, none⟩ = some (.int .u64 x.req.c) ∧ V.cell? ⟨b, 6, none⟩ = some (.int .u64 x.req.d) ∧ V.cell? ⟨b, 7, none⟩ = some (.int .i64 x.node) ∧ b < V.heap.size :=
  ⟨⟨h.cell 0 _ rfl, h.cell 1 _ rfl, h.cell 2 _ rfl, h.cell 3 _ rfl⟩, h.cell 4 _ rfl, h.cell 5 _ rfl, h.cell 6 _ rfl, h.cell 7 _ rfl, h.lt⟩
end
theorem mayGo_any (x y : PodD) (w : World) : Calls Try.prog 11 #[aggP x, aggP y] w fun e w' => e = .returned (.bool (goV x y)) ∧ Below w.heap.size w w' := by
  by_cases h : x.prio < y.prio
  · have HE := Lib.hid (show goV x y = true from decide_eq_true h)
    have hd : decide (x.prio < y.prio) = true := decide_eq_true h
    clear h
    go_enter Try.func11, Try.ntmps11
    go_wp2
    go_ret
    exact ⟨ret_bool HE.out.symm, below_two _ _ _⟩
  · have HE := Lib.hid (show goV x y = false from decide_eq_false h)
    have hd : decide (x.prio < y.prio) = false := decide_eq_false h
    clear h
    go_enter Try.func11, Try.ntmps11
    go_wp2
    go_ret
    exact ⟨ret_bool HE.out.symm, below_two _ _ _⟩
/-- state.Pod, as one answer. -/
theorem podOf_any (l : List PodD) (id : Int) (A : Option Addr) (n c : Nat) (v1 v2 : Value) (w : World) (hn : n = l.length) (hl : n ≤ 1000) (hr : Recs 8 cellsP w w.heap.size A l) :
    Calls Try.prog 10 #[.agg #[.slice A n c, v1, v2], .int .i64 id] w fun e w' => e = .returned (.tuple #[aggP (podZ id l), .bool (hasP id l)]) ∧ Below w.heap.size w w' :=
  (statePod_any l id A n c v1 v2 w hn hl hr).mono fun e w' ⟨h, hb⟩ => by
    rcases h with ⟨hp, rfl⟩ | ⟨i, hi, hp, rfl⟩
    · rw [podZ_none hp, has_none hp]; exact ⟨rfl, hb⟩
    · rw [podZ_some hi hp, has_some hp]; exact ⟨rfl, hb⟩

set_option maxHeartbeats 3200000 in
set_option maxRecDepth 100000 in
theorem priorMay_any (l : List PodD) (a b : Int) (A : Option Addr) (n c : Nat) (v1 v2 : Value) (w : World) (hn : n = l.length) (hl : n ≤ 1000) (hr : Recs 8 cellsP w w.heap.size A l) :
    Calls Try.prog 6 #[.agg #[.slice A n c, v1, v2], .int .i64 a, .int .i64 b] w fun e w' => e = .returned (.bool (mayD a b l)) ∧ Below w.heap.size w w' := by
  have B0 : Bf (w.alloc (.cells #[.slice A n c, v1, v2] 24)) w.heap.size [.slice A n c, v1, v2] := Bf.new w [.slice A n c, v1, v2] 24 rfl
  have k0 : Below w.heap.size w (w.alloc (.cells #[.slice A n c, v1, v2] 24)) := (Below.refl _ _).alloc (Nat.le_refl _) _
  have HC := Lib.hid (fun (id : Int) (V : World) (hV : Below w.heap.size w V) => podOf_any l id A n c v1 v2 V hn hl ((hr.below hV (Nat.le_refl _)).more hV.size))
  have HC1 := Lib.hid (HC.out a _ k0)
  have HC2 := Lib.hid (fun V hV => HC.out b V hV)
  have HE := Lib.hid (show mayD a b l = ((hasP a l && hasP b l) && goV (podZ b l) (podZ a l)) from rfl)
  clear hn hr HC
  generalize mayD a b l = r at *
  generalize podZ a l = x at *
  generalize podZ b l = y at *
  generalize hasP a l = s at *
  generalize hasP b l = t at *
  go_enter Try.func6, Try.ntmps6
  go_wp2_with fail
  refine HC1.out.mono ?_
  rintro e w1 ⟨rfl, hb1⟩
  have k1 := k0.trans (hb1.mono k0.size)
  have B1 := B0.below hb1 B0.lt
  obtain ⟨a0, a1, a2, a3⟩ := B1.cells3
  have X1 : Bf (w1.alloc (.cells #[.int .i64 x.id, .int .i64 x.load, .int .i64 x.prio, .int .u64 x.req.a, .int .u64 x.req.b, .int .u64 x.req.c, .int .u64 x.req.d, .int .i64 x.node] 32)) w1.heap.size (cellsP x) := Bf.new w1 (cellsP x) 32 rfl
  have k1a : Below w.heap.size w (w1.alloc (.cells #[.int .i64 x.id, .int .i64 x.load, .int .i64 x.prio, .int .u64 x.req.a, .int .u64 x.req.b, .int .u64 x.req.c, .int .u64 x.req.d, .int .i64 x.node] 32)) := k1.alloc k1.size _
  have HC3 := Lib.hid (HC2.out _ k1a)
  clear hb1 B0 k0
  go_wp2_with fail
  refine HC3.out.mono ?_
  rintro e w2 ⟨rfl, hb2⟩
  have k2 := k1a.trans (hb2.mono k1a.size)
  obtain ⟨⟨x0, x1, x2, x3⟩, x4, x5, x6, x7, x8⟩ := (X1.below hb2 X1.lt).cells8p
  have hne : w1.heap.size ≠ w2.heap.size := by omega
  clear hb2 a0 a1 a2 a3 B1 X1
  have k3 : Below w.heap.size w (w2.alloc (.cells #[.int .i64 y.id, .int .i64 y.load, .int .i64 y.prio, .int .u64 y.req.a, .int .u64 y.req.b, .int .u64 y.req.c, .int .u64 y.req.d, .int .i64 y.node] 32)) := k2.alloc k2.size _
  cases s with
  | false =>
    go_wp2
    go_ret
    exact ⟨ret_bool (by rw [HE.out]; rfl), k3⟩
  | true =>
    cases t with
    | false =>
      go_wp2
      go_ret
      exact ⟨ret_bool (by rw [HE.out]; rfl), k3⟩
    | true =>
      go_wp2_with fail
      refine (mayGo_any y x _).mono ?_
      rintro e w3 ⟨rfl, hb3⟩
      go_wp2
      go_ret
      exact ⟨ret_bool (by rw [HE.out]; rfl), k3.trans (hb3.mono k3.size)⟩

/-- What layer 10's Check tells of a move. -/
def prioV (b : Bool) : Value := if b = true then .iface 41 (.int .i64 14) else .nilIface
def prioD (t : List PodD) (m : MoveD) : Bool := m.kind == 4 && !mayD m.pod m.over t
set_option maxHeartbeats 3200000 in
set_option maxRecDepth 100000 in
theorem priorCheck_any (l : List PodD) (m : MoveD) (A : Option Addr) (n c : Nat) (v1 v2 : Value) (w : World) (hn : n = l.length) (hl : n ≤ 1000) (hr : Recs 8 cellsP w w.heap.size A l) :
    Calls Try.prog 9 #[.agg #[.slice A n c, v1, v2], .agg #[.int .i64 m.kind, .int .i64 m.pod, .int .i64 m.node, .int .i64 m.over]] w fun e w' => e = .returned (prioV (prioD l m)) ∧ Below w.heap.size w w' := by
  have k0 := below_two w (.cells #[.slice A n c, v1, v2] 24) (.cells #[.int .i64 m.kind, .int .i64 m.pod, .int .i64 m.node, .int .i64 m.over] 40)
  have HC := Lib.hid (priorMay_any l m.pod m.over A n c v1 v2 _ hn hl ((hr.below k0 (Nat.le_refl _)).more k0.size))
  have HD : Hid (prioD l m = (m.kind == 4 && !mayD m.pod m.over l)) := rfl
  clear hn hr
  generalize mayD m.pod m.over l = r at *
  generalize prioD l m = z at *
  by_cases hk : m.kind = 4
  · have hkd : (m.kind == 4) = true := by simp [hk]
    have HE := Lib.hid (show z = !r by rw [HD.out, hkd]; rfl)
    clear hk
    go_enter Try.func9, Try.ntmps9
    go_wp2_with fail
    refine HC.out.mono ?_
    rintro e w1 ⟨rfl, hb1⟩
    have k1 := k0.trans (hb1.mono k0.size)
    clear hb1
    cases r with
    | false =>
      go_wp2
      go_ret
      exact ⟨by rw [HE.out]; rfl, k1⟩
    | true =>
      go_wp2
      go_ret
      exact ⟨by rw [HE.out]; rfl, k1⟩
  · have hkd : (m.kind == 4) = false := by simp [hk]
    have HE := Lib.hid (show z = false by rw [HD.out, hkd]; rfl)
    clear hk
    go_enter Try.func9, Try.ntmps9
    go_wp2
    go_ret
    exact ⟨by rw [HE.out]; rfl, k0⟩
end Go.Proofs.Ytpjoihafpjnipaa

/- The program's inOrder: of two that may go, which is the one ahead. It makes memory of its own, and turns nothing that there was. -/
namespace Go.Proofs.Ytpjoihafpjnipaa
set_option linter.unusedSimpArgs false
open Go.RowKit
set_option linter.unusedVariables false

theorem orInt_any (a b : Int) (g : Nat) (w : World) (h0 : w.cell? ⟨g, 0, none⟩ = some (.int .i64 a)) (h1 : w.cell? ⟨g, 1, none⟩ = some (.int .i64 b)) :
    Calls Try.prog 18 #[.slice (some ⟨g, 0, none⟩) 2 2] w fun e w' => e = .returned (.int .i64 (orI a b)) ∧ w = w' := by
  by_cases ha : a = 0
  · subst ha
    by_cases hb : b = 0
    · subst hb
      go_enter Try.func18, Try.ntmps18
      go_wp2
      refine wp_loop_rounds 3 ?_
      rw [rounds_succ]
      go_wp2
      rw [rounds_succ]
      go_wp2
      rw [rounds_succ]
      go_wp2
      go_ret
      exact ⟨rfl, rfl⟩
    · have hm : (b != 0) = true := by simpa using hb
      have HE := Lib.hid (show orI 0 b = b from rfl)
      clear hb
      go_enter Try.func18, Try.ntmps18
      go_wp2
      refine wp_loop_rounds 3 ?_
      rw [rounds_succ]
      go_wp2
      rw [rounds_succ]
      go_wp2
      go_ret
      exact ⟨ret_int HE.out.symm, rfl⟩
  · have hm : (a != 0) = true := by simpa using ha
    have HE := Lib.hid (show orI a b = a by simp [orI, ha])
    clear ha
    go_enter Try.func18, Try.ntmps18
    go_wp2
    refine wp_loop_rounds 3 ?_
    rw [rounds_succ]
    go_wp2
    go_ret
    exact ⟨ret_int HE.out.symm, rfl⟩
theorem ordV_is (x y : PodD) : ordV x y = orI (cmpI x.prio y.prio) (cmpI x.id y.id) := by
  unfold ordV orI cmpI
  by_cases h1 : x.prio < y.prio
  · simp [h1]
  · by_cases h2 : y.prio < x.prio
    · simp [h1, h2]
    · simp [h1, h2]

/-- More of the tape is drawn, and there are new blocks: nothing else. -/
def Grew (W v : World) : Prop := ∃ q os, v = Sort.grow (W.drewN q) os
/-- What a region of loads and calls leaves. -/
def GrewK (W v : World) : Prop := (∀ b o, b < W.heap.size → v.cell? ⟨b, o, none⟩ = W.cell? ⟨b, o, none⟩) ∧ Grew W v
theorem Grew.refl (W : World) : Grew W W := ⟨0, #[], by rw [Sort.grow_empty]; rfl⟩
theorem Grew.trans {W v u : World} (h : Grew W v) (k : Grew v u) : Grew W u := by
  obtain ⟨q, os, rfl⟩ := h
  obtain ⟨q', os', rfl⟩ := k
  refine ⟨q + q', os ++ os', ?_⟩
  rw [← Sort.grow_grow]
  show Sort.grow (Sort.grow ((W.drewN q).drewN q') os) os' = _
  rw [show (W.drewN q).drewN q' = W.drewN (q + q') by simp [World.drewN, Nat.add_assoc]]
theorem Grew.drew (W : World) : Grew W W.drew := ⟨1, #[], by rw [Sort.grow_empty]; rfl⟩
theorem Grew.alloc (W : World) (o : Obj) : Grew W (W.alloc o) := ⟨0, #[o], by rw [Sort.alloc_eq_grow]; rfl⟩
theorem Grew.cells {W v : World} (h : Grew W v) : GrewK W v := by
  refine ⟨fun b o hb => ?_, h⟩
  obtain ⟨q, os, rfl⟩ := h
  exact Sort.cell?_grow (W.drewN q) os ⟨b, o, none⟩ hb
theorem GrewK.drew {W v : World} (h : GrewK W v) : GrewK W v.drew := (h.2.trans (Grew.drew v)).cells
theorem GrewK.alloc {W v : World} (h : GrewK W v) (o : Obj) : GrewK W (v.alloc o) := (h.2.trans (Grew.alloc v o)).cells

set_option maxHeartbeats 3200000 in
set_option maxRecDepth 100000 in
theorem inOrder_any (x y : PodD) (w : World) : Calls Try.prog 13 #[aggP x, aggP y] w fun e w' => e = .returned (.int .i64 (ordV x y)) ∧ Grew w w' := by
  have HE := Lib.hid (ordV_is x y)
  have H1 := Lib.hid (fun W => compare_any x.prio y.prio W)
  have H2 := Lib.hid (fun W => compare_any x.id y.id W)
  generalize ordV x y = z at *
  generalize hp : cmpI x.prio y.prio = p at *
  generalize hq : cmpI x.id y.id = q at *
  clear hp hq
  go_enter Try.func13, Try.ntmps13
  go_upto_region 1 with fail
  generalize hW : ((w.alloc (.cells #[.int .i64 x.id, .int .i64 x.load, .int .i64 x.prio, .int .u64 x.req.a, .int .u64 x.req.b, .int .u64 x.req.c, .int .u64 x.req.d, .int .i64 x.node] 32)).alloc (.cells #[.int .i64 y.id, .int .i64 y.load, .int .i64 y.prio, .int .u64 y.req.a, .int .u64 y.req.b, .int .u64 y.req.c, .int .u64 y.req.d, .int .i64 y.node] 32)) = W at *
  have HK : Hid (Grew w W) := by show Grew w W; rw [← hW]; exact (Grew.alloc _ _).trans (Grew.alloc _ _)
  have hz1 : w.heap.size < W.heap.size := by rw [← hW]; simp; omega
  have hz2 : w.heap.size + 1 < W.heap.size := by rw [← hW]; simp
  have x0 : W.cell? ⟨w.heap.size, 0, none⟩ = some (.int .i64 x.id) := by rw [← hW]; simp
  have x2 : W.cell? ⟨w.heap.size, 2, none⟩ = some (.int .i64 x.prio) := by rw [← hW]; simp
  have y0 : W.cell? ⟨w.heap.size + 1, 0, none⟩ = some (.int .i64 y.id) := by rw [← hW]; simp
  have y2 : W.cell? ⟨w.heap.size + 1, 2, none⟩ = some (.int .i64 y.prio) := by rw [← hW]; simp
  clear hW
  go_region_held3 (fun w' => (∀ b o, b < W.heap.size → w'.cell? ⟨b, o, none⟩ = W.cell? ⟨b, o, none⟩) ∧ Grew W w')
    (first | (with_reducible assumption) | exact (Grew.refl _).cells | exact (Grew.drew _).cells | exact GrewK.drew (by assumption) | exact GrewK.alloc (by assumption) _)
    (first
      | (go_at_call 19; first
          | ((with_reducible refine (H1.out _).mono ?_); rintro e w' ⟨rfl, rfl⟩)
          | ((with_reducible refine (H2.out _).mono ?_); rintro e w' ⟨rfl, rfl⟩))
      | (go_at_call 18; refine (orInt_any p q _ _ (by simp) (by simp)).mono ?_; rintro e w' ⟨rfl, rfl⟩))
  go_wp2
  go_ret
  exact ⟨ret_int HE.out.symm, HK.out.trans (by assumption : GrewK W _).2⟩
end Go.Proofs.Ytpjoihafpjnipaa

/- dunnageref03.Zones. -/
namespace Go.Proofs.Ytpjoihafpjnipaa
set_option linter.unusedSimpArgs false
open Go.RowKit
set_option linter.unusedVariables false

abbrev i64s (l : List Int) : List Value := l.map (Value.int .i64)
theorem one_i64s (l : List Int) : ∀ u ∈ i64s l, u.oneCell' = true := by
  intro u hu; simp at hu; obtain ⟨x, _, rfl⟩ := hu; rfl
theorem Try.info3 : (Try.prog.info? 3).map (fun i => (i.zero, i.size, i.bytes)) = some (some (.int .i64 0), 1, 8) := by kernel_rfl

theorem insZ_at (z : Int) : ∀ (acc : List Int) (p : Nat) (hp : p ≤ acc.length), (∀ j (hj : j < p), acc[j]'(by omega) < z) → (∀ h : p < acc.length, ¬ acc[p] < z) →
    insZ z acc = if h : p < acc.length then (if acc[p] = z then acc else acc.take p ++ [z] ++ acc.drop p) else acc.take p ++ [z] ++ acc.drop p
  | [], p, hp, _, _ => by
    obtain rfl : p = 0 := by simpa using hp
    simp [insZ]
  | y :: r, 0, _, _, hn => by
    have h0 : ¬ y < z := hn (by simp)
    simp only [insZ, if_neg h0]
    by_cases e : y = z <;> simp [e]
  | y :: r, p + 1, hp, hl, hn => by
    have h0 : y < z := hl 0 (by omega)
    have ih := insZ_at z r p (by simpa using hp) (fun j hj => hl (j + 1) (by omega)) (fun h => hn (by simpa using h))
    simp only [insZ, if_pos h0, ih]
    by_cases hpl : p < r.length
    · have : p + 1 < (y :: r).length := by simpa using hpl
      simp only [hpl, this, dite_true, List.getElem_cons_succ]
      split <;> simp
    · have : ¬ p + 1 < (y :: r).length := by simpa using hpl
      simp only [hpl, this, dite_false]
      simp
theorem zones_next (l : List NodeD) (k : Nat) (h : k < l.length) : zonesOf (l.take (k + 1)) = insZ l[k].zone (zonesOf (l.take k)) := by
  unfold zonesOf
  rw [List.take_succ_eq_append_getElem h, List.foldl_append]
  rfl
theorem below_drews {B : Nat} {a w : World} (h : Below B a w) (n : Nat) : Below B a (w.drewN n) := ⟨h.os, h.tape, h.output, h.size, h.block⟩
theorem box_cells' {w wr : World} {x y z : Value} {t : TypeId} (hb : Below (w.heap.size + 1) (w.alloc (.cells #[x, y, z] t)) wr) : wr.cell? ⟨w.heap.size, 0, none⟩ = some x := by
  rw [hb.cell (by show w.heap.size < w.heap.size + 1; omega)]
  simp
theorem own_mono {w : World} {base base' n : Nat} {e : TypeId} {v : Value} {xs : List Value} (h : w.ownsRow base e 1 v n xs) (hb : base' ≤ base) : w.ownsRow base' e 1 v n xs := by
  refine ⟨h.1, ?_⟩
  rcases h.2 with h0 | ⟨g, cap, cur, h1, h2, rest⟩
  · exact .inl h0
  · exact .inr ⟨g, cap, cur, h1, Nat.le_trans hb h2, rest⟩
def ZRel (l : List NodeD) (W : World) (B : Nat) (v i : Value) (wr : World) : Prop :=
  ∃ k : Nat, k ≤ l.length ∧ i = .int .i64 k ∧ wr.ownsRow B 3 1 v (i64s (zonesOf (l.take k))).length (i64s (zonesOf (l.take k))) ∧ Below B W wr
def ZIn (acc : List Int) (z : Int) (wo : World) (i : Value) (wr : World) : Prop :=
  ∃ p q : Nat, p ≤ acc.length ∧ i = .int .i64 p ∧ wr = wo.drewN q ∧ ∀ j (hj : j < acc.length), j < p → acc[j] < z
def ZonesTo (l : List NodeD) (w : World) (e : Ending) (w' : World) : Prop :=
  ∃ v, e = .returned v ∧ w'.ownsRow (w.heap.size + 1) 3 1 v (i64s (zonesOf l)).length (i64s (zonesOf l)) ∧ Below w.heap.size w w'

end Go.Proofs.Ytpjoihafpjnipaa

/- The program's ids: the Ids of a row of pods. -/
namespace Go.Proofs.Ytpjoihafpjnipaa
set_option linter.unusedSimpArgs false
open Go.RowKit
set_option linter.unusedVariables false

def IdsRel (l : List PodD) (W : World) (B : Nat) (v i : Value) (wr : World) : Prop :=
  ∃ k : Nat, k ≤ l.length ∧ i = .int .i64 k ∧ wr.ownsRow B 3 1 v (i64s ((l.take k).map PodD.id)).length (i64s ((l.take k).map PodD.id)) ∧ Below B W wr
theorem ids_more {l : List PodD} {k : Nat} {p : PodD} (h : k < l.length) (hx : l[k] = p) : i64s ((l.take (k + 1)).map PodD.id) = i64s ((l.take k).map PodD.id) ++ [.int .i64 p.id] := by
  rw [List.take_succ_eq_append_getElem h, hx]; simp
/-- A row of numbers of the call's own is told. -/
def IntsTo (zs : List Int) (w : World) (e : Ending) (w' : World) : Prop := ∃ v, e = .returned v ∧ w'.ownsRow w.heap.size 3 1 v zs.length (i64s zs) ∧ Below w.heap.size w w'

set_option maxHeartbeats 3200000 in
set_option maxRecDepth 100000 in
theorem priorIds_any (l : List PodD) (A : Option Addr) (n c : Nat) (w : World) (hn : n = l.length) (hl : n ≤ 1000) (hr : Recs 8 cellsP w w.heap.size A l) :
    Calls Try.prog 14 #[.slice A n c] w (IntsTo (l.map PodD.id) w) := by
  have HR := Lib.hid hr
  have HN := Lib.hid hn
  clear hr hn
  go_enter Try.func14, Try.ntmps14
  go_wp2
  go_loopw [3, 8] (IdsRel l w w.heap.size) (fun _ i _ => n - (intOf i).toNat)
  case atStart => exact ⟨0, by omega, rfl, ⟨by simp, .inl ⟨rfl, by simp⟩⟩, Below.refl _ _⟩
  case round =>
    obtain ⟨k, hk, rfl, hown, hbr⟩ := hrel
    have HOWN := Lib.hid hown
    have hzr : w.heap.size ≤ wr.heap.size := hbr.size
    clear hown
    by_cases hlt : k < n
    · have hkl : k < l.length := by have := HN.out; omega
      obtain ⟨b, o, rfl, hb, he⟩ := HR.out.at hkl
      generalize hx : l[k] = x at *
      have HX := Lib.hid hx
      clear hx
      have e0 : wr.cell? ⟨b, o + k * 8, none⟩ = some (.int .i64 x.id) := (hbr.cell (p := ⟨b, o + k * 8, none⟩) hb).trans (he 0 _ rfl)
      have e1 : wr.cell? ⟨b, o + k * 8 + 1, none⟩ = some (.int .i64 x.load) := (hbr.cell (p := ⟨b, o + k * 8 + 1, none⟩) hb).trans (he 1 _ rfl)
      have e2 : wr.cell? ⟨b, o + k * 8 + 2, none⟩ = some (.int .i64 x.prio) := (hbr.cell (p := ⟨b, o + k * 8 + 2, none⟩) hb).trans (he 2 _ rfl)
      have e3 : wr.cell? ⟨b, o + k * 8 + 3, none⟩ = some (.int .u64 x.req.a) := (hbr.cell (p := ⟨b, o + k * 8 + 3, none⟩) hb).trans (he 3 _ rfl)
      have e4 : wr.cell? ⟨b, o + k * 8 + 4, none⟩ = some (.int .u64 x.req.b) := (hbr.cell (p := ⟨b, o + k * 8 + 4, none⟩) hb).trans (he 4 _ rfl)
      have e5 : wr.cell? ⟨b, o + k * 8 + 5, none⟩ = some (.int .u64 x.req.c) := (hbr.cell (p := ⟨b, o + k * 8 + 5, none⟩) hb).trans (he 5 _ rfl)
      have e6 : wr.cell? ⟨b, o + k * 8 + 6, none⟩ = some (.int .u64 x.req.d) := (hbr.cell (p := ⟨b, o + k * 8 + 6, none⟩) hb).trans (he 6 _ rfl)
      have e7 : wr.cell? ⟨b, o + k * 8 + 7, none⟩ = some (.int .i64 x.node) := (hbr.cell (p := ⟨b, o + k * 8 + 7, none⟩) hb).trans (he 7 _ rfl)
      have hbw : b < wr.heap.size := by omega
      have HM := Lib.hid (ids_more hkl HX.out)
      have HL : Hid ((i64s ((l.take k).map PodD.id)).length ≤ 2000000) := by show _ ≤ _; simp; omega
      have k1 : Below w.heap.size w (wr.alloc (.cells #[.int .i64 x.id, .int .i64 x.load, .int .i64 x.prio, .int .u64 x.req.a, .int .u64 x.req.b, .int .u64 x.req.c, .int .u64 x.req.d, .int .i64 x.node] 32)) := hbr.alloc hzr _
      have HO1 := Lib.hid (HOWN.out.alloc (.cells #[.int .i64 x.id, .int .i64 x.load, .int .i64 x.prio, .int .u64 x.req.a, .int .u64 x.req.b, .int .u64 x.req.c, .int .u64 x.req.d, .int .i64 x.node] 32))
      clear he
      go_wp2_with (at_builtin; refine wpList_push 33 3 (.int .i64 0) 8 Try.underlying33 Try.info3 rfl (by decide) rfl (.tmp 12) (.tmp 15) rfl w.heap.size _ (i64s ((l.take k).map PodD.id)) (.int .i64 x.id) rfl HO1.out (by show w.heap.size ≤ (wr.alloc _).heap.size; simp; omega) HL.out rfl (by simp [go_sem]) ?_; intro v5 w3 hown3 hb3 hB3)
      have HO3 := Lib.hid hown3
      clear hown3
      go_wp2
      go_roundw
      case rel => exact ⟨k + 1, by omega, by go_num, by rw [HM.out]; exact HO3.out, k1.trans hb3⟩
      case measure => simp [intOf]; omega
    · have HK : Hid (l.take k = l) := List.take_of_length_le (by have := HN.out; omega)
      have HO : Hid (wr.ownsRow w.heap.size 3 1 u3 (l.map PodD.id).length (i64s (l.map PodD.id))) := by
        have h := HOWN.out
        rw [HK.out, List.length_map (f := Value.int .i64)] at h
        exact h
      go_wp2
      go_ret
      exact ⟨_, rfl, HO.out, hbr⟩
end Go.Proofs.Ytpjoihafpjnipaa

/- Plain mathematics of layer 4: what numbers are read as, and that what was written is read as it was, and what is read is written as it was; no program stands in it. -/
namespace Go.Proofs.Ytpjoihafpjnipaa
set_option linter.unusedSimpArgs false

theorem fine_flat {α : Type} (K : Kind α) : ∀ (xs : List α) (rest : List Int), (∀ x ∈ xs, K.ok (K.nums x) = true) → fine K xs.length (xs.flatMap K.nums ++ rest) = true
  | [], _, _ => rfl
  | x :: r, rest, h => by
    have e : (x :: r).flatMap K.nums ++ rest = K.nums x ++ (r.flatMap K.nums ++ rest) := by simp
    show fine K (r.length + 1) _ = _
    rw [e, fine, List.take_left' (K.len x), List.drop_left' (K.len x), h x (by simp), fine_flat K r rest fun y hy => h y (by simp [hy])]
    rfl
theorem firstBad_each {α : Type} {bad : Int → α → Int} {f : α → Int} : ∀ {l : List α} {last : Int} {k : Nat}, firstBad bad f last k l = none → ∀ x ∈ l, ∃ la, bad la x = 0
  | [], _, _, _, x, hx => by simp at hx
  | y :: r, last, k, h, x, hx => by
    simp only [firstBad] at h
    split at h
    · cases h
    · rename_i h0
      rcases List.mem_cons.1 hx with rfl | hx
      · exact ⟨last, by simpa using h0⟩
      · exact firstBad_each h x hx
theorem small_of {n : Int} (h : n ≤ 2147483647) : smallN n = true := by simp [smallN, h]
theorem node_ok {la : Int} {x : NodeD} (h : nodeBad la x = 0) : 1 ≤ x.id ∧ x.id ≤ 2147483647 ∧ 1 ≤ x.zone ∧ x.zone ≤ 8 := by
  unfold nodeBad at h
  split at h
  · cases h
  · rename_i h1
    have h2 := idBad_ok h
    refine ⟨h2.1, h2.2.1, ?_, ?_⟩
    · by_cases e : x.zone < 1
      · exact absurd ⟨h, .inl e⟩ h1
      · omega
    · by_cases e : 8 < x.zone
      · exact absurd ⟨h, .inr (.inl e)⟩ h1
      · omega
theorem count_of {n : Int} (h : countOk n = true) : 0 ≤ n ∧ n ≤ 100 := by simpa [countOk] using h
theorem load_ok {la : Int} {x : LoadD} (h : loadBad la x = 0) : 1 ≤ x.id ∧ x.id ≤ 2147483647 ∧ (0 ≤ x.skew ∧ x.skew ≤ 100) ∧ (0 ≤ x.min ∧ x.min ≤ 100) ∧ (0 ≤ x.max ∧ x.max ≤ 100) := by
  unfold loadBad at h
  split at h
  · cases h
  · rename_i h1
    have h2 := idBad_ok h
    refine ⟨h2.1, h2.2.1, count_of ?_, count_of ?_, count_of ?_⟩
    · cases e : countOk x.skew
      · exact absurd ⟨h, .inl e⟩ h1
      · rfl
    · cases e : countOk x.min
      · exact absurd ⟨h, .inr (.inl e)⟩ h1
      · rfl
    · cases e : countOk x.max
      · exact absurd ⟨h, .inr (.inr (.inl e))⟩ h1
      · rfl
theorem pod_ok {nodes : List NodeD} {loads : List LoadD} {la : Int} {x : PodD} (h : podBad nodes loads la x = 0) : 1 ≤ x.id ∧ x.id ≤ 2147483647 ∧ (0 ≤ x.prio ∧ x.prio ≤ 100) ∧ (∃ l ∈ loads, l.id = x.load) ∧ (x.node = 0 ∨ ∃ n ∈ nodes, n.id = x.node) := by
  unfold podBad at h
  split at h
  · rename_i h1; exact absurd h h1
  · rename_i h1
    have h2 := idBad_ok (by simpa using h1)
    split at h
    · cases h
    · rename_i h3
      split at h
      · cases h
      · rename_i h4
        refine ⟨h2.1, h2.2.1, count_of (by simpa using h3), ?_, ?_⟩
        · have : ¬ place LoadD.id x.load loads 0 < 0 := fun e => h4 (.inl e)
          rw [place_neg (by omega)] at this
          simpa using this
        · by_cases e : x.node = 0
          · exact .inl e
          · have : ¬ place NodeD.id x.node nodes 0 < 0 := fun q => h4 (.inr ⟨e, q⟩)
            rw [place_neg (by omega)] at this
            exact .inr (by simpa using this)
theorem nums_fine {s : SnapD} (h : (check s).1 = 0) : snapFine s.nodes.length s.loads.length s.pods.length ((snapNums s).drop 3) = true := by
  obtain ⟨_, h1, h2, h3⟩ := check_ok.1 h
  have n1 := firstBad_each h1
  have n2 := firstBad_each h2
  have n3 := firstBad_each h3
  obtain ⟨n, l, p⟩ := s
  simp only at n1 n2 n3
  have e : (snapNums ⟨n, l, p⟩).drop 3 = n.flatMap nodeK.nums ++ (l.flatMap loadK.nums ++ p.flatMap podK.nums) := rfl
  have g1 : (n.flatMap nodeK.nums).length = n.length * 10 := flat_length nodeK n
  have g2 : (l.flatMap loadK.nums).length = l.length * 5 := flat_length loadK l
  have f1 : ∀ x ∈ n, nodeK.ok (nodeK.nums x) = true := fun x hx => by
    obtain ⟨la, hb⟩ := n1 x hx
    have := node_ok hb
    simp [nodeK, smallN]; omega
  have f2 : ∀ x ∈ l, loadK.ok (loadK.nums x) = true := fun x hx => by
    obtain ⟨la, hb⟩ := n2 x hx
    have := load_ok hb
    have ht : bitN (truthN x.apart) = true := by cases x.apart <;> rfl
    simp [loadK, smallN, ht]; omega
  have f3 : ∀ x ∈ p, podK.ok (podK.nums x) = true := fun x hx => by
    obtain ⟨la, hb⟩ := n3 x hx
    obtain ⟨a1, a2, a3, ⟨y, hy, ey⟩, a5⟩ := pod_ok hb
    obtain ⟨lb, hlb⟩ := n2 y hy
    have := load_ok hlb
    have hn : x.node ≤ 2147483647 := by
      rcases a5 with a5 | ⟨z, hz, ez⟩
      · omega
      · obtain ⟨lc, hlc⟩ := n1 z hz
        have := node_ok hlc
        omega
    simp [podK, smallN]; omega
  rw [e]
  simp only [snapFine]
  have q1 := fine_flat nodeK n (l.flatMap loadK.nums ++ p.flatMap podK.nums) f1
  have q2 := fine_flat loadK l (p.flatMap podK.nums) f2
  have q3 := fine_flat podK p [] f3
  rw [List.append_nil] at q3
  rw [q1, List.drop_left' g1, q2, ← List.drop_drop, List.drop_left' g1, List.drop_left' g2, q3]
  rfl

abbrev noSnap : SnapD := ⟨[], [], []⟩
/-- What numbers are read as: a snapshot, or an error's number and its place (-1: itself). -/
def rdSnap (l : List Int) : SnapD × Int × Int :=
  if l.length < 3 then (noSnap, 2, -1)
  else if 8 < l.getD 0 0 ∨ 8 < l.getD 1 0 ∨ 12 < l.getD 2 0 then (noSnap, 3, -1)
  else if l.length ≠ 3 + 10 * (l.getD 0 0).toNat + 5 * (l.getD 1 0).toNat + 8 * (l.getD 2 0).toNat then (noSnap, 2, -1)
  else if snapFine (l.getD 0 0).toNat (l.getD 1 0).toNat (l.getD 2 0).toNat (l.drop 3) = false then (noSnap, 2, -1)
  else if (check (snapOf (l.getD 0 0).toNat (l.getD 1 0).toNat (l.getD 2 0).toNat (l.drop 3))).1 ≠ 0 then (noSnap, check (snapOf (l.getD 0 0).toNat (l.getD 1 0).toNat (l.getD 2 0).toNat (l.drop 3)))
  else (snapOf (l.getD 0 0).toNat (l.getD 1 0).toNat (l.getD 2 0).toNat (l.drop 3), 0, -1)
theorem snapNums_length (s : SnapD) : (snapNums s).length = 3 + 10 * s.nodes.length + 5 * s.loads.length + 8 * s.pods.length := by
  have g1 : (s.nodes.flatMap nodeK.nums).length = s.nodes.length * 10 := flat_length nodeK _
  have g2 : (s.loads.flatMap loadK.nums).length = s.loads.length * 5 := flat_length loadK _
  have g3 : (s.pods.flatMap podK.nums).length = s.pods.length * 8 := flat_length podK _
  simp only [snapNums, List.length_append, g1, g2, g3, List.length_cons, List.length_nil]
  omega
/-- What was written is read as it was. -/
theorem rd_back {s : SnapD} (h : (check s).1 = 0) : rdSnap (snapNums s) = (s, 0, -1) := by
  have hl := snapNums_length s
  have hb := snap_back s
  have hf := nums_fine h
  have hg := (check_ok.1 h).1
  have e0 : (snapNums s).getD 0 0 = (s.nodes.length : Int) := rfl
  have e1 : (snapNums s).getD 1 0 = (s.loads.length : Int) := rfl
  have e2 : (snapNums s).getD 2 0 = (s.pods.length : Int) := rfl
  have hg' : ¬ (s.nodes.length = 0 ∨ 8 < s.nodes.length ∨ 8 < s.loads.length ∨ 12 < s.pods.length) := by simpa only [large, decide_eq_false_iff_not] using hg
  unfold rdSnap
  rw [e0, e1, e2]
  simp only [Int.toNat_natCast]
  rw [hb, hf, if_neg (by omega), if_neg (by omega), if_neg (by omega), if_neg (by decide), if_neg (by simpa using h)]
/-- What is read is written as it was. -/
theorem rd_once {l : List Int} (hp : ∀ x ∈ l, 0 ≤ x) {s : SnapD} (h : rdSnap l = (s, 0, -1)) : snapNums s = l ∧ (check s).1 = 0 := by
  unfold rdSnap at h
  split at h
  · simp at h
  · rename_i h1
    split at h
    · simp at h
    · rename_i h2
      split at h
      · simp at h
      · rename_i h3
        split at h
        · simp at h
        · rename_i h4
          split at h
          · rename_i h5
            have : (check (snapOf (l.getD 0 0).toNat (l.getD 1 0).toNat (l.getD 2 0).toNat (l.drop 3))).1 = 0 := by
              have := congrArg (fun q => q.2.1) h
              exact this
            exact absurd this h5
          · rename_i h5
            have hs : snapOf (l.getD 0 0).toNat (l.getD 1 0).toNat (l.getD 2 0).toNat (l.drop 3) = s := congrArg (fun q => q.1) h
            match l, h1, hp, h3, h4, h5, hs with
            | a :: b :: c :: r, _, hp, h3, h4, h5, hs =>
              have pa := hp a (by simp)
              have pb := hp b (by simp)
              have pc := hp c (by simp)
              simp only [List.getD_cons_zero, List.getD_cons_succ, List.drop_succ_cons, List.drop_zero, List.length_cons, ne_eq, Decidable.not_not, Bool.not_eq_false] at h3 h4 h5 hs
              rw [← hs]
              refine ⟨?_, h5⟩
              rw [snap_once (by omega) h4, Int.toNat_of_nonneg pa, Int.toNat_of_nonneg pb, Int.toNat_of_nonneg pc]
              rfl
            | [], h1, _, _, _, _, _ => simp at h1
            | [_], h1, _, _, _, _, _ => simp at h1
            | [_, _], h1, _, _, _, _, _ => simp at h1
end Go.Proofs.Ytpjoihafpjnipaa

/- Plain mathematics of layer 4: specs and moves as numbers, written and read; no program stands in it. -/
namespace Go.Proofs.Ytpjoihafpjnipaa
set_option linter.unusedSimpArgs false

def inId (n : Int) : Bool := decide (0 ≤ n ∧ n ≤ 2147483647)
theorem inId_iff {n : Int} : inId n = true ↔ 0 ≤ n ∧ n ≤ 2147483647 := by simp [inId]
/-- May a spec be written? May moves? -/
def specOk (x : SpecD) : Bool := decide (x.wants.length ≤ 12) && (inId x.preempts && (inId x.shifts && x.wants.all fun y => inId y.pod))
def moveOk (m : MoveD) : Bool := inId m.kind && (inId m.pod && (inId m.node && inId m.over))
def movesOk (m : List MoveD) : Bool := decide (m.length ≤ 40) && m.all moveOk

abbrev noSpec : SpecD := ⟨[], 0, 0⟩
def rdSpec (l : List Int) : SpecD × Int × Int :=
  if l.length < 3 then (noSpec, 2, -1)
  else if 12 < l.getD 0 0 then (noSpec, 3, -1)
  else if l.length ≠ 3 + 6 * (l.getD 0 0).toNat then (noSpec, 2, -1)
  else if (smallN (l.getD 1 0) && (smallN (l.getD 2 0) && fine wantK (l.getD 0 0).toNat (l.drop 3))) = false then (noSpec, 2, -1)
  else (⟨parse wantK (l.getD 0 0).toNat (l.drop 3), l.getD 1 0, l.getD 2 0⟩, 0, -1)
def rdMoves (l : List Int) : List MoveD × Int × Int :=
  if l.length < 1 then ([], 2, -1)
  else if 40 < l.getD 0 0 then ([], 3, -1)
  else if l.length ≠ 1 + 4 * (l.getD 0 0).toNat then ([], 2, -1)
  else if fine moveK (l.getD 0 0).toNat (l.drop 1) = false then ([], 2, -1)
  else (parse moveK (l.getD 0 0).toNat (l.drop 1), 0, -1)
theorem rd_spec_back {x : SpecD} (h : specOk x = true) : rdSpec (specNums x) = (x, 0, -1) := by
  simp only [specOk, Bool.and_eq_true, decide_eq_true_eq, inId_iff, List.all_eq_true] at h
  obtain ⟨h1, h2, h3, h4⟩ := h
  have g1 : (x.wants.flatMap wantK.nums).length = x.wants.length * 6 := flat_length wantK _
  have hl : (specNums x).length = 3 + 6 * x.wants.length := by
    simp only [specNums, List.length_append, g1, List.length_cons, List.length_nil]; omega
  have hf : fine wantK x.wants.length ((specNums x).drop 3) = true := by
    have := fine_flat wantK x.wants [] fun y hy => by
      have := h4 y hy
      have ht : bitN (truthN y.stay) = true := by cases y.stay <;> rfl
      simp [wantK, smallN, ht]; omega
    rw [List.append_nil] at this
    exact this
  have hb := spec_back x
  have e0 : (specNums x).getD 0 0 = (x.wants.length : Int) := rfl
  have e1 : (specNums x).getD 1 0 = x.preempts := rfl
  have e2 : (specNums x).getD 2 0 = x.shifts := rfl
  unfold rdSpec
  rw [e0, e1, e2]
  simp only [Int.toNat_natCast]
  rw [hb, hf, small_of h2.2, small_of h3.2, if_neg (by omega), if_neg (by omega), if_neg (by omega), if_neg (by decide)]
theorem rd_spec_once {l : List Int} (hp : ∀ x ∈ l, 0 ≤ x) {x : SpecD} (h : rdSpec l = (x, 0, -1)) : specNums x = l ∧ specOk x = true := by
  unfold rdSpec at h
  split at h
  · simp at h
  · rename_i h1
    split at h
    · simp at h
    · rename_i h2
      split at h
      · simp at h
      · rename_i h3
        split at h
        · simp at h
        · rename_i h4
          have hs : (⟨parse wantK (l.getD 0 0).toNat (l.drop 3), l.getD 1 0, l.getD 2 0⟩ : SpecD) = x := congrArg (fun q => q.1) h
          match l, h1, hp, h2, h3, h4, hs with
          | a :: b :: c :: r, _, hp, h2, h3, h4, hs =>
            have pa := hp a (by simp)
            have pb := hp b (by simp)
            have pc := hp c (by simp)
            simp only [List.getD_cons_zero, List.getD_cons_succ, List.drop_succ_cons, List.drop_zero, List.length_cons, ne_eq, Decidable.not_not, Bool.not_eq_false, Bool.and_eq_true] at h2 h3 h4 hs
            obtain ⟨s1, s2, s3⟩ := h4
            rw [← hs]
            refine ⟨?_, ?_⟩
            · rw [spec_once (by omega) s3, Int.toNat_of_nonneg pa]; rfl
            · have q1 : b ≤ 2147483647 := by simpa [smallN] using s1
              have q2 : c ≤ 2147483647 := by simpa [smallN] using s2
              simp only [specOk, Bool.and_eq_true, decide_eq_true_eq, inId_iff, List.all_eq_true, parse_length]
              refine ⟨by omega, ⟨pb, q1⟩, ⟨pc, q2⟩, fun y hy => ?_⟩
              obtain ⟨i, hi, rfl⟩ := List.mem_iff_getElem.1 hy
              have hi' : i < a.toNat := by rw [parse_length] at hi; exact hi
              have hfi := (fine_iff wantK _ _).1 s3 i hi'
              rw [parse_get wantK _ _ i hi']
              have s6 : wantK.size = 6 := rfl
              have hlen : ((r.drop (i * wantK.size)).take wantK.size).length = 6 := by rw [s6]; simp only [List.length_take, List.length_drop]; omega
              have hall : ∀ z ∈ (r.drop (i * wantK.size)).take wantK.size, 0 ≤ z := fun z hz => hp z (by
                have := List.mem_of_mem_drop (List.mem_of_mem_take hz)
                simp [this])
              obtain ⟨z0, z1, z2, z3, z4, z5, ez⟩ := take_6 hlen
              rw [ez] at hfi hall ⊢
              have k0 := hall z0 (by simp)
              simp [wantK, smallN] at hfi ⊢
              omega
          | [], h1, _, _, _, _, _ => simp at h1
          | [_], h1, _, _, _, _, _ => simp at h1
          | [_, _], h1, _, _, _, _, _ => simp at h1
theorem rd_move_back {m : List MoveD} (h : movesOk m = true) : rdMoves (moveNums m) = (m, 0, -1) := by
  simp only [movesOk, moveOk, Bool.and_eq_true, decide_eq_true_eq, inId_iff, List.all_eq_true] at h
  obtain ⟨h1, h4⟩ := h
  have g1 : (m.flatMap moveK.nums).length = m.length * 4 := flat_length moveK _
  have hl : (moveNums m).length = 1 + 4 * m.length := by simp only [moveNums, List.length_cons, g1]; omega
  have hf : fine moveK m.length ((moveNums m).drop 1) = true := by
    have := fine_flat moveK m [] fun y hy => by
      have := h4 y hy
      simp [moveK, smallN]; omega
    rw [List.append_nil] at this
    exact this
  have hb := move_back m
  have e0 : (moveNums m).getD 0 0 = (m.length : Int) := rfl
  unfold rdMoves
  rw [e0]
  simp only [Int.toNat_natCast]
  rw [hb, hf, if_neg (by omega), if_neg (by omega), if_neg (by omega), if_neg (by decide)]
theorem rd_move_once {l : List Int} (hp : ∀ x ∈ l, 0 ≤ x) {m : List MoveD} (h : rdMoves l = (m, 0, -1)) : moveNums m = l ∧ movesOk m = true := by
  unfold rdMoves at h
  split at h
  · simp at h
  · rename_i h1
    split at h
    · simp at h
    · rename_i h2
      split at h
      · simp at h
      · rename_i h3
        split at h
        · simp at h
        · rename_i h4
          have hs : parse moveK (l.getD 0 0).toNat (l.drop 1) = m := congrArg (fun q => q.1) h
          match l, h1, hp, h2, h3, h4, hs with
          | a :: r, _, hp, h2, h3, h4, hs =>
            have pa := hp a (by simp)
            simp only [List.getD_cons_zero, List.drop_succ_cons, List.drop_zero, List.length_cons, ne_eq, Decidable.not_not, Bool.not_eq_false] at h2 h3 h4 hs
            rw [← hs]
            refine ⟨?_, ?_⟩
            · rw [move_once (by omega) h4, Int.toNat_of_nonneg pa]
            · simp only [movesOk, moveOk, Bool.and_eq_true, decide_eq_true_eq, inId_iff, List.all_eq_true, parse_length]
              refine ⟨by omega, fun y hy => ?_⟩
              obtain ⟨i, hi, rfl⟩ := List.mem_iff_getElem.1 hy
              have hi' : i < a.toNat := by rw [parse_length] at hi; exact hi
              have hfi := (fine_iff moveK _ _).1 h4 i hi'
              rw [parse_get moveK _ _ i hi']
              have s4 : moveK.size = 4 := rfl
              have hlen : ((r.drop (i * moveK.size)).take moveK.size).length = 4 := by rw [s4]; simp only [List.length_take, List.length_drop]; omega
              have hall : ∀ z ∈ (r.drop (i * moveK.size)).take moveK.size, 0 ≤ z := fun z hz => hp z (by
                have := List.mem_of_mem_drop (List.mem_of_mem_take hz)
                simp [this])
              obtain ⟨z0, z1, z2, z3, ez⟩ := take_4 hlen
              rw [ez] at hfi hall ⊢
              have k0 := hall z0 (by simp)
              have k1 := hall z1 (by simp)
              have k2 := hall z2 (by simp)
              have k3 := hall z3 (by simp)
              simp [moveK, smallN] at hfi ⊢
              omega
          | [], h1, _, _, _, _, _ => simp at h1
end Go.Proofs.Ytpjoihafpjnipaa

/- Words for the reference's codec: an append that leaves all other blocks, a box that stays, a row that a literal makes. -/
namespace Go.Proofs.Ytpjoihafpjnipaa
set_option linter.unusedSimpArgs false
open Go.RowKit
set_option linter.unusedVariables false

/-- A box that holds these cells. -/
def Bx (w : World) (b : Nat) (cs : List Value) : Prop := b < w.heap.size ∧ ∀ j (h : j < cs.length), w.cell? ⟨b, j, none⟩ = some cs[j]
theorem Bx.at {w : World} {b : Nat} {cs : List Value} (h : Bx w b cs) (j : Nat) (v : Value) (hv : cs[j]? = some v) : w.cell? ⟨b, j, none⟩ = some v := by
  obtain ⟨hj, rfl⟩ := List.getElem?_eq_some_iff.1 hv
  exact h.2 j hj
theorem Bx.below {w w' : World} {b B : Nat} {cs : List Value} (h : Bx w b cs) (hb : Below B w w') (hB : b < B) : Bx w' b cs :=
  ⟨Nat.lt_of_lt_of_le h.1 hb.size, fun j hj => (hb.cell (p := ⟨b, j, none⟩) hB).trans (h.2 j hj)⟩
theorem Bx.grown {w w' : World} {b : Nat} {row : Option Nat} {cs : List Value} (h : Bx w b cs) (hg : w.grownBy w' row) (hr : some b ≠ row) : Bx w' b cs :=
  ⟨Nat.lt_of_lt_of_le h.1 hg.size, fun j hj => hg.cell (h.2 j hj) hr⟩
theorem Bx.alloc {w : World} {b : Nat} {cs : List Value} (h : Bx w b cs) (o : Obj) : Bx (w.alloc o) b cs :=
  ⟨by have := h.1; simp; omega, fun j hj => by rw [World.cell?_alloc_lt _ _ _ h.1]; exact h.2 j hj⟩
theorem Bx.new (w : World) (cs : List Value) (t : TypeId) : Bx (w.alloc (.cells cs.toArray t)) w.heap.size cs :=
  ⟨by simp, fun j hj => by simp [List.getElem?_eq_getElem hj]⟩
/-- A row that a literal makes. -/
theorem own_lit (w : World) (B n : Nat) (e : TypeId) (cs : List Value) (hB : B ≤ w.heap.size) (hn : n = cs.length) (hl : n ≤ 1000) : (w.alloc (.cells cs.toArray e)).ownsRow B e 1 (.slice (some ⟨w.heap.size, 0, none⟩) n n) n cs := by
  subst hn
  refine ⟨by omega, .inr ⟨w.heap.size, cs.length, cs.toArray, rfl, hB, heap_alloc_new w _, Nat.le_refl _, by unfold maxLen; omega, by simp, by simp⟩⟩
theorem row_new (w : World) (cs : List Value) (e : TypeId) : Row (w.alloc (.cells cs.toArray e)) (w.heap.size + 1) (some ⟨w.heap.size, 0, none⟩) cs :=
  .inr ⟨w.heap.size, 0, rfl, by omega, fun j hj => by simp [List.getElem?_eq_getElem hj]⟩
theorem lit_cells (w : World) (cs : List Value) (e : TypeId) : ∀ j u, cs[j]? = some u → (w.alloc (.cells cs.toArray e)).cell? ⟨w.heap.size, j, none⟩ = some u := fun j u h => by
  have := cell_of_row (w.alloc (.cells cs.toArray e)) w.heap.size j cs.toArray e (0, 0) (heap_alloc_new w _)
  rw [this]
  simpa using h
section
variable {ops : Array Oper} {rest : List Oper} {o : Oper} {a : Act} {Q : Exit → Act → World → Prop} {wr : World}
/-- append of a literal's elements to a row of the call's own; nothing but that row has turned. -/
theorem wpList_lit (t e : TypeId) (z : Value) (bytes : Nat) (ht : Try.prog.underlying t = some (.slice e)) (hinfo : (Try.prog.info? e).map (fun i => (i.zero, i.size, i.bytes)) = some (some z, 1, bytes)) (hz : z.cells.size = 1) (hby : bytes ≤ 8)
    (hgd : o.guard = none) (s x : Operand) (ho : o.op = .call { callee := .builtin .append, args := #[s, x], argTypes := #[t, t] })
    {m : Nat} (B : Nat) (v : Value) (xs ys : List Value) (hu : ∀ u ∈ ys, u.oneCell' = true) (hown : wr.ownsRow B e 1 v xs.length xs) (hB : B ≤ wr.heap.size) (hl : xs.length + ys.length ≤ 2000000)
    (hs : a.eval s = v) (hx : a.eval x = .slice (some ⟨wr.heap.size, 0, none⟩) m m) (hn : m = ys.length)
    (h : ∀ v' w', w'.ownsRow B e 1 v' (xs ++ ys).length (xs ++ ys) → Below B wr w' → B ≤ w'.heap.size → (∀ b cs, B ≤ wr.heap.size → v.ownBlock ≠ some b → Bx wr b cs → Bx w' b cs) → wpList Try.prog ops Q rest (a.put o.dst v') w') :
    wpList Try.prog ops Q (o :: rest) a (wr.alloc (.cells ys.toArray e)) := by
  obtain ⟨i0, hi, hz0, hz1, hz2⟩ := info_parts hinfo
  subst hn
  refine wpList_append_own _ hgd s x t ho B e i0 z 1 bytes ht hi hz0 hz1 hz2 hz (by decide) v xs.length xs hs (hown.alloc _) ⟨wr.heap.size, 0, none⟩ ys.length ys.length ys hx (by omega) ?_ hu ?_ ?_ ?_ ?_
  · intro j y hy
    have := cell_of_row (wr.alloc (.cells ys.toArray e)) wr.heap.size j ys.toArray e (0, 0) (heap_alloc_new wr _)
    rw [Addr.add_lit, Nat.zero_add, this]
    simpa using hy
  · unfold maxLen; omega
  · have : (xs.length + ys.length) * bytes ≤ (xs.length + ys.length) * 8 := Nat.mul_le_mul_left _ hby
    omega
  · simp; omega
  · intro v' w' h1 h2 _
    refine h v' w' (by simpa using h1) (((Below.refl B wr).alloc hB _).grown h2 (by simp; omega) (fun j hj => (hown.lt j hj).1)) (by have := h2.size; simp at this; omega) fun b cs _ hne hbx => ?_
    exact (hbx.alloc _).grown h2 (by intro e; exact hne e.symm)
/-- The same at a step of a region that draws its order. -/
theorem step_lit {K : Act → World → Prop} {E : Prop} (t e : TypeId) (z : Value) (size bytes : Nat) (ht : Try.prog.underlying t = some (.slice e)) (hinfo : (Try.prog.info? e).map (fun i => (i.zero, i.size, i.bytes)) = some (some z, size, bytes)) (hz : z.cells.size = size) (hsz : 0 < size) (hby : bytes ≤ 1000)
    (hgd : o.guard = none) (s x : Operand) (ho : o.op = .call { callee := .builtin .append, args := #[s, x], argTypes := #[t, t] })
    {m n g : Nat} (B : Nat) (v : Value) (xs ys : List Value) (hu : ∀ u ∈ ys, u.oneCell' = true) (hown : wr.ownsRow B e size v n xs) (hB : B ≤ wr.heap.size) (hl : n + m ≤ 2000000)
    (hs : a.eval s = v) (hx : a.eval x = .slice (some ⟨g, 0, none⟩) m m) (hn : ys.length = m * size) (hm : 0 < m) (hrow : ∀ j u, ys[j]? = some u → wr.cell? ⟨g, j, none⟩ = some u)
    (h : ∀ A c w', w'.ownsRow B e size (.slice A (n + m) c) (n + m) (xs ++ ys) → Below B wr w' → B ≤ w'.heap.size → (∀ b o', some b ≠ v.ownBlock → b < wr.heap.size → w'.cell? ⟨b, o', none⟩ = wr.cell? ⟨b, o', none⟩ ∧ w'.frozen? ⟨b, o', none⟩ = wr.frozen? ⟨b, o', none⟩) → wr.heap.size ≤ w'.heap.size → K (a.put o.dst (.slice A (n + m) c)) w') :
    if Region.wanted o (yielded ops a.tmps) = true then Oper.wp Try.prog o a wr K Q else E := by
  obtain ⟨i0, hi, hz0, hz1, hz2⟩ : ∃ i, Try.prog.info? e = some i ∧ i.zero = some z ∧ i.size = size ∧ i.bytes = bytes := by
    cases hi : Try.prog.info? e with
    | none => rw [hi] at hinfo; cases hinfo
    | some i =>
      rw [hi] at hinfo
      have h := Option.some.inj hinfo
      simp only [Prod.mk.injEq] at h
      exact ⟨i, rfl, h.1, h.2.1, h.2.2⟩
  refine step_append_lies wr hgd s x t ho B e i0 z size bytes ht hi hz0 hz1 hz2 hz hsz v n xs hs hown ⟨g, 0, none⟩ m m ys hx hn ?_ hu hm ?_ ?_ hB _ rfl ?_
  · intro j y hy
    rw [Addr.add_lit, Nat.zero_add]
    exact hrow j y hy
  · unfold maxLen; omega
  · have : (n + m) * bytes ≤ (n + m) * 1000 := Nat.mul_le_mul_left _ hby
    omega
  · intro g' cap w' h1 h2 _ _
    exact h _ _ w' h1 ((Below.refl B wr).grown h2 hB (fun j hj => (hown.lt j hj).1)) (by have := h2.size; omega) (fun b o' hne hb => ⟨World.cell?_of_block (h2.block b hb hne), World.frozen?_of_block (h2.block b hb hne)⟩) h2.size
end
/-- One box of the world is as it was. -/
def SameBox (W : World) (b : Nat) (v : World) : Prop := (∀ o, v.cell? ⟨b, o, none⟩ = W.cell? ⟨b, o, none⟩) ∧ W.heap.size ≤ v.heap.size
theorem SameBox.refl (W : World) (b : Nat) : SameBox W b W := ⟨fun _ => rfl, Nat.le_refl _⟩
theorem SameBox.drew {W v : World} {b : Nat} (h : SameBox W b v) : SameBox W b v.drew := h
theorem SameBox.alloc {W v : World} {b : Nat} (h : SameBox W b v) (hb : b < W.heap.size) (o : Obj) : SameBox W b (v.alloc o) :=
  ⟨fun o' => by rw [World.cell?_alloc_lt _ _ _ (Nat.lt_of_lt_of_le hb h.2)]; exact h.1 o', by have := h.2; simp; omega⟩
theorem SameBox.far {W v v' : World} {b : Nat} {row : Option Nat} (h : SameBox W b v) (hf : ∀ b o', some b ≠ row → b < v.heap.size → v'.cell? ⟨b, o', none⟩ = v.cell? ⟨b, o', none⟩ ∧ v'.frozen? ⟨b, o', none⟩ = v.frozen? ⟨b, o', none⟩) (hs : v.heap.size ≤ v'.heap.size) (hne : some b ≠ row) (hb : b < W.heap.size) : SameBox W b v' :=
  ⟨fun o' => (hf b o' hne (Nat.lt_of_lt_of_le hb h.2)).1.trans (h.1 o'), Nat.le_trans h.2 hs⟩
/-- What the reference tells of a number: itself, if it is small. -/
def Num04 (n : Int) (w : World) (e : Ending) (w' : World) : Prop := ∃ x ok, e = .returned (.tuple #[.int .i64 x, .bool ok]) ∧ ok = smallN n ∧ (ok = true → x = n) ∧ w = w'
end Go.Proofs.Ytpjoihafpjnipaa

namespace Go.Proofs.Ytpjoihafpjnipaa
set_option linter.unusedSimpArgs false
open Go.RowKit
set_option linter.unusedVariables false

theorem infoVec : (Try.prog.info? 30).map (fun i => (i.zero, i.size, i.bytes)) = some (some (.agg #[.int .u64 0, .int .u64 0, .int .u64 0, .int .u64 0]), 4, 32) := by kernel_rfl
theorem oneVec (x : V4) : ∀ u ∈ cellsV x, u.oneCell' = true := by
  intro u hu; simp only [cellsV, List.mem_cons, List.not_mem_nil, or_false] at hu
  rcases hu with rfl | rfl | rfl | rfl <;> rfl
theorem lenVec (x : V4) : (cellsV x).length = 4 := rfl
theorem flat4 (l : List V4) : (l.flatMap cellsV).length = l.length * 4 := by
  induction l with
  | nil => rfl
  | cons x r ih => rw [List.flatMap_cons, List.length_append, ih, lenVec, List.length_cons]; omega
section
variable {ops : Array Oper} {rest : List Oper} {o : Oper} {a : Act} {Q : Exit → Act → World → Prop} {wr : World}
/-- append of one record of a literal to a row of the call's own. -/
theorem wpList_pushR (t e : TypeId) (z : Value) (size bytes : Nat) (ht : Try.prog.underlying t = some (.slice e)) (hinfo : (Try.prog.info? e).map (fun i => (i.zero, i.size, i.bytes)) = some (some z, size, bytes)) (hz : z.cells.size = size) (hsz : 0 < size) (hby : bytes ≤ 1000)
    (hgd : o.guard = none) (s x : Operand) (ho : o.op = .call { callee := .builtin .append, args := #[s, x], argTypes := #[t, t] })
    (B : Nat) (v : Value) (n : Nat) (xs cs : List Value) (hcs : cs.length = size) (hu : ∀ u ∈ cs, u.oneCell' = true) (hown : wr.ownsRow B e size v n xs) (hB : B ≤ wr.heap.size) (hl : n ≤ 2000000)
    (hs : a.eval s = v) (hx : a.eval x = .slice (some ⟨wr.heap.size, 0, none⟩) 1 1)
    (h : ∀ v' w', w'.ownsRow B e size v' (n + 1) (xs ++ cs) → Below B wr w' → B ≤ w'.heap.size → wpList Try.prog ops Q rest (a.put o.dst v') w') :
    wpList Try.prog ops Q (o :: rest) a (wr.alloc (.cells cs.toArray e)) := by
  obtain ⟨i0, hi, hz0, hz1, hz2⟩ : ∃ i, Try.prog.info? e = some i ∧ i.zero = some z ∧ i.size = size ∧ i.bytes = bytes := by
    cases hi : Try.prog.info? e with
    | none => rw [hi] at hinfo; cases hinfo
    | some i =>
      rw [hi] at hinfo
      have h := Option.some.inj hinfo
      simp only [Prod.mk.injEq] at h
      exact ⟨i, rfl, h.1, h.2.1, h.2.2⟩
  refine wpList_append_own _ hgd s x t ho B e i0 z size bytes ht hi hz0 hz1 hz2 hz hsz v n xs hs (hown.alloc _) ⟨wr.heap.size, 0, none⟩ 1 1 cs hx (by omega) ?_ hu ?_ ?_ ?_ ?_
  · intro j y hy
    have := cell_of_row (wr.alloc (.cells cs.toArray e)) wr.heap.size j cs.toArray e (0, 0) (heap_alloc_new wr _)
    rw [Addr.add_lit, Nat.zero_add, this]
    simpa using hy
  · unfold maxLen; omega
  · have : (n + 1) * bytes ≤ (n + 1) * 1000 := Nat.mul_le_mul_left _ hby
    omega
  · simp; omega
  · intro v' w' h1 h2 _
    exact h v' w' h1 (((Below.refl B wr).alloc hB _).grown h2 (by simp; omega) (fun j hj => (hown.lt j hj).1)) (by have := h2.size; simp at this; omega)
end
theorem two_head (w : World) (v0 v1 v2 : Value) (t t' : TypeId) : Row4 ((w.alloc (.cells #[v0, v1, v2] t)).alloc (.cells #[.int .u64 0, .int .u64 0, .int .u64 0, .int .u64 0] t')) (w.heap.size + 1) (.int .u64 0) (.int .u64 0) (.int .u64 0) (.int .u64 0) :=
  ⟨by simp, by simp, by simp, by simp, by simp, by simp, by simp, by simp⟩
theorem own_reqs {B m : Nat} {e : TypeId} {w1 : World} {v : Value} {xs ys : List V4} {x : V4} (hm : m = xs.length) (h : w1.ownsRow B e 4 v (m + 1) (xs.flatMap cellsV ++ cellsV x)) (he : ys = xs ++ [x]) : w1.ownsRow B e 4 v (m + 1) (ys.flatMap cellsV) ∧ m + 1 = ys.length := by
  subst he hm; simpa using h

def UseRel (l : List PodD) (node : Int) (W : World) (B : Nat) (v i : Value) (wr : World) : Prop :=
  ∃ k m : Nat, k ≤ l.length ∧ i = .int .i64 k ∧ m = (reqsAt node (l.take k)).length ∧ wr.ownsRow B 30 4 v m ((reqsAt node (l.take k)).flatMap cellsV) ∧ Below B W wr
end Go.Proofs.Ytpjoihafpjnipaa
