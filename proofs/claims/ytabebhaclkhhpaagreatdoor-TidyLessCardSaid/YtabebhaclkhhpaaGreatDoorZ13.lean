/- Joined texts, part 13: QE QF QK DC DD. -/
import Derived.Test.YtabebhaclkhhpaaGreatDoorZ12
import Derived.Laws.OwnMore
import Derived.Test.YtabebhaclkhhpaaGreatDoorZ02
import Derived.Test.YtabebhaclkhhpaaGreatDoorZ08
import Derived.Lib.AppendZerosOnto
import Derived.Lib.Walk
import Derived.Laws.Cover3
import Derived.Test.YtabebhaclkhhpaaGreatDoorZ04

/- The first proposal, and the state behind it: the program's first of layer 16. -/
namespace Go.Proofs.YtabebhaclkhhpaaGreatDoor
set_option linter.unusedSimpArgs false
open Go.RowKit Go.Shelf
set_option linter.unusedVariables false

attribute [local go_sem] Oper.semAt_some

/-- What is told of a first proposal. -/
def FirstTo (r : Option (MoveD × StateD)) (w : World) (e : Ending) (w' : World) : Prop :=
  (∃ m u A c, r = some (m, u) ∧ e = .returned (.tuple #[aggM m, stateV A u.pods.length c u.preempts u.shifts, .bool true]) ∧ Out 8 cellsP w' u.pods A c ∧ (∀ a, A = some a → w.heap.size ≤ a.block) ∧ Below w.heap.size w w') ∨
    (r = none ∧ e = .returned (.tuple #[aggM ⟨0, 0, 0, 0⟩, stateV none 0 0 0 0, .bool false]) ∧ Below w.heap.size w w')

/-- What stands ahead of the one round, what the round is given, and what it leaves. -/
def FstO (g : Nat) (k : Nat) : Prop := k = g + 3 ∨ k = g + 4 ∨ k = g + 5
def FstI (w : World) (pre : List PropQ) (O : Nat → Prop) (V : World) : Prop :=
  pre = [] ∧ O = FstO w.heap.size ∧ Bf V (w.heap.size + 3) (cellsM ⟨0, 0, 0, 0⟩) ∧ Bf V (w.heap.size + 4) [.slice none 0 0, .int .i64 0, .int .i64 0] ∧ Bf V (w.heap.size + 5) [.bool false] ∧ Below w.heap.size w V
def FstX (w : World) (base : Nat) (pre : List PropQ) (V : World) : Prop :=
  ∃ q, pre = [q] ∧ Out 8 cellsP V q.1.2.pods q.2.1 q.2.2 ∧ (∀ a, q.2.1 = some a → base ≤ a.block) ∧ Bf V (w.heap.size + 3) (cellsM q.1.1) ∧ Bf V (w.heap.size + 4) [.slice q.2.1 q.1.2.pods.length q.2.2, .int .i64 q.1.2.preempts, .int .i64 q.1.2.shifts] ∧ Bf V (w.heap.size + 5) [.bool true] ∧ Below w.heap.size w V
def FstA (tm : Nat → Nat → PropQ → Array Value) (base : Nat) (q : PropQ) (a' : Act) (V : World) : Prop :=
  ∃ b1 b2, base ≤ b1 ∧ base ≤ b2 ∧ Bf V b1 (cellsM q.1.1) ∧ Bf V b2 [.slice q.2.1 q.1.2.pods.length q.2.2, .int .i64 q.1.2.preempts, .int .i64 q.1.2.shifts] ∧ Out 8 cellsP V q.1.2.pods q.2.1 q.2.2 ∧ (∀ a, q.2.1 = some a → base ≤ a.block) ∧ a' = { tmps := tm b1 b2 q, defers := [] }
theorem FstI.but {w W A B : World} {pre : List PropQ} {O : Nat → Prop} (hW : w.heap.size + 6 ≤ W.heap.size) (h : FstI w pre O A) (hb : But (RecQ W) A B) : FstI w pre O B := by
  obtain ⟨h1, h2, h3, h4, h5, h6⟩ := h
  exact ⟨h1, h2, h3.but hb (fun e => by unfold RecQ at e; omega), h4.but hb (fun e => by unfold RecQ at e; omega), h5.but hb (fun e => by unfold RecQ at e; omega), h6.trans (hb.below h6.size fun k hk => by unfold RecQ at hk; omega)⟩
theorem FstX.but {w W A B : World} {pre : List PropQ} (hW : w.heap.size + 6 ≤ W.heap.size) (h : FstX w (W.heap.size + 2) pre A) (hb : But (RecQ W) A B) : FstX w (W.heap.size + 2) pre B := by
  obtain ⟨q, h1, h2, h0, h3, h4, h5, h6⟩ := h
  exact ⟨q, h1, h2.but hb (fun a ha e => by have := h0 a ha; unfold RecQ at e; omega), h0, h3.but hb (fun e => by unfold RecQ at e; omega), h4.but hb (fun e => by unfold RecQ at e; omega), h5.but hb (fun e => by unfold RecQ at e; omega), h6.trans (hb.below h6.size fun k hk => by unfold RecQ at hk; omega)⟩
theorem FstA.but {W A B : World} {tm : Nat → Nat → PropQ → Array Value} {q : PropQ} {a' : Act} (h : FstA tm (W.heap.size + 2) q a' A) (hb : But (RecQ W) A B) : FstA tm (W.heap.size + 2) q a' B := by
  obtain ⟨b1, b2, k1, k2, h1, h2, h3, h4, h5⟩ := h
  exact ⟨b1, b2, k1, k2, h1.but hb (fun e => by unfold RecQ at e; omega), h2.but hb (fun e => by unfold RecQ at e; omega), h3.but hb (fun a ha e => by have := h4 a ha; unfold RecQ at e; omega), h4, h5⟩
theorem But.setO {O : Nat → Prop} {A B : World} (h : But O A B) {p : Addr} (hp : O p.block) (v : Value) : But O A (B.setCell p v) := h.trans (.set p v hp) fun _ _ h => h
theorem But.drewO {O : Nat → Prop} {A B : World} (h : But O A B) : But O A B.drew := ⟨h.os, h.tape, h.output, h.size, h.block⟩
theorem Bf.drewQ {V : World} {b : Nat} {cs : List Value} (h : Bf V b cs) : Bf V.drew b cs := h.below (Below.refl _ V).drew h.lt
/-- The three results, written. -/
def putFst (V : World) (g : Nat) (m : MoveD) (s p q : Value) (b : Bool) : World :=
  (((((((V.setCell ⟨g + 3, 0, none⟩ (.int .i64 m.kind)).setCell ⟨g + 3, 1, none⟩ (.int .i64 m.pod)).setCell ⟨g + 3, 2, none⟩ (.int .i64 m.node)).setCell ⟨g + 3, 3, none⟩ (.int .i64 m.over)).setCell ⟨g + 4, 0, none⟩ s).setCell ⟨g + 4, 1, none⟩ p).setCell ⟨g + 4, 2, none⟩ q).setCell ⟨g + 5, 0, none⟩ (.bool b)
theorem putFst_has {V : World} {g : Nat} (m m' : MoveD) (s p q s' p' q' : Value) (b b' : Bool) (h3 : Bf V (g + 3) (cellsM m')) (h4 : Bf V (g + 4) [s', p', q']) (h5 : Bf V (g + 5) [.bool b']) :
    But (FstO g) V (putFst V g m s p q b) ∧ Bf (putFst V g m s p q b) (g + 3) (cellsM m) ∧ Bf (putFst V g m s p q b) (g + 4) [s, p, q] ∧ Bf (putFst V g m s p q b) (g + 5) [.bool b] := by
  have o3 : FstO g (g + 3) := .inl rfl
  have o4 : FstO g (g + 4) := .inr (.inl rfl)
  have o5 : FstO g (g + 5) := .inr (.inr rfl)
  have n34 : g + 3 ≠ g + 4 := by omega
  have n35 : g + 3 ≠ g + 5 := by omega
  have n45 : g + 4 ≠ g + 5 := by omega
  refine ⟨?_, ?_, ?_, ?_⟩
  · exact ((((((((But.refl _ V).setO (p := ⟨g + 3, 0, none⟩) o3 _).setO (p := ⟨g + 3, 1, none⟩) o3 _).setO (p := ⟨g + 3, 2, none⟩) o3 _).setO (p := ⟨g + 3, 3, none⟩) o3 _).setO (p := ⟨g + 4, 0, none⟩) o4 _).setO (p := ⟨g + 4, 1, none⟩) o4 _).setO (p := ⟨g + 4, 2, none⟩) o4 _).setO (p := ⟨g + 5, 0, none⟩) o5 _
  · exact (((((((h3.set 0 (.int .i64 m.kind)).set 1 (.int .i64 m.pod)).set 2 (.int .i64 m.node)).set 3 (.int .i64 m.over)).other (p := ⟨g + 4, 0, none⟩) n34.symm s).other (p := ⟨g + 4, 1, none⟩) n34.symm p).other (p := ⟨g + 4, 2, none⟩) n34.symm q).other (p := ⟨g + 5, 0, none⟩) n35.symm (.bool b)
  · exact (((((((h4.other (p := ⟨g + 3, 0, none⟩) n34 (.int .i64 m.kind)).other (p := ⟨g + 3, 1, none⟩) n34 (.int .i64 m.pod)).other (p := ⟨g + 3, 2, none⟩) n34 (.int .i64 m.node)).other (p := ⟨g + 3, 3, none⟩) n34 (.int .i64 m.over)).set 0 s).set 1 p).set 2 q).other (p := ⟨g + 5, 0, none⟩) n45.symm (.bool b)
  · exact (((((((h5.other (p := ⟨g + 3, 0, none⟩) n35 (.int .i64 m.kind)).other (p := ⟨g + 3, 1, none⟩) n35 (.int .i64 m.pod)).other (p := ⟨g + 3, 2, none⟩) n35 (.int .i64 m.node)).other (p := ⟨g + 3, 3, none⟩) n35 (.int .i64 m.over)).other (p := ⟨g + 4, 0, none⟩) n45 s).other (p := ⟨g + 4, 1, none⟩) n45 p).other (p := ⟨g + 4, 2, none⟩) n45 q).set 0 (.bool b)
theorem FstX.made {w V W' : World} {base : Nat} {q : PropQ} (hg : w.heap.size + 6 ≤ base) (hO : Out 8 cellsP V q.1.2.pods q.2.1 q.2.2) (hfr : ∀ a, q.2.1 = some a → base ≤ a.block) (hB : Below w.heap.size w V) (kb : But (FstO w.heap.size) V W')
    (b3 : Bf W' (w.heap.size + 3) (cellsM q.1.1)) (b4 : Bf W' (w.heap.size + 4) [.slice q.2.1 q.1.2.pods.length q.2.2, .int .i64 q.1.2.preempts, .int .i64 q.1.2.shifts]) (b5 : Bf W' (w.heap.size + 5) [.bool true]) : But (FstO w.heap.size) V W' ∧ FstX w base [q] W' :=
  ⟨kb, q, rfl, hO.but kb (fun a ha e => by have := hfr a ha; unfold FstO at e; omega), hfr, b3, b4, b5, hB.trans (kb.below hB.size fun k hk => by unfold FstO at hk; omega)⟩

set_option maxHeartbeats 12800000 in
set_option maxRecDepth 100000 in
theorem first_any16 (ns : List NodeD) (ls : List LoadD) (x : SpecD) (t : StateD) (A1 A2 A3 A4 A5 : Option Addr) (n1 c1 n2 c2 n3 c3 n4 c4 n5 c5 : Nat) (w : World) (h : TidyArgs ns ls x t A1 A2 A4 A5 n1 n2 n4 c4 n5 w) :
    Calls Tryz.prog 22 #[.agg #[.slice A1 n1 c1, .slice A2 n2 c2, .slice A3 n3 c3], .agg #[.slice A5 n5 c5, .int .i64 x.preempts, .int .i64 x.shifts], .agg #[.slice A4 n4 c4, .int .i64 t.preempts, .int .i64 t.shifts]] w (FirstTo (firstT ns ls x t) w) := by
  refine (callsIn_wide (n := 8)).1 ?_
  refine callsIn_of_wp_marks Tryz.func22 rfl trivial ?_ rfl
  simp only [Tryz.ntmps22, List.size_toArray, List.length_cons, List.length_nil, Nat.reduceAdd, Nat.reduceSub, Array.replicate_succ, Array.replicate_zero, List.push_toArray, List.append_toArray, List.nil_append, List.cons_append]
  gi_wp2_with fail
  have k3 : Below w.heap.size w (((w.alloc (.cells #[.slice A1 n1 c1, .slice A2 n2 c2, .slice A3 n3 c3] 26)).alloc (.cells #[.slice A5 n5 c5, .int .i64 x.preempts, .int .i64 x.shifts] 29)).alloc (.cells #[.slice A4 n4 c4, .int .i64 t.preempts, .int .i64 t.shifts] 31)) := (((Below.refl _ w).alloc (Nat.le_refl _) _).alloc (by simp) _).alloc (by simp; omega) _
  have hs3 : (((w.alloc (.cells #[.slice A1 n1 c1, .slice A2 n2 c2, .slice A3 n3 c3] 26)).alloc (.cells #[.slice A5 n5 c5, .int .i64 x.preempts, .int .i64 x.shifts] 29)).alloc (.cells #[.slice A4 n4 c4, .int .i64 t.preempts, .int .i64 t.shifts] 31)).heap.size = w.heap.size + 3 := by simp
  generalize (((w.alloc (.cells #[.slice A1 n1 c1, .slice A2 n2 c2, .slice A3 n3 c3] 26)).alloc (.cells #[.slice A5 n5 c5, .int .i64 x.preempts, .int .i64 x.shifts] 29)).alloc (.cells #[.slice A4 n4 c4, .int .i64 t.preempts, .int .i64 t.shifts] 31)) = V3 at *
  have R6 := T3.new V3 (cellsM ⟨0, 0, 0, 0⟩) [.slice none 0 0, .int .i64 0, .int .i64 0] [.bool false] 49 31 4
  refine ⟨trivial, (callsIn_wide.2 (proposals_any A1 A2 A3 A4 A5 n1 c1 n2 c2 n3 c3 n4 c4 n5 c5 x.preempts x.shifts t.preempts t.shifts _)).mono ?_⟩
  rintro e w1 ⟨rfl, rfl⟩
  have hs6 : (((V3.alloc (.cells (cellsM ⟨0, 0, 0, 0⟩).toArray 49)).alloc (.cells #[.slice none 0 0, .int .i64 0, .int .i64 0] 31)).alloc (.cells #[.bool false] 4)).heap.size = w.heap.size + 6 := by simp [hs3]
  rw [show ((V3.alloc (.cells #[.int .i64 0, .int .i64 0, .int .i64 0, .int .i64 0] 49)).alloc (.cells #[.slice none 0 0, .int .i64 0, .int .i64 0] 31)).alloc (.cells #[.bool false] 4) = ((V3.alloc (.cells (cellsM ⟨0, 0, 0, 0⟩).toArray 49)).alloc (.cells #[.slice none 0 0, .int .i64 0, .int .i64 0] 31)).alloc (.cells #[.bool false] 4) from rfl]
  generalize ((V3.alloc (.cells (cellsM ⟨0, 0, 0, 0⟩).toArray 49)).alloc (.cells #[.slice none 0 0, .int .i64 0, .int .i64 0] 31)).alloc (.cells #[.bool false] 4) = V6 at *
  have P9 := T3.new V6 [.slice A1 n1 c1, .slice A2 n2 c2, .slice A3 n3 c3] [.slice A5 n5 c5, .int .i64 x.preempts, .int .i64 x.shifts] [.slice A4 n4 c4, .int .i64 t.preempts, .int .i64 t.shifts] 26 29 31
  have hs9 : (((V6.alloc (.cells #[.slice A1 n1 c1, .slice A2 n2 c2, .slice A3 n3 c3] 26)).alloc (.cells #[.slice A5 n5 c5, .int .i64 x.preempts, .int .i64 x.shifts] 29)).alloc (.cells #[.slice A4 n4 c4, .int .i64 t.preempts, .int .i64 t.shifts] 31)).heap.size = w.heap.size + 9 := by simp [hs6]
  generalize (((V6.alloc (.cells #[.slice A1 n1 c1, .slice A2 n2 c2, .slice A3 n3 c3] 26)).alloc (.cells #[.slice A5 n5 c5, .int .i64 x.preempts, .int .i64 x.shifts] 29)).alloc (.cells #[.slice A4 n4 c4, .int .i64 t.preempts, .int .i64 t.shifts] 31)) = V9 at *
  have HA9 := Lib.hid (props_stops 7 (by decide) ns ls x t A1 A2 A3 A4 A5 n1 c1 n2 c2 n3 c3 n4 c4 n5 c5 w h (w.heap.size + 6) V9 (by rw [← hs6]; exact P9.one) (by rw [← hs6]; exact P9.two) (by rw [← hs6]; exact P9.three) ((k3.trans (R6.below.mono (by omega))).trans (P9.below.mono (by omega))))
  have HF0 : Hid (FstI w [] (FstO w.heap.size) V9) := by
    have hR := R6.keep (V' := V9) P9.below
    refine ⟨rfl, rfl, ?_, ?_, ?_, (k3.trans (R6.below.mono (by omega))).trans (P9.below.mono (by omega))⟩
    · have := hR.one; rwa [hs3] at this
    · have := hR.two; rwa [hs3] at this
    · have := hR.three; rwa [hs3] at this
  have HS9 := Lib.hid hs9
  clear k3 hs3 R6 P9 h hs9
  gi_wp2
  simp only [Nat.add_assoc, Nat.reduceAdd]
  refine loopQ (α := PropQ) rfl (by decide) (gf := 52) (lb := #[.pointer (some ⟨w.heap.size + 6, 0, none⟩), .pointer (some ⟨w.heap.size + 6 + 2, 0, none⟩), .pointer (some ⟨w.heap.size + 6 + 1, 0, none⟩)]) rfl trivial (enters_of Tryz.func52 (by kernel_rfl) rfl)
    HA9.out (Below.refl _ _) (fun k hk => by have := HS9.out; omega) (fun _ => rfl) (FstI w) (FstX w (V9.heap.size + 2))
    (FstA (fun b1 b2 q => #[.agg #[.slice A1 n1 c1, .slice A2 n2 c2, .slice A3 n3 c3], .agg #[.slice A5 n5 c5, .int .i64 x.preempts, .int .i64 x.shifts], .agg #[.slice A4 n4 c4, .int .i64 t.preempts, .int .i64 t.shifts],
      .pointer (some ⟨w.heap.size, 0, none⟩), .pointer (some ⟨w.heap.size + 1, 0, none⟩), .pointer (some ⟨w.heap.size + 2, 0, none⟩), .pointer (some ⟨w.heap.size + 3, 0, none⟩), .pointer (some ⟨w.heap.size + 4, 0, none⟩), .pointer (some ⟨w.heap.size + 5, 0, none⟩), .pointer (some ⟨b1, 0, none⟩), .pointer (some ⟨b2, 0, none⟩),
      .agg #[.slice A1 n1 c1, .slice A2 n2 c2, .slice A3 n3 c3], .agg #[.slice A5 n5 c5, .int .i64 x.preempts, .int .i64 x.shifts], .agg #[.slice A4 n4 c4, .int .i64 t.preempts, .int .i64 t.shifts],
      .func (.func 52) #[] #[.pointer (some ⟨w.heap.size + 6, 0, none⟩), .pointer (some ⟨w.heap.size + 8, 0, none⟩), .pointer (some ⟨w.heap.size + 7, 0, none⟩)], aggM q.1.1, stateV q.2.1 q.1.2.pods.length q.2.2 q.1.2.preempts q.1.2.shifts, undef, undef, undef, undef]) (V9.heap.size + 2))
    (fun s O A B hs hb => FstI.but (by have := HS9.out; omega) hs hb) (fun s A B hs hb => FstX.but (by have := HS9.out; omega) hs hb) (fun q a' A B hs hb => FstA.but hs hb)
    (FstO w.heap.size) (fun k hk => by have := HS9.out; unfold FstO at hk; omega) HF0.out ?assign ?body ?done ?stop
  case assign =>
    intro l pre O q V K hI hG hsz hK
    have HK := Lib.hid hK
    have HG := Lib.hid hG
    clear hK hG hI HF0 HA9
    simp only [encQ]
    gi_wp2
    have kV : Below V.heap.size V ((V.alloc (.cells #[.int .i64 q.1.1.kind, .int .i64 q.1.1.pod, .int .i64 q.1.1.node, .int .i64 q.1.1.over] 49)).alloc (.cells #[.slice q.2.1 q.1.2.pods.length q.2.2, .int .i64 q.1.2.preempts, .int .i64 q.1.2.shifts] 31)) := ((Below.refl _ V).alloc (Nat.le_refl _) _).alloc (by simp) _
    have B1 : Bf ((V.alloc (.cells #[.int .i64 q.1.1.kind, .int .i64 q.1.1.pod, .int .i64 q.1.1.node, .int .i64 q.1.1.over] 49)).alloc (.cells #[.slice q.2.1 q.1.2.pods.length q.2.2, .int .i64 q.1.2.preempts, .int .i64 q.1.2.shifts] 31)) V.heap.size (cellsM q.1.1) := (Bf.new V (cellsM q.1.1) 49 rfl).alloc _
    have B2 : Bf ((V.alloc (.cells #[.int .i64 q.1.1.kind, .int .i64 q.1.1.pod, .int .i64 q.1.1.node, .int .i64 q.1.1.over] 49)).alloc (.cells #[.slice q.2.1 q.1.2.pods.length q.2.2, .int .i64 q.1.2.preempts, .int .i64 q.1.2.shifts] 31)) (V.heap.size + 1) [.slice q.2.1 q.1.2.pods.length q.2.2, .int .i64 q.1.2.preempts, .int .i64 q.1.2.shifts] :=
      Bf.new (V.alloc (.cells #[.int .i64 q.1.1.kind, .int .i64 q.1.1.pod, .int .i64 q.1.1.node, .int .i64 q.1.1.over] 49)) [.slice q.2.1 q.1.2.pods.length q.2.2, .int .i64 q.1.2.preempts, .int .i64 q.1.2.shifts] 31 (by simp)
    exact HK.out _ _ kV ⟨V.heap.size, V.heap.size + 1, hsz, by omega, B1, B2, HG.out.1.later kV, HG.out.2, rfl⟩
  case body =>
    rintro l pre O q a' V ⟨rfl, rfl, h3, h4, h5, hB⟩ ⟨b1, b2, k1, k2, j1, j2, hO, hfr, rfl⟩ hlo hsz hlt
    have HH := Lib.hid (And.intro h3 (And.intro h4 (And.intro h5 hB)))
    have HO := Lib.hid (And.intro hO hfr)
    have HS := Lib.hid hsz
    obtain ⟨⟨m0, m1⟩, m2, m3, m4⟩ := j1.cells4q
    obtain ⟨s0, s1, s2, s3⟩ := j2.cells3
    have q0 := h3.frozen 0
    have q1 := h3.frozen 1
    have q2 := h3.frozen 2
    have q3 := h3.frozen 3
    have r0 := h4.frozen 0
    have r1 := h4.frozen 1
    have r2 := h4.frozen 2
    have t0 := h5.frozen 0
    obtain ⟨⟨g0, g1⟩, g2, g3, g4⟩ := h3.cells4q
    obtain ⟨f0, f1, f2, f3⟩ := h4.cells3
    have u0 := h5.cell 0 _ rfl
    have hd1 : w.heap.size + 3 ≠ b1 := by have := HS9.out; omega
    have hd2 : w.heap.size + 3 ≠ b2 := by have := HS9.out; omega
    have hd3 : w.heap.size + 4 ≠ b1 := by have := HS9.out; omega
    have hd4 : w.heap.size + 4 ≠ b2 := by have := HS9.out; omega
    clear h3 h4 h5 hB j1 j2 hO hfr hsz k1 k2 hlo hlt HF0 HA9
    gi_wp2
    gi_region
    all_goals
      gi_wp2
      obtain ⟨kb, b3, b4, b5⟩ := putFst_has (g := w.heap.size) q.1.1 _ (.slice q.2.1 q.1.2.pods.length q.2.2) (.int .i64 q.1.2.preempts) (.int .i64 q.1.2.shifts) _ _ _ true _ HH.out.1 HH.out.2.1 HH.out.2.2.1
      exact FstX.made (by have := HS9.out; omega) HO.out.1 HO.out.2 HH.out.2.2.2 kb.drewO b3.drewQ b4.drewQ b5.drewQ
  case done =>
    rintro d xs O W' hd hS ⟨rfl, rfl, h3, h4, h5, hB⟩ hK
    have HF : Hid (firstT ns ls x t = none) := by show _ = _; rw [firstT, ← hS]; rfl
    have HH := Lib.hid (And.intro h3 (And.intro h4 (And.intro h5 hB)))
    have q0 := h3.frozen 0
    have q1 := h3.frozen 1
    have q2 := h3.frozen 2
    have q3 := h3.frozen 3
    have r0 := h4.frozen 0
    have r1 := h4.frozen 1
    have r2 := h4.frozen 2
    have t0 := h5.frozen 0
    obtain ⟨⟨g0, g1⟩, g2, g3, g4⟩ := h3.cells4q
    obtain ⟨f0, f1, f2, f3⟩ := h4.cells3
    have u0 := h5.cell 0 _ rfl
    have HK := Lib.hid hK
    have HD := Lib.hid hd
    clear h3 h4 h5 hB hS HF0 HA9 hK hd
    gi_wp2
    show bodyPostM _ _ _ _ _ _ _ (putFst W' w.heap.size ⟨0, 0, 0, 0⟩ (.slice none 0 0) (.int .i64 0) (.int .i64 0) false)
    obtain ⟨kb, b3, b4, b5⟩ := putFst_has (g := w.heap.size) ⟨0, 0, 0, 0⟩ _ (.slice none 0 0) (.int .i64 0) (.int .i64 0) _ _ _ false _ HH.out.1 HH.out.2.1 HH.out.2.2.1
    have hK2 := (kb.block d (Array.getElem?_eq_some_iff.1 HK.out).1 (fun e => by have := HD.out; have := HS9.out; unfold FstO at e; omega)).trans HK.out
    have hB2 := HH.out.2.2.2.trans (kb.below HH.out.2.2.2.size fun k hk => by unfold FstO at hk; omega)
    generalize putFst W' w.heap.size ⟨0, 0, 0, 0⟩ (.slice none 0 0) (.int .i64 0) (.int .i64 0) false = Z at *
    have kp : But (fun k => k = d) Z (Z.putObj d (.deferred none)) := .put _ rfl
    have nd : ∀ k, k < w.heap.size + 9 → ¬ k = d := fun k hk e => by have := HD.out; have := HS9.out; omega
    have hB3 := hB2.trans (kp.below hB2.size fun k hk => by have := HD.out; have := HS9.out; omega)
    have c3 := b3.but kp (nd _ (by omega))
    have c4 := b4.but kp (nd _ (by omega))
    have c5 := (b5.but kp (nd _ (by omega))).cell 0 _ rfl
    obtain ⟨⟨g0', g1'⟩, g2', g3', _⟩ := c3.cells4q
    obtain ⟨f0', f1', f2', _⟩ := c4.cells3
    refine ⟨by simp, .inl ⟨_, _, rfl, run_takeDeferred hK2, ?_⟩⟩
    clear q0 q1 q2 q3 r0 r1 r2 t0 g0 g1 g2 g3 g4 f0 f1 f2 f3 u0 kb b3 b4 b5 c3 c4 kp nd hB2
    refine ⟨.tuple #[aggM ⟨0, 0, 0, 0⟩, stateV none 0 0 0 0, .bool false], ?_, .inr ⟨HF.out, rfl, hB3⟩⟩
    simp [results, Tryz.results22, go_sem, *]
  case stop =>
    rintro d pre W' hd hS ⟨q, rfl, hO, hfr, h3, h4, h5, hB⟩ hK
    have HF : Hid (firstT ns ls x t = some q.1) := by
      show _ = _
      rw [firstT]
      obtain ⟨r, hr⟩ := hS
      rw [← hr]; rfl
    have HO := Lib.hid (And.intro hO hfr)
    have HD := Lib.hid hd
    clear HF0 HA9 hS
    have kp : But (fun k => k = d) W' (W'.putObj d (.deferred none)) := .put _ rfl
    have nd : ∀ k, k < w.heap.size + 9 → ¬ k = d := fun k hk e => by have := HD.out; have := HS9.out; omega
    have hB3 := hB.trans (kp.below hB.size fun k hk => by have := HD.out; have := HS9.out; omega)
    have c3 := h3.but kp (nd _ (by omega))
    have c4 := h4.but kp (nd _ (by omega))
    have c5 := (h5.but kp (nd _ (by omega))).cell 0 _ rfl
    obtain ⟨⟨g0', g1'⟩, g2', g3', _⟩ := c3.cells4q
    obtain ⟨f0', f1', f2', _⟩ := c4.cells3
    have HO2 := Lib.hid (hO.but kp (fun a ha e => by have := hfr a ha; have := HD.out; omega))
    clear hd
    gi_wp2
    refine ⟨by simp, .inl ⟨_, _, rfl, run_takeDeferred hK, ?_⟩⟩
    clear h3 h4 h5 c3 c4 kp nd hO hfr
    refine ⟨.tuple #[aggM q.1.1, stateV q.2.1 q.1.2.pods.length q.2.2 q.1.2.preempts q.1.2.shifts, .bool true], ?_, .inl ⟨q.1.1, q.1.2, q.2.1, q.2.2, HF.out, rfl, HO2.out, fun a ha => by have := HO.out.2 a ha; have := HS9.out; omega, hB3⟩⟩
    simp [results, Tryz.results22, go_sem, *]
end Go.Proofs.YtabebhaclkhhpaaGreatDoor

/- All proposals: the program's Propose of layer 16. -/
namespace Go.Proofs.YtabebhaclkhhpaaGreatDoor
set_option linter.unusedSimpArgs false
open Go.RowKit Go.Shelf
set_option linter.unusedVariables false

attribute [local go_sem] Oper.semAt_some

/-! Where an append's row lies: where it lay, or in new memory. -/
theorem run_append_where {P : Program} (w : World) (base : Nat) (t ty e : TypeId) (i : TypeInfo) (z : Value) (size bytes : Nat) (h1 : P.underlying t = some (.slice e)) (h2 : P.info? e = some i) (h3 : i.zero = some z) (h4 : i.size = size) (h5 : i.bytes = bytes) (h6 : z.cells.size = size) (h7 : 0 < size)
    (v : Value) (k : Nat) (xs : List Value) (hown : w.ownsRow base e size v k xs) (ad : Addr) (m c : Nat) (news : List Value) (hn : news.length = m * size) (hc : ∀ j u, news[j]? = some u → w.cell? (ad.add j) = some u) (h1c : ∀ u ∈ news, u.oneCell' = true)
    (b1 : k + m ≤ maxLen) (b2 : (k + m) * bytes ≤ 140737488355328) (b3 : base ≤ w.heap.size) :
    ∃ v' w', (Builtin.append_ #[t, t] ty #[v, .slice (some ad) m c]).run P w = .ok v' w' ∧ w'.ownsRow base e size v' (k + m) (xs ++ news) ∧ w.grownBy w' v.ownBlock ∧ ∀ g, v'.ownBlock = some g → v.ownBlock = some g ∨ w.heap.size ≤ g := by
  obtain ⟨v', w', hr, r1, r2, _⟩ := run_append_own (P := P) w base t ty e i z size bytes h1 h2 h3 h4 h5 h6 h7 v k xs hown ad m c news hn hc h1c b1 b2 b3
  refine ⟨v', w', hr, r1, r2, fun g hg => ?_⟩
  rcases hown.2 with ⟨rfl, rfl⟩ | ⟨g0, cap, cur, rfl, hbg, hg0, hnc, hcm, hcs, htake⟩
  · have hx : xs = [] := List.eq_nil_of_length_eq_zero (by simpa using hown.1)
    subst hx
    obtain ⟨v2, w2, hr2, q1, _, _⟩ := run_append_own (P := P) w w.heap.size t ty e i z size bytes h1 h2 h3 h4 h5 h6 h7 (.slice none 0 0) 0 [] (World.ownsRow_nil _ _ _ _) ad m c news hn hc h1c b1 b2 (Nat.le_refl _)
    rw [hr] at hr2
    injection hr2 with e1 e2
    subst e1 e2
    exact .inr (q1.lt g hg).1
  · by_cases hroom : k + m ≤ cap
    · obtain ⟨w2, hr2, _, _⟩ := run_append_fits (P := P) w base t ty e i size h1 h2 h4 g0 k cap xs hown ad m c news hn hc h1c hroom
      rw [hr] at hr2
      injection hr2 with e1 _
      subst e1
      exact .inl hg
    · subst h4 h5
      have hr2 := run_append_grow (P := P) w t ty e i z h1 h2 h3 ⟨g0, 0, none⟩ k cap xs hown.1 (hown.cells (g := g0) rfl) ad m c news hn hc (by omega) (by unfold maxLen at b1; omega) (growslice_fits (by omega) b2)
      rw [hr] at hr2
      injection hr2 with e1 _
      subst e1
      have : w.heap.size = g := by simpa [Value.ownBlock] using hg
      exact .inr (by omega)
theorem wpListIn_append_where {F : Fence} {n : Nat} {P : Program} (w : World) {ops : Array Oper} {rest : List Oper} {o : Oper} {a : Act} {Q : Exit → Act → World → Prop}
    (hg : o.guard = none) (s x : Operand) (t : TypeId) (hop : o.op = Op.call { callee := Callee.builtin Builtin.append, args := #[s, x], argTypes := #[t, t] })
    (base : Nat) (e : TypeId) (i : TypeInfo) (z : Value) (size bytes : Nat) (h1 : P.underlying t = some (.slice e)) (h2 : P.info? e = some i) (h3 : i.zero = some z) (h4 : i.size = size) (h5 : i.bytes = bytes) (h6 : z.cells.size = size) (h7 : 0 < size)
    (v : Value) (k : Nat) (xs : List Value) (hs : a.eval s = v) (hown : w.ownsRow base e size v k xs) (ad : Addr) (m c : Nat) (news : List Value) (hx : a.eval x = .slice (some ad) m c) (hn : news.length = m * size)
    (hc : ∀ j u, news[j]? = some u → w.cell? (ad.add j) = some u) (h1c : ∀ u ∈ news, u.oneCell' = true) (b1 : k + m ≤ maxLen) (b2 : (k + m) * bytes ≤ 140737488355328) (b3 : base ≤ w.heap.size)
    (hK : ∀ v' w', w'.ownsRow base e size v' (k + m) (xs ++ news) → w.grownBy w' v.ownBlock → (∀ g, v'.ownBlock = some g → v.ownBlock = some g ∨ w.heap.size ≤ g) → wpListIn F n P ops Q rest (a.put o.dst v') w') :
    wpListIn F n P ops Q (o :: rest) a w := by
  refine wpListIn_plain hg fun K hK' => ?_
  obtain ⟨v', w', hrun, r1, r2, r3⟩ := run_append_where (P := P) w base t o.type e i z size bytes h1 h2 h3 h4 h5 h6 h7 v k xs hown ad m c news hn hc h1c b1 b2 b3
  unfold Oper.wpIn
  refine ⟨?_, ?_⟩
  · simp [Oper.about, hop, resolve, Target.leads, Sem.run_pure]
  · rw [Oper.semAt_plain F _ _ (by rw [hop]; intro c hc'; cases hc')]
    simp [execOp, hop, resolve, invoke, builtin, hs, hx, hrun, Result.andThen]
    exact hK' _ _ (hK v' w' r1 r2 r3)

theorem flat_lenQ {α β : Type} {f : α → List β} {m : Nat} : ∀ {l : List α}, (∀ y ∈ l, (f y).length ≤ m) → (l.flatMap f).length ≤ l.length * m
  | [], _ => by simp
  | y :: r, h => by
    rw [List.flatMap_cons, List.length_append, List.length_cons, Nat.add_mul, Nat.one_mul]
    have h1 := h y (by simp)
    have h2 := flat_lenQ (f := f) (m := m) (l := r) fun z hz => h z (by simp [hz])
    omega
theorem props_len (ns : List NodeD) (ls : List LoadD) (x : SpecD) (t : StateD) : (props ns ls x t).length ≤ t.pods.length * t.pods.length := by
  refine flat_lenQ fun p _ => ?_
  unfold podN
  split
  · refine Nat.le_trans (flat_lenQ (m := 1) fun z _ => ?_) (by rw [Nat.mul_one]; exact used_len ns t.pods)
    unfold tryN
    split <;> simp
  · simp

/-! What stands between two rounds. -/
theorem add_zeroQ (b j : Nat) : (⟨b, 0, none⟩ : Addr).add j = ⟨b, j, none⟩ := by unfold Addr.add; split <;> simp_all
theorem own_but {A B : World} {O : Nat → Prop} {base n size : Nat} {e : TypeId} {v : Value} {xs : List Value} (h : A.ownsRow base e size v n xs) (hb : But O A B) (hO : ∀ k, v.ownBlock = some k → ¬ O k) : B.ownsRow base e size v n xs := by
  refine ⟨h.1, ?_⟩
  rcases h.2 with h0 | ⟨g, cap, cur, rfl, h1, hg, rest⟩
  · exact .inl h0
  · exact .inr ⟨g, cap, cur, rfl, h1, (hb.block g (Array.getElem?_eq_some_iff.1 hg).1 (hO g rfl)).trans hg, rest⟩
theorem But.grown {O : Nat → Prop} {A B : World} {row : Option Nat} (h : A.grownBy B row) (hO : ∀ k, row = some k → O k) : But O A B :=
  ⟨h.os, h.tape, h.output, h.size, fun k hk hn => h.block k hk fun e => hn (hO k e.symm)⟩
abbrev rowQ (pre : List PropQ) : List Value := pre.flatMap fun q => cellsM q.1.1
theorem rowQ_snoc (pre : List PropQ) (q : PropQ) : rowQ (pre ++ [q]) = rowQ pre ++ cellsM q.1.1 := by simp [rowQ]
def PrpI (w W : World) (pre : List PropQ) (O : Nat → Prop) (V : World) : Prop :=
  ∃ v, (O = fun k => k = w.heap.size + 3 ∨ v.ownBlock = some k) ∧ Boxed V (w.heap.size + 3) 42 v ∧ V.ownsRow (W.heap.size + 2) 49 4 v pre.length (rowQ pre) ∧ Below w.heap.size w V
def PrpA (tm : Nat → PropQ → Array Value) (base : Nat) (q : PropQ) (a' : Act) (V : World) : Prop := ∃ b1, base ≤ b1 ∧ Bf V b1 (cellsM q.1.1) ∧ a' = { tmps := tm b1 q, defers := [] }
theorem PrpI.but {w W A B : World} {pre : List PropQ} {O : Nat → Prop} (hW : w.heap.size + 4 ≤ W.heap.size) (h : PrpI w W pre O A) (hb : But (RecQ W) A B) : PrpI w W pre O B := by
  obtain ⟨v, h1, h2, h3, h4⟩ := h
  exact ⟨v, h1, (hb.block _ h2.lt (fun e => by unfold RecQ at e; omega)).trans h2, own_but h3 hb (fun k hk e => by have := (h3.lt k hk).1; unfold RecQ at e; omega), h4.trans (hb.below h4.size fun k hk => by unfold RecQ at hk; omega)⟩
theorem PrpA.but {W A B : World} {tm : Nat → PropQ → Array Value} {q : PropQ} {a' : Act} (h : PrpA tm (W.heap.size + 2) q a' A) (hb : But (RecQ W) A B) : PrpA tm (W.heap.size + 2) q a' B := by
  obtain ⟨b1, k1, h1, h5⟩ := h
  exact ⟨b1, k1, h1.but hb (fun e => by unfold RecQ at e; omega), h5⟩
theorem infoMoveQ : (Tryz.prog.info? 49).map (fun i => (i.zero, i.size, i.bytes)) = some (some (.agg #[.int .i64 0, .int .i64 0, .int .i64 0, .int .i64 0]), 4, 32) := by kernel_rfl
theorem infoQ {P : Program} {e : TypeId} {z : Value} {size bytes : Nat} (h : (P.info? e).map (fun i => (i.zero, i.size, i.bytes)) = some (some z, size, bytes)) : ∃ i, P.info? e = some i ∧ i.zero = some z ∧ i.size = size ∧ i.bytes = bytes := by
  cases hi : P.info? e with
  | none => rw [hi] at h; cases h
  | some i =>
    rw [hi] at h
    have h := Option.some.inj h
    simp only [Prod.mk.injEq] at h
    exact ⟨i, rfl, h⟩

set_option maxHeartbeats 12800000 in
set_option maxRecDepth 100000 in
theorem propose_any (ns : List NodeD) (ls : List LoadD) (x : SpecD) (t : StateD) (A1 A2 A3 A4 A5 : Option Addr) (n1 c1 n2 c2 n3 c3 n4 c4 n5 c5 : Nat) (w : World) (h : TidyArgs ns ls x t A1 A2 A4 A5 n1 n2 n4 c4 n5 w) :
    Calls Tryz.prog 12 #[.agg #[.slice A1 n1 c1, .slice A2 n2 c2, .slice A3 n3 c3], .agg #[.slice A5 n5 c5, .int .i64 x.preempts, .int .i64 x.shifts], .agg #[.slice A4 n4 c4, .int .i64 t.preempts, .int .i64 t.shifts]] w fun e w' => ∃ A c, e = .returned (.slice A (props ns ls x t).length c) ∧ Below w.heap.size w w' := by
  have HPL : Hid ((props ns ls x t).length ≤ 160000) := by
    show _ ≤ _
    have h1 := props_len ns ls x t
    have h2 : t.pods.length ≤ 400 := by rw [← h.a.e4]; exact h.a.l4
    exact Nat.le_trans h1 (Nat.mul_le_mul h2 h2)
  refine (callsIn_wide (n := 8)).1 ?_
  refine callsIn_of_wp_marks Tryz.func12 rfl trivial ?_ rfl
  simp only [Tryz.ntmps12, List.size_toArray, List.length_cons, List.length_nil, Nat.reduceAdd, Nat.reduceSub, Array.replicate_succ, Array.replicate_zero, List.push_toArray, List.append_toArray, List.nil_append, List.cons_append]
  gi_wp2_with fail
  have k3 : Below w.heap.size w (((w.alloc (.cells #[.slice A1 n1 c1, .slice A2 n2 c2, .slice A3 n3 c3] 26)).alloc (.cells #[.slice A5 n5 c5, .int .i64 x.preempts, .int .i64 x.shifts] 29)).alloc (.cells #[.slice A4 n4 c4, .int .i64 t.preempts, .int .i64 t.shifts] 31)) := (((Below.refl _ w).alloc (Nat.le_refl _) _).alloc (by simp) _).alloc (by simp; omega) _
  have hs3 : (((w.alloc (.cells #[.slice A1 n1 c1, .slice A2 n2 c2, .slice A3 n3 c3] 26)).alloc (.cells #[.slice A5 n5 c5, .int .i64 x.preempts, .int .i64 x.shifts] 29)).alloc (.cells #[.slice A4 n4 c4, .int .i64 t.preempts, .int .i64 t.shifts] 31)).heap.size = w.heap.size + 3 := by simp
  generalize (((w.alloc (.cells #[.slice A1 n1 c1, .slice A2 n2 c2, .slice A3 n3 c3] 26)).alloc (.cells #[.slice A5 n5 c5, .int .i64 x.preempts, .int .i64 x.shifts] 29)).alloc (.cells #[.slice A4 n4 c4, .int .i64 t.preempts, .int .i64 t.shifts] 31)) = V3 at *
  have R4 := Boxed.new V3 42 (.slice none 0 0)
  have k4 : Below V3.heap.size V3 (V3.alloc (.cells #[.slice none 0 0] 42)) := (Below.refl _ V3).alloc (Nat.le_refl _) _
  refine ⟨trivial, (callsIn_wide.2 (proposals_any A1 A2 A3 A4 A5 n1 c1 n2 c2 n3 c3 n4 c4 n5 c5 x.preempts x.shifts t.preempts t.shifts _)).mono ?_⟩
  rintro e w1 ⟨rfl, rfl⟩
  have hs4 : (V3.alloc (.cells #[.slice none 0 0] 42)).heap.size = w.heap.size + 4 := by simp [hs3]
  generalize V3.alloc (.cells #[.slice none 0 0] 42) = V4 at *
  have P7 := T3.new V4 [.slice A1 n1 c1, .slice A2 n2 c2, .slice A3 n3 c3] [.slice A5 n5 c5, .int .i64 x.preempts, .int .i64 x.shifts] [.slice A4 n4 c4, .int .i64 t.preempts, .int .i64 t.shifts] 26 29 31
  have hs7 : (((V4.alloc (.cells #[.slice A1 n1 c1, .slice A2 n2 c2, .slice A3 n3 c3] 26)).alloc (.cells #[.slice A5 n5 c5, .int .i64 x.preempts, .int .i64 x.shifts] 29)).alloc (.cells #[.slice A4 n4 c4, .int .i64 t.preempts, .int .i64 t.shifts] 31)).heap.size = w.heap.size + 7 := by simp [hs4]
  have R7 := ((R4.alloc (.cells #[.slice A1 n1 c1, .slice A2 n2 c2, .slice A3 n3 c3] 26)).alloc (.cells #[.slice A5 n5 c5, .int .i64 x.preempts, .int .i64 x.shifts] 29)).alloc (.cells #[.slice A4 n4 c4, .int .i64 t.preempts, .int .i64 t.shifts] 31)
  generalize (((V4.alloc (.cells #[.slice A1 n1 c1, .slice A2 n2 c2, .slice A3 n3 c3] 26)).alloc (.cells #[.slice A5 n5 c5, .int .i64 x.preempts, .int .i64 x.shifts] 29)).alloc (.cells #[.slice A4 n4 c4, .int .i64 t.preempts, .int .i64 t.shifts] 31)) = V7 at *
  have k7 : Below w.heap.size w V7 := (k3.trans (k4.mono (by omega))).trans (P7.below.mono (by omega))
  have HA7 := Lib.hid (props_stops 7 (by decide) ns ls x t A1 A2 A3 A4 A5 n1 c1 n2 c2 n3 c3 n4 c4 n5 c5 w h (w.heap.size + 4) V7 (by rw [← hs4]; exact P7.one) (by rw [← hs4]; exact P7.two) (by rw [← hs4]; exact P7.three) k7)
  have HF0 : Hid (PrpI w V7 [] (fun k => k = w.heap.size + 3 ∨ (Value.slice none 0 0).ownBlock = some k) V7) := by
    refine ⟨_, rfl, ?_, World.ownsRow_nil _ _ _ _, k7⟩
    rw [hs3] at R7; exact R7
  have HS7 := Lib.hid hs7
  clear k3 hs3 R4 k4 P7 R7 k7 h hs7
  gi_wp2
  simp only [Nat.add_assoc, Nat.reduceAdd]
  refine loopQ (α := PropQ) rfl (by decide) (gf := 52) (lb := #[.pointer (some ⟨w.heap.size + 4, 0, none⟩), .pointer (some ⟨w.heap.size + 4 + 2, 0, none⟩), .pointer (some ⟨w.heap.size + 4 + 1, 0, none⟩)]) rfl trivial (enters_of Tryz.func52 (by kernel_rfl) rfl)
    HA7.out (Below.refl _ _) (fun k hk => by have := HS7.out; omega) (fun _ => rfl) (PrpI w V7) (fun _ _ => False)
    (PrpA (fun b1 q => #[.agg #[.slice A1 n1 c1, .slice A2 n2 c2, .slice A3 n3 c3], .agg #[.slice A5 n5 c5, .int .i64 x.preempts, .int .i64 x.shifts], .agg #[.slice A4 n4 c4, .int .i64 t.preempts, .int .i64 t.shifts],
      .pointer (some ⟨w.heap.size, 0, none⟩), .pointer (some ⟨w.heap.size + 1, 0, none⟩), .pointer (some ⟨w.heap.size + 2, 0, none⟩), .slice none 0 0, .pointer (some ⟨w.heap.size + 3, 0, none⟩), .pointer (some ⟨b1, 0, none⟩),
      .agg #[.slice A1 n1 c1, .slice A2 n2 c2, .slice A3 n3 c3], .agg #[.slice A5 n5 c5, .int .i64 x.preempts, .int .i64 x.shifts], .agg #[.slice A4 n4 c4, .int .i64 t.preempts, .int .i64 t.shifts],
      .func (.func 52) #[] #[.pointer (some ⟨w.heap.size + 4, 0, none⟩), .pointer (some ⟨w.heap.size + 6, 0, none⟩), .pointer (some ⟨w.heap.size + 5, 0, none⟩)], aggM q.1.1, stateV q.2.1 q.1.2.pods.length q.2.2 q.1.2.preempts q.1.2.shifts, undef, undef, undef, undef, undef]) (V7.heap.size + 2))
    (fun s O A B hs hb => PrpI.but (by have := HS7.out; omega) hs hb) (fun s A B hs hb => hs) (fun q a' A B hs hb => PrpA.but hs hb)
    (fun k => k = w.heap.size + 3 ∨ (Value.slice none 0 0).ownBlock = some k) (fun k hk => by have := HS7.out; simp [Value.ownBlock] at hk; omega) HF0.out ?assign ?body ?done ?stop
  case assign =>
    intro l pre O q V K hI hG hsz hK
    have HK := Lib.hid hK
    clear hK hG hI HF0 HA7
    simp only [encQ]
    gi_wp2
    have kV : Below V.heap.size V (V.alloc (.cells #[.int .i64 q.1.1.kind, .int .i64 q.1.1.pod, .int .i64 q.1.1.node, .int .i64 q.1.1.over] 49)) := (Below.refl _ V).alloc (Nat.le_refl _) _
    have B1 : Bf (V.alloc (.cells #[.int .i64 q.1.1.kind, .int .i64 q.1.1.pod, .int .i64 q.1.1.node, .int .i64 q.1.1.over] 49)) V.heap.size (cellsM q.1.1) := Bf.new V (cellsM q.1.1) 49 rfl
    exact HK.out _ _ kV ⟨V.heap.size, hsz, B1, rfl⟩
  case body =>
    rintro l pre O q a' V ⟨v, rfl, hv, hrow, hB⟩ ⟨b1, k1, j1, rfl⟩ hlo hsz hlt
    obtain ⟨i0, hi, hz0, hz1, hz2⟩ := infoQ infoMoveQ
    have hc := hv.cell
    obtain ⟨⟨m0, m1⟩, m2, m3, m4⟩ := j1.cells4q
    have hpl : pre.length ≤ 160000 := by have := HPL.out; omega
    have HV := Lib.hid (And.intro hv (And.intro hrow hB))
    have HZ := Lib.hid hsz
    clear hv hrow hB hlo hsz hlt HF0 HA7 j1 k1
    gi_wp2_with (gi_at_builtin; refine wpListIn_append_where _ rfl _ _ 42 rfl (V7.heap.size + 2) 49 i0 (.agg #[.int .i64 0, .int .i64 0, .int .i64 0, .int .i64 0]) 4 32 Tryz.underlying42 hi hz0 hz1 hz2 rfl (by decide) _ _ _ rfl (HV.out.2.1.alloc _) ⟨V.heap.size, 0, none⟩ 1 1 (cellsM q.1.1) rfl rfl (fun j u hu => by rw [add_zeroQ]; exact (Bf.new V (cellsM q.1.1) 49 rfl).cell j u hu) (by simp [cellsM, Value.oneCell']) (by unfold maxLen; omega) (by omega) (by have := HZ.out; simp; omega) ?_)
    intro v' w1 hown' hgrow hwh
    obtain ⟨g', cap', rfl⟩ := ownsRow_succ hown'
    have hv1 := (HV.out.1.alloc (.cells #[.int .i64 q.1.1.kind, .int .i64 q.1.1.pod, .int .i64 q.1.1.node, .int .i64 q.1.1.over] 49)).kept hgrow (HV.out.1.not_row (by decide) HV.out.2.1)
    have hv2 := hv1.set (.slice (some ⟨g', 0, none⟩) (pre.length + 1) cap')
    have hr2 := hown'.kept (grownBy_setCell' w1 (w.heap.size + 3) (.slice (some ⟨g', 0, none⟩) (pre.length + 1) cap')) (.inr (hv1.not_row (by decide) hown').symm)
    have kb : But (fun k => k = w.heap.size + 3 ∨ v.ownBlock = some k) V (w1.setCell ⟨w.heap.size + 3, 0, none⟩ (.slice (some ⟨g', 0, none⟩) (pre.length + 1) cap')) :=
      (((But.of ((Below.refl _ V).alloc (Nat.le_refl _) _)).trans (But.grown hgrow fun k e => .inr e) fun _ _ h => h).setO (p := ⟨w.heap.size + 3, 0, none⟩) (.inl rfl) _ : But (fun k => k = w.heap.size + 3 ∨ v.ownBlock = some k) V _)
    have kB := HV.out.2.2.trans (kb.below HV.out.2.2.size fun k hk => by
      rcases hk with e | e
      · omega
      · have := (HV.out.2.1.lt k e).1; have := HS7.out; omega)
    have hlt1 := (hown'.lt g' rfl).2
    have hc1 := hv1.cell
    have hf1 := hv1.frozen
    have HR := Lib.hid (And.intro hv2 (And.intro hr2 (And.intro kb (And.intro kB (And.intro hwh hlt1)))))
    clear hv1 hv2 hr2 kb kB hwh hlt1 hown' hgrow
    gi_wp2
    refine ⟨HR.out.2.2.1, fun k => k = w.heap.size + 3 ∨ (Value.slice (some ⟨g', 0, none⟩) (pre.length + 1) cap').ownBlock = some k, ⟨_, rfl, HR.out.1, ?_, HR.out.2.2.2.1⟩, fun k hk => ?_⟩
    · rw [List.length_append, rowQ_snoc]; exact HR.out.2.1
    · rcases hk with e | e
      · exact ⟨by rw [e]; exact HR.out.1.lt, .inl (.inl e)⟩
      · have h1 : g' = k := by simpa [Value.ownBlock] using e
        refine ⟨by have := HR.out.2.2.2.2.2; simp [World.setCell]; omega, ?_⟩
        rcases HR.out.2.2.2.2.1 k e with e' | e'
        · exact .inl (.inr e')
        · exact .inr (by have : V.heap.size + 1 ≤ k := e'; omega)
  case done =>
    rintro d xs O W' hd hS ⟨v, rfl, hv, hrow, hB⟩ hK
    have hlen : xs.length = (props ns ls x t).length := by have := congrArg List.length hS; simpa using this
    have hsh : ∃ A c, v = .slice A xs.length c := by
      rcases hrow.2 with ⟨h1, h2⟩ | ⟨g, cap, cur, h1, _⟩
      · exact ⟨none, 0, by rw [h1, h2]⟩
      · exact ⟨_, _, h1⟩
    obtain ⟨A, c, rfl⟩ := hsh
    have HL := Lib.hid hlen
    have HD := Lib.hid hd
    have hc := hv.cell
    have kp : But (fun k => k = d) W' (W'.putObj d (.deferred none)) := .put _ rfl
    have HB3 := Lib.hid (hB.trans (kp.below hB.size fun k hk => by have := HD.out; have := HS7.out; omega))
    clear hv hrow hB hS HF0 HA7 hd hlen kp
    gi_wp2
    refine ⟨by simp, .inl ⟨_, _, rfl, run_takeDeferred hK, ?_⟩⟩
    exact ⟨_, results_tmp rfl _ _ _, A, c, by rw [← HL.out]; rfl, HB3.out⟩
  case stop => exact fun _ _ _ _ _ h _ => h.elim
end Go.Proofs.YtabebhaclkhhpaaGreatDoor

/- A copy of pods: the library's Clone; append of one move at a step of a region that draws its order. -/
namespace Go.Proofs.YtabebhaclkhhpaaGreatDoor
set_option linter.unusedSimpArgs false
open Go.RowKit Go.Shelf
set_option linter.unusedVariables false

theorem own_emptyQ (w : World) (B g : Nat) (e : TypeId) (hg : g = w.heap.size) (hB : B ≤ w.heap.size) : (w.alloc (.cells #[] e)).ownsRow B e 8 (.slice (some ⟨g, 0, none⟩) 0 0) 0 (([] : List PodD).flatMap cellsP) := by
  subst hg
  exact ⟨by simp, .inr ⟨w.heap.size, 0, #[], rfl, hB, heap_alloc_new w _, Nat.le_refl _, by decide, by simp, by simp⟩⟩
theorem slQ_some (ad : Addr) (n c : Nat) (w : World) : (binOp .eql 24 (.slice (some ad) n c) (.slice none 0 0)).run Tryz.prog w = .ok (.bool false) w := by
  simp only [binOp]
  rw [Sem.run_bind, run_equal_slice_nil w 24 41 _ n c (by kernel_rfl)]
  rfl
theorem slQ_none (n c : Nat) (w : World) : (binOp .eql 24 (.slice none n c) (.slice none 0 0)).run Tryz.prog w = .ok (.bool true) w := by
  simp only [binOp]
  rw [Sem.run_bind, run_equal_slice_nil w 24 41 _ n c (by kernel_rfl)]
  rfl
set_option maxHeartbeats 800000 in
set_option maxRecDepth 100000 in
theorem cloneQ_any (l : List PodD) (A : Option Addr) (n c : Nat) (w : World) (hn : n = l.length) (hl : n ≤ 1000) (h0 : A = none → c = 0) (hr : Recs 8 cellsP w w.heap.size A l) :
    Calls Tryz.prog 21 #[.slice A n c] w fun e w' => ∃ A' c', e = .returned (.slice A' n c') ∧ w'.ownsRow w.heap.size 41 8 (.slice A' n c') n (l.flatMap cellsP) ∧ Below w.heap.size w w' := by
  have HR := Lib.hid hr
  have HN := Lib.hid hn
  have H0 := Lib.hid h0
  have hb1 : Below w.heap.size w (w.alloc (.cells #[] 41)) := (Below.refl _ w).alloc (Nat.le_refl _) _
  have HB1 := Lib.hid hb1
  clear hr hn h0 hb1
  rcases A with _ | ad
  · have hnil : l = [] := by
      rcases HR.out with h | ⟨_, _, h, _⟩
      · exact h
      · cases h
    have hn0 : n = 0 := by rw [HN.out, hnil]; rfl
    subst hn0 hnil
    have hq := slQ_none 0 c w
    go_enter Tryz.func21, Tryz.ntmps21
    go_wp2
    go_ret
    exact ⟨none, 0, rfl, ⟨rfl, .inl ⟨rfl, rfl⟩⟩, Below.refl _ _⟩
  · have hq := slQ_some ad n c w
    go_enter Tryz.func21, Tryz.ntmps21
    go_wp2_with (at_builtin; refine wpList_recs 24 41 (.agg #[.int .i64 0, .int .i64 0, .int .i64 0, .int .u64 0, .int .u64 0, .int .u64 0, .int .u64 0, .int .i64 0]) 8 64 (by kernel_rfl) infoPod rfl (by decide) (by decide) (cells := cellsP) (fun _ => rfl) onePod rfl (.tmp 5) (.tmp 6) rfl w.heap.size w.heap.size _ 0 n [] l (some ad) c H0.out (own_emptyQ w _ _ _ (by rfl) (Nat.le_refl _)) (HR.out.below HB1.out (Nat.le_refl _)) (by simp) (by omega) rfl rfl HN.out ?_; intro v' w' hown hb hB)
    obtain ⟨A', c', rfl, _⟩ := own_form3 hown
    rw [Nat.zero_add] at hown
    go_ret
    exact ⟨A', c', congrArg (fun k => Ending.returned (.slice A' k c')) (Nat.zero_add n), hown, HB1.out.trans hb⟩

section
variable {ops : Array Oper} {o : Oper} {a : Act} {Q : Exit → Act → World → Prop} {wr : World} {K : Act → World → Prop} {E : Prop}
/-- append of one move. -/
theorem step_moveQ (hgd : o.guard = none) (s x : Operand) (ho : o.op = .call { callee := .builtin .append, args := #[s, x], argTypes := #[42, 42] })
    (B : Nat) (v : Value) (k : Nat) (xs : List Value) (hown : wr.ownsRow B 49 4 v k xs) (hs : a.eval s = v) (g0 : Nat) (hx : a.eval x = .slice (some ⟨g0, 0, none⟩) 1 1) (m : MoveD) (hc : ∀ j u, (cellsM m)[j]? = some u → wr.cell? ⟨g0, j, none⟩ = some u) (hB : B ≤ wr.heap.size) (hl : k ≤ 1000)
    (h : ∀ g cap w', w'.ownsRow B 49 4 (.slice (some ⟨g, 0, none⟩) (k + 1) cap) (k + 1) (xs ++ cellsM m) → wr.grownBy w' v.ownBlock → (v.ownBlock = some g ∨ wr.heap.size ≤ g) → K (a.put o.dst (.slice (some ⟨g, 0, none⟩) (k + 1) cap)) w') :
    if Region.wanted o (yielded ops a.tmps) = true then Oper.wp Tryz.prog o a wr K Q else E := by
  have hw : Region.wanted o (yielded ops a.tmps) = true := by simp [Region.wanted, hgd]
  rw [if_pos hw]
  obtain ⟨i0, hi, hz0, hz1, hz2⟩ := infoQ infoMoveQ
  obtain ⟨v', w', hr, h2, h3, h4⟩ := run_append_where (P := Tryz.prog) wr B 42 o.type 49 i0 _ 4 32 Tryz.underlying42 hi hz0 hz1 hz2 rfl (by decide) v k xs hown ⟨g0, 0, none⟩ 1 1 (cellsM m) rfl
    (fun j u hu => by rw [add_zeroQ]; exact hc j u hu) (by simp [cellsM, Value.oneCell']) (by unfold maxLen; omega) (by omega) hB
  obtain ⟨g, cap, rfl⟩ := ownsRow_succ h2
  unfold Oper.wp execOp
  simp only [ho, resolve, invoke, builtin, Sem.run_bind, Sem.run_pure, Result.andThen_ok, List.map_toArray, List.map_cons, List.map_nil, hs, hx, hr]
  exact h g cap w' h2 h3 (h4 g rfl)
end
end Go.Proofs.YtabebhaclkhhpaaGreatDoor

/- The program's orderFault at every place, and idFault, at each kind of record. -/
namespace Go.Proofs.YtabebhaclkhhpaaGreatDoor
set_option linter.unusedSimpArgs false
open Go.RowKit
set_option linter.unusedVariables false

/-- What is amiss with the Id at a place beside the one ahead. -/
def ordAt {α : Type} (f : α → Int) (l : List α) : Nat → Int
  | 0 => 0
  | j + 1 => match l[j]?, l[j + 1]? with
    | some y, some x => ordI (f y) (f x)
    | _, _ => 0
theorem ordAt_next {α : Type} {f : α → Int} {l : List α} {j : Nat} (h : j + 1 < l.length) : ordAt f l (j + 1) = ordI (f l[j]) (f l[j + 1]) := by
  simp [ordAt, List.getElem?_eq_getElem h, List.getElem?_eq_getElem (show j < l.length by omega)]

theorem orderN_any (l : List NodeD) (k : Nat) (A : Option Addr) (n c : Nat) (w : World) (hn : n = l.length) (hl : n ≤ 1000) (hk : k < l.length) (hr : Recs 10 cellsN w w.heap.size A l) :
    Calls Tryz.prog 84 #[.slice A n c, .int .i64 (k : Int), .func (.func 31) #[] #[]] w fun e w' => e = .returned (.int .i64 (ordAt NodeD.id l k)) ∧ Below w.heap.size w w' := by
  cases k with
  | zero => exact (orderN_first A n c _ w).mono fun e w' ⟨h1, h2⟩ => ⟨h1, h2 ▸ Below.refl _ _⟩
  | succ j =>
    rw [ordAt_next hk]
    exact orderN_next l j A n c w hn hl hk hr

theorem orderL_any (l : List LoadD) (k : Nat) (A : Option Addr) (n c : Nat) (w : World) (hn : n = l.length) (hl : n ≤ 1000) (hk : k < l.length) (hr : Recs 5 cellsL w w.heap.size A l) :
    Calls Tryz.prog 85 #[.slice A n c, .int .i64 (k : Int), .func (.func 34) #[] #[]] w fun e w' => e = .returned (.int .i64 (ordAt LoadD.id l k)) ∧ Below w.heap.size w w' := by
  cases k with
  | zero => exact (orderL_first A n c _ w).mono fun e w' ⟨h1, h2⟩ => ⟨h1, h2 ▸ Below.refl _ _⟩
  | succ j =>
    rw [ordAt_next hk]
    exact orderL_next l j A n c w hn hl hk hr

theorem orderP_any (l : List PodD) (k : Nat) (A : Option Addr) (n c : Nat) (w : World) (hn : n = l.length) (hl : n ≤ 1000) (hk : k < l.length) (hr : Recs 8 cellsP w w.heap.size A l) :
    Calls Tryz.prog 86 #[.slice A n c, .int .i64 (k : Int), .func (.func 37) #[] #[]] w fun e w' => e = .returned (.int .i64 (ordAt PodD.id l k)) ∧ Below w.heap.size w w' := by
  cases k with
  | zero => exact (orderP_first A n c _ w).mono fun e w' ⟨h1, h2⟩ => ⟨h1, h2 ▸ Below.refl _ _⟩
  | succ j =>
    rw [ordAt_next hk]
    exact orderP_next l j A n c w hn hl hk hr

theorem orderW_any (l : List WantD) (k : Nat) (A : Option Addr) (n c : Nat) (w : World) (hn : n = l.length) (hl : n ≤ 1000) (hk : k < l.length) (hr : Recs 6 cellsW w w.heap.size A l) :
    Calls Tryz.prog 17 #[.slice A n c, .int .i64 (k : Int), .func (.func 18) #[] #[]] w fun e w' => e = .returned (.int .i64 (ordAt WantD.pod l k)) ∧ Below w.heap.size w w' := by
  cases k with
  | zero => exact (orderW_first A n c _ w).mono fun e w' ⟨h1, h2⟩ => ⟨h1, h2 ▸ Below.refl _ _⟩
  | succ j =>
    rw [ordAt_next hk]
    exact orderW_next l j A n c w hn hl hk hr

set_option maxHeartbeats 1600000 in
theorem idFaultN_any (l : List NodeD) (k : Nat) (A : Option Addr) (n c : Nat) (w : World) (hn : n = l.length) (hl : n ≤ 1000) (hk : k < l.length) (hr : Recs 10 cellsN w w.heap.size A l) :
    Calls Tryz.prog 54 #[.slice A n c, .int .i64 (k : Int), .func (.func 31) #[] #[]] w fun e w' => e = .returned (.int .i64 (idI (ordAt NodeD.id l k) l[k].id)) ∧ Below w.heap.size w w' := by
  have HO := Lib.hid (orderN_any l k A n c w hn hl hk hr)
  obtain ⟨b, o, rfl, hb, he⟩ := hr.at hk
  have hkn : (k : Int) < (n : Int) := by omega
  have hk0 : (0 : Int) ≤ (k : Int) := by omega
  generalize l[k] = x at *
  generalize ordAt NodeD.id l k = q at *
  have HEE := Lib.hid he
  clear he hn hr hk
  go_enter Tryz.func54, Tryz.ntmps54
  go_wp2_with fail
  refine HO.out.mono ?_
  rintro e w1 ⟨rfl, hb1⟩
  by_cases hq : q = 0
  · obtain rfl := hq
    have e0 : w1.cell? ⟨b, o + k * 10, none⟩ = some (.int .i64 x.id) := (hb1.cell (p := ⟨b, o + k * 10, none⟩) hb).trans (HEE.out 0 _ rfl)
    have e1 : w1.cell? ⟨b, o + k * 10 + 1, none⟩ = some (.int .i64 x.zone) := (hb1.cell (p := ⟨b, o + k * 10 + 1, none⟩) hb).trans (HEE.out 1 _ rfl)
    have e2 : w1.cell? ⟨b, o + k * 10 + 2, none⟩ = some (.int .u64 x.cap.a) := (hb1.cell (p := ⟨b, o + k * 10 + 2, none⟩) hb).trans (HEE.out 2 _ rfl)
    have e3 : w1.cell? ⟨b, o + k * 10 + 3, none⟩ = some (.int .u64 x.cap.b) := (hb1.cell (p := ⟨b, o + k * 10 + 3, none⟩) hb).trans (HEE.out 3 _ rfl)
    have e4 : w1.cell? ⟨b, o + k * 10 + 4, none⟩ = some (.int .u64 x.cap.c) := (hb1.cell (p := ⟨b, o + k * 10 + 4, none⟩) hb).trans (HEE.out 4 _ rfl)
    have e5 : w1.cell? ⟨b, o + k * 10 + 5, none⟩ = some (.int .u64 x.cap.d) := (hb1.cell (p := ⟨b, o + k * 10 + 5, none⟩) hb).trans (HEE.out 5 _ rfl)
    have e6 : w1.cell? ⟨b, o + k * 10 + 6, none⟩ = some (.int .u64 x.held.a) := (hb1.cell (p := ⟨b, o + k * 10 + 6, none⟩) hb).trans (HEE.out 6 _ rfl)
    have e7 : w1.cell? ⟨b, o + k * 10 + 7, none⟩ = some (.int .u64 x.held.b) := (hb1.cell (p := ⟨b, o + k * 10 + 7, none⟩) hb).trans (HEE.out 7 _ rfl)
    have e8 : w1.cell? ⟨b, o + k * 10 + 8, none⟩ = some (.int .u64 x.held.c) := (hb1.cell (p := ⟨b, o + k * 10 + 8, none⟩) hb).trans (HEE.out 8 _ rfl)
    have e9 : w1.cell? ⟨b, o + k * 10 + 9, none⟩ = some (.int .u64 x.held.d) := (hb1.cell (p := ⟨b, o + k * 10 + 9, none⟩) hb).trans (HEE.out 9 _ rfl)
    go_wp2_with fail
    refine (idN_any x _).mono ?_
    rintro e w2 ⟨rfl, hb2⟩
    have kk : Below w.heap.size w w2 := hb1.trans (hb2.mono hb1.size)
    go_wp2_with fail
    refine (within_any _ _ _ _).mono ?_
    rintro e w2 ⟨rfl, rfl⟩
    by_cases hi : inB x.id 1 2147483647 = true
    · have HE := Lib.hid (show idI 0 x.id = 0 by simp [idI, hi])
      go_wp2
      go_ret
      exact ⟨ret_int HE.out.symm, kk⟩
    · have hi' : inB x.id 1 2147483647 = false := by simpa using hi
      have HE := Lib.hid (show idI 0 x.id = 1 by simp [idI, hi'])
      clear hi
      go_wp2
      go_ret
      exact ⟨ret_int HE.out.symm, kk⟩
  · have hm : (q != 0) = true := by simpa using hq
    have HE := Lib.hid (show idI q x.id = q by simp [idI, hq])
    clear hq
    go_wp2
    go_ret
    exact ⟨ret_int HE.out.symm, hb1⟩

set_option maxHeartbeats 1600000 in
theorem idFaultL_any (l : List LoadD) (k : Nat) (A : Option Addr) (n c : Nat) (w : World) (hn : n = l.length) (hl : n ≤ 1000) (hk : k < l.length) (hr : Recs 5 cellsL w w.heap.size A l) :
    Calls Tryz.prog 56 #[.slice A n c, .int .i64 (k : Int), .func (.func 34) #[] #[]] w fun e w' => e = .returned (.int .i64 (idI (ordAt LoadD.id l k) l[k].id)) ∧ Below w.heap.size w w' := by
  have HO := Lib.hid (orderL_any l k A n c w hn hl hk hr)
  obtain ⟨b, o, rfl, hb, he⟩ := hr.at hk
  have hkn : (k : Int) < (n : Int) := by omega
  have hk0 : (0 : Int) ≤ (k : Int) := by omega
  generalize l[k] = x at *
  generalize ordAt LoadD.id l k = q at *
  have HEE := Lib.hid he
  clear he hn hr hk
  go_enter Tryz.func56, Tryz.ntmps56
  go_wp2_with fail
  refine HO.out.mono ?_
  rintro e w1 ⟨rfl, hb1⟩
  by_cases hq : q = 0
  · obtain rfl := hq
    have e0 : w1.cell? ⟨b, o + k * 5, none⟩ = some (.int .i64 x.id) := (hb1.cell (p := ⟨b, o + k * 5, none⟩) hb).trans (HEE.out 0 _ rfl)
    have e1 : w1.cell? ⟨b, o + k * 5 + 1, none⟩ = some (.bool x.apart) := (hb1.cell (p := ⟨b, o + k * 5 + 1, none⟩) hb).trans (HEE.out 1 _ rfl)
    have e2 : w1.cell? ⟨b, o + k * 5 + 2, none⟩ = some (.int .i64 x.skew) := (hb1.cell (p := ⟨b, o + k * 5 + 2, none⟩) hb).trans (HEE.out 2 _ rfl)
    have e3 : w1.cell? ⟨b, o + k * 5 + 3, none⟩ = some (.int .i64 x.min) := (hb1.cell (p := ⟨b, o + k * 5 + 3, none⟩) hb).trans (HEE.out 3 _ rfl)
    have e4 : w1.cell? ⟨b, o + k * 5 + 4, none⟩ = some (.int .i64 x.max) := (hb1.cell (p := ⟨b, o + k * 5 + 4, none⟩) hb).trans (HEE.out 4 _ rfl)
    go_wp2_with fail
    refine (idL_any x _).mono ?_
    rintro e w2 ⟨rfl, hb2⟩
    have kk : Below w.heap.size w w2 := hb1.trans (hb2.mono hb1.size)
    go_wp2_with fail
    refine (within_any _ _ _ _).mono ?_
    rintro e w2 ⟨rfl, rfl⟩
    by_cases hi : inB x.id 1 2147483647 = true
    · have HE := Lib.hid (show idI 0 x.id = 0 by simp [idI, hi])
      go_wp2
      go_ret
      exact ⟨ret_int HE.out.symm, kk⟩
    · have hi' : inB x.id 1 2147483647 = false := by simpa using hi
      have HE := Lib.hid (show idI 0 x.id = 1 by simp [idI, hi'])
      clear hi
      go_wp2
      go_ret
      exact ⟨ret_int HE.out.symm, kk⟩
  · have hm : (q != 0) = true := by simpa using hq
    have HE := Lib.hid (show idI q x.id = q by simp [idI, hq])
    clear hq
    go_wp2
    go_ret
    exact ⟨ret_int HE.out.symm, hb1⟩

set_option maxHeartbeats 1600000 in
theorem idFaultP_any (l : List PodD) (k : Nat) (A : Option Addr) (n c : Nat) (w : World) (hn : n = l.length) (hl : n ≤ 1000) (hk : k < l.length) (hr : Recs 8 cellsP w w.heap.size A l) :
    Calls Tryz.prog 58 #[.slice A n c, .int .i64 (k : Int), .func (.func 37) #[] #[]] w fun e w' => e = .returned (.int .i64 (idI (ordAt PodD.id l k) l[k].id)) ∧ Below w.heap.size w w' := by
  have HO := Lib.hid (orderP_any l k A n c w hn hl hk hr)
  obtain ⟨b, o, rfl, hb, he⟩ := hr.at hk
  have hkn : (k : Int) < (n : Int) := by omega
  have hk0 : (0 : Int) ≤ (k : Int) := by omega
  generalize l[k] = x at *
  generalize ordAt PodD.id l k = q at *
  have HEE := Lib.hid he
  clear he hn hr hk
  go_enter Tryz.func58, Tryz.ntmps58
  go_wp2_with fail
  refine HO.out.mono ?_
  rintro e w1 ⟨rfl, hb1⟩
  by_cases hq : q = 0
  · obtain rfl := hq
    have e0 : w1.cell? ⟨b, o + k * 8, none⟩ = some (.int .i64 x.id) := (hb1.cell (p := ⟨b, o + k * 8, none⟩) hb).trans (HEE.out 0 _ rfl)
    have e1 : w1.cell? ⟨b, o + k * 8 + 1, none⟩ = some (.int .i64 x.load) := (hb1.cell (p := ⟨b, o + k * 8 + 1, none⟩) hb).trans (HEE.out 1 _ rfl)
    have e2 : w1.cell? ⟨b, o + k * 8 + 2, none⟩ = some (.int .i64 x.prio) := (hb1.cell (p := ⟨b, o + k * 8 + 2, none⟩) hb).trans (HEE.out 2 _ rfl)
    have e3 : w1.cell? ⟨b, o + k * 8 + 3, none⟩ = some (.int .u64 x.req.a) := (hb1.cell (p := ⟨b, o + k * 8 + 3, none⟩) hb).trans (HEE.out 3 _ rfl)
    have e4 : w1.cell? ⟨b, o + k * 8 + 4, none⟩ = some (.int .u64 x.req.b) := (hb1.cell (p := ⟨b, o + k * 8 + 4, none⟩) hb).trans (HEE.out 4 _ rfl)
    have e5 : w1.cell? ⟨b, o + k * 8 + 5, none⟩ = some (.int .u64 x.req.c) := (hb1.cell (p := ⟨b, o + k * 8 + 5, none⟩) hb).trans (HEE.out 5 _ rfl)
    have e6 : w1.cell? ⟨b, o + k * 8 + 6, none⟩ = some (.int .u64 x.req.d) := (hb1.cell (p := ⟨b, o + k * 8 + 6, none⟩) hb).trans (HEE.out 6 _ rfl)
    have e7 : w1.cell? ⟨b, o + k * 8 + 7, none⟩ = some (.int .i64 x.node) := (hb1.cell (p := ⟨b, o + k * 8 + 7, none⟩) hb).trans (HEE.out 7 _ rfl)
    go_wp2_with fail
    refine (idP_any x _).mono ?_
    rintro e w2 ⟨rfl, hb2⟩
    have kk : Below w.heap.size w w2 := hb1.trans (hb2.mono hb1.size)
    go_wp2_with fail
    refine (within_any _ _ _ _).mono ?_
    rintro e w2 ⟨rfl, rfl⟩
    by_cases hi : inB x.id 1 2147483647 = true
    · have HE := Lib.hid (show idI 0 x.id = 0 by simp [idI, hi])
      go_wp2
      go_ret
      exact ⟨ret_int HE.out.symm, kk⟩
    · have hi' : inB x.id 1 2147483647 = false := by simpa using hi
      have HE := Lib.hid (show idI 0 x.id = 1 by simp [idI, hi'])
      clear hi
      go_wp2
      go_ret
      exact ⟨ret_int HE.out.symm, kk⟩
  · have hm : (q != 0) = true := by simpa using hq
    have HE := Lib.hid (show idI q x.id = q by simp [idI, hq])
    clear hq
    go_wp2
    go_ret
    exact ⟨ret_int HE.out.symm, hb1⟩

end Go.Proofs.YtabebhaclkhhpaaGreatDoor

namespace Go.Proofs.YtabebhaclkhhpaaGreatDoor
set_option linter.unusedSimpArgs false
open Go.RowKit
set_option linter.unusedVariables false

def nodeF (x : NodeD) : Int := if inB x.zone 1 8 = true ∧ x.held.le x.cap = true then 0 else 1
def loadF (x : LoadD) : Int := if countOk x.skew = true ∧ countOk x.min = true ∧ countOk x.max = true ∧ x.min ≤ x.max then 0 else 1

set_option maxHeartbeats 1600000 in
theorem nodeFault_any (x : NodeD) (w : World) : Calls Tryz.prog 32 #[aggN x] w fun e w' => e = .returned (.int .i64 (nodeF x)) ∧ Below w.heap.size w w' := by
  have b00 : Below w.heap.size w (w.alloc (.cells #[.int .i64 x.id, .int .i64 x.zone, .int .u64 x.cap.a, .int .u64 x.cap.b, .int .u64 x.cap.c, .int .u64 x.cap.d, .int .u64 x.held.a, .int .u64 x.held.b, .int .u64 x.held.c, .int .u64 x.held.d] 53)) := (Below.refl _ _).alloc (Nat.le_refl _) _
  go_enter Tryz.func32, Tryz.ntmps32
  go_wp2_with fail
  refine (within_any _ _ _ _).mono ?_
  rintro e w' ⟨rfl, rfl⟩
  by_cases h1 : inB x.zone 1 8 = true
  · go_wp2_with fail
    refine (fits_any x.held x.cap _).mono ?_
    rintro e w2 ⟨rfl, hb2⟩
    have kk : Below w.heap.size w w2 := b00.trans (hb2.mono (by simp))
    by_cases h2 : x.held.le x.cap = true
    · have HE := Lib.hid (show nodeF x = 0 by simp [nodeF, h1, h2])
      go_wp2
      go_ret
      exact ⟨ret_int HE.out.symm, kk⟩
    · have h2' : x.held.le x.cap = false := by simpa using h2
      have HE := Lib.hid (show nodeF x = 1 by simp [nodeF, h2'])
      clear h2
      go_wp2
      go_ret
      exact ⟨ret_int HE.out.symm, kk⟩
  · have h1' : inB x.zone 1 8 = false := by simpa using h1
    have HE := Lib.hid (show nodeF x = 1 by simp [nodeF, h1'])
    clear h1
    go_wp2
    go_ret
    exact ⟨ret_int HE.out.symm, b00⟩

set_option maxHeartbeats 1600000 in
theorem loadFault_any (x : LoadD) (w : World) : Calls Tryz.prog 35 #[aggL x] w fun e w' => e = .returned (.int .i64 (loadF x)) ∧ Below w.heap.size w w' := by
  have b00 : Below w.heap.size w (w.alloc (.cells #[.int .i64 x.id, .bool x.apart, .int .i64 x.skew, .int .i64 x.min, .int .i64 x.max] 55)) := (Below.refl _ _).alloc (Nat.le_refl _) _
  go_enter Tryz.func35, Tryz.ntmps35
  go_wp2_with fail
  refine (isCount_any _ _).mono ?_
  rintro e w' ⟨rfl, rfl⟩
  by_cases h1 : countOk x.skew = true
  · go_wp2_with fail
    refine (isCount_any _ _).mono ?_
    rintro e w' ⟨rfl, rfl⟩
    by_cases h2 : countOk x.min = true
    · go_wp2_with fail
      refine (isCount_any _ _).mono ?_
      rintro e w' ⟨rfl, rfl⟩
      by_cases h3 : countOk x.max = true
      · by_cases h4 : x.max < x.min
        · have HE := Lib.hid (show loadF x = 1 by unfold loadF; rw [if_neg (by omega)])
          have hd : decide (x.max < x.min) = true := decide_eq_true h4
          go_wp2
          go_ret
          exact ⟨ret_int HE.out.symm, b00⟩
        · have HE := Lib.hid (show loadF x = 0 by unfold loadF; rw [if_pos ⟨h1, h2, h3, by omega⟩])
          have hd : decide (x.max < x.min) = false := decide_eq_false h4
          go_wp2
          go_ret
          exact ⟨ret_int HE.out.symm, b00⟩
      · have h3' : countOk x.max = false := by simpa using h3
        have HE := Lib.hid (show loadF x = 1 by simp [loadF, h3'])
        clear h3
        go_wp2
        go_ret
        exact ⟨ret_int HE.out.symm, b00⟩
    · have h2' : countOk x.min = false := by simpa using h2
      have HE := Lib.hid (show loadF x = 1 by simp [loadF, h2'])
      clear h2
      go_wp2
      go_ret
      exact ⟨ret_int HE.out.symm, b00⟩
  · have h1' : countOk x.skew = false := by simpa using h1
    have HE := Lib.hid (show loadF x = 1 by simp [loadF, h1'])
    clear h1
    go_wp2
    go_ret
    exact ⟨ret_int HE.out.symm, b00⟩
end Go.Proofs.YtabebhaclkhhpaaGreatDoor
