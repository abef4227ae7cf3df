/- Joined texts, part 6: UK UE UL UM. -/
import Derived.Test.YthmddkelfnfhkaaZ05
import Derived.Test.YthmddkelfnfhkaaZ04
import Derived.Test.YthmddkelfnfhkaaZ03
import Derived.Test.YthmddkelfnfhkaaZ02
import Derived.Deep.RegionHeldLaw

/- The heads of layer 5's laws: few of all, and the document's examples. -/
namespace Go.Proofs.Ythmddkelfnfhkaa
set_option linter.unusedSimpArgs false
open Go.RowKit
set_option linter.unusedVariables false

def few05 (n1 n2 n3 nx nt : Nat) : Bool := decide (n1 ≤ 40 ∧ n2 ≤ 40 ∧ n3 ≤ 40) && (decide (nx ≤ 40) && decide (nt ≤ 40))
set_option maxHeartbeats 1600000 in
theorem few05_any (A1 A2 A3 A4 A5 : Option Addr) (n1 c1 n2 c2 n3 c3 n4 c4 n5 c5 : Nat) (v1 v2 u1 u2 : Value) (w : World) :
    Calls Try.prog 5 #[.agg #[.slice A1 n1 c1, .slice A2 n2 c2, .slice A3 n3 c3], .agg #[.slice A4 n4 c4, v1, v2], .agg #[.slice A5 n5 c5, u1, u2]] w fun e w' => e = .returned (.bool (few05 n1 n2 n3 n4 n5)) ∧ Below w.heap.size w w' := by
  have b00 := below_three w (.cells #[.slice A1 n1 c1, .slice A2 n2 c2, .slice A3 n3 c3] 26) (.cells #[.slice A4 n4 c4, v1, v2] 29) (.cells #[.slice A5 n5 c5, u1, u2] 31)
  go_enter Try.func5, Try.ntmps5
  go_wp2_with fail
  refine (few_any _ _ _ _ _ _ _ _ _ _).mono ?_
  rintro e w1 ⟨rfl, hb1⟩
  have k1 : Below (w.heap.size + 3) _ w1 := hb1.mono (by simp)
  have kw1 := b00.trans (k1.mono (by omega))
  have a3 : w1.cell? ⟨w.heap.size + 1, 0, none⟩ = some (.slice A4 n4 c4) := (k1.cell (p := ⟨w.heap.size + 1, 0, none⟩) (by simp)).trans (by rw [World.cell?_alloc_lt _ _ _ (by simp)]; simp)
  have a4 : w1.cell? ⟨w.heap.size + 2, 0, none⟩ = some (.slice A5 n5 c5) := (k1.cell (p := ⟨w.heap.size + 2, 0, none⟩) (by simp)).trans (by rw [World.cell?_alloc_at _ _ _ _ (by simp)]; simp)
  cases hf : decide (n1 ≤ 40 ∧ n2 ≤ 40 ∧ n3 ≤ 40) with
  | false =>
    have HE := Lib.hid (show few05 n1 n2 n3 n4 n5 = false by unfold few05; rw [hf]; rfl)
    clear hf
    go_wp2
    go_ret
    exact ⟨ret_bool HE.out.symm, kw1⟩
  | true =>
    by_cases h4 : n4 ≤ 40
    · have d4 : decide ((n4 : Int) ≤ 40) = true := decide_eq_true (by omega)
      by_cases h5 : n5 ≤ 40
      · have d5 : decide ((n5 : Int) ≤ 40) = true := decide_eq_true (by omega)
        have HE := Lib.hid (show few05 n1 n2 n3 n4 n5 = true by unfold few05; rw [hf]; simp [h4, h5])
        clear hf
        go_wp2
        go_ret
        exact ⟨ret_bool HE.out.symm, kw1⟩
      · have d5 : decide ((n5 : Int) ≤ 40) = false := decide_eq_false (by omega)
        have HE := Lib.hid (show few05 n1 n2 n3 n4 n5 = false by unfold few05; rw [hf]; simp [h5])
        clear hf
        go_wp2
        go_ret
        exact ⟨ret_bool HE.out.symm, kw1⟩
    · have d4 : decide ((n4 : Int) ≤ 40) = false := decide_eq_false (by omega)
      have HE := Lib.hid (show few05 n1 n2 n3 n4 n5 = false by unfold few05; rw [hf]; simp [h4])
      clear hf
      go_wp2
      go_ret
      exact ⟨ret_bool HE.out.symm, kw1⟩
theorem recs_one {α : Type} {cells : α → List Value} {size : Nat} (w : World) (y : α) (t : TypeId) {g : Nat} (hg : g = w.heap.size) : Recs size cells (w.alloc (.cells (cells y).toArray t)) (g + 1) (some ⟨g, 0, none⟩) [y] := by
  subst hg
  refine .inr ⟨w.heap.size, 0, rfl, by omega, fun i hi j u hu => ?_⟩
  obtain rfl : i = 0 := by simpa using hi
  simp at hu ⊢
  exact hu
theorem Out.alloc {α : Type} {size : Nat} {cells : α → List Value} {w : World} {xs : List α} {A : Option Addr} {c : Nat} (h : Out size cells w xs A c) (o : Obj) : Out size cells (w.alloc o) xs A c :=
  ⟨h.1, h.2.1, h.2.2.1, (h.2.2.2.below ((Below.refl _ w).alloc (Nat.le_refl _) o) (Nat.le_refl _)).more (by simp)⟩
def upPod : PodD := ⟨1, 0, 0, ⟨0, 0, 0, 0⟩, 0⟩
def upNode : NodeD := ⟨3, 1, ⟨0, 0, 0, 0⟩, ⟨0, 0, 0, 0⟩⟩
theorem up_none : makeD [] [] noState ⟨1, 1, 0, 0⟩ = (noState, 4) := by rfl
theorem up_some : makeD [upNode] [] ⟨[upPod], 0, 0⟩ ⟨1, 1, 3, 0⟩ = (⟨[⟨1, 0, 0, ⟨0, 0, 0, 0⟩, 3⟩], 0, 0⟩, 0) := by rfl
set_option maxHeartbeats 6400000 in
set_option maxRecDepth 100000 in
theorem up05_any (w : World) : Calls Try.prog 4 #[] w fun e w' => e = .returned (.bool true) ∧ Below w.heap.size w w' := by
  have HM0 := Lib.hid (fun (v : World) => make_any [] [] noState ⟨1, 1, 0, 0⟩ none none none none none 0 0 0 0 0 0 0 0 0 0 (.int .i64 0) (.int .i64 0) v rfl (by omega) Recs.nil rfl (by omega) Recs.nil rfl (by omega) (fun _ => rfl) Recs.nil)
  go_enter Try.func4, Try.ntmps4
  go_wp2_with fail
  refine (HM0.out _).mono ?_
  rw [up_none, show codeV (noState, (4 : Int)).2 = .iface 54 (.int .i64 4) from rfl]
  rintro e w1 ⟨_, rfl, A, c, rfl, ho, hf, hb1⟩
  have q4 : ∀ w : World, (binOp .eql 47 (.iface 54 (.int .i64 4)) (.iface 54 (.int .i64 4))).run Try.prog w = .ok (.bool true) w := fun _ => by kernel_rfl
  clear ho hf
  go_wp2
  have kW : Below w.heap.size w ((((w1.alloc (.cells #[.slice A noState.pods.length c, .int .i64 noState.preempts, .int .i64 noState.shifts] 31)).alloc (.cells #[.int .i64 3, .int .i64 1, .int .u64 0, .int .u64 0, .int .u64 0, .int .u64 0, .int .u64 0, .int .u64 0, .int .u64 0, .int .u64 0] 53)).alloc (.cells #[.int .i64 1, .int .i64 0, .int .i64 0, .int .u64 0, .int .u64 0, .int .u64 0, .int .u64 0, .int .i64 0] 38)).alloc (.cells #[.slice (some ⟨w1.heap.size + 1, 0, none⟩) 1 1, .slice none 0 0, .slice (some ⟨w1.heap.size + 1 + 1, 0, none⟩) 1 1] 26)) := (((((Below.refl _ w).trans hb1).alloc (hb1.size) _).alloc (by have := hb1.size; simp; omega) _).alloc (by have := hb1.size; simp; omega) _).alloc (by have := hb1.size; simp; omega) _
  have r1 : Recs 10 cellsN ((((w1.alloc (.cells #[.slice A noState.pods.length c, .int .i64 noState.preempts, .int .i64 noState.shifts] 31)).alloc (.cells #[.int .i64 3, .int .i64 1, .int .u64 0, .int .u64 0, .int .u64 0, .int .u64 0, .int .u64 0, .int .u64 0, .int .u64 0, .int .u64 0] 53)).alloc (.cells #[.int .i64 1, .int .i64 0, .int .i64 0, .int .u64 0, .int .u64 0, .int .u64 0, .int .u64 0, .int .i64 0] 38)).alloc (.cells #[.slice (some ⟨w1.heap.size + 1, 0, none⟩) 1 1, .slice none 0 0, .slice (some ⟨w1.heap.size + 1 + 1, 0, none⟩) 1 1] 26)) ((((w1.alloc (.cells #[.slice A noState.pods.length c, .int .i64 noState.preempts, .int .i64 noState.shifts] 31)).alloc (.cells #[.int .i64 3, .int .i64 1, .int .u64 0, .int .u64 0, .int .u64 0, .int .u64 0, .int .u64 0, .int .u64 0, .int .u64 0, .int .u64 0] 53)).alloc (.cells #[.int .i64 1, .int .i64 0, .int .i64 0, .int .u64 0, .int .u64 0, .int .u64 0, .int .u64 0, .int .i64 0] 38)).alloc (.cells #[.slice (some ⟨w1.heap.size + 1, 0, none⟩) 1 1, .slice none 0 0, .slice (some ⟨w1.heap.size + 1 + 1, 0, none⟩) 1 1] 26)).heap.size (some ⟨w1.heap.size + 1, 0, none⟩) [upNode] := (((recs_one (cells := cellsN) (size := 10) (w1.alloc (.cells #[.slice A noState.pods.length c, .int .i64 noState.preempts, .int .i64 noState.shifts] 31)) upNode 53 (g := w1.heap.size + 1) (by simp)).below (below_two _ (.cells #[.int .i64 1, .int .i64 0, .int .i64 0, .int .u64 0, .int .u64 0, .int .u64 0, .int .u64 0, .int .i64 0] 38) (.cells #[.slice (some ⟨w1.heap.size + 1, 0, none⟩) 1 1, .slice none 0 0, .slice (some ⟨w1.heap.size + 1 + 1, 0, none⟩) 1 1] 26)) (by simp))).more (by first | (simp; done) | (simp; omega))
  have r2 : Recs 8 cellsP ((((w1.alloc (.cells #[.slice A noState.pods.length c, .int .i64 noState.preempts, .int .i64 noState.shifts] 31)).alloc (.cells #[.int .i64 3, .int .i64 1, .int .u64 0, .int .u64 0, .int .u64 0, .int .u64 0, .int .u64 0, .int .u64 0, .int .u64 0, .int .u64 0] 53)).alloc (.cells #[.int .i64 1, .int .i64 0, .int .i64 0, .int .u64 0, .int .u64 0, .int .u64 0, .int .u64 0, .int .i64 0] 38)).alloc (.cells #[.slice (some ⟨w1.heap.size + 1, 0, none⟩) 1 1, .slice none 0 0, .slice (some ⟨w1.heap.size + 1 + 1, 0, none⟩) 1 1] 26)) ((((w1.alloc (.cells #[.slice A noState.pods.length c, .int .i64 noState.preempts, .int .i64 noState.shifts] 31)).alloc (.cells #[.int .i64 3, .int .i64 1, .int .u64 0, .int .u64 0, .int .u64 0, .int .u64 0, .int .u64 0, .int .u64 0, .int .u64 0, .int .u64 0] 53)).alloc (.cells #[.int .i64 1, .int .i64 0, .int .i64 0, .int .u64 0, .int .u64 0, .int .u64 0, .int .u64 0, .int .i64 0] 38)).alloc (.cells #[.slice (some ⟨w1.heap.size + 1, 0, none⟩) 1 1, .slice none 0 0, .slice (some ⟨w1.heap.size + 1 + 1, 0, none⟩) 1 1] 26)).heap.size (some ⟨w1.heap.size + 1 + 1, 0, none⟩) [upPod] := ((recs_one (cells := cellsP) (size := 8) ((w1.alloc (.cells #[.slice A noState.pods.length c, .int .i64 noState.preempts, .int .i64 noState.shifts] 31)).alloc (.cells #[.int .i64 3, .int .i64 1, .int .u64 0, .int .u64 0, .int .u64 0, .int .u64 0, .int .u64 0, .int .u64 0, .int .u64 0, .int .u64 0] 53)) upPod 38 (g := w1.heap.size + 1 + 1) (by simp)).below ((Below.refl _ _).alloc (Nat.le_refl _) (.cells #[.slice (some ⟨w1.heap.size + 1, 0, none⟩) 1 1, .slice none 0 0, .slice (some ⟨w1.heap.size + 1 + 1, 0, none⟩) 1 1] 26)) (by simp)).more (by simp)
  have a0 : ((((w1.alloc (.cells #[.slice A noState.pods.length c, .int .i64 noState.preempts, .int .i64 noState.shifts] 31)).alloc (.cells #[.int .i64 3, .int .i64 1, .int .u64 0, .int .u64 0, .int .u64 0, .int .u64 0, .int .u64 0, .int .u64 0, .int .u64 0, .int .u64 0] 53)).alloc (.cells #[.int .i64 1, .int .i64 0, .int .i64 0, .int .u64 0, .int .u64 0, .int .u64 0, .int .u64 0, .int .i64 0] 38)).alloc (.cells #[.slice (some ⟨w1.heap.size + 1, 0, none⟩) 1 1, .slice none 0 0, .slice (some ⟨w1.heap.size + 1 + 1, 0, none⟩) 1 1] 26)).cell? ⟨w1.heap.size + 1 + 1 + 1, 0, none⟩ = some (.slice (some ⟨w1.heap.size + 1, 0, none⟩) 1 1) := by rw [World.cell?_alloc_at _ _ _ _ (by simp)]; rfl
  have a1 : ((((w1.alloc (.cells #[.slice A noState.pods.length c, .int .i64 noState.preempts, .int .i64 noState.shifts] 31)).alloc (.cells #[.int .i64 3, .int .i64 1, .int .u64 0, .int .u64 0, .int .u64 0, .int .u64 0, .int .u64 0, .int .u64 0, .int .u64 0, .int .u64 0] 53)).alloc (.cells #[.int .i64 1, .int .i64 0, .int .i64 0, .int .u64 0, .int .u64 0, .int .u64 0, .int .u64 0, .int .i64 0] 38)).alloc (.cells #[.slice (some ⟨w1.heap.size + 1, 0, none⟩) 1 1, .slice none 0 0, .slice (some ⟨w1.heap.size + 1 + 1, 0, none⟩) 1 1] 26)).cell? ⟨w1.heap.size + 1 + 1 + 1, 1, none⟩ = some (.slice none 0 0) := by rw [World.cell?_alloc_at _ _ _ _ (by simp)]; rfl
  have a2 : ((((w1.alloc (.cells #[.slice A noState.pods.length c, .int .i64 noState.preempts, .int .i64 noState.shifts] 31)).alloc (.cells #[.int .i64 3, .int .i64 1, .int .u64 0, .int .u64 0, .int .u64 0, .int .u64 0, .int .u64 0, .int .u64 0, .int .u64 0, .int .u64 0] 53)).alloc (.cells #[.int .i64 1, .int .i64 0, .int .i64 0, .int .u64 0, .int .u64 0, .int .u64 0, .int .u64 0, .int .i64 0] 38)).alloc (.cells #[.slice (some ⟨w1.heap.size + 1, 0, none⟩) 1 1, .slice none 0 0, .slice (some ⟨w1.heap.size + 1 + 1, 0, none⟩) 1 1] 26)).cell? ⟨w1.heap.size + 1 + 1 + 1, 2, none⟩ = some (.slice (some ⟨w1.heap.size + 1 + 1, 0, none⟩) 1 1) := by rw [World.cell?_alloc_at _ _ _ _ (by simp)]; rfl
  have hl0 : w1.heap.size + 1 + 1 + 1 < ((((w1.alloc (.cells #[.slice A noState.pods.length c, .int .i64 noState.preempts, .int .i64 noState.shifts] 31)).alloc (.cells #[.int .i64 3, .int .i64 1, .int .u64 0, .int .u64 0, .int .u64 0, .int .u64 0, .int .u64 0, .int .u64 0, .int .u64 0, .int .u64 0] 53)).alloc (.cells #[.int .i64 1, .int .i64 0, .int .i64 0, .int .u64 0, .int .u64 0, .int .u64 0, .int .u64 0, .int .i64 0] 38)).alloc (.cells #[.slice (some ⟨w1.heap.size + 1, 0, none⟩) 1 1, .slice none 0 0, .slice (some ⟨w1.heap.size + 1 + 1, 0, none⟩) 1 1] 26)).heap.size := by simp
  generalize hW : (((w1.alloc (.cells #[.slice A noState.pods.length c, .int .i64 noState.preempts, .int .i64 noState.shifts] 31)).alloc (.cells #[.int .i64 3, .int .i64 1, .int .u64 0, .int .u64 0, .int .u64 0, .int .u64 0, .int .u64 0, .int .u64 0, .int .u64 0, .int .u64 0] 53)).alloc (.cells #[.int .i64 1, .int .i64 0, .int .i64 0, .int .u64 0, .int .u64 0, .int .u64 0, .int .u64 0, .int .i64 0] 38)).alloc (.cells #[.slice (some ⟨w1.heap.size + 1, 0, none⟩) 1 1, .slice none 0 0, .slice (some ⟨w1.heap.size + 1 + 1, 0, none⟩) 1 1] 26) = W at *
  clear hW hb1
  generalize w1.heap.size + 1 + 1 + 1 = h3 at *
  generalize w1.heap.size + 1 + 1 = h2 at *
  generalize w1.heap.size + 1 = h1 at *
  have HF : Hid (∀ v : World, Keeps W v → Calls Try.prog 9 #[.agg #[.slice (some ⟨h1, 0, none⟩) 1 1, .slice none 0 0, .slice (some ⟨h2, 0, none⟩) 1 1]] v fun e w' => ∃ A' c', e = .returned (.agg #[.slice A' 1 c', .int .i64 0, .int .i64 0]) ∧ Out 8 cellsP w' [upPod] A' c' ∧ Below v.heap.size v w') :=
    fun v hv => stateFirst_any [upPod] (some ⟨h2, 0, none⟩) 1 1 (.slice (some ⟨h1, 0, none⟩) 1 1) (.slice none 0 0) v rfl (by omega) (by intro e; cases e) ((r2.below hv.2 (Nat.le_refl _)).more hv.2.size)
  have HM : Hid (∀ (v : World) (A' : Option Addr) (c' : Nat), Keeps W v → Out 8 cellsP v [upPod] A' c' → Calls Try.prog 14 #[.agg #[.slice (some ⟨h1, 0, none⟩) 1 1, .slice none 0 0, .slice (some ⟨h2, 0, none⟩) 1 1], .agg #[.slice none 0 0, .int .i64 0, .int .i64 0], .agg #[.slice A' 1 c', .int .i64 0, .int .i64 0], .agg #[.int .i64 1, .int .i64 1, .int .i64 3, .int .i64 0]] v
      fun e w' => ∃ b o c5, e = .returned (.tuple #[.agg #[.slice (some ⟨b, o, none⟩) 1 c5, .int .i64 0, .int .i64 0], .nilIface]) ∧ w'.cell? ⟨b, o + 7, none⟩ = some (.int .i64 3) ∧ v.heap.size ≤ b ∧ b < w'.heap.size ∧ Below v.heap.size v w') := fun v A' c' hv ho => by
    refine (make_any [upNode] [] ⟨[upPod], 0, 0⟩ ⟨1, 1, 3, 0⟩ (some ⟨h1, 0, none⟩) none (some ⟨h2, 0, none⟩) none A' 1 1 0 0 1 1 0 0 1 c' (.int .i64 0) (.int .i64 0) v rfl (by omega) ((r1.below hv.2 (Nat.le_refl _)).more hv.2.size) rfl (by omega) Recs.nil rfl (by omega) ho.2.2.1 ho.recs).mono ?_
    rw [up_some]
    rintro e w' ⟨_, rfl, A5, c5, rfl, ho5, hf5, hb5⟩
    obtain ⟨b, o, rfl, hbw, hc⟩ := ho5.recs.at (k := 0) (by decide)
    exact ⟨b, o, c5, rfl, hc 7 _ rfl, hf5 _ rfl, hbw, hb5⟩
  clear r1 r2 HM0
  go_region_held3 (fun w' => (∀ b o, b < W.heap.size → w'.cell? ⟨b, o, none⟩ = W.cell? ⟨b, o, none⟩) ∧ Below W.heap.size W w')
    (first | (with_reducible assumption) | (show Keeps W _; with_reducible (repeat (first | exact Keeps.refl _ | refine Keeps.drew ?_ | refine Keeps.set ?_ (by first | (simp; done) | (simp; omega)) _ | refine Keeps.alloc ?_ _ | refine Keeps.step ?_ (by assumption)))))
    (first
      | (go_at_call 9; refine (HF.out _ (by assumption)).mono ?_; rintro e wf ⟨A', c', rfl, ho, hbf⟩; obtain ⟨hcx, hfx⟩ := old_cells hbf; have hzf := hbf.size; simp only [World.size_alloc, World.size_drew] at hzf; try (have hzl : W.heap.size < wf.heap.size := (by omega)))
      | (go_at_call 14; refine (HM.out _ A' c' (by assumption) (by first | exact ho | exact ho.alloc _)).mono ?_; rintro e wm ⟨b, o, c5, rfl, hc5, hf5, hb5, hbm⟩; obtain ⟨hcy, hfy⟩ := old_cells hbm))
  all_goals
    rename_i hK
    have kF := kW.trans (hK.2.mono kW.size)
    have hf6 := hf5
    try simp only [World.size_alloc, World.size_drew] at hf6
    try (have hbW : b ≠ W.heap.size := (by omega))
    try (have hbf2 : b ≠ wf.heap.size := (by omega))
    clear hK
    go_wp2
    go_ret
    exact ⟨rfl, kF⟩
end Go.Proofs.Ythmddkelfnfhkaa

/- The reference's Place and Goal of layer 5. -/
namespace Go.Proofs.Ythmddkelfnfhkaa
set_option linter.unusedSimpArgs false
open Go.RowKit
set_option linter.unusedVariables false

set_option maxHeartbeats 800000 in
/-- dunnageref05.Place. -/
theorem rPlace05_any (l : List PodD) (id : Int) (A : Option Addr) (n c B : Nat) (v1 v2 : Value) (w : World) (hn : n = l.length) (hl : n ≤ 1000) (hB : B ≤ w.heap.size) (hr : Recs 8 cellsP w B A l) :
    Calls Try.prog 7 #[.agg #[.slice A n c, v1, v2], .int .i64 id] w fun e w' => e = .returned (.int .i64 (place PodD.id id l 0)) ∧ Below w.heap.size w w' := by
  have HR := Lib.hid hr
  have HL := Lib.hid hn
  clear hr hn
  go_enter Try.func7, Try.ntmps7
  go_wp2
  go_loop [5] (FindRel PodD.id id l) (fun i => n - (intOf i).toNat)
  case atStart => exact ⟨0, by omega, rfl, rfl⟩
  case round =>
    obtain ⟨k, hk, rfl, hp⟩ := hrel
    have HP := Lib.hid hp
    clear hp
    by_cases hlt : k < n
    · have hkl : k < l.length := by have := HL.out; omega
      obtain ⟨b, o, rfl, hb, hcell⟩ := HR.out.at hkl
      have hc : w.cell? ⟨b, o + k * 8, none⟩ = some (.int .i64 l[k].id) := hcell 0 _ rfl
      have hbl : b < w.heap.size := by omega
      clear hcell
      by_cases he : l[k].id = id
      · have HE := Lib.hid (place_here hkl he HP.out)
        obtain rfl := he
        go_wp2
        go_ret
        exact ⟨ret_int HE.out.symm, (Below.refl _ _).alloc (Nat.le_refl _) _⟩
      · have HE := Lib.hid (place_step hkl he HP.out)
        go_wp2
        go_round
        case rel => exact ⟨k + 1, by omega, by go_num, HE.out⟩
        case measure => simp [intOf]; omega
    · have HE := Lib.hid (place_end (by have := HL.out; omega) HP.out)
      go_wp2
      go_ret
      exact ⟨ret_int HE.out.symm, (Below.refl _ _).alloc (Nat.le_refl _) _⟩
set_option maxHeartbeats 6400000 in
set_option maxRecDepth 100000 in
/-- dunnageref05.Goal. -/
theorem rGoal05_any (x : List WantD) (l : List PodD) (A A' : Option Addr) (n c n' c' : Nat) (v1 v2 u1 u2 : Value) (w : World) (hn : n = x.length) (hl : n ≤ 1000) (hn' : n' = l.length) (hl' : n' ≤ 1000) (hr : Recs 6 cellsW w w.heap.size A x) (hr' : Recs 8 cellsP w w.heap.size A' l) :
    Calls Try.prog 13 #[.agg #[.slice A n c, v1, v2], .agg #[.slice A' n' c', u1, u2]] w fun e w' => e = .returned (.bool (goalD x l)) ∧ Below w.heap.size w w' := by
  have HR := Lib.hid hr
  have HN := Lib.hid hn
  have HR' := Lib.hid hr'
  have HN' := Lib.hid hn'
  have b00 := below_two w (.cells #[.slice A n c, v1, v2] 29) (.cells #[.slice A' n' c', u1, u2] 31)
  clear hr hn hr' hn'
  go_enter Try.func13, Try.ntmps13
  go_wp2
  go_loopw [5] (GoalRel x l ((w.alloc (.cells #[.slice A n c, v1, v2] 29)).alloc (.cells #[.slice A' n' c', u1, u2] 31)) (w.heap.size + 2)) (fun i _ => n - (intOf i).toNat)
  case atStart => exact ⟨0, by omega, rfl, rfl, Below.refl _ _⟩
  case round =>
    obtain ⟨k, hk, rfl, hg, hbr⟩ := hrel
    have HG := Lib.hid hg
    have kwr := b00.trans (hbr.mono (by omega))
    have hzr : w.heap.size + 2 ≤ wr.heap.size := by have := hbr.size; simpa using this
    obtain ⟨⟨b0, b1, b2⟩, b3, b4, b5⟩ := box2_cells hbr
    have hwl : w.heap.size < wr.heap.size := by omega
    have hwl1 : w.heap.size + 1 < wr.heap.size := by omega
    clear hg
    by_cases hlt : k < n
    · have hkl : k < x.length := by have := HN.out; omega
      obtain ⟨b, o, rfl, hb, he⟩ := HR.out.at hkl
      generalize hx : x[k] = y at *
      have HX := Lib.hid (goal_at hkl hx HG.out)
      clear hx
      have e0 : wr.cell? ⟨b, o + k * 6, none⟩ = some (.int .i64 y.pod) := (kwr.cell (p := ⟨b, o + k * 6, none⟩) hb).trans (he 0 _ rfl)
      have e1 : wr.cell? ⟨b, o + k * 6 + 1, none⟩ = some (.int .u64 y.req.a) := (kwr.cell (p := ⟨b, o + k * 6 + 1, none⟩) hb).trans (he 1 _ rfl)
      have e2 : wr.cell? ⟨b, o + k * 6 + 2, none⟩ = some (.int .u64 y.req.b) := (kwr.cell (p := ⟨b, o + k * 6 + 2, none⟩) hb).trans (he 2 _ rfl)
      have e3 : wr.cell? ⟨b, o + k * 6 + 3, none⟩ = some (.int .u64 y.req.c) := (kwr.cell (p := ⟨b, o + k * 6 + 3, none⟩) hb).trans (he 3 _ rfl)
      have e4 : wr.cell? ⟨b, o + k * 6 + 4, none⟩ = some (.int .u64 y.req.d) := (kwr.cell (p := ⟨b, o + k * 6 + 4, none⟩) hb).trans (he 4 _ rfl)
      have e5 : wr.cell? ⟨b, o + k * 6 + 5, none⟩ = some (.bool y.stay) := (kwr.cell (p := ⟨b, o + k * 6 + 5, none⟩) hb).trans (he 5 _ rfl)
      have hbw : b < wr.heap.size := by omega
      have hk0 : (0 : Int) ≤ (k : Int) := by omega
      have hk1 : (k : Int) < (n : Int) := by omega
      clear he
      have HC : Hid (∀ v : World, Keeps wr v → Calls Try.prog 7 #[.agg #[.slice A' n' c', u1, u2], .int .i64 y.pod] v fun e w' => e = .returned (.int .i64 (place PodD.id y.pod l 0)) ∧ Below v.heap.size v w') :=
        fun v hv => rPlace05_any l y.pod A' n' c' v.heap.size u1 u2 v HN'.out hl' (Nat.le_refl _) ((HR'.out.below (kwr.trans (hv.2.mono kwr.size)) (Nat.le_refl _)).more (kwr.trans (hv.2.mono kwr.size)).size)
      generalize hpl : place PodD.id y.pod l 0 = pl at *
      have HPL := Lib.hid hpl
      clear hpl
      go_wp2
      go_region_held3 (fun w' => (∀ b o, b < wr.heap.size → w'.cell? ⟨b, o, none⟩ = wr.cell? ⟨b, o, none⟩) ∧ Below wr.heap.size wr w')
        (first | (with_reducible assumption) | exact Keeps.of (Below.refl _ _) | exact Keeps.of (Below.drew (Below.refl _ _)) | exact Keeps.step (by assumption) (by assumption) | exact Keeps.alloc (by assumption) _)
        (first | (go_at_call 7; refine (HC.out _ (by assumption)).mono ?_; rintro e w' ⟨rfl, hb⟩))
      rename_i hK
      have k1 := hbr.trans (hK.2.mono hzr)
      have kw1 := b00.trans (k1.mono (by omega))
      have hz1 : w.heap.size + 2 ≤ w'.heap.size := by have := hK.2.size; omega
      have hwl' : w.heap.size < w'.heap.size := by omega
      have hwl1' : w.heap.size + 1 < w'.heap.size := by omega
      have hbw' : b < w'.heap.size := by have := hK.2.size; omega
      have f0 := (hK.1 b (o + k * 6) hbw).trans e0
      have f1 := (hK.1 b (o + k * 6 + 1) hbw).trans e1
      have f2 := (hK.1 b (o + k * 6 + 2) hbw).trans e2
      have f3 := (hK.1 b (o + k * 6 + 3) hbw).trans e3
      have f4 := (hK.1 b (o + k * 6 + 4) hbw).trans e4
      have f5 := (hK.1 b (o + k * 6 + 5) hbw).trans e5
      clear b0 b1 b2 b3 b4 b5 e0 e1 e2 e3 e4 e5 hb hK
      obtain ⟨⟨b0, b1, b2⟩, b3, b4, b5⟩ := box2_cells k1
      by_cases hp : pl < 0
      · have HE := Lib.hid (HX.out.1 (met_none (by rw [HPL.out]; exact hp)))
        have hd : decide (pl < 0) = true := decide_eq_true hp
        clear hp
        go_wp2
        go_ret
        exact ⟨ret_bool HE.out.symm, kw1⟩
      · obtain ⟨i, hi, hpi⟩ := place_hit (by rw [HPL.out]; exact hp)
        have HM := Lib.hid (met_some hi hpi rfl)
        rw [HPL.out] at hpi
        subst hpi
        obtain ⟨bp, op, rfl, hbp, hep⟩ := HR'.out.at hi
        have hin : i < n' := by have := HN'.out; omega
        generalize l[i] = p at *
        have e0 : w'.cell? ⟨bp, op + i * 8, none⟩ = some (.int .i64 p.id) := (kw1.cell (p := ⟨bp, op + i * 8, none⟩) hbp).trans (hep 0 _ rfl)
        have e1 : w'.cell? ⟨bp, op + i * 8 + 1, none⟩ = some (.int .i64 p.load) := (kw1.cell (p := ⟨bp, op + i * 8 + 1, none⟩) hbp).trans (hep 1 _ rfl)
        have e2 : w'.cell? ⟨bp, op + i * 8 + 2, none⟩ = some (.int .i64 p.prio) := (kw1.cell (p := ⟨bp, op + i * 8 + 2, none⟩) hbp).trans (hep 2 _ rfl)
        have e3 : w'.cell? ⟨bp, op + i * 8 + 3, none⟩ = some (.int .u64 p.req.a) := (kw1.cell (p := ⟨bp, op + i * 8 + 3, none⟩) hbp).trans (hep 3 _ rfl)
        have e4 : w'.cell? ⟨bp, op + i * 8 + 4, none⟩ = some (.int .u64 p.req.b) := (kw1.cell (p := ⟨bp, op + i * 8 + 4, none⟩) hbp).trans (hep 4 _ rfl)
        have e5 : w'.cell? ⟨bp, op + i * 8 + 5, none⟩ = some (.int .u64 p.req.c) := (kw1.cell (p := ⟨bp, op + i * 8 + 5, none⟩) hbp).trans (hep 5 _ rfl)
        have e6 : w'.cell? ⟨bp, op + i * 8 + 6, none⟩ = some (.int .u64 p.req.d) := (kw1.cell (p := ⟨bp, op + i * 8 + 6, none⟩) hbp).trans (hep 6 _ rfl)
        have e7 : w'.cell? ⟨bp, op + i * 8 + 7, none⟩ = some (.int .i64 p.node) := (kw1.cell (p := ⟨bp, op + i * 8 + 7, none⟩) hbp).trans (hep 7 _ rfl)
        have hbpw : bp < w'.heap.size := by omega
        have hi0 : (0 : Int) ≤ (i : Int) := by omega
        have hi1 : (i : Int) < (n' : Int) := by omega
        have hpd : decide ((i : Int) < 0) = false := decide_eq_false (by omega)
        clear hep hp
        go_wp2
        generalize hW : w'.alloc (.cells #[.int .i64 p.id, .int .i64 p.load, .int .i64 p.prio, .int .u64 p.req.a, .int .u64 p.req.b, .int .u64 p.req.c, .int .u64 p.req.d, .int .i64 p.node] 38) = W at *
        have k2 := k1.alloc hz1 (.cells #[.int .i64 p.id, .int .i64 p.load, .int .i64 p.prio, .int .u64 p.req.a, .int .u64 p.req.b, .int .u64 p.req.c, .int .u64 p.req.d, .int .i64 p.node] 38)
        rw [hW] at k2
        have kw2 := b00.trans (k2.mono (by omega))
        have hzW : w'.heap.size < W.heap.size := by rw [← hW]; simp
        have d0 : W.cell? ⟨w'.heap.size, 0, none⟩ = some (.int .i64 p.id) := by rw [← hW]; simp
        have d1 : W.cell? ⟨w'.heap.size, 1, none⟩ = some (.int .i64 p.load) := by rw [← hW]; simp
        have d2 : W.cell? ⟨w'.heap.size, 2, none⟩ = some (.int .i64 p.prio) := by rw [← hW]; simp
        have d3 : W.cell? ⟨w'.heap.size, 3, none⟩ = some (.int .u64 p.req.a) := by rw [← hW]; simp
        have d4 : W.cell? ⟨w'.heap.size, 4, none⟩ = some (.int .u64 p.req.b) := by rw [← hW]; simp
        have d5 : W.cell? ⟨w'.heap.size, 5, none⟩ = some (.int .u64 p.req.c) := by rw [← hW]; simp
        have d6 : W.cell? ⟨w'.heap.size, 6, none⟩ = some (.int .u64 p.req.d) := by rw [← hW]; simp
        have d7 : W.cell? ⟨w'.heap.size, 7, none⟩ = some (.int .i64 p.node) := by rw [← hW]; simp
        have q0 : W.cell? ⟨b, o + k * 6, none⟩ = some (.int .i64 y.pod) := by rw [← hW, World.cell?_alloc_lt _ _ _ hbw']; exact f0
        have q1 : W.cell? ⟨b, o + k * 6 + 1, none⟩ = some (.int .u64 y.req.a) := by rw [← hW, World.cell?_alloc_lt _ _ _ hbw']; exact f1
        have q2 : W.cell? ⟨b, o + k * 6 + 2, none⟩ = some (.int .u64 y.req.b) := by rw [← hW, World.cell?_alloc_lt _ _ _ hbw']; exact f2
        have q3 : W.cell? ⟨b, o + k * 6 + 3, none⟩ = some (.int .u64 y.req.c) := by rw [← hW, World.cell?_alloc_lt _ _ _ hbw']; exact f3
        have q4 : W.cell? ⟨b, o + k * 6 + 4, none⟩ = some (.int .u64 y.req.d) := by rw [← hW, World.cell?_alloc_lt _ _ _ hbw']; exact f4
        have q5 : W.cell? ⟨b, o + k * 6 + 5, none⟩ = some (.bool y.stay) := by rw [← hW, World.cell?_alloc_lt _ _ _ hbw']; exact f5
        have hbW : b < W.heap.size := by omega
        clear hW b0 b1 b2 b3 b4 b5 f0 f1 f2 f3 f4 f5 e0 e1 e2 e3 e4 e5 e6 e7
        obtain ⟨⟨b0, b1, b2⟩, b3, b4, b5⟩ := box2_cells k2
        have hwW : w.heap.size < W.heap.size := by omega
        have hwW1 : w.heap.size + 1 < W.heap.size := by omega
        have hnq := fun v => vec_neq p.req y.req v
        cases hs : y.stay with
        | true =>
          by_cases hn : p.node = 0
          · have hd : (p.node == 0) = true := by simp [hn]
            have HE := Lib.hid (HX.out.1 (HM.out.trans (by simp [hs, hn])))
            clear hn
            go_wp2
            go_quiet (fail)
            go_wp2
            go_ret
            exact ⟨ret_bool HE.out.symm, below_drewn kw2 _⟩
          · have hd : (p.node == 0) = false := by simp [hn]
            cases hv : vecEq p.req y.req with
            | false =>
              have HE := Lib.hid (HX.out.1 (HM.out.trans (by simp [hs, hv])))
              clear hn
              go_wp2
              go_quiet (fail)
              go_wp2
              go_ret
              exact ⟨ret_bool HE.out.symm, below_drewn kw2 _⟩
            | true =>
              have HE := Lib.hid (HX.out.2 (HM.out.trans (by simp [hs, hv, hn])))
              clear hn
              go_wp2
              go_quiet (fail)
              go_wp2
              go_roundw
              case rel => exact ⟨k + 1, by omega, by go_num, HE.out, below_drewn k2 _⟩
              case measure => simp [intOf]; omega
        | false =>
          by_cases hn : p.node = 0
          · have hd : (p.node != 0) = false := by simp [hn]
            have HE := Lib.hid (HX.out.2 (HM.out.trans (by simp [hs, hn])))
            clear hn
            go_wp2
            go_quiet (fail)
            go_wp2
            go_roundw
            case rel => exact ⟨k + 1, by omega, by go_num, HE.out, below_drewn k2 _⟩
            case measure => simp [intOf]; omega
          · have hd : (p.node != 0) = true := by simp [hn]
            have HE := Lib.hid (HX.out.1 (HM.out.trans (by simp [hs, hn])))
            clear hn
            go_wp2
            go_quiet (fail)
            go_wp2
            go_ret
            exact ⟨ret_bool HE.out.symm, below_drewn kw2 _⟩
    · have HE := Lib.hid (goal_end (by have := HN.out; omega) HG.out)
      go_wp2
      go_ret
      exact ⟨ret_bool HE.out.symm, kwr⟩
end Go.Proofs.Ythmddkelfnfhkaa

/- The law StateTells where there are too many of something. -/
namespace Go.Proofs.Ythmddkelfnfhkaa
set_option linter.unusedSimpArgs false
open Go.RowKit
set_option linter.unusedVariables false

/-- Four boxes of the call's own. -/
structure Fo (a b c d : List Value) (w V : World) : Prop where
  one : Bf V w.heap.size a
  two : Bf V (w.heap.size + 1) b
  three : Bf V (w.heap.size + 2) c
  four : Bf V (w.heap.size + 3) d
  below : Below w.heap.size w V
section
variable {a b c d : List Value} {w V V' : World}
theorem Fo.keep (h : Fo a b c d w V) (hb : Below V.heap.size V V') : Fo a b c d w V' :=
  ⟨h.one.below hb h.one.lt, h.two.below hb h.two.lt, h.three.below hb h.three.lt, h.four.below hb h.four.lt, h.below.trans (hb.mono h.below.size)⟩
theorem Fo.alloc (h : Fo a b c d w V) (o : Obj) : Fo a b c d w (V.alloc o) := h.keep ((Below.refl _ V).alloc (Nat.le_refl _) o)
theorem Fo.new (w : World) (a b c d : List Value) (t1 t2 t3 t4 : TypeId) : Fo a b c d w ((((w.alloc (.cells a.toArray t1)).alloc (.cells b.toArray t2)).alloc (.cells c.toArray t3)).alloc (.cells d.toArray t4)) :=
  ⟨(((Bf.new w a t1 rfl).alloc _).alloc _).alloc _, ((Bf.new (w.alloc (.cells a.toArray t1)) b t2 (b := w.heap.size + 1) (by simp)).alloc _).alloc _,
    (Bf.new ((w.alloc (.cells a.toArray t1)).alloc (.cells b.toArray t2)) c t3 (b := w.heap.size + 2) (by simp)).alloc _, Bf.new (((w.alloc (.cells a.toArray t1)).alloc (.cells b.toArray t2)).alloc (.cells c.toArray t3)) d t4 (b := w.heap.size + 3) (by simp),
    below_four w _ _ _ _⟩
theorem Fo.facts {a0 a1 a2 b0 b1 b2 c0 c1 c2 d0 d1 d2 : Value} (h : Fo [a0, a1, a2] [b0, b1, b2] [c0, c1, c2] [d0, d1, d2] w V) :
    (V.cell? ⟨w.heap.size, 0, none⟩ = some a0 ∧ V.cell? ⟨w.heap.size, 1, none⟩ = some a1 ∧ V.cell? ⟨w.heap.size, 2, none⟩ = some a2) ∧
    (V.cell? ⟨w.heap.size + 1, 0, none⟩ = some b0 ∧ V.cell? ⟨w.heap.size + 1, 1, none⟩ = some b1 ∧ V.cell? ⟨w.heap.size + 1, 2, none⟩ = some b2) ∧
    (V.cell? ⟨w.heap.size + 2, 0, none⟩ = some c0 ∧ V.cell? ⟨w.heap.size + 2, 1, none⟩ = some c1 ∧ V.cell? ⟨w.heap.size + 2, 2, none⟩ = some c2) ∧
    (V.cell? ⟨w.heap.size + 3, 0, none⟩ = some d0 ∧ V.cell? ⟨w.heap.size + 3, 1, none⟩ = some d1 ∧ V.cell? ⟨w.heap.size + 3, 2, none⟩ = some d2) ∧ w.heap.size < V.heap.size ∧ w.heap.size + 1 < V.heap.size ∧ w.heap.size + 2 < V.heap.size ∧ w.heap.size + 3 < V.heap.size :=
  ⟨⟨h.one.cell 0 _ rfl, h.one.cell 1 _ rfl, h.one.cell 2 _ rfl⟩, ⟨h.two.cell 0 _ rfl, h.two.cell 1 _ rfl, h.two.cell 2 _ rfl⟩, ⟨h.three.cell 0 _ rfl, h.three.cell 1 _ rfl, h.three.cell 2 _ rfl⟩, ⟨h.four.cell 0 _ rfl, h.four.cell 1 _ rfl, h.four.cell 2 _ rfl⟩, h.one.lt, h.two.lt, h.three.lt, h.four.lt⟩
end
set_option maxHeartbeats 6400000 in
set_option maxRecDepth 100000 in
/-- Where there are too many of something. -/
theorem stateTells_long (A1 A2 A3 A4 A5 A6 : Option Addr) (n1 c1 n2 c2 n3 c3 n4 c4 n5 c5 n6 c6 : Nat) (x : SpecD) (t u : StateD) (id : Int) (w : World) (hf : few05 n1 n2 n3 n4 n5 = false ∨ ¬ n6 ≤ 40) :
    Calls Try.prog 3 #[.agg #[.slice A1 n1 c1, .slice A2 n2 c2, .slice A3 n3 c3], .agg #[.slice A4 n4 c4, .int .i64 x.preempts, .int .i64 x.shifts], .agg #[.slice A5 n5 c5, .int .i64 t.preempts, .int .i64 t.shifts], .agg #[.slice A6 n6 c6, .int .i64 u.preempts, .int .i64 u.shifts], .int .i64 id] w fun e w' => e = .returned (.bool true) ∧ Below w.heap.size w w' := by
  have M0 := Fo.new w [.slice A1 n1 c1, .slice A2 n2 c2, .slice A3 n3 c3] [.slice A4 n4 c4, .int .i64 x.preempts, .int .i64 x.shifts] [.slice A5 n5 c5, .int .i64 t.preempts, .int .i64 t.shifts] [.slice A6 n6 c6, .int .i64 u.preempts, .int .i64 u.shifts] 26 29 31 31
  go_enter Try.func3, Try.ntmps3
  go_wp2_with fail
  refine (up05_any _).mono ?_
  rintro e w1 ⟨rfl, hb1⟩
  have M1 := M0.keep hb1
  clear hb1 M0
  obtain ⟨⟨a0, a1, a2⟩, ⟨a3, a4, a5⟩, ⟨a6, a7, a8⟩, ⟨a9, a10, a11⟩, hz0, hz1, hz2, hz3⟩ := M1.facts
  go_wp2_with fail
  refine (few05_any _ _ _ _ _ _ _ _ _ _ _ _ _ _ _ _ _ _ _ _).mono ?_
  rintro e w2 ⟨rfl, hb2⟩
  have M2 := M1.keep hb2
  clear hb2 M1 a0 a1 a2 a3 a4 a5 a6 a7 a8 a9 a10 a11 hz0 hz1 hz2 hz3
  obtain ⟨⟨a0, a1, a2⟩, ⟨a3, a4, a5⟩, ⟨a6, a7, a8⟩, ⟨a9, a10, a11⟩, hz0, hz1, hz2, hz3⟩ := M2.facts
  cases hq : few05 n1 n2 n3 n4 n5 with
  | false =>
    go_wp2
    go_ret
    exact ⟨rfl, M2.below⟩
  | true =>
    have h6 : ¬ n6 ≤ 40 := by rcases hf with h | h
                              · rw [hq] at h; cases h
                              · exact h
    have d6 : decide ((40 : Int) < (n6 : Int)) = true := decide_eq_true (by omega)
    clear hf h6 hq
    go_wp2
    go_ret
    exact ⟨rfl, M2.below⟩
end Go.Proofs.Ythmddkelfnfhkaa

namespace Go.Proofs.Ythmddkelfnfhkaa
set_option linter.unusedSimpArgs false
open Go.RowKit
set_option linter.unusedVariables false

theorem pod_is_self (x : PodD) (w : World) : (binOp .neq 38 (aggP x) (aggP x)).run Try.prog w = .ok (.bool false) w := by rw [pod_neq, podEq_self]; rfl
theorem out_later {α : Type} {size : Nat} {cells : α → List Value} {w w' : World} {xs : List α} {A : Option Addr} {c : Nat} (h : Out size cells w xs A c) (hb : Below w.heap.size w w') : Out size cells w' xs A c :=
  ⟨h.1, h.2.1, h.2.2.1, (h.2.2.2.below hb (Nat.le_refl _)).more hb.size⟩
set_option maxHeartbeats 12800000 in
set_option maxRecDepth 100000 in
theorem stateTells_in (s : SnapD) (x : SpecD) (t u : StateD) (id : Int) (A1 A2 A3 A4 A5 A6 : Option Addr) (n1 c1 n2 c2 n3 c3 n4 c4 n5 c5 n6 c6 : Nat) (w : World) (hf : few05 n1 n2 n3 n4 n5 = true) (h6 : n6 ≤ 40) (l3 : n3 ≤ 40) (l4 : n4 ≤ 40) (l5 : n5 ≤ 40)
    (hn3 : n3 = s.pods.length) (hn4 : n4 = x.wants.length) (hn5 : n5 = t.pods.length) (hn6 : n6 = u.pods.length) (h03 : A3 = none → c3 = 0) (hr3 : Recs 8 cellsP w w.heap.size A3 s.pods) (hr4 : Recs 6 cellsW w w.heap.size A4 x.wants) (hr5 : Recs 8 cellsP w w.heap.size A5 t.pods) (hr6 : Recs 8 cellsP w w.heap.size A6 u.pods) :
    Calls Try.prog 3 #[.agg #[.slice A1 n1 c1, .slice A2 n2 c2, .slice A3 n3 c3], .agg #[.slice A4 n4 c4, .int .i64 x.preempts, .int .i64 x.shifts], .agg #[.slice A5 n5 c5, .int .i64 t.preempts, .int .i64 t.shifts], .agg #[.slice A6 n6 c6, .int .i64 u.preempts, .int .i64 u.shifts], .int .i64 id] w fun e w' => e = .returned (.bool true) ∧ Below w.heap.size w w' := by
  have M0 := Fo.new w [.slice A1 n1 c1, .slice A2 n2 c2, .slice A3 n3 c3] [.slice A4 n4 c4, .int .i64 x.preempts, .int .i64 x.shifts] [.slice A5 n5 c5, .int .i64 t.preempts, .int .i64 t.shifts] [.slice A6 n6 c6, .int .i64 u.preempts, .int .i64 u.shifts] 26 29 31 31
  have HR3 := Lib.hid hr3
  have HR4 := Lib.hid hr4
  have HR5 := Lib.hid hr5
  have HR6 := Lib.hid hr6
  have HN3 := Lib.hid hn3
  have HN4 := Lib.hid hn4
  have HN5 := Lib.hid hn5
  have HN6 := Lib.hid hn6
  have H03 := Lib.hid h03
  clear hr3 hr4 hr5 hr6 hn3 hn4 hn5 hn6 h03
  have at3 := Lib.hid (fun (v : World) (hv : Below w.heap.size w v) => (HR3.out.below hv (Nat.le_refl _)).more hv.size)
  have at4 := Lib.hid (fun (v : World) (hv : Below w.heap.size w v) => (HR4.out.below hv (Nat.le_refl _)).more hv.size)
  have at5 := Lib.hid (fun (v : World) (hv : Below w.heap.size w v) => (HR5.out.below hv (Nat.le_refl _)).more hv.size)
  have at6 := Lib.hid (fun (v : World) (hv : Below w.heap.size w v) => (HR6.out.below hv (Nat.le_refl _)).more hv.size)
  go_enter Try.func3, Try.ntmps3
  go_wp2_with fail
  refine (up05_any _).mono ?_
  rintro e w1 ⟨rfl, hb1⟩
  have M1 := M0.keep hb1
  clear hb1 M0
  obtain ⟨⟨a0, a1, a2⟩, ⟨a3, a4, a5⟩, ⟨a6, a7, a8⟩, ⟨a9, a10, a11⟩, hz0, hz1, hz2, hz3⟩ := M1.facts
  go_wp2_with fail
  refine (few05_any _ _ _ _ _ _ _ _ _ _ _ _ _ _ _ _ _ _ _ _).mono ?_
  rintro e w2 ⟨rfl, hb2⟩
  have M2 := M1.keep hb2
  clear hb2 M1 a0 a1 a2 a3 a4 a5 a6 a7 a8 a9 a10 a11 hz0 hz1 hz2 hz3
  obtain ⟨⟨a0, a1, a2⟩, ⟨a3, a4, a5⟩, ⟨a6, a7, a8⟩, ⟨a9, a10, a11⟩, hz0, hz1, hz2, hz3⟩ := M2.facts
  have d6 : decide ((40 : Int) < (n6 : Int)) = false := decide_eq_false (by omega)
  have HP := Lib.hid (statePod_any t.pods id A5 n5 c5 (.int .i64 t.preempts) (.int .i64 t.shifts) w2 HN5.out (by omega) (at5.out _ M2.below))
  go_wp2_with fail
  refine HP.out.mono ?_
  rintro e w3 ⟨hh, hb3⟩
  obtain ⟨q, b, rfl, hq⟩ : ∃ (q : PodD) (b : Bool), e = .returned (.tuple #[aggP q, .bool b]) ∧ ((b = false ∧ place PodD.id id t.pods 0 < 0 ∧ q = noPod) ∨ (b = true ∧ ∃ (i : Nat) (hi : i < t.pods.length), place PodD.id id t.pods 0 = i ∧ q = t.pods[i])) := by
    rcases hh with ⟨hp, rfl⟩ | ⟨i, hi, hp, rfl⟩
    · exact ⟨noPod, false, rfl, .inl ⟨rfl, hp, rfl⟩⟩
    · exact ⟨_, true, rfl, .inr ⟨rfl, i, hi, hp, rfl⟩⟩
  have HQ := Lib.hid hq
  have M3 := (M2.keep hb3).alloc (.cells #[.int .i64 q.id, .int .i64 q.load, .int .i64 q.prio, .int .u64 q.req.a, .int .u64 q.req.b, .int .u64 q.req.c, .int .u64 q.req.d, .int .i64 q.node] 38)
  clear hq hh HP d6 a0 a1 a2 a3 a4 a5 a6 a7 a8 a9 a10 a11 hz0 hz1 hz2 hz3
  obtain ⟨⟨a0, a1, a2⟩, ⟨a3, a4, a5⟩, ⟨a6, a7, a8⟩, ⟨a9, a10, a11⟩, hz0, hz1, hz2, hz3⟩ := (M2.keep hb3).facts
  have HR := Lib.hid (rPlace05_any t.pods id A5 n5 c5 w.heap.size (.int .i64 t.preempts) (.int .i64 t.shifts) (w3.alloc (.cells #[.int .i64 q.id, .int .i64 q.load, .int .i64 q.prio, .int .u64 q.req.a, .int .u64 q.req.b, .int .u64 q.req.c, .int .u64 q.req.d, .int .i64 q.node] 38)) HN5.out (by omega) M3.below.size (HR5.out.below M3.below (Nat.le_refl _)))
  go_wp2_with fail
  refine HR.out.mono ?_
  rintro e w4 ⟨rfl, hb4⟩
  have M4 := M3.keep hb4
  have p0 : w4.cell? ⟨w3.heap.size, 0, none⟩ = some (.int .i64 q.id) := (hb4.cell (p := ⟨w3.heap.size, 0, none⟩) (by simp)).trans (by simp)
  have p1 : w4.cell? ⟨w3.heap.size, 1, none⟩ = some (.int .i64 q.load) := (hb4.cell (p := ⟨w3.heap.size, 1, none⟩) (by simp)).trans (by simp)
  have p2 : w4.cell? ⟨w3.heap.size, 2, none⟩ = some (.int .i64 q.prio) := (hb4.cell (p := ⟨w3.heap.size, 2, none⟩) (by simp)).trans (by simp)
  have p3 : w4.cell? ⟨w3.heap.size, 3, none⟩ = some (.int .u64 q.req.a) := (hb4.cell (p := ⟨w3.heap.size, 3, none⟩) (by simp)).trans (by simp)
  have p4 : w4.cell? ⟨w3.heap.size, 4, none⟩ = some (.int .u64 q.req.b) := (hb4.cell (p := ⟨w3.heap.size, 4, none⟩) (by simp)).trans (by simp)
  have p5 : w4.cell? ⟨w3.heap.size, 5, none⟩ = some (.int .u64 q.req.c) := (hb4.cell (p := ⟨w3.heap.size, 5, none⟩) (by simp)).trans (by simp)
  have p6 : w4.cell? ⟨w3.heap.size, 6, none⟩ = some (.int .u64 q.req.d) := (hb4.cell (p := ⟨w3.heap.size, 6, none⟩) (by simp)).trans (by simp)
  have p7 : w4.cell? ⟨w3.heap.size, 7, none⟩ = some (.int .i64 q.node) := (hb4.cell (p := ⟨w3.heap.size, 7, none⟩) (by simp)).trans (by simp)
  have hzp : w3.heap.size < w4.heap.size := by have := hb4.size; simp at this; omega
  clear HR hb4 hb3 M3 a0 a1 a2 a3 a4 a5 a6 a7 a8 a9 a10 a11 hz0 hz1 hz2 hz3 M2
  obtain ⟨⟨a0, a1, a2⟩, ⟨a3, a4, a5⟩, ⟨a6, a7, a8⟩, ⟨a9, a10, a11⟩, hz0, hz1, hz2, hz3⟩ := M4.facts
  generalize hpl : place PodD.id id t.pods 0 = pl at *
  have HPL := Lib.hid hpl
  clear hpl
  go_wp2
  rcases HQ.out with ⟨hbe, h0, he⟩ | ⟨hbe, i, hi, h0, he⟩
  · have hns : ∀ v, (binOp .neq 38 zeroP zeroP).run Try.prog v = .ok (.bool false) v := fun v => pod_is_self noPod v
    have d0 : decide (0 ≤ pl) = false := decide_eq_false (by omega)
    subst hbe he
    have q0 : w4.cell? ⟨w3.heap.size, 0, none⟩ = some (.int .i64 0) := p0
    have q1 : w4.cell? ⟨w3.heap.size, 1, none⟩ = some (.int .i64 0) := p1
    have q2 : w4.cell? ⟨w3.heap.size, 2, none⟩ = some (.int .i64 0) := p2
    have q3 : w4.cell? ⟨w3.heap.size, 3, none⟩ = some (.int .u64 0) := p3
    have q4 : w4.cell? ⟨w3.heap.size, 4, none⟩ = some (.int .u64 0) := p4
    have q5 : w4.cell? ⟨w3.heap.size, 5, none⟩ = some (.int .u64 0) := p5
    have q6 : w4.cell? ⟨w3.heap.size, 6, none⟩ = some (.int .u64 0) := p6
    have q7 : w4.cell? ⟨w3.heap.size, 7, none⟩ = some (.int .i64 0) := p7
    clear h0 p0 p1 p2 p3 p4 p5 p6 p7
    go_quiet (fail)
    go_wp2
    have M5 := M4.keep (below_drewn (Below.refl _ _) nq)
    clear M4 a0 a1 a2 a3 a4 a5 a6 a7 a8 a9 a10 a11 hz0 hz1 hz2 hz3 q0 q1 q2 q3 q4 q5 q6 q7 hns d0 hzp
    generalize w4.drewN nq = W at *
    obtain ⟨⟨a0, a1, a2⟩, ⟨a3, a4, a5⟩, ⟨a6, a7, a8⟩, ⟨a9, a10, a11⟩, hz0, hz1, hz2, hz3⟩ := M5.facts
    have KW := Lib.hid (fun (v : World) (hv : Keeps W v) => M5.below.trans (hv.2.mono M5.below.size))
    have KM := Lib.hid M5.below
    clear M5
    have HF : Hid (∀ v : World, Keeps W v → Calls Try.prog 9 #[.agg #[.slice A1 n1 c1, .slice A2 n2 c2, .slice A3 n3 c3]] v fun e w' => ∃ A' c', e = .returned (.agg #[.slice A' n3 c', .int .i64 0, .int .i64 0]) ∧ Out 8 cellsP w' s.pods A' c' ∧ Below v.heap.size v w') :=
      fun v hv => stateFirst_any s.pods A3 n3 c3 _ _ v HN3.out (by omega) H03.out (at3.out _ (KW.out v hv))
    have HG : Hid (∀ v : World, Keeps W v → Calls Try.prog 10 #[.agg #[.slice A1 n1 c1, .slice A2 n2 c2, .slice A3 n3 c3]] v fun e w' => ∃ A' c', e = .returned (.agg #[.slice A' n3 c', .int .i64 0, .int .i64 0]) ∧ Out 8 cellsP w' s.pods A' c' ∧ Below v.heap.size v w') :=
      fun v hv => rFirst05_any s.pods A3 n3 c3 _ _ v HN3.out (by omega) H03.out (at3.out _ (KW.out v hv))
    have HRF : Hid (∀ (v : World) (A' B' : Option Addr) (c' d' : Nat), Out 8 cellsP v s.pods A' c' → Out 8 cellsP v s.pods B' d' → Calls Try.prog 8 #[.agg #[.slice A' n3 c', .int .i64 0, .int .i64 0], .agg #[.slice B' n3 d', .int .i64 0, .int .i64 0]] v fun e w' => e = .returned (.bool true) ∧ Below v.heap.size v w') :=
      fun v A' B' c' d' ho hp => (rSame05_any ⟨s.pods, 0, 0⟩ ⟨s.pods, 0, 0⟩ A' B' n3 c' n3 d' v HN3.out (by omega) HN3.out (by omega) ho.recs hp.recs).mono fun e w' h => ⟨by rw [h.1, stateEq_self], h.2⟩
    generalize hqq : stateEq t u = q9 at *
    have HSU : Hid (∀ v : World, Keeps W v → Calls Try.prog 11 #[.agg #[.slice A5 n5 c5, .int .i64 t.preempts, .int .i64 t.shifts], .agg #[.slice A6 n6 c6, .int .i64 u.preempts, .int .i64 u.shifts]] v fun e w' => e = .returned (.bool q9) ∧ Below v.heap.size v w') :=
      fun v hv => (stateSame_any t u A5 A6 n5 c5 n6 c6 v HN5.out (by omega) HN6.out (by omega) (at5.out _ (KW.out v hv)) (at6.out _ (KW.out v hv))).mono fun e w' h => ⟨by rw [h.1, hqq], h.2⟩
    have HRU : Hid (∀ v : World, Keeps W v → Calls Try.prog 8 #[.agg #[.slice A5 n5 c5, .int .i64 t.preempts, .int .i64 t.shifts], .agg #[.slice A6 n6 c6, .int .i64 u.preempts, .int .i64 u.shifts]] v fun e w' => e = .returned (.bool q9) ∧ Below v.heap.size v w') :=
      fun v hv => (rSame05_any t u A5 A6 n5 c5 n6 c6 v HN5.out (by omega) HN6.out (by omega) (at5.out _ (KW.out v hv)) (at6.out _ (KW.out v hv))).mono fun e w' h => ⟨by rw [h.1, hqq], h.2⟩
    have HST : Hid (∀ v : World, Keeps W v → Calls Try.prog 11 #[.agg #[.slice A5 n5 c5, .int .i64 t.preempts, .int .i64 t.shifts], .agg #[.slice A5 n5 c5, .int .i64 t.preempts, .int .i64 t.shifts]] v fun e w' => e = .returned (.bool true) ∧ Below v.heap.size v w') :=
      fun v hv => (stateSame_any t t A5 A5 n5 c5 n5 c5 v HN5.out (by omega) HN5.out (by omega) (at5.out _ (KW.out v hv)) (at5.out _ (KW.out v hv))).mono fun e w' h => ⟨by rw [h.1, stateEq_self], h.2⟩
    generalize hgg : goalD x.wants t.pods = g9 at *
    have HGO : Hid (∀ v : World, Keeps W v → Calls Try.prog 12 #[.agg #[.slice A4 n4 c4, .int .i64 x.preempts, .int .i64 x.shifts], .agg #[.slice A5 n5 c5, .int .i64 t.preempts, .int .i64 t.shifts]] v fun e w' => e = .returned (.bool g9) ∧ Below v.heap.size v w') :=
      fun v hv => (stateGoal_any x.wants t.pods A4 A5 n4 c4 n5 c5 _ _ _ _ v HN4.out (by omega) HN5.out (by omega) (at4.out _ (KW.out v hv)) (at5.out _ (KW.out v hv))).mono fun e w' h => ⟨by rw [h.1, hgg], h.2⟩
    have HRG : Hid (∀ v : World, Keeps W v → Calls Try.prog 13 #[.agg #[.slice A4 n4 c4, .int .i64 x.preempts, .int .i64 x.shifts], .agg #[.slice A5 n5 c5, .int .i64 t.preempts, .int .i64 t.shifts]] v fun e w' => e = .returned (.bool g9) ∧ Below v.heap.size v w') :=
      fun v hv => (rGoal05_any x.wants t.pods A4 A5 n4 c4 n5 c5 _ _ _ _ v HN4.out (by omega) HN5.out (by omega) (at4.out _ (KW.out v hv)) (at5.out _ (KW.out v hv))).mono fun e w' h => ⟨by rw [h.1, hgg], h.2⟩
    clear hqq hgg KW
    have hund : undef = Value.tuple #[] := rfl
    refine wp_region_noPanic ?_
    (first
      | (go_region_held_law (fun w' => (∀ b o, b < W.heap.size → w'.cell? ⟨b, o, none⟩ = W.cell? ⟨b, o, none⟩) ∧ Below W.heap.size W w')
      (first | (with_reducible assumption) | (show Keeps W _; with_reducible (repeat (first | exact Keeps.refl _ | refine Keeps.drew ?_ | refine Keeps.alloc ?_ _ | refine Keeps.step ?_ (by assumption)))))
      (first
        | (go_at_call 9; refine (HF.out _ (by assumption)).mono ?_; rintro e wf ⟨A', c', rfl, ho, hbf⟩)
        | (go_at_call 10; refine (HG.out _ (by assumption)).mono ?_; rintro e wg ⟨B', d', rfl, hp, hbg⟩)
        | (go_at_call 8; with_reducible refine (HRF.out _ A' B' c' d' (out_later ho hbg) hp).mono ?_; rintro e wh ⟨rfl, hbh⟩)
        | (go_at_call 8; have hkp : Keeps W _ := (by assumption); with_reducible refine (HRU.out _ hkp).mono ?_; rintro e wh ⟨rfl, hbh⟩)
        | (go_at_call 11; have hkp : Keeps W _ := (by assumption); with_reducible refine (HSU.out _ hkp).mono ?_; rintro e wh ⟨rfl, hbh⟩)
        | (go_at_call 11; have hkp : Keeps W _ := (by assumption); with_reducible refine (HST.out _ hkp).mono ?_; rintro e wh ⟨rfl, hbh⟩)
        | (go_at_call 12; refine (HGO.out _ (by assumption)).mono ?_; rintro e wh ⟨rfl, hbh⟩)
        | (go_at_call 13; refine (HRG.out _ (by assumption)).mono ?_; rintro e wh ⟨rfl, hbh⟩)))
      | fail "held")
    refine NoPanic.normal ?_
    rename_i hK
    have kF := KM.out.trans (hK.2.mono KM.out.size)
    clear hK
    go_wp2
    go_ret
    exact ⟨rfl, kF⟩
  · have HZ := Lib.hid h0
    subst hbe
    have hpi : pl = (i : Int) := by omega
    subst hpi
    obtain ⟨bp, op, hA5, hbp, hep⟩ := HR5.out.at hi
    subst hA5
    have hin : i < n5 := by have := HN5.out; omega
    have hbp4 : bp < w4.heap.size := Nat.lt_of_lt_of_le hbp M4.below.size
    have e0 : w4.cell? ⟨bp, op + i * 8, none⟩ = some (.int .i64 q.id) := (M4.below.cell (p := ⟨bp, op + i * 8, none⟩) hbp).trans (hep 0 _ (by rw [← he]; rfl))
    have e1 : w4.cell? ⟨bp, op + i * 8 + 1, none⟩ = some (.int .i64 q.load) := (M4.below.cell (p := ⟨bp, op + i * 8 + 1, none⟩) hbp).trans (hep 1 _ (by rw [← he]; rfl))
    have e2 : w4.cell? ⟨bp, op + i * 8 + 2, none⟩ = some (.int .i64 q.prio) := (M4.below.cell (p := ⟨bp, op + i * 8 + 2, none⟩) hbp).trans (hep 2 _ (by rw [← he]; rfl))
    have e3 : w4.cell? ⟨bp, op + i * 8 + 3, none⟩ = some (.int .u64 q.req.a) := (M4.below.cell (p := ⟨bp, op + i * 8 + 3, none⟩) hbp).trans (hep 3 _ (by rw [← he]; rfl))
    have e4 : w4.cell? ⟨bp, op + i * 8 + 4, none⟩ = some (.int .u64 q.req.b) := (M4.below.cell (p := ⟨bp, op + i * 8 + 4, none⟩) hbp).trans (hep 4 _ (by rw [← he]; rfl))
    have e5 : w4.cell? ⟨bp, op + i * 8 + 5, none⟩ = some (.int .u64 q.req.c) := (M4.below.cell (p := ⟨bp, op + i * 8 + 5, none⟩) hbp).trans (hep 5 _ (by rw [← he]; rfl))
    have e6 : w4.cell? ⟨bp, op + i * 8 + 6, none⟩ = some (.int .u64 q.req.d) := (M4.below.cell (p := ⟨bp, op + i * 8 + 6, none⟩) hbp).trans (hep 6 _ (by rw [← he]; rfl))
    have e7 : w4.cell? ⟨bp, op + i * 8 + 7, none⟩ = some (.int .i64 q.node) := (M4.below.cell (p := ⟨bp, op + i * 8 + 7, none⟩) hbp).trans (hep 7 _ (by rw [← he]; rfl))
    have hns := fun v => pod_is_self q v
    have d0 : decide ((0 : Int) ≤ (i : Int)) = true := decide_eq_true (by omega)
    have hi0 : (0 : Int) ≤ (i : Int) := by omega
    have hi1 : (i : Int) < (n5 : Int) := by omega
    clear h0 he hep
    go_quiet (fail)
    go_wp2
    have M5 := M4.keep (below_drewn (Below.refl _ _) nq)
    clear M4 a0 a1 a2 a3 a4 a5 a6 a7 a8 a9 a10 a11 hz0 hz1 hz2 hz3 p0 p1 p2 p3 p4 p5 p6 p7 e0 e1 e2 e3 e4 e5 e6 e7 hns d0 hzp hbp4 hi0 hi1
    generalize w4.drewN nq = W at *
    obtain ⟨⟨a0, a1, a2⟩, ⟨a3, a4, a5⟩, ⟨a6, a7, a8⟩, ⟨a9, a10, a11⟩, hz0, hz1, hz2, hz3⟩ := M5.facts
    have KW := Lib.hid (fun (v : World) (hv : Keeps W v) => M5.below.trans (hv.2.mono M5.below.size))
    have KM := Lib.hid M5.below
    clear M5
    have HF : Hid (∀ v : World, Keeps W v → Calls Try.prog 9 #[.agg #[.slice A1 n1 c1, .slice A2 n2 c2, .slice A3 n3 c3]] v fun e w' => ∃ A' c', e = .returned (.agg #[.slice A' n3 c', .int .i64 0, .int .i64 0]) ∧ Out 8 cellsP w' s.pods A' c' ∧ Below v.heap.size v w') :=
      fun v hv => stateFirst_any s.pods A3 n3 c3 _ _ v HN3.out (by omega) H03.out (at3.out _ (KW.out v hv))
    have HG : Hid (∀ v : World, Keeps W v → Calls Try.prog 10 #[.agg #[.slice A1 n1 c1, .slice A2 n2 c2, .slice A3 n3 c3]] v fun e w' => ∃ A' c', e = .returned (.agg #[.slice A' n3 c', .int .i64 0, .int .i64 0]) ∧ Out 8 cellsP w' s.pods A' c' ∧ Below v.heap.size v w') :=
      fun v hv => rFirst05_any s.pods A3 n3 c3 _ _ v HN3.out (by omega) H03.out (at3.out _ (KW.out v hv))
    have HRF : Hid (∀ (v : World) (A' B' : Option Addr) (c' d' : Nat), Out 8 cellsP v s.pods A' c' → Out 8 cellsP v s.pods B' d' → Calls Try.prog 8 #[.agg #[.slice A' n3 c', .int .i64 0, .int .i64 0], .agg #[.slice B' n3 d', .int .i64 0, .int .i64 0]] v fun e w' => e = .returned (.bool true) ∧ Below v.heap.size v w') :=
      fun v A' B' c' d' ho hp => (rSame05_any ⟨s.pods, 0, 0⟩ ⟨s.pods, 0, 0⟩ A' B' n3 c' n3 d' v HN3.out (by omega) HN3.out (by omega) ho.recs hp.recs).mono fun e w' h => ⟨by rw [h.1, stateEq_self], h.2⟩
    generalize hqq : stateEq t u = q9 at *
    have HSU : Hid (∀ v : World, Keeps W v → Calls Try.prog 11 #[.agg #[.slice (some ⟨bp, op, none⟩) n5 c5, .int .i64 t.preempts, .int .i64 t.shifts], .agg #[.slice A6 n6 c6, .int .i64 u.preempts, .int .i64 u.shifts]] v fun e w' => e = .returned (.bool q9) ∧ Below v.heap.size v w') :=
      fun v hv => (stateSame_any t u (some ⟨bp, op, none⟩) A6 n5 c5 n6 c6 v HN5.out (by omega) HN6.out (by omega) (at5.out _ (KW.out v hv)) (at6.out _ (KW.out v hv))).mono fun e w' h => ⟨by rw [h.1, hqq], h.2⟩
    have HRU : Hid (∀ v : World, Keeps W v → Calls Try.prog 8 #[.agg #[.slice (some ⟨bp, op, none⟩) n5 c5, .int .i64 t.preempts, .int .i64 t.shifts], .agg #[.slice A6 n6 c6, .int .i64 u.preempts, .int .i64 u.shifts]] v fun e w' => e = .returned (.bool q9) ∧ Below v.heap.size v w') :=
      fun v hv => (rSame05_any t u (some ⟨bp, op, none⟩) A6 n5 c5 n6 c6 v HN5.out (by omega) HN6.out (by omega) (at5.out _ (KW.out v hv)) (at6.out _ (KW.out v hv))).mono fun e w' h => ⟨by rw [h.1, hqq], h.2⟩
    have HST : Hid (∀ v : World, Keeps W v → Calls Try.prog 11 #[.agg #[.slice (some ⟨bp, op, none⟩) n5 c5, .int .i64 t.preempts, .int .i64 t.shifts], .agg #[.slice (some ⟨bp, op, none⟩) n5 c5, .int .i64 t.preempts, .int .i64 t.shifts]] v fun e w' => e = .returned (.bool true) ∧ Below v.heap.size v w') :=
      fun v hv => (stateSame_any t t (some ⟨bp, op, none⟩) (some ⟨bp, op, none⟩) n5 c5 n5 c5 v HN5.out (by omega) HN5.out (by omega) (at5.out _ (KW.out v hv)) (at5.out _ (KW.out v hv))).mono fun e w' h => ⟨by rw [h.1, stateEq_self], h.2⟩
    generalize hgg : goalD x.wants t.pods = g9 at *
    have HGO : Hid (∀ v : World, Keeps W v → Calls Try.prog 12 #[.agg #[.slice A4 n4 c4, .int .i64 x.preempts, .int .i64 x.shifts], .agg #[.slice (some ⟨bp, op, none⟩) n5 c5, .int .i64 t.preempts, .int .i64 t.shifts]] v fun e w' => e = .returned (.bool g9) ∧ Below v.heap.size v w') :=
      fun v hv => (stateGoal_any x.wants t.pods A4 (some ⟨bp, op, none⟩) n4 c4 n5 c5 _ _ _ _ v HN4.out (by omega) HN5.out (by omega) (at4.out _ (KW.out v hv)) (at5.out _ (KW.out v hv))).mono fun e w' h => ⟨by rw [h.1, hgg], h.2⟩
    have HRG : Hid (∀ v : World, Keeps W v → Calls Try.prog 13 #[.agg #[.slice A4 n4 c4, .int .i64 x.preempts, .int .i64 x.shifts], .agg #[.slice (some ⟨bp, op, none⟩) n5 c5, .int .i64 t.preempts, .int .i64 t.shifts]] v fun e w' => e = .returned (.bool g9) ∧ Below v.heap.size v w') :=
      fun v hv => (rGoal05_any x.wants t.pods A4 (some ⟨bp, op, none⟩) n4 c4 n5 c5 _ _ _ _ v HN4.out (by omega) HN5.out (by omega) (at4.out _ (KW.out v hv)) (at5.out _ (KW.out v hv))).mono fun e w' h => ⟨by rw [h.1, hgg], h.2⟩
    clear hqq hgg KW
    have hund : undef = Value.tuple #[] := rfl
    refine wp_region_noPanic ?_
    (first
      | (go_region_held_law (fun w' => (∀ b o, b < W.heap.size → w'.cell? ⟨b, o, none⟩ = W.cell? ⟨b, o, none⟩) ∧ Below W.heap.size W w')
      (first | (with_reducible assumption) | (show Keeps W _; with_reducible (repeat (first | exact Keeps.refl _ | refine Keeps.drew ?_ | refine Keeps.alloc ?_ _ | refine Keeps.step ?_ (by assumption)))))
      (first
        | (go_at_call 9; refine (HF.out _ (by assumption)).mono ?_; rintro e wf ⟨A', c', rfl, ho, hbf⟩)
        | (go_at_call 10; refine (HG.out _ (by assumption)).mono ?_; rintro e wg ⟨B', d', rfl, hp, hbg⟩)
        | (go_at_call 8; with_reducible refine (HRF.out _ A' B' c' d' (out_later ho hbg) hp).mono ?_; rintro e wh ⟨rfl, hbh⟩)
        | (go_at_call 8; have hkp : Keeps W _ := (by assumption); with_reducible refine (HRU.out _ hkp).mono ?_; rintro e wh ⟨rfl, hbh⟩)
        | (go_at_call 11; have hkp : Keeps W _ := (by assumption); with_reducible refine (HSU.out _ hkp).mono ?_; rintro e wh ⟨rfl, hbh⟩)
        | (go_at_call 11; have hkp : Keeps W _ := (by assumption); with_reducible refine (HST.out _ hkp).mono ?_; rintro e wh ⟨rfl, hbh⟩)
        | (go_at_call 12; refine (HGO.out _ (by assumption)).mono ?_; rintro e wh ⟨rfl, hbh⟩)
        | (go_at_call 13; refine (HRG.out _ (by assumption)).mono ?_; rintro e wh ⟨rfl, hbh⟩)))
      | fail "held")
    refine NoPanic.normal ?_
    rename_i hK
    have kF := KM.out.trans (hK.2.mono KM.out.size)
    clear hK
    go_wp2
    go_ret
    exact ⟨rfl, kF⟩
end Go.Proofs.Ythmddkelfnfhkaa
