/- Joined texts, part 6: UJ EM YA WM VecA VecB VecC VecD. -/
import Derived.Test.YtmcpjebcffgboaaDoorZ05
import Derived.Lib.SlicesCompact
import Derived.Test.YtmcpjebcffgboaaDoorZ01
import Derived.Lib.Slices
import Derived.Test.YtmcpjebcffgboaaDoorRows
import Derived.WalkKit
import Derived.WalkSpells
import Derived.WalkLawsBesides
import Derived.Laws.Externs
import Derived.Shelf.Spec.BitsCarry
import Derived.Lib.Hide
import Derived.Deep.QuietTactic
import Derived.BigQuiet

/- What a move comes to: the program's Make of layer 5. -/
namespace Go.Proofs.YtmcpjebcffgboaaDoor
set_option linter.unusedSimpArgs false
open Go.RowKit
set_option linter.unusedVariables false

/-- What a move comes to: the state, and an error's number. -/
def noState : StateD := ⟨[], 0, 0⟩
def makeD (nodes : List NodeD) (x : List WantD) (t : StateD) (m : MoveD) : StateD × Int :=
  if wellD m = false then (noState, 1) else if hereD nodes t.pods m = false then (noState, 4) else if canD t.pods m = false then (noState, 7) else (behindD x t m, 0)
def codeV (c : Int) : Value := if c = 0 then .nilIface else .iface 59 (.int .i64 c)
theorem well_kinds {m : MoveD} (h : wellD m = true) : m.kind = 1 ∨ m.kind = 2 ∨ m.kind = 3 ∨ m.kind = 4 := by
  unfold wellD at h
  split at h
  · omega
  · split at h
    · omega
    · have : m.kind = 4 := by simpa using h
      omega
theorem here_pod {nodes : List NodeD} {l : List PodD} {m : MoveD} (h : hereD nodes l m = true) : ¬ place PodD.id m.pod l 0 < 0 := by
  intro e
  simp [hereD, e] at h
theorem here_over {nodes : List NodeD} {l : List PodD} {m : MoveD} (h : hereD nodes l m = true) (hc : canD l m = true) : m.kind = 4 → ¬ place PodD.id m.over l 0 < 0 ∧ m.over ≠ m.pod := by
  intro h4
  constructor
  · intro e
    simp [hereD, e, h4] at h
  · intro e
    simp [canD, h4, e] at hc
/-- What stands while Make is at work. -/
structure Mk (snap spec state move : List Value) (w V : World) : Prop where
  snap : Bf V w.heap.size snap
  spec : Bf V (w.heap.size + 1) spec
  state : Bf V (w.heap.size + 2) state
  move : Bf V (w.heap.size + 3) move
  res : Bf V (w.heap.size + 4) [.slice none 0 0, .int .i64 0, .int .i64 0]
  below : Below w.heap.size w V
section
variable {a b c d : List Value} {w V V' : World}
theorem Mk.keep (h : Mk a b c d w V) (hb : Below V.heap.size V V') : Mk a b c d w V' :=
  ⟨h.snap.below hb h.snap.lt, h.spec.below hb h.spec.lt, h.state.below hb h.state.lt, h.move.below hb h.move.lt, h.res.below hb h.res.lt, h.below.trans (hb.mono h.below.size)⟩
theorem Mk.new (w : World) (a b c d : List Value) (t1 t2 t3 t4 t5 : TypeId) : Mk a b c d w (((((w.alloc (.cells a.toArray t1)).alloc (.cells b.toArray t2)).alloc (.cells c.toArray t3)).alloc (.cells d.toArray t4)).alloc (.cells #[.slice none 0 0, .int .i64 0, .int .i64 0] t5)) :=
  ⟨((((Bf.new w a t1 rfl).alloc _).alloc _).alloc _).alloc _, (((Bf.new (w.alloc (.cells a.toArray t1)) b t2 (b := w.heap.size + 1) (by simp)).alloc _).alloc _).alloc _,
    ((Bf.new ((w.alloc (.cells a.toArray t1)).alloc (.cells b.toArray t2)) c t3 (b := w.heap.size + 2) (by simp)).alloc _).alloc _, (Bf.new (((w.alloc (.cells a.toArray t1)).alloc (.cells b.toArray t2)).alloc (.cells c.toArray t3)) d t4 (b := w.heap.size + 3) (by simp)).alloc _,
    Bf.new ((((w.alloc (.cells a.toArray t1)).alloc (.cells b.toArray t2)).alloc (.cells c.toArray t3)).alloc (.cells d.toArray t4)) [.slice none 0 0, .int .i64 0, .int .i64 0] t5 (b := w.heap.size + 4) (by simp),
    (below_four w _ _ _ _).alloc (by simp; omega) _⟩
theorem Mk.facts {a0 a1 a2 b0 b1 b2 c0 c1 c2 d0 d1 d2 d3 : Value} (h : Mk [a0, a1, a2] [b0, b1, b2] [c0, c1, c2] [d0, d1, d2, d3] w V) :
    (V.cell? ⟨w.heap.size, 0, none⟩ = some a0 ∧ V.cell? ⟨w.heap.size, 1, none⟩ = some a1 ∧ V.cell? ⟨w.heap.size, 2, none⟩ = some a2) ∧
    (V.cell? ⟨w.heap.size + 1, 0, none⟩ = some b0 ∧ V.cell? ⟨w.heap.size + 1, 1, none⟩ = some b1 ∧ V.cell? ⟨w.heap.size + 1, 2, none⟩ = some b2) ∧
    (V.cell? ⟨w.heap.size + 2, 0, none⟩ = some c0 ∧ V.cell? ⟨w.heap.size + 2, 1, none⟩ = some c1 ∧ V.cell? ⟨w.heap.size + 2, 2, none⟩ = some c2) ∧
    (V.cell? ⟨w.heap.size + 3, 0, none⟩ = some d0 ∧ V.cell? ⟨w.heap.size + 3, 1, none⟩ = some d1 ∧ V.cell? ⟨w.heap.size + 3, 2, none⟩ = some d2 ∧ V.cell? ⟨w.heap.size + 3, 3, none⟩ = some d3) :=
  ⟨⟨h.snap.cell 0 _ rfl, h.snap.cell 1 _ rfl, h.snap.cell 2 _ rfl⟩, ⟨h.spec.cell 0 _ rfl, h.spec.cell 1 _ rfl, h.spec.cell 2 _ rfl⟩, ⟨h.state.cell 0 _ rfl, h.state.cell 1 _ rfl, h.state.cell 2 _ rfl⟩, ⟨h.move.cell 0 _ rfl, h.move.cell 1 _ rfl, h.move.cell 2 _ rfl, h.move.cell 3 _ rfl⟩⟩
theorem Mk.facts2 (h : Mk a b c d w V) :
    (V.cell? ⟨w.heap.size + 4, 0, none⟩ = some (.slice none 0 0) ∧ V.cell? ⟨w.heap.size + 4, 1, none⟩ = some (.int .i64 0) ∧ V.cell? ⟨w.heap.size + 4, 2, none⟩ = some (.int .i64 0)) ∧
    (V.frozen? ⟨w.heap.size + 4, 0, none⟩ = false ∧ V.frozen? ⟨w.heap.size + 4, 1, none⟩ = false ∧ V.frozen? ⟨w.heap.size + 4, 2, none⟩ = false) ∧ w.heap.size + 4 < V.heap.size :=
  ⟨⟨h.res.cell 0 _ rfl, h.res.cell 1 _ rfl, h.res.cell 2 _ rfl⟩, ⟨h.res.frozen 0, h.res.frozen 1, h.res.frozen 2⟩, h.res.lt⟩
theorem Mk.no (h : Mk a b c d w V) {x y z : Value} : StateTo noState w (stateV none 0 0 0 0) (((V.setCell ⟨w.heap.size + 4, 0, none⟩ x).setCell ⟨w.heap.size + 4, 1, none⟩ y).setCell ⟨w.heap.size + 4, 2, none⟩ z) :=
  ⟨none, 0, rfl, Out.nil rfl, (by intro a e; cases e), ((h.below.setCell (by simp) _).setCell (by simp) _).setCell (by simp) _⟩
end
theorem Out.set {l : List PodD} {w : World} {A : Option Addr} {c : Nat} (h : Out 8 cellsP w l A c) {p : Addr} (hp : ∀ a, A = some a → a.block ≠ p.block) (v : Value) : Out 8 cellsP (w.setCell p v) l A c := by
  refine ⟨h.1, h.2.1, h.2.2.1, ?_⟩
  rcases h.2.2.2 with h0 | ⟨b, o, e, hb, hc⟩
  · exact .inl h0
  · refine .inr ⟨b, o, e, by simpa using hb, fun i hi j u hu => ?_⟩
    have := hp _ e
    rw [World.cell?_setCell_other _ _ _ _ (by intro e'; rw [e'] at this; exact this rfl)]
    exact hc i hi j u hu
set_option maxHeartbeats 6400000 in
set_option maxRecDepth 100000 in
theorem make_any (nodes : List NodeD) (x : List WantD) (t : StateD) (m : MoveD) (A1 A2 A3 A A4 : Option Addr) (n1 c1 n2 c2 n3 c3 n c n4 c4 : Nat) (v1 v2 : Value) (w : World)
    (hn1 : n1 = nodes.length) (hl1 : n1 ≤ 1000) (hr1 : Recs 10 cellsN w w.heap.size A1 nodes) (hn : n = x.length) (hl : n ≤ 1000) (hr : Recs 6 cellsW w w.heap.size A x) (hn4 : n4 = t.pods.length) (hl4 : n4 ≤ 1000) (h04 : A4 = none → c4 = 0) (hr4 : Recs 8 cellsP w w.heap.size A4 t.pods) :
    Calls Tryd.prog 11 #[.agg #[.slice A1 n1 c1, .slice A2 n2 c2, .slice A3 n3 c3], .agg #[.slice A n c, v1, v2], stateV A4 n4 c4 t.preempts t.shifts, aggM m] w
      fun e w' => ∃ v, e = .returned (.tuple #[v, codeV (makeD nodes x t m).2]) ∧ StateTo (makeD nodes x t m).1 w v w' := by
  have HR1 := Lib.hid hr1
  have HR := Lib.hid hr
  have HR4 := Lib.hid hr4
  have HN1 := Lib.hid hn1
  have HN := Lib.hid hn
  have HN4 := Lib.hid hn4
  have H04 := Lib.hid h04
  clear hr1 hr hr4 hn1 hn hn4 h04
  have M0 := Mk.new w [.slice A1 n1 c1, .slice A2 n2 c2, .slice A3 n3 c3] [.slice A n c, v1, v2] [.slice A4 n4 c4, .int .i64 t.preempts, .int .i64 t.shifts] [.int .i64 m.kind, .int .i64 m.pod, .int .i64 m.node, .int .i64 m.over] 26 33 28 49 28
  go_enter Tryd.func11, Tryd.ntmps11
  go_wp2_with fail
  refine (stateWell_any m _).mono ?_
  rintro e w1 ⟨rfl, hb1⟩
  have M1 := M0.keep hb1
  clear hb1 M0
  obtain ⟨⟨a0, a1, a2⟩, ⟨a3, a4, a5⟩, ⟨a6, a7, a8⟩, a9, a10, a11, a12⟩ := M1.facts
  obtain ⟨⟨r0, r1, r2⟩, ⟨z0, z1, z2⟩, hz⟩ := M1.facts2
  cases hw : wellD m with
  | false =>
    have HE := Lib.hid (show makeD nodes x t m = (noState, 1) by simp [makeD, hw])
    have HM := Lib.hid M1
    clear M1
    go_wp2
    refine bodyPost_ret (v := .tuple #[stateV none 0 0 0 0, codeV 1]) ?_ rfl ⟨_, by rw [HE.out], ?_⟩
    · simp [results, Tryd.results11, go_sem, codeV, *]
    · rw [HE.out]; exact HM.out.no
  | true =>
    have HT := Lib.hid (allThere_any nodes t.pods m A1 A2 A3 A4 n1 c1 n2 c2 n3 c3 n4 c4 (.int .i64 t.preempts) (.int .i64 t.shifts) w1 HN1.out hl1 HN4.out hl4 ((HR1.out.below M1.below (Nat.le_refl _)).more M1.below.size) ((HR4.out.below M1.below (Nat.le_refl _)).more M1.below.size))
    go_wp2_with fail
    refine HT.out.mono ?_
    rintro e w2 ⟨rfl, hb2⟩
    have M2 := M1.keep hb2
    clear hb2 M1 HT a0 a1 a2 a3 a4 a5 a6 a7 a8 a9 a10 a11 a12 r0 r1 r2 z0 z1 z2 hz
    obtain ⟨⟨a0, a1, a2⟩, ⟨a3, a4, a5⟩, ⟨a6, a7, a8⟩, a9, a10, a11, a12⟩ := M2.facts
    obtain ⟨⟨r0, r1, r2⟩, ⟨z0, z1, z2⟩, hz⟩ := M2.facts2
    cases hh : hereD nodes t.pods m with
    | false =>
      have HE := Lib.hid (show makeD nodes x t m = (noState, 4) by simp [makeD, hw, hh])
      have HM := Lib.hid M2
      clear M2
      go_wp2
      refine bodyPost_ret (v := .tuple #[stateV none 0 0 0 0, codeV 4]) ?_ rfl ⟨_, by rw [HE.out], ?_⟩
      · simp [results, Tryd.results11, go_sem, codeV, *]
      · rw [HE.out]; exact HM.out.no
    | true =>
      have HT := Lib.hid (canBeMade_any t.pods m A4 n4 c4 (.int .i64 t.preempts) (.int .i64 t.shifts) w2 HN4.out hl4 ((HR4.out.below M2.below (Nat.le_refl _)).more M2.below.size))
      go_wp2_with fail
      refine HT.out.mono ?_
      rintro e w3 ⟨rfl, hb3⟩
      have M3 := M2.keep hb3
      clear hb3 M2 HT a0 a1 a2 a3 a4 a5 a6 a7 a8 a9 a10 a11 a12 r0 r1 r2 z0 z1 z2 hz
      obtain ⟨⟨a0, a1, a2⟩, ⟨a3, a4, a5⟩, ⟨a6, a7, a8⟩, a9, a10, a11, a12⟩ := M3.facts
      obtain ⟨⟨r0, r1, r2⟩, ⟨z0, z1, z2⟩, hz⟩ := M3.facts2
      cases hc : canD t.pods m with
      | false =>
        have HE := Lib.hid (show makeD nodes x t m = (noState, 7) by simp [makeD, hw, hh, hc])
        have HM := Lib.hid M3
        clear M3
        go_wp2
        refine bodyPost_ret (v := .tuple #[stateV none 0 0 0 0, codeV 7]) ?_ rfl ⟨_, by rw [HE.out], ?_⟩
        · simp [results, Tryd.results11, go_sem, codeV, *]
        · rw [HE.out]; exact HM.out.no
      | true =>
        have HE := Lib.hid (show makeD nodes x t m = (behindD x t m, 0) by simp [makeD, hw, hh, hc])
        have HT := Lib.hid (behind_any x t m (well_kinds hw) (here_pod hh) (here_over hh hc) A A4 n c n4 c4 v1 v2 w3 HN.out hl ((HR.out.below M3.below (Nat.le_refl _)).more M3.below.size) HN4.out hl4 H04.out ((HR4.out.below M3.below (Nat.le_refl _)).more M3.below.size))
        go_wp2_with fail
        refine HT.out.mono ?_
        rintro e w4 ⟨_, rfl, A5, c5, rfl, ho, hfr, hb4⟩
        have M4 := M3.keep hb4
        have hfr5 : ∀ a, A5 = some a → a.block ≠ w.heap.size + 4 := fun a ha => by have := hfr a ha; omega
        have hfr6 : ∀ a, A5 = some a → w.heap.size ≤ a.block := fun a ha => by have := hfr a ha; omega
        generalize hu : behindD x t m = u at *
        have HM := Lib.hid M4
        have HOU := Lib.hid ho
        have HF5 := Lib.hid (And.intro hfr5 hfr6)
        clear M3 ho hfr hb4 HT hu hfr5 hfr6 a0 a1 a2 a3 a4 a5 a6 a7 a8 a9 a10 a11 a12 r0 r1 r2 z0 z1 z2 hz
        obtain ⟨⟨r0, r1, r2⟩, ⟨z0, z1, z2⟩, hz⟩ := M4.facts2
        clear M4
        go_wp2
        refine bodyPost_ret (v := .tuple #[stateV A5 u.pods.length c5 u.preempts u.shifts, codeV 0]) ?_ rfl ⟨_, by rw [HE.out], ?_⟩
        · simp [results, Tryd.results11, go_sem, codeV, *]
        · rw [HE.out]
          exact ⟨A5, c5, rfl, ((HOU.out.set (p := ⟨w.heap.size + 4, 0, none⟩) HF5.out.1 _).set (p := ⟨w.heap.size + 4, 1, none⟩) HF5.out.1 _).set (p := ⟨w.heap.size + 4, 2, none⟩) HF5.out.1 _, HF5.out.2, ((HM.out.below.setCell (by simp; omega) _).setCell (by simp; omega) _).setCell (by simp; omega) _⟩
end Go.Proofs.YtmcpjebcffgboaaDoor

/- Plain mathematics: a sorted list without its repetitions is the list of all, rising, each once. -/
namespace Go.Proofs.YtmcpjebcffgboaaDoor
set_option linter.unusedSimpArgs false
open Go.Lib

theorem rising_eq : ∀ {a b : List Int}, Rising a → Rising b → (∀ y, y ∈ a ↔ y ∈ b) → a = b
  | [], [], _, _, _ => rfl
  | [], y :: r, _, _, h => by have := (h y).2 (by simp); simp at this
  | x :: r, [], _, _, h => by have := (h x).1 (by simp); simp at this
  | x :: r, y :: t, ha, hb, h => by
    have hxy : x = y := by
      rcases List.mem_cons.1 ((h x).1 (by simp)) with e | e
      · exact e
      · rcases List.mem_cons.1 ((h y).2 (by simp)) with f | f
        · exact f.symm
        · have h1 := hb.1 x e
          have h2 := ha.1 y f
          omega
    subst hxy
    have hr : r = t := rising_eq ha.2 hb.2 fun z => by
      constructor
      · intro hz
        rcases List.mem_cons.1 ((h z).1 (by simp [hz])) with e | e
        · have := ha.1 z hz; omega
        · exact e
      · intro hz
        rcases List.mem_cons.1 ((h z).2 (by simp [hz])) with e | e
        · have := hb.1 z hz; omega
        · exact e
    rw [hr]
theorem rising_snoc {z : Int} : ∀ {l : List Int}, Rising l → (∀ y ∈ l, y < z) → Rising (l ++ [z])
  | [], _, _ => ⟨by simp, trivial⟩
  | x :: r, h, hz => by
    refine ⟨fun y hy => ?_, rising_snoc h.2 fun y hy => hz y (by simp [hy])⟩
    rcases List.mem_append.1 hy with hy | hy
    · exact h.1 y hy
    · rw [List.mem_singleton.1 hy]; exact hz x (by simp)

theorem compact_upTo (d : Array Int) (hs : ∀ i j, i ≤ j → j < d.size → d[i]! ≤ d[j]!) : ∀ m, m ≤ d.size → Rising (compactUpTo d m) ∧ ∀ y, y ∈ compactUpTo d m ↔ ∃ j, j < m ∧ d[j]! = y
  | 0, _ => ⟨by simp [compactUpTo, Rising], fun y => by simp [compactUpTo]⟩
  | m + 1, hm => by
    obtain ⟨h1, h2⟩ := compact_upTo d hs m (by omega)
    rw [compactUpTo_succ]
    by_cases hk : keeps d m = true
    · rw [if_pos hk]
      refine ⟨rising_snoc h1 fun y hy => ?_, fun y => ?_⟩
      · obtain ⟨j, hj, rfl⟩ := (h2 y).1 hy
        have hne : d[m]! ≠ d[m - 1]! := by
          have := hk
          unfold keeps at this
          rcases of_decide_eq_true this with e | e
          · omega
          · exact e
        have a1 := hs j (m - 1) (by omega) (by omega)
        have a2 := hs (m - 1) m (by omega) (by omega)
        omega
      · constructor
        · intro hy
          rcases List.mem_append.1 hy with hy | hy
          · obtain ⟨j, hj, e⟩ := (h2 y).1 hy
            exact ⟨j, by omega, e⟩
          · exact ⟨m, by omega, (List.mem_singleton.1 hy).symm⟩
        · rintro ⟨j, hj, e⟩
          by_cases hjm : j = m
          · subst hjm; simp [e]
          · exact List.mem_append.2 (.inl ((h2 y).2 ⟨j, by omega, e⟩))
    · rw [if_neg hk, List.append_nil]
      refine ⟨h1, fun y => ?_⟩
      have hk' : m ≠ 0 ∧ d[m]! = d[m - 1]! := by
        have e : ¬ (m = 0 ∨ d[m]! ≠ d[m - 1]!) := fun e => hk (by unfold keeps; exact decide_eq_true e)
        refine ⟨fun h => e (.inl h), ?_⟩
        by_cases q : d[m]! = d[m - 1]!
        · exact q
        · exact absurd (.inr q) e
      constructor
      · intro hy
        obtain ⟨j, hj, e⟩ := (h2 y).1 hy
        exact ⟨j, by omega, e⟩
      · rintro ⟨j, hj, e⟩
        by_cases hjm : j = m
        · subst hjm
          exact (h2 y).2 ⟨j - 1, by omega, by rw [← hk'.2]; exact e⟩
        · exact (h2 y).2 ⟨j, by omega, e⟩

theorem compact_sorted (ts : List Int) (hs : ts.Pairwise (· ≤ ·)) : Rising (compact ts) ∧ ∀ y, y ∈ compact ts ↔ y ∈ ts := by
  have hget : ∀ i, ∀ h : i < ts.length, ts.toArray[i]! = ts[i] := fun i h => by simp [h]
  have key := compact_upTo ts.toArray (fun i j hij hj => by
    have hj' : j < ts.length := by simpa using hj
    rw [hget i (by omega), hget j hj']
    by_cases e : i = j
    · subst e; exact Int.le_refl _
    · exact List.pairwise_iff_getElem.1 hs i j (by omega) hj' (by omega)) ts.length (by simp)
  refine ⟨key.1, fun y => (key.2 y).trans ?_⟩
  constructor
  · rintro ⟨j, hj, rfl⟩
    rw [hget j hj]
    exact List.getElem_mem hj
  · intro hy
    obtain ⟨j, hj, rfl⟩ := List.mem_iff_getElem.1 hy
    exact ⟨j, hj, hget j hj⟩
theorem zones_mem (l : List NodeD) : ∀ (acc : List Int) (y : Int), y ∈ l.foldl (fun acc n => insZ n.zone acc) acc ↔ y ∈ l.map NodeD.zone ∨ y ∈ acc := by
  induction l with
  | nil => intro acc y; simp
  | cons n r ih =>
    intro acc y
    simp only [List.foldl_cons, ih, insZ_mem, List.map_cons, List.mem_cons]
    constructor
    · rintro (h | h | h)
      · exact .inl (.inr h)
      · exact .inl (.inl h)
      · exact .inr h
    · rintro ((h | h) | h)
      · exact .inr (.inl h)
      · exact .inl h
      · exact .inr (.inr h)
theorem zones_compact (l : List NodeD) : compact ((l.map NodeD.zone).mergeSort fun x y => decide (x ≤ y)) = zonesOf l := by
  have hs : ((l.map NodeD.zone).mergeSort fun x y => decide (x ≤ y)).Pairwise (· ≤ ·) := by
    have := List.pairwise_mergeSort (le := fun x y : Int => decide (x ≤ y)) (fun a b c h1 h2 => by simp at *; omega) (fun a b => by simp; omega) (l.map NodeD.zone)
    exact this.imp fun h => by simpa using h
  obtain ⟨h1, h2⟩ := compact_sorted _ hs
  refine rising_eq h1 (zones_fold l [] trivial).1 fun y => (h2 y).trans ?_
  rw [List.mem_mergeSort]
  unfold zonesOf
  rw [zones_mem]
  simp
end Go.Proofs.YtmcpjebcffgboaaDoor

/- Plain mathematics of loads over zones. -/
namespace Go.Proofs.YtmcpjebcffgboaaDoor
set_option linter.unusedSimpArgs false
open Go.RowKit
set_option linter.unusedVariables false

/-- The zone that a pod is in. -/
def zoneD (ns : List NodeD) (p : PodD) : Option Int :=
  if p.node = 0 then none else
    if place NodeD.id p.node ns 0 < 0 then none else (ns[(place NodeD.id p.node ns 0).toNat]?).map NodeD.zone
theorem zoneD_nowhere {ns : List NodeD} {p : PodD} (h : p.node = 0) : zoneD ns p = none := by simp [zoneD, h]
theorem zoneD_none {ns : List NodeD} {p : PodD} (h : place NodeD.id p.node ns 0 < 0) : zoneD ns p = none := by simp [zoneD, h]
theorem zoneD_some {ns : List NodeD} {p : PodD} {i : Nat} (h0 : p.node ≠ 0) (hi : i < ns.length) (h : place NodeD.id p.node ns 0 = i) : zoneD ns p = some ns[i].zone := by
  have : ¬ (i : Int) < 0 := by omega
  simp [zoneD, h0, h, this, hi]
def inZ (ns : List NodeD) (load z : Int) (p : PodD) : Bool := p.load == load && zoneD ns p == some z
/-- A load's count in a zone. -/
def countD (ns : List NodeD) (load z : Int) (l : List PodD) : Nat := l.countP (inZ ns load z)
def countsD (ns : List NodeD) (load : Int) (zs : List Int) (l : List PodD) : List Int := zs.map fun z => (countD ns load z l : Int)
theorem counts_len {ns : List NodeD} {load : Int} {zs : List Int} {l : List PodD} : (countsD ns load zs l).length = zs.length := by simp [countsD]
theorem count_le (ns : List NodeD) (load z : Int) (l : List PodD) : countD ns load z l ≤ l.length := List.countP_le_length
theorem count_next {ns : List NodeD} {load z : Int} {l : List PodD} {k : Nat} (h : k < l.length) {p : PodD} (hx : l[k] = p) : countD ns load z (l.take (k + 1)) = countD ns load z (l.take k) + if inZ ns load z p = true then 1 else 0 := by
  unfold countD
  rw [List.take_succ_eq_append_getElem h, hx, List.countP_append]
  simp [List.countP_cons]
theorem counts_zero (ns : List NodeD) (load : Int) (zs : List Int) (l : List PodD) : countsD ns load zs (l.take 0) = List.replicate zs.length 0 := by
  simp [countsD, countD, List.map_const']
theorem counts_skip {ns : List NodeD} {load : Int} {zs : List Int} {l : List PodD} {k : Nat} (h : k < l.length) {p : PodD} (hx : l[k] = p) (hno : ∀ z ∈ zs, inZ ns load z p = false) : countsD ns load zs (l.take (k + 1)) = countsD ns load zs (l.take k) := by
  unfold countsD
  refine List.map_congr_left fun z hz => ?_
  rw [count_next h hx, hno z hz]
  simp
theorem inZ_load {ns : List NodeD} {load z : Int} {p : PodD} (h : p.load ≠ load) : inZ ns load z p = false := by simp [inZ, h]
theorem inZ_none {ns : List NodeD} {load z : Int} {p : PodD} (h : zoneD ns p = none) : inZ ns load z p = false := by simp [inZ, h]
theorem inZ_other {ns : List NodeD} {load z y : Int} {p : PodD} (h : zoneD ns p = some y) (hy : y ≠ z) : inZ ns load z p = false := by simp [inZ, h, hy]
theorem inZ_here {ns : List NodeD} {load z : Int} {p : PodD} (hl : p.load = load) (h : zoneD ns p = some z) : inZ ns load z p = true := by simp [inZ, h, hl]
theorem rising_at {z : Int} : ∀ {zs : List Int}, Rising zs → z ∈ zs → ∃ hi : zs.countP (· < z) < zs.length, zs[zs.countP (· < z)] = z ∧ ∀ j, ∀ hj : j < zs.length, j ≠ zs.countP (· < z) → zs[j] ≠ z
  | [], _, h => by simp at h
  | x :: r, hr, h => by
    by_cases hx : x = z
    · subst hx
      have h0 : r.countP (· < x) = 0 := by
        rw [List.countP_eq_zero]
        intro y hy
        have := hr.1 y hy
        simp; omega
      have e : (x :: r).countP (· < x) = 0 := by simp [List.countP_cons, h0]
      refine ⟨by rw [e]; simp, by simp [e], fun j hj hne => ?_⟩
      rw [e] at hne
      cases j with
      | zero => exact absurd rfl hne
      | succ j =>
        have := hr.1 _ (List.getElem_mem (l := r) (n := j) (by simpa using hj))
        simp only [List.getElem_cons_succ]
        omega
    · have hm : z ∈ r := by
        rcases List.mem_cons.1 h with e | e
        · exact absurd e.symm hx
        · exact e
      obtain ⟨i1, i2, i3⟩ := rising_at hr.2 hm
      have hlt := hr.1 z hm
      have e : (x :: r).countP (· < z) = r.countP (· < z) + 1 := by simp [List.countP_cons, hlt]
      refine ⟨by rw [e]; simpa using i1, by simp only [e, List.getElem_cons_succ]; exact i2, fun j hj hne => ?_⟩
      rw [e] at hne
      cases j with
      | zero => simpa using hx
      | succ j => simp only [List.getElem_cons_succ]; exact i3 j (by simpa using hj) (by omega)
theorem counts_bump {ns : List NodeD} {load z : Int} {zs : List Int} {l : List PodD} {k : Nat} (h : k < l.length) {p : PodD} (hx : l[k] = p) (hl : p.load = load) (hz : zoneD ns p = some z) (hr : Rising zs) (hm : z ∈ zs) :
    zs.countP (· < z) < zs.length ∧ (countsD ns load zs (l.take k))[zs.countP (· < z)]? = some (countD ns load z (l.take k) : Int) ∧ countsD ns load zs (l.take (k + 1)) = (countsD ns load zs (l.take k)).set (zs.countP (· < z)) ((countD ns load z (l.take k) : Int) + 1) := by
  obtain ⟨hi, he, hne⟩ := rising_at hr hm
  refine ⟨hi, ?_, ?_⟩
  · unfold countsD
    rw [List.getElem?_map, List.getElem?_eq_getElem hi, he]
    rfl
  · refine List.ext_getElem (by simp [counts_len]) fun j h1 h2 => ?_
    have hj : j < zs.length := by simpa [counts_len] using h1
    rw [List.getElem_set]
    by_cases e : zs.countP (· < z) = j
    · subst e
      rw [if_pos rfl]
      simp only [countsD, List.getElem_map, he]
      rw [count_next h hx, inZ_here hl hz]
      simp
    · rw [if_neg e]
      simp only [countsD, List.getElem_map]
      rw [count_next h hx, inZ_other hz (fun q => hne j hj (fun w => e w.symm) q.symm)]
      simp
theorem rising_le : ∀ {zs : List Int}, Rising zs → zs.Pairwise (· ≤ ·)
  | [], _ => List.Pairwise.nil
  | x :: r, h => List.Pairwise.cons (fun y hy => by have := h.1 y hy; omega) (rising_le h.2)
theorem rising_nodup : ∀ {zs : List Int}, Rising zs → zs.Nodup
  | [], _ => List.nodup_nil
  | x :: r, h => List.nodup_cons.2 ⟨fun hm => by have := h.1 x hm; omega, rising_nodup h.2⟩

/-! The greatest and the least one. -/
theorem foldl_max : ∀ (r : List Int) (a : Int), a ≤ r.foldl max a ∧ (∀ x ∈ r, x ≤ r.foldl max a) ∧ (r.foldl max a = a ∨ r.foldl max a ∈ r)
  | [], a => ⟨Int.le_refl _, by simp, .inl rfl⟩
  | y :: r, a => by
    obtain ⟨h1, h2, h3⟩ := foldl_max r (max a y)
    refine ⟨by simp only [List.foldl_cons]; omega, fun x hx => ?_, ?_⟩
    · simp only [List.foldl_cons]
      rcases List.mem_cons.1 hx with e | e
      · omega
      · exact h2 x e
    · simp only [List.foldl_cons]
      rcases h3 with e | e
      · rw [e]
        by_cases q : y ≤ a
        · left; omega
        · right; rw [show max a y = y by omega]; simp
      · right; simp [e]
theorem foldl_min : ∀ (r : List Int) (a : Int), r.foldl min a ≤ a ∧ (∀ x ∈ r, r.foldl min a ≤ x) ∧ (r.foldl min a = a ∨ r.foldl min a ∈ r)
  | [], a => ⟨Int.le_refl _, by simp, .inl rfl⟩
  | y :: r, a => by
    obtain ⟨h1, h2, h3⟩ := foldl_min r (min a y)
    refine ⟨by simp only [List.foldl_cons]; omega, fun x hx => ?_, ?_⟩
    · simp only [List.foldl_cons]
      rcases List.mem_cons.1 hx with e | e
      · omega
      · exact h2 x e
    · simp only [List.foldl_cons]
      rcases h3 with e | e
      · rw [e]
        by_cases q : a ≤ y
        · left; omega
        · right; rw [show min a y = y by omega]; simp
      · right; simp [e]
theorem maxOf_spec {zs : List Int} (h : zs ≠ []) : Lib.maxOf zs ∈ zs ∧ ∀ x ∈ zs, x ≤ Lib.maxOf zs := by
  obtain ⟨a, r, rfl⟩ := List.exists_cons_of_ne_nil h
  obtain ⟨h1, h2, h3⟩ := foldl_max (a :: r) a
  refine ⟨?_, h2⟩
  rcases h3 with e | e
  · unfold Lib.maxOf; rw [List.headD_cons, e]; simp
  · exact e
theorem minOf_spec {zs : List Int} (h : zs ≠ []) : Lib.minOf zs ∈ zs ∧ ∀ x ∈ zs, Lib.minOf zs ≤ x := by
  obtain ⟨a, r, rfl⟩ := List.exists_cons_of_ne_nil h
  obtain ⟨h1, h2, h3⟩ := foldl_min (a :: r) a
  refine ⟨?_, h2⟩
  rcases h3 with e | e
  · unfold Lib.minOf; rw [List.headD_cons, e]; simp
  · exact e
/-- How unlike zones are. -/
def skewD (ns : List NodeD) (load : Int) (zs : List Int) (l : List PodD) : Int := if zs = [] then 0 else Lib.maxOf (countsD ns load zs l) - Lib.minOf (countsD ns load zs l)
theorem counts_ne {ns : List NodeD} {load : Int} {zs : List Int} {l : List PodD} (h : zs ≠ []) : countsD ns load zs l ≠ [] := by
  intro e
  exact h (List.eq_nil_of_length_eq_zero (by rw [← counts_len (ns := ns) (load := load) (l := l), e]; rfl))
theorem counts_bounds {ns : List NodeD} {load : Int} {zs : List Int} {l : List PodD} {x : Int} (h : x ∈ countsD ns load zs l) : 0 ≤ x ∧ x ≤ l.length := by
  simp only [countsD, List.mem_map] at h
  obtain ⟨z, _, rfl⟩ := h
  have := count_le ns load z l
  omega
theorem skew_max {ns : List NodeD} {load : Int} {zs : List Int} {l : List PodD} (h : zs ≠ []) : skewD ns load zs l = Lib.maxOf (countsD ns load zs l) - Lib.minOf (countsD ns load zs l) ∧ 0 ≤ Lib.minOf (countsD ns load zs l) ∧ Lib.minOf (countsD ns load zs l) ≤ Lib.maxOf (countsD ns load zs l) ∧ Lib.maxOf (countsD ns load zs l) ≤ l.length := by
  have hn := counts_ne (ns := ns) (load := load) (l := l) h
  obtain ⟨m1, m2⟩ := maxOf_spec hn
  obtain ⟨n1, n2⟩ := minOf_spec hn
  exact ⟨by rw [skewD, if_neg h], (counts_bounds n1).1, m2 _ n1, (counts_bounds m1).2⟩
theorem skew_bounds (ns : List NodeD) (load : Int) (zs : List Int) (l : List PodD) : 0 ≤ skewD ns load zs l ∧ skewD ns load zs l ≤ l.length := by
  by_cases h : zs = []
  · rw [skewD, if_pos h]; omega
  · have := skew_max (ns := ns) (load := load) (l := l) h
    omega
/-! All counts together. -/
/-- Is a pod of this load, at a node that there is? -/
def thereD (ns : List NodeD) (load : Int) (p : PodD) : Bool := p.load == load && (p.node != 0 && decide (0 ≤ place NodeD.id p.node ns 0))
theorem zone_there {ns : List NodeD} {p : PodD} (h0 : p.node ≠ 0) (h : ¬ place NodeD.id p.node ns 0 < 0) : ∃ z, zoneD ns p = some z ∧ z ∈ zonesOf ns := by
  have hg := place_ge (f := NodeD.id) (id := p.node) (l := ns) (k := 0) (by omega)
  obtain ⟨i, hi⟩ := Int.eq_ofNat_of_zero_le (show 0 ≤ place NodeD.id p.node ns 0 by omega)
  have hi' : i < ns.length := by omega
  refine ⟨_, zoneD_some h0 hi' hi, ?_⟩
  unfold zonesOf
  rw [zones_mem]
  left
  simp
  exact ⟨_, List.getElem_mem hi', rfl⟩
theorem sum_add (f g : Int → Int) : ∀ zs : List Int, (zs.map fun z => f z + g z).sum = (zs.map f).sum + (zs.map g).sum
  | [] => rfl
  | z :: r => by simp only [List.map_cons, List.sum_cons, sum_add f g r]; omega
theorem sum_none (f : Int → Int) : ∀ zs : List Int, (∀ z ∈ zs, f z = 0) → (zs.map f).sum = 0
  | [], _ => rfl
  | z :: r, h => by simp only [List.map_cons, List.sum_cons, h z (by simp), sum_none f r fun y hy => h y (by simp [hy])]; rfl
theorem sum_one (f : Int → Int) (y : Int) : ∀ zs : List Int, zs.Nodup → y ∈ zs → f y = 1 → (∀ z ∈ zs, z ≠ y → f z = 0) → (zs.map f).sum = 1
  | [], _, h, _, _ => by simp at h
  | z :: r, hn, hm, h1, h0 => by
    simp only [List.map_cons, List.sum_cons]
    by_cases e : z = y
    · subst e
      rw [h1, sum_none f r fun x hx => h0 x (by simp [hx]) fun q => (List.nodup_cons.1 hn).1 (q ▸ hx)]
      rfl
    · rw [h0 z (by simp) e, sum_one f y r (List.nodup_cons.1 hn).2 ((List.mem_cons.1 hm).resolve_left fun q => e q.symm) h1 fun x hx => h0 x (by simp [hx])]
      rfl
theorem counts_all (ns : List NodeD) (load : Int) : ∀ l : List PodD, (countsD ns load (zonesOf ns) l).sum = (l.countP (thereD ns load) : Nat)
  | [] => by
    unfold countsD
    rw [sum_none _ _ fun z _ => by simp [countD]]
    rfl
  | p :: r => by
    have hc : countsD ns load (zonesOf ns) (p :: r) = (zonesOf ns).map fun z => (countD ns load z r : Int) + (if inZ ns load z p = true then 1 else 0) := by
      unfold countsD
      refine List.map_congr_left fun z _ => ?_
      unfold countD
      rw [List.countP_cons]
      split <;> simp
    rw [hc, sum_add]
    have ih := counts_all ns load r
    unfold countsD at ih
    rw [ih, List.countP_cons]
    have key : ((zonesOf ns).map fun z => (if inZ ns load z p = true then (1 : Int) else 0)).sum = if thereD ns load p = true then 1 else 0 := by
      by_cases hl : p.load = load
      · by_cases h0 : p.node = 0
        · rw [sum_none (fun z => if inZ ns load z p = true then (1 : Int) else 0) _ fun z _ => by show (if inZ ns load z p = true then (1 : Int) else 0) = 0; rw [inZ_none (zoneD_nowhere h0)]; rfl]
          simp [thereD, h0]
        · by_cases hp : place NodeD.id p.node ns 0 < 0
          · rw [sum_none (fun z => if inZ ns load z p = true then (1 : Int) else 0) _ fun z _ => by show (if inZ ns load z p = true then (1 : Int) else 0) = 0; rw [inZ_none (zoneD_none hp)]; rfl]
            have : ¬ 0 ≤ place NodeD.id p.node ns 0 := by omega
            simp [thereD, this]
          · obtain ⟨y, hy, hm⟩ := zone_there h0 hp
            rw [sum_one (fun z => if inZ ns load z p = true then (1 : Int) else 0) y (zonesOf ns) (rising_nodup (zones_fold ns [] trivial).1) hm (by show (if inZ ns load y p = true then (1 : Int) else 0) = 1; rw [inZ_here hl hy]; rfl) fun z _ hz => by show (if inZ ns load z p = true then (1 : Int) else 0) = 0; rw [inZ_other hy (fun q => hz q.symm)]; rfl]
            have : 0 ≤ place NodeD.id p.node ns 0 := by omega
            simp [thereD, hl, h0, this]
      · rw [sum_none (fun z => if inZ ns load z p = true then (1 : Int) else 0) _ fun z _ => by show (if inZ ns load z p = true then (1 : Int) else 0) = 0; rw [inZ_load hl]; rfl]
        simp [thereD, hl]
    rw [key]
    split <;> simp
/-! What a move changes. -/
theorem near_max {a b : List Int} (h : a ≠ []) (hl : a.length = b.length) (hd : ∀ i, ∀ h1 : i < a.length, ∀ h2 : i < b.length, a[i] ≤ b[i] + 1) : Lib.maxOf a ≤ Lib.maxOf b + 1 := by
  obtain ⟨m1, _⟩ := maxOf_spec h
  obtain ⟨i, hi, e⟩ := List.getElem_of_mem m1
  have hb : b ≠ [] := fun q => h (List.eq_nil_of_length_eq_zero (by rw [hl, q]; rfl))
  have := (maxOf_spec hb).2 b[i] (List.getElem_mem (by omega))
  have := hd i hi (by omega)
  omega
theorem near_min {a b : List Int} (h : a ≠ []) (hl : a.length = b.length) (hd : ∀ i, ∀ h1 : i < a.length, ∀ h2 : i < b.length, a[i] ≤ b[i] + 1) : Lib.minOf a ≤ Lib.minOf b + 1 := by
  have hb : b ≠ [] := fun q => h (List.eq_nil_of_length_eq_zero (by rw [hl, q]; rfl))
  obtain ⟨m1, _⟩ := minOf_spec hb
  obtain ⟨i, hi, e⟩ := List.getElem_of_mem m1
  have := (minOf_spec h).2 a[i] (List.getElem_mem (by omega))
  have := hd i (by omega) hi
  omega
theorem count_set (ns : List NodeD) (load z : Int) (l : List PodD) (i : Nat) (p : PodD) : countD ns load z (l.set i p) ≤ countD ns load z l + 1 ∧ countD ns load z l ≤ countD ns load z (l.set i p) + 1 := by
  by_cases hi : i < l.length
  · unfold countD
    have h1 : l.countP (inZ ns load z) = (l.take i).countP (inZ ns load z) + ((if inZ ns load z l[i] = true then 1 else 0) + (l.drop (i + 1)).countP (inZ ns load z)) := by
      conv => lhs; rw [← List.take_append_drop i l, List.drop_eq_getElem_cons hi, List.countP_append, List.countP_cons]
      omega
    have h2 : (l.set i p).countP (inZ ns load z) = (l.take i).countP (inZ ns load z) + ((if inZ ns load z p = true then 1 else 0) + (l.drop (i + 1)).countP (inZ ns load z)) := by
      rw [List.set_eq_take_append_cons_drop, if_pos hi, List.countP_append, List.countP_cons]
      omega
    rw [h1, h2]
    split <;> split <;> omega
  · rw [List.set_eq_of_length_le (by omega)]; omega
theorem skew_set (ns : List NodeD) (load : Int) (zs : List Int) (l : List PodD) (i : Nat) (p : PodD) : skewD ns load zs (l.set i p) ≤ skewD ns load zs l + 2 ∧ skewD ns load zs l ≤ skewD ns load zs (l.set i p) + 2 := by
  by_cases h : zs = []
  · simp [skewD, h]
  · have n1 := counts_ne (ns := ns) (load := load) (l := l) h
    have n2 := counts_ne (ns := ns) (load := load) (l := l.set i p) h
    have hl : (countsD ns load zs (l.set i p)).length = (countsD ns load zs l).length := by rw [counts_len, counts_len]
    have d1 : ∀ j, ∀ h1 : j < (countsD ns load zs (l.set i p)).length, ∀ h2 : j < (countsD ns load zs l).length, (countsD ns load zs (l.set i p))[j] ≤ (countsD ns load zs l)[j] + 1 := fun j h1 h2 => by
      simp only [countsD, List.getElem_map]
      have := count_set ns load (zs[j]'(by rwa [counts_len] at h1)) l i p
      omega
    have d2 : ∀ j, ∀ h1 : j < (countsD ns load zs l).length, ∀ h2 : j < (countsD ns load zs (l.set i p)).length, (countsD ns load zs l)[j] ≤ (countsD ns load zs (l.set i p))[j] + 1 := fun j h1 h2 => by
      simp only [countsD, List.getElem_map]
      have := count_set ns load (zs[j]'(by rwa [counts_len] at h1)) l i p
      omega
    have a1 := near_max n2 hl d1
    have a2 := near_max n1 hl.symm d2
    have a3 := near_min n2 hl d1
    have a4 := near_min n1 hl.symm d2
    rw [skewD, skewD, if_neg h, if_neg h]
    omega
theorem skew_behind (ns : List NodeD) (load : Int) (zs : List Int) (x : List WantD) (t : StateD) (m : MoveD) :
    skewD ns load zs (behindD x t m).pods - skewD ns load zs t.pods ≤ (if m.kind = 4 then 4 else 2) ∧ -(skewD ns load zs (behindD x t m).pods - skewD ns load zs t.pods) ≤ (if m.kind = 4 then 4 else 2) := by
  unfold behindD
  by_cases h2 : m.kind = 2
  · rw [if_pos h2, if_neg (by omega)]
    have := skew_set ns load zs t.pods (idxD m.pod t.pods) (goD (podZ m.pod t.pods))
    constructor <;> (dsimp only; omega)
  · rw [if_neg h2]
    by_cases h3 : m.kind = 3
    · rw [if_pos h3, if_neg (by omega)]
      have := skew_set ns load zs t.pods (idxD m.pod t.pods) (comeD x m.node (podZ m.pod t.pods))
      constructor <;> (dsimp only; omega)
    · rw [if_neg h3]
      by_cases h4 : m.kind = 4
      · rw [if_pos h4, if_pos h4]
        have q1 := skew_set ns load zs t.pods (idxD m.over t.pods) (goD (podZ m.over t.pods))
        have q2 := skew_set ns load zs (t.pods.set (idxD m.over t.pods) (goD (podZ m.over t.pods))) (idxD m.pod t.pods) (comeD x m.node (podZ m.pod t.pods))
        constructor <;> (dsimp only; omega)
      · rw [if_neg h4, if_neg h4]
        have := skew_set ns load zs t.pods (idxD m.pod t.pods) (comeD x m.node (podZ m.pod t.pods))
        constructor <;> (dsimp only; omega)
theorem skew_made {ns : List NodeD} {x : List WantD} {t : StateD} {m : MoveD} (h : (makeD ns x t m).2 = 0) (load : Int) (zs : List Int) :
    (skewD ns load zs (makeD ns x t m).1.pods - skewD ns load zs t.pods ≤ (if m.kind = 4 then 4 else 2) ∧ -(skewD ns load zs (makeD ns x t m).1.pods - skewD ns load zs t.pods) ≤ (if m.kind = 4 then 4 else 2)) ∧ (makeD ns x t m).1.pods.length = t.pods.length := by
  have e : (makeD ns x t m).1 = behindD x t m := by
    unfold makeD at h ⊢
    split at h
    · cases h
    · split at h
      · cases h
      · split at h
        · cases h
        · rename_i q1 q2 q3
          rw [if_neg q1, if_neg q2, if_neg q3]
  rw [e]
  refine ⟨skew_behind ns load zs x t m, ?_⟩
  unfold behindD
  split
  · simp
  · split
    · simp
    · split <;> simp
end Go.Proofs.YtmcpjebcffgboaaDoor

/- Plain mathematics of nodes' room; no program stands in it. -/
namespace Go.Proofs.YtmcpjebcffgboaaDoor
set_option linter.unusedSimpArgs false
open Go.RowKit
set_option linter.unusedVariables false

def V4.add (x y : V4) : V4 := ⟨x.a + y.a, x.b + y.b, x.c + y.c, x.d + y.d⟩
def V4.sub (x y : V4) : V4 := ⟨x.a - y.a, x.b - y.b, x.c - y.c, x.d - y.d⟩
def V4.zer : V4 := ⟨0, 0, 0, 0⟩
def V4.small (x : V4) : Bool := decide (x.a < 18446744073709551616 ∧ x.b < 18446744073709551616 ∧ x.c < 18446744073709551616 ∧ x.d < 18446744073709551616)
/-- The sum, or none: it goes over. -/
def addV (x y : V4) : Option V4 := if (x.add y).small then some (x.add y) else none
/-- The difference, or none: it goes below 0. -/
def subV (x y : V4) : Option V4 := if y.le x then some (x.sub y) else none
def totV : List V4 → V4
  | [] => .zer
  | x :: r => x.add (totV r)
def sumV (l : List V4) : Option V4 := if (totV l).small then some (totV l) else none
def reqsAt (node : Int) : List PodD → List V4
  | [] => []
  | p :: r => if p.node = node then p.req :: reqsAt node r else reqsAt node r
/-- A node's use, or none: it goes over. -/
def useD (l : List PodD) (node : Int) : Option V4 := sumV (reqsAt node l)
/-- What is left of a node beside a use, or none. -/
def leftD (n : NodeD) (u : V4) : Option V4 := match subV n.cap n.held with
  | none => none
  | some f => subV f u
def nodeAt (id : Int) : List NodeD → Option NodeD
  | [] => none
  | x :: r => if x.id = id then some x else nodeAt id r
/-- A node's rest, and an error's number. -/
def restD (ns : List NodeD) (l : List PodD) (id : Int) : V4 × Int :=
  match nodeAt id ns with
  | none => (.zer, 4)
  | some n => match useD l id with
    | none => (.zer, 8)
    | some u => match leftD n u with
      | none => (.zer, 9)
      | some r => (r, 0)
def roomD (ns : List NodeD) (l : List PodD) : List NodeD → Nat → Int × Int
  | [], _ => (0, -1)
  | n :: r, k => if (restD ns l n.id).2 ≠ 0 then ((restD ns l n.id).2, (k : Int)) else roomD ns l r (k + 1)
/-- The first node at fault: an error's number, and its place. -/
def roomOf (ns : List NodeD) (l : List PodD) : Int × Int := roomD ns l ns 0

theorem rest_none {ns : List NodeD} {l : List PodD} {id : Int} (h : nodeAt id ns = none) : restD ns l id = (.zer, 4) := by simp only [restD, h]
theorem rest_over {ns : List NodeD} {l : List PodD} {id : Int} {n : NodeD} (h : nodeAt id ns = some n) (h2 : useD l id = none) : restD ns l id = (.zer, 8) := by simp only [restD, h, h2]
theorem rest_room {ns : List NodeD} {l : List PodD} {id : Int} {n : NodeD} {u : V4} (h : nodeAt id ns = some n) (h2 : useD l id = some u) (h3 : leftD n u = none) : restD ns l id = (.zer, 9) := by simp only [restD, h, h2, h3]
theorem rest_some {ns : List NodeD} {l : List PodD} {id : Int} {n : NodeD} {u r : V4} (h : nodeAt id ns = some n) (h2 : useD l id = some u) (h3 : leftD n u = some r) : restD ns l id = (r, 0) := by simp only [restD, h, h2, h3]
theorem left_none {n : NodeD} {u : V4} (h : subV n.cap n.held = none) : leftD n u = none := by simp only [leftD, h]
theorem left_some {n : NodeD} {u f : V4} (h : subV n.cap n.held = some f) : leftD n u = subV f u := by simp only [leftD, h]
theorem rest_vals (ns : List NodeD) (l : List PodD) (id : Int) : ((restD ns l id).2 = 0) ∨ ((restD ns l id).1 = .zer ∧ ((restD ns l id).2 = 4 ∨ (restD ns l id).2 = 8 ∨ (restD ns l id).2 = 9)) := by
  rcases h1 : nodeAt id ns with _ | n
  · rw [rest_none h1]; simp
  · rcases h2 : useD l id with _ | u
    · rw [rest_over h1 h2]; simp
    · rcases h3 : leftD n u with _ | r
      · rw [rest_room h1 h2 h3]; simp
      · rw [rest_some h1 h2 h3]; simp
theorem rest_zero {ns : List NodeD} {l : List PodD} {id : Int} : (restD ns l id).2 = 0 ↔ ∃ n u r, nodeAt id ns = some n ∧ useD l id = some u ∧ leftD n u = some r ∧ restD ns l id = (r, 0) := by
  constructor
  · intro h
    rcases h1 : nodeAt id ns with _ | n
    · rw [rest_none h1] at h; cases h
    · rcases h2 : useD l id with _ | u
      · rw [rest_over h1 h2] at h; cases h
      · rcases h3 : leftD n u with _ | r
        · rw [rest_room h1 h2 h3] at h; cases h
        · exact ⟨n, u, r, rfl, rfl, h3, rest_some h1 h2 h3⟩
  · rintro ⟨n, u, r, _, _, _, h⟩; rw [h]

theorem nodeAt_no {id : Int} : ∀ {l : List NodeD} {k : Int}, 0 ≤ k → place NodeD.id id l k < 0 → nodeAt id l = none
  | [], _, _, _ => rfl
  | x :: r, k, hk, h => by
    by_cases e : x.id = id
    · simp [place, e] at h; omega
    · simp only [place, if_neg e] at h
      simp only [nodeAt, if_neg e]
      exact nodeAt_no (k := k + 1) (by omega) h
theorem nodeAt_yes {id : Int} : ∀ {l : List NodeD} {k : Int} {i : Nat} (h : i < l.length), 0 ≤ k → place NodeD.id id l k = k + i → nodeAt id l = some l[i]
  | [], _, _, h, _, _ => by simp at h
  | x :: r, k, i, h, hk, hp => by
    by_cases e : x.id = id
    · simp only [place, if_pos e] at hp
      obtain rfl : i = 0 := by omega
      simp [nodeAt, e]
    · simp only [place, if_neg e] at hp
      cases i with
      | zero => have := place_ge (f := NodeD.id) (id := id) (l := r) (k := k + 1) (by omega); rw [hp] at this; exfalso
                have h2 : k + 1 ≤ place NodeD.id id r (k + 1) ∨ place NodeD.id id r (k + 1) < 0 := by
                  by_cases hn : place NodeD.id id r (k + 1) < 0
                  · exact .inr hn
                  · left
                    have : ∀ (r : List NodeD) (k : Int), 0 ≤ k → place NodeD.id id r k < 0 ∨ k ≤ place NodeD.id id r k := by
                      intro r
                      induction r with
                      | nil => intro k _; left; simp [place]
                      | cons y r ih => intro k hk; by_cases e : y.id = id <;> simp only [place, e, if_true, if_false]; exact .inr (Int.le_refl _); rcases ih (k + 1) (by omega) with h | h; exact .inl h; exact .inr (by omega)
                    rcases this r (k + 1) (by omega) with h | h
                    · exact absurd h hn
                    · exact h
                omega
      | succ i =>
        simp only [nodeAt, if_neg e]
        rw [nodeAt_yes (l := r) (k := k + 1) (i := i) (by simpa using h) (by omega) (by omega)]
        simp
/-- A node ahead of which none has its Id is the one of its Id. -/
theorem nodeAt_first {l : List NodeD} {i : Nat} (h : i < l.length) (hf : ∀ j (hj : j < i), (l[j]'(by omega)).id ≠ l[i].id) : nodeAt l[i].id l = some l[i] :=
  nodeAt_yes (k := 0) h (Int.le_refl _) (by have := place_at (f := NodeD.id) (id := l[i].id) (l := l) (k := 0) h rfl hf; omega)

theorem roomD_at {ns : List NodeD} {l : List PodD} {m : List NodeD} {k : Nat} {p : Int × Int} (h : k < m.length) {n : NodeD} (hn : m[k] = n) (hp : roomD ns l (m.drop k) k = p) :
    ((restD ns l n.id).2 ≠ 0 → p = ((restD ns l n.id).2, (k : Int))) ∧ ((restD ns l n.id).2 = 0 → roomD ns l (m.drop (k + 1)) (k + 1) = p) := by
  rw [List.drop_eq_getElem_cons h, hn, roomD] at hp
  constructor
  · intro e; rw [if_pos e] at hp; exact hp.symm
  · intro e; rw [if_neg (by simpa using e)] at hp; exact hp
theorem roomD_end {ns : List NodeD} {l : List PodD} {m : List NodeD} {k : Nat} {p : Int × Int} (h : m.length ≤ k) (hp : roomD ns l (m.drop k) k = p) : p = (0, -1) := by
  rw [List.drop_of_length_le h, roomD] at hp; exact hp.symm
theorem roomD_all {ns : List NodeD} {l : List PodD} : ∀ {m : List NodeD} {k : Nat}, (roomD ns l m k).1 = 0 ↔ ∀ n ∈ m, (restD ns l n.id).2 = 0
  | [], _ => by simp [roomD]
  | n :: r, k => by
    by_cases e : (restD ns l n.id).2 = 0
    · simp [roomD, e, roomD_all (m := r) (k := k + 1)]
    · simp [roomD, e]
theorem roomD_pair {ns : List NodeD} {l : List PodD} : ∀ {m : List NodeD} {k : Nat}, (roomD ns l m k).1 = 0 → roomD ns l m k = (0, -1)
  | [], _, _ => by simp [roomD]
  | n :: r, k, h => by
    by_cases e : (restD ns l n.id).2 = 0
    · simp only [roomD, e, ne_eq, not_true_eq_false, if_false] at h ⊢
      exact roomD_pair h
    · simp [roomD, e] at h

theorem V4.eta (x : V4) : x = ⟨x.a, x.b, x.c, x.d⟩ := by cases x; rfl
theorem add_small {x y z : V4} (h : addV x y = some z) : z = x.add y ∧ (x.add y).small = true := by
  unfold addV at h
  split at h
  · rename_i hs; exact ⟨(Option.some.inj h).symm, hs⟩
  · cases h
theorem sub_le {x y z : V4} (h : subV x y = some z) : z = x.sub y ∧ y.le x = true := by
  unfold subV at h
  split at h
  · rename_i hs; exact ⟨(Option.some.inj h).symm, hs⟩
  · cases h
theorem sub_ok4 {x y z : V4} (hx : x.Ok) (hy : y.Ok) (h : subV x y = some z) : z.Ok := by
  obtain ⟨rfl, hl⟩ := sub_le h
  simp only [V4.le, decide_eq_true_eq] at hl
  simp only [V4.Ok, U64, V4.sub] at *
  omega
theorem add_ok4 {x y z : V4} (hx : x.Ok) (hy : y.Ok) (h : addV x y = some z) : z.Ok := by
  obtain ⟨rfl, hl⟩ := add_small h
  simp only [V4.small, decide_eq_true_eq] at hl
  simp only [V4.Ok, U64, V4.add] at *
  omega
theorem tot_pos : ∀ {l : List V4}, (∀ x ∈ l, x.Ok) → 0 ≤ (totV l).a ∧ 0 ≤ (totV l).b ∧ 0 ≤ (totV l).c ∧ 0 ≤ (totV l).d
  | [], _ => by simp [totV, V4.zer]
  | x :: r, h => by
    have h1 := tot_pos (l := r) (fun y hy => h y (List.mem_cons_of_mem _ hy))
    have h2 := h x (List.mem_cons_self ..)
    simp only [V4.Ok, U64] at h2
    simp only [totV, V4.add]
    omega
theorem sum_ok4 {l : List V4} {u : V4} (h : ∀ x ∈ l, x.Ok) (hu : sumV l = some u) : u.Ok := by
  have hp := tot_pos h
  unfold sumV at hu
  split at hu
  · rename_i hs
    have := Option.some.inj hu
    subst this
    simp only [V4.small, decide_eq_true_eq] at hs
    simp only [V4.Ok, U64]
    omega
  · cases hu
theorem reqs_ok {node : Int} : ∀ {l : List PodD}, (∀ p ∈ l, p.Ok) → ∀ x ∈ reqsAt node l, x.Ok
  | [], _, x, hx => by simp [reqsAt] at hx
  | p :: r, h, x, hx => by
    unfold reqsAt at hx
    split at hx
    · rcases List.mem_cons.1 hx with rfl | hx
      · exact (h p (List.mem_cons_self ..)).2.2.2.1
      · exact reqs_ok (fun q hq => h q (List.mem_cons_of_mem _ hq)) x hx
    · exact reqs_ok (fun q hq => h q (List.mem_cons_of_mem _ hq)) x hx
theorem use_ok {l : List PodD} {node : Int} {u : V4} (h : ∀ p ∈ l, p.Ok) (hu : useD l node = some u) : u.Ok := sum_ok4 (reqs_ok h) hu
theorem reqs_len (node : Int) : ∀ l : List PodD, (reqsAt node l).length ≤ l.length
  | [] => Nat.le_refl _
  | p :: r => by
    have := reqs_len node r
    unfold reqsAt
    split <;> simp <;> omega
theorem reqs_append (node : Int) : ∀ (l m : List PodD), reqsAt node (l ++ m) = reqsAt node l ++ reqsAt node m
  | [], m => rfl
  | p :: r, m => by
    rw [List.cons_append, reqsAt, reqsAt, reqs_append node r m]
    split <;> simp
theorem reqs_take {node : Int} {l : List PodD} {k : Nat} (h : k < l.length) {p : PodD} (hp : l[k] = p) :
    (p.node = node → reqsAt node (l.take (k + 1)) = reqsAt node (l.take k) ++ [p.req]) ∧ (p.node ≠ node → reqsAt node (l.take (k + 1)) = reqsAt node (l.take k)) := by
  rw [List.take_succ_eq_append_getElem h, reqs_append, hp]
  constructor
  · intro e; simp [reqsAt, e]
  · intro e; simp [reqsAt, e]
theorem nodeAt_ok {id : Int} {n : NodeD} : ∀ {l : List NodeD}, (∀ x ∈ l, x.Ok) → nodeAt id l = some n → n.Ok
  | [], _, h => by simp [nodeAt] at h
  | x :: r, ho, h => by
    unfold nodeAt at h
    split at h
    · obtain rfl := Option.some.inj h; exact ho _ (List.mem_cons_self ..)
    · exact nodeAt_ok (fun y hy => ho y (List.mem_cons_of_mem _ hy)) h
theorem left_ok {n : NodeD} {u r : V4} (hn : n.Ok) (hu : u.Ok) (h : leftD n u = some r) : r.Ok := by
  unfold leftD at h
  split at h
  · cases h
  · rename_i f hf
    exact sub_ok4 (sub_ok4 hn.2.2.1 hn.2.2.2 hf) hu h
/-- Use and rest together are what there is but for what is held. -/
theorem left_whole {n : NodeD} {u r : V4} (hn : n.Ok) (hu : u.Ok) (h : leftD n u = some r) : addV r u = some (n.cap.sub n.held) ∧ addV (n.cap.sub n.held) n.held = some n.cap := by
  unfold leftD at h
  split at h
  · cases h
  · rename_i f hf
    obtain ⟨rfl, hl⟩ := sub_le hf
    obtain ⟨rfl, hl2⟩ := sub_le h
    obtain ⟨_, _, hc, hh⟩ := hn
    simp only [V4.le, decide_eq_true_eq, V4.sub] at hl hl2
    simp only [V4.Ok, U64] at hc hh hu
    constructor
    · have e : ((n.cap.sub n.held).sub u).add u = n.cap.sub n.held := by simp [V4.add, V4.sub, Int.sub_add_cancel]
      unfold addV
      rw [e, if_pos]
      simp only [V4.small, V4.sub]
      exact decide_eq_true ⟨by omega, by omega, by omega, by omega⟩
    · have e : (n.cap.sub n.held).add n.held = n.cap := by
        show V4.mk _ _ _ _ = n.cap
        simp only [V4.sub, Int.sub_add_cancel]
      unfold addV
      rw [e, if_pos]
      simp only [V4.small, decide_eq_true_eq]
      omega

theorem le_trans4 {x y z : V4} (h : x.le y = true) (h2 : y.le z = true) : x.le z = true := by
  simp only [V4.le, decide_eq_true_eq] at *; omega
theorem tot_append : ∀ (l m : List V4), totV (l ++ m) = (totV l).add (totV m)
  | [], m => by simp [totV, V4.add, V4.zer]
  | x :: r, m => by rw [List.cons_append, totV, tot_append r m]; simp [totV, V4.add, Int.add_assoc]
theorem sum_less {l m k : List V4} {u : V4} (hk : ∀ x ∈ k, x.Ok) (h : sumV (l ++ (k ++ m)) = some u) : ∃ u', sumV (l ++ m) = some u' ∧ u'.le u = true := by
  have hp := tot_pos hk
  unfold sumV at h
  split at h
  · rename_i hs
    have hu := Option.some.inj h
    rw [tot_append, tot_append] at hs hu
    simp only [V4.small, V4.add] at hs
    have hs := of_decide_eq_true hs
    refine ⟨totV (l ++ m), ?_, ?_⟩
    · unfold sumV
      rw [tot_append, if_pos]
      simp only [V4.small, V4.add]
      exact decide_eq_true ⟨by omega, by omega, by omega, by omega⟩
    · rw [← hu, tot_append]
      simp only [V4.le, V4.add]
      exact decide_eq_true ⟨by omega, by omega, by omega, by omega⟩
  · cases h
/-- With a pod less a use that didn't go over doesn't, and is no greater. -/
theorem use_less {l : List PodD} {node : Int} {u : V4} {i : Nat} (hi : i < l.length) (ho : ∀ p ∈ l, p.Ok) (h : useD l node = some u) : ∃ u', useD (l.take i ++ l.drop (i + 1)) node = some u' ∧ u'.le u = true := by
  have e : l = l.take i ++ ([l[i]] ++ l.drop (i + 1)) := by
    have := List.drop_eq_getElem_cons hi
    rw [List.singleton_append, ← this, List.take_append_drop]
  unfold useD at h ⊢
  rw [e, reqs_append, reqs_append] at h
  rw [reqs_append]
  exact sum_less (reqs_ok (fun p hp => by obtain rfl := List.mem_singleton.1 hp; exact ho _ (List.getElem_mem hi))) h
theorem left_less {n : NodeD} {u u' r : V4} (hu : u'.le u = true) (h : leftD n u = some r) : ∃ r', leftD n u' = some r' := by
  unfold leftD at h ⊢
  split at h
  · cases h
  · rename_i f hf
    obtain ⟨_, hl⟩ := sub_le h
    exact ⟨f.sub u', by unfold subV; rw [if_pos (le_trans4 hu hl)]⟩
theorem room_less {ns : List NodeD} {l : List PodD} {i : Nat} (hi : i < l.length) (ho : ∀ p ∈ l, p.Ok) (h : (roomOf ns l).1 = 0) : roomOf ns (l.take i ++ l.drop (i + 1)) = (0, -1) := by
  refine roomD_pair (roomD_all.2 fun n hn => ?_)
  obtain ⟨m, u, r, h1, h2, h3, _⟩ := rest_zero.1 (roomD_all.1 h n hn)
  obtain ⟨u', h4, h5⟩ := use_less hi ho h2
  obtain ⟨r', h6⟩ := left_less h5 h3
  rw [rest_some h1 h4 h6]
end Go.Proofs.YtmcpjebcffgboaaDoor

/- Contracts of the small functions: sums and differences of 64 bits, halves, one sum of the reference. -/
namespace Go.Proofs.YtmcpjebcffgboaaDoor
set_option linter.unusedSimpArgs false
open Go.RowKit
set_option linter.unusedVariables false

theorem below_drewN {B : Nat} {a w : World} (h : Below B a w) (n : Nat) : Below B a (w.drewN n) := ⟨h.os, h.tape, h.output, h.size, h.block⟩
theorem bcell {W w1 : World} (hb : Below W.heap.size W w1) : (∀ b o, b < W.heap.size → w1.cell? ⟨b, o, none⟩ = W.cell? ⟨b, o, none⟩) ∧ (∀ b o, b < W.heap.size → w1.frozen? ⟨b, o, none⟩ = W.frozen? ⟨b, o, none⟩) :=
  ⟨fun b o h => hb.cell (p := ⟨b, o, none⟩) h, fun b o h => hb.frozen (p := ⟨b, o, none⟩) h⟩
theorem quiet_left0 {P : Program} {f : FuncId} {args : Array Value} {w : World} {n : Nat} {v : Value}
    (h : Calls P f args (w.drewN n) fun e w' => e = .returned v ∧ w.drewN n = w') : Calls P f args (w.drewN n) fun e w'' => e = .returned v ∧ ∃ m, w'' = w.drewN m :=
  h.mono fun _ _ ⟨he, hm⟩ => ⟨he, n, hm.symm⟩
theorem quiet_left1 {P : Program} {f : FuncId} {args : Array Value} {w : World} {a n : Nat} {v : Value}
    (h : Calls P f args (w.drewN (a + n)) fun e w' => e = .returned v ∧ w.drewN (a + n) = w') :
    Calls P f args (w.drewN (a + n)) fun e w'' => e = .returned v ∧ ∃ m, w'' = w.drewN (a + m) :=
  h.mono fun _ _ ⟨he, hm⟩ => ⟨he, n, hm.symm⟩

theorem one_num (x y : Int) : (x / 4294967296 + y / 4294967296 + (x % 4294967296 + y % 4294967296) / 4294967296) * 4294967296 + (x + y) % 4294967296 = x + y := by omega
theorem ret_ib {a b : Int} {t : Bool} (h : a = b) : Ending.returned (.tuple #[.int .u64 a, .bool t]) = .returned (.tuple #[.int .u64 b, .bool t]) := by rw [h]
end Go.Proofs.YtmcpjebcffgboaaDoor

/- vec.Add: the four sums, or ErrOver. -/
namespace Go.Proofs.YtmcpjebcffgboaaDoor
set_option linter.unusedSimpArgs false
open Go.RowKit
set_option linter.unusedVariables false

end Go.Proofs.YtmcpjebcffgboaaDoor

/- vec.Sub: the four differences, or ErrOver. -/
namespace Go.Proofs.YtmcpjebcffgboaaDoor
set_option linter.unusedSimpArgs false
open Go.RowKit
set_option linter.unusedVariables false

end Go.Proofs.YtmcpjebcffgboaaDoor

namespace Go.Proofs.YtmcpjebcffgboaaDoor
set_option linter.unusedSimpArgs false
open Go.RowKit
set_option linter.unusedVariables false

end Go.Proofs.YtmcpjebcffgboaaDoor
