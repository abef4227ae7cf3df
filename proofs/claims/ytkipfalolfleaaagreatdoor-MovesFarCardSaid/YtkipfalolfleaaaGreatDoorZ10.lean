/- Joined texts, part 10: XA QA QB XB QC QD QE QF EPG PC PE PF PD NO. -/
import Derived.Test.YtkipfalolfleaaaGreatDoorZ09
import Derived.Test.YtkipfalolfleaaaGreatDoorZ05
import Derived.Test.YtkipfalolfleaaaGreatDoorZ03
import Derived.Test.YtkipfalolfleaaaGreatDoorZ07
import Derived.Test.YtkipfalolfleaaaGreatDoorZ08
import Derived.Deep.CutRange
import Derived.Test.YtkipfalolfleaaaGreatDoorZ01
import Derived.RangeFuncNested
import Derived.RangeFuncCalls
import Derived.RangeFuncLeaves
import Derived.Shelf.Abstract
import Derived.Shelf.RegionOpen
import Derived.WalkKit
import Derived.OwnWalkIn
import Derived.TacticsInMore
import Derived.LoopNIn
import Derived.LoopIn
import Derived.Maps.AppendAt
import Derived.Test.YtkipfalolfleaaaGreatDoorZ02
import Derived.Laws.OwnMore
import Derived.Shelf.SlSortCmp.NoneTotal
import Derived.Test.YtkipfalolfleaaaGreatDoorProg
import Derived.Sort.Grow
import Derived.Test.YtkipfalolfleaaaGreatDoorZ06

/- One move that is done where the state behind it is safe, and moves, one behind the other: plain mathematics. -/
namespace Go.Proofs.YtkipfalolfleaaaGreatDoor
set_option linter.unusedSimpArgs false
open Go.RowKit
set_option linter.unusedVariables false

/-! What an error's number can be. -/
def Told8 (p : Int × Int) : Prop := p = (0, -1) ∨ (8 ≤ p.1 ∧ p.1 ≤ 15)
theorem told8_room {ns : List NodeD} {l : List PodD} : ∀ (m : List NodeD) (k : Nat), (∀ n ∈ m, n ∈ ns) → Told8 (roomD ns l m k)
  | [], _, _ => .inl rfl
  | n :: r, k, h => by
    unfold roomD
    split
    · rename_i h2
      rcases rest_vals ns l n.id with e | ⟨_, e | e | e⟩
      · exact absurd e h2
      · exfalso
        have hn : n ∈ ns := h n (by simp)
        have : ∀ (q : List NodeD), n ∈ q → nodeAt n.id q ≠ none := by
          intro q
          induction q with
          | nil => intro h; simp at h
          | cons y q ih =>
            intro hm
            unfold nodeAt
            split
            · simp
            · rename_i hne
              refine ih ?_
              rcases List.mem_cons.1 hm with e | e
              · exact absurd (by rw [e]) hne
              · exact e
        have h0 := this ns hn
        cases hq : nodeAt n.id ns with
        | none => exact h0 hq
        | some n' =>
          rcases h5 : useD l n.id with _ | u
          · rw [rest_over hq h5] at e; exact absurd e (by decide)
          · rcases h6 : leftD n' u with _ | z
            · rw [rest_room hq h5 h6] at e; exact absurd e (by decide)
            · rw [rest_some hq h5 h6] at e; simp at e
      · right; dsimp only; omega
      · right; dsimp only; omega
    · exact told8_room r (k + 1) (fun n hn => h n (by simp [hn]))
theorem told8_spread {ns : List NodeD} {l : List PodD} : ∀ (m : List LoadD) (k : Nat), Told8 (spreadFrom ns l m k)
  | [], _ => .inl rfl
  | x :: r, k => by
    unfold spreadFrom
    split
    · right; dsimp only; omega
    · exact told8_spread r (k + 1)
theorem told8_budget {l : List PodD} : ∀ (m : List LoadD) (k : Nat), Told8 (budgetFrom l m k)
  | [], _ => .inl rfl
  | x :: r, k => by
    unfold budgetFrom
    split
    · exact told8_budget r (k + 1)
    · rename_i h
      right
      unfold fault9 at h ⊢
      dsimp only
      split
      · omega
      · split
        · omega
        · rename_i h1 h2; simp [h1, h2] at h
theorem told8_five {ns : List NodeD} {ls : List LoadD} {l : List PodD} {x1 x2 t1 t2 : Int} {p : Int × Int} (h : p ∈ fiveP ns ls l x1 x2 t1 t2) : Told8 p := by
  simp only [fiveP, List.mem_cons, List.not_mem_nil, or_false] at h
  rcases h with rfl | rfl | rfl | rfl | rfl
  · exact told8_room ns 0 (fun _ h => h)
  · rcases apartFrom_pair (ls := ls) (l := l) l 0 with ⟨_, e⟩ | ⟨j, e⟩
    · exact .inl e
    · right
      rw [apartOf, e]
      dsimp only
      omega
  · exact told8_spread ls 0
  · exact told8_budget ls 0
  · unfold usedP
    split
    · right; dsimp only; omega
    · exact .inl rfl
theorem told8_why (ns : List NodeD) (ls : List LoadD) (l : List PodD) (x1 x2 t1 t2 : Int) : Told8 (whyP (fiveP ns ls l x1 x2 t1 t2)) := by
  unfold whyP
  cases e : badK (fiveP ns ls l x1 x2 t1 t2) 1 5 with
  | nil => exact .inl rfl
  | cons p r =>
    have hp : p ∈ badK (fiveP ns ls l x1 x2 t1 t2) 1 5 := by rw [e]; simp
    unfold badK at hp
    exact told8_five (List.mem_of_mem_take (List.mem_filter.1 (List.mem_of_mem_take hp)).1)
theorem told8_ok {p : Int × Int} (h : Told8 p) : okP p = (p.1 == 0) := by
  rcases h with rfl | ⟨h1, h2⟩
  · rfl
  · have : (p.1 == 0) = false := by simp; omega
    rw [this, okP, this]; rfl

/-! One move. -/
/-- The Code of why a state isn't safe; 0: it is. -/
def codeS (ns : List NodeD) (ls : List LoadD) (x : SpecD) (t : StateD) : Int := (whyP (fiveP ns ls t.pods x.preempts x.shifts t.preempts t.shifts)).1
def doD (ns : List NodeD) (ls : List LoadD) (x : SpecD) (t : StateD) (m : MoveD) : StateD × Int :=
  if (makeD ns x.wants t m).2 ≠ 0 then (noState, (makeD ns x.wants t m).2)
  else if prioD t.pods m = true then (noState, 14)
  else if codeS ns ls x (makeD ns x.wants t m).1 ≠ 0 then (noState, codeS ns ls x (makeD ns x.wants t m).1)
  else ((makeD ns x.wants t m).1, 0)
theorem do_made {ns : List NodeD} {ls : List LoadD} {x : SpecD} {t : StateD} {m : MoveD} (h : (doD ns ls x t m).2 = 0) : (makeD ns x.wants t m).2 = 0 ∧ (doD ns ls x t m).1 = (makeD ns x.wants t m).1 ∧ codeS ns ls x (doD ns ls x t m).1 = 0 := by
  by_cases h1 : (makeD ns x.wants t m).2 = 0
  · by_cases h2 : prioD t.pods m = true
    · rw [doD, if_neg (by simp [h1]), if_pos h2] at h; cases h
    · by_cases h3 : codeS ns ls x (makeD ns x.wants t m).1 = 0
      · have e : doD ns ls x t m = ((makeD ns x.wants t m).1, 0) := by rw [doD, if_neg (by simp [h1]), if_neg h2, if_neg (by simp [h3])]
        rw [e]
        exact ⟨h1, rfl, h3⟩
      · rw [doD, if_neg (by simp [h1]), if_neg h2, if_pos h3] at h; exact absurd h h3
  · rw [doD, if_pos h1] at h; exact absurd h h1
theorem do_no1 {ns : List NodeD} {ls : List LoadD} {x : SpecD} {t : StateD} {m : MoveD} (h : (makeD ns x.wants t m).2 ≠ 0) : doD ns ls x t m = (noState, (makeD ns x.wants t m).2) := by rw [doD, if_pos h]
theorem do_no2 {ns : List NodeD} {ls : List LoadD} {x : SpecD} {t : StateD} {m : MoveD} (h : (makeD ns x.wants t m).2 = 0) (h2 : prioD t.pods m = true) : doD ns ls x t m = (noState, 14) := by rw [doD, if_neg (by simp [h]), if_pos h2]
theorem do_no3 {ns : List NodeD} {ls : List LoadD} {x : SpecD} {t : StateD} {m : MoveD} (h : (makeD ns x.wants t m).2 = 0) (h2 : prioD t.pods m = false) (h3 : codeS ns ls x (makeD ns x.wants t m).1 ≠ 0) : doD ns ls x t m = (noState, codeS ns ls x (makeD ns x.wants t m).1) := by rw [doD, if_neg (by simp [h]), if_neg (by simp [h2]), if_pos h3]
theorem do_yes {ns : List NodeD} {ls : List LoadD} {x : SpecD} {t : StateD} {m : MoveD} (h : (makeD ns x.wants t m).2 = 0) (h2 : prioD t.pods m = false) (h3 : codeS ns ls x (makeD ns x.wants t m).1 = 0) : doD ns ls x t m = ((makeD ns x.wants t m).1, 0) := by rw [doD, if_neg (by simp [h]), if_neg (by simp [h2]), if_neg (by simp [h3])]

/-! What a move leaves as it should be. -/
theorem podZ_ok {id : Int} {l : List PodD} (h : ∀ p ∈ l, p.Ok) : (podZ id l).Ok := by
  by_cases hp : place PodD.id id l 0 < 0
  · rw [podZ_none hp]
    exact ⟨⟨by decide, by decide⟩, ⟨by decide, by decide⟩, ⟨by decide, by decide⟩, ⟨⟨by decide, by decide⟩, ⟨by decide, by decide⟩, ⟨by decide, by decide⟩, ⟨by decide, by decide⟩⟩, ⟨by decide, by decide⟩⟩
  · obtain ⟨i, hi, e⟩ := place_hit hp
    rw [podZ_some hi e]
    exact h _ (List.getElem_mem hi)
theorem come_ok {x : List WantD} {node : Int} {p : PodD} (hx : ∀ y ∈ x, y.Ok) (hp : p.Ok) (hn : I64 node) : (comeD x node p).Ok := by
  by_cases h : place WantD.pod p.id x 0 < 0
  · rw [come_none h]
    exact ⟨hp.1, hp.2.1, hp.2.2.1, hp.2.2.2.1, hn⟩
  · obtain ⟨i, hi, e⟩ : ∃ (i : Nat) (hi : i < x.length), place WantD.pod p.id x 0 = i := by
      have := place_ge (f := WantD.pod) (id := p.id) (l := x) (k := 0) (by omega)
      exact ⟨(place WantD.pod p.id x 0).toNat, by omega, by omega⟩
    rw [come_some hi e]
    refine ⟨hp.1, hp.2.1, hp.2.2.1, ?_, hn⟩
    dsimp only
    split
    · exact (hx _ (List.getElem_mem hi)).2
    · exact hp.2.2.2.1
theorem go_ok {p : PodD} (hp : p.Ok) : (goD p).Ok := ⟨hp.1, hp.2.1, hp.2.2.1, hp.2.2.2.1, ⟨by unfold goD; dsimp only; omega, by unfold goD; dsimp only; omega⟩⟩
theorem set_ok {l : List PodD} {i : Nat} {p : PodD} (h : ∀ q ∈ l, q.Ok) (hp : p.Ok) : ∀ q ∈ l.set i p, q.Ok := by
  intro q hq
  rcases List.mem_or_eq_of_mem_set hq with e | e
  · exact h q e
  · rw [e]; exact hp
theorem place_eqA {α : Type} {f : α → Int} {id : Int} : ∀ {l : List α} {k : Int} {i : Nat} (hi : i < l.length), place f id l k = k + i → 0 ≤ k → f l[i] = id
  | [], _, _, hi, _, _ => by simp at hi
  | x :: r, k, i, hi, h, hk => by
    by_cases hx : f x = id
    · simp only [place, if_pos hx] at h
      obtain rfl : i = 0 := by omega
      exact hx
    · simp only [place, if_neg hx] at h
      cases i with
      | zero =>
        have h3 : place f id r (k + 1) < 0 ∨ k + 1 ≤ place f id r (k + 1) := place_or r (k + 1) (by omega)
        omega
      | succ i =>
        simp only [List.getElem_cons_succ]
        exact place_eqA (k := k + 1) (by simpa using hi) (by rw [h]; omega) (by omega)
theorem made_ok {ns : List NodeD} {x : List WantD} {t : StateD} {m : MoveD} (hn : ∀ n ∈ ns, n.Ok) (hx : ∀ y ∈ x, y.Ok) (hl : ∀ p ∈ t.pods, p.Ok) (h : (makeD ns x t m).2 = 0) : (∀ p ∈ (makeD ns x t m).1.pods, p.Ok) ∧ (makeD ns x t m).1.pods.length = t.pods.length := by
  refine ⟨?_, made_len9 h⟩
  by_cases h1 : wellD m = false
  · rw [makeD, if_pos h1] at h; cases h
  by_cases h2 : hereD ns t.pods m = false
  · rw [makeD, if_neg h1, if_pos h2] at h; cases h
  by_cases h3 : canD t.pods m = false
  · rw [makeD, if_neg h1, if_neg h2, if_pos h3] at h; cases h
  rw [makeD, if_neg h1, if_neg h2, if_neg h3]
  dsimp only
  unfold behindD
  by_cases k2 : m.kind = 2
  · rw [if_pos k2]
    exact set_ok hl (go_ok (podZ_ok hl))
  · have hnode : I64 m.node := by
      have h2' : hereD ns t.pods m = true := by simpa using h2
      unfold hereD at h2'
      have k2' : (m.kind == 2) = false := by simp [k2]
      simp only [k2', Bool.or_false, Bool.and_eq_true, Bool.not_eq_true', decide_eq_false_iff_not] at h2'
      obtain ⟨i, hi, e⟩ : ∃ (i : Nat) (hi : i < ns.length), place NodeD.id m.node ns 0 = i := by
        have h3 := h2'.2.1
        have := place_ge (f := NodeD.id) (id := m.node) (l := ns) (k := 0) (by omega)
        exact ⟨(place NodeD.id m.node ns 0).toNat, by omega, by omega⟩
      have e1 := place_eqA (f := NodeD.id) (id := m.node) (k := 0) hi (by rw [e]; omega) (by omega)
      rw [← e1]
      exact (hn _ (List.getElem_mem hi)).1
    have hc := come_ok (node := m.node) hx (podZ_ok (id := m.pod) hl) hnode
    rw [if_neg k2]
    split
    · exact set_ok hl hc
    · split
      · exact set_ok (set_ok hl (go_ok (podZ_ok hl))) hc
      · exact set_ok hl hc
theorem do_ok {ns : List NodeD} {ls : List LoadD} {x : SpecD} {t : StateD} {m : MoveD} (hn : ∀ n ∈ ns, n.Ok) (hx : ∀ y ∈ x.wants, y.Ok) (hl : ∀ p ∈ t.pods, p.Ok) (h : (doD ns ls x t m).2 = 0) : (∀ p ∈ (doD ns ls x t m).1.pods, p.Ok) ∧ (doD ns ls x t m).1.pods.length = t.pods.length := by
  obtain ⟨h1, h2, _⟩ := do_made h
  rw [h2]
  exact made_ok hn hx hl h1

/-! Moves, one behind the other. -/
/-! All of a walk. -/
end Go.Proofs.YtkipfalolfleaaaGreatDoor

/- Plain mathematics of nodes that are used, of moves that empty them, and of what comes of doing the first one again and again. -/
namespace Go.Proofs.YtkipfalolfleaaaGreatDoor
set_option linter.unusedSimpArgs false
open Go.RowKit
set_option linter.unusedVariables false

/-! What the first one is. -/
end Go.Proofs.YtkipfalolfleaaaGreatDoor

/- Which nodes are used, and which pods are alone: the program's isNode, alone, used and Used of layer 16. -/
namespace Go.Proofs.YtkipfalolfleaaaGreatDoor
set_option linter.unusedSimpArgs false
open Go.RowKit
set_option linter.unusedVariables false

abbrev cellQ (z : Int) : List Value := [.int .i64 z]
/-! Is no other pod where this one is? -/
/-! The nodes that are used. -/
end Go.Proofs.YtkipfalolfleaaaGreatDoor

/- The program's fault and Do of layer 12. -/
namespace Go.Proofs.YtkipfalolfleaaaGreatDoor
set_option linter.unusedSimpArgs false
open Go.RowKit
set_option linter.unusedVariables false

theorem Out.later {α : Type} {size : Nat} {cells : α → List Value} {w V : World} {xs : List α} {A : Option Addr} {c : Nat} (h : Out size cells w xs A c) (hb : Below w.heap.size w V) : Out size cells V xs A c :=
  ⟨h.1, h.2.1, h.2.2.1, (h.2.2.2.below hb (Nat.le_refl _)).more hb.size⟩
set_option maxHeartbeats 3200000 in
set_option maxRecDepth 100000 in
/-- The program's fault: the Code alone of why a state isn't safe. -/
theorem stepFault_any (ns : List NodeD) (ls : List LoadD) (x : SpecD) (t : StateD) (A1 A2 A3 A4 A5 : Option Addr) (n1 c1 n2 c2 n3 c3 n4 c4 n5 c5 : Nat) (w : World) (h : SafeArgs ns ls t.pods A1 A2 A4 n1 n2 n4 c4 w) :
    Calls Tryz.prog 15 #[.agg #[.slice A1 n1 c1, .slice A2 n2 c2, .slice A3 n3 c3], .agg #[.slice A5 n5 c5, .int .i64 x.preempts, .int .i64 x.shifts], .agg #[.slice A4 n4 c4, .int .i64 t.preempts, .int .i64 t.shifts]] w fun e w' => e = .returned (codeV (codeS ns ls x t)) ∧ Below w.heap.size w w' := by
  have T0 := (T3.new w [.slice A1 n1 c1, .slice A2 n2 c2, .slice A3 n3 c3] [.slice A5 n5 c5, .int .i64 x.preempts, .int .i64 x.shifts] [.slice A4 n4 c4, .int .i64 t.preempts, .int .i64 t.shifts] 26 29 31).alloc (.cells #[.int .i64 0] 67)
  have B0 := Bf.new (((w.alloc (.cells #[.slice A1 n1 c1, .slice A2 n2 c2, .slice A3 n3 c3] 26)).alloc (.cells #[.slice A5 n5 c5, .int .i64 x.preempts, .int .i64 x.shifts] 29)).alloc (.cells #[.slice A4 n4 c4, .int .i64 t.preempts, .int .i64 t.shifts] 31)) [.int .i64 0] 67 (b := w.heap.size + 3) (by simp)
  have HF := Lib.hid (safeWhy_any ns ls t.pods x.preempts x.shifts t.preempts t.shifts A1 A2 A3 A4 A5 n1 c1 n2 c2 n3 c3 n4 c4 n5 c5 _ (h.at T0.below))
  have HG := Lib.hid h.g
  have HT := Lib.hid T0
  have HB := Lib.hid B0
  have HE : Hid (codeS ns ls x t = (whyP (fiveP ns ls t.pods x.preempts x.shifts t.preempts t.shifts)).1) := rfl
  have HOK := Lib.hid (told8_ok (told8_why ns ls t.pods x.preempts x.shifts t.preempts t.shifts))
  generalize codeS ns ls x t = c at *
  generalize whyP (fiveP ns ls t.pods x.preempts x.shifts t.preempts t.shifts) = p at *
  generalize x.preempts = x1 at *
  generalize x.shifts = x2 at *
  generalize t.preempts = t1 at *
  generalize t.shifts = t2 at *
  clear h T0 B0
  go_enter Tryz.func15, Tryz.ntmps15
  go_wp2_with fail
  refine HF.out.mono ?_
  rintro e w1 ⟨u, rfl, hu, hb1⟩
  have T1 := HT.out.keep hb1
  have B1 := HB.out.below hb1 HB.out.lt
  have HK1 := Lib.hid T1.below
  have hz1 := B1.lt
  cases hok : okP p with
  | true =>
    have hn := hu.nil hok
    have hc : c = 0 := by have h1 := HE.out; have h2 := okP_true hok; rw [h1, h2]
    subst hn hc
    clear hu hok HE HOK hb1 T1 B1
    go_wp2_with fail
    refine (as_nil _ _).mono ?_
    rintro e w2 ⟨rfl, rfl⟩
    go_wp2
    go_ret
    exact ⟨rfl, HK1.out⟩
  | false =>
    have hc0 : c ≠ 0 := by
      have h1 := HE.out; have h2 := HOK.out
      rw [hok] at h2
      intro e
      rw [e] at h1
      rw [← h1] at h2
      cases h2
    have HA := Lib.hid (as_codeO p _ (w.heap.size + 3) u (.int .i64 0) w1 hu hok (Laid.below HG.out HK1.out (Nat.le_refl _)) (B1.cell 0 _ rfl) (B1.frozen 0))
    have HC := Lib.hid (codeV_pos hc0)
    rw [← HE.out] at HA
    clear hu hok HE HOK hb1 T1 B1 hc0
    go_wp2_with fail
    refine HA.out.mono ?_
    rintro e w2 ⟨rfl, hc, hb2⟩
    have HK2 := Lib.hid (HK1.out.trans (hb2.mono (show w.heap.size ≤ w.heap.size + 3 by omega)))
    clear hb2
    go_wp2
    go_ret
    exact ⟨congrArg Ending.returned HC.out.symm, HK2.out⟩

/-- What a state that is told comes to, with an error beside it. -/
def DoTo (r : StateD × Int) (w : World) (e : Ending) (w' : World) : Prop := ∃ v, e = .returned (.tuple #[v, codeV r.2]) ∧ StateTo r.1 w v w'
set_option maxHeartbeats 12800000 in
set_option maxRecDepth 100000 in
/-- The program's Do. -/
theorem stepDo_any (ns : List NodeD) (ls : List LoadD) (x : SpecD) (t : StateD) (m : MoveD) (A1 A2 A3 A4 A5 : Option Addr) (n1 c1 n2 c2 n3 c3 n4 c4 n5 c5 : Nat) (w : World) (h : SafeArgs ns ls t.pods A1 A2 A4 n1 n2 n4 c4 w)
    (h04 : A4 = none → c4 = 0) (hn5 : n5 = x.wants.length) (hl5 : n5 ≤ 400) (hr5 : Recs 6 cellsW w w.heap.size A5 x.wants) (hxo : ∀ y ∈ x.wants, y.Ok) :
    Calls Tryz.prog 8 #[.agg #[.slice A1 n1 c1, .slice A2 n2 c2, .slice A3 n3 c3], .agg #[.slice A5 n5 c5, .int .i64 x.preempts, .int .i64 x.shifts], .agg #[.slice A4 n4 c4, .int .i64 t.preempts, .int .i64 t.shifts], .agg #[.int .i64 m.kind, .int .i64 m.pod, .int .i64 m.node, .int .i64 m.over]] w (DoTo (doD ns ls x t m) w) := by
  have M0 := Mk.new w [.slice A1 n1 c1, .slice A2 n2 c2, .slice A3 n3 c3] [.slice A5 n5 c5, .int .i64 x.preempts, .int .i64 x.shifts] [.slice A4 n4 c4, .int .i64 t.preempts, .int .i64 t.shifts] [.int .i64 m.kind, .int .i64 m.pod, .int .i64 m.node, .int .i64 m.over] 26 29 31 33 31
  have HMK : Hid (∀ V, Below w.heap.size w V → Calls Tryz.prog 13 #[.agg #[.slice A1 n1 c1, .slice A2 n2 c2, .slice A3 n3 c3], .agg #[.slice A5 n5 c5, .int .i64 x.preempts, .int .i64 x.shifts], .agg #[.slice A4 n4 c4, .int .i64 t.preempts, .int .i64 t.shifts], .agg #[.int .i64 m.kind, .int .i64 m.pod, .int .i64 m.node, .int .i64 m.over]] V
      fun e w' => ∃ v, e = .returned (.tuple #[v, codeV (makeD ns x.wants t m).2]) ∧ StateTo (makeD ns x.wants t m).1 V v w') := fun V hV => by
    have k := h.at hV
    exact make_any ns x.wants t m A1 A2 A3 A5 A4 n1 c1 n2 c2 n3 c3 n5 c5 n4 c4 (.int .i64 x.preempts) (.int .i64 x.shifts) V k.e1 (by have := k.l1; omega) k.r1 hn5 (by omega) ((hr5.below hV (Nat.le_refl _)).more hV.size) k.e4 (by have := k.l4; omega) h04 k.r4
  have HPR : Hid (∀ V, Below w.heap.size w V → Calls Tryz.prog 14 #[.agg #[.slice A4 n4 c4, .int .i64 t.preempts, .int .i64 t.shifts], .agg #[.int .i64 m.kind, .int .i64 m.pod, .int .i64 m.node, .int .i64 m.over]] V fun e w' => e = .returned (prioV (prioD t.pods m)) ∧ Below V.heap.size V w') := fun V hV => by
    have k := h.at hV
    exact priorCheck_any t.pods m A4 n4 c4 (.int .i64 t.preempts) (.int .i64 t.shifts) V k.e4 (by have := k.l4; omega) k.r4
  have HFA : Hid ((makeD ns x.wants t m).2 = 0 → ∀ V A c, Below w.heap.size w V → Out 8 cellsP V (makeD ns x.wants t m).1.pods A c → Calls Tryz.prog 15 #[.agg #[.slice A1 n1 c1, .slice A2 n2 c2, .slice A3 n3 c3], .agg #[.slice A5 n5 c5, .int .i64 x.preempts, .int .i64 x.shifts], .agg #[.slice A (makeD ns x.wants t m).1.pods.length c, .int .i64 (makeD ns x.wants t m).1.preempts, .int .i64 (makeD ns x.wants t m).1.shifts]] V
      fun e w' => e = .returned (codeV (codeS ns ls x (makeD ns x.wants t m).1)) ∧ Below V.heap.size V w') := fun h0 V A c hV hO => by
    have k := h.at hV
    obtain ⟨hok, hlen⟩ := made_ok k.no hxo k.lo h0
    exact stepFault_any ns ls x (makeD ns x.wants t m).1 A1 A2 A3 A A5 n1 c1 n2 c2 n3 c3 _ c n5 c5 V ⟨k.g, k.no, hok, k.e1, k.l1, k.r1, k.e2, k.l2, k.r2, rfl, by rw [hlen, ← k.e4]; exact k.l4, hO.1, hO.2.2.2⟩
  have H1 := Lib.hid (do_no1 (ns := ns) (ls := ls) (x := x) (t := t) (m := m))
  have H2 := Lib.hid (do_no2 (ns := ns) (ls := ls) (x := x) (t := t) (m := m))
  have H3 := Lib.hid (do_no3 (ns := ns) (ls := ls) (x := x) (t := t) (m := m))
  have H4 := Lib.hid (do_yes (ns := ns) (ls := ls) (x := x) (t := t) (m := m))
  generalize doD ns ls x t m = r at *
  generalize codeS ns ls x (makeD ns x.wants t m).1 = cs at *
  generalize makeD ns x.wants t m = mk at *
  generalize prioD t.pods m = pr at *
  generalize x.preempts = x1 at *
  generalize x.shifts = x2 at *
  generalize t.preempts = t1 at *
  generalize t.shifts = t2 at *
  obtain ⟨u, mc⟩ := mk
  dsimp only at HMK HFA H1 H2 H3 H4
  have HM0 := Lib.hid M0
  clear h h04 hn5 hr5 hxo M0
  go_enter Tryz.func8, Tryz.ntmps8
  go_wp2_with fail
  refine (HMK.out _ HM0.out.below).mono ?_
  rintro e w1 ⟨_, rfl, A6, c6, rfl, ho, hfr, hb1⟩
  have M1 := HM0.out.keep hb1
  have hfr1 : ∀ a, A6 = some a → a.block ≠ w.heap.size + 4 := fun a ha => by have h1 := hfr a ha; have h2 := HM0.out.res.lt; omega
  have hfr2 : ∀ a, A6 = some a → w.heap.size ≤ a.block := fun a ha => Nat.le_trans HM0.out.below.size (hfr a ha)
  have HF := Lib.hid (And.intro hfr1 hfr2)
  have B1 := Bf.new w1 [.slice A6 u.pods.length c6, .int .i64 u.preempts, .int .i64 u.shifts] 31 rfl
  have k2 : Below w1.heap.size w1 (w1.alloc (.cells #[.slice A6 u.pods.length c6, .int .i64 u.preempts, .int .i64 u.shifts] 31)) := (Below.refl _ w1).alloc (Nat.le_refl _) _
  have M2 := M1.keep k2
  have HO2 := Lib.hid (ho.later k2)
  have HM2 := Lib.hid M2
  have HB1 := Lib.hid B1
  have HMLT := Lib.hid (show w.heap.size ≤ w1.heap.size from M1.below.size)
  obtain ⟨a0, a1, a2⟩ := M1.facts.2.2.1
  obtain ⟨r0, r1, r2⟩ := M2.facts2.1
  obtain ⟨z0, z1, z2⟩ := M2.facts2.2.1
  have hz := M2.facts2.2.2
  clear ho hfr hb1 hfr1 hfr2 M1 k2 HM0 HMK a0 a1 a2
  by_cases hc : mc = 0
  · subst hc
    have HFA' := Lib.hid (HFA.out rfl)
    have HP := Lib.hid (HPR.out _ HM2.out.below)
    obtain ⟨⟨a0, a1, a2⟩, ⟨a3, a4, a5⟩, ⟨a6, a7, a8⟩, a9, a10, a11, a12⟩ := M2.facts
    rw [codeV_zero]
    clear HFA HPR M2 B1
    go_wp2_with fail
    refine HP.out.mono ?_
    rintro e w2 ⟨rfl, hb2⟩
    have M3 := HM2.out.keep hb2
    have B3 := HB1.out.below hb2 HB1.out.lt
    have HO3 := Lib.hid (HO2.out.later hb2)
    have HM3 := Lib.hid M3
    have HB3 := Lib.hid B3
    clear hb2 HP HM2 HO2 HB1 a0 a1 a2 a3 a4 a5 a6 a7 a8 a9 a10 a11 a12 r0 r1 r2 z0 z1 z2 hz
    obtain ⟨⟨a0, a1, a2⟩, ⟨a3, a4, a5⟩, ⟨a6, a7, a8⟩, a9, a10, a11, a12⟩ := M3.facts
    obtain ⟨r0, r1, r2⟩ := M3.facts2.1
    obtain ⟨z0, z1, z2⟩ := M3.facts2.2.1
    have hz := M3.facts2.2.2
    cases pr with
    | true =>
      have HE := Lib.hid (H2.out (by trivial) (by trivial))
      have hpv : prioV true = .iface 67 (.int .i64 14) := rfl
      rw [hpv]
      clear M3 B3 hpv
      go_wp2
      refine bodyPost_ret (v := .tuple #[stateV none 0 0 0 0, .iface 67 (.int .i64 14)]) ?_ rfl ⟨_, by rw [HE.out]; rfl, ?_⟩
      · simp [results, Tryz.results8, go_sem, *]
      · rw [HE.out]; exact HM3.out.no
    | false =>
      have hpv : prioV false = .nilIface := rfl
      rw [hpv]
      obtain ⟨b0, b1, b2, b3⟩ := B3.cells3
      have HFF := Lib.hid (HFA'.out w2 A6 c6 HM3.out.below HO3.out)
      clear M3 B3 hpv HFA'
      go_wp2_with fail
      refine HFF.out.mono ?_
      rintro e w3 ⟨rfl, hb3⟩
      have M4 := HM3.out.keep hb3
      have B4 := HB3.out.below hb3 HB3.out.lt
      have HO4 := Lib.hid (HO3.out.later hb3)
      have HM4 := Lib.hid M4
      clear hb3 HFF HM3 HO3 HB3 b0 b1 b2 b3 a0 a1 a2 a3 a4 a5 a6 a7 a8 a9 a10 a11 a12 r0 r1 r2 z0 z1 z2 hz
      obtain ⟨r0, r1, r2⟩ := M4.facts2.1
      obtain ⟨z0, z1, z2⟩ := M4.facts2.2.1
      have hz := M4.facts2.2.2
      obtain ⟨b0, b1, b2, b3⟩ := B4.cells3
      clear M4 B4
      by_cases hs : cs = 0
      · have HE := Lib.hid (H4.out (by trivial) (by trivial) hs)
        rw [hs, codeV_zero]
        clear hs
        go_wp2
        refine bodyPost_ret (v := .tuple #[stateV A6 u.pods.length c6 u.preempts u.shifts, .nilIface]) ?_ rfl ⟨_, by rw [HE.out]; rfl, ?_⟩
        · simp [results, Tryz.results8, go_sem, *]
        · rw [HE.out]
          exact ⟨A6, c6, rfl, ((HO4.out.set (p := ⟨w.heap.size + 4, 0, none⟩) HF.out.1 _).set (p := ⟨w.heap.size + 4, 1, none⟩) HF.out.1 _).set (p := ⟨w.heap.size + 4, 2, none⟩) HF.out.1 _, HF.out.2, ((HM4.out.below.setCell (by simp; omega) _).setCell (by simp; omega) _).setCell (by simp; omega) _⟩
      · have HE := Lib.hid (H3.out (by trivial) (by trivial) hs)
        have HC := Lib.hid (codeV_pos hs)
        rw [codeV_pos hs]
        clear hs
        go_wp2
        refine bodyPost_ret (v := .tuple #[stateV none 0 0 0 0, .iface 67 (.int .i64 cs)]) ?_ rfl ⟨_, by rw [HE.out, HC.out], ?_⟩
        · simp [results, Tryz.results8, go_sem, *]
        · rw [HE.out]; exact HM4.out.no
  · have HE := Lib.hid (H1.out hc)
    have HC := Lib.hid (codeV_pos hc)
    rw [codeV_pos hc]
    clear hc M2 B1
    go_wp2
    refine bodyPost_ret (v := .tuple #[stateV none 0 0 0 0, .iface 67 (.int .i64 mc)]) ?_ rfl ⟨_, by rw [HE.out, HC.out], ?_⟩
    · simp [results, Tryz.results8, go_sem, *]
    · rw [HE.out]; exact HM2.out.no
end Go.Proofs.YtkipfalolfleaaaGreatDoor

/- The proposals, one by one: the program's proposals of layer 16, and what the iterator that it hands back promises. -/
namespace Go.Proofs.YtkipfalolfleaaaGreatDoor
set_option linter.unusedSimpArgs false
open Go.RowKit Go.Shelf
set_option linter.unusedVariables false

attribute [local go_sem] Oper.semAt_some

/-- What is handed in, to go through proposals. -/
structure TidyArgs (ns : List NodeD) (ls : List LoadD) (x : SpecD) (t : StateD) (A1 A2 A4 A5 : Option Addr) (n1 n2 n4 c4 n5 : Nat) (w : World) : Prop where
  a : SafeArgs ns ls t.pods A1 A2 A4 n1 n2 n4 c4 w
  h04 : A4 = none → c4 = 0
  e5 : n5 = x.wants.length
  l5 : n5 ≤ 400
  r5 : Recs 6 cellsW w w.heap.size A5 x.wants
  xo : ∀ y ∈ x.wants, y.Ok
theorem TidyArgs.at {ns : List NodeD} {ls : List LoadD} {x : SpecD} {t : StateD} {A1 A2 A4 A5 : Option Addr} {n1 n2 n4 c4 n5 : Nat} {w V : World} (h : TidyArgs ns ls x t A1 A2 A4 A5 n1 n2 n4 c4 n5 w) (hV : Below w.heap.size w V) : TidyArgs ns ls x t A1 A2 A4 A5 n1 n2 n4 c4 n5 V :=
  ⟨h.a.at hV, h.h04, h.e5, h.l5, (h.r5.below hV (Nat.le_refl _)).more hV.size, h.xo⟩

theorem Bf.but {V V' : World} {b : Nat} {cs : List Value} {O : Nat → Prop} (h : Bf V b cs) (hb : But O V V') (hO : ¬ O b) : Bf V' b cs :=
  ⟨Nat.lt_of_lt_of_le h.lt hb.size, fun j u hu => (hb.cell (p := ⟨b, j, none⟩) h.lt hO).trans (h.cell j u hu), fun o => (hb.frozen (p := ⟨b, o, none⟩) h.lt hO).trans (h.frozen o)⟩
theorem Recs.but {α : Type} {size : Nat} {cells : α → List Value} {V V' : World} {A : Option Addr} {xs : List α} {O : Nat → Prop} (h : Recs size cells V V.heap.size A xs) (hb : But O V V') (hO : ∀ a, A = some a → ¬ O a.block) : Recs size cells V' V'.heap.size A xs := by
  rcases h with h | ⟨b, o, h1, h2, h3⟩
  · exact .inl h
  · exact .inr ⟨b, o, h1, Nat.lt_of_lt_of_le h2 hb.size, fun i hi j u hu => (hb.cell (p := ⟨b, o + i * size + j, none⟩) h2 (show ¬ O b from hO _ h1)).trans (h3 i hi j u hu)⟩
theorem Out.but {α : Type} {size : Nat} {cells : α → List Value} {V V' : World} {A : Option Addr} {c : Nat} {xs : List α} {O : Nat → Prop} (h : Out size cells V xs A c) (hb : But O V V') (hO : ∀ a, A = some a → ¬ O a.block) : Out size cells V' xs A c :=
  ⟨h.1, h.2.1, h.2.2.1, Recs.but h.2.2.2 hb hO⟩

/-- A proposal as it is handed on: the move, the state behind it, and where its pods lie. -/
abbrev PropQ : Type := (MoveD × StateD) × Option Addr × Nat
def encQ (x : PropQ) : Array Value := #[aggM x.1.1, stateV x.2.1 x.1.2.pods.length x.2.2 x.1.2.preempts x.1.2.shifts]
def AtQ (x : PropQ) (base : Nat) (V : World) : Prop := Out 8 cellsP V x.1.2.pods x.2.1 x.2.2 ∧ ∀ a, x.2.1 = some a → base ≤ a.block
/-- What stands while the proposals are gone through. -/
structure ItQ (J : List PropQ → (Nat → Prop) → World → Prop) (a b c : List Value) (w : World) (B base : Nat) (Au : Option Addr) (us : List Int) (pre : List PropQ) (O : Nat → Prop) (V : World) : Prop where
  j : J pre O V
  lt : ∀ k, O k → k < V.heap.size
  d : ∀ k, O k → w.heap.size ≤ k ∧ ¬ (B ≤ k ∧ k < B + 3)
  one : Bf V B a
  two : Bf V (B + 1) b
  three : Bf V (B + 2) c
  below : Below w.heap.size w V
  base : base ≤ V.heap.size
  us : Recs 1 cellQ V V.heap.size Au us
  u : ∀ k, Au = some k → ¬ O k.block
section
variable {J : List PropQ → (Nat → Prop) → World → Prop} {a b c : List Value} {w V V' : World} {B base : Nat} {Au : Option Addr} {us : List Int} {pre pre' : List PropQ} {O O' : Nat → Prop}
theorem ItQ.keep (hJ : ∀ s O A B, J s O A → Below A.heap.size A B → J s O B) (h : ItQ J a b c w B base Au us pre O V) (hb : Below V.heap.size V V') : ItQ J a b c w B base Au us pre O V' :=
  ⟨hJ _ _ _ _ h.j hb, fun k hk => Nat.lt_of_lt_of_le (h.lt k hk) hb.size, h.d, h.one.below hb h.one.lt, h.two.below hb h.two.lt, h.three.below hb h.three.lt, h.below.trans (hb.mono h.below.size), Nat.le_trans h.base hb.size,
    (h.us.below hb (Nat.le_refl _)).more hb.size, h.u⟩
theorem ItQ.round (h : ItQ J a b c w B base Au us pre O V) (hb : But O V V') (hj : J pre' O' V') (ho : ∀ k, O' k → k < V'.heap.size ∧ (O k ∨ V.heap.size ≤ k)) (hu : ∀ k, Au = some k → k.block < V.heap.size) : ItQ J a b c w B base Au us pre' O' V' := by
  have h1 : ¬ O B := fun e => (h.d _ e).2 ⟨Nat.le_refl _, by omega⟩
  have h2 : ¬ O (B + 1) := fun e => (h.d _ e).2 ⟨by omega, by omega⟩
  have h3 : ¬ O (B + 2) := fun e => (h.d _ e).2 ⟨by omega, by omega⟩
  have hlt := h.three.lt
  refine ⟨hj, fun k hk => (ho k hk).1, fun k hk => ?_, h.one.but hb h1, h.two.but hb h2, h.three.but hb h3, h.below.trans (hb.below h.below.size fun k hk => (h.d k hk).1), Nat.le_trans h.base hb.size, Recs.but h.us hb h.u, fun k hk hc => ?_⟩
  · rcases (ho k hk).2 with e | e
    · exact h.d k e
    · exact ⟨Nat.le_trans h.below.size e, by omega⟩
  · rcases (ho _ hc).2 with e | e
    · exact h.u k hk e
    · have := hu k hk; omega
end

/-! What has come, once so much is over. -/
abbrev outQ (pre : List PropQ) : List (MoveD × StateD) := pre.map (·.1)
theorem so_less {pre : List PropQ} {q : PropQ} {l : List (MoveD × StateD)} (h : outQ pre ++ [q.1] <+: l) : pre.length < l.length := by
  have := h.length_le
  simp at this
  omega
end Go.Proofs.YtkipfalolfleaaaGreatDoor

/- What the iterator that goes through the proposals promises, for every loop over it. -/
namespace Go.Proofs.YtkipfalolfleaaaGreatDoor
set_option linter.unusedSimpArgs false
open Go.RowKit Go.Shelf
set_option linter.unusedVariables false

attribute [local go_sem] Oper.semAt_some

theorem do_good {r : StateD × Int} {w : World} (h : r.2 = 0) {e : Ending} {w' : World} (hd : DoTo r w e w') : ∃ A c, e = .returned (.tuple #[stateV A r.1.pods.length c r.1.preempts r.1.shifts, .nilIface]) ∧ Out 8 cellsP w' r.1.pods A c ∧ (∀ a, A = some a → w.heap.size ≤ a.block) ∧ Below w.heap.size w w' := by
  obtain ⟨v, he, A, c, rfl, h1, h2, h3⟩ := hd
  exact ⟨A, c, by rw [he, h, codeV_zero], h1, h2, h3⟩
theorem do_bad {r : StateD × Int} {w : World} (h : r.2 ≠ 0) {e : Ending} {w' : World} (hd : DoTo r w e w') : ∃ A c, e = .returned (.tuple #[stateV A r.1.pods.length c r.1.preempts r.1.shifts, .iface 67 (.int .i64 r.2)]) ∧ Out 8 cellsP w' r.1.pods A c ∧ (∀ a, A = some a → w.heap.size ≤ a.block) ∧ Below w.heap.size w w' := by
  obtain ⟨v, he, A, c, rfl, h1, h2, h3⟩ := hd
  exact ⟨A, c, by rw [he, codeV_pos h], h1, h2, h3⟩
theorem Bf.cells4q {V : World} {b : Nat} {m : MoveD} (h : Bf V b (cellsM m)) : (V.cell? ⟨b, 0, none⟩ = some (.int .i64 m.kind) ∧ V.cell? ⟨b, 1, none⟩ = some (.int .i64 m.pod)) ∧ V.cell? ⟨b, 2, none⟩ = some (.int .i64 m.node) ∧ V.cell? ⟨b, 3, none⟩ = some (.int .i64 m.over) ∧ b < V.heap.size :=
  ⟨⟨h.cell 0 _ rfl, h.cell 1 _ rfl⟩, h.cell 2 _ rfl, h.cell 3 _ rfl, h.lt⟩

end Go.Proofs.YtkipfalolfleaaaGreatDoor

/- The first proposal, and the state behind it: the program's first of layer 16. -/
namespace Go.Proofs.YtkipfalolfleaaaGreatDoor
set_option linter.unusedSimpArgs false
open Go.RowKit Go.Shelf
set_option linter.unusedVariables false

attribute [local go_sem] Oper.semAt_some

/-- What stands ahead of the one round, what the round is given, and what it leaves. -/
def FstO (g : Nat) (k : Nat) : Prop := k = g + 3 ∨ k = g + 4 ∨ k = g + 5
def FstI (w : World) (pre : List PropQ) (O : Nat → Prop) (V : World) : Prop :=
  pre = [] ∧ O = FstO w.heap.size ∧ Bf V (w.heap.size + 3) (cellsM ⟨0, 0, 0, 0⟩) ∧ Bf V (w.heap.size + 4) [.slice none 0 0, .int .i64 0, .int .i64 0] ∧ Bf V (w.heap.size + 5) [.bool false] ∧ Below w.heap.size w V
def FstX (w : World) (base : Nat) (pre : List PropQ) (V : World) : Prop :=
  ∃ q, pre = [q] ∧ Out 8 cellsP V q.1.2.pods q.2.1 q.2.2 ∧ (∀ a, q.2.1 = some a → base ≤ a.block) ∧ Bf V (w.heap.size + 3) (cellsM q.1.1) ∧ Bf V (w.heap.size + 4) [.slice q.2.1 q.1.2.pods.length q.2.2, .int .i64 q.1.2.preempts, .int .i64 q.1.2.shifts] ∧ Bf V (w.heap.size + 5) [.bool true] ∧ Below w.heap.size w V
def FstA (tm : Nat → Nat → PropQ → Array Value) (base : Nat) (q : PropQ) (a' : Act) (V : World) : Prop :=
  ∃ b1 b2, base ≤ b1 ∧ base ≤ b2 ∧ Bf V b1 (cellsM q.1.1) ∧ Bf V b2 [.slice q.2.1 q.1.2.pods.length q.2.2, .int .i64 q.1.2.preempts, .int .i64 q.1.2.shifts] ∧ Out 8 cellsP V q.1.2.pods q.2.1 q.2.2 ∧ (∀ a, q.2.1 = some a → base ≤ a.block) ∧ a' = { tmps := tm b1 b2 q, defers := [] }
theorem FstI.but {w W A B : World} {pre : List PropQ} {O : Nat → Prop} (hW : w.heap.size + 6 ≤ W.heap.size) (h : FstI w pre O A) (hb : But (RecQ W) A B) : FstI w pre O B := by
  obtain ⟨h1, h2, h3, h4, h5, h6⟩ := h
  exact ⟨h1, h2, h3.but hb (fun e => by unfold RecQ at e; omega), h4.but hb (fun e => by unfold RecQ at e; omega), h5.but hb (fun e => by unfold RecQ at e; omega), h6.trans (hb.below h6.size fun k hk => by unfold RecQ at hk; omega)⟩
theorem FstX.but {w W A B : World} {pre : List PropQ} (hW : w.heap.size + 6 ≤ W.heap.size) (h : FstX w (W.heap.size + 2) pre A) (hb : But (RecQ W) A B) : FstX w (W.heap.size + 2) pre B := by
  obtain ⟨q, h1, h2, h0, h3, h4, h5, h6⟩ := h
  exact ⟨q, h1, h2.but hb (fun a ha e => by have := h0 a ha; unfold RecQ at e; omega), h0, h3.but hb (fun e => by unfold RecQ at e; omega), h4.but hb (fun e => by unfold RecQ at e; omega), h5.but hb (fun e => by unfold RecQ at e; omega), h6.trans (hb.below h6.size fun k hk => by unfold RecQ at hk; omega)⟩
theorem FstA.but {W A B : World} {tm : Nat → Nat → PropQ → Array Value} {q : PropQ} {a' : Act} (h : FstA tm (W.heap.size + 2) q a' A) (hb : But (RecQ W) A B) : FstA tm (W.heap.size + 2) q a' B := by
  obtain ⟨b1, b2, k1, k2, h1, h2, h3, h4, h5⟩ := h
  exact ⟨b1, b2, k1, k2, h1.but hb (fun e => by unfold RecQ at e; omega), h2.but hb (fun e => by unfold RecQ at e; omega), h3.but hb (fun a ha e => by have := h4 a ha; unfold RecQ at e; omega), h4, h5⟩
theorem But.setO {O : Nat → Prop} {A B : World} (h : But O A B) {p : Addr} (hp : O p.block) (v : Value) : But O A (B.setCell p v) := h.trans (.set p v hp) fun _ _ h => h
end Go.Proofs.YtkipfalolfleaaaGreatDoor

/- All proposals: the program's Propose of layer 16. -/
namespace Go.Proofs.YtkipfalolfleaaaGreatDoor
set_option linter.unusedSimpArgs false
open Go.RowKit Go.Shelf
set_option linter.unusedVariables false

attribute [local go_sem] Oper.semAt_some

/-! Where an append's row lies: where it lay, or in new memory. -/
theorem run_append_where {P : Program} (w : World) (base : Nat) (t ty e : TypeId) (i : TypeInfo) (z : Value) (size bytes : Nat) (h1 : P.underlying t = some (.slice e)) (h2 : P.info? e = some i) (h3 : i.zero = some z) (h4 : i.size = size) (h5 : i.bytes = bytes) (h6 : z.cells.size = size) (h7 : 0 < size)
    (v : Value) (k : Nat) (xs : List Value) (hown : w.ownsRow base e size v k xs) (ad : Addr) (m c : Nat) (news : List Value) (hn : news.length = m * size) (hc : ∀ j u, news[j]? = some u → w.cell? (ad.add j) = some u) (h1c : ∀ u ∈ news, u.oneCell' = true)
    (b1 : k + m ≤ maxLen) (b2 : (k + m) * bytes ≤ 140737488355328) (b3 : base ≤ w.heap.size) :
    ∃ v' w', (Builtin.append_ #[t, t] ty #[v, .slice (some ad) m c]).run P w = .ok v' w' ∧ w'.ownsRow base e size v' (k + m) (xs ++ news) ∧ w.grownBy w' v.ownBlock ∧ ∀ g, v'.ownBlock = some g → v.ownBlock = some g ∨ w.heap.size ≤ g := by
  obtain ⟨v', w', hr, r1, r2, _⟩ := run_append_own (P := P) w base t ty e i z size bytes h1 h2 h3 h4 h5 h6 h7 v k xs hown ad m c news hn hc h1c b1 b2 b3
  refine ⟨v', w', hr, r1, r2, fun g hg => ?_⟩
  rcases hown.2 with ⟨rfl, rfl⟩ | ⟨g0, cap, cur, rfl, hbg, hg0, hnc, hcm, hcs, htake⟩
  · have hx : xs = [] := List.eq_nil_of_length_eq_zero (by simpa using hown.1)
    subst hx
    obtain ⟨v2, w2, hr2, q1, _, _⟩ := run_append_own (P := P) w w.heap.size t ty e i z size bytes h1 h2 h3 h4 h5 h6 h7 (.slice none 0 0) 0 [] (World.ownsRow_nil _ _ _ _) ad m c news hn hc h1c b1 b2 (Nat.le_refl _)
    rw [hr] at hr2
    injection hr2 with e1 e2
    subst e1 e2
    exact .inr (q1.lt g hg).1
  · by_cases hroom : k + m ≤ cap
    · obtain ⟨w2, hr2, _, _⟩ := run_append_fits (P := P) w base t ty e i size h1 h2 h4 g0 k cap xs hown ad m c news hn hc h1c hroom
      rw [hr] at hr2
      injection hr2 with e1 _
      subst e1
      exact .inl hg
    · subst h4 h5
      have hr2 := run_append_grow (P := P) w t ty e i z h1 h2 h3 ⟨g0, 0, none⟩ k cap xs hown.1 (hown.cells (g := g0) rfl) ad m c news hn hc (by omega) (by unfold maxLen at b1; omega) (growslice_fits (by omega) b2)
      rw [hr] at hr2
      injection hr2 with e1 _
      subst e1
      have : w.heap.size = g := by simpa [Value.ownBlock] using hg
      exact .inr (by omega)
theorem wpListIn_append_where {F : Fence} {n : Nat} {P : Program} (w : World) {ops : Array Oper} {rest : List Oper} {o : Oper} {a : Act} {Q : Exit → Act → World → Prop}
    (hg : o.guard = none) (s x : Operand) (t : TypeId) (hop : o.op = Op.call { callee := Callee.builtin Builtin.append, args := #[s, x], argTypes := #[t, t] })
    (base : Nat) (e : TypeId) (i : TypeInfo) (z : Value) (size bytes : Nat) (h1 : P.underlying t = some (.slice e)) (h2 : P.info? e = some i) (h3 : i.zero = some z) (h4 : i.size = size) (h5 : i.bytes = bytes) (h6 : z.cells.size = size) (h7 : 0 < size)
    (v : Value) (k : Nat) (xs : List Value) (hs : a.eval s = v) (hown : w.ownsRow base e size v k xs) (ad : Addr) (m c : Nat) (news : List Value) (hx : a.eval x = .slice (some ad) m c) (hn : news.length = m * size)
    (hc : ∀ j u, news[j]? = some u → w.cell? (ad.add j) = some u) (h1c : ∀ u ∈ news, u.oneCell' = true) (b1 : k + m ≤ maxLen) (b2 : (k + m) * bytes ≤ 140737488355328) (b3 : base ≤ w.heap.size)
    (hK : ∀ v' w', w'.ownsRow base e size v' (k + m) (xs ++ news) → w.grownBy w' v.ownBlock → (∀ g, v'.ownBlock = some g → v.ownBlock = some g ∨ w.heap.size ≤ g) → wpListIn F n P ops Q rest (a.put o.dst v') w') :
    wpListIn F n P ops Q (o :: rest) a w := by
  refine wpListIn_plain hg fun K hK' => ?_
  obtain ⟨v', w', hrun, r1, r2, r3⟩ := run_append_where (P := P) w base t o.type e i z size bytes h1 h2 h3 h4 h5 h6 h7 v k xs hown ad m c news hn hc h1c b1 b2 b3
  unfold Oper.wpIn
  refine ⟨?_, ?_⟩
  · simp [Oper.about, hop, resolve, Target.leads, Sem.run_pure]
  · rw [Oper.semAt_plain F _ _ (by rw [hop]; intro c hc'; cases hc')]
    simp [execOp, hop, resolve, invoke, builtin, hs, hx, hrun, Result.andThen]
    exact hK' _ _ (hK v' w' r1 r2 r3)

theorem flat_lenQ {α β : Type} {f : α → List β} {m : Nat} : ∀ {l : List α}, (∀ y ∈ l, (f y).length ≤ m) → (l.flatMap f).length ≤ l.length * m
  | [], _ => by simp
  | y :: r, h => by
    rw [List.flatMap_cons, List.length_append, List.length_cons, Nat.add_mul, Nat.one_mul]
    have h1 := h y (by simp)
    have h2 := flat_lenQ (f := f) (m := m) (l := r) fun z hz => h z (by simp [hz])
    omega
/-! What stands between two rounds. -/
theorem add_zeroQ (b j : Nat) : (⟨b, 0, none⟩ : Addr).add j = ⟨b, j, none⟩ := by unfold Addr.add; split <;> simp_all
theorem own_but {A B : World} {O : Nat → Prop} {base n size : Nat} {e : TypeId} {v : Value} {xs : List Value} (h : A.ownsRow base e size v n xs) (hb : But O A B) (hO : ∀ k, v.ownBlock = some k → ¬ O k) : B.ownsRow base e size v n xs := by
  refine ⟨h.1, ?_⟩
  rcases h.2 with h0 | ⟨g, cap, cur, rfl, h1, hg, rest⟩
  · exact .inl h0
  · exact .inr ⟨g, cap, cur, rfl, h1, (hb.block g (Array.getElem?_eq_some_iff.1 hg).1 (hO g rfl)).trans hg, rest⟩
theorem But.grown {O : Nat → Prop} {A B : World} {row : Option Nat} (h : A.grownBy B row) (hO : ∀ k, row = some k → O k) : But O A B :=
  ⟨h.os, h.tape, h.output, h.size, fun k hk hn => h.block k hk fun e => hn (hO k e.symm)⟩
abbrev rowQ (pre : List PropQ) : List Value := pre.flatMap fun q => cellsM q.1.1
theorem rowQ_snoc (pre : List PropQ) (q : PropQ) : rowQ (pre ++ [q]) = rowQ pre ++ cellsM q.1.1 := by simp [rowQ]
def PrpI (w W : World) (pre : List PropQ) (O : Nat → Prop) (V : World) : Prop :=
  ∃ v, (O = fun k => k = w.heap.size + 3 ∨ v.ownBlock = some k) ∧ Boxed V (w.heap.size + 3) 52 v ∧ V.ownsRow (W.heap.size + 2) 33 4 v pre.length (rowQ pre) ∧ Below w.heap.size w V
def PrpA (tm : Nat → PropQ → Array Value) (base : Nat) (q : PropQ) (a' : Act) (V : World) : Prop := ∃ b1, base ≤ b1 ∧ Bf V b1 (cellsM q.1.1) ∧ a' = { tmps := tm b1 q, defers := [] }
theorem PrpI.but {w W A B : World} {pre : List PropQ} {O : Nat → Prop} (hW : w.heap.size + 4 ≤ W.heap.size) (h : PrpI w W pre O A) (hb : But (RecQ W) A B) : PrpI w W pre O B := by
  obtain ⟨v, h1, h2, h3, h4⟩ := h
  exact ⟨v, h1, (hb.block _ h2.lt (fun e => by unfold RecQ at e; omega)).trans h2, own_but h3 hb (fun k hk e => by have := (h3.lt k hk).1; unfold RecQ at e; omega), h4.trans (hb.below h4.size fun k hk => by unfold RecQ at hk; omega)⟩
theorem PrpA.but {W A B : World} {tm : Nat → PropQ → Array Value} {q : PropQ} {a' : Act} (h : PrpA tm (W.heap.size + 2) q a' A) (hb : But (RecQ W) A B) : PrpA tm (W.heap.size + 2) q a' B := by
  obtain ⟨b1, k1, h1, h5⟩ := h
  exact ⟨b1, k1, h1.but hb (fun e => by unfold RecQ at e; omega), h5⟩
theorem infoMoveQ : (Tryz.prog.info? 33).map (fun i => (i.zero, i.size, i.bytes)) = some (some (.agg #[.int .i64 0, .int .i64 0, .int .i64 0, .int .i64 0]), 4, 32) := by kernel_rfl
theorem infoQ {P : Program} {e : TypeId} {z : Value} {size bytes : Nat} (h : (P.info? e).map (fun i => (i.zero, i.size, i.bytes)) = some (some z, size, bytes)) : ∃ i, P.info? e = some i ∧ i.zero = some z ∧ i.size = size ∧ i.bytes = bytes := by
  cases hi : P.info? e with
  | none => rw [hi] at h; cases h
  | some i =>
    rw [hi] at h
    have h := Option.some.inj h
    simp only [Prod.mk.injEq] at h
    exact ⟨i, rfl, h⟩

end Go.Proofs.YtkipfalolfleaaaGreatDoor

/- The library's generic functions at records as they stand in this program: the tables of numbers under which its contracts hold here. -/
namespace Go.Proofs.YtkipfalolfleaaaGreatDoor
set_option linter.unusedSimpArgs false
open Go.Shelf
def Tryz.laysSortM_ren : Go.Shelf.Ren := ⟨fun | 6 => 42 | 15 => 63 | 14 => 62 | 28 => 84 | 29 => 85 | 20 => 76 | 21 => 77 | 22 => 78 | 23 => 79 | 24 => 80 | 25 => 81 | 26 => 82 | 27 => 83 | 46 => 94 | 47 => 95 | 48 => 96 | 49 => 97 | 50 => 98 | 57 => 106 | n => n, fun | 22 => 52 | 24 => 33 | 25 => 101 | 3 => 3 | 39 => 125 | 0 => 0 | 53 => 149 | 55 => 36 | 4 => 4 | 46 => 142 | 45 => 141 | 50 => 146 | 5 => 5 | 9 => 9 | 66 => 159 | 70 => 163 | 76 => 174 | 77 => 175 | n => n, fun | n => n⟩
theorem Tryz.laysSortM : Go.Proofs.SlLaysF0.n6 Tryz.prog Tryz.laysSortM_ren := {
  mixed := by kernel_rfl
  f6 := ⟨Tryz.f42.name, by decide, Tryz.func42.trans (congrArg some (by kernel_rfl))⟩
  f14 := ⟨Tryz.f62.name, by decide, Tryz.func62.trans (congrArg some (by kernel_rfl))⟩
  f15 := Tryz.func63.trans (congrArg some (by kernel_rfl))
  f20 := ⟨Tryz.f76.name, by decide, Tryz.func76.trans (congrArg some (by kernel_rfl))⟩
  f21 := ⟨Tryz.f77.name, by decide, Tryz.func77.trans (congrArg some (by kernel_rfl))⟩
  f22 := ⟨Tryz.f78.name, by decide, Tryz.func78.trans (congrArg some (by kernel_rfl))⟩
  f23 := ⟨Tryz.f79.name, by decide, Tryz.func79.trans (congrArg some (by kernel_rfl))⟩
  f24 := ⟨Tryz.f80.name, by decide, Tryz.func80.trans (congrArg some (by kernel_rfl))⟩
  f25 := ⟨Tryz.f81.name, by decide, Tryz.func81.trans (congrArg some (by kernel_rfl))⟩
  f26 := ⟨Tryz.f82.name, by decide, Tryz.func82.trans (congrArg some (by kernel_rfl))⟩
  f27 := ⟨Tryz.f83.name, by decide, Tryz.func83.trans (congrArg some (by kernel_rfl))⟩
  f28 := Tryz.func84.trans (congrArg some (by kernel_rfl))
  f29 := Tryz.func85.trans (congrArg some (by kernel_rfl))
  f46 := ⟨Tryz.f94.name, by decide, Tryz.func94.trans (congrArg some (by kernel_rfl))⟩
  f47 := Tryz.func95.trans (congrArg some (by kernel_rfl))
  f48 := Tryz.func96.trans (congrArg some (by kernel_rfl))
  f49 := ⟨Tryz.f97.name, by decide, Tryz.func97.trans (congrArg some (by kernel_rfl))⟩
  f50 := ⟨Tryz.f98.name, by decide, Tryz.func98.trans (congrArg some (by kernel_rfl))⟩
  f57 := ⟨Tryz.f106.name, by decide, Tryz.func106.trans (congrArg some (by kernel_rfl))⟩
  t0 := Tryz.underlying0
  a0 := Tryz.isAgg0
  z0 := Tryz.sizeOf0
  v0 := Tryz.zeroValue0
  t3 := Tryz.underlying3
  a3 := Tryz.isAgg3
  z3 := Tryz.sizeOf3
  v3 := Tryz.zeroValue3
  t4 := Tryz.underlying4
  a4 := Tryz.isAgg4
  z4 := Tryz.sizeOf4
  v4 := Tryz.zeroValue4
  t5 := Tryz.underlying5
  a5 := Tryz.isAgg5
  z5 := Tryz.sizeOf5
  v5 := Tryz.zeroValue5
  t9 := Tryz.underlying9
  a9 := Tryz.isAgg9
  z9 := Tryz.sizeOf9
  v9 := Tryz.zeroValue9
  t22 := Tryz.underlying52
  a22 := Tryz.isAgg52
  z22 := Tryz.sizeOf52
  v22 := Tryz.zeroValue52
  t25 := Tryz.underlying101
  a25 := Tryz.isAgg101
  z25 := Tryz.sizeOf101
  v25 := Tryz.zeroValue101
  t39 := Tryz.underlying125
  a39 := Tryz.isAgg125
  z39 := Tryz.sizeOf125
  v39 := Tryz.zeroValue125
  t45 := Tryz.underlying141
  a45 := Tryz.isAgg141
  z45 := Tryz.sizeOf141
  v45 := Tryz.zeroValue141
  t46 := Tryz.underlying142
  a46 := Tryz.isAgg142
  z46 := Tryz.sizeOf142
  v46 := Tryz.zeroValue142
  t50 := Tryz.underlying146
  a50 := Tryz.isAgg146
  z50 := Tryz.sizeOf146
  v50 := Tryz.zeroValue146
  t53 := Tryz.underlying149
  a53 := Tryz.isAgg149
  z53 := Tryz.sizeOf149
  v53 := Tryz.zeroValue149
  t55 := Tryz.underlying36
  a55 := Tryz.isAgg36
  z55 := Tryz.sizeOf36
  v55 := Tryz.zeroValue36
  t66 := Tryz.underlying159
  a66 := Tryz.isAgg159
  z66 := Tryz.sizeOf159
  v66 := Tryz.zeroValue159
  t70 := Tryz.underlying163
  a70 := Tryz.isAgg163
  z70 := Tryz.sizeOf163
  v70 := Tryz.zeroValue163
  t76 := Tryz.underlying174
  a76 := Tryz.isAgg174
  z76 := Tryz.sizeOf174
  v76 := Tryz.zeroValue174
  t77 := Tryz.underlying175
  a77 := Tryz.isAgg175
  z77 := Tryz.sizeOf175
  v77 := Tryz.zeroValue175 }
end Go.Proofs.YtkipfalolfleaaaGreatDoor

/- The program's inOrder: of two that may go, which is the one ahead. It makes memory of its own, and turns nothing that there was. -/
namespace Go.Proofs.YtkipfalolfleaaaGreatDoor
set_option linter.unusedSimpArgs false
open Go.RowKit
set_option linter.unusedVariables false

/-- More of the tape is drawn, and there are new blocks: nothing else. -/
def Grew (W v : World) : Prop := ∃ q os, v = Sort.grow (W.drewN q) os
/-- What a region of loads and calls leaves. -/
def GrewK (W v : World) : Prop := (∀ b o, b < W.heap.size → v.cell? ⟨b, o, none⟩ = W.cell? ⟨b, o, none⟩) ∧ Grew W v
theorem Grew.refl (W : World) : Grew W W := ⟨0, #[], by rw [Sort.grow_empty]; rfl⟩
theorem Grew.trans {W v u : World} (h : Grew W v) (k : Grew v u) : Grew W u := by
  obtain ⟨q, os, rfl⟩ := h
  obtain ⟨q', os', rfl⟩ := k
  refine ⟨q + q', os ++ os', ?_⟩
  rw [← Sort.grow_grow]
  show Sort.grow (Sort.grow ((W.drewN q).drewN q') os) os' = _
  rw [show (W.drewN q).drewN q' = W.drewN (q + q') by simp [World.drewN, Nat.add_assoc]]
theorem Grew.drew (W : World) : Grew W W.drew := ⟨1, #[], by rw [Sort.grow_empty]; rfl⟩
theorem Grew.alloc (W : World) (o : Obj) : Grew W (W.alloc o) := ⟨0, #[o], by rw [Sort.alloc_eq_grow]; rfl⟩
theorem Grew.cells {W v : World} (h : Grew W v) : GrewK W v := by
  refine ⟨fun b o hb => ?_, h⟩
  obtain ⟨q, os, rfl⟩ := h
  exact Sort.cell?_grow (W.drewN q) os ⟨b, o, none⟩ hb
theorem GrewK.drew {W v : World} (h : GrewK W v) : GrewK W v.drew := (h.2.trans (Grew.drew v)).cells
theorem GrewK.alloc {W v : World} (h : GrewK W v) (o : Obj) : GrewK W (v.alloc o) := (h.2.trans (Grew.alloc v o)).cells

end Go.Proofs.YtkipfalolfleaaaGreatDoor

/- The program's ids: the Ids of a row of pods. -/
namespace Go.Proofs.YtkipfalolfleaaaGreatDoor
set_option linter.unusedSimpArgs false
open Go.RowKit
set_option linter.unusedVariables false

end Go.Proofs.YtkipfalolfleaaaGreatDoor

/- The program's Victims, from what slices.SortFunc comes to. -/
namespace Go.Proofs.YtkipfalolfleaaaGreatDoor
set_option linter.unusedSimpArgs false
open Go.RowKit
set_option linter.unusedVariables false

theorem own_below8 {w w' : World} {B base n size : Nat} {e : TypeId} {v : Value} {xs : List Value} (h : w.ownsRow base e size v n xs) (hb : Below B w w') (hB : w.heap.size ≤ B) : w'.ownsRow base e size v n xs := by
  refine ⟨h.1, ?_⟩
  rcases h.2 with h0 | ⟨g, cap, cur, hv, hb1, hg, rest⟩
  · exact .inl h0
  · have hlt : g < w.heap.size := (Array.getElem?_eq_some_iff.1 hg).1
    exact .inr ⟨g, cap, cur, hv, hb1, (hb.block g (by omega)).trans hg, rest⟩

end Go.Proofs.YtkipfalolfleaaaGreatDoor

/- slices.SortFunc at a row of pods of the call's own: a permutation, in the order of those that may go. -/
namespace Go.Proofs.YtkipfalolfleaaaGreatDoor
set_option linter.unusedSimpArgs false
open Go.RowKit Go.Shelf Go.Sort
set_option linter.unusedVariables false

instance : Inhabited PodD := ⟨noPod⟩
theorem podsHeld {w : World} {g : Nat} {cur : Array Value} {e : TypeId} {vs : List Value} (hb : w.heap[g]? = some (.cells cur e (0, 0))) (ht : cur.toList.take vs.length = vs) : Holds id w g 0 vs.toArray := by
  intro j hj
  have hj' : j < vs.length := by simpa using hj
  refine ⟨?_, by simp [World.frozen?, hb]⟩
  have h1 : (cur.toList.take vs.length)[j]? = vs[j]? := by rw [ht]
  rw [List.getElem?_take_of_lt hj'] at h1
  simp only [World.cell?, hb, Nat.zero_add]
  simp only [Option.isSome_none, Bool.false_eq_true, if_false]
  rw [← Array.getElem?_toList, h1]
  simp [hj']
theorem heap_sortedV {w : World} {g n : Nat} {os : Array Obj} {cur : Array Value} {e : TypeId} {fr : Nat × Nat} (d : Array Value) (hb : w.heap[g]? = some (.cells cur e fr)) :
    (grow (putRow id (Sort.ahead w n) g 0 d) os).heap[g]? = some (.cells (putCells id 0 d cur) e fr) := by
  have hg : g < w.heap.size := (Array.getElem?_eq_some_iff.1 hb).1
  rw [heap_grow_old _ _ (by simpa using hg)]
  simp [putRow, mapBlock, Sort.ahead, Array.getElem?_modify, hb, onCells]
theorem grownBy_sortedV {w : World} {g n : Nat} {os : Array Obj} (d : Array Value) : w.grownBy (grow (putRow id (Sort.ahead w n) g 0 d) os) (some g) := by
  refine ⟨rfl, rfl, rfl, by simp, fun k hk hne => ?_⟩
  rw [heap_grow_old _ _ (by simpa using hk)]
  have : g ≠ k := fun e => hne (by rw [e])
  simp [putRow, mapBlock, Sort.ahead, Array.getElem?_modify, this]
theorem take_putCellsV (cur : Array Value) (ts : List Value) (h : ts.length ≤ cur.size) : (putCells id 0 ts.toArray cur).toList.take ts.length = ts := by
  apply List.ext_getElem?
  intro j
  by_cases hj : j < ts.length
  · rw [List.getElem?_take_of_lt hj, Array.getElem?_toList]
    simp [putCells, hj, show j < cur.size by omega]
  · rw [List.getElem?_take_eq_none (by omega), List.getElem?_eq_none (by omega)]

end Go.Proofs.YtkipfalolfleaaaGreatDoor

namespace Go.Proofs.YtkipfalolfleaaaGreatDoor
set_option linter.unusedSimpArgs false
open Go.RowKit
set_option linter.unusedVariables false

def ltM (a b : MoveD) : Prop := a.kind < b.kind ∨ a.kind = b.kind ∧ (a.pod < b.pod ∨ a.pod = b.pod ∧ (a.node < b.node ∨ a.node = b.node ∧ a.over < b.over))
def ordM (a b : MoveD) : Int := orI (cmpI a.kind b.kind) (orI (cmpI a.pod b.pod) (orI (cmpI a.node b.node) (cmpI a.over b.over)))
theorem ordM_neg (a b : MoveD) : (ordM a b < 0) ↔ ltM a b := by
  unfold ordM ltM orI cmpI
  repeat' split
  all_goals omega
theorem ltM_total {a b : MoveD} (h : a ≠ b) : ltM a b ∨ ltM b a := by
  unfold ltM
  rcases Int.lt_trichotomy a.kind b.kind with h1 | h1 | h1
  · exact .inl (.inl h1)
  · rcases Int.lt_trichotomy a.pod b.pod with h2 | h2 | h2
    · exact .inl (.inr ⟨h1, .inl h2⟩)
    · rcases Int.lt_trichotomy a.node b.node with h3 | h3 | h3
      · exact .inl (.inr ⟨h1, .inr ⟨h2, .inl h3⟩⟩)
      · rcases Int.lt_trichotomy a.over b.over with h4 | h4 | h4
        · exact .inl (.inr ⟨h1, .inr ⟨h2, .inr ⟨h3, h4⟩⟩⟩)
        · exact absurd (by cases a; cases b; simp_all) h
        · exact .inr (.inr ⟨h1.symm, .inr ⟨h2.symm, .inr ⟨h3.symm, h4⟩⟩⟩)
      · exact .inr (.inr ⟨h1.symm, .inr ⟨h2.symm, .inl h3⟩⟩)
    · exact .inr (.inr ⟨h1.symm, .inl h2⟩)
  · exact .inr (.inl h1)
theorem ltM_irr (a : MoveD) : ¬ ltM a a := by unfold ltM; omega
theorem ltM_asymm {a b : MoveD} (h : ltM a b) : ¬ ltM b a := by unfold ltM at *; omega
theorem ltM_trans {a b c : MoveD} (h : ltM a b) (k : ltM b c) : ltM a c := by unfold ltM at *; omega
/-- Two rows of the same moves, both in order, are one row. -/
theorem sorted_one : ∀ {l m : List MoveD}, l.Perm m → l.Pairwise ltM → m.Pairwise ltM → l = m
  | [], m, hp, _, _ => by rw [List.nil_perm.1 hp]
  | a :: l, [], hp, _, _ => by cases List.perm_nil.1 hp
  | a :: l, b :: m, hp, hl, hm => by
    have h1 := List.pairwise_cons.1 hl
    have h2 := List.pairwise_cons.1 hm
    have e : a = b := by
      rcases List.mem_cons.1 (hp.subset (List.mem_cons_self : a ∈ a :: l)) with e | e
      · exact e
      · rcases List.mem_cons.1 (hp.symm.subset (List.mem_cons_self : b ∈ b :: m)) with e' | e'
        · exact e'.symm
        · exact absurd (h1.1 b e') (ltM_asymm (h2.1 a e))
    subst e
    rw [sorted_one (List.Perm.cons_inv hp) h1.2 h2.2]
theorem sorted_strict {l : List MoveD} (hn : l.Nodup) (h : l.Pairwise fun x y => ¬ ltM y x) : l.Pairwise ltM :=
  (List.pairwise_and_iff.2 ⟨hn, h⟩).imp fun ⟨a, b⟩ => (ltM_total a).resolve_right b

/-- The moves of a pod that is nowhere, of one that is somewhere, and all that are tried. -/
def comingD (ns : List NodeD) (ps : List PodD) (pod : Int) : List MoveD := ns.map (fun n => ⟨1, pod, n.id, 0⟩) ++ ps.map (fun q => ⟨4, pod, q.node, q.id⟩)
def leavingD (ns : List NodeD) (pod : Int) : List MoveD := ⟨2, pod, 0, 0⟩ :: ns.map (fun n => ⟨3, pod, n.id, 0⟩)
def rawP (ns : List NodeD) (ps : List PodD) (p : PodD) : List MoveD := if p.node = 0 then comingD ns ps p.id else leavingD ns p.id
def rawD (ns : List NodeD) (ps : List PodD) : List MoveD := ps.flatMap (rawP ns ps)
theorem rawP_len (ns : List NodeD) (ps : List PodD) (p : PodD) : (rawP ns ps p).length ≤ ns.length + ps.length + 1 := by
  unfold rawP comingD leavingD
  split <;> simp <;> omega
end Go.Proofs.YtkipfalolfleaaaGreatDoor
