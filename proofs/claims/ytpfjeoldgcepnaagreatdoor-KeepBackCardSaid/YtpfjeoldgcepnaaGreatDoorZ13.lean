/- Joined texts, part 13: PB XA XB CH VC. -/
import Derived.Test.YtpfjeoldgcepnaaGreatDoorZ12
import Derived.Test.YtpfjeoldgcepnaaGreatDoorZ05
import Derived.Test.YtpfjeoldgcepnaaGreatDoorZ08
import Derived.Test.YtpfjeoldgcepnaaGreatDoorZ02
import Derived.Test.YtpfjeoldgcepnaaGreatDoorZ06
import Derived.Test.YtpfjeoldgcepnaaGreatDoorZ01

/- The program's mayGo, May and Check of layer 10. -/
namespace Go.Proofs.YtpfjeoldgcepnaaGreatDoor
set_option linter.unusedSimpArgs false
open Go.RowKit
set_option linter.unusedVariables false

section
variable {V : World}
theorem Bf.cells8p {b : Nat} {x : PodD} (h : Bf V b (cellsP x)) : (V.cell? ⟨b, 0, none⟩ = some (.int .i64 x.id) ∧ V.cell? ⟨b, 1, none⟩ = some (.int .i64 x.load) ∧ V.cell? ⟨b, 2, none⟩ = some (.int .i64 x.prio) ∧ V.cell? ⟨b, 3, none⟩ = some (.int .u64 x.req.a)) ∧
    V.cell? ⟨b, 4, none⟩ = some (.int .u64 x.req.b) ∧ V.cell? ⟨b, 5, none⟩ = some (.int .u64 x.req.c) ∧ V.cell? ⟨b, 6, none⟩ = some (.int .u64 x.req.d) ∧ V.cell? ⟨b, 7, none⟩ = some (.int .i64 x.node) ∧ b < V.heap.size :=
  ⟨⟨h.cell 0 _ rfl, h.cell 1 _ rfl, h.cell 2 _ rfl, h.cell 3 _ rfl⟩, h.cell 4 _ rfl, h.cell 5 _ rfl, h.cell 6 _ rfl, h.cell 7 _ rfl, h.lt⟩
end
theorem mayGo_any (x y : PodD) (w : World) : Calls Tryz.prog 121 #[aggP x, aggP y] w fun e w' => e = .returned (.bool (goV x y)) ∧ Below w.heap.size w w' := by
  by_cases h : x.prio < y.prio
  · have HE := Lib.hid (show goV x y = true from decide_eq_true h)
    have hd : decide (x.prio < y.prio) = true := decide_eq_true h
    clear h
    go_enter Tryz.func121, Tryz.ntmps121
    go_wp2
    go_ret
    exact ⟨ret_bool HE.out.symm, below_two _ _ _⟩
  · have HE := Lib.hid (show goV x y = false from decide_eq_false h)
    have hd : decide (x.prio < y.prio) = false := decide_eq_false h
    clear h
    go_enter Tryz.func121, Tryz.ntmps121
    go_wp2
    go_ret
    exact ⟨ret_bool HE.out.symm, below_two _ _ _⟩
/-- state.Pod, as one answer. -/
theorem podOf_any (l : List PodD) (id : Int) (A : Option Addr) (n c : Nat) (v1 v2 : Value) (w : World) (hn : n = l.length) (hl : n ≤ 1000) (hr : Recs 8 cellsP w w.heap.size A l) :
    Calls Tryz.prog 79 #[.agg #[.slice A n c, v1, v2], .int .i64 id] w fun e w' => e = .returned (.tuple #[aggP (podZ id l), .bool (hasP id l)]) ∧ Below w.heap.size w w' :=
  (statePod_any l id A n c v1 v2 w hn hl hr).mono fun e w' ⟨h, hb⟩ => by
    rcases h with ⟨hp, rfl⟩ | ⟨i, hi, hp, rfl⟩
    · rw [podZ_none hp, has_none hp]; exact ⟨rfl, hb⟩
    · rw [podZ_some hi hp, has_some hp]; exact ⟨rfl, hb⟩

set_option maxHeartbeats 3200000 in
set_option maxRecDepth 100000 in
theorem priorMay_any (l : List PodD) (a b : Int) (A : Option Addr) (n c : Nat) (v1 v2 : Value) (w : World) (hn : n = l.length) (hl : n ≤ 1000) (hr : Recs 8 cellsP w w.heap.size A l) :
    Calls Tryz.prog 86 #[.agg #[.slice A n c, v1, v2], .int .i64 a, .int .i64 b] w fun e w' => e = .returned (.bool (mayD a b l)) ∧ Below w.heap.size w w' := by
  have B0 : Bf (w.alloc (.cells #[.slice A n c, v1, v2] 42)) w.heap.size [.slice A n c, v1, v2] := Bf.new w [.slice A n c, v1, v2] 42 rfl
  have k0 : Below w.heap.size w (w.alloc (.cells #[.slice A n c, v1, v2] 42)) := (Below.refl _ _).alloc (Nat.le_refl _) _
  have HC := Lib.hid (fun (id : Int) (V : World) (hV : Below w.heap.size w V) => podOf_any l id A n c v1 v2 V hn hl ((hr.below hV (Nat.le_refl _)).more hV.size))
  have HC1 := Lib.hid (HC.out a _ k0)
  have HC2 := Lib.hid (fun V hV => HC.out b V hV)
  have HE := Lib.hid (show mayD a b l = ((hasP a l && hasP b l) && goV (podZ b l) (podZ a l)) from rfl)
  clear hn hr HC
  generalize mayD a b l = r at *
  generalize podZ a l = x at *
  generalize podZ b l = y at *
  generalize hasP a l = s at *
  generalize hasP b l = t at *
  go_enter Tryz.func86, Tryz.ntmps86
  go_wp2_with fail
  refine HC1.out.mono ?_
  rintro e w1 ⟨rfl, hb1⟩
  have k1 := k0.trans (hb1.mono k0.size)
  have B1 := B0.below hb1 B0.lt
  obtain ⟨a0, a1, a2, a3⟩ := B1.cells3
  have X1 : Bf (w1.alloc (.cells #[.int .i64 x.id, .int .i64 x.load, .int .i64 x.prio, .int .u64 x.req.a, .int .u64 x.req.b, .int .u64 x.req.c, .int .u64 x.req.d, .int .i64 x.node] 79)) w1.heap.size (cellsP x) := Bf.new w1 (cellsP x) 79 rfl
  have k1a : Below w.heap.size w (w1.alloc (.cells #[.int .i64 x.id, .int .i64 x.load, .int .i64 x.prio, .int .u64 x.req.a, .int .u64 x.req.b, .int .u64 x.req.c, .int .u64 x.req.d, .int .i64 x.node] 79)) := k1.alloc k1.size _
  have HC3 := Lib.hid (HC2.out _ k1a)
  clear hb1 B0 k0
  go_wp2_with fail
  refine HC3.out.mono ?_
  rintro e w2 ⟨rfl, hb2⟩
  have k2 := k1a.trans (hb2.mono k1a.size)
  obtain ⟨⟨x0, x1, x2, x3⟩, x4, x5, x6, x7, x8⟩ := (X1.below hb2 X1.lt).cells8p
  have hne : w1.heap.size ≠ w2.heap.size := by omega
  clear hb2 a0 a1 a2 a3 B1 X1
  have k3 : Below w.heap.size w (w2.alloc (.cells #[.int .i64 y.id, .int .i64 y.load, .int .i64 y.prio, .int .u64 y.req.a, .int .u64 y.req.b, .int .u64 y.req.c, .int .u64 y.req.d, .int .i64 y.node] 79)) := k2.alloc k2.size _
  cases s with
  | false =>
    go_wp2
    go_ret
    exact ⟨ret_bool (by rw [HE.out]; rfl), k3⟩
  | true =>
    cases t with
    | false =>
      go_wp2
      go_ret
      exact ⟨ret_bool (by rw [HE.out]; rfl), k3⟩
    | true =>
      go_wp2_with fail
      refine (mayGo_any y x _).mono ?_
      rintro e w3 ⟨rfl, hb3⟩
      go_wp2
      go_ret
      exact ⟨ret_bool (by rw [HE.out]; rfl), k3.trans (hb3.mono k3.size)⟩

/-- What layer 10's Check tells of a move. -/
def prioV (b : Bool) : Value := if b = true then .iface 98 (.int .i64 14) else .nilIface
def prioD (t : List PodD) (m : MoveD) : Bool := m.kind == 4 && !mayD m.pod m.over t
set_option maxHeartbeats 3200000 in
set_option maxRecDepth 100000 in
theorem priorCheck_any (l : List PodD) (m : MoveD) (A : Option Addr) (n c : Nat) (v1 v2 : Value) (w : World) (hn : n = l.length) (hl : n ≤ 1000) (hr : Recs 8 cellsP w w.heap.size A l) :
    Calls Tryz.prog 46 #[.agg #[.slice A n c, v1, v2], .agg #[.int .i64 m.kind, .int .i64 m.pod, .int .i64 m.node, .int .i64 m.over]] w fun e w' => e = .returned (prioV (prioD l m)) ∧ Below w.heap.size w w' := by
  have k0 := below_two w (.cells #[.slice A n c, v1, v2] 42) (.cells #[.int .i64 m.kind, .int .i64 m.pod, .int .i64 m.node, .int .i64 m.over] 48)
  have HC := Lib.hid (priorMay_any l m.pod m.over A n c v1 v2 _ hn hl ((hr.below k0 (Nat.le_refl _)).more k0.size))
  have HD : Hid (prioD l m = (m.kind == 4 && !mayD m.pod m.over l)) := rfl
  clear hn hr
  generalize mayD m.pod m.over l = r at *
  generalize prioD l m = z at *
  by_cases hk : m.kind = 4
  · have hkd : (m.kind == 4) = true := by simp [hk]
    have HE := Lib.hid (show z = !r by rw [HD.out, hkd]; rfl)
    clear hk
    go_enter Tryz.func46, Tryz.ntmps46
    go_wp2_with fail
    refine HC.out.mono ?_
    rintro e w1 ⟨rfl, hb1⟩
    have k1 := k0.trans (hb1.mono k0.size)
    clear hb1
    cases r with
    | false =>
      go_wp2
      go_ret
      exact ⟨by rw [HE.out]; rfl, k1⟩
    | true =>
      go_wp2
      go_ret
      exact ⟨by rw [HE.out]; rfl, k1⟩
  · have hkd : (m.kind == 4) = false := by simp [hk]
    have HE := Lib.hid (show z = false by rw [HD.out, hkd]; rfl)
    clear hk
    go_enter Tryz.func46, Tryz.ntmps46
    go_wp2
    go_ret
    exact ⟨by rw [HE.out]; rfl, k0⟩
end Go.Proofs.YtpfjeoldgcepnaaGreatDoor

/- One move that is done where the state behind it is safe, and moves, one behind the other: plain mathematics. -/
namespace Go.Proofs.YtpfjeoldgcepnaaGreatDoor
set_option linter.unusedSimpArgs false
open Go.RowKit
set_option linter.unusedVariables false

/-! What an error's number can be. -/
def Told8 (p : Int × Int) : Prop := p = (0, -1) ∨ (8 ≤ p.1 ∧ p.1 ≤ 15)
theorem told8_room {ns : List NodeD} {l : List PodD} : ∀ (m : List NodeD) (k : Nat), (∀ n ∈ m, n ∈ ns) → Told8 (roomD ns l m k)
  | [], _, _ => .inl rfl
  | n :: r, k, h => by
    unfold roomD
    split
    · rename_i h2
      rcases rest_vals ns l n.id with e | ⟨_, e | e | e⟩
      · exact absurd e h2
      · exfalso
        have hn : n ∈ ns := h n (by simp)
        have : ∀ (q : List NodeD), n ∈ q → nodeAt n.id q ≠ none := by
          intro q
          induction q with
          | nil => intro h; simp at h
          | cons y q ih =>
            intro hm
            unfold nodeAt
            split
            · simp
            · rename_i hne
              refine ih ?_
              rcases List.mem_cons.1 hm with e | e
              · exact absurd (by rw [e]) hne
              · exact e
        have h0 := this ns hn
        cases hq : nodeAt n.id ns with
        | none => exact h0 hq
        | some n' =>
          rcases h5 : useD l n.id with _ | u
          · rw [rest_over hq h5] at e; exact absurd e (by decide)
          · rcases h6 : leftD n' u with _ | z
            · rw [rest_room hq h5 h6] at e; exact absurd e (by decide)
            · rw [rest_some hq h5 h6] at e; simp at e
      · right; dsimp only; omega
      · right; dsimp only; omega
    · exact told8_room r (k + 1) (fun n hn => h n (by simp [hn]))
theorem told8_spread {ns : List NodeD} {l : List PodD} : ∀ (m : List LoadD) (k : Nat), Told8 (spreadFrom ns l m k)
  | [], _ => .inl rfl
  | x :: r, k => by
    unfold spreadFrom
    split
    · right; dsimp only; omega
    · exact told8_spread r (k + 1)
theorem told8_budget {l : List PodD} : ∀ (m : List LoadD) (k : Nat), Told8 (budgetFrom l m k)
  | [], _ => .inl rfl
  | x :: r, k => by
    unfold budgetFrom
    split
    · exact told8_budget r (k + 1)
    · rename_i h
      right
      unfold fault9 at h ⊢
      dsimp only
      split
      · omega
      · split
        · omega
        · rename_i h1 h2; simp [h1, h2] at h
theorem told8_five {ns : List NodeD} {ls : List LoadD} {l : List PodD} {x1 x2 t1 t2 : Int} {p : Int × Int} (h : p ∈ fiveP ns ls l x1 x2 t1 t2) : Told8 p := by
  simp only [fiveP, List.mem_cons, List.not_mem_nil, or_false] at h
  rcases h with rfl | rfl | rfl | rfl | rfl
  · exact told8_room ns 0 (fun _ h => h)
  · rcases apartFrom_pair (ls := ls) (l := l) l 0 with ⟨_, e⟩ | ⟨j, e⟩
    · exact .inl e
    · right
      rw [apartOf, e]
      dsimp only
      omega
  · exact told8_spread ls 0
  · exact told8_budget ls 0
  · unfold usedP
    split
    · right; dsimp only; omega
    · exact .inl rfl
theorem told8_why (ns : List NodeD) (ls : List LoadD) (l : List PodD) (x1 x2 t1 t2 : Int) : Told8 (whyP (fiveP ns ls l x1 x2 t1 t2)) := by
  unfold whyP
  cases e : badK (fiveP ns ls l x1 x2 t1 t2) 1 5 with
  | nil => exact .inl rfl
  | cons p r =>
    have hp : p ∈ badK (fiveP ns ls l x1 x2 t1 t2) 1 5 := by rw [e]; simp
    unfold badK at hp
    exact told8_five (List.mem_of_mem_take (List.mem_filter.1 (List.mem_of_mem_take hp)).1)
theorem told8_ok {p : Int × Int} (h : Told8 p) : okP p = (p.1 == 0) := by
  rcases h with rfl | ⟨h1, h2⟩
  · rfl
  · have : (p.1 == 0) = false := by simp; omega
    rw [this, okP, this]; rfl

/-! One move. -/
/-- The Code of why a state isn't safe; 0: it is. -/
def codeS (ns : List NodeD) (ls : List LoadD) (x : SpecD) (t : StateD) : Int := (whyP (fiveP ns ls t.pods x.preempts x.shifts t.preempts t.shifts)).1
def doD (ns : List NodeD) (ls : List LoadD) (x : SpecD) (t : StateD) (m : MoveD) : StateD × Int :=
  if (makeD ns x.wants t m).2 ≠ 0 then (noState, (makeD ns x.wants t m).2)
  else if prioD t.pods m = true then (noState, 14)
  else if codeS ns ls x (makeD ns x.wants t m).1 ≠ 0 then (noState, codeS ns ls x (makeD ns x.wants t m).1)
  else ((makeD ns x.wants t m).1, 0)
theorem codeS_vals (ns : List NodeD) (ls : List LoadD) (x : SpecD) (t : StateD) : codeS ns ls x t = 0 ∨ (8 ≤ codeS ns ls x t ∧ codeS ns ls x t ≤ 15) := by
  rcases told8_why ns ls t.pods x.preempts x.shifts t.preempts t.shifts with h | h
  · left; unfold codeS; rw [h]
  · exact .inr h
theorem make_vals (ns : List NodeD) (x : List WantD) (t : StateD) (m : MoveD) : (makeD ns x t m).2 = 0 ∨ (makeD ns x t m).2 = 1 ∨ (makeD ns x t m).2 = 4 ∨ (makeD ns x t m).2 = 7 := by
  unfold makeD
  split
  · simp
  · split
    · simp
    · split <;> simp
theorem do_vals (ns : List NodeD) (ls : List LoadD) (x : SpecD) (t : StateD) (m : MoveD) : 0 ≤ (doD ns ls x t m).2 ∧ (doD ns ls x t m).2 ≤ 15 := by
  unfold doD
  have h1 := make_vals ns x.wants t m
  have h2 := codeS_vals ns ls x (makeD ns x.wants t m).1
  split
  · dsimp only; omega
  · split
    · decide
    · split
      · dsimp only; omega
      · dsimp only; omega
theorem do_no1 {ns : List NodeD} {ls : List LoadD} {x : SpecD} {t : StateD} {m : MoveD} (h : (makeD ns x.wants t m).2 ≠ 0) : doD ns ls x t m = (noState, (makeD ns x.wants t m).2) := by rw [doD, if_pos h]
theorem do_no2 {ns : List NodeD} {ls : List LoadD} {x : SpecD} {t : StateD} {m : MoveD} (h : (makeD ns x.wants t m).2 = 0) (h2 : prioD t.pods m = true) : doD ns ls x t m = (noState, 14) := by rw [doD, if_neg (by simp [h]), if_pos h2]
theorem do_no3 {ns : List NodeD} {ls : List LoadD} {x : SpecD} {t : StateD} {m : MoveD} (h : (makeD ns x.wants t m).2 = 0) (h2 : prioD t.pods m = false) (h3 : codeS ns ls x (makeD ns x.wants t m).1 ≠ 0) : doD ns ls x t m = (noState, codeS ns ls x (makeD ns x.wants t m).1) := by rw [doD, if_neg (by simp [h]), if_neg (by simp [h2]), if_pos h3]
theorem do_yes {ns : List NodeD} {ls : List LoadD} {x : SpecD} {t : StateD} {m : MoveD} (h : (makeD ns x.wants t m).2 = 0) (h2 : prioD t.pods m = false) (h3 : codeS ns ls x (makeD ns x.wants t m).1 = 0) : doD ns ls x t m = ((makeD ns x.wants t m).1, 0) := by rw [doD, if_neg (by simp [h]), if_neg (by simp [h2]), if_neg (by simp [h3])]

/-! What a move leaves as it should be. -/
theorem podZ_ok {id : Int} {l : List PodD} (h : ∀ p ∈ l, p.Ok) : (podZ id l).Ok := by
  by_cases hp : place PodD.id id l 0 < 0
  · rw [podZ_none hp]
    exact ⟨⟨by decide, by decide⟩, ⟨by decide, by decide⟩, ⟨by decide, by decide⟩, ⟨⟨by decide, by decide⟩, ⟨by decide, by decide⟩, ⟨by decide, by decide⟩, ⟨by decide, by decide⟩⟩, ⟨by decide, by decide⟩⟩
  · obtain ⟨i, hi, e⟩ := place_hit hp
    rw [podZ_some hi e]
    exact h _ (List.getElem_mem hi)
theorem come_ok {x : List WantD} {node : Int} {p : PodD} (hx : ∀ y ∈ x, y.Ok) (hp : p.Ok) (hn : I64 node) : (comeD x node p).Ok := by
  by_cases h : place WantD.pod p.id x 0 < 0
  · rw [come_none h]
    exact ⟨hp.1, hp.2.1, hp.2.2.1, hp.2.2.2.1, hn⟩
  · obtain ⟨i, hi, e⟩ : ∃ (i : Nat) (hi : i < x.length), place WantD.pod p.id x 0 = i := by
      have := place_ge (f := WantD.pod) (id := p.id) (l := x) (k := 0) (by omega)
      exact ⟨(place WantD.pod p.id x 0).toNat, by omega, by omega⟩
    rw [come_some hi e]
    refine ⟨hp.1, hp.2.1, hp.2.2.1, ?_, hn⟩
    dsimp only
    split
    · exact (hx _ (List.getElem_mem hi)).2
    · exact hp.2.2.2.1
theorem go_ok {p : PodD} (hp : p.Ok) : (goD p).Ok := ⟨hp.1, hp.2.1, hp.2.2.1, hp.2.2.2.1, ⟨by unfold goD; dsimp only; omega, by unfold goD; dsimp only; omega⟩⟩
theorem set_ok {l : List PodD} {i : Nat} {p : PodD} (h : ∀ q ∈ l, q.Ok) (hp : p.Ok) : ∀ q ∈ l.set i p, q.Ok := by
  intro q hq
  rcases List.mem_or_eq_of_mem_set hq with e | e
  · exact h q e
  · rw [e]; exact hp
theorem place_eqA {α : Type} {f : α → Int} {id : Int} : ∀ {l : List α} {k : Int} {i : Nat} (hi : i < l.length), place f id l k = k + i → 0 ≤ k → f l[i] = id
  | [], _, _, hi, _, _ => by simp at hi
  | x :: r, k, i, hi, h, hk => by
    by_cases hx : f x = id
    · simp only [place, if_pos hx] at h
      obtain rfl : i = 0 := by omega
      exact hx
    · simp only [place, if_neg hx] at h
      cases i with
      | zero =>
        have h3 : place f id r (k + 1) < 0 ∨ k + 1 ≤ place f id r (k + 1) := place_or r (k + 1) (by omega)
        omega
      | succ i =>
        simp only [List.getElem_cons_succ]
        exact place_eqA (k := k + 1) (by simpa using hi) (by rw [h]; omega) (by omega)
theorem made_ok {ns : List NodeD} {x : List WantD} {t : StateD} {m : MoveD} (hn : ∀ n ∈ ns, n.Ok) (hx : ∀ y ∈ x, y.Ok) (hl : ∀ p ∈ t.pods, p.Ok) (h : (makeD ns x t m).2 = 0) : (∀ p ∈ (makeD ns x t m).1.pods, p.Ok) ∧ (makeD ns x t m).1.pods.length = t.pods.length := by
  refine ⟨?_, made_len9 h⟩
  by_cases h1 : wellD m = false
  · rw [makeD, if_pos h1] at h; cases h
  by_cases h2 : hereD ns t.pods m = false
  · rw [makeD, if_neg h1, if_pos h2] at h; cases h
  by_cases h3 : canD t.pods m = false
  · rw [makeD, if_neg h1, if_neg h2, if_pos h3] at h; cases h
  rw [makeD, if_neg h1, if_neg h2, if_neg h3]
  dsimp only
  unfold behindD
  by_cases k2 : m.kind = 2
  · rw [if_pos k2]
    exact set_ok hl (go_ok (podZ_ok hl))
  · have hnode : I64 m.node := by
      have h2' : hereD ns t.pods m = true := by simpa using h2
      unfold hereD at h2'
      have k2' : (m.kind == 2) = false := by simp [k2]
      simp only [k2', Bool.or_false, Bool.and_eq_true, Bool.not_eq_true', decide_eq_false_iff_not] at h2'
      obtain ⟨i, hi, e⟩ : ∃ (i : Nat) (hi : i < ns.length), place NodeD.id m.node ns 0 = i := by
        have h3 := h2'.2.1
        have := place_ge (f := NodeD.id) (id := m.node) (l := ns) (k := 0) (by omega)
        exact ⟨(place NodeD.id m.node ns 0).toNat, by omega, by omega⟩
      have e1 := place_eqA (f := NodeD.id) (id := m.node) (k := 0) hi (by rw [e]; omega) (by omega)
      rw [← e1]
      exact (hn _ (List.getElem_mem hi)).1
    have hc := come_ok (node := m.node) hx (podZ_ok (id := m.pod) hl) hnode
    rw [if_neg k2]
    split
    · exact set_ok hl hc
    · split
      · exact set_ok (set_ok hl (go_ok (podZ_ok hl))) hc
      · exact set_ok hl hc
/-! Moves, one behind the other. -/
/-! All of a walk. -/
def firstD (s : SnapD) : StateD := ⟨s.pods, 0, 0⟩
end Go.Proofs.YtpfjeoldgcepnaaGreatDoor

/- The program's fault and Do of layer 12. -/
namespace Go.Proofs.YtpfjeoldgcepnaaGreatDoor
set_option linter.unusedSimpArgs false
open Go.RowKit
set_option linter.unusedVariables false

theorem Out.later {α : Type} {size : Nat} {cells : α → List Value} {w V : World} {xs : List α} {A : Option Addr} {c : Nat} (h : Out size cells w xs A c) (hb : Below w.heap.size w V) : Out size cells V xs A c :=
  ⟨h.1, h.2.1, h.2.2.1, (h.2.2.2.below hb (Nat.le_refl _)).more hb.size⟩
theorem fair_zero {s : SnapD} {x : SpecD} (h : (fair s x).1 = 0) : fair s x = (0, -1) := by
  by_cases h0 : (check s).1 = 0
  · by_cases h1 : x.preempts < 0 ∨ 40 < x.preempts ∨ x.shifts < 0 ∨ 40 < x.shifts
    · rw [fair_large h0 h1] at h; cases h
    · cases hf : firstWant s true 0 0 x.wants with
      | none => exact fair_fine h0 h1 hf
      | some p =>
        obtain ⟨b, k⟩ := p
        rw [fair_some h0 h1 hf] at h
        have hb : b ≠ 0 := by
          have : ∀ (l : List WantD) (f : Bool) (last : Int) (k : Nat) (b : Int) (j : Nat), firstWant s f last k l = some (b, j) → b ≠ 0 := by
            intro l
            induction l with
            | nil => intro f last k b j h; simp [firstWant] at h
            | cons y r ih =>
              intro f last k b j h
              simp only [firstWant] at h
              split at h
              · rename_i h0; simp at h; rw [← h.1]; exact h0
              · exact ih _ _ _ _ _ h
          exact this _ _ _ _ _ _ hf
        exact absurd h hb
  · rw [fair_bad h0] at h; exact absurd h h0

set_option maxHeartbeats 3200000 in
set_option maxRecDepth 100000 in
/-- The program's fault: the Code alone of why a state isn't safe. -/
theorem stepFault_any (ns : List NodeD) (ls : List LoadD) (x : SpecD) (t : StateD) (A1 A2 A3 A4 A5 : Option Addr) (n1 c1 n2 c2 n3 c3 n4 c4 n5 c5 : Nat) (w : World) (h : SafeArgs ns ls t.pods A1 A2 A4 n1 n2 n4 c4 w) :
    Calls Tryz.prog 52 #[.agg #[.slice A1 n1 c1, .slice A2 n2 c2, .slice A3 n3 c3], .agg #[.slice A5 n5 c5, .int .i64 x.preempts, .int .i64 x.shifts], .agg #[.slice A4 n4 c4, .int .i64 t.preempts, .int .i64 t.shifts]] w fun e w' => e = .returned (codeV (codeS ns ls x t)) ∧ Below w.heap.size w w' := by
  have T0 := (T3.new w [.slice A1 n1 c1, .slice A2 n2 c2, .slice A3 n3 c3] [.slice A5 n5 c5, .int .i64 x.preempts, .int .i64 x.shifts] [.slice A4 n4 c4, .int .i64 t.preempts, .int .i64 t.shifts] 26 29 42).alloc (.cells #[.int .i64 0] 98)
  have B0 := Bf.new (((w.alloc (.cells #[.slice A1 n1 c1, .slice A2 n2 c2, .slice A3 n3 c3] 26)).alloc (.cells #[.slice A5 n5 c5, .int .i64 x.preempts, .int .i64 x.shifts] 29)).alloc (.cells #[.slice A4 n4 c4, .int .i64 t.preempts, .int .i64 t.shifts] 42)) [.int .i64 0] 98 (b := w.heap.size + 3) (by simp)
  have HF := Lib.hid (safeWhy_any ns ls t.pods x.preempts x.shifts t.preempts t.shifts A1 A2 A3 A4 A5 n1 c1 n2 c2 n3 c3 n4 c4 n5 c5 _ (h.at T0.below))
  have HG := Lib.hid h.g
  have HT := Lib.hid T0
  have HB := Lib.hid B0
  have HE : Hid (codeS ns ls x t = (whyP (fiveP ns ls t.pods x.preempts x.shifts t.preempts t.shifts)).1) := rfl
  have HOK := Lib.hid (told8_ok (told8_why ns ls t.pods x.preempts x.shifts t.preempts t.shifts))
  generalize codeS ns ls x t = c at *
  generalize whyP (fiveP ns ls t.pods x.preempts x.shifts t.preempts t.shifts) = p at *
  generalize x.preempts = x1 at *
  generalize x.shifts = x2 at *
  generalize t.preempts = t1 at *
  generalize t.shifts = t2 at *
  clear h T0 B0
  go_enter Tryz.func52, Tryz.ntmps52
  go_wp2_with fail
  refine HF.out.mono ?_
  rintro e w1 ⟨u, rfl, hu, hb1⟩
  have T1 := HT.out.keep hb1
  have B1 := HB.out.below hb1 HB.out.lt
  have HK1 := Lib.hid T1.below
  have hz1 := B1.lt
  cases hok : okP p with
  | true =>
    have hn := hu.nil hok
    have hc : c = 0 := by have h1 := HE.out; have h2 := okP_true hok; rw [h1, h2]
    subst hn hc
    clear hu hok HE HOK hb1 T1 B1
    go_wp2_with fail
    refine (as_nil _ _).mono ?_
    rintro e w2 ⟨rfl, rfl⟩
    go_wp2
    go_ret
    exact ⟨rfl, HK1.out⟩
  | false =>
    have hc0 : c ≠ 0 := by
      have h1 := HE.out; have h2 := HOK.out
      rw [hok] at h2
      intro e
      rw [e] at h1
      rw [← h1] at h2
      cases h2
    have HA := Lib.hid (as_codeO p _ (w.heap.size + 3) u (.int .i64 0) w1 hu hok (Laid.below HG.out HK1.out (Nat.le_refl _)) (B1.cell 0 _ rfl) (B1.frozen 0))
    have HC := Lib.hid (codeV_pos hc0)
    rw [← HE.out] at HA
    clear hu hok HE HOK hb1 T1 B1 hc0
    go_wp2_with fail
    refine HA.out.mono ?_
    rintro e w2 ⟨rfl, hc, hb2⟩
    have HK2 := Lib.hid (HK1.out.trans (hb2.mono (show w.heap.size ≤ w.heap.size + 3 by omega)))
    clear hb2
    go_wp2
    go_ret
    exact ⟨congrArg Ending.returned HC.out.symm, HK2.out⟩

/-- What a state that is told comes to, with an error beside it. -/
def DoTo (r : StateD × Int) (w : World) (e : Ending) (w' : World) : Prop := ∃ v, e = .returned (.tuple #[v, codeV r.2]) ∧ StateTo r.1 w v w'
theorem StateTo.less {u : StateD} {w V w' : World} {v : Value} (h : StateTo u V v w') (hb : Below w.heap.size w V) : StateTo u w v w' := by
  obtain ⟨A, c, h1, h2, h3, h4⟩ := h
  exact ⟨A, c, h1, h2, fun a e => Nat.le_trans hb.size (h3 a e), hb.trans (h4.mono hb.size)⟩

set_option maxHeartbeats 12800000 in
set_option maxRecDepth 100000 in
/-- The program's Do. -/
theorem stepDo_any (ns : List NodeD) (ls : List LoadD) (x : SpecD) (t : StateD) (m : MoveD) (A1 A2 A3 A4 A5 : Option Addr) (n1 c1 n2 c2 n3 c3 n4 c4 n5 c5 : Nat) (w : World) (h : SafeArgs ns ls t.pods A1 A2 A4 n1 n2 n4 c4 w)
    (h04 : A4 = none → c4 = 0) (hn5 : n5 = x.wants.length) (hl5 : n5 ≤ 400) (hr5 : Recs 6 cellsW w w.heap.size A5 x.wants) (hxo : ∀ y ∈ x.wants, y.Ok) :
    Calls Tryz.prog 22 #[.agg #[.slice A1 n1 c1, .slice A2 n2 c2, .slice A3 n3 c3], .agg #[.slice A5 n5 c5, .int .i64 x.preempts, .int .i64 x.shifts], .agg #[.slice A4 n4 c4, .int .i64 t.preempts, .int .i64 t.shifts], .agg #[.int .i64 m.kind, .int .i64 m.pod, .int .i64 m.node, .int .i64 m.over]] w (DoTo (doD ns ls x t m) w) := by
  have M0 := Mk.new w [.slice A1 n1 c1, .slice A2 n2 c2, .slice A3 n3 c3] [.slice A5 n5 c5, .int .i64 x.preempts, .int .i64 x.shifts] [.slice A4 n4 c4, .int .i64 t.preempts, .int .i64 t.shifts] [.int .i64 m.kind, .int .i64 m.pod, .int .i64 m.node, .int .i64 m.over] 26 29 42 48 42
  have HMK : Hid (∀ V, Below w.heap.size w V → Calls Tryz.prog 45 #[.agg #[.slice A1 n1 c1, .slice A2 n2 c2, .slice A3 n3 c3], .agg #[.slice A5 n5 c5, .int .i64 x.preempts, .int .i64 x.shifts], .agg #[.slice A4 n4 c4, .int .i64 t.preempts, .int .i64 t.shifts], .agg #[.int .i64 m.kind, .int .i64 m.pod, .int .i64 m.node, .int .i64 m.over]] V
      fun e w' => ∃ v, e = .returned (.tuple #[v, codeV (makeD ns x.wants t m).2]) ∧ StateTo (makeD ns x.wants t m).1 V v w') := fun V hV => by
    have k := h.at hV
    exact make_any ns x.wants t m A1 A2 A3 A5 A4 n1 c1 n2 c2 n3 c3 n5 c5 n4 c4 (.int .i64 x.preempts) (.int .i64 x.shifts) V k.e1 (by have := k.l1; omega) k.r1 hn5 (by omega) ((hr5.below hV (Nat.le_refl _)).more hV.size) k.e4 (by have := k.l4; omega) h04 k.r4
  have HPR : Hid (∀ V, Below w.heap.size w V → Calls Tryz.prog 46 #[.agg #[.slice A4 n4 c4, .int .i64 t.preempts, .int .i64 t.shifts], .agg #[.int .i64 m.kind, .int .i64 m.pod, .int .i64 m.node, .int .i64 m.over]] V fun e w' => e = .returned (prioV (prioD t.pods m)) ∧ Below V.heap.size V w') := fun V hV => by
    have k := h.at hV
    exact priorCheck_any t.pods m A4 n4 c4 (.int .i64 t.preempts) (.int .i64 t.shifts) V k.e4 (by have := k.l4; omega) k.r4
  have HFA : Hid ((makeD ns x.wants t m).2 = 0 → ∀ V A c, Below w.heap.size w V → Out 8 cellsP V (makeD ns x.wants t m).1.pods A c → Calls Tryz.prog 52 #[.agg #[.slice A1 n1 c1, .slice A2 n2 c2, .slice A3 n3 c3], .agg #[.slice A5 n5 c5, .int .i64 x.preempts, .int .i64 x.shifts], .agg #[.slice A (makeD ns x.wants t m).1.pods.length c, .int .i64 (makeD ns x.wants t m).1.preempts, .int .i64 (makeD ns x.wants t m).1.shifts]] V
      fun e w' => e = .returned (codeV (codeS ns ls x (makeD ns x.wants t m).1)) ∧ Below V.heap.size V w') := fun h0 V A c hV hO => by
    have k := h.at hV
    obtain ⟨hok, hlen⟩ := made_ok k.no hxo k.lo h0
    exact stepFault_any ns ls x (makeD ns x.wants t m).1 A1 A2 A3 A A5 n1 c1 n2 c2 n3 c3 _ c n5 c5 V ⟨k.g, k.no, hok, k.e1, k.l1, k.r1, k.e2, k.l2, k.r2, rfl, by rw [hlen, ← k.e4]; exact k.l4, hO.1, hO.2.2.2⟩
  have H1 := Lib.hid (do_no1 (ns := ns) (ls := ls) (x := x) (t := t) (m := m))
  have H2 := Lib.hid (do_no2 (ns := ns) (ls := ls) (x := x) (t := t) (m := m))
  have H3 := Lib.hid (do_no3 (ns := ns) (ls := ls) (x := x) (t := t) (m := m))
  have H4 := Lib.hid (do_yes (ns := ns) (ls := ls) (x := x) (t := t) (m := m))
  generalize doD ns ls x t m = r at *
  generalize codeS ns ls x (makeD ns x.wants t m).1 = cs at *
  generalize makeD ns x.wants t m = mk at *
  generalize prioD t.pods m = pr at *
  generalize x.preempts = x1 at *
  generalize x.shifts = x2 at *
  generalize t.preempts = t1 at *
  generalize t.shifts = t2 at *
  obtain ⟨u, mc⟩ := mk
  dsimp only at HMK HFA H1 H2 H3 H4
  have HM0 := Lib.hid M0
  clear h h04 hn5 hr5 hxo M0
  go_enter Tryz.func22, Tryz.ntmps22
  go_wp2_with fail
  refine (HMK.out _ HM0.out.below).mono ?_
  rintro e w1 ⟨_, rfl, A6, c6, rfl, ho, hfr, hb1⟩
  have M1 := HM0.out.keep hb1
  have hfr1 : ∀ a, A6 = some a → a.block ≠ w.heap.size + 4 := fun a ha => by have h1 := hfr a ha; have h2 := HM0.out.res.lt; omega
  have hfr2 : ∀ a, A6 = some a → w.heap.size ≤ a.block := fun a ha => Nat.le_trans HM0.out.below.size (hfr a ha)
  have HF := Lib.hid (And.intro hfr1 hfr2)
  have B1 := Bf.new w1 [.slice A6 u.pods.length c6, .int .i64 u.preempts, .int .i64 u.shifts] 42 rfl
  have k2 : Below w1.heap.size w1 (w1.alloc (.cells #[.slice A6 u.pods.length c6, .int .i64 u.preempts, .int .i64 u.shifts] 42)) := (Below.refl _ w1).alloc (Nat.le_refl _) _
  have M2 := M1.keep k2
  have HO2 := Lib.hid (ho.later k2)
  have HM2 := Lib.hid M2
  have HB1 := Lib.hid B1
  have HMLT := Lib.hid (show w.heap.size ≤ w1.heap.size from M1.below.size)
  obtain ⟨a0, a1, a2⟩ := M1.facts.2.2.1
  obtain ⟨r0, r1, r2⟩ := M2.facts2.1
  obtain ⟨z0, z1, z2⟩ := M2.facts2.2.1
  have hz := M2.facts2.2.2
  clear ho hfr hb1 hfr1 hfr2 M1 k2 HM0 HMK a0 a1 a2
  by_cases hc : mc = 0
  · subst hc
    have HFA' := Lib.hid (HFA.out rfl)
    have HP := Lib.hid (HPR.out _ HM2.out.below)
    obtain ⟨⟨a0, a1, a2⟩, ⟨a3, a4, a5⟩, ⟨a6, a7, a8⟩, a9, a10, a11, a12⟩ := M2.facts
    rw [codeV_zero]
    clear HFA HPR M2 B1
    go_wp2_with fail
    refine HP.out.mono ?_
    rintro e w2 ⟨rfl, hb2⟩
    have M3 := HM2.out.keep hb2
    have B3 := HB1.out.below hb2 HB1.out.lt
    have HO3 := Lib.hid (HO2.out.later hb2)
    have HM3 := Lib.hid M3
    have HB3 := Lib.hid B3
    clear hb2 HP HM2 HO2 HB1 a0 a1 a2 a3 a4 a5 a6 a7 a8 a9 a10 a11 a12 r0 r1 r2 z0 z1 z2 hz
    obtain ⟨⟨a0, a1, a2⟩, ⟨a3, a4, a5⟩, ⟨a6, a7, a8⟩, a9, a10, a11, a12⟩ := M3.facts
    obtain ⟨r0, r1, r2⟩ := M3.facts2.1
    obtain ⟨z0, z1, z2⟩ := M3.facts2.2.1
    have hz := M3.facts2.2.2
    cases pr with
    | true =>
      have HE := Lib.hid (H2.out (by trivial) (by trivial))
      have hpv : prioV true = .iface 98 (.int .i64 14) := rfl
      rw [hpv]
      clear M3 B3 hpv
      go_wp2
      refine bodyPost_ret (v := .tuple #[stateV none 0 0 0 0, .iface 98 (.int .i64 14)]) ?_ rfl ⟨_, by rw [HE.out]; rfl, ?_⟩
      · simp [results, Tryz.results22, go_sem, *]
      · rw [HE.out]; exact HM3.out.no
    | false =>
      have hpv : prioV false = .nilIface := rfl
      rw [hpv]
      obtain ⟨b0, b1, b2, b3⟩ := B3.cells3
      have HFF := Lib.hid (HFA'.out w2 A6 c6 HM3.out.below HO3.out)
      clear M3 B3 hpv HFA'
      go_wp2_with fail
      refine HFF.out.mono ?_
      rintro e w3 ⟨rfl, hb3⟩
      have M4 := HM3.out.keep hb3
      have B4 := HB3.out.below hb3 HB3.out.lt
      have HO4 := Lib.hid (HO3.out.later hb3)
      have HM4 := Lib.hid M4
      clear hb3 HFF HM3 HO3 HB3 b0 b1 b2 b3 a0 a1 a2 a3 a4 a5 a6 a7 a8 a9 a10 a11 a12 r0 r1 r2 z0 z1 z2 hz
      obtain ⟨r0, r1, r2⟩ := M4.facts2.1
      obtain ⟨z0, z1, z2⟩ := M4.facts2.2.1
      have hz := M4.facts2.2.2
      obtain ⟨b0, b1, b2, b3⟩ := B4.cells3
      clear M4 B4
      by_cases hs : cs = 0
      · have HE := Lib.hid (H4.out (by trivial) (by trivial) hs)
        rw [hs, codeV_zero]
        clear hs
        go_wp2
        refine bodyPost_ret (v := .tuple #[stateV A6 u.pods.length c6 u.preempts u.shifts, .nilIface]) ?_ rfl ⟨_, by rw [HE.out]; rfl, ?_⟩
        · simp [results, Tryz.results22, go_sem, *]
        · rw [HE.out]
          exact ⟨A6, c6, rfl, ((HO4.out.set (p := ⟨w.heap.size + 4, 0, none⟩) HF.out.1 _).set (p := ⟨w.heap.size + 4, 1, none⟩) HF.out.1 _).set (p := ⟨w.heap.size + 4, 2, none⟩) HF.out.1 _, HF.out.2, ((HM4.out.below.setCell (by simp; omega) _).setCell (by simp; omega) _).setCell (by simp; omega) _⟩
      · have HE := Lib.hid (H3.out (by trivial) (by trivial) hs)
        have HC := Lib.hid (codeV_pos hs)
        rw [codeV_pos hs]
        clear hs
        go_wp2
        refine bodyPost_ret (v := .tuple #[stateV none 0 0 0 0, .iface 98 (.int .i64 cs)]) ?_ rfl ⟨_, by rw [HE.out, HC.out], ?_⟩
        · simp [results, Tryz.results22, go_sem, *]
        · rw [HE.out]; exact HM4.out.no
  · have HE := Lib.hid (H1.out hc)
    have HC := Lib.hid (codeV_pos hc)
    rw [codeV_pos hc]
    clear hc M2 B1
    go_wp2
    refine bodyPost_ret (v := .tuple #[stateV none 0 0 0 0, .iface 98 (.int .i64 mc)]) ?_ rfl ⟨_, by rw [HE.out, HC.out], ?_⟩
    · simp [results, Tryz.results22, go_sem, *]
    · rw [HE.out]; exact HM2.out.no
end Go.Proofs.YtpfjeoldgcepnaaGreatDoor

/- The head of layer 3's statements, and the law ClusterFewer, walked, from what cluster.Check and cluster.Fair come to. -/
namespace Go.Proofs.YtpfjeoldgcepnaaGreatDoor
set_option linter.unusedSimpArgs false
open Go.RowKit
set_option linter.unusedVariables false

def SnapD.Ok (s : SnapD) : Prop := (∀ a ∈ s.nodes, a.Ok) ∧ (∀ a ∈ s.loads, a.Ok) ∧ (∀ a ∈ s.pods, a.Ok)
/-- cluster.Check tells what is amiss first. -/
def CheckHolds : Prop := ∀ (s : SnapD) (A1 A2 A3 : Option Addr) (n1 c1 n2 c2 n3 c3 B : Nat) (w : World), s.Ok → n1 = s.nodes.length → n2 = s.loads.length → n3 = s.pods.length → n1 ≤ 40 → n2 ≤ 40 → n3 ≤ 40 → n1 ≤ c1 → n2 ≤ c2 → n3 ≤ c3 → c1 ≤ maxLen → c2 ≤ maxLen → c3 ≤ maxLen → B ≤ w.heap.size →
  Recs 10 cellsN w B A1 s.nodes → Recs 5 cellsL w B A2 s.loads → Recs 8 cellsP w B A3 s.pods → Calls Tryz.prog 53 #[snapV A1 A2 A3 n1 c1 n2 c2 n3 c3] w (ErrTo (check s) w)
/-- cluster.Fair tells what is amiss first. -/
def FairHolds : Prop := ∀ (s : SnapD) (x : SpecD) (A1 A2 A3 A4 : Option Addr) (n1 c1 n2 c2 n3 c3 n4 c4 B : Nat) (w : World), s.Ok → (∀ a ∈ x.wants, a.Ok) → I64 x.preempts → I64 x.shifts → n1 = s.nodes.length → n2 = s.loads.length → n3 = s.pods.length → n4 = x.wants.length → n1 ≤ 40 → n2 ≤ 40 → n3 ≤ 40 → n4 ≤ 40 → n1 ≤ c1 → n2 ≤ c2 → n3 ≤ c3 → n4 ≤ c4 → c1 ≤ maxLen → c2 ≤ maxLen → c3 ≤ maxLen → c4 ≤ maxLen → B ≤ w.heap.size →
  Recs 10 cellsN w B A1 s.nodes → Recs 5 cellsL w B A2 s.loads → Recs 8 cellsP w B A3 s.pods → Recs 6 cellsW w B A4 x.wants → Calls Tryz.prog 23 #[snapV A1 A2 A3 n1 c1 n2 c2 n3 c3, specV A4 n4 c4 x] w (ErrTo (fair s x) w)

theorem errIs_none {B : Nat} {w : World} {u : Value} {p : Int × Int} (h : ErrIs p B w u) (hp : p.1 = 0) (h2 : p.2 = -1) : u = .nilIface := by
  rcases h with ⟨_, h⟩ | ⟨_, h, _⟩ | ⟨k, g, h, _⟩
  · exact h
  · omega
  · omega
theorem errIs_some {B : Nat} {w : World} {u : Value} {p : Int × Int} (h : ErrIs p B w u) (hp : p.1 ≠ 0) : ∃ t v, u = .iface t v := by
  rcases h with ⟨h, _⟩ | ⟨_, _, _, h⟩ | ⟨k, g, h, h3, _⟩
  · rw [h] at hp; simp at hp
  · exact ⟨_, _, h⟩
  · exact ⟨_, _, h3⟩

def z4 : V4 := ⟨0, 0, 0, 0⟩
end Go.Proofs.YtpfjeoldgcepnaaGreatDoor

namespace Go.Proofs.YtpfjeoldgcepnaaGreatDoor
set_option linter.unusedSimpArgs false
open Go.RowKit
set_option linter.unusedVariables false

/-! What stands where all may be. -/
structure FineN (ns : List NodeD) : Prop where
  some : ns ≠ []
  ids : ∀ n ∈ ns, 1 ≤ n.id
  one : (ns.map NodeD.id).Nodup
  held : ∀ n ∈ ns, n.held.le n.cap = true
  ok : ∀ n ∈ ns, n.Ok
  len : ns.length ≤ 40
structure FineL (ls : List LoadD) : Prop where
  one : (ls.map LoadD.id).Nodup
  skew : ∀ x ∈ ls, 0 ≤ x.skew
  len : ls.length ≤ 40
structure FineP (ns : List NodeD) (l : List PodD) : Prop where
  ids : ∀ p ∈ l, 1 ≤ p.id
  one : (l.map PodD.id).Nodup
  ok : ∀ p ∈ l, p.Ok
  node : ∀ p ∈ l, p.node = 0 ∨ ∃ n ∈ ns, n.id = p.node
  len : l.length ≤ 12
theorem firstBad_all {α : Type} {bad : Int → α → Int} {f : α → Int} : ∀ {l : List α} {last : Int} {k : Nat}, firstBad bad f last k l = none → ∀ x ∈ l, ∃ la, bad la x = 0
  | [], _, _, _, x, h => by simp at h
  | y :: r, last, k, hn, x, h => by
    simp only [firstBad] at hn
    split at hn
    · cases hn
    · rename_i h0
      rcases List.mem_cons.1 h with e | e
      · exact ⟨last, by rw [e]; simpa using h0⟩
      · exact firstBad_all hn x e
theorem firstBad_nodup {α : Type} {bad : Int → α → Int} {f : α → Int} (hbad : ∀ last x, bad last x = 0 → last < f x) {l : List α} {last : Int} {k : Nat} (h : firstBad bad f last k l = none) : (l.map f).Nodup := by
  unfold List.Nodup
  rw [List.pairwise_map, List.pairwise_iff_getElem]
  intro i k hi hk hik e
  have := (firstBad_rises hbad h k hk).2 i hik
  omega
theorem podBad_rises (ns : List NodeD) (ls : List LoadD) (last : Int) (p : PodD) (h : podBad ns ls last p = 0) : last < p.id := by
  unfold podBad at h
  split at h
  · rename_i h1; exact absurd h h1
  · rename_i h1; exact (idBad_ok (by simpa using h1)).2.2
theorem fine_of {s : SnapD} {x : SpecD} (hs : s.Ok) (h : (fair s x).1 = 0) : FineN s.nodes ∧ FineL s.loads ∧ FineP s.nodes s.pods := by
  have hc : (check s).1 = 0 := by
    by_cases hc : (check s).1 = 0
    · exact hc
    · rw [fair_bad hc] at h; exact absurd h hc
  obtain ⟨h1, h2, h3, h4⟩ := check_ok.1 hc
  simp only [large, decide_eq_false_iff_not] at h1
  refine ⟨⟨fun e => h1 (.inl (by rw [e]; rfl)), fun n hn => ?_, firstBad_nodup nodeBad_rises h2, fun n hn => ?_, hs.1, by omega⟩, ⟨firstBad_nodup loadBad_rises h3, fun y hy => ?_, by omega⟩, ⟨fun p hp => ?_, firstBad_nodup (podBad_rises _ _) h4, hs.2.2, fun p hp => ?_, by omega⟩⟩
  · obtain ⟨la, e⟩ := firstBad_all h2 n hn
    unfold nodeBad at e
    split at e
    · cases e
    · exact (idBad_ok e).1
  · obtain ⟨la, e⟩ := firstBad_all h2 n hn
    unfold nodeBad at e
    split at e
    · cases e
    · rename_i h5
      cases hh : n.held.le n.cap with
      | true => rfl
      | false => exact absurd ⟨e, .inr (.inr hh)⟩ h5
  · obtain ⟨la, e⟩ := firstBad_all h3 y hy
    unfold loadBad at e
    split at e
    · cases e
    · rename_i h5
      have : countOk y.skew = true := by
        cases hh : countOk y.skew with
        | true => rfl
        | false => exact absurd ⟨e, .inl hh⟩ h5
      have := of_decide_eq_true this
      omega
  · obtain ⟨la, e⟩ := firstBad_all h4 p hp
    unfold podBad at e
    split at e
    · rename_i h5; exact absurd e h5
    · rename_i h5; exact (idBad_ok (by simpa using h5)).1
  · obtain ⟨la, e⟩ := firstBad_all h4 p hp
    unfold podBad at e
    split at e
    · rename_i h5; exact absurd e h5
    · split at e
      · cases e
      · split at e
        · cases e
        · rename_i h6
          by_cases h0 : p.node = 0
          · exact .inl h0
          · right
            have h7 : ¬ place NodeD.id p.node s.nodes 0 < 0 := fun e => h6 (.inr ⟨h0, e⟩)
            rw [place_neg (by omega)] at h7
            simp only [ne_eq, Classical.not_forall, Classical.not_not] at h7
            obtain ⟨n, hn, e⟩ := h7
            exact ⟨n, hn, e⟩

/-! A move's Pod and its Over. -/
def partD (l : List PodD) (m : MoveD) : List PodD := (podAt m.pod l).toList ++ (podAt m.over l).toList
/-- These pods in place of those of their Ids. -/
def turnP (l m : List PodD) : List PodD := m.foldl (fun l p => l.set (idxD p.id l) p) l
theorem podAt_zero {ns : List NodeD} {l : List PodD} (h : FineP ns l) {id : Int} (h0 : id < 1) : podAt id l = none := by
  rw [podAt_none (k := 0) (by omega), place_neg (by omega)]
  intro p hp e
  have := h.ids p hp
  omega
theorem place_set {id : Int} : ∀ {l : List PodD} {k : Int} {i : Nat} {p : PodD} (hi : i < l.length), p.id = l[i].id → place PodD.id id (l.set i p) k = place PodD.id id l k
  | [], _, _, _, hi, _ => by simp at hi
  | x :: r, k, 0, p, hi, h => by
    have h : p.id = x.id := h
    simp only [List.set_cons_zero, place, h]
  | x :: r, k, i + 1, p, hi, h => by
    simp only [List.set_cons_succ, place]
    rw [place_set (l := r) (by simpa using hi) (by simpa using h)]
theorem ids_set {l : List PodD} {i : Nat} {p : PodD} (hi : i < l.length) (h : p.id = l[i].id) : (l.set i p).map PodD.id = l.map PodD.id := by
  rw [List.map_set, h]
  have : (l.map PodD.id)[i]'(by simpa using hi) = l[i].id := by simp
  rw [← this]
  exact List.set_getElem_self _
theorem set_permV {l : List PodD} {i : Nat} (hi : i < l.length) (p : PodD) : (l.set i p).Perm (p :: l.eraseIdx i) := by
  have h1 : l.set i p = l.take i ++ p :: l.drop (i + 1) := by rw [List.set_eq_take_append_cons_drop, if_pos hi]
  have h2 : l.eraseIdx i = l.take i ++ l.drop (i + 1) := List.eraseIdx_eq_take_drop_succ ..
  rw [h1, h2]
  exact List.perm_middle
theorem self_permV {l : List PodD} {i : Nat} (hi : i < l.length) : l.Perm (l[i] :: l.eraseIdx i) := by
  have := set_permV hi l[i]
  rwa [List.set_getElem_self] at this
theorem swap_permV {l : List PodD} {i : Nat} (hi : i < l.length) (p : PodD) : (l[i] :: l.set i p).Perm (p :: l) :=
  ((set_permV hi p).cons _).trans ((List.Perm.swap _ _ _).trans ((self_permV hi).symm.cons _))
theorem two_permV {l : List PodD} {i k : Nat} (hi : i < l.length) (hk : k < l.length) (hne : i ≠ k) : ∃ r, l.Perm (l[i] :: l[k] :: r) := by
  have hm : l[k] ∈ l.eraseIdx i := by
    rw [List.mem_eraseIdx_iff_getElem]
    exact ⟨k, hk, fun e => hne e.symm, rfl⟩
  obtain ⟨s, t, e⟩ := List.append_of_mem hm
  refine ⟨s ++ t, (self_permV hi).trans ?_⟩
  rw [e]
  exact List.perm_middle.cons _
theorem set_two_permV {l r : List PodD} {i k : Nat} (hi : i < l.length) (hk : k < l.length) (hne : i ≠ k) (p q : PodD) (h : l.Perm (l[i] :: l[k] :: r)) : ((l.set k q).set i p).Perm (p :: q :: r) := by
  have e1 : (l.set k q)[i]'(by simpa using hi) = l[i] := by rw [List.getElem_set_ne (fun e => hne e.symm)]
  have h1 := swap_permV (l := l.set k q) (i := i) (by simpa using hi) p
  rw [e1] at h1
  have h2 := swap_permV hk q
  have h3 : (l[k] :: l[i] :: (l.set k q).set i p).Perm (l[k] :: l[i] :: p :: q :: r) := by
    refine (h1.cons _).trans ((List.Perm.swap _ _ _).trans ((h2.cons _).trans ?_))
    refine ((h.cons q).cons p).trans ?_
    have : (p :: q :: l[i] :: l[k] :: r) = [p, q] ++ (l[i] :: l[k] :: r) := rfl
    rw [this]
    refine (List.perm_append_comm (l₁ := [p, q]) (l₂ := l[i] :: l[k] :: r)).trans ?_
    show (l[i] :: l[k] :: (r ++ [p, q])).Perm _
    refine (List.Perm.swap _ _ _).trans ?_
    exact (List.perm_append_comm.cons _).cons _
  exact h3.cons_inv.cons_inv
theorem idx_set {id : Int} {l : List PodD} {i : Nat} {p : PodD} (hi : i < l.length) (h : p.id = l[i].id) : idxD id (l.set i p) = idxD id l := by unfold idxD; rw [place_set hi h]
theorem podAt_place {l : List PodD} {id : Int} {i : Nat} (hi : i < l.length) (h : place PodD.id id l 0 = i) : podAt id l = some l[i] := podAt_some (l := l) (k := 0) hi (by rw [h]; omega) (by omega)
theorem idx_place {l : List PodD} {id : Int} {i : Nat} (h : place PodD.id id l 0 = i) : idxD id l = i := by unfold idxD; rw [h]; rfl
/-- What a move changes. -/
structure Turned (ns : List NodeD) (l l' : List PodD) (m : MoveD) : Prop where
  rest : ∃ r, l.Perm (partD l m ++ r) ∧ l'.Perm (partD l' m ++ r)
  there : turnP l (partD l' m) = l'
  back : turnP l' (partD l m) = l
  node : ∀ p ∈ partD l' m, p.node = 0 ∨ p.node = m.node
  loads : (partD l' m).map PodD.load = (partD l m).map PodD.load
  ids : (partD l' m).map PodD.id = (partD l m).map PodD.id
  fine : FineP ns l'
theorem turned_one {ns : List NodeD} {l : List PodD} {m : MoveD} {i : Nat} (hi : i < l.length) (hp : place PodD.id m.pod l 0 = i) (ho : podAt m.over l = none) (p : PodD) (h1 : p.id = l[i].id) (h2 : p.load = l[i].load) (h3 : p.node = 0 ∨ p.node = m.node) (hf : FineP ns (l.set i p)) : Turned ns l (l.set i p) m := by
  have a1 : partD l m = [l[i]] := by unfold partD; rw [podAt_place hi hp, ho]; rfl
  have a2 : partD (l.set i p) m = [p] := by
    unfold partD
    have e1 : podAt m.pod (l.set i p) = some p := by
      rw [podAt_place (l := l.set i p) (i := i) (by simpa using hi) (by rw [place_set hi h1]; exact hp)]
      simp
    have e2 : podAt m.over (l.set i p) = none := by
      rw [podAt_none (k := 0) (by omega), place_set hi h1, ← podAt_none (k := 0) (by omega)]; exact ho
    rw [e1, e2]; rfl
  have e0 : l[i].id = m.pod := place_is hi hp
  refine ⟨⟨l.eraseIdx i, by rw [a1]; exact self_permV hi, by rw [a2]; exact set_permV hi p⟩, ?_, ?_, ?_, ?_, ?_, hf⟩
  · rw [a2]
    show l.set (idxD p.id l) p = _
    rw [h1, e0, idx_place hp]
  · rw [a1]
    show (l.set i p).set (idxD l[i].id (l.set i p)) l[i] = _
    rw [e0, idx_set hi h1, idx_place hp, List.set_set]
    exact List.set_getElem_self _
  · rw [a2]; intro q hq; rw [List.mem_singleton.1 hq]; exact h3
  · rw [a1, a2]; simp [h2]
  · rw [a1, a2]; simp [h1]
theorem turned_two {ns : List NodeD} {l : List PodD} {m : MoveD} {i k : Nat} (hi : i < l.length) (hk : k < l.length) (hne : m.over ≠ m.pod) (hp : place PodD.id m.pod l 0 = i) (hq : place PodD.id m.over l 0 = k) (p q : PodD) (h1 : p.id = l[i].id) (h2 : p.load = l[i].load) (h3 : p.node = 0 ∨ p.node = m.node)
    (g1 : q.id = l[k].id) (g2 : q.load = l[k].load) (g3 : q.node = 0 ∨ q.node = m.node) (hf : FineP ns ((l.set k q).set i p)) : Turned ns l ((l.set k q).set i p) m := by
  have e0 : l[i].id = m.pod := place_is hi hp
  have e1 : l[k].id = m.over := place_is hk hq
  have hik : i ≠ k := fun e => hne (by subst e; rw [← e0, ← e1])
  have hi' : i < (l.set k q).length := by simpa using hi
  have f1 : (l.set k q)[i] = l[i] := by rw [List.getElem_set_ne (fun e => hik e.symm)]
  have h1' : p.id = (l.set k q)[i].id := by rw [f1]; exact h1
  have a1 : partD l m = [l[i], l[k]] := by unfold partD; rw [podAt_place hi hp, podAt_place hk hq]; rfl
  have pl1 : place PodD.id m.pod ((l.set k q).set i p) 0 = i := by rw [place_set hi' h1', place_set hk g1]; exact hp
  have pl2 : place PodD.id m.over ((l.set k q).set i p) 0 = k := by rw [place_set hi' h1', place_set hk g1]; exact hq
  have a2 : partD ((l.set k q).set i p) m = [p, q] := by
    unfold partD
    rw [podAt_place (by simpa using hi) pl1, podAt_place (by simpa using hk) pl2]
    simp [List.getElem_set_ne hik]
  obtain ⟨r, hr⟩ := two_permV hi hk hik
  refine ⟨⟨r, by rw [a1]; exact hr, by rw [a2]; exact set_two_permV hi hk hik p q hr⟩, ?_, ?_, ?_, ?_, ?_, hf⟩
  · rw [a2]
    show (l.set (idxD p.id l) p).set (idxD q.id (l.set (idxD p.id l) p)) q = _
    rw [h1, e0, idx_place hp, g1, e1, idx_set hi h1, idx_place hq]
    exact List.set_comm _ _ hik
  · rw [a1]
    show (((l.set k q).set i p).set (idxD l[i].id ((l.set k q).set i p)) l[i]).set (idxD l[k].id (((l.set k q).set i p).set (idxD l[i].id ((l.set k q).set i p)) l[i])) l[k] = _
    rw [e0, idx_place pl1, List.set_set, e1, idx_set hi' (by rw [f1]), idx_set hk g1, idx_place hq]
    rw [← f1, List.set_getElem_self, List.set_set]
    exact List.set_getElem_self _
  · rw [a2]; intro y hy
    simp only [List.mem_cons, List.not_mem_nil, or_false] at hy
    rcases hy with rfl | rfl
    · exact h3
    · exact g3
  · rw [a1, a2]; simp [h2, g2]
  · rw [a1, a2]; simp [h1, g1]
theorem made_is {ns : List NodeD} {x : List WantD} {t : StateD} {m : MoveD} (h : (makeD ns x t m).2 = 0) : wellD m = true ∧ hereD ns t.pods m = true ∧ canD t.pods m = true ∧ (makeD ns x t m).1 = behindD x t m := by
  unfold makeD at h ⊢
  split at h
  · cases h
  · split at h
    · cases h
    · split at h
      · cases h
      · rename_i q1 q2 q3
        rw [if_neg q1, if_neg q2, if_neg q3]
        exact ⟨by simpa using q1, by simpa using q2, by simpa using q3, rfl⟩
theorem fine_set {ns : List NodeD} {l : List PodD} (h : FineP ns l) {i : Nat} {p : PodD} (hi : i < l.length) (h1 : p.id = l[i].id) (ho : p.Ok) (hn : p.node = 0 ∨ ∃ n ∈ ns, n.id = p.node) : FineP ns (l.set i p) := by
  refine ⟨fun q hq => ?_, by rw [ids_set hi h1]; exact h.one, set_ok h.ok ho, fun q hq => ?_, by simpa using h.len⟩
  · rcases List.mem_or_eq_of_mem_set hq with e | e
    · exact h.ids q e
    · rw [e, h1]; exact h.ids _ (List.getElem_mem hi)
  · rcases List.mem_or_eq_of_mem_set hq with e | e
    · exact h.node q e
    · rw [e]; exact hn
theorem turned_made {ns : List NodeD} {x : List WantD} {t : StateD} {m : MoveD} (hn : FineN ns) (hx : ∀ y ∈ x, y.Ok) (hP : FineP ns t.pods) (h : (makeD ns x t m).2 = 0) : Turned ns t.pods (makeD ns x t m).1.pods m := by
  obtain ⟨hw, hh, hc, he⟩ := made_is h
  rw [he]
  obtain ⟨i, hi, hpi⟩ := place_hit (here_pod hh)
  have ez := podZ_some hi hpi
  have ei := idx_place hpi
  have hk := well_kinds hw
  have hover := here_over hh hc
  unfold behindD
  by_cases k2 : m.kind = 2
  · rw [if_pos k2, ei, ez]
    have hov : m.over = 0 := by
      unfold wellD at hw
      rw [if_neg (by omega), if_pos k2] at hw
      simp at hw; exact hw.2
    exact turned_one hi hpi (podAt_zero hP (by omega)) (goD t.pods[i]) rfl rfl (.inl rfl) (fine_set hP hi rfl (go_ok (hP.ok _ (List.getElem_mem hi))) (.inl rfl))
  · have hnode : ∃ n ∈ ns, n.id = m.node := by
      unfold hereD at hh
      have k2' : (m.kind == 2) = false := by simp [k2]
      simp only [k2', Bool.or_false, Bool.and_eq_true, Bool.not_eq_true', decide_eq_false_iff_not] at hh
      have h7 := hh.2.1
      rw [place_neg (by omega)] at h7
      simp only [ne_eq, Classical.not_forall, Classical.not_not] at h7
      obtain ⟨n, hn, e⟩ := h7
      exact ⟨n, hn, e⟩
    have hI : I64 m.node := by obtain ⟨n, h1, h2⟩ := hnode; rw [← h2]; exact (hn.ok n h1).1
    have hcp : (comeD x m.node t.pods[i]).Ok := come_ok hx (hP.ok _ (List.getElem_mem hi)) hI
    rw [if_neg k2]
    by_cases k3 : m.kind = 3
    · rw [if_pos k3, ei, ez]
      have hov : m.over = 0 := by
        unfold wellD at hw
        rw [if_pos (.inr k3)] at hw
        simpa using hw
      exact turned_one hi hpi (podAt_zero hP (by omega)) (comeD x m.node t.pods[i]) rfl rfl (.inr rfl) (fine_set hP hi rfl hcp (.inr hnode))
    · rw [if_neg k3]
      by_cases k4 : m.kind = 4
      · rw [if_pos k4]
        obtain ⟨ho1, ho2⟩ := hover k4
        obtain ⟨k, hk', hpk⟩ := place_hit ho1
        have ezk := podZ_some hk' hpk
        have hfk := fine_set hP hk' (p := goD t.pods[k]) rfl (go_ok (hP.ok _ (List.getElem_mem hk'))) (.inl rfl)
        have hki : k ≠ i := fun e => by
          subst e
          exact ho2 ((place_is hk' hpk).symm.trans (place_is hi hpi))
        have f1 : (t.pods.set k (goD t.pods[k]))[i]'(by simpa using hi) = t.pods[i] := by rw [List.getElem_set_ne hki]
        rw [ei, ez, idx_place hpk, ezk]
        exact turned_two hi hk' ho2 hpi hpk (comeD x m.node t.pods[i]) (goD t.pods[k]) rfl rfl (.inr rfl) rfl rfl (.inl rfl) (fine_set hfk (by simpa using hi) (by rw [f1]; rfl) hcp (.inr hnode))
      · rw [if_neg k4, ei, ez]
        have k1 : m.kind = 1 := by omega
        have hov : m.over = 0 := by
          unfold wellD at hw
          rw [if_pos (.inl k1)] at hw
          simpa using hw
        exact turned_one hi hpi (podAt_zero hP (by omega)) (comeD x m.node t.pods[i]) rfl rfl (.inr rfl) (fine_set hP hi rfl hcp (.inr hnode))
end Go.Proofs.YtpfjeoldgcepnaaGreatDoor
