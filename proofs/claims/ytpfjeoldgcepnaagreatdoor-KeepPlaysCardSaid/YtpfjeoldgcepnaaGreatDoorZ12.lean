/- Joined texts, part 12: XA XB CH VC DC DD DG. -/
import Derived.Test.YtpfjeoldgcepnaaGreatDoorZ11
import Derived.Test.YtpfjeoldgcepnaaGreatDoorZ07
import Derived.Test.YtpfjeoldgcepnaaGreatDoorZ01
import Derived.Test.YtpfjeoldgcepnaaGreatDoorZ03
import Derived.Test.YtpfjeoldgcepnaaGreatDoorZ08
import Derived.Test.YtpfjeoldgcepnaaGreatDoorZ04
import Derived.Test.YtpfjeoldgcepnaaGreatDoorZ05
import Derived.Test.YtpfjeoldgcepnaaGreatDoorZ02

/- One move that is done where the state behind it is safe, and moves, one behind the other: plain mathematics. -/
namespace Go.Proofs.YtpfjeoldgcepnaaGreatDoor
set_option linter.unusedSimpArgs false
open Go.RowKit
set_option linter.unusedVariables false

/-! What an error's number can be. -/
def Told8 (p : Int × Int) : Prop := p = (0, -1) ∨ (8 ≤ p.1 ∧ p.1 ≤ 15)
theorem told8_room {ns : List NodeD} {l : List PodD} : ∀ (m : List NodeD) (k : Nat), (∀ n ∈ m, n ∈ ns) → Told8 (roomD ns l m k)
  | [], _, _ => .inl rfl
  | n :: r, k, h => by
    unfold roomD
    split
    · rename_i h2
      rcases rest_vals ns l n.id with e | ⟨_, e | e | e⟩
      · exact absurd e h2
      · exfalso
        have hn : n ∈ ns := h n (by simp)
        have : ∀ (q : List NodeD), n ∈ q → nodeAt n.id q ≠ none := by
          intro q
          induction q with
          | nil => intro h; simp at h
          | cons y q ih =>
            intro hm
            unfold nodeAt
            split
            · simp
            · rename_i hne
              refine ih ?_
              rcases List.mem_cons.1 hm with e | e
              · exact absurd (by rw [e]) hne
              · exact e
        have h0 := this ns hn
        cases hq : nodeAt n.id ns with
        | none => exact h0 hq
        | some n' =>
          rcases h5 : useD l n.id with _ | u
          · rw [rest_over hq h5] at e; exact absurd e (by decide)
          · rcases h6 : leftD n' u with _ | z
            · rw [rest_room hq h5 h6] at e; exact absurd e (by decide)
            · rw [rest_some hq h5 h6] at e; simp at e
      · right; dsimp only; omega
      · right; dsimp only; omega
    · exact told8_room r (k + 1) (fun n hn => h n (by simp [hn]))
theorem told8_spread {ns : List NodeD} {l : List PodD} : ∀ (m : List LoadD) (k : Nat), Told8 (spreadFrom ns l m k)
  | [], _ => .inl rfl
  | x :: r, k => by
    unfold spreadFrom
    split
    · right; dsimp only; omega
    · exact told8_spread r (k + 1)
theorem told8_budget {l : List PodD} : ∀ (m : List LoadD) (k : Nat), Told8 (budgetFrom l m k)
  | [], _ => .inl rfl
  | x :: r, k => by
    unfold budgetFrom
    split
    · exact told8_budget r (k + 1)
    · rename_i h
      right
      unfold fault9 at h ⊢
      dsimp only
      split
      · omega
      · split
        · omega
        · rename_i h1 h2; simp [h1, h2] at h
theorem told8_five {ns : List NodeD} {ls : List LoadD} {l : List PodD} {x1 x2 t1 t2 : Int} {p : Int × Int} (h : p ∈ fiveP ns ls l x1 x2 t1 t2) : Told8 p := by
  simp only [fiveP, List.mem_cons, List.not_mem_nil, or_false] at h
  rcases h with rfl | rfl | rfl | rfl | rfl
  · exact told8_room ns 0 (fun _ h => h)
  · rcases apartFrom_pair (ls := ls) (l := l) l 0 with ⟨_, e⟩ | ⟨j, e⟩
    · exact .inl e
    · right
      rw [apartOf, e]
      dsimp only
      omega
  · exact told8_spread ls 0
  · exact told8_budget ls 0
  · unfold usedP
    split
    · right; dsimp only; omega
    · exact .inl rfl
theorem told8_why (ns : List NodeD) (ls : List LoadD) (l : List PodD) (x1 x2 t1 t2 : Int) : Told8 (whyP (fiveP ns ls l x1 x2 t1 t2)) := by
  unfold whyP
  cases e : badK (fiveP ns ls l x1 x2 t1 t2) 1 5 with
  | nil => exact .inl rfl
  | cons p r =>
    have hp : p ∈ badK (fiveP ns ls l x1 x2 t1 t2) 1 5 := by rw [e]; simp
    unfold badK at hp
    exact told8_five (List.mem_of_mem_take (List.mem_filter.1 (List.mem_of_mem_take hp)).1)
theorem told8_ok {p : Int × Int} (h : Told8 p) : okP p = (p.1 == 0) := by
  rcases h with rfl | ⟨h1, h2⟩
  · rfl
  · have : (p.1 == 0) = false := by simp; omega
    rw [this, okP, this]; rfl

/-! One move. -/
/-- The Code of why a state isn't safe; 0: it is. -/
def codeS (ns : List NodeD) (ls : List LoadD) (x : SpecD) (t : StateD) : Int := (whyP (fiveP ns ls t.pods x.preempts x.shifts t.preempts t.shifts)).1
def doD (ns : List NodeD) (ls : List LoadD) (x : SpecD) (t : StateD) (m : MoveD) : StateD × Int :=
  if (makeD ns x.wants t m).2 ≠ 0 then (noState, (makeD ns x.wants t m).2)
  else if prioD t.pods m = true then (noState, 14)
  else if codeS ns ls x (makeD ns x.wants t m).1 ≠ 0 then (noState, codeS ns ls x (makeD ns x.wants t m).1)
  else ((makeD ns x.wants t m).1, 0)
theorem codeS_vals (ns : List NodeD) (ls : List LoadD) (x : SpecD) (t : StateD) : codeS ns ls x t = 0 ∨ (8 ≤ codeS ns ls x t ∧ codeS ns ls x t ≤ 15) := by
  rcases told8_why ns ls t.pods x.preempts x.shifts t.preempts t.shifts with h | h
  · left; unfold codeS; rw [h]
  · exact .inr h
theorem make_vals (ns : List NodeD) (x : List WantD) (t : StateD) (m : MoveD) : (makeD ns x t m).2 = 0 ∨ (makeD ns x t m).2 = 1 ∨ (makeD ns x t m).2 = 4 ∨ (makeD ns x t m).2 = 7 := by
  unfold makeD
  split
  · simp
  · split
    · simp
    · split <;> simp
theorem do_vals (ns : List NodeD) (ls : List LoadD) (x : SpecD) (t : StateD) (m : MoveD) : 0 ≤ (doD ns ls x t m).2 ∧ (doD ns ls x t m).2 ≤ 15 := by
  unfold doD
  have h1 := make_vals ns x.wants t m
  have h2 := codeS_vals ns ls x (makeD ns x.wants t m).1
  split
  · dsimp only; omega
  · split
    · decide
    · split
      · dsimp only; omega
      · dsimp only; omega
theorem do_no1 {ns : List NodeD} {ls : List LoadD} {x : SpecD} {t : StateD} {m : MoveD} (h : (makeD ns x.wants t m).2 ≠ 0) : doD ns ls x t m = (noState, (makeD ns x.wants t m).2) := by rw [doD, if_pos h]
theorem do_no2 {ns : List NodeD} {ls : List LoadD} {x : SpecD} {t : StateD} {m : MoveD} (h : (makeD ns x.wants t m).2 = 0) (h2 : prioD t.pods m = true) : doD ns ls x t m = (noState, 14) := by rw [doD, if_neg (by simp [h]), if_pos h2]
theorem do_no3 {ns : List NodeD} {ls : List LoadD} {x : SpecD} {t : StateD} {m : MoveD} (h : (makeD ns x.wants t m).2 = 0) (h2 : prioD t.pods m = false) (h3 : codeS ns ls x (makeD ns x.wants t m).1 ≠ 0) : doD ns ls x t m = (noState, codeS ns ls x (makeD ns x.wants t m).1) := by rw [doD, if_neg (by simp [h]), if_neg (by simp [h2]), if_pos h3]
theorem do_yes {ns : List NodeD} {ls : List LoadD} {x : SpecD} {t : StateD} {m : MoveD} (h : (makeD ns x.wants t m).2 = 0) (h2 : prioD t.pods m = false) (h3 : codeS ns ls x (makeD ns x.wants t m).1 = 0) : doD ns ls x t m = ((makeD ns x.wants t m).1, 0) := by rw [doD, if_neg (by simp [h]), if_neg (by simp [h2]), if_neg (by simp [h3])]

/-! What a move leaves as it should be. -/
theorem podZ_ok {id : Int} {l : List PodD} (h : ∀ p ∈ l, p.Ok) : (podZ id l).Ok := by
  by_cases hp : place PodD.id id l 0 < 0
  · rw [podZ_none hp]
    exact ⟨⟨by decide, by decide⟩, ⟨by decide, by decide⟩, ⟨by decide, by decide⟩, ⟨⟨by decide, by decide⟩, ⟨by decide, by decide⟩, ⟨by decide, by decide⟩, ⟨by decide, by decide⟩⟩, ⟨by decide, by decide⟩⟩
  · obtain ⟨i, hi, e⟩ := place_hit hp
    rw [podZ_some hi e]
    exact h _ (List.getElem_mem hi)
theorem come_ok {x : List WantD} {node : Int} {p : PodD} (hx : ∀ y ∈ x, y.Ok) (hp : p.Ok) (hn : I64 node) : (comeD x node p).Ok := by
  by_cases h : place WantD.pod p.id x 0 < 0
  · rw [come_none h]
    exact ⟨hp.1, hp.2.1, hp.2.2.1, hp.2.2.2.1, hn⟩
  · obtain ⟨i, hi, e⟩ : ∃ (i : Nat) (hi : i < x.length), place WantD.pod p.id x 0 = i := by
      have := place_ge (f := WantD.pod) (id := p.id) (l := x) (k := 0) (by omega)
      exact ⟨(place WantD.pod p.id x 0).toNat, by omega, by omega⟩
    rw [come_some hi e]
    refine ⟨hp.1, hp.2.1, hp.2.2.1, ?_, hn⟩
    dsimp only
    split
    · exact (hx _ (List.getElem_mem hi)).2
    · exact hp.2.2.2.1
theorem go_ok {p : PodD} (hp : p.Ok) : (goD p).Ok := ⟨hp.1, hp.2.1, hp.2.2.1, hp.2.2.2.1, ⟨by unfold goD; dsimp only; omega, by unfold goD; dsimp only; omega⟩⟩
theorem set_ok {l : List PodD} {i : Nat} {p : PodD} (h : ∀ q ∈ l, q.Ok) (hp : p.Ok) : ∀ q ∈ l.set i p, q.Ok := by
  intro q hq
  rcases List.mem_or_eq_of_mem_set hq with e | e
  · exact h q e
  · rw [e]; exact hp
theorem place_eqA {α : Type} {f : α → Int} {id : Int} : ∀ {l : List α} {k : Int} {i : Nat} (hi : i < l.length), place f id l k = k + i → 0 ≤ k → f l[i] = id
  | [], _, _, hi, _, _ => by simp at hi
  | x :: r, k, i, hi, h, hk => by
    by_cases hx : f x = id
    · simp only [place, if_pos hx] at h
      obtain rfl : i = 0 := by omega
      exact hx
    · simp only [place, if_neg hx] at h
      cases i with
      | zero =>
        have h3 : place f id r (k + 1) < 0 ∨ k + 1 ≤ place f id r (k + 1) := place_or r (k + 1) (by omega)
        omega
      | succ i =>
        simp only [List.getElem_cons_succ]
        exact place_eqA (k := k + 1) (by simpa using hi) (by rw [h]; omega) (by omega)
theorem made_ok {ns : List NodeD} {x : List WantD} {t : StateD} {m : MoveD} (hn : ∀ n ∈ ns, n.Ok) (hx : ∀ y ∈ x, y.Ok) (hl : ∀ p ∈ t.pods, p.Ok) (h : (makeD ns x t m).2 = 0) : (∀ p ∈ (makeD ns x t m).1.pods, p.Ok) ∧ (makeD ns x t m).1.pods.length = t.pods.length := by
  refine ⟨?_, made_len9 h⟩
  by_cases h1 : wellD m = false
  · rw [makeD, if_pos h1] at h; cases h
  by_cases h2 : hereD ns t.pods m = false
  · rw [makeD, if_neg h1, if_pos h2] at h; cases h
  by_cases h3 : canD t.pods m = false
  · rw [makeD, if_neg h1, if_neg h2, if_pos h3] at h; cases h
  rw [makeD, if_neg h1, if_neg h2, if_neg h3]
  dsimp only
  unfold behindD
  by_cases k2 : m.kind = 2
  · rw [if_pos k2]
    exact set_ok hl (go_ok (podZ_ok hl))
  · have hnode : I64 m.node := by
      have h2' : hereD ns t.pods m = true := by simpa using h2
      unfold hereD at h2'
      have k2' : (m.kind == 2) = false := by simp [k2]
      simp only [k2', Bool.or_false, Bool.and_eq_true, Bool.not_eq_true', decide_eq_false_iff_not] at h2'
      obtain ⟨i, hi, e⟩ : ∃ (i : Nat) (hi : i < ns.length), place NodeD.id m.node ns 0 = i := by
        have h3 := h2'.2.1
        have := place_ge (f := NodeD.id) (id := m.node) (l := ns) (k := 0) (by omega)
        exact ⟨(place NodeD.id m.node ns 0).toNat, by omega, by omega⟩
      have e1 := place_eqA (f := NodeD.id) (id := m.node) (k := 0) hi (by rw [e]; omega) (by omega)
      rw [← e1]
      exact (hn _ (List.getElem_mem hi)).1
    have hc := come_ok (node := m.node) hx (podZ_ok (id := m.pod) hl) hnode
    rw [if_neg k2]
    split
    · exact set_ok hl hc
    · split
      · exact set_ok (set_ok hl (go_ok (podZ_ok hl))) hc
      · exact set_ok hl hc
/-! Moves, one behind the other. -/
/-! All of a walk. -/
def firstD (s : SnapD) : StateD := ⟨s.pods, 0, 0⟩
end Go.Proofs.YtpfjeoldgcepnaaGreatDoor

/- The program's fault and Do of layer 12. -/
namespace Go.Proofs.YtpfjeoldgcepnaaGreatDoor
set_option linter.unusedSimpArgs false
open Go.RowKit
set_option linter.unusedVariables false

theorem Out.later {α : Type} {size : Nat} {cells : α → List Value} {w V : World} {xs : List α} {A : Option Addr} {c : Nat} (h : Out size cells w xs A c) (hb : Below w.heap.size w V) : Out size cells V xs A c :=
  ⟨h.1, h.2.1, h.2.2.1, (h.2.2.2.below hb (Nat.le_refl _)).more hb.size⟩
theorem fair_zero {s : SnapD} {x : SpecD} (h : (fair s x).1 = 0) : fair s x = (0, -1) := by
  by_cases h0 : (check s).1 = 0
  · by_cases h1 : x.preempts < 0 ∨ 40 < x.preempts ∨ x.shifts < 0 ∨ 40 < x.shifts
    · rw [fair_large h0 h1] at h; cases h
    · cases hf : firstWant s true 0 0 x.wants with
      | none => exact fair_fine h0 h1 hf
      | some p =>
        obtain ⟨b, k⟩ := p
        rw [fair_some h0 h1 hf] at h
        have hb : b ≠ 0 := by
          have : ∀ (l : List WantD) (f : Bool) (last : Int) (k : Nat) (b : Int) (j : Nat), firstWant s f last k l = some (b, j) → b ≠ 0 := by
            intro l
            induction l with
            | nil => intro f last k b j h; simp [firstWant] at h
            | cons y r ih =>
              intro f last k b j h
              simp only [firstWant] at h
              split at h
              · rename_i h0; simp at h; rw [← h.1]; exact h0
              · exact ih _ _ _ _ _ h
          exact this _ _ _ _ _ _ hf
        exact absurd h hb
  · rw [fair_bad h0] at h; exact absurd h h0

theorem StateTo.less {u : StateD} {w V w' : World} {v : Value} (h : StateTo u V v w') (hb : Below w.heap.size w V) : StateTo u w v w' := by
  obtain ⟨A, c, h1, h2, h3, h4⟩ := h
  exact ⟨A, c, h1, h2, fun a e => Nat.le_trans hb.size (h3 a e), hb.trans (h4.mono hb.size)⟩

end Go.Proofs.YtpfjeoldgcepnaaGreatDoor

/- The head of layer 3's statements, and the law ClusterFewer, walked, from what cluster.Check and cluster.Fair come to. -/
namespace Go.Proofs.YtpfjeoldgcepnaaGreatDoor
set_option linter.unusedSimpArgs false
open Go.RowKit
set_option linter.unusedVariables false

def SnapD.Ok (s : SnapD) : Prop := (∀ a ∈ s.nodes, a.Ok) ∧ (∀ a ∈ s.loads, a.Ok) ∧ (∀ a ∈ s.pods, a.Ok)
/-- cluster.Check tells what is amiss first. -/
def CheckHolds : Prop := ∀ (s : SnapD) (A1 A2 A3 : Option Addr) (n1 c1 n2 c2 n3 c3 B : Nat) (w : World), s.Ok → n1 = s.nodes.length → n2 = s.loads.length → n3 = s.pods.length → n1 ≤ 40 → n2 ≤ 40 → n3 ≤ 40 → n1 ≤ c1 → n2 ≤ c2 → n3 ≤ c3 → c1 ≤ maxLen → c2 ≤ maxLen → c3 ≤ maxLen → B ≤ w.heap.size →
  Recs 10 cellsN w B A1 s.nodes → Recs 5 cellsL w B A2 s.loads → Recs 8 cellsP w B A3 s.pods → Calls Tryz.prog 53 #[snapV A1 A2 A3 n1 c1 n2 c2 n3 c3] w (ErrTo (check s) w)
/-- cluster.Fair tells what is amiss first. -/
def FairHolds : Prop := ∀ (s : SnapD) (x : SpecD) (A1 A2 A3 A4 : Option Addr) (n1 c1 n2 c2 n3 c3 n4 c4 B : Nat) (w : World), s.Ok → (∀ a ∈ x.wants, a.Ok) → I64 x.preempts → I64 x.shifts → n1 = s.nodes.length → n2 = s.loads.length → n3 = s.pods.length → n4 = x.wants.length → n1 ≤ 40 → n2 ≤ 40 → n3 ≤ 40 → n4 ≤ 40 → n1 ≤ c1 → n2 ≤ c2 → n3 ≤ c3 → n4 ≤ c4 → c1 ≤ maxLen → c2 ≤ maxLen → c3 ≤ maxLen → c4 ≤ maxLen → B ≤ w.heap.size →
  Recs 10 cellsN w B A1 s.nodes → Recs 5 cellsL w B A2 s.loads → Recs 8 cellsP w B A3 s.pods → Recs 6 cellsW w B A4 x.wants → Calls Tryz.prog 23 #[snapV A1 A2 A3 n1 c1 n2 c2 n3 c3, specV A4 n4 c4 x] w (ErrTo (fair s x) w)

theorem errIs_none {B : Nat} {w : World} {u : Value} {p : Int × Int} (h : ErrIs p B w u) (hp : p.1 = 0) (h2 : p.2 = -1) : u = .nilIface := by
  rcases h with ⟨_, h⟩ | ⟨_, h, _⟩ | ⟨k, g, h, _⟩
  · exact h
  · omega
  · omega
theorem errIs_some {B : Nat} {w : World} {u : Value} {p : Int × Int} (h : ErrIs p B w u) (hp : p.1 ≠ 0) : ∃ t v, u = .iface t v := by
  rcases h with ⟨h, _⟩ | ⟨_, _, _, h⟩ | ⟨k, g, h, h3, _⟩
  · rw [h] at hp; simp at hp
  · exact ⟨_, _, h⟩
  · exact ⟨_, _, h3⟩

def z4 : V4 := ⟨0, 0, 0, 0⟩
end Go.Proofs.YtpfjeoldgcepnaaGreatDoor

/- What a move changes of a state's pods: its Pod and its Over; what stands of a snapshot that may be, and of its states. -/
namespace Go.Proofs.YtpfjeoldgcepnaaGreatDoor
set_option linter.unusedSimpArgs false
open Go.RowKit
set_option linter.unusedVariables false

/-! What stands where all may be. -/
structure FineN (ns : List NodeD) : Prop where
  some : ns ≠ []
  ids : ∀ n ∈ ns, 1 ≤ n.id
  one : (ns.map NodeD.id).Nodup
  held : ∀ n ∈ ns, n.held.le n.cap = true
  ok : ∀ n ∈ ns, n.Ok
  len : ns.length ≤ 40
structure FineL (ls : List LoadD) : Prop where
  one : (ls.map LoadD.id).Nodup
  skew : ∀ x ∈ ls, 0 ≤ x.skew
  len : ls.length ≤ 40
structure FineP (ns : List NodeD) (l : List PodD) : Prop where
  ids : ∀ p ∈ l, 1 ≤ p.id
  one : (l.map PodD.id).Nodup
  ok : ∀ p ∈ l, p.Ok
  node : ∀ p ∈ l, p.node = 0 ∨ ∃ n ∈ ns, n.id = p.node
  len : l.length ≤ 12
theorem firstBad_all {α : Type} {bad : Int → α → Int} {f : α → Int} : ∀ {l : List α} {last : Int} {k : Nat}, firstBad bad f last k l = none → ∀ x ∈ l, ∃ la, bad la x = 0
  | [], _, _, _, x, h => by simp at h
  | y :: r, last, k, hn, x, h => by
    simp only [firstBad] at hn
    split at hn
    · cases hn
    · rename_i h0
      rcases List.mem_cons.1 h with e | e
      · exact ⟨last, by rw [e]; simpa using h0⟩
      · exact firstBad_all hn x e
theorem firstBad_nodup {α : Type} {bad : Int → α → Int} {f : α → Int} (hbad : ∀ last x, bad last x = 0 → last < f x) {l : List α} {last : Int} {k : Nat} (h : firstBad bad f last k l = none) : (l.map f).Nodup := by
  unfold List.Nodup
  rw [List.pairwise_map, List.pairwise_iff_getElem]
  intro i k hi hk hik e
  have := (firstBad_rises hbad h k hk).2 i hik
  omega
theorem podBad_rises (ns : List NodeD) (ls : List LoadD) (last : Int) (p : PodD) (h : podBad ns ls last p = 0) : last < p.id := by
  unfold podBad at h
  split at h
  · rename_i h1; exact absurd h h1
  · rename_i h1; exact (idBad_ok (by simpa using h1)).2.2
theorem fine_of {s : SnapD} {x : SpecD} (hs : s.Ok) (h : (fair s x).1 = 0) : FineN s.nodes ∧ FineL s.loads ∧ FineP s.nodes s.pods := by
  have hc : (check s).1 = 0 := by
    by_cases hc : (check s).1 = 0
    · exact hc
    · rw [fair_bad hc] at h; exact absurd h hc
  obtain ⟨h1, h2, h3, h4⟩ := check_ok.1 hc
  simp only [large, decide_eq_false_iff_not] at h1
  refine ⟨⟨fun e => h1 (.inl (by rw [e]; rfl)), fun n hn => ?_, firstBad_nodup nodeBad_rises h2, fun n hn => ?_, hs.1, by omega⟩, ⟨firstBad_nodup loadBad_rises h3, fun y hy => ?_, by omega⟩, ⟨fun p hp => ?_, firstBad_nodup (podBad_rises _ _) h4, hs.2.2, fun p hp => ?_, by omega⟩⟩
  · obtain ⟨la, e⟩ := firstBad_all h2 n hn
    unfold nodeBad at e
    split at e
    · cases e
    · exact (idBad_ok e).1
  · obtain ⟨la, e⟩ := firstBad_all h2 n hn
    unfold nodeBad at e
    split at e
    · cases e
    · rename_i h5
      cases hh : n.held.le n.cap with
      | true => rfl
      | false => exact absurd ⟨e, .inr (.inr hh)⟩ h5
  · obtain ⟨la, e⟩ := firstBad_all h3 y hy
    unfold loadBad at e
    split at e
    · cases e
    · rename_i h5
      have : countOk y.skew = true := by
        cases hh : countOk y.skew with
        | true => rfl
        | false => exact absurd ⟨e, .inl hh⟩ h5
      have := of_decide_eq_true this
      omega
  · obtain ⟨la, e⟩ := firstBad_all h4 p hp
    unfold podBad at e
    split at e
    · rename_i h5; exact absurd e h5
    · rename_i h5; exact (idBad_ok (by simpa using h5)).1
  · obtain ⟨la, e⟩ := firstBad_all h4 p hp
    unfold podBad at e
    split at e
    · rename_i h5; exact absurd e h5
    · split at e
      · cases e
      · split at e
        · cases e
        · rename_i h6
          by_cases h0 : p.node = 0
          · exact .inl h0
          · right
            have h7 : ¬ place NodeD.id p.node s.nodes 0 < 0 := fun e => h6 (.inr ⟨h0, e⟩)
            rw [place_neg (by omega)] at h7
            simp only [ne_eq, Classical.not_forall, Classical.not_not] at h7
            obtain ⟨n, hn, e⟩ := h7
            exact ⟨n, hn, e⟩

/-! A move's Pod and its Over. -/
def partD (l : List PodD) (m : MoveD) : List PodD := (podAt m.pod l).toList ++ (podAt m.over l).toList
/-- These pods in place of those of their Ids. -/
def turnP (l m : List PodD) : List PodD := m.foldl (fun l p => l.set (idxD p.id l) p) l
theorem podAt_zero {ns : List NodeD} {l : List PodD} (h : FineP ns l) {id : Int} (h0 : id < 1) : podAt id l = none := by
  rw [podAt_none (k := 0) (by omega), place_neg (by omega)]
  intro p hp e
  have := h.ids p hp
  omega
theorem place_set {id : Int} : ∀ {l : List PodD} {k : Int} {i : Nat} {p : PodD} (hi : i < l.length), p.id = l[i].id → place PodD.id id (l.set i p) k = place PodD.id id l k
  | [], _, _, _, hi, _ => by simp at hi
  | x :: r, k, 0, p, hi, h => by
    have h : p.id = x.id := h
    simp only [List.set_cons_zero, place, h]
  | x :: r, k, i + 1, p, hi, h => by
    simp only [List.set_cons_succ, place]
    rw [place_set (l := r) (by simpa using hi) (by simpa using h)]
theorem ids_set {l : List PodD} {i : Nat} {p : PodD} (hi : i < l.length) (h : p.id = l[i].id) : (l.set i p).map PodD.id = l.map PodD.id := by
  rw [List.map_set, h]
  have : (l.map PodD.id)[i]'(by simpa using hi) = l[i].id := by simp
  rw [← this]
  exact List.set_getElem_self _
theorem set_permV {l : List PodD} {i : Nat} (hi : i < l.length) (p : PodD) : (l.set i p).Perm (p :: l.eraseIdx i) := by
  have h1 : l.set i p = l.take i ++ p :: l.drop (i + 1) := by rw [List.set_eq_take_append_cons_drop, if_pos hi]
  have h2 : l.eraseIdx i = l.take i ++ l.drop (i + 1) := List.eraseIdx_eq_take_drop_succ ..
  rw [h1, h2]
  exact List.perm_middle
theorem self_permV {l : List PodD} {i : Nat} (hi : i < l.length) : l.Perm (l[i] :: l.eraseIdx i) := by
  have := set_permV hi l[i]
  rwa [List.set_getElem_self] at this
theorem swap_permV {l : List PodD} {i : Nat} (hi : i < l.length) (p : PodD) : (l[i] :: l.set i p).Perm (p :: l) :=
  ((set_permV hi p).cons _).trans ((List.Perm.swap _ _ _).trans ((self_permV hi).symm.cons _))
theorem two_permV {l : List PodD} {i k : Nat} (hi : i < l.length) (hk : k < l.length) (hne : i ≠ k) : ∃ r, l.Perm (l[i] :: l[k] :: r) := by
  have hm : l[k] ∈ l.eraseIdx i := by
    rw [List.mem_eraseIdx_iff_getElem]
    exact ⟨k, hk, fun e => hne e.symm, rfl⟩
  obtain ⟨s, t, e⟩ := List.append_of_mem hm
  refine ⟨s ++ t, (self_permV hi).trans ?_⟩
  rw [e]
  exact List.perm_middle.cons _
theorem set_two_permV {l r : List PodD} {i k : Nat} (hi : i < l.length) (hk : k < l.length) (hne : i ≠ k) (p q : PodD) (h : l.Perm (l[i] :: l[k] :: r)) : ((l.set k q).set i p).Perm (p :: q :: r) := by
  have e1 : (l.set k q)[i]'(by simpa using hi) = l[i] := by rw [List.getElem_set_ne (fun e => hne e.symm)]
  have h1 := swap_permV (l := l.set k q) (i := i) (by simpa using hi) p
  rw [e1] at h1
  have h2 := swap_permV hk q
  have h3 : (l[k] :: l[i] :: (l.set k q).set i p).Perm (l[k] :: l[i] :: p :: q :: r) := by
    refine (h1.cons _).trans ((List.Perm.swap _ _ _).trans ((h2.cons _).trans ?_))
    refine ((h.cons q).cons p).trans ?_
    have : (p :: q :: l[i] :: l[k] :: r) = [p, q] ++ (l[i] :: l[k] :: r) := rfl
    rw [this]
    refine (List.perm_append_comm (l₁ := [p, q]) (l₂ := l[i] :: l[k] :: r)).trans ?_
    show (l[i] :: l[k] :: (r ++ [p, q])).Perm _
    refine (List.Perm.swap _ _ _).trans ?_
    exact (List.perm_append_comm.cons _).cons _
  exact h3.cons_inv.cons_inv
theorem idx_set {id : Int} {l : List PodD} {i : Nat} {p : PodD} (hi : i < l.length) (h : p.id = l[i].id) : idxD id (l.set i p) = idxD id l := by unfold idxD; rw [place_set hi h]
theorem podAt_place {l : List PodD} {id : Int} {i : Nat} (hi : i < l.length) (h : place PodD.id id l 0 = i) : podAt id l = some l[i] := podAt_some (l := l) (k := 0) hi (by rw [h]; omega) (by omega)
theorem idx_place {l : List PodD} {id : Int} {i : Nat} (h : place PodD.id id l 0 = i) : idxD id l = i := by unfold idxD; rw [h]; rfl
/-- What a move changes. -/
structure Turned (ns : List NodeD) (l l' : List PodD) (m : MoveD) : Prop where
  rest : ∃ r, l.Perm (partD l m ++ r) ∧ l'.Perm (partD l' m ++ r)
  there : turnP l (partD l' m) = l'
  back : turnP l' (partD l m) = l
  node : ∀ p ∈ partD l' m, p.node = 0 ∨ p.node = m.node
  loads : (partD l' m).map PodD.load = (partD l m).map PodD.load
  ids : (partD l' m).map PodD.id = (partD l m).map PodD.id
  fine : FineP ns l'
theorem turned_one {ns : List NodeD} {l : List PodD} {m : MoveD} {i : Nat} (hi : i < l.length) (hp : place PodD.id m.pod l 0 = i) (ho : podAt m.over l = none) (p : PodD) (h1 : p.id = l[i].id) (h2 : p.load = l[i].load) (h3 : p.node = 0 ∨ p.node = m.node) (hf : FineP ns (l.set i p)) : Turned ns l (l.set i p) m := by
  have a1 : partD l m = [l[i]] := by unfold partD; rw [podAt_place hi hp, ho]; rfl
  have a2 : partD (l.set i p) m = [p] := by
    unfold partD
    have e1 : podAt m.pod (l.set i p) = some p := by
      rw [podAt_place (l := l.set i p) (i := i) (by simpa using hi) (by rw [place_set hi h1]; exact hp)]
      simp
    have e2 : podAt m.over (l.set i p) = none := by
      rw [podAt_none (k := 0) (by omega), place_set hi h1, ← podAt_none (k := 0) (by omega)]; exact ho
    rw [e1, e2]; rfl
  have e0 : l[i].id = m.pod := place_is hi hp
  refine ⟨⟨l.eraseIdx i, by rw [a1]; exact self_permV hi, by rw [a2]; exact set_permV hi p⟩, ?_, ?_, ?_, ?_, ?_, hf⟩
  · rw [a2]
    show l.set (idxD p.id l) p = _
    rw [h1, e0, idx_place hp]
  · rw [a1]
    show (l.set i p).set (idxD l[i].id (l.set i p)) l[i] = _
    rw [e0, idx_set hi h1, idx_place hp, List.set_set]
    exact List.set_getElem_self _
  · rw [a2]; intro q hq; rw [List.mem_singleton.1 hq]; exact h3
  · rw [a1, a2]; simp [h2]
  · rw [a1, a2]; simp [h1]
theorem turned_two {ns : List NodeD} {l : List PodD} {m : MoveD} {i k : Nat} (hi : i < l.length) (hk : k < l.length) (hne : m.over ≠ m.pod) (hp : place PodD.id m.pod l 0 = i) (hq : place PodD.id m.over l 0 = k) (p q : PodD) (h1 : p.id = l[i].id) (h2 : p.load = l[i].load) (h3 : p.node = 0 ∨ p.node = m.node)
    (g1 : q.id = l[k].id) (g2 : q.load = l[k].load) (g3 : q.node = 0 ∨ q.node = m.node) (hf : FineP ns ((l.set k q).set i p)) : Turned ns l ((l.set k q).set i p) m := by
  have e0 : l[i].id = m.pod := place_is hi hp
  have e1 : l[k].id = m.over := place_is hk hq
  have hik : i ≠ k := fun e => hne (by subst e; rw [← e0, ← e1])
  have hi' : i < (l.set k q).length := by simpa using hi
  have f1 : (l.set k q)[i] = l[i] := by rw [List.getElem_set_ne (fun e => hik e.symm)]
  have h1' : p.id = (l.set k q)[i].id := by rw [f1]; exact h1
  have a1 : partD l m = [l[i], l[k]] := by unfold partD; rw [podAt_place hi hp, podAt_place hk hq]; rfl
  have pl1 : place PodD.id m.pod ((l.set k q).set i p) 0 = i := by rw [place_set hi' h1', place_set hk g1]; exact hp
  have pl2 : place PodD.id m.over ((l.set k q).set i p) 0 = k := by rw [place_set hi' h1', place_set hk g1]; exact hq
  have a2 : partD ((l.set k q).set i p) m = [p, q] := by
    unfold partD
    rw [podAt_place (by simpa using hi) pl1, podAt_place (by simpa using hk) pl2]
    simp [List.getElem_set_ne hik]
  obtain ⟨r, hr⟩ := two_permV hi hk hik
  refine ⟨⟨r, by rw [a1]; exact hr, by rw [a2]; exact set_two_permV hi hk hik p q hr⟩, ?_, ?_, ?_, ?_, ?_, hf⟩
  · rw [a2]
    show (l.set (idxD p.id l) p).set (idxD q.id (l.set (idxD p.id l) p)) q = _
    rw [h1, e0, idx_place hp, g1, e1, idx_set hi h1, idx_place hq]
    exact List.set_comm _ _ hik
  · rw [a1]
    show (((l.set k q).set i p).set (idxD l[i].id ((l.set k q).set i p)) l[i]).set (idxD l[k].id (((l.set k q).set i p).set (idxD l[i].id ((l.set k q).set i p)) l[i])) l[k] = _
    rw [e0, idx_place pl1, List.set_set, e1, idx_set hi' (by rw [f1]), idx_set hk g1, idx_place hq]
    rw [← f1, List.set_getElem_self, List.set_set]
    exact List.set_getElem_self _
  · rw [a2]; intro y hy
    simp only [List.mem_cons, List.not_mem_nil, or_false] at hy
    rcases hy with rfl | rfl
    · exact h3
    · exact g3
  · rw [a1, a2]; simp [h2, g2]
  · rw [a1, a2]; simp [h1, g1]
theorem made_is {ns : List NodeD} {x : List WantD} {t : StateD} {m : MoveD} (h : (makeD ns x t m).2 = 0) : wellD m = true ∧ hereD ns t.pods m = true ∧ canD t.pods m = true ∧ (makeD ns x t m).1 = behindD x t m := by
  unfold makeD at h ⊢
  split at h
  · cases h
  · split at h
    · cases h
    · split at h
      · cases h
      · rename_i q1 q2 q3
        rw [if_neg q1, if_neg q2, if_neg q3]
        exact ⟨by simpa using q1, by simpa using q2, by simpa using q3, rfl⟩
theorem fine_set {ns : List NodeD} {l : List PodD} (h : FineP ns l) {i : Nat} {p : PodD} (hi : i < l.length) (h1 : p.id = l[i].id) (ho : p.Ok) (hn : p.node = 0 ∨ ∃ n ∈ ns, n.id = p.node) : FineP ns (l.set i p) := by
  refine ⟨fun q hq => ?_, by rw [ids_set hi h1]; exact h.one, set_ok h.ok ho, fun q hq => ?_, by simpa using h.len⟩
  · rcases List.mem_or_eq_of_mem_set hq with e | e
    · exact h.ids q e
    · rw [e, h1]; exact h.ids _ (List.getElem_mem hi)
  · rcases List.mem_or_eq_of_mem_set hq with e | e
    · exact h.node q e
    · rw [e]; exact hn
theorem turned_made {ns : List NodeD} {x : List WantD} {t : StateD} {m : MoveD} (hn : FineN ns) (hx : ∀ y ∈ x, y.Ok) (hP : FineP ns t.pods) (h : (makeD ns x t m).2 = 0) : Turned ns t.pods (makeD ns x t m).1.pods m := by
  obtain ⟨hw, hh, hc, he⟩ := made_is h
  rw [he]
  obtain ⟨i, hi, hpi⟩ := place_hit (here_pod hh)
  have ez := podZ_some hi hpi
  have ei := idx_place hpi
  have hk := well_kinds hw
  have hover := here_over hh hc
  unfold behindD
  by_cases k2 : m.kind = 2
  · rw [if_pos k2, ei, ez]
    have hov : m.over = 0 := by
      unfold wellD at hw
      rw [if_neg (by omega), if_pos k2] at hw
      simp at hw; exact hw.2
    exact turned_one hi hpi (podAt_zero hP (by omega)) (goD t.pods[i]) rfl rfl (.inl rfl) (fine_set hP hi rfl (go_ok (hP.ok _ (List.getElem_mem hi))) (.inl rfl))
  · have hnode : ∃ n ∈ ns, n.id = m.node := by
      unfold hereD at hh
      have k2' : (m.kind == 2) = false := by simp [k2]
      simp only [k2', Bool.or_false, Bool.and_eq_true, Bool.not_eq_true', decide_eq_false_iff_not] at hh
      have h7 := hh.2.1
      rw [place_neg (by omega)] at h7
      simp only [ne_eq, Classical.not_forall, Classical.not_not] at h7
      obtain ⟨n, hn, e⟩ := h7
      exact ⟨n, hn, e⟩
    have hI : I64 m.node := by obtain ⟨n, h1, h2⟩ := hnode; rw [← h2]; exact (hn.ok n h1).1
    have hcp : (comeD x m.node t.pods[i]).Ok := come_ok hx (hP.ok _ (List.getElem_mem hi)) hI
    rw [if_neg k2]
    by_cases k3 : m.kind = 3
    · rw [if_pos k3, ei, ez]
      have hov : m.over = 0 := by
        unfold wellD at hw
        rw [if_pos (.inr k3)] at hw
        simpa using hw
      exact turned_one hi hpi (podAt_zero hP (by omega)) (comeD x m.node t.pods[i]) rfl rfl (.inr rfl) (fine_set hP hi rfl hcp (.inr hnode))
    · rw [if_neg k3]
      by_cases k4 : m.kind = 4
      · rw [if_pos k4]
        obtain ⟨ho1, ho2⟩ := hover k4
        obtain ⟨k, hk', hpk⟩ := place_hit ho1
        have ezk := podZ_some hk' hpk
        have hfk := fine_set hP hk' (p := goD t.pods[k]) rfl (go_ok (hP.ok _ (List.getElem_mem hk'))) (.inl rfl)
        have hki : k ≠ i := fun e => by
          subst e
          exact ho2 ((place_is hk' hpk).symm.trans (place_is hi hpi))
        have f1 : (t.pods.set k (goD t.pods[k]))[i]'(by simpa using hi) = t.pods[i] := by rw [List.getElem_set_ne hki]
        rw [ei, ez, idx_place hpk, ezk]
        exact turned_two hi hk' ho2 hpi hpk (comeD x m.node t.pods[i]) (goD t.pods[k]) rfl rfl (.inr rfl) rfl rfl (.inl rfl) (fine_set hfk (by simpa using hi) (by rw [f1]; rfl) hcp (.inr hnode))
      · rw [if_neg k4, ei, ez]
        have k1 : m.kind = 1 := by omega
        have hov : m.over = 0 := by
          unfold wellD at hw
          rw [if_pos (.inl k1)] at hw
          simpa using hw
        exact turned_one hi hpi (podAt_zero hP (by omega)) (comeD x m.node t.pods[i]) rfl rfl (.inr rfl) (fine_set hP hi rfl hcp (.inr hnode))
end Go.Proofs.YtpfjeoldgcepnaaGreatDoor

/- The program's orderFault at every place, and idFault, at each kind of record. -/
namespace Go.Proofs.YtpfjeoldgcepnaaGreatDoor
set_option linter.unusedSimpArgs false
open Go.RowKit
set_option linter.unusedVariables false

/-- What is amiss with the Id at a place beside the one ahead. -/
def ordAt {α : Type} (f : α → Int) (l : List α) : Nat → Int
  | 0 => 0
  | j + 1 => match l[j]?, l[j + 1]? with
    | some y, some x => ordI (f y) (f x)
    | _, _ => 0
theorem ordAt_next {α : Type} {f : α → Int} {l : List α} {j : Nat} (h : j + 1 < l.length) : ordAt f l (j + 1) = ordI (f l[j]) (f l[j + 1]) := by
  simp [ordAt, List.getElem?_eq_getElem h, List.getElem?_eq_getElem (show j < l.length by omega)]

theorem orderN_any (l : List NodeD) (k : Nat) (A : Option Addr) (n c : Nat) (w : World) (hn : n = l.length) (hl : n ≤ 1000) (hk : k < l.length) (hr : Recs 10 cellsN w w.heap.size A l) :
    Calls Tryz.prog 147 #[.slice A n c, .int .i64 (k : Int), .func (.func 88) #[] #[]] w fun e w' => e = .returned (.int .i64 (ordAt NodeD.id l k)) ∧ Below w.heap.size w w' := by
  cases k with
  | zero => exact (orderN_first A n c _ w).mono fun e w' ⟨h1, h2⟩ => ⟨h1, h2 ▸ Below.refl _ _⟩
  | succ j =>
    rw [ordAt_next hk]
    exact orderN_next l j A n c w hn hl hk hr

theorem orderL_any (l : List LoadD) (k : Nat) (A : Option Addr) (n c : Nat) (w : World) (hn : n = l.length) (hl : n ≤ 1000) (hk : k < l.length) (hr : Recs 5 cellsL w w.heap.size A l) :
    Calls Tryz.prog 148 #[.slice A n c, .int .i64 (k : Int), .func (.func 97) #[] #[]] w fun e w' => e = .returned (.int .i64 (ordAt LoadD.id l k)) ∧ Below w.heap.size w w' := by
  cases k with
  | zero => exact (orderL_first A n c _ w).mono fun e w' ⟨h1, h2⟩ => ⟨h1, h2 ▸ Below.refl _ _⟩
  | succ j =>
    rw [ordAt_next hk]
    exact orderL_next l j A n c w hn hl hk hr

theorem orderP_any (l : List PodD) (k : Nat) (A : Option Addr) (n c : Nat) (w : World) (hn : n = l.length) (hl : n ≤ 1000) (hk : k < l.length) (hr : Recs 8 cellsP w w.heap.size A l) :
    Calls Tryz.prog 149 #[.slice A n c, .int .i64 (k : Int), .func (.func 100) #[] #[]] w fun e w' => e = .returned (.int .i64 (ordAt PodD.id l k)) ∧ Below w.heap.size w w' := by
  cases k with
  | zero => exact (orderP_first A n c _ w).mono fun e w' ⟨h1, h2⟩ => ⟨h1, h2 ▸ Below.refl _ _⟩
  | succ j =>
    rw [ordAt_next hk]
    exact orderP_next l j A n c w hn hl hk hr

theorem orderW_any (l : List WantD) (k : Nat) (A : Option Addr) (n c : Nat) (w : World) (hn : n = l.length) (hl : n ≤ 1000) (hk : k < l.length) (hr : Recs 6 cellsW w w.heap.size A l) :
    Calls Tryz.prog 56 #[.slice A n c, .int .i64 (k : Int), .func (.func 57) #[] #[]] w fun e w' => e = .returned (.int .i64 (ordAt WantD.pod l k)) ∧ Below w.heap.size w w' := by
  cases k with
  | zero => exact (orderW_first A n c _ w).mono fun e w' ⟨h1, h2⟩ => ⟨h1, h2 ▸ Below.refl _ _⟩
  | succ j =>
    rw [ordAt_next hk]
    exact orderW_next l j A n c w hn hl hk hr

set_option maxHeartbeats 1600000 in
theorem idFaultN_any (l : List NodeD) (k : Nat) (A : Option Addr) (n c : Nat) (w : World) (hn : n = l.length) (hl : n ≤ 1000) (hk : k < l.length) (hr : Recs 10 cellsN w w.heap.size A l) :
    Calls Tryz.prog 124 #[.slice A n c, .int .i64 (k : Int), .func (.func 88) #[] #[]] w fun e w' => e = .returned (.int .i64 (idI (ordAt NodeD.id l k) l[k].id)) ∧ Below w.heap.size w w' := by
  have HO := Lib.hid (orderN_any l k A n c w hn hl hk hr)
  obtain ⟨b, o, rfl, hb, he⟩ := hr.at hk
  have hkn : (k : Int) < (n : Int) := by omega
  have hk0 : (0 : Int) ≤ (k : Int) := by omega
  generalize l[k] = x at *
  generalize ordAt NodeD.id l k = q at *
  have HEE := Lib.hid he
  clear he hn hr hk
  go_enter Tryz.func124, Tryz.ntmps124
  go_wp2_with fail
  refine HO.out.mono ?_
  rintro e w1 ⟨rfl, hb1⟩
  by_cases hq : q = 0
  · obtain rfl := hq
    have e0 : w1.cell? ⟨b, o + k * 10, none⟩ = some (.int .i64 x.id) := (hb1.cell (p := ⟨b, o + k * 10, none⟩) hb).trans (HEE.out 0 _ rfl)
    have e1 : w1.cell? ⟨b, o + k * 10 + 1, none⟩ = some (.int .i64 x.zone) := (hb1.cell (p := ⟨b, o + k * 10 + 1, none⟩) hb).trans (HEE.out 1 _ rfl)
    have e2 : w1.cell? ⟨b, o + k * 10 + 2, none⟩ = some (.int .u64 x.cap.a) := (hb1.cell (p := ⟨b, o + k * 10 + 2, none⟩) hb).trans (HEE.out 2 _ rfl)
    have e3 : w1.cell? ⟨b, o + k * 10 + 3, none⟩ = some (.int .u64 x.cap.b) := (hb1.cell (p := ⟨b, o + k * 10 + 3, none⟩) hb).trans (HEE.out 3 _ rfl)
    have e4 : w1.cell? ⟨b, o + k * 10 + 4, none⟩ = some (.int .u64 x.cap.c) := (hb1.cell (p := ⟨b, o + k * 10 + 4, none⟩) hb).trans (HEE.out 4 _ rfl)
    have e5 : w1.cell? ⟨b, o + k * 10 + 5, none⟩ = some (.int .u64 x.cap.d) := (hb1.cell (p := ⟨b, o + k * 10 + 5, none⟩) hb).trans (HEE.out 5 _ rfl)
    have e6 : w1.cell? ⟨b, o + k * 10 + 6, none⟩ = some (.int .u64 x.held.a) := (hb1.cell (p := ⟨b, o + k * 10 + 6, none⟩) hb).trans (HEE.out 6 _ rfl)
    have e7 : w1.cell? ⟨b, o + k * 10 + 7, none⟩ = some (.int .u64 x.held.b) := (hb1.cell (p := ⟨b, o + k * 10 + 7, none⟩) hb).trans (HEE.out 7 _ rfl)
    have e8 : w1.cell? ⟨b, o + k * 10 + 8, none⟩ = some (.int .u64 x.held.c) := (hb1.cell (p := ⟨b, o + k * 10 + 8, none⟩) hb).trans (HEE.out 8 _ rfl)
    have e9 : w1.cell? ⟨b, o + k * 10 + 9, none⟩ = some (.int .u64 x.held.d) := (hb1.cell (p := ⟨b, o + k * 10 + 9, none⟩) hb).trans (HEE.out 9 _ rfl)
    go_wp2_with fail
    refine (idN_any x _).mono ?_
    rintro e w2 ⟨rfl, hb2⟩
    have kk : Below w.heap.size w w2 := hb1.trans (hb2.mono hb1.size)
    go_wp2_with fail
    refine (within_any _ _ _ _).mono ?_
    rintro e w2 ⟨rfl, rfl⟩
    by_cases hi : inB x.id 1 2147483647 = true
    · have HE := Lib.hid (show idI 0 x.id = 0 by simp [idI, hi])
      go_wp2
      go_ret
      exact ⟨ret_int HE.out.symm, kk⟩
    · have hi' : inB x.id 1 2147483647 = false := by simpa using hi
      have HE := Lib.hid (show idI 0 x.id = 1 by simp [idI, hi'])
      clear hi
      go_wp2
      go_ret
      exact ⟨ret_int HE.out.symm, kk⟩
  · have hm : (q != 0) = true := by simpa using hq
    have HE := Lib.hid (show idI q x.id = q by simp [idI, hq])
    clear hq
    go_wp2
    go_ret
    exact ⟨ret_int HE.out.symm, hb1⟩

set_option maxHeartbeats 1600000 in
theorem idFaultL_any (l : List LoadD) (k : Nat) (A : Option Addr) (n c : Nat) (w : World) (hn : n = l.length) (hl : n ≤ 1000) (hk : k < l.length) (hr : Recs 5 cellsL w w.heap.size A l) :
    Calls Tryz.prog 125 #[.slice A n c, .int .i64 (k : Int), .func (.func 97) #[] #[]] w fun e w' => e = .returned (.int .i64 (idI (ordAt LoadD.id l k) l[k].id)) ∧ Below w.heap.size w w' := by
  have HO := Lib.hid (orderL_any l k A n c w hn hl hk hr)
  obtain ⟨b, o, rfl, hb, he⟩ := hr.at hk
  have hkn : (k : Int) < (n : Int) := by omega
  have hk0 : (0 : Int) ≤ (k : Int) := by omega
  generalize l[k] = x at *
  generalize ordAt LoadD.id l k = q at *
  have HEE := Lib.hid he
  clear he hn hr hk
  go_enter Tryz.func125, Tryz.ntmps125
  go_wp2_with fail
  refine HO.out.mono ?_
  rintro e w1 ⟨rfl, hb1⟩
  by_cases hq : q = 0
  · obtain rfl := hq
    have e0 : w1.cell? ⟨b, o + k * 5, none⟩ = some (.int .i64 x.id) := (hb1.cell (p := ⟨b, o + k * 5, none⟩) hb).trans (HEE.out 0 _ rfl)
    have e1 : w1.cell? ⟨b, o + k * 5 + 1, none⟩ = some (.bool x.apart) := (hb1.cell (p := ⟨b, o + k * 5 + 1, none⟩) hb).trans (HEE.out 1 _ rfl)
    have e2 : w1.cell? ⟨b, o + k * 5 + 2, none⟩ = some (.int .i64 x.skew) := (hb1.cell (p := ⟨b, o + k * 5 + 2, none⟩) hb).trans (HEE.out 2 _ rfl)
    have e3 : w1.cell? ⟨b, o + k * 5 + 3, none⟩ = some (.int .i64 x.min) := (hb1.cell (p := ⟨b, o + k * 5 + 3, none⟩) hb).trans (HEE.out 3 _ rfl)
    have e4 : w1.cell? ⟨b, o + k * 5 + 4, none⟩ = some (.int .i64 x.max) := (hb1.cell (p := ⟨b, o + k * 5 + 4, none⟩) hb).trans (HEE.out 4 _ rfl)
    go_wp2_with fail
    refine (idL_any x _).mono ?_
    rintro e w2 ⟨rfl, hb2⟩
    have kk : Below w.heap.size w w2 := hb1.trans (hb2.mono hb1.size)
    go_wp2_with fail
    refine (within_any _ _ _ _).mono ?_
    rintro e w2 ⟨rfl, rfl⟩
    by_cases hi : inB x.id 1 2147483647 = true
    · have HE := Lib.hid (show idI 0 x.id = 0 by simp [idI, hi])
      go_wp2
      go_ret
      exact ⟨ret_int HE.out.symm, kk⟩
    · have hi' : inB x.id 1 2147483647 = false := by simpa using hi
      have HE := Lib.hid (show idI 0 x.id = 1 by simp [idI, hi'])
      clear hi
      go_wp2
      go_ret
      exact ⟨ret_int HE.out.symm, kk⟩
  · have hm : (q != 0) = true := by simpa using hq
    have HE := Lib.hid (show idI q x.id = q by simp [idI, hq])
    clear hq
    go_wp2
    go_ret
    exact ⟨ret_int HE.out.symm, hb1⟩

set_option maxHeartbeats 1600000 in
theorem idFaultP_any (l : List PodD) (k : Nat) (A : Option Addr) (n c : Nat) (w : World) (hn : n = l.length) (hl : n ≤ 1000) (hk : k < l.length) (hr : Recs 8 cellsP w w.heap.size A l) :
    Calls Tryz.prog 127 #[.slice A n c, .int .i64 (k : Int), .func (.func 100) #[] #[]] w fun e w' => e = .returned (.int .i64 (idI (ordAt PodD.id l k) l[k].id)) ∧ Below w.heap.size w w' := by
  have HO := Lib.hid (orderP_any l k A n c w hn hl hk hr)
  obtain ⟨b, o, rfl, hb, he⟩ := hr.at hk
  have hkn : (k : Int) < (n : Int) := by omega
  have hk0 : (0 : Int) ≤ (k : Int) := by omega
  generalize l[k] = x at *
  generalize ordAt PodD.id l k = q at *
  have HEE := Lib.hid he
  clear he hn hr hk
  go_enter Tryz.func127, Tryz.ntmps127
  go_wp2_with fail
  refine HO.out.mono ?_
  rintro e w1 ⟨rfl, hb1⟩
  by_cases hq : q = 0
  · obtain rfl := hq
    have e0 : w1.cell? ⟨b, o + k * 8, none⟩ = some (.int .i64 x.id) := (hb1.cell (p := ⟨b, o + k * 8, none⟩) hb).trans (HEE.out 0 _ rfl)
    have e1 : w1.cell? ⟨b, o + k * 8 + 1, none⟩ = some (.int .i64 x.load) := (hb1.cell (p := ⟨b, o + k * 8 + 1, none⟩) hb).trans (HEE.out 1 _ rfl)
    have e2 : w1.cell? ⟨b, o + k * 8 + 2, none⟩ = some (.int .i64 x.prio) := (hb1.cell (p := ⟨b, o + k * 8 + 2, none⟩) hb).trans (HEE.out 2 _ rfl)
    have e3 : w1.cell? ⟨b, o + k * 8 + 3, none⟩ = some (.int .u64 x.req.a) := (hb1.cell (p := ⟨b, o + k * 8 + 3, none⟩) hb).trans (HEE.out 3 _ rfl)
    have e4 : w1.cell? ⟨b, o + k * 8 + 4, none⟩ = some (.int .u64 x.req.b) := (hb1.cell (p := ⟨b, o + k * 8 + 4, none⟩) hb).trans (HEE.out 4 _ rfl)
    have e5 : w1.cell? ⟨b, o + k * 8 + 5, none⟩ = some (.int .u64 x.req.c) := (hb1.cell (p := ⟨b, o + k * 8 + 5, none⟩) hb).trans (HEE.out 5 _ rfl)
    have e6 : w1.cell? ⟨b, o + k * 8 + 6, none⟩ = some (.int .u64 x.req.d) := (hb1.cell (p := ⟨b, o + k * 8 + 6, none⟩) hb).trans (HEE.out 6 _ rfl)
    have e7 : w1.cell? ⟨b, o + k * 8 + 7, none⟩ = some (.int .i64 x.node) := (hb1.cell (p := ⟨b, o + k * 8 + 7, none⟩) hb).trans (HEE.out 7 _ rfl)
    go_wp2_with fail
    refine (idP_any x _).mono ?_
    rintro e w2 ⟨rfl, hb2⟩
    have kk : Below w.heap.size w w2 := hb1.trans (hb2.mono hb1.size)
    go_wp2_with fail
    refine (within_any _ _ _ _).mono ?_
    rintro e w2 ⟨rfl, rfl⟩
    by_cases hi : inB x.id 1 2147483647 = true
    · have HE := Lib.hid (show idI 0 x.id = 0 by simp [idI, hi])
      go_wp2
      go_ret
      exact ⟨ret_int HE.out.symm, kk⟩
    · have hi' : inB x.id 1 2147483647 = false := by simpa using hi
      have HE := Lib.hid (show idI 0 x.id = 1 by simp [idI, hi'])
      clear hi
      go_wp2
      go_ret
      exact ⟨ret_int HE.out.symm, kk⟩
  · have hm : (q != 0) = true := by simpa using hq
    have HE := Lib.hid (show idI q x.id = q by simp [idI, hq])
    clear hq
    go_wp2
    go_ret
    exact ⟨ret_int HE.out.symm, hb1⟩

end Go.Proofs.YtpfjeoldgcepnaaGreatDoor

/- The program's nodeFault and loadFault. -/
namespace Go.Proofs.YtpfjeoldgcepnaaGreatDoor
set_option linter.unusedSimpArgs false
open Go.RowKit
set_option linter.unusedVariables false

def nodeF (x : NodeD) : Int := if inB x.zone 1 8 = true ∧ x.held.le x.cap = true then 0 else 1
def loadF (x : LoadD) : Int := if countOk x.skew = true ∧ countOk x.min = true ∧ countOk x.max = true ∧ x.min ≤ x.max then 0 else 1

set_option maxHeartbeats 1600000 in
theorem nodeFault_any (x : NodeD) (w : World) : Calls Tryz.prog 95 #[aggN x] w fun e w' => e = .returned (.int .i64 (nodeF x)) ∧ Below w.heap.size w w' := by
  have b00 : Below w.heap.size w (w.alloc (.cells #[.int .i64 x.id, .int .i64 x.zone, .int .u64 x.cap.a, .int .u64 x.cap.b, .int .u64 x.cap.c, .int .u64 x.cap.d, .int .u64 x.held.a, .int .u64 x.held.b, .int .u64 x.held.c, .int .u64 x.held.d] 63)) := (Below.refl _ _).alloc (Nat.le_refl _) _
  go_enter Tryz.func95, Tryz.ntmps95
  go_wp2_with fail
  refine (within_any _ _ _ _).mono ?_
  rintro e w' ⟨rfl, rfl⟩
  by_cases h1 : inB x.zone 1 8 = true
  · go_wp2_with fail
    refine (fits_any x.held x.cap _).mono ?_
    rintro e w2 ⟨rfl, hb2⟩
    have kk : Below w.heap.size w w2 := b00.trans (hb2.mono (by simp))
    by_cases h2 : x.held.le x.cap = true
    · have HE := Lib.hid (show nodeF x = 0 by simp [nodeF, h1, h2])
      go_wp2
      go_ret
      exact ⟨ret_int HE.out.symm, kk⟩
    · have h2' : x.held.le x.cap = false := by simpa using h2
      have HE := Lib.hid (show nodeF x = 1 by simp [nodeF, h2'])
      clear h2
      go_wp2
      go_ret
      exact ⟨ret_int HE.out.symm, kk⟩
  · have h1' : inB x.zone 1 8 = false := by simpa using h1
    have HE := Lib.hid (show nodeF x = 1 by simp [nodeF, h1'])
    clear h1
    go_wp2
    go_ret
    exact ⟨ret_int HE.out.symm, b00⟩

set_option maxHeartbeats 1600000 in
theorem loadFault_any (x : LoadD) (w : World) : Calls Tryz.prog 98 #[aggL x] w fun e w' => e = .returned (.int .i64 (loadF x)) ∧ Below w.heap.size w w' := by
  have b00 : Below w.heap.size w (w.alloc (.cells #[.int .i64 x.id, .bool x.apart, .int .i64 x.skew, .int .i64 x.min, .int .i64 x.max] 76)) := (Below.refl _ _).alloc (Nat.le_refl _) _
  go_enter Tryz.func98, Tryz.ntmps98
  go_wp2_with fail
  refine (isCount_any _ _).mono ?_
  rintro e w' ⟨rfl, rfl⟩
  by_cases h1 : countOk x.skew = true
  · go_wp2_with fail
    refine (isCount_any _ _).mono ?_
    rintro e w' ⟨rfl, rfl⟩
    by_cases h2 : countOk x.min = true
    · go_wp2_with fail
      refine (isCount_any _ _).mono ?_
      rintro e w' ⟨rfl, rfl⟩
      by_cases h3 : countOk x.max = true
      · by_cases h4 : x.max < x.min
        · have HE := Lib.hid (show loadF x = 1 by unfold loadF; rw [if_neg (by omega)])
          have hd : decide (x.max < x.min) = true := decide_eq_true h4
          go_wp2
          go_ret
          exact ⟨ret_int HE.out.symm, b00⟩
        · have HE := Lib.hid (show loadF x = 0 by unfold loadF; rw [if_pos ⟨h1, h2, h3, by omega⟩])
          have hd : decide (x.max < x.min) = false := decide_eq_false h4
          go_wp2
          go_ret
          exact ⟨ret_int HE.out.symm, b00⟩
      · have h3' : countOk x.max = false := by simpa using h3
        have HE := Lib.hid (show loadF x = 1 by simp [loadF, h3'])
        clear h3
        go_wp2
        go_ret
        exact ⟨ret_int HE.out.symm, b00⟩
    · have h2' : countOk x.min = false := by simpa using h2
      have HE := Lib.hid (show loadF x = 1 by simp [loadF, h2'])
      clear h2
      go_wp2
      go_ret
      exact ⟨ret_int HE.out.symm, b00⟩
  · have h1' : countOk x.skew = false := by simpa using h1
    have HE := Lib.hid (show loadF x = 1 by simp [loadF, h1'])
    clear h1
    go_wp2
    go_ret
    exact ⟨ret_int HE.out.symm, b00⟩
end Go.Proofs.YtpfjeoldgcepnaaGreatDoor

namespace Go.Proofs.YtpfjeoldgcepnaaGreatDoor
set_option linter.unusedSimpArgs false
open Go.RowKit
set_option linter.unusedVariables false

def podF (nodes : List NodeD) (loads : List LoadD) (p : PodD) : Int :=
  if countOk p.prio = false then 1 else if place LoadD.id p.load loads 0 < 0 then 4 else if place NodeD.id p.node nodes 0 < 0 ∧ p.node ≠ 0 then 4 else 0
def wantF (pods : List PodD) (x : WantD) : Int := if place PodD.id x.pod pods 0 < 0 then 4 else if x.stay = false ∧ x.req.zero = false then 1 else 0

set_option maxHeartbeats 3200000 in
set_option maxRecDepth 100000 in
theorem podFault_any (nodes : List NodeD) (loads : List LoadD) (p : PodD) (A1 A2 A3 : Option Addr) (n1 c1 n2 c2 n3 c3 : Nat) (w : World) (hn1 : n1 = nodes.length) (hn2 : n2 = loads.length) (hl1 : n1 ≤ 1000) (hl2 : n2 ≤ 1000) (hr1 : Recs 10 cellsN w w.heap.size A1 nodes) (hr2 : Recs 5 cellsL w w.heap.size A2 loads) :
    Calls Tryz.prog 102 #[snapV A1 A2 A3 n1 c1 n2 c2 n3 c3, aggP p] w fun e w' => e = .returned (.int .i64 (podF nodes loads p)) ∧ Below w.heap.size w w' := by
  have b00 := below_two w (.cells #[.slice A1 n1 c1, .slice A2 n2 c2, .slice A3 n3 c3] 26) (.cells #[.int .i64 p.id, .int .i64 p.load, .int .i64 p.prio, .int .u64 p.req.a, .int .u64 p.req.b, .int .u64 p.req.c, .int .u64 p.req.d, .int .i64 p.node] 79)
  have HLD := Lib.hid (load_any loads p.load A2 n2 c2 (.slice A1 n1 c1) (.slice A3 n3 c3) ((w.alloc (.cells #[.slice A1 n1 c1, .slice A2 n2 c2, .slice A3 n3 c3] 26)).alloc (.cells #[.int .i64 p.id, .int .i64 p.load, .int .i64 p.prio, .int .u64 p.req.a, .int .u64 p.req.b, .int .u64 p.req.c, .int .u64 p.req.d, .int .i64 p.node] 79)) hn2 hl2 ((hr2.below b00 (Nat.le_refl _)).more b00.size))
  have HR1 := Lib.hid hr1
  have HN1 := Lib.hid hn1
  clear hr1 hr2 hn1 hn2
  go_enter Tryz.func102, Tryz.ntmps102
  go_wp2_with fail
  refine (isCount_any _ _).mono ?_
  rintro e w' ⟨rfl, rfl⟩
  by_cases hc : countOk p.prio = true
  · go_wp2_with fail
    refine HLD.out.mono ?_
    rintro e w1 ⟨hh, hb1⟩
    have kw1 : Below w.heap.size w w1 := b00.trans (hb1.mono b00.size)
    have hz1 : w.heap.size + 2 ≤ w1.heap.size := by have := hb1.size; simpa using this
    have hz10 : w.heap.size < w1.heap.size := by omega
    have hz11 : w.heap.size + 1 < w1.heap.size := by omega
    have a0 : w1.cell? ⟨w.heap.size, 0, none⟩ = some (.slice A1 n1 c1) := (hb1.cell (p := ⟨w.heap.size, 0, none⟩) (by simp <;> omega)).trans (by simp)
    have a1 : w1.cell? ⟨w.heap.size, 1, none⟩ = some (.slice A2 n2 c2) := (hb1.cell (p := ⟨w.heap.size, 1, none⟩) (by simp <;> omega)).trans (by simp)
    have a2 : w1.cell? ⟨w.heap.size, 2, none⟩ = some (.slice A3 n3 c3) := (hb1.cell (p := ⟨w.heap.size, 2, none⟩) (by simp <;> omega)).trans (by simp)
    have q7 : w1.cell? ⟨w.heap.size + 1, 7, none⟩ = some (.int .i64 p.node) := (hb1.cell (p := ⟨w.heap.size + 1, 7, none⟩) (by simp <;> omega)).trans (by simp)
    rcases hh with ⟨hp, rfl⟩ | ⟨i, hi, hp, rfl⟩
    · have HE := Lib.hid (show podF nodes loads p = 4 by simp [podF, hc, hp])
      clear hp
      go_wp2
      go_ret
      exact ⟨ret_int HE.out.symm, kw1.alloc kw1.size _⟩
    · generalize loads[i] = x at *
      have HPL := Lib.hid (show ¬ place LoadD.id p.load loads 0 < 0 by omega)
      clear hp
      have k2 : Below w.heap.size w (w1.alloc (.cells #[.int .i64 x.id, .bool x.apart, .int .i64 x.skew, .int .i64 x.min, .int .i64 x.max] 76)) := kw1.alloc kw1.size _
      have HND := Lib.hid (node_any nodes p.node A1 n1 c1 (.slice A2 n2 c2) (.slice A3 n3 c3) (w1.alloc (.cells #[.int .i64 x.id, .bool x.apart, .int .i64 x.skew, .int .i64 x.min, .int .i64 x.max] 76)) HN1.out hl1 ((HR1.out.below k2 (Nat.le_refl _)).more k2.size))
      go_wp2_with fail
      refine HND.out.mono ?_
      rintro e w3 ⟨hh3, hb3⟩
      have kw3 : Below w.heap.size w w3 := k2.trans (hb3.mono k2.size)
      have q3 : w3.cell? ⟨w.heap.size + 1, 7, none⟩ = some (.int .i64 p.node) := (hb3.cell (p := ⟨w.heap.size + 1, 7, none⟩) (by simp; omega)).trans (by rw [World.cell?_alloc_lt _ _ _ (by show w.heap.size + 1 < w1.heap.size; omega)]; exact q7)
      have hz3 : w.heap.size + 1 < w3.heap.size := by have := hb3.size; simp at this; omega
      rcases hh3 with ⟨hp, rfl⟩ | ⟨i', hi', hp, rfl⟩
      · by_cases hn0 : p.node = 0
        · have HE := Lib.hid (show podF nodes loads p = 0 by unfold podF; rw [if_neg (by simp [hc]), if_neg (by have := HPL.out; omega), if_neg (by simp [hn0])])
          have hm : (p.node != 0) = false := by simp [hn0]
          clear hp hn0
          go_wp2
          go_ret
          exact ⟨ret_int HE.out.symm, kw3.alloc kw3.size _⟩
        · have HE := Lib.hid (show podF nodes loads p = 4 by unfold podF; rw [if_neg (by simp [hc]), if_neg (by have := HPL.out; omega), if_pos ⟨hp, hn0⟩])
          have hm : (p.node != 0) = true := by simpa using hn0
          clear hp hn0
          go_wp2
          go_ret
          exact ⟨ret_int HE.out.symm, kw3.alloc kw3.size _⟩
      · have HE := Lib.hid (show podF nodes loads p = 0 by unfold podF; rw [if_neg (by simp [hc]), if_neg (by have := HPL.out; omega), if_neg (by omega)])
        generalize nodes[i'] = y at *
        clear hp
        go_wp2
        go_ret
        exact ⟨ret_int HE.out.symm, kw3.alloc kw3.size _⟩
  · have hc' : countOk p.prio = false := by simpa using hc
    have HE := Lib.hid (show podF nodes loads p = 1 by simp [podF, hc'])
    clear hc
    go_wp2
    go_ret
    exact ⟨ret_int HE.out.symm, b00⟩

/-- The closure in Check: podFault of the snapshot that it captured. -/
theorem podClosure_any (nodes : List NodeD) (loads : List LoadD) (p : PodD) (g : Nat) (A1 A2 A3 : Option Addr) (n1 c1 n2 c2 n3 c3 : Nat) (w : World) (h0 : w.cell? ⟨g, 0, none⟩ = some (.slice A1 n1 c1)) (h1 : w.cell? ⟨g, 1, none⟩ = some (.slice A2 n2 c2)) (h2 : w.cell? ⟨g, 2, none⟩ = some (.slice A3 n3 c3))
    (hn1 : n1 = nodes.length) (hn2 : n2 = loads.length) (hl1 : n1 ≤ 1000) (hl2 : n2 ≤ 1000) (hr1 : Recs 10 cellsN w w.heap.size A1 nodes) (hr2 : Recs 5 cellsL w w.heap.size A2 loads) :
    Calls Tryz.prog 101 #[aggP p, .pointer (some ⟨g, 0, none⟩)] w fun e w' => e = .returned (.int .i64 (podF nodes loads p)) ∧ Below w.heap.size w w' := by
  have hg : g < w.heap.size := World.block_lt_of_cell? w _ h0
  have b00 : Below w.heap.size w (w.alloc (.cells #[.int .i64 p.id, .int .i64 p.load, .int .i64 p.prio, .int .u64 p.req.a, .int .u64 p.req.b, .int .u64 p.req.c, .int .u64 p.req.d, .int .i64 p.node] 79)) := (Below.refl _ _).alloc (Nat.le_refl _) _
  have HPF := Lib.hid (podFault_any nodes loads p A1 A2 A3 n1 c1 n2 c2 n3 c3 (w.alloc (.cells #[.int .i64 p.id, .int .i64 p.load, .int .i64 p.prio, .int .u64 p.req.a, .int .u64 p.req.b, .int .u64 p.req.c, .int .u64 p.req.d, .int .i64 p.node] 79)) hn1 hn2 hl1 hl2 ((hr1.below b00 (Nat.le_refl _)).more b00.size) ((hr2.below b00 (Nat.le_refl _)).more b00.size))
  clear hr1 hr2 hn1 hn2
  go_enter Tryz.func101, Tryz.ntmps101
  go_wp2_with fail
  refine HPF.out.mono ?_
  rintro e w1 ⟨rfl, hb1⟩
  go_wp2
  go_ret
  exact ⟨rfl, b00.trans (hb1.mono b00.size)⟩

set_option maxHeartbeats 3200000 in
set_option maxRecDepth 100000 in
theorem wantFault_any (pods : List PodD) (x : WantD) (A1 A2 A3 : Option Addr) (n1 c1 n2 c2 n3 c3 : Nat) (w : World) (hn3 : n3 = pods.length) (hl3 : n3 ≤ 1000) (hr3 : Recs 8 cellsP w w.heap.size A3 pods) :
    Calls Tryz.prog 58 #[snapV A1 A2 A3 n1 c1 n2 c2 n3 c3, aggW x] w fun e w' => e = .returned (.int .i64 (wantF pods x)) ∧ Below w.heap.size w w' := by
  have b00 := below_two w (.cells #[.slice A1 n1 c1, .slice A2 n2 c2, .slice A3 n3 c3] 26) (.cells #[.int .i64 x.pod, .int .u64 x.req.a, .int .u64 x.req.b, .int .u64 x.req.c, .int .u64 x.req.d, .bool x.stay] 82)
  have HFD := Lib.hid (findP_any pods x.pod A3 n3 c3 ((w.alloc (.cells #[.slice A1 n1 c1, .slice A2 n2 c2, .slice A3 n3 c3] 26)).alloc (.cells #[.int .i64 x.pod, .int .u64 x.req.a, .int .u64 x.req.b, .int .u64 x.req.c, .int .u64 x.req.d, .bool x.stay] 82)) hn3 hl3 ((hr3.below b00 (Nat.le_refl _)).more b00.size))
  have hvn := vec_neq0 x.req
  clear hr3 hn3
  go_enter Tryz.func58, Tryz.ntmps58
  go_wp2_with fail
  refine HFD.out.mono ?_
  rintro e w1 ⟨hh, hb1⟩
  have kw1 : Below w.heap.size w w1 := b00.trans (hb1.mono b00.size)
  have hz1 : w.heap.size + 2 ≤ w1.heap.size := by have := hb1.size; simpa using this
  have hz11 : w.heap.size + 1 < w1.heap.size := by omega
  have q1 : w1.cell? ⟨w.heap.size + 1, 1, none⟩ = some (.int .u64 x.req.a) := (hb1.cell (p := ⟨w.heap.size + 1, 1, none⟩) (by simp <;> omega)).trans (by simp)
  have q2 : w1.cell? ⟨w.heap.size + 1, 2, none⟩ = some (.int .u64 x.req.b) := (hb1.cell (p := ⟨w.heap.size + 1, 2, none⟩) (by simp <;> omega)).trans (by simp)
  have q3 : w1.cell? ⟨w.heap.size + 1, 3, none⟩ = some (.int .u64 x.req.c) := (hb1.cell (p := ⟨w.heap.size + 1, 3, none⟩) (by simp <;> omega)).trans (by simp)
  have q4 : w1.cell? ⟨w.heap.size + 1, 4, none⟩ = some (.int .u64 x.req.d) := (hb1.cell (p := ⟨w.heap.size + 1, 4, none⟩) (by simp <;> omega)).trans (by simp)
  have q5 : w1.cell? ⟨w.heap.size + 1, 5, none⟩ = some (.bool x.stay) := (hb1.cell (p := ⟨w.heap.size + 1, 5, none⟩) (by simp <;> omega)).trans (by simp)
  rcases hh with ⟨hp, rfl⟩ | ⟨i, hi, hp, rfl⟩
  · have HE := Lib.hid (show wantF pods x = 4 by simp [wantF, hp])
    clear hp
    go_wp2
    go_ret
    exact ⟨ret_int HE.out.symm, kw1.alloc kw1.size _⟩
  · generalize pods[i] = y at *
    have HPL := Lib.hid (show ¬ place PodD.id x.pod pods 0 < 0 by omega)
    clear hp
    cases hst : x.stay with
    | true =>
      have HE := Lib.hid (show wantF pods x = 0 by unfold wantF; rw [if_neg (by have := HPL.out; omega), if_neg (by simp [hst])])
      go_wp2
      go_ret
      exact ⟨ret_int HE.out.symm, kw1.alloc kw1.size _⟩
    | false =>
      cases hze : x.req.zero with
      | true =>
        have HE := Lib.hid (show wantF pods x = 0 by unfold wantF; rw [if_neg (by have := HPL.out; omega), if_neg (by simp [hze])])
        go_wp2
        go_ret
        exact ⟨ret_int HE.out.symm, kw1.alloc kw1.size _⟩
      | false =>
        have HE := Lib.hid (show wantF pods x = 1 by unfold wantF; rw [if_neg (by have := HPL.out; omega), if_pos ⟨hst, hze⟩])
        go_wp2
        go_ret
        exact ⟨ret_int HE.out.symm, kw1.alloc kw1.size _⟩
end Go.Proofs.YtpfjeoldgcepnaaGreatDoor
