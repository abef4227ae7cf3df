/- Joined texts, part 16: VE VP VQ VM PC PE PF VO. -/
import Derived.Test.YtpfjeoldgcepnaaGreatDoorZ15
import Derived.Test.YtpfjeoldgcepnaaGreatDoorZ11
import Derived.Maps.RangeWalk
import Derived.Test.YtpfjeoldgcepnaaGreatDoorZ06
import Derived.Test.YtpfjeoldgcepnaaGreatDoorZ04
import Derived.Sort.Grow
import Derived.Deep.CutRange
import Derived.Test.YtpfjeoldgcepnaaGreatDoorZ10
import Derived.Test.YtpfjeoldgcepnaaGreatDoorZ09

/- A keeper's answers are layer 12's: plain mathematics. -/
namespace Go.Proofs.YtpfjeoldgcepnaaGreatDoor
set_option linter.unusedSimpArgs false
open Go.RowKit
set_option linter.unusedVariables false

theorem nodeAt_is : ∀ {ns : List NodeD}, (ns.map NodeD.id).Nodup → ∀ {n : NodeD}, n ∈ ns → nodeAt n.id ns = some n
  | [], _, n, h => by simp at h
  | y :: r, hn, n, h => by
    obtain ⟨h1, h2⟩ := List.nodup_cons.1 (by simpa using hn : (y.id :: r.map NodeD.id).Nodup)
    unfold nodeAt
    rcases List.mem_cons.1 h with rfl | hx
    · rw [if_pos rfl]
    · have hne : ¬ y.id = n.id := fun e => h1 (by rw [e]; exact List.mem_map.2 ⟨n, hx, rfl⟩)
      rw [if_neg hne]
      exact nodeAt_is h2 hx
theorem nodeAt_mem {id : Int} : ∀ {ns : List NodeD} {n : NodeD}, nodeAt id ns = some n → n ∈ ns ∧ n.id = id
  | [], n, h => by cases h
  | y :: r, n, h => by
    unfold nodeAt at h
    split at h
    · rename_i e; cases h; exact ⟨by simp, e⟩
    · obtain ⟨h1, h2⟩ := nodeAt_mem h; exact ⟨by simp [h1], h2⟩
theorem rest_node {ns : List NodeD} {l : List PodD} (hN : FineN ns) {n : NodeD} (hn : n ∈ ns) : (restD ns l n.id).2 = nodeC n (totV (reqsAt n.id l)) := by
  have h1 := nodeAt_is hN.one hn
  unfold nodeC
  by_cases hs : (totV (reqsAt n.id l)).small = true
  · have h2 : useD l n.id = some (totV (reqsAt n.id l)) := by unfold useD sumV; rw [if_pos hs]
    rw [if_pos hs]
    cases h3 : leftD n (totV (reqsAt n.id l)) with
    | none => rw [rest_room h1 h2 h3]; rfl
    | some r => rw [rest_some h1 h2 h3]; rfl
  · have h2 : useD l n.id = none := by unfold useD sumV; rw [if_neg hs]
    rw [if_neg hs, rest_over h1 h2]
theorem roomD_one {ns : List NodeD} {l : List PodD} {nd : Int} : ∀ (m : List NodeD) (k : Nat), (∀ n ∈ m, n.id ≠ nd → (restD ns l n.id).2 = 0) → (roomD ns l m k).1 = if m.any (fun n => n.id == nd) = true then (restD ns l nd).2 else 0
  | [], _, _ => rfl
  | n :: r, k, h => by
    have ih := roomD_one r (k + 1) (fun y hy => h y (by simp [hy]))
    unfold roomD
    by_cases e : n.id = nd
    · rw [List.any_cons, e]
      simp only [beq_self_eq_true, Bool.true_or, if_true]
      by_cases h0 : (restD ns l nd).2 = 0
      · rw [if_neg (by simpa using h0), ih]
        split
        · rfl
        · exact h0.symm
      · rw [if_pos h0]
    · have h0 := h n (by simp) e
      rw [if_neg (by simpa using h0), ih, List.any_cons]
      have : (n.id == nd) = false := by simp [e]
      rw [this, Bool.false_or]
theorem safe_room {ns : List NodeD} {l : List PodD} (hN : FineN ns) : (roomOf ns l).1 = 0 ↔ ∀ n ∈ ns, nodeC n (totV (reqsAt n.id l)) = 0 := by
  unfold roomOf
  rw [roomD_all]
  constructor
  · intro h n hn; rw [← rest_node hN hn]; exact h n hn
  · intro h n hn; rw [rest_node hN hn]; exact h n hn
theorem node_small {n : NodeD} {u : V4} (h : nodeC n u = 0) : u.small = true := by
  unfold nodeC at h
  split at h
  · assumption
  · cases h
theorem node_less {n : NodeD} {u u' : V4} (h : nodeC n u = 0) (hle : u'.le u = true) : nodeC n u' = 0 := by
  have hs := node_small h
  unfold nodeC at h ⊢
  rw [if_pos hs] at h
  have hs' : u'.small = true := by
    simp only [V4.small, V4.le] at hs hle ⊢
    have hs := of_decide_eq_true hs
    have hle := of_decide_eq_true hle
    exact decide_eq_true ⟨by omega, by omega, by omega, by omega⟩
  rw [if_pos hs']
  cases h1 : leftD n u with
  | none => rw [h1] at h; cases h
  | some r =>
    obtain ⟨r', h2⟩ := left_less hle h1
    rw [h2]; rfl
theorem at_none {ns : List NodeD} {l : List PodD} (hP : FineP ns l) {i : Int} (h0 : i ≠ 0) (h : ∀ n ∈ ns, n.id ≠ i) : ∀ {m : List PodD}, (∀ p ∈ m, p ∈ l) → reqsAt i m = []
  | [], _ => rfl
  | p :: r, hm => by
    unfold reqsAt
    have hne : p.node ≠ i := fun e => by
      rcases hP.node p (hm p (by simp)) with h1 | ⟨n, hn, h2⟩
      · exact h0 (e ▸ h1)
      · exact h n hn (h2.trans e)
    rw [if_neg hne]
    exact at_none hP h0 h (fun q hq => hm q (by simp [hq]))
theorem small_all {ns : List NodeD} {l : List PodD} (hN : FineN ns) (hP : FineP ns l) (h : (roomOf ns l).1 = 0) (i : Int) (h0 : i ≠ 0) : (totV (reqsAt i l)).small = true := by
  by_cases hi : ∃ n ∈ ns, n.id = i
  · obtain ⟨n, hn, rfl⟩ := hi
    exact node_small ((safe_room hN).1 h n hn)
  · have : reqsAt i l = [] := at_none hP h0 (fun n hn e => hi ⟨n, hn, e⟩) (fun _ h => h)
    rw [this]; rfl
theorem at_nil {id : Int} : ∀ {b : List PodD}, (∀ p ∈ b, p.node ≠ id) → reqsAt id b = []
  | [], _ => rfl
  | p :: r, h => by
    unfold reqsAt
    rw [if_neg (h p (by simp))]
    exact at_nil (fun q hq => h q (by simp [hq]))
theorem safe_of {ns : List NodeD} {ls : List LoadD} {x : SpecD} {t : StateD} (hN : FineN ns) (hL : FineL ls) (hP : FineP ns t.pods) (h : codeS ns ls x t = 0) : (roomOf ns t.pods).1 = 0 ∧ faultK ns (cntOf (zmOf ns) t.pods) ls x t.preempts t.shifts = 0 := by
  rw [codeS_K hN hL hP] at h
  by_cases c : (roomOf ns t.pods).1 = 0
  · rw [if_neg (by simpa using c)] at h; exact ⟨c, h⟩
  · rw [if_pos c] at h; exact absurd h c
/-- What a keeper asks of room ahead of a move. -/
def roomAt (ns : List NodeD) (c : CntD) (nd : Int) (a b : List PodD) : Int := match nodeAt nd ns with
  | none => 0
  | some n => roomK (lessV n.cap n.held) n.id (c.use n.id) a b
theorem room_made {ns : List NodeD} {l l' : List PodD} {m : MoveD} (hN : FineN ns) (hP : FineP ns l) (h : (roomOf ns l).1 = 0) (hT : Turned ns l l' m) : (roomOf ns l').1 = roomAt ns (cntOf (zmOf ns) l) m.node (partD l m) (partD l' m) := by
  obtain ⟨r, h1, h2⟩ := hT.rest
  have hoa : ∀ p ∈ partD l m ++ r, p.Ok := fun p hp => hP.ok p (h1.mem_iff.2 hp)
  have hob : ∀ p ∈ partD l' m ++ r, p.Ok := fun p hp => hT.fine.ok p (h2.mem_iff.2 hp)
  have hoa' : ∀ p ∈ partD l m, p.Ok := fun p hp => hoa p (List.mem_append.2 (.inl hp))
  have hob' : ∀ p ∈ partD l' m, p.Ok := fun p hp => hob p (List.mem_append.2 (.inl hp))
  have hrest : ∀ n ∈ ns, n.id ≠ m.node → (restD ns l' n.id).2 = 0 := fun n hn hne => by
    rw [rest_node hN hn]
    refine node_less ((safe_room hN).1 h n hn) ?_
    rw [tot_perm h1, tot_perm h2, reqs_append, reqs_append, at_nil (b := partD l' m) (fun p hp e => by
      have := hN.ids n hn
      rcases hT.node p hp with e2 | e2
      · omega
      · exact hne (e.symm.trans e2)), List.nil_append, tot_append]
    have hp := tot_pos (reqs_ok (node := n.id) hoa')
    simp only [V4.le, V4.add]
    exact decide_eq_true ⟨by omega, by omega, by omega, by omega⟩
  unfold roomOf
  rw [roomD_one (nd := m.node) ns 0 hrest]
  unfold roomAt
  cases hq : nodeAt m.node ns with
  | none =>
    have : ns.any (fun n => n.id == m.node) = false := by
      rw [List.any_eq_false]
      intro n hn e
      have e : n.id = m.node := by simpa using e
      rw [← e, nodeAt_is hN.one hn] at hq
      cases hq
    rw [this]; rfl
  | some n =>
    obtain ⟨hn, e⟩ := nodeAt_mem hq
    have : ns.any (fun n => n.id == m.node) = true := List.any_eq_true.2 ⟨n, hn, by simp [e]⟩
    rw [this, if_pos rfl]
    dsimp only
    have hu : (cntOf (zmOf ns) l).use n.id = totV (reqsAt n.id (partD l m ++ r)) := by
      show (if n.id = 0 then V4.zer else _) = _
      rw [if_neg (by have := hN.ids n hn; omega), tot_perm h1]
    have hs : (totV (reqsAt n.id r)).small = true := by
      refine tot_small hoa' ?_
      rw [← tot_perm h1]
      exact node_small ((safe_room hN).1 h n hn)
    rw [hu, room_is (hN.held n hn) hoa hob' hs, ← tot_perm h2, ← rest_node hN hn, e]

/-- The loads of these pods. -/
def loadsD (ls : List LoadD) (b : List PodD) : List LoadD := ls.filter fun y => b.any fun p => p.load == y.id
theorem any_filter {α : Type} {f g : α → Bool} : ∀ {l : List α}, (∀ y ∈ l, f y = false → g y = false) → (l.filter f).any g = l.any g
  | [], _ => rfl
  | y :: r, h => by
    have ih := any_filter (l := r) (fun z hz => h z (by simp [hz]))
    cases hf : f y with
    | true => simp [hf, ih]
    | false => simp [hf, ih, h y (by simp) hf]
theorem bud_filter {c : CntD} {f : LoadD → Bool} : ∀ {l : List LoadD}, (∀ y ∈ l, f y = false → fault9 y (c.size y.id) = 0) → budK c (l.filter f) = budK c l
  | [], _ => rfl
  | y :: r, h => by
    have ih := bud_filter (l := r) (fun z hz => h z (by simp [hz]))
    cases hf : f y with
    | true => simp [hf, ih, budK]
    | false => simp [hf, ih, budK, h y (by simp) hf]
theorem bud_none {c : CntD} : ∀ {l : List LoadD}, budK c l = 0 → ∀ y ∈ l, fault9 y (c.size y.id) = 0
  | [], _, y, hy => by simp at hy
  | z :: r, h, y, hy => by
    unfold budK at h
    split at h
    · rename_i e
      rcases List.mem_cons.1 hy with rfl | hy
      · exact e
      · exact bud_none h y hy
    · rename_i e; exact absurd h e
theorem loads_zero {ns : List NodeD} {c : CntD} {ls : List LoadD} (h : loadsK ns c ls = 0) : (∀ y ∈ ls, clashL ns c y = false) ∧ (∀ y ∈ ls, unlikeL ns c y = false) ∧ ∀ y ∈ ls, fault9 y (c.size y.id) = 0 := by
  unfold loadsK at h
  split at h
  · cases h
  · rename_i h1
    split at h
    · cases h
    · rename_i h2
      have h1 : ls.any (clashL ns c) = false := by simpa only [Bool.not_eq_true] using h1
      have h2 : ls.any (unlikeL ns c) = false := by simpa only [Bool.not_eq_true] using h2
      rw [List.any_eq_false] at h1 h2
      exact ⟨fun y hy => by simpa using h1 y hy, fun y hy => by simpa using h2 y hy, bud_none h⟩
theorem fault_zero {ns : List NodeD} {c : CntD} {ls : List LoadD} {x : SpecD} {t1 t2 : Int} (h : faultK ns c ls x t1 t2 = 0) : loadsK ns c ls = 0 := by
  unfold faultK at h
  split at h
  · rename_i h1; exact absurd h h1
  · rename_i h1; exact Classical.byContradiction fun e => h1 e
theorem count_app {f : PodD → Bool} {a r : List PodD} (h : ∀ p ∈ a, f p = false) : (a ++ r).countP f = r.countP f := by
  rw [List.countP_append]
  have : a.countP f = 0 := by rw [List.countP_eq_zero]; intro p hp; rw [h p hp]; decide
  omega
theorem loads_made {ns : List NodeD} {ls : List LoadD} {l l' : List PodD} {m : MoveD} (hT : Turned ns l l' m) (h : loadsK ns (cntOf (zmOf ns) l) ls = 0) : loadsK ns (cntOf (zmOf ns) l') (loadsD ls (partD l' m)) = loadsK ns (cntOf (zmOf ns) l') ls := by
  obtain ⟨r, h1, h2⟩ := hT.rest
  obtain ⟨z1, z2, z3⟩ := loads_zero h
  have key : ∀ y : LoadD, ((partD l' m).any fun p => p.load == y.id) = false → (∀ n, (cntOf (zmOf ns) l').ats y.id n = (cntOf (zmOf ns) l).ats y.id n) ∧ (∀ z, (cntOf (zmOf ns) l').inz y.id z = (cntOf (zmOf ns) l).inz y.id z) ∧ (cntOf (zmOf ns) l').size y.id = (cntOf (zmOf ns) l).size y.id := by
    intro y hy
    have hb : ∀ p ∈ partD l' m, p.load ≠ y.id := fun p hp e => by
      rw [List.any_eq_false] at hy
      exact hy p hp (by simp [e])
    have ha : ∀ p ∈ partD l m, p.load ≠ y.id := fun p hp e => by
      have : y.id ∈ (partD l m).map PodD.load := List.mem_map.2 ⟨p, hp, e⟩
      rw [← hT.loads] at this
      obtain ⟨q, hq, e2⟩ := List.mem_map.1 this
      exact hb q hq e2
    refine ⟨fun n => ?_, fun z => ?_, ?_⟩
    · show ((l'.countP (atP y.id n) : Nat) : Int) = (l.countP (atP y.id n) : Nat)
      rw [h1.countP_eq, h2.countP_eq, count_app (fun p hp => by simp [atP, hb p hp]), count_app (fun p hp => by simp [atP, ha p hp])]
    · show ((l'.countP (inP (zmOf ns) y.id z) : Nat) : Int) = (l.countP (inP (zmOf ns) y.id z) : Nat)
      rw [h1.countP_eq, h2.countP_eq, count_app (fun p hp => by simp [inP, hb p hp]), count_app (fun p hp => by simp [inP, ha p hp])]
    · show ((sizeD y.id l' : Nat) : Int) = (sizeD y.id l : Nat)
      unfold sizeD
      rw [h1.countP_eq, h2.countP_eq, count_app (fun p hp => by simp [inS, hb p hp]), count_app (fun p hp => by simp [inS, ha p hp])]
  unfold loadsK loadsD
  rw [any_filter (g := clashL ns (cntOf (zmOf ns) l')) (fun y hy hf => by
      have := z1 y hy
      unfold clashL at this ⊢
      rw [show (fun n : NodeD => decide (1 < (cntOf (zmOf ns) l').ats y.id n.id)) = fun n => decide (1 < (cntOf (zmOf ns) l).ats y.id n.id) from funext fun n => by rw [(key y hf).1]]
      exact this),
    any_filter (g := unlikeL ns (cntOf (zmOf ns) l')) (fun y hy hf => by
      have := z2 y hy
      unfold unlikeL mostL leastL at this ⊢
      rw [show (fun n : NodeD => (cntOf (zmOf ns) l').inz y.id n.zone) = fun n => (cntOf (zmOf ns) l).inz y.id n.zone from funext fun n => (key y hf).2.1 _]
      exact this),
    bud_filter (fun y hy hf => by rw [(key y hf).2.2]; exact z3 y hy)]

/-- A move that can be made: what a keeper finds is what layer 11 tells of the state behind it. -/
theorem do_K {ns : List NodeD} {ls : List LoadD} {x : SpecD} {t : StateD} {m : MoveD} (hN : FineN ns) (hL : FineL ls) (hx : ∀ y ∈ x.wants, y.Ok) (hP : FineP ns t.pods) (hs : codeS ns ls x t = 0) (hm : (makeD ns x.wants t m).2 = 0) :
    Turned ns t.pods (makeD ns x.wants t m).1.pods m ∧
    (roomAt ns (cntOf (zmOf ns) t.pods) m.node (partD t.pods m) (partD (makeD ns x.wants t m).1.pods m) ≠ 0 → codeS ns ls x (makeD ns x.wants t m).1 = roomAt ns (cntOf (zmOf ns) t.pods) m.node (partD t.pods m) (partD (makeD ns x.wants t m).1.pods m)) ∧
    (roomAt ns (cntOf (zmOf ns) t.pods) m.node (partD t.pods m) (partD (makeD ns x.wants t m).1.pods m) = 0 →
      comesC (zmOf ns) (leavesC (zmOf ns) (cntOf (zmOf ns) t.pods) (partD t.pods m)) (partD (makeD ns x.wants t m).1.pods m) = cntOf (zmOf ns) (makeD ns x.wants t m).1.pods ∧
      comesC (zmOf ns) (leavesC (zmOf ns) (cntOf (zmOf ns) (makeD ns x.wants t m).1.pods) (partD (makeD ns x.wants t m).1.pods m)) (partD t.pods m) = cntOf (zmOf ns) t.pods ∧
      codeS ns ls x (makeD ns x.wants t m).1 = faultK ns (cntOf (zmOf ns) (makeD ns x.wants t m).1.pods) (loadsD ls (partD (makeD ns x.wants t m).1.pods m)) x (makeD ns x.wants t m).1.preempts (makeD ns x.wants t m).1.shifts) := by
  have hT := turned_made hN hx hP hm
  generalize (makeD ns x.wants t m).1 = u at *
  obtain ⟨h0, hf⟩ := safe_of hN hL hP hs
  have hr := room_made hN hP h0 hT
  rw [codeS_K (t := u) hN hL hT.fine, hr]
  refine ⟨hT, fun h => by rw [if_pos h], fun h => ?_⟩
  rw [h] at hr
  obtain ⟨r, h1, h2⟩ := hT.rest
  have l1 : (partD t.pods m ++ r).length ≤ 1000 := by rw [← h1.length_eq]; have := hP.len; omega
  have l2 : (partD u.pods m ++ r).length ≤ 1000 := by rw [← h2.length_eq]; have := hT.fine.len; omega
  have oa : ∀ p ∈ partD t.pods m ++ r, p.Ok := fun p hp => hP.ok p (h1.mem_iff.2 hp)
  have ob : ∀ p ∈ partD u.pods m ++ r, p.Ok := fun p hp => hT.fine.ok p (h2.mem_iff.2 hp)
  refine ⟨?_, ?_, ?_⟩
  · rw [cnt_perm h1, cnt_perm h2, leaves_is _ _ l1 oa]
    exact comes_is _ _ l2 (fun p hp => ob p (List.mem_append.2 (.inl hp))) (fun n hn => by rw [← tot_perm h2]; exact small_all hN hT.fine hr n hn)
  · rw [cnt_perm h1, cnt_perm h2, leaves_is _ _ l2 ob]
    exact comes_is _ _ l1 (fun p hp => oa p (List.mem_append.2 (.inl hp))) (fun n hn => by rw [← tot_perm h1]; exact small_all hN hP h0 n hn)
  · rw [if_neg (by simp [h])]
    unfold faultK
    rw [loads_made hT (fault_zero hf)]

/-! The first state. -/
def newK (l : List PodD) : List NodeD → Int
  | [] => 0
  | n :: r => if roomK (lessV n.cap n.held) n.id .zer [] l ≠ 0 then roomK (lessV n.cap n.held) n.id .zer [] l else newK l r
theorem new_room {ns : List NodeD} {l : List PodD} (hN : FineN ns) (hP : FineP ns l) : ∀ (m : List NodeD) (k : Nat), (∀ n ∈ m, n ∈ ns) → newK l m = (roomD ns l m k).1
  | [], _, _ => rfl
  | n :: r, k, h => by
    have hn := h n (by simp)
    have e : roomK (lessV n.cap n.held) n.id .zer [] l = (restD ns l n.id).2 := by
      rw [rest_node hN hn]
      have := room_is (n := n) (a := []) (b := l) (r := []) (hN.held n hn) (by simp) hP.ok (by rfl)
      simpa [reqsAt, totV] using this
    unfold newK roomD
    rw [e]
    split
    · rfl
    · exact new_room hN hP r (k + 1) (fun y hy => h y (by simp [hy]))
theorem new_K {ns : List NodeD} {ls : List LoadD} {x : SpecD} {t : StateD} (hN : FineN ns) (hL : FineL ls) (hP : FineP ns t.pods) :
    (newK t.pods ns ≠ 0 → codeS ns ls x t = newK t.pods ns) ∧ (newK t.pods ns = 0 → comesC (zmOf ns) ⟨fun _ => .zer, fun _ _ => 0, fun _ _ => 0, fun _ => 0⟩ t.pods = cntOf (zmOf ns) t.pods ∧ codeS ns ls x t = faultK ns (cntOf (zmOf ns) t.pods) ls x t.preempts t.shifts) := by
  have hr : newK t.pods ns = (roomOf ns t.pods).1 := new_room hN hP ns 0 (fun _ h => h)
  rw [codeS_K hN hL hP, ← hr]
  refine ⟨fun h => by rw [if_pos h], fun h => ⟨?_, by rw [if_neg (by simp [h])]⟩⟩
  rw [h] at hr
  have := comes_is (zm := zmOf ns) t.pods [] (by have := hP.len; simp; omega) hP.ok (fun n hn => by rw [List.append_nil]; exact small_all hN hP hr.symm n hn)
  rw [cntOf_nil, List.append_nil] at this
  exact this
theorem rest_K {ns : List NodeD} {l : List PodD} (hN : FineN ns) (h : (roomOf ns l).1 = 0) {n : NodeD} (hn : n ∈ ns) : restD ns l n.id = (lessV (lessV n.cap n.held) ((cntOf (zmOf ns) l).use n.id), 0) := by
  have h0 : (restD ns l n.id).2 = 0 := by rw [rest_node hN hn]; exact (safe_room hN).1 h n hn
  obtain ⟨n', u, r, h1, h2, h3, h4⟩ := rest_zero.1 h0
  rw [nodeAt_is hN.one hn] at h1
  obtain rfl := Option.some.inj h1
  have hu : u = totV (reqsAt n.id l) := by
    unfold useD sumV at h2
    split at h2
    · exact (Option.some.inj h2).symm
    · cases h2
  have hc : (cntOf (zmOf ns) l).use n.id = u := by
    show (if n.id = 0 then V4.zer else _) = _
    rw [if_neg (by have := hN.ids n hn; omega), hu]
  rw [h4, hc]
  unfold leftD at h3
  split at h3
  · cases h3
  · rename_i f hf
    rw [show lessV n.cap n.held = f by unfold lessV; rw [hf]; rfl, show lessV f u = r by unfold lessV; rw [h3]; rfl]
end Go.Proofs.YtpfjeoldgcepnaaGreatDoor

/- Loads' faults by what is counted: the program's clashes of layer 13. -/
namespace Go.Proofs.YtpfjeoldgcepnaaGreatDoor
set_option linter.unusedSimpArgs false
open Go.RowKit
open Go.Maps (Keyed)
set_option linter.unusedVariables false

theorem has_of_at {D : DataW Unit} {o : Option Int} {i c : Int} (h : ∀ zd : DataW Unit, D.atKey (.int .i64 i) zd = match o with | some z => .lit (.int .i64 z) | none => zd) (hc : ∀ zd : DataW Unit, D.atKey (.int .i64 i) zd = .lit (.int .i64 c)) : o = some c := by
  cases o with
  | none =>
    have h1 := h .nil
    rw [hc] at h1
    cases h1
  | some z =>
    have h1 := h .nil
    rw [hc] at h1
    injection h1 with h1
    injection h1 with _ h1
    rw [h1]
theorem sameKey_int (i x : Int) : (Lit.int IntKind.i64 i).sameKey (.int .i64 x) = decide (i = x) := by
  by_cases h : i = x
  · subst h
    rw [WideAt.sameKey_self (show WideAt.IsKeyLit (.int IntKind.i64 i) from trivial)]; simp
  · rw [decide_eq_false h]
    exact Go.Maps.sameKey_ne (fun e => h (by injection e))
theorem I64_of_wf {x : Int} (h : (Lit.int .i64 x).wf = true) : I64 x := by
  simp only [Lit.wf, decide_eq_true_eq, Bool.and_eq_true] at h
  have h1 : IntKind.i64.min = -9223372036854775808 := rfl
  have h2 : IntKind.i64.max = 9223372036854775807 := rfl
  unfold I64
  omega
def ClashRelK (M : MapsB) (nn : Nat) (C : CntD) (zm : Int → Option Int) (x : LoadD) (n : Nat) (D : DataW Unit) (w wr : World) : Prop :=
  ∃ (left : Lit → Bool) (cnt : Nat), wr.ranges Tryz.prog 3 (plainElem Tryz.prog 3) M.z (w.heap.size + 2) n D left cnt ∧ (∀ i, I64 i → (zm i).isSome = true → left (.int .i64 i) = false → C.ats x.id i ≤ 1) ∧ CntIs M nn C wr ∧ T2 M.cells (cellsL x) w wr

set_option maxHeartbeats 6400000 in
set_option maxRecDepth 100000 in
theorem clashes_any {M : MapsB} {nn : Nat} {C : CntD} {zm : Int → Option Int} {x : LoadD} {r : Bool} (hx : I64 x.id) (w : World) (h : CntIs M nn C w) (hz : ZoneIs M.z zm w)
    (hr : r = true ↔ x.apart = true ∧ ∃ i, I64 i ∧ (zm i).isSome = true ∧ 1 < C.ats x.id i) :
    Calls Tryz.prog 108 #[M.val, aggL x] w fun e w' => e = .returned (.bool r) ∧ Below w.heap.size w w' := by
  have T0 : T2 M.cells (cellsL x) w ((w.alloc (.cells #[.map (some M.z), .map (some M.u), .map (some M.a), .map (some M.i), .map (some M.s)] 88)).alloc (.cells #[.int .i64 x.id, .bool x.apart, .int .i64 x.skew, .int .i64 x.min, .int .i64 x.max] 76)) := T2.new w M.cells (cellsL x) 88 76
  have HLT := Lib.hid (And.intro h.use.lt (And.intro h.ats.lt (And.intro h.inz.lt (And.intro h.size.lt hz.lt))))
  have HC0 := Lib.hid (h.below T0.below)
  have HR := Lib.hid hr
  have HX := Lib.hid hx
  obtain ⟨n, D, hn, hown, hD⟩ := hz.below T0.below
  have HD := Lib.hid hD
  have HT0 := Lib.hid T0
  obtain ⟨q0, q1, q2, q3, q4, q5⟩ := T0.one.cells5v
  obtain ⟨⟨x0, x1, x2⟩, x3, x4, x5⟩ := T0.two.cells5
  have hws : ((w.alloc (.cells #[.map (some M.z), .map (some M.u), .map (some M.a), .map (some M.i), .map (some M.s)] 88)).alloc (.cells #[.int .i64 x.id, .bool x.apart, .int .i64 x.skew, .int .i64 x.min, .int .i64 x.max] 76)).heap.size = w.heap.size + 2 := by simp
  have HWS := Lib.hid hws
  clear T0 h hz hr hx hD hws
  go_enter Tryz.func108, Tryz.ntmps108
  go_upto_region 1 with fail
  generalize ((w.alloc (.cells #[.map (some M.z), .map (some M.u), .map (some M.a), .map (some M.i), .map (some M.s)] 88)).alloc (.cells #[.int .i64 x.id, .bool x.apart, .int .i64 x.skew, .int .i64 x.min, .int .i64 x.max] 76)) = W at *
  cases hap : x.apart with
  | false =>
    have HE : Hid (r = false) := by
      cases hrr : r with
      | false => exact Lib.hid rfl
      | true => have := (HR.out.1 hrr).1; rw [hap] at this; cases this
    rw [hap] at x1
    clear hap
    go_wp2
    go_ret
    exact ⟨ret_bool HE.out.symm, HT0.out.below⟩
  | true =>
    have HAP := Lib.hid hap
    rw [hap] at x1
    clear hap
    go_wp2_with (at_range; refine wpList_range_own _ rfl _ 83 rfl 3 3 intLaw Tryz.underlying83 _ M.z n D rfl hown ?_; intro w0 hrg0 hg0 hs0)
    have hww : W.heap.size = w.heap.size + 2 := HWS.out
    simp only [hww] at hrg0 ⊢
    go_frame
    have o0 : Only [] W w0 := ⟨hg0.os, hg0.tape, hg0.output, hg0.size, fun i hi _ => hg0.block i hi (by simp)⟩
    have HAT : Hid (ClashRelK M nn C zm x n D w w0) := ⟨_, _, hrg0, (fun i hi hs hl => by rw [(HD.out i hi).1, hs] at hl; cases hl), HC0.out.kept o0 (by simp) (by simp) (by simp) (by simp), ⟨HT0.out.one.only o0 (by simp), HT0.out.two.only o0 (by simp), (HT0.out.below).trans (o0.below HT0.out.below.size (by simp))⟩⟩
    clear hrg0 hg0 hs0 hown hww o0 q0 q1 q2 q3 q4 q5 x0 x1 x2 x3 x4 x5 HC0 HT0 HWS W
    go_loopw [5] (fun _ wr => ClashRelK M nn C zm x n D w wr) (fun _ wr => wr.rangeLeft M.z (w.heap.size + 2))
    case atStart => exact HAT.out
    case round =>
      clear HAT
      obtain ⟨left, cnt, hrg, hno, hcn, hT⟩ := hrel
      have HNO := Lib.hid hno
      have HCN := Lib.hid hcn
      have HT := Lib.hid hT
      have HRG := Lib.hid hrg
      clear hno hcn hT
      go_wp2_with (at_next; refine wpList_next_ranges_ii _ rfl _ rfl 3 3 .i64 .i64 intLaw Tryz.underlying3 Tryz.underlying3 M.z (w.heap.size + 2) n D left cnt rfl hrg ?_ ?_)
      · intro _ hl0
        have HE : Hid (r = false) := by
          cases hrr : r with
          | false => exact Lib.hid rfl
          | true =>
            obtain ⟨_, i, hi, hs, hc⟩ := HR.out.1 hrr
            have h9 := HNO.out i hi hs (hl0 _); exact absurd hc (by omega)
        clear hl0 hrg
        go_wp2
        go_ret
        exact ⟨ret_bool HE.out.symm, HT.out.below⟩
      · intro i c w1 cnt1 hwx hwc hlx hat hrg1 hlt hg1 hs1 hen
        have hi := I64_of_wf hwx
        have hzi := has_of_at (fun zd => (HD.out i hi).2 zd) hat
        have o1 : Only [w.heap.size + 2] wr w1 := Only.grown hg1 (List.mem_singleton.2 rfl)
        have hlts := HLT.out
        have hcn1 := HCN.out.kept o1 (fun e => by have h1 := List.mem_singleton.1 e; omega) (fun e => by have h1 := List.mem_singleton.1 e; omega) (fun e => by have h1 := List.mem_singleton.1 e; omega) (fun e => by have h1 := List.mem_singleton.1 e; omega)
        have hT1 : T2 M.cells (cellsL x) w w1 := ⟨HT.out.one.only o1 (fun e => by have h1 := List.mem_singleton.1 e; omega), HT.out.two.only o1 (fun e => by have h1 := List.mem_singleton.1 e; omega), HT.out.below.trans (o1.below HT.out.below.size (fun j hj => by have := List.mem_singleton.1 hj; omega))⟩
        have hl := ats_run hcn1 HX.out hi
        obtain ⟨q0, q1, q2, q3, q4, q5⟩ := hT1.one.cells5v
        obtain ⟨⟨x0, x1, x2⟩, x3, x4, x5⟩ := hT1.two.cells5
        have HCN1 := Lib.hid hcn1
        have HT1 := Lib.hid hT1
        have HRG1 := Lib.hid hrg1
        have HZI := Lib.hid hzi
        have HI := Lib.hid hi
        have HLT' := Lib.hid hlt
        clear hrg hat hrg1 hlt hg1 hs1 hlx hlts hcn1 hT1 o1 hzi hi hwx hwc
        generalize hv : C.ats x.id i = v at *
        have HV := Lib.hid hv
        clear hv
        by_cases hgt : 1 < v
        · have hd : decide (1 < v) = true := decide_eq_true hgt
          have HE : Hid (r = true) := HR.out.2 ⟨HAP.out, i, HI.out, by rw [HZI.out]; rfl, by rw [HV.out]; exact hgt⟩
          clear hgt
          go_wp2
          go_ret
          exact ⟨ret_bool HE.out.symm, HT1.out.below⟩
        · have hd : decide (1 < v) = false := decide_eq_false hgt
          have HGT := Lib.hid hgt
          clear hgt
          go_wp2
          go_roundw
          case rel =>
            refine ⟨_, cnt1, HRG1.out, fun j hj hs hl => ?_, HCN1.out, HT1.out⟩
            by_cases e : j = i
            · subst e; rw [HV.out]; have h9 := HGT.out; omega
            · refine HNO.out j hj hs ?_
              rw [sameKey_int, decide_eq_false e] at hl
              simpa using hl
          case measure => rw [HRG1.out.left_eq, HRG.out.left_eq]; exact HLT'.out
end Go.Proofs.YtpfjeoldgcepnaaGreatDoor

/- Loads' faults by what is counted: the program's isUnlike of layer 13. -/
namespace Go.Proofs.YtpfjeoldgcepnaaGreatDoor
set_option linter.unusedSimpArgs false
open Go.RowKit
open Go.Maps (Keyed)
set_option linter.unusedVariables false

/-- The least and the most of what is counted of a load in the zones. -/
structure SpanL (v : Int → Int) (zm : Int → Option Int) (a b : Int) : Prop where
  least : a = 12 ∨ ∃ i z, zm i = some z ∧ a = v z
  most : b = 0 ∨ ∃ i z, zm i = some z ∧ b = v z
  le : a ≤ 12
  ge : 0 ≤ b
def UnlikeRelK (M : MapsB) (nn : Nat) (C : CntD) (zm : Int → Option Int) (x : LoadD) (n : Nat) (D : DataW Unit) (w : World) (v5 v6 : Value) (wr : World) : Prop :=
  ∃ (left : Lit → Bool) (cnt : Nat) (a b : Int), v5 = .int .i64 a ∧ v6 = .int .i64 b ∧ wr.ranges Tryz.prog 3 (plainElem Tryz.prog 3) M.z (w.heap.size + 2) n D left cnt ∧ (∀ i z, I64 i → zm i = some z → left (.int .i64 i) = false → a ≤ C.inz x.id z ∧ C.inz x.id z ≤ b) ∧ SpanL (C.inz x.id) zm a b ∧ CntIs M nn C wr ∧ T2 M.cells (cellsL x) w wr
theorem SpanL.next {v : Int → Int} {zm : Int → Option Int} {a b i c a' b' : Int} (h : SpanL v zm a b) (hi : zm i = some c) (ha : (if v c < a then v c else a) = a') (hb : (if b < v c then v c else b) = b') : SpanL v zm a' b' ∧ a' ≤ a ∧ b ≤ b' ∧ a' ≤ v c ∧ v c ≤ b' := by
  obtain ⟨h1, h2, h3, h4⟩ := h
  refine ⟨⟨?_, ?_, ?_, ?_⟩, ?_, ?_, ?_, ?_⟩
  · by_cases q : v c < a
    · rw [if_pos q] at ha; exact .inr ⟨i, c, hi, ha.symm⟩
    · rw [if_neg q] at ha; rw [← ha]; exact h1
  · by_cases q : b < v c
    · rw [if_pos q] at hb; exact .inr ⟨i, c, hi, hb.symm⟩
    · rw [if_neg q] at hb; rw [← hb]; exact h2
  all_goals (split at ha <;> split at hb <;> omega)
theorem SpanL.bounds {v : Int → Int} {zm : Int → Option Int} {a b : Int} (h : SpanL v zm a b) (hv : ∀ z, 0 ≤ v z ∧ v z ≤ 1000) : 0 ≤ a ∧ b ≤ 1000 := by
  obtain ⟨h1, h2, h3, h4⟩ := h
  constructor
  · rcases h1 with e | ⟨_, z, _, e⟩
    · omega
    · have := hv z; omega
  · rcases h2 with e | ⟨_, z, _, e⟩
    · omega
    · have := hv z; omega

set_option maxHeartbeats 6400000 in
set_option maxRecDepth 100000 in
theorem unlike_any {M : MapsB} {nn : Nat} {C : CntD} {zm : Int → Option Int} {x : LoadD} {r : Bool} (hx : I64 x.id) (w : World) (h : CntIs M nn C w) (hz : ZoneIs M.z zm w)
    (hv : ∀ z, 0 ≤ C.inz x.id z ∧ C.inz x.id z ≤ 1000) (hs : I64 x.skew) (hr : (x.skew = 0 → r = false) ∧ (x.skew ≠ 0 → ∀ a b, SpanL (C.inz x.id) zm a b → (∀ i z, I64 i → zm i = some z → a ≤ C.inz x.id z ∧ C.inz x.id z ≤ b) → r = decide (x.skew < b - a))) :
    Calls Tryz.prog 109 #[M.val, aggL x] w fun e w' => e = .returned (.bool r) ∧ Below w.heap.size w w' := by
  have T0 : T2 M.cells (cellsL x) w ((w.alloc (.cells #[.map (some M.z), .map (some M.u), .map (some M.a), .map (some M.i), .map (some M.s)] 88)).alloc (.cells #[.int .i64 x.id, .bool x.apart, .int .i64 x.skew, .int .i64 x.min, .int .i64 x.max] 76)) := T2.new w M.cells (cellsL x) 88 76
  have HLT := Lib.hid (And.intro h.use.lt (And.intro h.ats.lt (And.intro h.inz.lt (And.intro h.size.lt hz.lt))))
  have HC0 := Lib.hid (h.below T0.below)
  have HR := Lib.hid hr
  have HX := Lib.hid hx
  obtain ⟨n, D, hn, hown, hD⟩ := hz.below T0.below
  have HD := Lib.hid hD
  have HT0 := Lib.hid T0
  obtain ⟨q0, q1, q2, q3, q4, q5⟩ := T0.one.cells5v
  obtain ⟨⟨x0, x1, x2⟩, x3, x4, x5⟩ := T0.two.cells5
  have hws : ((w.alloc (.cells #[.map (some M.z), .map (some M.u), .map (some M.a), .map (some M.i), .map (some M.s)] 88)).alloc (.cells #[.int .i64 x.id, .bool x.apart, .int .i64 x.skew, .int .i64 x.min, .int .i64 x.max] 76)).heap.size = w.heap.size + 2 := by simp
  have HWS := Lib.hid hws
  clear T0 h hz hr hx hD hws
  go_enter Tryz.func109, Tryz.ntmps109
  go_upto_region 1 with fail
  generalize ((w.alloc (.cells #[.map (some M.z), .map (some M.u), .map (some M.a), .map (some M.i), .map (some M.s)] 88)).alloc (.cells #[.int .i64 x.id, .bool x.apart, .int .i64 x.skew, .int .i64 x.min, .int .i64 x.max] 76)) = W at *
  have HV := Lib.hid hv
  have HS := Lib.hid hs
  clear hv hs
  by_cases hsk : x.skew = 0
  · have HE : Hid (r = false) := HR.out.1 hsk
    have hd : (x.skew == 0) = true := by simp [hsk]
    clear hsk
    go_wp2
    go_ret
    exact ⟨ret_bool HE.out.symm, HT0.out.below⟩
  · have HSP : Hid (∀ a b, SpanL (C.inz x.id) zm a b → (∀ i z, I64 i → zm i = some z → a ≤ C.inz x.id z ∧ C.inz x.id z ≤ b) → r = decide (x.skew < b - a)) := HR.out.2 hsk
    have hd : (x.skew == 0) = false := by simp [hsk]
    clear hsk HR
    go_wp2_with (at_range; refine wpList_range_own _ rfl _ 83 rfl 3 3 intLaw Tryz.underlying83 _ M.z n D rfl hown ?_; intro w0 hrg0 hg0 hs0)
    have hww : W.heap.size = w.heap.size + 2 := HWS.out
    simp only [hww] at hrg0 ⊢
    go_frame
    have o0 : Only [] W w0 := ⟨hg0.os, hg0.tape, hg0.output, hg0.size, fun i hi _ => hg0.block i hi (by simp)⟩
    have HAT : Hid (UnlikeRelK M nn C zm x n D w (.int .i64 12) (.int .i64 0) w0) := ⟨_, _, 12, 0, rfl, rfl, hrg0, (fun i z hi hs hl => by rw [(HD.out i hi).1, hs] at hl; cases hl), ⟨.inl rfl, .inl rfl, by omega, by omega⟩, HC0.out.kept o0 (by simp) (by simp) (by simp) (by simp), ⟨HT0.out.one.only o0 (by simp), HT0.out.two.only o0 (by simp), (HT0.out.below).trans (o0.below HT0.out.below.size (by simp))⟩⟩
    clear hrg0 hg0 hs0 hown hww o0 q0 q1 q2 q3 q4 q5 x0 x1 x2 x3 x4 x5 HC0 HT0 HWS W
    go_loopw [5, 6] (UnlikeRelK M nn C zm x n D w) (fun _ _ wr => wr.rangeLeft M.z (w.heap.size + 2))
    case atStart => exact HAT.out
    case round =>
      clear HAT
      obtain ⟨left, cnt, a, b, rfl, rfl, hrg, hno, hsp, hcn, hT⟩ := hrel
      have HSL := Lib.hid hsp
      have HNO := Lib.hid hno
      have HCN := Lib.hid hcn
      have HT := Lib.hid hT
      have HRG := Lib.hid hrg
      clear hno hcn hT hsp
      go_wp2_with (at_next; refine wpList_next_ranges_ii _ rfl _ rfl 3 3 .i64 .i64 intLaw Tryz.underlying3 Tryz.underlying3 M.z (w.heap.size + 2) n D left cnt rfl hrg ?_ ?_)
      · intro _ hl0
        have hbd := HSL.out.bounds HV.out
        have HE : Hid (r = decide (x.skew < b - a)) := HSP.out a b HSL.out (fun i z hi hz => HNO.out i z hi hz (hl0 _))
        obtain ⟨hb1, hb2⟩ := hbd
        have hb3 := HSL.out.le
        have hb4 := HSL.out.ge
        obtain ⟨⟨x0, x1, x2⟩, x3, x4, x5⟩ := HT.out.two.cells5
        clear hl0 hrg
        generalize hq : decide (x.skew < b - a) = q at *
        have HQ := Lib.hid hq
        clear hq
        have hq2 : decide (b - a > x.skew) = q := HQ.out
        go_wp2
        go_ret
        exact ⟨ret_bool HE.out.symm, HT.out.below⟩
      · intro i c w1 cnt1 hwx hwc hlx hat hrg1 hlt hg1 hs1 hen
        have hi := I64_of_wf hwx
        have hzi := has_of_at (fun zd => (HD.out i hi).2 zd) hat
        have o1 : Only [w.heap.size + 2] wr w1 := Only.grown hg1 (List.mem_singleton.2 rfl)
        have hlts := HLT.out
        have hcn1 := HCN.out.kept o1 (fun e => by have h1 := List.mem_singleton.1 e; omega) (fun e => by have h1 := List.mem_singleton.1 e; omega) (fun e => by have h1 := List.mem_singleton.1 e; omega) (fun e => by have h1 := List.mem_singleton.1 e; omega)
        have hT1 : T2 M.cells (cellsL x) w w1 := ⟨HT.out.one.only o1 (fun e => by have h1 := List.mem_singleton.1 e; omega), HT.out.two.only o1 (fun e => by have h1 := List.mem_singleton.1 e; omega), HT.out.below.trans (o1.below HT.out.below.size (fun j hj => by have := List.mem_singleton.1 hj; omega))⟩
        have hl := inz_run hcn1 HX.out (I64_of_wf hwc)
        obtain ⟨q0, q1, q2, q3, q4, q5⟩ := hT1.one.cells5v
        obtain ⟨⟨x0, x1, x2⟩, x3, x4, x5⟩ := hT1.two.cells5
        have HCN1 := Lib.hid hcn1
        have HT1 := Lib.hid hT1
        have HRG1 := Lib.hid hrg1
        have HZI := Lib.hid hzi
        have HI := Lib.hid hi
        have HLT' := Lib.hid hlt
        clear hrg hat hrg1 hlt hg1 hs1 hlx hlts hcn1 hT1 o1 hzi hi hwx hwc
        generalize hv : C.inz x.id c = v at *
        have HVC := Lib.hid hv
        clear hv
        obtain ⟨a', ha⟩ : ∃ a', min a v = a' := ⟨_, rfl⟩
        obtain ⟨b', hb⟩ : ∃ b', max b v = b' := ⟨_, rfl⟩
        have HSN := Lib.hid (HSL.out.next (a' := a') (b' := b') HZI.out (by rw [HVC.out]; split <;> omega) (by rw [HVC.out]; split <;> omega))
        go_wp2
        go_roundw
        case rel =>
          obtain ⟨n1, n2, n3, n4, n5⟩ := HSN.out
          refine ⟨_, cnt1, a', b', rfl, rfl, HRG1.out, fun j z hj hs hl => ?_, n1, HCN1.out, HT1.out⟩
          by_cases e : j = i
          · subst e
            have : z = c := by have h8 := HZI.out; rw [hs] at h8; exact Option.some.inj h8
            subst this
            exact ⟨n4, n5⟩
          · have h9 := HNO.out j z hj hs (by
              rw [sameKey_int, decide_eq_false e] at hl
              simpa using hl)
            omega
        case measure => rw [HRG1.out.left_eq, HRG.out.left_eq]; exact HLT'.out
end Go.Proofs.YtpfjeoldgcepnaaGreatDoor

/- The closures of turn and loadsOf of layer 13, and the library's searches at them. -/
namespace Go.Proofs.YtpfjeoldgcepnaaGreatDoor
set_option linter.unusedSimpArgs false
open Go.RowKit
set_option linter.unusedVariables false

/-- The closure in turn: is this the pod's Id? -/
theorem turnClosure_any (x : PodD) (id : Int) (g : Nat) (w : World) (h0 : w.cell? ⟨g, 0, none⟩ = some (.int .i64 id)) :
    Calls Tryz.prog 78 #[aggP x, .pointer (some ⟨g, 0, none⟩)] w fun e w' => e = .returned (.bool (x.id == id)) ∧ Below w.heap.size w w' := by
  have hg : g < w.heap.size := World.block_lt_of_cell? w _ h0
  go_enter Tryz.func78, Tryz.ntmps78
  go_wp2
  go_ret
  exact ⟨rfl, (Below.refl _ _).alloc (Nat.le_refl _) _⟩
set_option maxHeartbeats 3200000 in
set_option maxRecDepth 100000 in
theorem turnIndex_any (l : List PodD) (id : Int) (g : Nat) (A : Option Addr) (n c : Nat) (w : World) (hn : n = l.length) (hl : n ≤ 1000) (hr : Recs 8 cellsP w w.heap.size A l) (h0 : w.cell? ⟨g, 0, none⟩ = some (.int .i64 id)) :
    Calls Tryz.prog 77 #[.slice A n c, .func (.func 78) #[] #[.pointer (some ⟨g, 0, none⟩)]] w fun e w' => e = .returned (.int .i64 (place PodD.id id l 0)) ∧ Below w.heap.size w w' := by
  have hg : g < w.heap.size := World.block_lt_of_cell? w _ h0
  have HR := Lib.hid hr
  have HN := Lib.hid hn
  have H0 := Lib.hid h0
  clear hr hn h0
  go_enter Tryz.func77, Tryz.ntmps77
  go_wp2
  go_loopw [8] (FRel PodD.id id l w w.heap.size) (fun i _ => n - (intOf i).toNat)
  case atStart => exact ⟨0, by omega, rfl, rfl, Below.refl _ _⟩
  case round =>
    obtain ⟨k, hk, rfl, hp, hbr⟩ := hrel
    have HP := Lib.hid hp
    have hzr := hbr.size
    clear hp
    by_cases hlt : k < n
    · have hkl : k < l.length := by have := HN.out; omega
      obtain ⟨b, o, rfl, hb, he⟩ := HR.out.at hkl
      generalize hx : l[k] = x at *
      have HX := Lib.hid hx
      clear hx
      have e0 : wr.cell? ⟨b, o + k * 8, none⟩ = some (.int .i64 x.id) := (hbr.cell (p := ⟨b, o + k * 8, none⟩) hb).trans (he 0 _ rfl)
      have e1 : wr.cell? ⟨b, o + k * 8 + 1, none⟩ = some (.int .i64 x.load) := (hbr.cell (p := ⟨b, o + k * 8 + 1, none⟩) hb).trans (he 1 _ rfl)
      have e2 : wr.cell? ⟨b, o + k * 8 + 2, none⟩ = some (.int .i64 x.prio) := (hbr.cell (p := ⟨b, o + k * 8 + 2, none⟩) hb).trans (he 2 _ rfl)
      have e3 : wr.cell? ⟨b, o + k * 8 + 3, none⟩ = some (.int .u64 x.req.a) := (hbr.cell (p := ⟨b, o + k * 8 + 3, none⟩) hb).trans (he 3 _ rfl)
      have e4 : wr.cell? ⟨b, o + k * 8 + 4, none⟩ = some (.int .u64 x.req.b) := (hbr.cell (p := ⟨b, o + k * 8 + 4, none⟩) hb).trans (he 4 _ rfl)
      have e5 : wr.cell? ⟨b, o + k * 8 + 5, none⟩ = some (.int .u64 x.req.c) := (hbr.cell (p := ⟨b, o + k * 8 + 5, none⟩) hb).trans (he 5 _ rfl)
      have e6 : wr.cell? ⟨b, o + k * 8 + 6, none⟩ = some (.int .u64 x.req.d) := (hbr.cell (p := ⟨b, o + k * 8 + 6, none⟩) hb).trans (he 6 _ rfl)
      have e7 : wr.cell? ⟨b, o + k * 8 + 7, none⟩ = some (.int .i64 x.node) := (hbr.cell (p := ⟨b, o + k * 8 + 7, none⟩) hb).trans (he 7 _ rfl)
      have hbw : b < wr.heap.size := by omega
      have hgc : wr.cell? ⟨g, 0, none⟩ = some (.int .i64 id) := (hbr.cell (p := ⟨g, 0, none⟩) hg).trans H0.out
      clear he
      go_wp2_with fail
      go_at_call 78
      refine (turnClosure_any x id g _ hgc).mono ?_
      rintro e w1 ⟨rfl, hb1⟩
      have k1 : Below w.heap.size w w1 := hbr.trans (hb1.mono hzr)
      by_cases hid : x.id = id
      · have HE := Lib.hid (place_found hkl (by rw [HX.out]; exact hid) HP.out)
        have hd : (x.id == id) = true := by simp [hid]
        clear hid
        go_wp2
        go_ret
        exact ⟨ret_int HE.out.symm, k1⟩
      · have HE := Lib.hid (place_step hkl (by rw [HX.out]; exact hid) HP.out)
        have hd : (x.id == id) = false := by simp [hid]
        clear hid
        go_wp2
        go_roundw
        case rel => exact ⟨k + 1, by omega, by go_num, HE.out, k1⟩
        case measure => simp [intOf]; omega
    · have HE := Lib.hid (place_end (by have := HN.out; omega) HP.out)
      go_wp2
      go_ret
      exact ⟨ret_int HE.out.symm, hbr⟩
/-- The closure in loadsOf: is this the pod's load? -/
theorem loadClosure_any (x : PodD) (id : Int) (g : Nat) (w : World) (h0 : w.cell? ⟨g, 0, none⟩ = some (.int .i64 id)) :
    Calls Tryz.prog 90 #[aggP x, .pointer (some ⟨g, 0, none⟩)] w fun e w' => e = .returned (.bool (x.load == id)) ∧ Below w.heap.size w w' := by
  have hg : g < w.heap.size := World.block_lt_of_cell? w _ h0
  go_enter Tryz.func90, Tryz.ntmps90
  go_wp2
  go_ret
  exact ⟨rfl, (Below.refl _ _).alloc (Nat.le_refl _) _⟩
set_option maxHeartbeats 3200000 in
set_option maxRecDepth 100000 in
theorem loadIndex_any (l : List PodD) (id : Int) (g : Nat) (A : Option Addr) (n c : Nat) (w : World) (hn : n = l.length) (hl : n ≤ 1000) (hr : Recs 8 cellsP w w.heap.size A l) (h0 : w.cell? ⟨g, 0, none⟩ = some (.int .i64 id)) :
    Calls Tryz.prog 77 #[.slice A n c, .func (.func 90) #[] #[.pointer (some ⟨g, 0, none⟩)]] w fun e w' => e = .returned (.int .i64 (place PodD.load id l 0)) ∧ Below w.heap.size w w' := by
  have hg : g < w.heap.size := World.block_lt_of_cell? w _ h0
  have HR := Lib.hid hr
  have HN := Lib.hid hn
  have H0 := Lib.hid h0
  clear hr hn h0
  go_enter Tryz.func77, Tryz.ntmps77
  go_wp2
  go_loopw [8] (FRel PodD.load id l w w.heap.size) (fun i _ => n - (intOf i).toNat)
  case atStart => exact ⟨0, by omega, rfl, rfl, Below.refl _ _⟩
  case round =>
    obtain ⟨k, hk, rfl, hp, hbr⟩ := hrel
    have HP := Lib.hid hp
    have hzr := hbr.size
    clear hp
    by_cases hlt : k < n
    · have hkl : k < l.length := by have := HN.out; omega
      obtain ⟨b, o, rfl, hb, he⟩ := HR.out.at hkl
      generalize hx : l[k] = x at *
      have HX := Lib.hid hx
      clear hx
      have e0 : wr.cell? ⟨b, o + k * 8, none⟩ = some (.int .i64 x.id) := (hbr.cell (p := ⟨b, o + k * 8, none⟩) hb).trans (he 0 _ rfl)
      have e1 : wr.cell? ⟨b, o + k * 8 + 1, none⟩ = some (.int .i64 x.load) := (hbr.cell (p := ⟨b, o + k * 8 + 1, none⟩) hb).trans (he 1 _ rfl)
      have e2 : wr.cell? ⟨b, o + k * 8 + 2, none⟩ = some (.int .i64 x.prio) := (hbr.cell (p := ⟨b, o + k * 8 + 2, none⟩) hb).trans (he 2 _ rfl)
      have e3 : wr.cell? ⟨b, o + k * 8 + 3, none⟩ = some (.int .u64 x.req.a) := (hbr.cell (p := ⟨b, o + k * 8 + 3, none⟩) hb).trans (he 3 _ rfl)
      have e4 : wr.cell? ⟨b, o + k * 8 + 4, none⟩ = some (.int .u64 x.req.b) := (hbr.cell (p := ⟨b, o + k * 8 + 4, none⟩) hb).trans (he 4 _ rfl)
      have e5 : wr.cell? ⟨b, o + k * 8 + 5, none⟩ = some (.int .u64 x.req.c) := (hbr.cell (p := ⟨b, o + k * 8 + 5, none⟩) hb).trans (he 5 _ rfl)
      have e6 : wr.cell? ⟨b, o + k * 8 + 6, none⟩ = some (.int .u64 x.req.d) := (hbr.cell (p := ⟨b, o + k * 8 + 6, none⟩) hb).trans (he 6 _ rfl)
      have e7 : wr.cell? ⟨b, o + k * 8 + 7, none⟩ = some (.int .i64 x.node) := (hbr.cell (p := ⟨b, o + k * 8 + 7, none⟩) hb).trans (he 7 _ rfl)
      have hbw : b < wr.heap.size := by omega
      have hgc : wr.cell? ⟨g, 0, none⟩ = some (.int .i64 id) := (hbr.cell (p := ⟨g, 0, none⟩) hg).trans H0.out
      clear he
      go_wp2_with fail
      go_at_call 90
      refine (loadClosure_any x id g _ hgc).mono ?_
      rintro e w1 ⟨rfl, hb1⟩
      have k1 : Below w.heap.size w w1 := hbr.trans (hb1.mono hzr)
      by_cases hid : x.load = id
      · have HE := Lib.hid (place_found hkl (by rw [HX.out]; exact hid) HP.out)
        have hd : (x.load == id) = true := by simp [hid]
        clear hid
        go_wp2
        go_ret
        exact ⟨ret_int HE.out.symm, k1⟩
      · have HE := Lib.hid (place_step hkl (by rw [HX.out]; exact hid) HP.out)
        have hd : (x.load == id) = false := by simp [hid]
        clear hid
        go_wp2
        go_roundw
        case rel => exact ⟨k + 1, by omega, by go_num, HE.out, k1⟩
        case measure => simp [intOf]; omega
    · have HE := Lib.hid (place_end (by have := HN.out; omega) HP.out)
      go_wp2
      go_ret
      exact ⟨ret_int HE.out.symm, hbr⟩
theorem place_anyK {id : Int} : ∀ (l : List PodD) (k : Int), 0 ≤ k → (decide (0 ≤ place PodD.load id l k) = l.any fun p => p.load == id)
  | [], k, hk => by simp [place]
  | p :: r, k, hk => by
    by_cases h : p.load = id
    · simp [place, h, hk]
    · have : (p.load == id) = false := by simp [h]
      simp only [place, if_neg h, List.any_cons, this, Bool.false_or]
      exact place_anyK r (k + 1) (by omega)
set_option maxRecDepth 100000 in
theorem loadContains_any (l : List PodD) (id : Int) (g : Nat) (A : Option Addr) (n c : Nat) (w : World) (hn : n = l.length) (hl : n ≤ 1000) (hr : Recs 8 cellsP w w.heap.size A l) (h0 : w.cell? ⟨g, 0, none⟩ = some (.int .i64 id)) :
    Calls Tryz.prog 89 #[.slice A n c, .func (.func 90) #[] #[.pointer (some ⟨g, 0, none⟩)]] w fun e w' => e = .returned (.bool (l.any fun p => p.load == id)) ∧ Below w.heap.size w w' := by
  have HC := Lib.hid (loadIndex_any l id g A n c w hn hl hr h0)
  have HE := Lib.hid (place_anyK (id := id) l 0 (by omega))
  clear hn hr h0
  generalize place PodD.load id l 0 = q at *
  go_enter Tryz.func89, Tryz.ntmps89
  go_wp2_with fail
  go_at_call 77
  refine HC.out.mono ?_
  rintro e w1 ⟨rfl, hb1⟩
  by_cases hq : 0 ≤ q
  · have hd : decide (0 ≤ q) = true := decide_eq_true hq
    have HD := Lib.hid (HE.out.symm.trans hd)
    clear hq
    go_wp2
    go_ret
    exact ⟨ret_bool HD.out.symm, hb1⟩
  · have hd : decide (0 ≤ q) = false := decide_eq_false hq
    have HD := Lib.hid (HE.out.symm.trans hd)
    clear hq
    go_wp2
    go_ret
    exact ⟨ret_bool HD.out.symm, hb1⟩
end Go.Proofs.YtpfjeoldgcepnaaGreatDoor

/- The program's inOrder: of two that may go, which is the one ahead. It makes memory of its own, and turns nothing that there was. -/
namespace Go.Proofs.YtpfjeoldgcepnaaGreatDoor
set_option linter.unusedSimpArgs false
open Go.RowKit
set_option linter.unusedVariables false

/-- More of the tape is drawn, and there are new blocks: nothing else. -/
def Grew (W v : World) : Prop := ∃ q os, v = Sort.grow (W.drewN q) os
/-- What a region of loads and calls leaves. -/
def GrewK (W v : World) : Prop := (∀ b o, b < W.heap.size → v.cell? ⟨b, o, none⟩ = W.cell? ⟨b, o, none⟩) ∧ Grew W v
theorem Grew.refl (W : World) : Grew W W := ⟨0, #[], by rw [Sort.grow_empty]; rfl⟩
theorem Grew.trans {W v u : World} (h : Grew W v) (k : Grew v u) : Grew W u := by
  obtain ⟨q, os, rfl⟩ := h
  obtain ⟨q', os', rfl⟩ := k
  refine ⟨q + q', os ++ os', ?_⟩
  rw [← Sort.grow_grow]
  show Sort.grow (Sort.grow ((W.drewN q).drewN q') os) os' = _
  rw [show (W.drewN q).drewN q' = W.drewN (q + q') by simp [World.drewN, Nat.add_assoc]]
theorem Grew.drew (W : World) : Grew W W.drew := ⟨1, #[], by rw [Sort.grow_empty]; rfl⟩
theorem Grew.alloc (W : World) (o : Obj) : Grew W (W.alloc o) := ⟨0, #[o], by rw [Sort.alloc_eq_grow]; rfl⟩
theorem Grew.cells {W v : World} (h : Grew W v) : GrewK W v := by
  refine ⟨fun b o hb => ?_, h⟩
  obtain ⟨q, os, rfl⟩ := h
  exact Sort.cell?_grow (W.drewN q) os ⟨b, o, none⟩ hb
theorem GrewK.drew {W v : World} (h : GrewK W v) : GrewK W v.drew := (h.2.trans (Grew.drew v)).cells
theorem GrewK.alloc {W v : World} (h : GrewK W v) (o : Obj) : GrewK W (v.alloc o) := (h.2.trans (Grew.alloc v o)).cells

end Go.Proofs.YtpfjeoldgcepnaaGreatDoor

/- The program's ids: the Ids of a row of pods. -/
namespace Go.Proofs.YtpfjeoldgcepnaaGreatDoor
set_option linter.unusedSimpArgs false
open Go.RowKit
set_option linter.unusedVariables false

end Go.Proofs.YtpfjeoldgcepnaaGreatDoor

/- The program's Victims, from what slices.SortFunc comes to. -/
namespace Go.Proofs.YtpfjeoldgcepnaaGreatDoor
set_option linter.unusedSimpArgs false
open Go.RowKit
set_option linter.unusedVariables false

theorem own_below8 {w w' : World} {B base n size : Nat} {e : TypeId} {v : Value} {xs : List Value} (h : w.ownsRow base e size v n xs) (hb : Below B w w') (hB : w.heap.size ≤ B) : w'.ownsRow base e size v n xs := by
  refine ⟨h.1, ?_⟩
  rcases h.2 with h0 | ⟨g, cap, cur, hv, hb1, hg, rest⟩
  · exact .inl h0
  · have hlt : g < w.heap.size := (Array.getElem?_eq_some_iff.1 hg).1
    exact .inr ⟨g, cap, cur, hv, hb1, (hb.block g (by omega)).trans hg, rest⟩

end Go.Proofs.YtpfjeoldgcepnaaGreatDoor

namespace Go.Proofs.YtpfjeoldgcepnaaGreatDoor
set_option linter.unusedSimpArgs false
open Go.RowKit
set_option linter.unusedVariables false

theorem infoLoad : (Tryz.prog.info? 76).map (fun i => (i.zero, i.size, i.bytes)) = some (some (.agg #[.int .i64 0, .bool false, .int .i64 0, .int .i64 0, .int .i64 0]), 5, 40) := by kernel_rfl
theorem underLoads : Tryz.prog.underlying 23 = some (.slice 76) := by kernel_rfl
theorem oneLoad (x : LoadD) : ∀ u ∈ cellsL x, u.oneCell' = true := by
  intro u hu
  simp only [cellsL, List.mem_cons, List.not_mem_nil, or_false] at hu
  rcases hu with rfl | rfl | rfl | rfl | rfl <;> rfl
theorem lenL5 (x : LoadD) : (cellsL x).length = 5 := rfl
theorem loads_next {ls : List LoadD} {b : List PodD} {k : Nat} (h : k < ls.length) {x : LoadD} (hx : ls[k] = x) : loadsD (ls.take (k + 1)) b = loadsD (ls.take k) b ++ if (b.any fun p => p.load == x.id) = true then [x] else [] := by
  unfold loadsD
  rw [List.take_succ_eq_append_getElem h, List.filter_append, hx]
  congr 1
  cases hh : b.any fun p => p.load == x.id <;> simp [hh]
theorem loads_len (ls : List LoadD) (b : List PodD) : (loadsD ls b).length ≤ ls.length := List.length_filter_le _ _
def LoadsRelK (ls : List LoadD) (b : List PodD) (a : List Value) (n : Nat) (w : World) (v i : Value) (wr : World) : Prop :=
  ∃ k m : Nat, k ≤ n ∧ i = .int .i64 k ∧ m = (loadsD (ls.take k) b).length ∧ wr.ownsRow (w.heap.size + 1) 76 5 v m ((loadsD (ls.take k) b).flatMap cellsL) ∧ Bf wr w.heap.size a ∧ Below w.heap.size w wr

set_option maxHeartbeats 6400000 in
set_option maxRecDepth 100000 in
theorem loadsOf_any (ls : List LoadD) (b : List PodD) (A1 A2 A3 A : Option Addr) (n1 c1 n2 c2 n3 c3 n c : Nat) (w : World) (hn2 : n2 = ls.length) (hl2 : n2 ≤ 400) (hr2 : Recs 5 cellsL w w.heap.size A2 ls) (hn : n = b.length) (hl : n ≤ 400) (hr : Recs 8 cellsP w w.heap.size A b) :
    Calls Tryz.prog 48 #[.agg #[.slice A1 n1 c1, .slice A2 n2 c2, .slice A3 n3 c3], .slice A n c] w fun e w' => ∃ A' c', e = .returned (.slice A' (loadsD ls b).length c') ∧ Out 5 cellsL w' (loadsD ls b) A' c' ∧ (∀ a, A' = some a → w.heap.size ≤ a.block) ∧ Below w.heap.size w w' := by
  have HN2 := Lib.hid hn2
  have HR2 := Lib.hid hr2
  have HCO : Hid (∀ (id : Int) (g : Nat) V, Below w.heap.size w V → V.cell? ⟨g, 0, none⟩ = some (.int .i64 id) → Calls Tryz.prog 89 #[.slice A n c, .func (.func 90) #[] #[.pointer (some ⟨g, 0, none⟩)]] V fun e w' => e = .returned (.bool (b.any fun p => p.load == id)) ∧ Below V.heap.size V w') :=
    fun id g V hV h0 => loadContains_any b id g A n c V hn (by omega) ((hr.below hV (Nat.le_refl _)).more hV.size) h0
  have hmf : ∀ (fn : Fn) (first cap : Array Value) (w : World), (Instr.makeFunc fn first cap).run Tryz.prog w = .ok (.func fn first cap) w := fun _ _ _ _ => rfl
  have B0 : Bf (w.alloc (.cells #[.slice A1 n1 c1, .slice A2 n2 c2, .slice A3 n3 c3] 26)) w.heap.size [.slice A1 n1 c1, .slice A2 n2 c2, .slice A3 n3 c3] := Bf.new w [.slice A1 n1 c1, .slice A2 n2 c2, .slice A3 n3 c3] 26 rfl
  have k0 : Below w.heap.size w (w.alloc (.cells #[.slice A1 n1 c1, .slice A2 n2 c2, .slice A3 n3 c3] 26)) := (Below.refl _ w).alloc (Nat.le_refl _) _
  have HAT : Hid (LoadsRelK ls b [.slice A1 n1 c1, .slice A2 n2 c2, .slice A3 n3 c3] n2 w (.slice none 0 0) (.int .i64 0) (w.alloc (.cells #[.slice A1 n1 c1, .slice A2 n2 c2, .slice A3 n3 c3] 26))) := ⟨0, 0, by omega, rfl, by simp [loadsD], ⟨by simp [loadsD], .inl ⟨rfl, rfl⟩⟩, B0, k0⟩
  clear hn2 hr2 hn hr B0 k0
  go_enter Tryz.func48, Tryz.ntmps48
  go_wp2
  go_loopw [5, 11] (LoadsRelK ls b [.slice A1 n1 c1, .slice A2 n2 c2, .slice A3 n3 c3] n2 w) (fun _ i _ => n2 - (intOf i).toNat)
  case atStart => exact HAT.out
  case round =>
    clear HAT
    obtain ⟨k, m, hk, rfl, hm, hown, hB, hbr⟩ := hrel
    have HM := Lib.hid hm
    have HOW := Lib.hid hown
    have HB := Lib.hid hB
    by_cases hlt : k < n2
    · have hkl : k < ls.length := by have := HN2.out; omega
      obtain ⟨g0, o, rfl, hb, he⟩ := HR2.out.at hkl
      generalize hx : ls[k] = x at *
      have HNX := Lib.hid (loads_next (b := b) hkl hx)
      have HLE := Lib.hid (loads_len (ls.take k) b)
      have e0 : wr.cell? ⟨g0, o + k * 5, none⟩ = some (.int .i64 x.id) := (hbr.cell (p := ⟨g0, o + k * 5, none⟩) hb).trans (he 0 _ rfl)
      have e1 : wr.cell? ⟨g0, o + k * 5 + 1, none⟩ = some (.bool x.apart) := (hbr.cell (p := ⟨g0, o + k * 5 + 1, none⟩) hb).trans (he 1 _ rfl)
      have e2 : wr.cell? ⟨g0, o + k * 5 + 2, none⟩ = some (.int .i64 x.skew) := (hbr.cell (p := ⟨g0, o + k * 5 + 2, none⟩) hb).trans (he 2 _ rfl)
      have e3 : wr.cell? ⟨g0, o + k * 5 + 3, none⟩ = some (.int .i64 x.min) := (hbr.cell (p := ⟨g0, o + k * 5 + 3, none⟩) hb).trans (he 3 _ rfl)
      have e4 : wr.cell? ⟨g0, o + k * 5 + 4, none⟩ = some (.int .i64 x.max) := (hbr.cell (p := ⟨g0, o + k * 5 + 4, none⟩) hb).trans (he 4 _ rfl)
      have hbw : g0 < wr.heap.size := Nat.lt_of_lt_of_le hb hbr.size
      have ka : Below wr.heap.size wr (wr.alloc (.cells #[.int .i64 x.id, .bool x.apart, .int .i64 x.skew, .int .i64 x.min, .int .i64 x.max] 76)) := (Below.refl _ wr).alloc (Nat.le_refl _) _
      have bx : Bf (wr.alloc (.cells #[.int .i64 x.id, .bool x.apart, .int .i64 x.skew, .int .i64 x.min, .int .i64 x.max] 76)) wr.heap.size (cellsL x) := Bf.new wr (cellsL x) 76 rfl
      have hB2 := hB.below ka hB.lt
      have hO2 := hown.alloc (.cells #[.int .i64 x.id, .bool x.apart, .int .i64 x.skew, .int .i64 x.min, .int .i64 x.max] 76)
      have kw := hbr.trans (ka.mono hbr.size)
      have hww : w.heap.size < wr.heap.size := hB.lt
      clear hm hown hB hb he hx HOW HB ka
      go_upto_region 5 with fail
      generalize (wr.alloc (.cells #[.int .i64 x.id, .bool x.apart, .int .i64 x.skew, .int .i64 x.min, .int .i64 x.max] 76)) = V at *
      generalize wr.heap.size = g at *
      have HB2 := Lib.hid hB2
      have HO2 := Lib.hid hO2
      have HKW := Lib.hid kw
      have HBX := Lib.hid bx
      have hgV := bx.lt
      have HC := Lib.hid (HCO.out x.id g V kw (bx.cell 0 _ rfl))
      clear hB2 hO2 kw bx e0 e1 e2 e3 e4
      generalize (b.any fun p => p.load == x.id) = ok at *
      go_wp2_with fail
      go_at_call 89
      refine HC.out.mono ?_
      rintro e V1 ⟨rfl, hb1⟩
      have HB3 := Lib.hid (HB2.out.below hb1 HB2.out.lt)
      have HO3 := Lib.hid (own_below8 HO2.out hb1 (Nat.le_refl _))
      have HK3 := Lib.hid (HKW.out.trans (hb1.mono HKW.out.size))
      have bx3 := HBX.out.below hb1 HBX.out.lt
      have hz3 : Hid (w.heap.size + 1 ≤ V1.heap.size) := HB3.out.lt
      obtain ⟨⟨x0, x1, x2⟩, x3, x4, x5⟩ := bx3.cells5
      clear hb1 bx3 HB2 HO2 HKW HBX
      cases ok with
      | false =>
        have HE : Hid (loadsD (ls.take (k + 1)) b = loadsD (ls.take k) b) := Lib.hid (by rw [HNX.out]; simp)
        clear x0 x1 x2 x3 x4 x5
        go_wp2
        go_roundw
        case rel => exact ⟨k + 1, m, by omega, by go_num, by rw [HE.out]; exact HM.out, by rw [HE.out]; exact HO3.out, HB3.out, HK3.out⟩
        case measure => simp [intOf]; omega
      | true =>
        have HE : Hid (loadsD (ls.take (k + 1)) b = loadsD (ls.take k) b ++ [x]) := HNX.out
        go_wp2_with (at_builtin; refine wpList_pushR 23 76 (.agg #[.int .i64 0, .bool false, .int .i64 0, .int .i64 0, .int .i64 0]) 5 40 underLoads infoLoad rfl (by decide) (by decide) rfl (.tmp 18) (.tmp 20) rfl (w.heap.size + 1) _ m _ (cellsL x) rfl (oneLoad _) HO3.out hz3.out (by have h1 := HLE.out; have h2 := HM.out; rw [List.length_take] at h1; omega) rfl rfl ?_; intro v' w4 hown4 hb4 hB4)
        have HO4 := Lib.hid hown4
        have HB4 := Lib.hid (HB3.out.below hb4 (by omega))
        have HK4 := Lib.hid (HK3.out.trans (hb4.mono (by omega)))
        clear hown4 hb4
        go_wp2
        go_roundw
        case rel => exact ⟨k + 1, m + 1, by omega, by go_num, by rw [HE.out, List.length_append, ← HM.out]; rfl, by rw [HE.out, List.flatMap_append]; simpa using HO4.out, HB4.out, HK4.out⟩
        case measure => simp [intOf]; omega
    · have HE : Hid (ls.take k = ls) := List.take_of_length_le (by have := HN2.out; omega)
      have HKB := Lib.hid hbr
      obtain ⟨A', c', rfl, hc1, hc2, hc3⟩ := own_form3 HOW.out
      clear hm hown hB
      go_wp2
      go_ret
      have h1 := HOW.out
      have h2 := HM.out
      rw [HE.out] at h1 h2
      subst h2
      refine ⟨A', c', rfl, out_of_own lenL5 rfl h1, fun a ha => ?_, HKB.out⟩
      rcases h1.2 with ⟨hv, _⟩ | ⟨g, cap, cur, hv, hb1, _⟩
      · injection hv with e1; rw [e1] at ha; cases ha
      · injection hv with e1; rw [e1] at ha; injection ha with ha; rw [← ha]; exact Nat.le_of_succ_le hb1
end Go.Proofs.YtpfjeoldgcepnaaGreatDoor
