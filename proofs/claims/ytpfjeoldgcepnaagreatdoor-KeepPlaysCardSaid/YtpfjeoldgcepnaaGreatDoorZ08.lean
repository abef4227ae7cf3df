/- Joined texts, part 8: VB VF VecA VecB VecC. -/
import Derived.Test.YtpfjeoldgcepnaaGreatDoorZ04
import Derived.Test.YtpfjeoldgcepnaaGreatDoorZ07
import Derived.Test.YtpfjeoldgcepnaaGreatDoorZ01
import Derived.DeepKeys4
import Derived.Test.YtpfjeoldgcepnaaGreatDoorRows
import Derived.WalkKit
import Derived.WalkSpells
import Derived.WalkLawsBesides
import Derived.Laws.Externs
import Derived.Shelf.Spec.BitsCarry
import Derived.Lib.Hide
import Derived.Deep.QuietTactic
import Derived.BigQuiet

/- What is counted of pods, as they come and leave: plain mathematics. -/
namespace Go.Proofs.YtpfjeoldgcepnaaGreatDoor
set_option linter.unusedSimpArgs false
open Go.RowKit
set_option linter.unusedVariables false

structure CntD where
  use : Int → V4
  ats : Int → Int → Int
  inz : Int → Int → Int
  size : Int → Int
def upd1 {α : Type} (f : Int → α) (i : Int) (v : α) : Int → α := fun j => if j = i then v else f j
def upd2 (f : Int → Int → Int) (i k v : Int) : Int → Int → Int := fun a b => if a = i ∧ b = k then v else f a b
def lessV (a b : V4) : V4 := (subV a b).getD .zer
def moreV (a b : V4) : V4 := (addV a b).getD .zer
/-- A node's zone, as it is told; 0: there is none. -/
def zoneZ (zm : Int → Option Int) (i : Int) : Int := (zm i).getD 0
def countC (zm : Int → Option Int) (c : CntD) (p : PodD) (d : Int) : CntD :=
  ⟨c.use, upd2 c.ats p.load p.node (wrap64 (c.ats p.load p.node + d)), upd2 c.inz p.load (zoneZ zm p.node) (wrap64 (c.inz p.load (zoneZ zm p.node) + d)), upd1 c.size p.load (wrap64 (c.size p.load + d))⟩
def comeC (zm : Int → Option Int) (c : CntD) (p : PodD) : CntD := if p.node = 0 then c else countC zm ⟨upd1 c.use p.node (moreV (c.use p.node) p.req), c.ats, c.inz, c.size⟩ p 1
def leaveC (zm : Int → Option Int) (c : CntD) (p : PodD) : CntD := if p.node = 0 then c else countC zm ⟨upd1 c.use p.node (lessV (c.use p.node) p.req), c.ats, c.inz, c.size⟩ p (-1)
def comesC (zm : Int → Option Int) (c : CntD) (l : List PodD) : CntD := l.foldl (comeC zm) c
def leavesC (zm : Int → Option Int) (c : CntD) (l : List PodD) : CntD := l.foldl (leaveC zm) c

def atP (ld n : Int) (p : PodD) : Bool := p.node != 0 && (p.load == ld && p.node == n)
def inP (zm : Int → Option Int) (ld z : Int) (p : PodD) : Bool := p.node != 0 && (p.load == ld && zoneZ zm p.node == z)
/-- What is counted of these pods. -/
def cntOf (zm : Int → Option Int) (l : List PodD) : CntD :=
  ⟨fun n => if n = 0 then .zer else totV (reqsAt n l), fun ld n => (l.countP (atP ld n) : Nat), fun ld z => (l.countP (inP zm ld z) : Nat), fun ld => (sizeD ld l : Nat)⟩
theorem cntOf_nil (zm : Int → Option Int) : cntOf zm [] = ⟨fun _ => .zer, fun _ _ => 0, fun _ _ => 0, fun _ => 0⟩ := by
  simp [cntOf, reqsAt, totV, sizeD]

theorem V4.ext4 {x y : V4} (h1 : x.a = y.a) (h2 : x.b = y.b) (h3 : x.c = y.c) (h4 : x.d = y.d) : x = y := by cases x; cases y; simp_all
theorem add_comm4 (x y : V4) : x.add y = y.add x := by unfold V4.add; rw [Int.add_comm x.a, Int.add_comm x.b, Int.add_comm x.c, Int.add_comm x.d]
theorem add_left4 (x y z : V4) : x.add (y.add z) = y.add (x.add z) := by
  refine V4.ext4 ?_ ?_ ?_ ?_ <;> (simp only [V4.add]; omega)
theorem tot_perm {n : Int} {l m : List PodD} (h : l.Perm m) : totV (reqsAt n l) = totV (reqsAt n m) := by
  induction h with
  | nil => rfl
  | cons x _ ih =>
    simp only [reqsAt]
    split
    · simp only [totV, ih]
    · exact ih
  | swap x y l =>
    simp only [reqsAt]
    split <;> split
    · simp only [totV]; exact add_left4 _ _ _
    · rfl
    · rfl
    · rfl
  | trans _ _ ih1 ih2 => exact ih1.trans ih2
theorem cnt_perm {zm : Int → Option Int} {l m : List PodD} (h : l.Perm m) : cntOf zm l = cntOf zm m := by
  unfold cntOf sizeD
  congr 1
  · funext n; rw [tot_perm h]
  · funext a b; rw [h.countP_eq]
  · funext a b; rw [h.countP_eq]
  · funext a; rw [h.countP_eq]
theorem sub_add4 (x y : V4) : (x.add y).sub x = y := by refine V4.ext4 ?_ ?_ ?_ ?_ <;> (simp only [V4.add, V4.sub]; omega)
theorem le_add4 {x y : V4} (h : 0 ≤ y.a ∧ 0 ≤ y.b ∧ 0 ≤ y.c ∧ 0 ≤ y.d) : x.le (x.add y) = true := by
  simp only [V4.le, V4.add]
  exact decide_eq_true ⟨by omega, by omega, by omega, by omega⟩
theorem more_is {x y : V4} (h : (x.add y).small = true) : moreV x y = x.add y := by unfold moreV addV; rw [if_pos h]; rfl
theorem less_is {x y : V4} (h : y.le x = true) : lessV x y = x.sub y := by unfold lessV subV; rw [if_pos h]; rfl
theorem tot_small {n : Int} {b r : List PodD} (hb : ∀ p ∈ b, p.Ok) (h : (totV (reqsAt n (b ++ r))).small = true) : (totV (reqsAt n r)).small = true := by
  rw [reqs_append, tot_append] at h
  have hp := tot_pos (reqs_ok (node := n) hb)
  simp only [V4.small, V4.add] at h ⊢
  have h := of_decide_eq_true h
  exact decide_eq_true ⟨by omega, by omega, by omega, by omega⟩
theorem countP_cons_int {α : Type} (f : α → Bool) (p : α) (l : List α) : (((p :: l).countP f : Nat) : Int) = (l.countP f : Nat) + (if f p = true then 1 else 0) := by
  rw [List.countP_cons]
  split <;> simp
theorem wrap_in {n : Int} {x : Int} (h1 : 0 ≤ x) (h2 : x ≤ 100000) (hn : n = 1 ∨ n = -1) : wrap64 (x + n) = x + n := IntWalk.wrap64_in _ ⟨by omega, by omega⟩
theorem come_is {zm : Int → Option Int} {l : List PodD} {p : PodD} (hl : l.length ≤ 1000) (hs : p.node ≠ 0 → (totV (reqsAt p.node (p :: l))).small = true) : comeC zm (cntOf zm l) p = cntOf zm (p :: l) := by
  have cp : ∀ f : PodD → Bool, l.countP f ≤ 1000 := fun f => Nat.le_trans List.countP_le_length hl
  unfold comeC
  by_cases h0 : p.node = 0
  · rw [if_pos h0]
    unfold cntOf sizeD
    congr 1
    · funext n
      by_cases hn : n = 0
      · simp [hn]
      · rw [if_neg hn, if_neg hn, reqsAt, if_neg (by omega)]
    · funext a b; rw [countP_cons_int, if_neg (by simp [atP, h0])]; simp
    · funext a b; rw [countP_cons_int, if_neg (by simp [inP, h0])]; simp
    · funext a; rw [countP_cons_int, if_neg (by simp [inS, h0])]; simp
  · rw [if_neg h0]
    have hs := hs h0
    rw [reqsAt, if_pos rfl, totV, add_comm4] at hs
    unfold countC cntOf sizeD
    dsimp only
    congr 1
    · funext n
      unfold upd1
      by_cases hn : n = p.node
      · subst hn
        rw [if_pos rfl, if_neg h0, if_neg h0, more_is hs, reqsAt, if_pos rfl, totV, add_comm4]
      · rw [if_neg hn]
        dsimp only
        by_cases hn0 : n = 0
        · rw [if_pos hn0, if_pos hn0]
        · rw [if_neg hn0, if_neg hn0, reqsAt, if_neg (fun e => hn e.symm)]
    · funext a b
      unfold upd2
      rw [countP_cons_int]
      by_cases hab : a = p.load ∧ b = p.node
      · obtain ⟨rfl, rfl⟩ := hab
        rw [if_pos ⟨rfl, rfl⟩, if_pos (by simp [atP, h0])]
        have := cp (atP p.load p.node)
        exact wrap_in (by omega) (by omega) (.inl rfl)
      · rw [if_neg hab, if_neg (by simp only [atP, Bool.and_eq_true, bne_iff_ne, beq_iff_eq]; rintro ⟨_, h1, h2⟩; exact hab ⟨h1.symm, h2.symm⟩)]
        simp
    · funext a b
      unfold upd2
      rw [countP_cons_int]
      by_cases hab : a = p.load ∧ b = zoneZ zm p.node
      · obtain ⟨rfl, rfl⟩ := hab
        rw [if_pos ⟨rfl, rfl⟩, if_pos (by simp [inP, h0])]
        have := cp (inP zm p.load (zoneZ zm p.node))
        exact wrap_in (by omega) (by omega) (.inl rfl)
      · rw [if_neg hab, if_neg (by simp only [inP, Bool.and_eq_true, bne_iff_ne, beq_iff_eq]; rintro ⟨_, h1, h2⟩; exact hab ⟨h1.symm, h2.symm⟩)]
        simp
    · funext a
      unfold upd1
      rw [countP_cons_int]
      by_cases hab : a = p.load
      · subst hab
        rw [if_pos rfl, if_pos (by simp [inS, h0])]
        have := cp (inS p.load)
        exact wrap_in (by omega) (by omega) (.inl rfl)
      · rw [if_neg hab, if_neg (by simp only [inS, Bool.and_eq_true, bne_iff_ne, beq_iff_eq]; rintro ⟨h1, _⟩; exact hab h1.symm)]
        simp
theorem leave_is {zm : Int → Option Int} {l : List PodD} {p : PodD} (hl : l.length ≤ 1000) (ho : ∀ q ∈ l, q.Ok) : leaveC zm (cntOf zm (p :: l)) p = cntOf zm l := by
  have cp : ∀ f : PodD → Bool, l.countP f ≤ 1000 := fun f => Nat.le_trans List.countP_le_length hl
  unfold leaveC
  by_cases h0 : p.node = 0
  · rw [if_pos h0]
    unfold cntOf sizeD
    congr 1
    · funext n
      by_cases hn : n = 0
      · simp [hn]
      · rw [if_neg hn, if_neg hn, reqsAt, if_neg (by omega)]
    · funext a b; rw [countP_cons_int, if_neg (by simp [atP, h0])]; simp
    · funext a b; rw [countP_cons_int, if_neg (by simp [inP, h0])]; simp
    · funext a; rw [countP_cons_int, if_neg (by simp [inS, h0])]; simp
  · rw [if_neg h0]
    have hpos := tot_pos (reqs_ok (node := p.node) ho)
    unfold countC cntOf sizeD
    dsimp only
    congr 1
    · funext n
      unfold upd1
      by_cases hn : n = p.node
      · subst hn
        rw [if_pos rfl, if_neg h0, if_neg h0, reqsAt, if_pos rfl, totV, less_is (le_add4 hpos), sub_add4]
      · rw [if_neg hn]
        dsimp only
        by_cases hn0 : n = 0
        · rw [if_pos hn0, if_pos hn0]
        · rw [if_neg hn0, if_neg hn0, reqsAt, if_neg (fun e => hn e.symm)]
    · funext a b
      unfold upd2
      dsimp only
      rw [countP_cons_int, countP_cons_int]
      by_cases hab : a = p.load ∧ b = p.node
      · obtain ⟨rfl, rfl⟩ := hab
        rw [if_pos ⟨rfl, rfl⟩, if_pos (by simp [atP, h0])]
        have := cp (atP p.load p.node)
        rw [wrap_in (by omega) (by omega) (.inr rfl)]; omega
      · rw [if_neg hab, if_neg (by simp only [atP, Bool.and_eq_true, bne_iff_ne, beq_iff_eq]; rintro ⟨_, h1, h2⟩; exact hab ⟨h1.symm, h2.symm⟩)]
        simp
    · funext a b
      unfold upd2
      dsimp only
      rw [countP_cons_int, countP_cons_int]
      by_cases hab : a = p.load ∧ b = zoneZ zm p.node
      · obtain ⟨rfl, rfl⟩ := hab
        rw [if_pos ⟨rfl, rfl⟩, if_pos (by simp [inP, h0])]
        have := cp (inP zm p.load (zoneZ zm p.node))
        rw [wrap_in (by omega) (by omega) (.inr rfl)]; omega
      · rw [if_neg hab, if_neg (by simp only [inP, Bool.and_eq_true, bne_iff_ne, beq_iff_eq]; rintro ⟨_, h1, h2⟩; exact hab ⟨h1.symm, h2.symm⟩)]
        simp
    · funext a
      unfold upd1
      dsimp only
      rw [countP_cons_int, countP_cons_int]
      by_cases hab : a = p.load
      · subst hab
        rw [if_pos rfl, if_pos (by simp [inS, h0])]
        have := cp (inS p.load)
        rw [wrap_in (by omega) (by omega) (.inr rfl)]; omega
      · rw [if_neg hab, if_neg (by simp only [inS, Bool.and_eq_true, bne_iff_ne, beq_iff_eq]; rintro ⟨h1, _⟩; exact hab h1.symm)]
        simp
theorem comes_is {zm : Int → Option Int} : ∀ (b r : List PodD), (b ++ r).length ≤ 1000 → (∀ p ∈ b, p.Ok) → (∀ n, n ≠ 0 → (totV (reqsAt n (b ++ r))).small = true) → comesC zm (cntOf zm r) b = cntOf zm (b ++ r)
  | [], r, _, _, _ => rfl
  | p :: b, r, hl, ho, hs => by
    have hp : (p :: b ++ r).Perm (b ++ p :: r) := by
      rw [List.cons_append]; exact List.perm_middle.symm
    have hl' : (b ++ p :: r).length ≤ 1000 := by rw [← hp.length_eq]; exact hl
    show comesC zm (comeC zm (cntOf zm r) p) b = _
    have hob : ∀ q ∈ b, q.Ok := fun q hq => ho q (List.mem_cons_of_mem _ hq)
    have hs' : ∀ n, n ≠ 0 → (totV (reqsAt n (b ++ p :: r))).small = true := fun n hn => by rw [← tot_perm hp]; exact hs n hn
    rw [come_is (by simp at hl'; omega) (fun h => tot_small hob (hs' _ h)), comes_is b (p :: r) hl' hob hs', cnt_perm hp]
theorem leaves_is {zm : Int → Option Int} : ∀ (a r : List PodD), (a ++ r).length ≤ 1000 → (∀ p ∈ a ++ r, p.Ok) → leavesC zm (cntOf zm (a ++ r)) a = cntOf zm r
  | [], r, _, _ => rfl
  | p :: a, r, hl, ho => by
    show leavesC zm (leaveC zm (cntOf zm (p :: (a ++ r))) p) a = _
    have ho' : ∀ q ∈ a ++ r, q.Ok := fun q hq => ho q (List.mem_cons_of_mem _ hq)
    rw [leave_is (by simp at hl ⊢; omega) ho', leaves_is a r (by simp at hl ⊢; omega) ho']

/-! A node's room, as it is asked ahead of counting. -/
def leftK (id : Int) (u : V4) (l : List PodD) : V4 := l.foldl (fun u p => if p.node = id then lessV u p.req else u) u
def cameK (id : Int) : V4 → List PodD → Option V4
  | u, [] => some u
  | u, p :: r => if p.node = id then (match addV u p.req with | none => none | some v => cameK id v r) else cameK id u r
def roomK (f : V4) (id : Int) (u : V4) (a b : List PodD) : Int := match cameK id (leftK id u a) b with
  | none => 8
  | some v => if v.le f = true then 0 else 9
theorem left_is (id : Int) : ∀ (a r : List PodD), (∀ p ∈ a ++ r, p.Ok) → leftK id (totV (reqsAt id (a ++ r))) a = totV (reqsAt id r)
  | [], r, _ => rfl
  | p :: a, r, ho => by
    have ho' : ∀ q ∈ a ++ r, q.Ok := fun q hq => ho q (List.mem_cons_of_mem _ hq)
    have hpos := tot_pos (reqs_ok (node := id) ho')
    show leftK id (if p.node = id then lessV (totV (reqsAt id (p :: (a ++ r)))) p.req else totV (reqsAt id (p :: (a ++ r)))) a = _
    rw [reqsAt]
    by_cases h : p.node = id
    · rw [if_pos h, if_pos h, totV, less_is (le_add4 hpos), sub_add4]
      exact left_is id a r ho'
    · rw [if_neg h, if_neg h]
      exact left_is id a r ho'
theorem came_is (id : Int) : ∀ (b r : List PodD), (∀ p ∈ b, p.Ok) → (totV (reqsAt id r)).small = true → cameK id (totV (reqsAt id r)) b = if (totV (reqsAt id (b ++ r))).small = true then some (totV (reqsAt id (b ++ r))) else none
  | [], r, _, hs => by
    show some _ = _
    rw [List.nil_append, if_pos hs]
  | p :: b, r, ho, hs => by
    have hob : ∀ q ∈ b, q.Ok := fun q hq => ho q (List.mem_cons_of_mem _ hq)
    have hp : (p :: b ++ r).Perm (b ++ p :: r) := by
      rw [List.cons_append]; exact List.perm_middle.symm
    rw [tot_perm hp, cameK]
    by_cases h : p.node = id
    · rw [if_pos h]
      have e : totV (reqsAt id (p :: r)) = (totV (reqsAt id r)).add p.req := by rw [reqsAt, if_pos h, totV, add_comm4]
      by_cases hs2 : (totV (reqsAt id (p :: r))).small = true
      · have ha : addV (totV (reqsAt id r)) p.req = some (totV (reqsAt id (p :: r))) := by
          unfold addV
          rw [← e, if_pos hs2]
        rw [ha]
        exact came_is id b (p :: r) hob hs2
      · have ha : addV (totV (reqsAt id r)) p.req = none := by
          unfold addV
          rw [← e, if_neg hs2]
        rw [ha, if_neg (fun h3 => hs2 (tot_small hob h3))]
    · rw [if_neg h]
      have e : totV (reqsAt id (p :: r)) = totV (reqsAt id r) := by rw [reqsAt, if_neg h]
      rw [← e]
      exact came_is id b (p :: r) hob (by rw [e]; exact hs)
/-- A node's Code at this use. -/
def nodeC (n : NodeD) (u : V4) : Int := if u.small = true then (if (leftD n u).isSome = true then 0 else 9) else 8
theorem free_is {n : NodeD} {u : V4} (h : n.held.le n.cap = true) : (leftD n u).isSome = u.le (lessV n.cap n.held) := by
  have e : subV n.cap n.held = some (n.cap.sub n.held) := by unfold subV; rw [if_pos h]
  rw [left_some e, less_is h]
  unfold subV
  split
  · rename_i h2; rw [h2]; rfl
  · rename_i h2
    cases h3 : u.le (n.cap.sub n.held) with
    | true => exact absurd h3 h2
    | false => rfl
theorem room_is {n : NodeD} {a b r : List PodD} (hh : n.held.le n.cap = true) (hoa : ∀ p ∈ a ++ r, p.Ok) (hob : ∀ p ∈ b, p.Ok) (hs : (totV (reqsAt n.id r)).small = true) :
    roomK (lessV n.cap n.held) n.id (totV (reqsAt n.id (a ++ r))) a b = nodeC n (totV (reqsAt n.id (b ++ r))) := by
  unfold roomK nodeC
  rw [left_is n.id a r hoa, came_is n.id b r hob hs, free_is hh]
  by_cases h : (totV (reqsAt n.id (b ++ r))).small = true
  · rw [if_pos h, if_pos h]
  · rw [if_neg h, if_neg h]
end Go.Proofs.YtpfjeoldgcepnaaGreatDoor

/- What a keeper counts, in maps. -/
namespace Go.Proofs.YtpfjeoldgcepnaaGreatDoor
set_option linter.unusedSimpArgs false
open Go.RowKit Go.ChangeMaps Go.MapKept Go.WideShapes
open Go.Maps (Keyed)
set_option linter.unusedVariables false

theorem intLaw : Keyed Tryz.prog 3 := Go.Maps.int_keyed Tryz.underlying3
theorem siteLaw : Go.WideMaps.KeyLaw Tryz.prog 168 := deep_law_laid Tryz.laidOut (m := 3) (by decide) (of_decide_eq_true (by kernel_rfl)) (by kernel_rfl) (by kernel_rfl)
theorem areaLaw : Go.WideMaps.KeyLaw Tryz.prog 170 := deep_law_laid Tryz.laidOut (m := 3) (by decide) (of_decide_eq_true (by kernel_rfl)) (by kernel_rfl) (by kernel_rfl)
theorem zeroInt (w : World) : (zeroValue 3).run Tryz.prog w = .ok (.int .i64 0) w := by kernel_rfl
theorem zeroVec (w : World) : (zeroValue 59).run Tryz.prog w = .ok (.agg #[.int .u64 0, .int .u64 0, .int .u64 0, .int .u64 0]) w := by kernel_rfl
theorem wf_of {a : Int} (h : I64 a) : (Lit.int .i64 a).wf = true := by
  unfold I64 at h
  exact WalkArith.wf_i64 (by omega)
theorem key_int {a : Int} (h : I64 a) : keyOf Tryz.prog 3 (.int .i64 a) = some (.int .i64 a) := Go.Maps.keyOf_int_mk Tryz.underlying3 (wf_of h)
theorem keyLits_int {P : Program} {t : TypeId} {q : IntKind} {n : Int} (d : Nat) (hu : P.underlying t = some (.int q)) (hw : (Lit.int q n).wf = true) : P.keyLits (d + 1) t [.int q n] = some [.int q n] := by
  simp [Program.keyLits, hu, hw]
theorem key_pair {P : Program} {n : Nat} {t i : TypeId} {f g : Field} {q : IntKind} {a b : Int} (hu : P.underlying t = some (.struct #[f, g])) (hk : P.keyType t = true) (hc : P.cellsOf t = 2) (hs : P.types.size = n + 1) (hf : f.name ≠ "_" ∧ f.type = i ∧ f.offset = 0) (hg : g.name ≠ "_" ∧ g.type = i ∧ g.offset = 1) (hci : P.cellsOf i = 1) (hi : P.underlying i = some (.int q))
    (ha : (Lit.int q a).wf = true) (hb : (Lit.int q b).wf = true) : ∃ kl, keyOf P t (.agg #[.int q a, .int q b]) = some kl := by
  obtain ⟨f1, f2, f3⟩ := hf
  obtain ⟨g1, g2, g3⟩ := hg
  unfold keyOf
  rw [hu]
  dsimp only
  have h1 : (Value.agg #[.int q a, .int q b]).formed P t = true := by simp [Value.formed, hu, hc]
  rw [hk, h1, hs]
  simp only [Bool.and_self, if_true, Value.cells]
  have h2 : P.keyLits (n + 1 + 1) t [.int q a, .int q b] = some [.int q a, .int q b] := by
    unfold Program.keyLits
    rw [hu]
    simp [hc, f1, g1, f2, f3, g2, g3, hci, keyLits_int _ hi ha, keyLits_int _ hi hb]
  rw [h2]
  exact ⟨_, rfl⟩
theorem key_site {a b : Int} (ha : I64 a) (hb : I64 b) : ∃ kl, keyOf Tryz.prog 168 (.agg #[.int .i64 a, .int .i64 b]) = some kl :=
  key_pair (n := Tryz.prog.types.size - 1) Tryz.underlying168 (by kernel_rfl) (by kernel_rfl) (by kernel_rfl) ⟨by decide, rfl, rfl⟩ ⟨by decide, rfl, rfl⟩ (by kernel_rfl) Tryz.underlying3 (wf_of ha) (wf_of hb)
theorem key_area {a b : Int} (ha : I64 a) (hb : I64 b) : ∃ kl, keyOf Tryz.prog 170 (.agg #[.int .i64 a, .int .i64 b]) = some kl :=
  key_pair (n := Tryz.prog.types.size - 1) Tryz.underlying170 (by kernel_rfl) (by kernel_rfl) (by kernel_rfl) ⟨by decide, rfl, rfl⟩ ⟨by decide, rfl, rfl⟩ (by kernel_rfl) Tryz.underlying3 (wf_of ha) (wf_of hb)

/-! What the maps answer. -/
def fOne (z : Value) (f : Int → Value) : Value → Value
  | .int .i64 i => f i
  | _ => z
def fTwo (f : Int → Int → Int) : Value → Value
  | .agg xs => match xs.toList with
    | [.int .i64 a, .int .i64 b] => .int .i64 (f a b)
    | _ => .int .i64 0
  | _ => .int .i64 0
theorem fOne_upd {α : Type} {z : Value} {g : α → Value} {f : Int → α} {i : Int} {v : α} : fOne z (fun j => g (upd1 f i v j)) (.int .i64 i) = g v ∧ ∀ x, x ≠ .int .i64 i → fOne z (fun j => g (upd1 f i v j)) x = fOne z (fun j => g (f j)) x := by
  refine ⟨by simp [fOne, upd1], fun x hx => ?_⟩
  unfold fOne
  split
  · rename_i k
    have : k ≠ i := fun e => hx (by rw [e])
    simp [upd1, this]
  · rfl
theorem fTwo_upd {f : Int → Int → Int} {i k v : Int} : fTwo (upd2 f i k v) (.agg #[.int .i64 i, .int .i64 k]) = .int .i64 v ∧ ∀ x, x ≠ .agg #[.int .i64 i, .int .i64 k] → fTwo (upd2 f i k v) x = fTwo f x := by
  refine ⟨by simp [fTwo, upd2], fun x hx => ?_⟩
  unfold fTwo
  split
  · rename_i xs
    split
    · rename_i a b e
      have : ¬ (a = i ∧ b = k) := fun ⟨h1, h2⟩ => hx (by
        have : xs = #[.int .i64 a, .int .i64 b] := by rw [← e]
        rw [this, h1, h2])
      simp [upd2, this]
    · rfl
  · rfl
/-- The blocks of the maps. -/
structure MapsB where
  z : Nat
  u : Nat
  a : Nat
  i : Nat
  s : Nat
abbrev MapsB.val (M : MapsB) : Value := .agg #[.map (some M.z), .map (some M.u), .map (some M.a), .map (some M.i), .map (some M.s)]
abbrev MapsB.cells (M : MapsB) : List Value := [.map (some M.z), .map (some M.u), .map (some M.a), .map (some M.i), .map (some M.s)]
abbrev MapsB.four (M : MapsB) : List Nat := [M.u, M.a, M.i, M.s]
structure MapsB.Apart (M : MapsB) : Prop where
  zu : M.z ≠ M.u
  za : M.z ≠ M.a
  zi : M.z ≠ M.i
  zs : M.z ≠ M.s
  ua : M.u ≠ M.a
  ui : M.u ≠ M.i
  us : M.u ≠ M.s
  ai : M.a ≠ M.i
  aS : M.a ≠ M.s
  iS : M.i ≠ M.s
/-- The map of the zones. -/
def ZoneIs (b : Nat) (zm : Int → Option Int) (w : World) : Prop := ∃ n D, n ≤ 1000 ∧ w.ownsMap (H := Unit) Tryz.prog 3 (plainElem Tryz.prog 3) b n D ∧ ∀ i, I64 i → (Maps.has D (.int .i64 i) = (zm i).isSome) ∧ ∀ zd, D.atKey (.int .i64 i) zd = match zm i with | some z => .lit (.int .i64 z) | none => zd
abbrev zV : Value := .agg #[.int .u64 0, .int .u64 0, .int .u64 0, .int .u64 0]
/-- What the four other maps answer. -/
structure CntIs (M : MapsB) (n : Nat) (C : CntD) (w : World) : Prop where
  use : Tells Tryz.prog 3 zV M.u n (fOne zV fun i => aggV (C.use i)) w
  ats : Tells Tryz.prog 168 (.int .i64 0) M.a n (fTwo C.ats) w
  inz : Tells Tryz.prog 170 (.int .i64 0) M.i n (fTwo C.inz) w
  size : Tells Tryz.prog 3 (.int .i64 0) M.s n (fOne (.int .i64 0) fun i => .int .i64 (C.size i)) w
set_option maxRecDepth 100000 in
theorem ZoneIs.kept {b : Nat} {zm : Int → Option Int} {w w' : World} {S : List Nat} (h : ZoneIs b zm w) (hg : Only S w w') (hb : b ∉ S) : ZoneIs b zm w' := by
  obtain ⟨n, D, h1, h2, h3⟩ := h
  have hlt := h2.lt
  obtain ⟨es, clock, hb1, r⟩ := h2
  exact ⟨n, D, h1, ⟨es, clock, (hg.block b hlt hb).trans hb1, r⟩, h3⟩
theorem ZoneIs.lt {b : Nat} {zm : Int → Option Int} {w : World} (h : ZoneIs b zm w) : b < w.heap.size := by
  obtain ⟨n, D, h1, h2, h3⟩ := h
  exact h2.lt
set_option maxRecDepth 100000 in
theorem ZoneIs.lookup {b : Nat} {zm : Int → Option Int} {w : World} (h : ZoneIs b zm w) {i : Int} (hi : I64 i) : (Instr.lookup 83 (.map (some b)) (.int .i64 i) false).run Tryz.prog w = .ok (.int .i64 (zoneZ zm i)) w := by
  obtain ⟨n, D, h1, h2, h3⟩ := h
  obtain ⟨c, hrun, hat, _⟩ := h2.lookup_int intLaw Tryz.underlying83 Tryz.underlying3 (zeroInt _) (key_int hi)
  rw [(h3 i hi).2] at hat
  rw [hrun]
  unfold zoneZ
  cases hz : zm i with
  | none => rw [hz] at hat; injection hat with hat; injection hat with _ hat; rw [← hat]; rfl
  | some z => rw [hz] at hat; injection hat with hat; injection hat with _ hat; rw [← hat]; rfl
set_option maxRecDepth 100000 in
theorem CntIs.kept {M : MapsB} {n : Nat} {C : CntD} {w w' : World} {S : List Nat} (h : CntIs M n C w) (hg : Only S w w') (hu : M.u ∉ S) (ha : M.a ∉ S) (hi : M.i ∉ S) (hs : M.s ∉ S) : CntIs M n C w' :=
  ⟨h.use.kept hg hu, h.ats.kept hg ha, h.inz.kept hg hi, h.size.kept hg hs⟩
theorem CntIs.mono {M : MapsB} {n n' : Nat} {C : CntD} {w : World} (h : CntIs M n C w) (hn : n ≤ n') : CntIs M n' C w := ⟨h.use.mono hn, h.ats.mono hn, h.inz.mono hn, h.size.mono hn⟩
theorem CntIs.below {M : MapsB} {n : Nat} {C : CntD} {w w' : World} (h : CntIs M n C w) (hb : Below w.heap.size w w') : CntIs M n C w' :=
  h.kept (S := []) (Only.of_below hb (fun i h1 h2 => by omega)) (by simp) (by simp) (by simp) (by simp)
theorem ZoneIs.below {b : Nat} {zm : Int → Option Int} {w w' : World} (h : ZoneIs b zm w) (hb : Below w.heap.size w w') : ZoneIs b zm w' :=
  h.kept (S := []) (Only.of_below hb (fun i h1 h2 => by omega)) (by simp)
theorem zoneZ_64 {zm : Int → Option Int} (h : ∀ i z, zm i = some z → I64 z) (i : Int) : I64 (zoneZ zm i) := by
  unfold zoneZ
  cases hz : zm i with
  | none => exact ⟨by decide, by decide⟩
  | some z => exact h i z hz
end Go.Proofs.YtpfjeoldgcepnaaGreatDoor

/- Contracts of the small functions: sums and differences of 64 bits, halves, one sum of the reference. -/
namespace Go.Proofs.YtpfjeoldgcepnaaGreatDoor
set_option linter.unusedSimpArgs false
open Go.RowKit
set_option linter.unusedVariables false

theorem below_drewN {B : Nat} {a w : World} (h : Below B a w) (n : Nat) : Below B a (w.drewN n) := ⟨h.os, h.tape, h.output, h.size, h.block⟩
theorem bcell {W w1 : World} (hb : Below W.heap.size W w1) : (∀ b o, b < W.heap.size → w1.cell? ⟨b, o, none⟩ = W.cell? ⟨b, o, none⟩) ∧ (∀ b o, b < W.heap.size → w1.frozen? ⟨b, o, none⟩ = W.frozen? ⟨b, o, none⟩) :=
  ⟨fun b o h => hb.cell (p := ⟨b, o, none⟩) h, fun b o h => hb.frozen (p := ⟨b, o, none⟩) h⟩
theorem quiet_left0 {P : Program} {f : FuncId} {args : Array Value} {w : World} {n : Nat} {v : Value}
    (h : Calls P f args (w.drewN n) fun e w' => e = .returned v ∧ w.drewN n = w') : Calls P f args (w.drewN n) fun e w'' => e = .returned v ∧ ∃ m, w'' = w.drewN m :=
  h.mono fun _ _ ⟨he, hm⟩ => ⟨he, n, hm.symm⟩
theorem quiet_left1 {P : Program} {f : FuncId} {args : Array Value} {w : World} {a n : Nat} {v : Value}
    (h : Calls P f args (w.drewN (a + n)) fun e w' => e = .returned v ∧ w.drewN (a + n) = w') :
    Calls P f args (w.drewN (a + n)) fun e w'' => e = .returned v ∧ ∃ m, w'' = w.drewN (a + m) :=
  h.mono fun _ _ ⟨he, hm⟩ => ⟨he, n, hm.symm⟩

theorem add64_ok (x y : Int) (hx : 0 ≤ x) (hy : 0 ≤ y) (h : x + y < 18446744073709551616) (w : World) :
    (callFunc 106 #[.int .u64 x, .int .u64 y, .int .u64 0]).run Tryz.prog w = .ok (.value (.tuple #[.int .u64 (x + y), .int .u64 0])) w := by
  rw [run_callFunc_extern Tryz.func106 (by kernel_rfl) (by kernel_rfl) (by kernel_rfl) (e := add64Entry) (by kernel_rfl),
    run_add64 (P := Tryz.prog) x y 0 hx hy (by omega) (by omega) w]
  rw [show (x + y + 0) % 18446744073709551616 = x + y by omega, show (x + y + 0) / 18446744073709551616 = 0 by omega]
  rfl
theorem add64_over (x y : Int) (hx : 0 ≤ x) (hy : 0 ≤ y) (hx1 : x < 18446744073709551616) (hy1 : y < 18446744073709551616) (h : 18446744073709551616 ≤ x + y) (w : World) :
    (callFunc 106 #[.int .u64 x, .int .u64 y, .int .u64 0]).run Tryz.prog w = .ok (.value (.tuple #[.int .u64 ((x + y) % 18446744073709551616), .int .u64 1])) w := by
  rw [run_callFunc_extern Tryz.func106 (by kernel_rfl) (by kernel_rfl) (by kernel_rfl) (e := add64Entry) (by kernel_rfl),
    run_add64 (P := Tryz.prog) x y 0 hx hy (by omega) (by omega) w]
  rw [show x + y + 0 = x + y by omega, show (x + y) / 18446744073709551616 = 1 by omega]
  rfl
theorem sub64_ok (x y : Int) (hx : 0 ≤ x) (hy : 0 ≤ y) (hx1 : x < 18446744073709551616) (h : y ≤ x) (w : World) :
    (callFunc 130 #[.int .u64 x, .int .u64 y, .int .u64 0]).run Tryz.prog w = .ok (.value (.tuple #[.int .u64 (x - y), .int .u64 0])) w := by
  obtain ⟨x, rfl⟩ := Int.eq_ofNat_of_zero_le hx
  obtain ⟨y, rfl⟩ := Int.eq_ofNat_of_zero_le hy
  rw [run_callFunc_extern Tryz.func130 (by kernel_rfl) (by kernel_rfl) (by kernel_rfl) (e := sub64Entry) (by kernel_rfl), show (sub64Entry #[.int .u64 x, .int .u64 y, .int .u64 0]).run Tryz.prog w = _ from run_sub64 x y 0 (by omega) w]
  rw [if_neg (by omega), show (((x + 18446744073709551616 - y - 0) % 18446744073709551616 : Nat) : Int) = x - y by omega]
  rfl
theorem sub64_over (x y : Int) (hx : 0 ≤ x) (hy : 0 ≤ y) (h : x < y) (w : World) :
    (callFunc 130 #[.int .u64 x, .int .u64 y, .int .u64 0]).run Tryz.prog w = .ok (.value (.tuple #[.int .u64 ((x + 18446744073709551616 - y).toNat % 18446744073709551616 : Nat), .int .u64 1])) w := by
  obtain ⟨x, rfl⟩ := Int.eq_ofNat_of_zero_le hx
  obtain ⟨y, rfl⟩ := Int.eq_ofNat_of_zero_le hy
  rw [run_callFunc_extern Tryz.func130 (by kernel_rfl) (by kernel_rfl) (by kernel_rfl) (e := sub64Entry) (by kernel_rfl), show (sub64Entry #[.int .u64 x, .int .u64 y, .int .u64 0]).run Tryz.prog w = _ from run_sub64 x y 0 (by omega) w]
  rw [if_pos (by omega), show ((x : Int) + 18446744073709551616 - y).toNat = x + 18446744073709551616 - y - 0 by omega]
  rfl

theorem half_up (x : Int) (h0 : 0 ≤ x) (h1 : x < 18446744073709551616) (w : World) :
    Calls Tryz.prog 152 #[.int .u64 x, .bool true] w fun e w' => e = .returned (.int .u64 (x / 4294967296)) ∧ w = w' := by
  go_enter Tryz.func152, Tryz.ntmps152
  go_wp2
  go_ret
  exact ⟨rfl, rfl⟩
theorem half_low (x : Int) (h0 : 0 ≤ x) (h1 : x < 18446744073709551616) (w : World) :
    Calls Tryz.prog 152 #[.int .u64 x, .bool false] w fun e w' => e = .returned (.int .u64 (x % 4294967296)) ∧ w = w' := by
  go_enter Tryz.func152, Tryz.ntmps152
  go_wp2
  go_ret
  exact ⟨rfl, rfl⟩
theorem one_num (x y : Int) : (x / 4294967296 + y / 4294967296 + (x % 4294967296 + y % 4294967296) / 4294967296) * 4294967296 + (x + y) % 4294967296 = x + y := by omega
theorem ret_ib {a b : Int} {t : Bool} (h : a = b) : Ending.returned (.tuple #[.int .u64 a, .bool t]) = .returned (.tuple #[.int .u64 b, .bool t]) := by rw [h]
set_option maxHeartbeats 400000 in
theorem one_ok (x y : Int) (hx : 0 ≤ x) (hy : 0 ≤ y) (h : x + y < 18446744073709551616) (w : World) :
    Calls Tryz.prog 136 #[.int .u64 x, .int .u64 y] w fun e w' => e = .returned (.tuple #[.int .u64 (x + y), .bool true]) ∧ w = w' := by
  have hg : x / 4294967296 + y / 4294967296 + (x % 4294967296 + y % 4294967296) / 4294967296 < 4294967296 := by omega
  go_enter Tryz.func136, Tryz.ntmps136
  go_wp2_with fail
  refine (half_low x hx (by omega) _).mono ?_; rintro e w' ⟨rfl, rfl⟩
  go_wp2_with fail
  refine (half_low y hy (by omega) _).mono ?_; rintro e w' ⟨rfl, rfl⟩
  go_wp2_with fail
  refine (half_up x hx (by omega) _).mono ?_; rintro e w' ⟨rfl, rfl⟩
  go_wp2_with fail
  refine (half_up y hy (by omega) _).mono ?_; rintro e w' ⟨rfl, rfl⟩
  go_wp2
  go_ret2
  exact ⟨ret_ib (one_num x y), rfl⟩
set_option maxHeartbeats 400000 in
theorem one_over (x y : Int) (hx : 0 ≤ x) (hy : 0 ≤ y) (hx1 : x < 18446744073709551616) (hy1 : y < 18446744073709551616) (h : 18446744073709551616 ≤ x + y) (w : World) :
    Calls Tryz.prog 136 #[.int .u64 x, .int .u64 y] w fun e w' => e = .returned (.tuple #[.int .u64 0, .bool false]) ∧ w = w' := by
  have hg : 4294967296 ≤ x / 4294967296 + y / 4294967296 + (x % 4294967296 + y % 4294967296) / 4294967296 := by omega
  go_enter Tryz.func136, Tryz.ntmps136
  go_wp2_with fail
  refine (half_low x hx (by omega) _).mono ?_; rintro e w' ⟨rfl, rfl⟩
  go_wp2_with fail
  refine (half_low y hy (by omega) _).mono ?_; rintro e w' ⟨rfl, rfl⟩
  go_wp2_with fail
  refine (half_up x hx (by omega) _).mono ?_; rintro e w' ⟨rfl, rfl⟩
  go_wp2_with fail
  refine (half_up y hy (by omega) _).mono ?_; rintro e w' ⟨rfl, rfl⟩
  go_wp2
  go_ret2
  exact ⟨rfl, rfl⟩
end Go.Proofs.YtpfjeoldgcepnaaGreatDoor

/- vec.Add: the four sums, or ErrOver. -/
namespace Go.Proofs.YtpfjeoldgcepnaaGreatDoor
set_option linter.unusedSimpArgs false
open Go.RowKit
set_option linter.unusedVariables false

set_option maxHeartbeats 1000000 in
theorem add_o0 (a0 a1 a2 a3 b0 b1 b2 b3 : Int) (p0 : 0 ≤ a0) (p1 : 0 ≤ a1) (p2 : 0 ≤ a2) (p3 : 0 ≤ a3) (q0 : 0 ≤ b0) (q1 : 0 ≤ b1) (q2 : 0 ≤ b2) (q3 : 0 ≤ b3) (pm0 : a0 < 18446744073709551616) (pm1 : a1 < 18446744073709551616) (pm2 : a2 < 18446744073709551616) (pm3 : a3 < 18446744073709551616) (qm0 : b0 < 18446744073709551616) (qm1 : b1 < 18446744073709551616) (qm2 : b2 < 18446744073709551616) (qm3 : b3 < 18446744073709551616)  (h0 : 18446744073709551616 ≤ a0 + b0) (w : World) :
    Calls Tryz.prog 62 #[.agg #[.int .u64 a0, .int .u64 a1, .int .u64 a2, .int .u64 a3], .agg #[.int .u64 b0, .int .u64 b1, .int .u64 b2, .int .u64 b3]] w fun e w' =>
      e = .returned (.tuple #[.agg #[.int .u64 0, .int .u64 0, .int .u64 0, .int .u64 0], .iface 98 (.int .i64 8)]) ∧ Below w.heap.size w w' := by
  have e0 := add64_over a0 b0 p0 q0 pm0 qm0 h0
  go_enter Tryz.func62, Tryz.ntmps62
  go_wp2
  refine wp_loop_rounds 5 ?_
  rw [rounds_succ]
  go_wp2
  go_quiet (fail)
  go_wp2
  refine bodyPost_ret (v := .tuple #[.agg #[.int .u64 0, .int .u64 0, .int .u64 0, .int .u64 0], .iface 98 (.int .i64 8)]) ?_ rfl ?_
  · simp [results, Tryz.results62, go_sem]
  · clear e0
    refine ⟨rfl, ?_⟩
    repeat (first | with_reducible exact Below.refl _ _ | with_reducible refine Below.setCell ?_ ?_ _ | with_reducible refine below_drewN ?_ _ | with_reducible refine Below.alloc ?_ ?_ _)
    all_goals first | (simp; done) | (simp; omega)
set_option maxHeartbeats 1000000 in
theorem add_o1 (a0 a1 a2 a3 b0 b1 b2 b3 : Int) (p0 : 0 ≤ a0) (p1 : 0 ≤ a1) (p2 : 0 ≤ a2) (p3 : 0 ≤ a3) (q0 : 0 ≤ b0) (q1 : 0 ≤ b1) (q2 : 0 ≤ b2) (q3 : 0 ≤ b3) (pm0 : a0 < 18446744073709551616) (pm1 : a1 < 18446744073709551616) (pm2 : a2 < 18446744073709551616) (pm3 : a3 < 18446744073709551616) (qm0 : b0 < 18446744073709551616) (qm1 : b1 < 18446744073709551616) (qm2 : b2 < 18446744073709551616) (qm3 : b3 < 18446744073709551616) (h0 : a0 + b0 < 18446744073709551616) (h1 : 18446744073709551616 ≤ a1 + b1) (w : World) :
    Calls Tryz.prog 62 #[.agg #[.int .u64 a0, .int .u64 a1, .int .u64 a2, .int .u64 a3], .agg #[.int .u64 b0, .int .u64 b1, .int .u64 b2, .int .u64 b3]] w fun e w' =>
      e = .returned (.tuple #[.agg #[.int .u64 0, .int .u64 0, .int .u64 0, .int .u64 0], .iface 98 (.int .i64 8)]) ∧ Below w.heap.size w w' := by
  have e0 := add64_ok a0 b0 p0 q0 h0
  have e1 := add64_over a1 b1 p1 q1 pm1 qm1 h1
  go_enter Tryz.func62, Tryz.ntmps62
  go_wp2
  refine wp_loop_rounds 5 ?_
  rw [rounds_succ]
  go_wp2
  go_quiet (fail)
  go_wp2
  rw [rounds_succ]
  go_wp2
  go_quiet (fail)
  go_wp2
  refine bodyPost_ret (v := .tuple #[.agg #[.int .u64 0, .int .u64 0, .int .u64 0, .int .u64 0], .iface 98 (.int .i64 8)]) ?_ rfl ?_
  · simp [results, Tryz.results62, go_sem]
  · clear e0 e1
    refine ⟨rfl, ?_⟩
    repeat (first | with_reducible exact Below.refl _ _ | with_reducible refine Below.setCell ?_ ?_ _ | with_reducible refine below_drewN ?_ _ | with_reducible refine Below.alloc ?_ ?_ _)
    all_goals first | (simp; done) | (simp; omega)
set_option maxHeartbeats 1000000 in
theorem add_o2 (a0 a1 a2 a3 b0 b1 b2 b3 : Int) (p0 : 0 ≤ a0) (p1 : 0 ≤ a1) (p2 : 0 ≤ a2) (p3 : 0 ≤ a3) (q0 : 0 ≤ b0) (q1 : 0 ≤ b1) (q2 : 0 ≤ b2) (q3 : 0 ≤ b3) (pm0 : a0 < 18446744073709551616) (pm1 : a1 < 18446744073709551616) (pm2 : a2 < 18446744073709551616) (pm3 : a3 < 18446744073709551616) (qm0 : b0 < 18446744073709551616) (qm1 : b1 < 18446744073709551616) (qm2 : b2 < 18446744073709551616) (qm3 : b3 < 18446744073709551616) (h0 : a0 + b0 < 18446744073709551616) (h1 : a1 + b1 < 18446744073709551616) (h2 : 18446744073709551616 ≤ a2 + b2) (w : World) :
    Calls Tryz.prog 62 #[.agg #[.int .u64 a0, .int .u64 a1, .int .u64 a2, .int .u64 a3], .agg #[.int .u64 b0, .int .u64 b1, .int .u64 b2, .int .u64 b3]] w fun e w' =>
      e = .returned (.tuple #[.agg #[.int .u64 0, .int .u64 0, .int .u64 0, .int .u64 0], .iface 98 (.int .i64 8)]) ∧ Below w.heap.size w w' := by
  have e0 := add64_ok a0 b0 p0 q0 h0
  have e1 := add64_ok a1 b1 p1 q1 h1
  have e2 := add64_over a2 b2 p2 q2 pm2 qm2 h2
  go_enter Tryz.func62, Tryz.ntmps62
  go_wp2
  refine wp_loop_rounds 5 ?_
  rw [rounds_succ]
  go_wp2
  go_quiet (fail)
  go_wp2
  rw [rounds_succ]
  go_wp2
  go_quiet (fail)
  go_wp2
  rw [rounds_succ]
  go_wp2
  go_quiet (fail)
  go_wp2
  refine bodyPost_ret (v := .tuple #[.agg #[.int .u64 0, .int .u64 0, .int .u64 0, .int .u64 0], .iface 98 (.int .i64 8)]) ?_ rfl ?_
  · simp [results, Tryz.results62, go_sem]
  · clear e0 e1 e2
    refine ⟨rfl, ?_⟩
    repeat (first | with_reducible exact Below.refl _ _ | with_reducible refine Below.setCell ?_ ?_ _ | with_reducible refine below_drewN ?_ _ | with_reducible refine Below.alloc ?_ ?_ _)
    all_goals first | (simp; done) | (simp; omega)
set_option maxHeartbeats 1000000 in
theorem add_o3 (a0 a1 a2 a3 b0 b1 b2 b3 : Int) (p0 : 0 ≤ a0) (p1 : 0 ≤ a1) (p2 : 0 ≤ a2) (p3 : 0 ≤ a3) (q0 : 0 ≤ b0) (q1 : 0 ≤ b1) (q2 : 0 ≤ b2) (q3 : 0 ≤ b3) (pm0 : a0 < 18446744073709551616) (pm1 : a1 < 18446744073709551616) (pm2 : a2 < 18446744073709551616) (pm3 : a3 < 18446744073709551616) (qm0 : b0 < 18446744073709551616) (qm1 : b1 < 18446744073709551616) (qm2 : b2 < 18446744073709551616) (qm3 : b3 < 18446744073709551616) (h0 : a0 + b0 < 18446744073709551616) (h1 : a1 + b1 < 18446744073709551616) (h2 : a2 + b2 < 18446744073709551616) (h3 : 18446744073709551616 ≤ a3 + b3) (w : World) :
    Calls Tryz.prog 62 #[.agg #[.int .u64 a0, .int .u64 a1, .int .u64 a2, .int .u64 a3], .agg #[.int .u64 b0, .int .u64 b1, .int .u64 b2, .int .u64 b3]] w fun e w' =>
      e = .returned (.tuple #[.agg #[.int .u64 0, .int .u64 0, .int .u64 0, .int .u64 0], .iface 98 (.int .i64 8)]) ∧ Below w.heap.size w w' := by
  have e0 := add64_ok a0 b0 p0 q0 h0
  have e1 := add64_ok a1 b1 p1 q1 h1
  have e2 := add64_ok a2 b2 p2 q2 h2
  have e3 := add64_over a3 b3 p3 q3 pm3 qm3 h3
  go_enter Tryz.func62, Tryz.ntmps62
  go_wp2
  refine wp_loop_rounds 5 ?_
  rw [rounds_succ]
  go_wp2
  go_quiet (fail)
  go_wp2
  rw [rounds_succ]
  go_wp2
  go_quiet (fail)
  go_wp2
  rw [rounds_succ]
  go_wp2
  go_quiet (fail)
  go_wp2
  rw [rounds_succ]
  go_wp2
  go_quiet (fail)
  go_wp2
  refine bodyPost_ret (v := .tuple #[.agg #[.int .u64 0, .int .u64 0, .int .u64 0, .int .u64 0], .iface 98 (.int .i64 8)]) ?_ rfl ?_
  · simp [results, Tryz.results62, go_sem]
  · clear e0 e1 e2 e3
    refine ⟨rfl, ?_⟩
    repeat (first | with_reducible exact Below.refl _ _ | with_reducible refine Below.setCell ?_ ?_ _ | with_reducible refine below_drewN ?_ _ | with_reducible refine Below.alloc ?_ ?_ _)
    all_goals first | (simp; done) | (simp; omega)
set_option maxHeartbeats 1000000 in
theorem add_ok (a0 a1 a2 a3 b0 b1 b2 b3 : Int) (p0 : 0 ≤ a0) (p1 : 0 ≤ a1) (p2 : 0 ≤ a2) (p3 : 0 ≤ a3) (q0 : 0 ≤ b0) (q1 : 0 ≤ b1) (q2 : 0 ≤ b2) (q3 : 0 ≤ b3) (pm0 : a0 < 18446744073709551616) (pm1 : a1 < 18446744073709551616) (pm2 : a2 < 18446744073709551616) (pm3 : a3 < 18446744073709551616) (qm0 : b0 < 18446744073709551616) (qm1 : b1 < 18446744073709551616) (qm2 : b2 < 18446744073709551616) (qm3 : b3 < 18446744073709551616) (h0 : a0 + b0 < 18446744073709551616) (h1 : a1 + b1 < 18446744073709551616) (h2 : a2 + b2 < 18446744073709551616) (h3 : a3 + b3 < 18446744073709551616) (w : World) :
    Calls Tryz.prog 62 #[.agg #[.int .u64 a0, .int .u64 a1, .int .u64 a2, .int .u64 a3], .agg #[.int .u64 b0, .int .u64 b1, .int .u64 b2, .int .u64 b3]] w fun e w' =>
      e = .returned (.tuple #[.agg #[.int .u64 (a0 + b0), .int .u64 (a1 + b1), .int .u64 (a2 + b2), .int .u64 (a3 + b3)], .nilIface]) ∧ Below w.heap.size w w' := by
  have e0 := add64_ok a0 b0 p0 q0 h0
  have e1 := add64_ok a1 b1 p1 q1 h1
  have e2 := add64_ok a2 b2 p2 q2 h2
  have e3 := add64_ok a3 b3 p3 q3 h3
  go_enter Tryz.func62, Tryz.ntmps62
  go_wp2
  refine wp_loop_rounds 5 ?_
  rw [rounds_succ]
  go_wp2
  go_quiet (fail)
  go_wp2
  rw [rounds_succ]
  go_wp2
  go_quiet (fail)
  go_wp2
  rw [rounds_succ]
  go_wp2
  go_quiet (fail)
  go_wp2
  rw [rounds_succ]
  go_wp2
  go_quiet (fail)
  go_wp2
  rw [rounds_succ]
  go_wp2
  refine bodyPost_ret (v := .tuple #[.agg #[.int .u64 (a0 + b0), .int .u64 (a1 + b1), .int .u64 (a2 + b2), .int .u64 (a3 + b3)], .nilIface]) ?_ rfl ?_
  · simp [results, Tryz.results62, go_sem]
  · clear e0 e1 e2 e3
    refine ⟨rfl, ?_⟩
    repeat (first | with_reducible exact Below.refl _ _ | with_reducible refine Below.setCell ?_ ?_ _ | with_reducible refine below_drewN ?_ _ | with_reducible refine Below.alloc ?_ ?_ _)
    all_goals first | (simp; done) | (simp; omega)
theorem add_over (a0 a1 a2 a3 b0 b1 b2 b3 : Int) (p0 : 0 ≤ a0) (p1 : 0 ≤ a1) (p2 : 0 ≤ a2) (p3 : 0 ≤ a3) (q0 : 0 ≤ b0) (q1 : 0 ≤ b1) (q2 : 0 ≤ b2) (q3 : 0 ≤ b3) (pm0 : a0 < 18446744073709551616) (pm1 : a1 < 18446744073709551616) (pm2 : a2 < 18446744073709551616) (pm3 : a3 < 18446744073709551616) (qm0 : b0 < 18446744073709551616) (qm1 : b1 < 18446744073709551616) (qm2 : b2 < 18446744073709551616) (qm3 : b3 < 18446744073709551616) (h : ¬ (a0 + b0 < 18446744073709551616 ∧ a1 + b1 < 18446744073709551616 ∧ a2 + b2 < 18446744073709551616 ∧ a3 + b3 < 18446744073709551616)) (w : World) :
    Calls Tryz.prog 62 #[.agg #[.int .u64 a0, .int .u64 a1, .int .u64 a2, .int .u64 a3], .agg #[.int .u64 b0, .int .u64 b1, .int .u64 b2, .int .u64 b3]] w fun e w' =>
      e = .returned (.tuple #[.agg #[.int .u64 0, .int .u64 0, .int .u64 0, .int .u64 0], .iface 98 (.int .i64 8)]) ∧ Below w.heap.size w w' := by
  by_cases h0 : a0 + b0 < 18446744073709551616
  rotate_left
  · exact add_o0 a0 a1 a2 a3 b0 b1 b2 b3 p0 p1 p2 p3 q0 q1 q2 q3 pm0 pm1 pm2 pm3 qm0 qm1 qm2 qm3  (by omega) w
  by_cases h1 : a1 + b1 < 18446744073709551616
  rotate_left
  · exact add_o1 a0 a1 a2 a3 b0 b1 b2 b3 p0 p1 p2 p3 q0 q1 q2 q3 pm0 pm1 pm2 pm3 qm0 qm1 qm2 qm3 h0 (by omega) w
  by_cases h2 : a2 + b2 < 18446744073709551616
  rotate_left
  · exact add_o2 a0 a1 a2 a3 b0 b1 b2 b3 p0 p1 p2 p3 q0 q1 q2 q3 pm0 pm1 pm2 pm3 qm0 qm1 qm2 qm3 h0 h1 (by omega) w
  by_cases h3 : a3 + b3 < 18446744073709551616
  rotate_left
  · exact add_o3 a0 a1 a2 a3 b0 b1 b2 b3 p0 p1 p2 p3 q0 q1 q2 q3 pm0 pm1 pm2 pm3 qm0 qm1 qm2 qm3 h0 h1 h2 (by omega) w
  exact absurd ⟨h0, h1, h2, h3⟩ h
end Go.Proofs.YtpfjeoldgcepnaaGreatDoor

namespace Go.Proofs.YtpfjeoldgcepnaaGreatDoor
set_option linter.unusedSimpArgs false
open Go.RowKit
set_option linter.unusedVariables false

set_option maxHeartbeats 1000000 in
theorem sub_o0 (a0 a1 a2 a3 b0 b1 b2 b3 : Int) (p0 : 0 ≤ a0) (p1 : 0 ≤ a1) (p2 : 0 ≤ a2) (p3 : 0 ≤ a3) (q0 : 0 ≤ b0) (q1 : 0 ≤ b1) (q2 : 0 ≤ b2) (q3 : 0 ≤ b3) (pm0 : a0 < 18446744073709551616) (pm1 : a1 < 18446744073709551616) (pm2 : a2 < 18446744073709551616) (pm3 : a3 < 18446744073709551616) (qm0 : b0 < 18446744073709551616) (qm1 : b1 < 18446744073709551616) (qm2 : b2 < 18446744073709551616) (qm3 : b3 < 18446744073709551616)  (h0 : a0 < b0) (w : World) :
    Calls Tryz.prog 105 #[.agg #[.int .u64 a0, .int .u64 a1, .int .u64 a2, .int .u64 a3], .agg #[.int .u64 b0, .int .u64 b1, .int .u64 b2, .int .u64 b3]] w fun e w' =>
      e = .returned (.tuple #[.agg #[.int .u64 0, .int .u64 0, .int .u64 0, .int .u64 0], .iface 98 (.int .i64 8)]) ∧ Below w.heap.size w w' := by
  have e0 := sub64_over a0 b0 p0 q0 h0
  go_enter Tryz.func105, Tryz.ntmps105
  go_wp2
  refine wp_loop_rounds 5 ?_
  rw [rounds_succ]
  go_wp2
  go_quiet (fail)
  go_wp2
  refine bodyPost_ret (v := .tuple #[.agg #[.int .u64 0, .int .u64 0, .int .u64 0, .int .u64 0], .iface 98 (.int .i64 8)]) ?_ rfl ?_
  · simp [results, Tryz.results105, go_sem]
  · clear e0
    refine ⟨rfl, ?_⟩
    repeat (first | with_reducible exact Below.refl _ _ | with_reducible refine Below.setCell ?_ ?_ _ | with_reducible refine below_drewN ?_ _ | with_reducible refine Below.alloc ?_ ?_ _)
    all_goals first | (simp; done) | (simp; omega)
set_option maxHeartbeats 1000000 in
theorem sub_o1 (a0 a1 a2 a3 b0 b1 b2 b3 : Int) (p0 : 0 ≤ a0) (p1 : 0 ≤ a1) (p2 : 0 ≤ a2) (p3 : 0 ≤ a3) (q0 : 0 ≤ b0) (q1 : 0 ≤ b1) (q2 : 0 ≤ b2) (q3 : 0 ≤ b3) (pm0 : a0 < 18446744073709551616) (pm1 : a1 < 18446744073709551616) (pm2 : a2 < 18446744073709551616) (pm3 : a3 < 18446744073709551616) (qm0 : b0 < 18446744073709551616) (qm1 : b1 < 18446744073709551616) (qm2 : b2 < 18446744073709551616) (qm3 : b3 < 18446744073709551616) (h0 : b0 ≤ a0) (h1 : a1 < b1) (w : World) :
    Calls Tryz.prog 105 #[.agg #[.int .u64 a0, .int .u64 a1, .int .u64 a2, .int .u64 a3], .agg #[.int .u64 b0, .int .u64 b1, .int .u64 b2, .int .u64 b3]] w fun e w' =>
      e = .returned (.tuple #[.agg #[.int .u64 0, .int .u64 0, .int .u64 0, .int .u64 0], .iface 98 (.int .i64 8)]) ∧ Below w.heap.size w w' := by
  have e0 := sub64_ok a0 b0 p0 q0 pm0 h0
  have e1 := sub64_over a1 b1 p1 q1 h1
  go_enter Tryz.func105, Tryz.ntmps105
  go_wp2
  refine wp_loop_rounds 5 ?_
  rw [rounds_succ]
  go_wp2
  go_quiet (fail)
  go_wp2
  rw [rounds_succ]
  go_wp2
  go_quiet (fail)
  go_wp2
  refine bodyPost_ret (v := .tuple #[.agg #[.int .u64 0, .int .u64 0, .int .u64 0, .int .u64 0], .iface 98 (.int .i64 8)]) ?_ rfl ?_
  · simp [results, Tryz.results105, go_sem]
  · clear e0 e1
    refine ⟨rfl, ?_⟩
    repeat (first | with_reducible exact Below.refl _ _ | with_reducible refine Below.setCell ?_ ?_ _ | with_reducible refine below_drewN ?_ _ | with_reducible refine Below.alloc ?_ ?_ _)
    all_goals first | (simp; done) | (simp; omega)
set_option maxHeartbeats 1000000 in
theorem sub_o2 (a0 a1 a2 a3 b0 b1 b2 b3 : Int) (p0 : 0 ≤ a0) (p1 : 0 ≤ a1) (p2 : 0 ≤ a2) (p3 : 0 ≤ a3) (q0 : 0 ≤ b0) (q1 : 0 ≤ b1) (q2 : 0 ≤ b2) (q3 : 0 ≤ b3) (pm0 : a0 < 18446744073709551616) (pm1 : a1 < 18446744073709551616) (pm2 : a2 < 18446744073709551616) (pm3 : a3 < 18446744073709551616) (qm0 : b0 < 18446744073709551616) (qm1 : b1 < 18446744073709551616) (qm2 : b2 < 18446744073709551616) (qm3 : b3 < 18446744073709551616) (h0 : b0 ≤ a0) (h1 : b1 ≤ a1) (h2 : a2 < b2) (w : World) :
    Calls Tryz.prog 105 #[.agg #[.int .u64 a0, .int .u64 a1, .int .u64 a2, .int .u64 a3], .agg #[.int .u64 b0, .int .u64 b1, .int .u64 b2, .int .u64 b3]] w fun e w' =>
      e = .returned (.tuple #[.agg #[.int .u64 0, .int .u64 0, .int .u64 0, .int .u64 0], .iface 98 (.int .i64 8)]) ∧ Below w.heap.size w w' := by
  have e0 := sub64_ok a0 b0 p0 q0 pm0 h0
  have e1 := sub64_ok a1 b1 p1 q1 pm1 h1
  have e2 := sub64_over a2 b2 p2 q2 h2
  go_enter Tryz.func105, Tryz.ntmps105
  go_wp2
  refine wp_loop_rounds 5 ?_
  rw [rounds_succ]
  go_wp2
  go_quiet (fail)
  go_wp2
  rw [rounds_succ]
  go_wp2
  go_quiet (fail)
  go_wp2
  rw [rounds_succ]
  go_wp2
  go_quiet (fail)
  go_wp2
  refine bodyPost_ret (v := .tuple #[.agg #[.int .u64 0, .int .u64 0, .int .u64 0, .int .u64 0], .iface 98 (.int .i64 8)]) ?_ rfl ?_
  · simp [results, Tryz.results105, go_sem]
  · clear e0 e1 e2
    refine ⟨rfl, ?_⟩
    repeat (first | with_reducible exact Below.refl _ _ | with_reducible refine Below.setCell ?_ ?_ _ | with_reducible refine below_drewN ?_ _ | with_reducible refine Below.alloc ?_ ?_ _)
    all_goals first | (simp; done) | (simp; omega)
set_option maxHeartbeats 1000000 in
theorem sub_o3 (a0 a1 a2 a3 b0 b1 b2 b3 : Int) (p0 : 0 ≤ a0) (p1 : 0 ≤ a1) (p2 : 0 ≤ a2) (p3 : 0 ≤ a3) (q0 : 0 ≤ b0) (q1 : 0 ≤ b1) (q2 : 0 ≤ b2) (q3 : 0 ≤ b3) (pm0 : a0 < 18446744073709551616) (pm1 : a1 < 18446744073709551616) (pm2 : a2 < 18446744073709551616) (pm3 : a3 < 18446744073709551616) (qm0 : b0 < 18446744073709551616) (qm1 : b1 < 18446744073709551616) (qm2 : b2 < 18446744073709551616) (qm3 : b3 < 18446744073709551616) (h0 : b0 ≤ a0) (h1 : b1 ≤ a1) (h2 : b2 ≤ a2) (h3 : a3 < b3) (w : World) :
    Calls Tryz.prog 105 #[.agg #[.int .u64 a0, .int .u64 a1, .int .u64 a2, .int .u64 a3], .agg #[.int .u64 b0, .int .u64 b1, .int .u64 b2, .int .u64 b3]] w fun e w' =>
      e = .returned (.tuple #[.agg #[.int .u64 0, .int .u64 0, .int .u64 0, .int .u64 0], .iface 98 (.int .i64 8)]) ∧ Below w.heap.size w w' := by
  have e0 := sub64_ok a0 b0 p0 q0 pm0 h0
  have e1 := sub64_ok a1 b1 p1 q1 pm1 h1
  have e2 := sub64_ok a2 b2 p2 q2 pm2 h2
  have e3 := sub64_over a3 b3 p3 q3 h3
  go_enter Tryz.func105, Tryz.ntmps105
  go_wp2
  refine wp_loop_rounds 5 ?_
  rw [rounds_succ]
  go_wp2
  go_quiet (fail)
  go_wp2
  rw [rounds_succ]
  go_wp2
  go_quiet (fail)
  go_wp2
  rw [rounds_succ]
  go_wp2
  go_quiet (fail)
  go_wp2
  rw [rounds_succ]
  go_wp2
  go_quiet (fail)
  go_wp2
  refine bodyPost_ret (v := .tuple #[.agg #[.int .u64 0, .int .u64 0, .int .u64 0, .int .u64 0], .iface 98 (.int .i64 8)]) ?_ rfl ?_
  · simp [results, Tryz.results105, go_sem]
  · clear e0 e1 e2 e3
    refine ⟨rfl, ?_⟩
    repeat (first | with_reducible exact Below.refl _ _ | with_reducible refine Below.setCell ?_ ?_ _ | with_reducible refine below_drewN ?_ _ | with_reducible refine Below.alloc ?_ ?_ _)
    all_goals first | (simp; done) | (simp; omega)
set_option maxHeartbeats 1000000 in
theorem sub_ok (a0 a1 a2 a3 b0 b1 b2 b3 : Int) (p0 : 0 ≤ a0) (p1 : 0 ≤ a1) (p2 : 0 ≤ a2) (p3 : 0 ≤ a3) (q0 : 0 ≤ b0) (q1 : 0 ≤ b1) (q2 : 0 ≤ b2) (q3 : 0 ≤ b3) (pm0 : a0 < 18446744073709551616) (pm1 : a1 < 18446744073709551616) (pm2 : a2 < 18446744073709551616) (pm3 : a3 < 18446744073709551616) (qm0 : b0 < 18446744073709551616) (qm1 : b1 < 18446744073709551616) (qm2 : b2 < 18446744073709551616) (qm3 : b3 < 18446744073709551616) (h0 : b0 ≤ a0) (h1 : b1 ≤ a1) (h2 : b2 ≤ a2) (h3 : b3 ≤ a3) (w : World) :
    Calls Tryz.prog 105 #[.agg #[.int .u64 a0, .int .u64 a1, .int .u64 a2, .int .u64 a3], .agg #[.int .u64 b0, .int .u64 b1, .int .u64 b2, .int .u64 b3]] w fun e w' =>
      e = .returned (.tuple #[.agg #[.int .u64 (a0 - b0), .int .u64 (a1 - b1), .int .u64 (a2 - b2), .int .u64 (a3 - b3)], .nilIface]) ∧ Below w.heap.size w w' := by
  have e0 := sub64_ok a0 b0 p0 q0 pm0 h0
  have e1 := sub64_ok a1 b1 p1 q1 pm1 h1
  have e2 := sub64_ok a2 b2 p2 q2 pm2 h2
  have e3 := sub64_ok a3 b3 p3 q3 pm3 h3
  go_enter Tryz.func105, Tryz.ntmps105
  go_wp2
  refine wp_loop_rounds 5 ?_
  rw [rounds_succ]
  go_wp2
  go_quiet (fail)
  go_wp2
  rw [rounds_succ]
  go_wp2
  go_quiet (fail)
  go_wp2
  rw [rounds_succ]
  go_wp2
  go_quiet (fail)
  go_wp2
  rw [rounds_succ]
  go_wp2
  go_quiet (fail)
  go_wp2
  rw [rounds_succ]
  go_wp2
  refine bodyPost_ret (v := .tuple #[.agg #[.int .u64 (a0 - b0), .int .u64 (a1 - b1), .int .u64 (a2 - b2), .int .u64 (a3 - b3)], .nilIface]) ?_ rfl ?_
  · simp [results, Tryz.results105, go_sem]
  · clear e0 e1 e2 e3
    refine ⟨rfl, ?_⟩
    repeat (first | with_reducible exact Below.refl _ _ | with_reducible refine Below.setCell ?_ ?_ _ | with_reducible refine below_drewN ?_ _ | with_reducible refine Below.alloc ?_ ?_ _)
    all_goals first | (simp; done) | (simp; omega)
theorem sub_over (a0 a1 a2 a3 b0 b1 b2 b3 : Int) (p0 : 0 ≤ a0) (p1 : 0 ≤ a1) (p2 : 0 ≤ a2) (p3 : 0 ≤ a3) (q0 : 0 ≤ b0) (q1 : 0 ≤ b1) (q2 : 0 ≤ b2) (q3 : 0 ≤ b3) (pm0 : a0 < 18446744073709551616) (pm1 : a1 < 18446744073709551616) (pm2 : a2 < 18446744073709551616) (pm3 : a3 < 18446744073709551616) (qm0 : b0 < 18446744073709551616) (qm1 : b1 < 18446744073709551616) (qm2 : b2 < 18446744073709551616) (qm3 : b3 < 18446744073709551616) (h : ¬ (b0 ≤ a0 ∧ b1 ≤ a1 ∧ b2 ≤ a2 ∧ b3 ≤ a3)) (w : World) :
    Calls Tryz.prog 105 #[.agg #[.int .u64 a0, .int .u64 a1, .int .u64 a2, .int .u64 a3], .agg #[.int .u64 b0, .int .u64 b1, .int .u64 b2, .int .u64 b3]] w fun e w' =>
      e = .returned (.tuple #[.agg #[.int .u64 0, .int .u64 0, .int .u64 0, .int .u64 0], .iface 98 (.int .i64 8)]) ∧ Below w.heap.size w w' := by
  by_cases h0 : b0 ≤ a0
  rotate_left
  · exact sub_o0 a0 a1 a2 a3 b0 b1 b2 b3 p0 p1 p2 p3 q0 q1 q2 q3 pm0 pm1 pm2 pm3 qm0 qm1 qm2 qm3  (by omega) w
  by_cases h1 : b1 ≤ a1
  rotate_left
  · exact sub_o1 a0 a1 a2 a3 b0 b1 b2 b3 p0 p1 p2 p3 q0 q1 q2 q3 pm0 pm1 pm2 pm3 qm0 qm1 qm2 qm3 h0 (by omega) w
  by_cases h2 : b2 ≤ a2
  rotate_left
  · exact sub_o2 a0 a1 a2 a3 b0 b1 b2 b3 p0 p1 p2 p3 q0 q1 q2 q3 pm0 pm1 pm2 pm3 qm0 qm1 qm2 qm3 h0 h1 (by omega) w
  by_cases h3 : b3 ≤ a3
  rotate_left
  · exact sub_o3 a0 a1 a2 a3 b0 b1 b2 b3 p0 p1 p2 p3 q0 q1 q2 q3 pm0 pm1 pm2 pm3 qm0 qm1 qm2 qm3 h0 h1 h2 (by omega) w
  exact absurd ⟨h0, h1, h2, h3⟩ h
end Go.Proofs.YtpfjeoldgcepnaaGreatDoor
