/- Joined texts, part 6: FO FP GA GC GB GDN GEN GDL GEL GDP GEP GDW GEW. -/
import Derived.Test.YtjpaeaedfgiomaaDoorZ05
import Derived.Test.YtjpaeaedfgiomaaDoorZ01
import Derived.Test.YtjpaeaedfgiomaaDoorZ04
import Derived.Lib.AppendZerosOnto
import Derived.Lib.Walk

/- Plain mathematics of layer 4: specs and moves as numbers, written and read; no program stands in it. -/
namespace Go.Proofs.YtjpaeaedfgiomaaDoor
set_option linter.unusedSimpArgs false

def inId (n : Int) : Bool := decide (0 ≤ n ∧ n ≤ 2147483647)
theorem inId_iff {n : Int} : inId n = true ↔ 0 ≤ n ∧ n ≤ 2147483647 := by simp [inId]
/-- May a spec be written? May moves? -/
def specOk (x : SpecD) : Bool := decide (x.wants.length ≤ 12) && (inId x.preempts && (inId x.shifts && x.wants.all fun y => inId y.pod))
def moveOk (m : MoveD) : Bool := inId m.kind && (inId m.pod && (inId m.node && inId m.over))
def movesOk (m : List MoveD) : Bool := decide (m.length ≤ 40) && m.all moveOk

abbrev noSpec : SpecD := ⟨[], 0, 0⟩
def rdSpec (l : List Int) : SpecD × Int × Int :=
  if l.length < 3 then (noSpec, 2, -1)
  else if 12 < l.getD 0 0 then (noSpec, 3, -1)
  else if l.length ≠ 3 + 6 * (l.getD 0 0).toNat then (noSpec, 2, -1)
  else if (smallN (l.getD 1 0) && (smallN (l.getD 2 0) && fine wantK (l.getD 0 0).toNat (l.drop 3))) = false then (noSpec, 2, -1)
  else (⟨parse wantK (l.getD 0 0).toNat (l.drop 3), l.getD 1 0, l.getD 2 0⟩, 0, -1)
def rdMoves (l : List Int) : List MoveD × Int × Int :=
  if l.length < 1 then ([], 2, -1)
  else if 40 < l.getD 0 0 then ([], 3, -1)
  else if l.length ≠ 1 + 4 * (l.getD 0 0).toNat then ([], 2, -1)
  else if fine moveK (l.getD 0 0).toNat (l.drop 1) = false then ([], 2, -1)
  else (parse moveK (l.getD 0 0).toNat (l.drop 1), 0, -1)
theorem rd_spec_back {x : SpecD} (h : specOk x = true) : rdSpec (specNums x) = (x, 0, -1) := by
  simp only [specOk, Bool.and_eq_true, decide_eq_true_eq, inId_iff, List.all_eq_true] at h
  obtain ⟨h1, h2, h3, h4⟩ := h
  have g1 : (x.wants.flatMap wantK.nums).length = x.wants.length * 6 := flat_length wantK _
  have hl : (specNums x).length = 3 + 6 * x.wants.length := by
    simp only [specNums, List.length_append, g1, List.length_cons, List.length_nil]; omega
  have hf : fine wantK x.wants.length ((specNums x).drop 3) = true := by
    have := fine_flat wantK x.wants [] fun y hy => by
      have := h4 y hy
      have ht : bitN (truthN y.stay) = true := by cases y.stay <;> rfl
      simp [wantK, smallN, ht]; omega
    rw [List.append_nil] at this
    exact this
  have hb := spec_back x
  have e0 : (specNums x).getD 0 0 = (x.wants.length : Int) := rfl
  have e1 : (specNums x).getD 1 0 = x.preempts := rfl
  have e2 : (specNums x).getD 2 0 = x.shifts := rfl
  unfold rdSpec
  rw [e0, e1, e2]
  simp only [Int.toNat_natCast]
  rw [hb, hf, small_of h2.2, small_of h3.2, if_neg (by omega), if_neg (by omega), if_neg (by omega), if_neg (by decide)]
theorem rd_spec_once {l : List Int} (hp : ∀ x ∈ l, 0 ≤ x) {x : SpecD} (h : rdSpec l = (x, 0, -1)) : specNums x = l ∧ specOk x = true := by
  unfold rdSpec at h
  split at h
  · simp at h
  · rename_i h1
    split at h
    · simp at h
    · rename_i h2
      split at h
      · simp at h
      · rename_i h3
        split at h
        · simp at h
        · rename_i h4
          have hs : (⟨parse wantK (l.getD 0 0).toNat (l.drop 3), l.getD 1 0, l.getD 2 0⟩ : SpecD) = x := congrArg (fun q => q.1) h
          match l, h1, hp, h2, h3, h4, hs with
          | a :: b :: c :: r, _, hp, h2, h3, h4, hs =>
            have pa := hp a (by simp)
            have pb := hp b (by simp)
            have pc := hp c (by simp)
            simp only [List.getD_cons_zero, List.getD_cons_succ, List.drop_succ_cons, List.drop_zero, List.length_cons, ne_eq, Decidable.not_not, Bool.not_eq_false, Bool.and_eq_true] at h2 h3 h4 hs
            obtain ⟨s1, s2, s3⟩ := h4
            rw [← hs]
            refine ⟨?_, ?_⟩
            · rw [spec_once (by omega) s3, Int.toNat_of_nonneg pa]; rfl
            · have q1 : b ≤ 2147483647 := by simpa [smallN] using s1
              have q2 : c ≤ 2147483647 := by simpa [smallN] using s2
              simp only [specOk, Bool.and_eq_true, decide_eq_true_eq, inId_iff, List.all_eq_true, parse_length]
              refine ⟨by omega, ⟨pb, q1⟩, ⟨pc, q2⟩, fun y hy => ?_⟩
              obtain ⟨i, hi, rfl⟩ := List.mem_iff_getElem.1 hy
              have hi' : i < a.toNat := by rw [parse_length] at hi; exact hi
              have hfi := (fine_iff wantK _ _).1 s3 i hi'
              rw [parse_get wantK _ _ i hi']
              have s6 : wantK.size = 6 := rfl
              have hlen : ((r.drop (i * wantK.size)).take wantK.size).length = 6 := by rw [s6]; simp only [List.length_take, List.length_drop]; omega
              have hall : ∀ z ∈ (r.drop (i * wantK.size)).take wantK.size, 0 ≤ z := fun z hz => hp z (by
                have := List.mem_of_mem_drop (List.mem_of_mem_take hz)
                simp [this])
              obtain ⟨z0, z1, z2, z3, z4, z5, ez⟩ := take_6 hlen
              rw [ez] at hfi hall ⊢
              have k0 := hall z0 (by simp)
              simp [wantK, smallN] at hfi ⊢
              omega
          | [], h1, _, _, _, _, _ => simp at h1
          | [_], h1, _, _, _, _, _ => simp at h1
          | [_, _], h1, _, _, _, _, _ => simp at h1
theorem rd_move_back {m : List MoveD} (h : movesOk m = true) : rdMoves (moveNums m) = (m, 0, -1) := by
  simp only [movesOk, moveOk, Bool.and_eq_true, decide_eq_true_eq, inId_iff, List.all_eq_true] at h
  obtain ⟨h1, h4⟩ := h
  have g1 : (m.flatMap moveK.nums).length = m.length * 4 := flat_length moveK _
  have hl : (moveNums m).length = 1 + 4 * m.length := by simp only [moveNums, List.length_cons, g1]; omega
  have hf : fine moveK m.length ((moveNums m).drop 1) = true := by
    have := fine_flat moveK m [] fun y hy => by
      have := h4 y hy
      simp [moveK, smallN]; omega
    rw [List.append_nil] at this
    exact this
  have hb := move_back m
  have e0 : (moveNums m).getD 0 0 = (m.length : Int) := rfl
  unfold rdMoves
  rw [e0]
  simp only [Int.toNat_natCast]
  rw [hb, hf, if_neg (by omega), if_neg (by omega), if_neg (by omega), if_neg (by decide)]
theorem rd_move_once {l : List Int} (hp : ∀ x ∈ l, 0 ≤ x) {m : List MoveD} (h : rdMoves l = (m, 0, -1)) : moveNums m = l ∧ movesOk m = true := by
  unfold rdMoves at h
  split at h
  · simp at h
  · rename_i h1
    split at h
    · simp at h
    · rename_i h2
      split at h
      · simp at h
      · rename_i h3
        split at h
        · simp at h
        · rename_i h4
          have hs : parse moveK (l.getD 0 0).toNat (l.drop 1) = m := congrArg (fun q => q.1) h
          match l, h1, hp, h2, h3, h4, hs with
          | a :: r, _, hp, h2, h3, h4, hs =>
            have pa := hp a (by simp)
            simp only [List.getD_cons_zero, List.drop_succ_cons, List.drop_zero, List.length_cons, ne_eq, Decidable.not_not, Bool.not_eq_false] at h2 h3 h4 hs
            rw [← hs]
            refine ⟨?_, ?_⟩
            · rw [move_once (by omega) h4, Int.toNat_of_nonneg pa]
            · simp only [movesOk, moveOk, Bool.and_eq_true, decide_eq_true_eq, inId_iff, List.all_eq_true, parse_length]
              refine ⟨by omega, fun y hy => ?_⟩
              obtain ⟨i, hi, rfl⟩ := List.mem_iff_getElem.1 hy
              have hi' : i < a.toNat := by rw [parse_length] at hi; exact hi
              have hfi := (fine_iff moveK _ _).1 h4 i hi'
              rw [parse_get moveK _ _ i hi']
              have s4 : moveK.size = 4 := rfl
              have hlen : ((r.drop (i * moveK.size)).take moveK.size).length = 4 := by rw [s4]; simp only [List.length_take, List.length_drop]; omega
              have hall : ∀ z ∈ (r.drop (i * moveK.size)).take moveK.size, 0 ≤ z := fun z hz => hp z (by
                have := List.mem_of_mem_drop (List.mem_of_mem_take hz)
                simp [this])
              obtain ⟨z0, z1, z2, z3, ez⟩ := take_4 hlen
              rw [ez] at hfi hall ⊢
              have k0 := hall z0 (by simp)
              have k1 := hall z1 (by simp)
              have k2 := hall z2 (by simp)
              have k3 := hall z3 (by simp)
              simp [moveK, smallN] at hfi ⊢
              omega
          | [], h1, _, _, _, _, _ => simp at h1
end Go.Proofs.YtjpaeaedfgiomaaDoor

/- Plain mathematics of layer 4: a reader that hands out numbers one after the other, and what it reads; no program stands in it. -/
namespace Go.Proofs.YtjpaeaedfgiomaaDoor
set_option linter.unusedSimpArgs false

/-- What a reader has left, and whether something was amiss. -/
abbrev St := List Int × Bool
def rdNext (s : St) : Int × St := (s.1.headD 0, s.1.tail, s.2 || s.1.isEmpty)
def rdNum (s : St) : Int × St := (if smallN (s.1.headD 0) then s.1.headD 0 else 0, s.1.tail, s.2 || s.1.isEmpty || !smallN (s.1.headD 0))
def rdTruth (s : St) : Bool × St := (s.1.headD 0 == 1, s.1.tail, s.2 || s.1.isEmpty || !bitN (s.1.headD 0))
def rdVec (s : St) : V4 × St := (⟨s.1.getD 0 0, s.1.getD 1 0, s.1.getD 2 0, s.1.getD 3 0⟩, s.1.drop 4, s.2 || decide (s.1.length < 4))
def rdNode (s : St) : NodeD × St :=
  let a := rdNum s
  let b := rdNum a.2
  let c := rdVec b.2
  let d := rdVec c.2
  (⟨a.1, b.1, c.1, d.1⟩, d.2)
def rdLoad (s : St) : LoadD × St :=
  let a := rdNum s
  let b := rdTruth a.2
  let c := rdNum b.2
  let d := rdNum c.2
  let e := rdNum d.2
  (⟨a.1, b.1, c.1, d.1, e.1⟩, e.2)
def rdPod (s : St) : PodD × St :=
  let a := rdNum s
  let b := rdNum a.2
  let c := rdNum b.2
  let d := rdVec c.2
  let e := rdNum d.2
  (⟨a.1, b.1, c.1, d.1, e.1⟩, e.2)
def rdWant (s : St) : WantD × St :=
  let a := rdNum s
  let b := rdVec a.2
  let c := rdTruth b.2
  (⟨a.1, b.1, c.1⟩, c.2)
def rdMove (s : St) : MoveD × St :=
  let a := rdNum s
  let b := rdNum a.2
  let c := rdNum b.2
  let d := rdNum c.2
  (⟨a.1, b.1, c.1, d.1⟩, d.2)
def rdList {α : Type} (rd : St → α × St) : Nat → St → List α × St
  | 0, s => ([], s)
  | n + 1, s => ((rd s).1 :: (rdList rd n (rd s).2).1, (rdList rd n (rd s).2).2)

theorem getD_zero (l : List Int) : l.getD 0 0 = l.headD 0 := by cases l <;> rfl
theorem drop_headD (l : List Int) (k : Nat) : (l.drop k).headD 0 = l.getD k 0 := by
  rw [← getD_zero, List.getD_eq_getElem?_getD, List.getD_eq_getElem?_getD, List.getElem?_drop]; simp
theorem take_getD (l : List Int) {k n : Nat} (h : k < n) : (l.take n).getD k 0 = l.getD k 0 := by
  rw [List.getD_eq_getElem?_getD, List.getD_eq_getElem?_getD, List.getElem?_take, if_pos h]
theorem drop_getD (l : List Int) (a k : Nat) : (l.drop a).getD k 0 = l.getD (a + k) 0 := by
  rw [List.getD_eq_getElem?_getD, List.getD_eq_getElem?_getD, List.getElem?_drop]
theorem empty_iff (l : List Int) (k : Nat) : (l.drop k).isEmpty = decide (l.length ≤ k) := by
  rw [Bool.eq_iff_iff]; simp

/-- A reader of a kind of record: what is left, whether something is amiss, and what it is if nothing is. -/
structure Reads {α : Type} (K : Kind α) (rd : St → α × St) : Prop where
  rest : ∀ l f, (rd (l, f)).2.1 = l.drop K.size
  flag : ∀ l f, (rd (l, f)).2.2 = (f || decide (l.length < K.size) || !K.ok (l.take K.size))
  get : ∀ l f, (rd (l, f)).2.2 = false → (rd (l, f)).1 = K.get (l.take K.size)
theorem num_rest (l : List Int) (f : Bool) (k : Nat) : rdNum (l.drop k, f) = (if smallN (l.getD k 0) then l.getD k 0 else 0, l.drop (k + 1), f || decide (l.length ≤ k) || !smallN (l.getD k 0)) := by
  simp only [rdNum, drop_headD, empty_iff, List.tail_drop]
theorem truth_rest (l : List Int) (f : Bool) (k : Nat) : rdTruth (l.drop k, f) = (l.getD k 0 == 1, l.drop (k + 1), f || decide (l.length ≤ k) || !bitN (l.getD k 0)) := by
  simp only [rdTruth, drop_headD, empty_iff, List.tail_drop]
theorem vec_rest (l : List Int) (f : Bool) (k : Nat) : rdVec (l.drop k, f) = (⟨l.getD k 0, l.getD (k + 1) 0, l.getD (k + 2) 0, l.getD (k + 3) 0⟩, l.drop (k + 4), f || decide (l.length - k < 4)) := by
  simp only [rdVec, drop_getD, List.drop_drop, List.length_drop, Nat.add_zero]
theorem flag_form {f a b : Bool} (h : ∀ g : Bool, f = g → a = b) : a = b := h f rfl
theorem at0 (l : List Int) (f : Bool) : (l, f) = (l.drop 0, f) := rfl
theorem flag_1 (n : Nat) (k : Nat) : decide (n ≤ k) = decide (n < k + 1) := by rw [Bool.eq_iff_iff]; simp; omega
theorem small_if {n : Int} (h : smallN n = true) : (if smallN n then n else 0) = n := if_pos h
theorem small_0 : smallN 0 = true := rfl
theorem bit_0 : bitN 0 = true := rfl

theorem node_reads : Reads nodeK rdNode where
  rest l f := by rw [at0 l f]; simp only [rdNode, Nat.zero_add, Nat.reduceAdd, num_rest, vec_rest]; rfl
  flag l f := by
    show _ = (f || decide (l.length < 10) || !nodeK.ok (l.take 10))
    rw [at0 l f]
    simp only [rdNode, Nat.zero_add, Nat.reduceAdd, num_rest, vec_rest, nodeK, take_getD l (show 0 < 10 by decide), take_getD l (show 1 < 10 by decide)]
    rw [Bool.eq_iff_iff]
    generalize smallN (l.getD 0 0) = b0
    generalize l.length = n
    generalize smallN (l.getD 1 0) = b1
    cases b0 <;> cases b1 <;> cases f <;> simp <;> omega
  get l f h := by
    rw [at0 l f] at h ⊢
    simp only [rdNode, Nat.zero_add, Nat.reduceAdd, num_rest, vec_rest, Bool.or_eq_false_iff, Bool.not_eq_false'] at h ⊢
    simp only [nodeK, take_getD l (show 0 < 10 by decide), take_getD l (show 1 < 10 by decide), take_getD l (show 2 < 10 by decide), take_getD l (show 3 < 10 by decide), take_getD l (show 4 < 10 by decide), take_getD l (show 5 < 10 by decide), take_getD l (show 6 < 10 by decide), take_getD l (show 7 < 10 by decide), take_getD l (show 8 < 10 by decide), take_getD l (show 9 < 10 by decide)]
    rw [small_if (by simp only [h]), small_if (by simp only [h])]
theorem load_reads : Reads loadK rdLoad where
  rest l f := by rw [at0 l f]; simp only [rdLoad, Nat.zero_add, Nat.reduceAdd, num_rest, truth_rest]; rfl
  flag l f := by
    show _ = (f || decide (l.length < 5) || !loadK.ok (l.take 5))
    rw [at0 l f]
    simp only [rdLoad, Nat.zero_add, Nat.reduceAdd, num_rest, truth_rest, loadK, take_getD l (show 0 < 5 by decide), take_getD l (show 1 < 5 by decide), take_getD l (show 2 < 5 by decide), take_getD l (show 3 < 5 by decide), take_getD l (show 4 < 5 by decide)]
    rw [Bool.eq_iff_iff]
    generalize smallN (l.getD 0 0) = b0
    generalize l.length = n
    generalize bitN (l.getD 1 0) = b1
    generalize smallN (l.getD 2 0) = b2
    generalize smallN (l.getD 3 0) = b3
    generalize smallN (l.getD 4 0) = b4
    cases b0 <;> cases b1 <;> cases b2 <;> cases b3 <;> cases b4 <;> cases f <;> simp <;> omega
  get l f h := by
    rw [at0 l f] at h ⊢
    simp only [rdLoad, Nat.zero_add, Nat.reduceAdd, num_rest, truth_rest, Bool.or_eq_false_iff, Bool.not_eq_false'] at h ⊢
    simp only [loadK, take_getD l (show 0 < 5 by decide), take_getD l (show 1 < 5 by decide), take_getD l (show 2 < 5 by decide), take_getD l (show 3 < 5 by decide), take_getD l (show 4 < 5 by decide)]
    rw [small_if (by simp only [h]), small_if (by simp only [h]), small_if (by simp only [h]), small_if (by simp only [h])]
theorem pod_reads : Reads podK rdPod where
  rest l f := by rw [at0 l f]; simp only [rdPod, Nat.zero_add, Nat.reduceAdd, num_rest, vec_rest]; rfl
  flag l f := by
    show _ = (f || decide (l.length < 8) || !podK.ok (l.take 8))
    rw [at0 l f]
    simp only [rdPod, Nat.zero_add, Nat.reduceAdd, num_rest, vec_rest, podK, take_getD l (show 0 < 8 by decide), take_getD l (show 1 < 8 by decide), take_getD l (show 2 < 8 by decide), take_getD l (show 7 < 8 by decide)]
    rw [Bool.eq_iff_iff]
    generalize smallN (l.getD 0 0) = b0
    generalize l.length = n
    generalize smallN (l.getD 1 0) = b1
    generalize smallN (l.getD 2 0) = b2
    generalize smallN (l.getD 7 0) = b3
    cases b0 <;> cases b1 <;> cases b2 <;> cases b3 <;> cases f <;> simp <;> omega
  get l f h := by
    rw [at0 l f] at h ⊢
    simp only [rdPod, Nat.zero_add, Nat.reduceAdd, num_rest, vec_rest, Bool.or_eq_false_iff, Bool.not_eq_false'] at h ⊢
    simp only [podK, take_getD l (show 0 < 8 by decide), take_getD l (show 1 < 8 by decide), take_getD l (show 2 < 8 by decide), take_getD l (show 3 < 8 by decide), take_getD l (show 4 < 8 by decide), take_getD l (show 5 < 8 by decide), take_getD l (show 6 < 8 by decide), take_getD l (show 7 < 8 by decide)]
    rw [small_if (by simp only [h]), small_if (by simp only [h]), small_if (by simp only [h]), small_if (by simp only [h])]
theorem want_reads : Reads wantK rdWant where
  rest l f := by rw [at0 l f]; simp only [rdWant, Nat.zero_add, Nat.reduceAdd, num_rest, vec_rest, truth_rest]; rfl
  flag l f := by
    show _ = (f || decide (l.length < 6) || !wantK.ok (l.take 6))
    rw [at0 l f]
    simp only [rdWant, Nat.zero_add, Nat.reduceAdd, num_rest, vec_rest, truth_rest, wantK, take_getD l (show 0 < 6 by decide), take_getD l (show 5 < 6 by decide)]
    rw [Bool.eq_iff_iff]
    generalize smallN (l.getD 0 0) = b0
    generalize l.length = n
    generalize bitN (l.getD 5 0) = b1
    cases b0 <;> cases b1 <;> cases f <;> simp <;> omega
  get l f h := by
    rw [at0 l f] at h ⊢
    simp only [rdWant, Nat.zero_add, Nat.reduceAdd, num_rest, vec_rest, truth_rest, Bool.or_eq_false_iff, Bool.not_eq_false'] at h ⊢
    simp only [wantK, take_getD l (show 0 < 6 by decide), take_getD l (show 1 < 6 by decide), take_getD l (show 2 < 6 by decide), take_getD l (show 3 < 6 by decide), take_getD l (show 4 < 6 by decide), take_getD l (show 5 < 6 by decide)]
    rw [small_if (by simp only [h])]
theorem move_reads : Reads moveK rdMove where
  rest l f := by rw [at0 l f]; simp only [rdMove, Nat.zero_add, Nat.reduceAdd, num_rest]; rfl
  flag l f := by
    show _ = (f || decide (l.length < 4) || !moveK.ok (l.take 4))
    rw [at0 l f]
    simp only [rdMove, Nat.zero_add, Nat.reduceAdd, num_rest, moveK, take_getD l (show 0 < 4 by decide), take_getD l (show 1 < 4 by decide), take_getD l (show 2 < 4 by decide), take_getD l (show 3 < 4 by decide)]
    rw [Bool.eq_iff_iff]
    generalize smallN (l.getD 0 0) = b0
    generalize l.length = n
    generalize smallN (l.getD 1 0) = b1
    generalize smallN (l.getD 2 0) = b2
    generalize smallN (l.getD 3 0) = b3
    cases b0 <;> cases b1 <;> cases b2 <;> cases b3 <;> cases f <;> simp <;> omega
  get l f h := by
    rw [at0 l f] at h ⊢
    simp only [rdMove, Nat.zero_add, Nat.reduceAdd, num_rest, Bool.or_eq_false_iff, Bool.not_eq_false'] at h ⊢
    simp only [moveK, take_getD l (show 0 < 4 by decide), take_getD l (show 1 < 4 by decide), take_getD l (show 2 < 4 by decide), take_getD l (show 3 < 4 by decide)]
    rw [small_if (by simp only [h]), small_if (by simp only [h]), small_if (by simp only [h]), small_if (by simp only [h])]

section
variable {α : Type} {K : Kind α} {rd : St → α × St} (R : Reads K rd)
include R
theorem list_rest : ∀ (n : Nat) (l : List Int) (f : Bool), (rdList rd n (l, f)).2.1 = l.drop (n * K.size)
  | 0, l, f => by simp [rdList]
  | n + 1, l, f => by
    have h := list_rest n (rd (l, f)).2.1 (rd (l, f)).2.2
    have e := R.rest l f
    show (rdList rd n (rd (l, f)).2).2.1 = _
    rw [show (rd (l, f)).2 = ((rd (l, f)).2.1, (rd (l, f)).2.2) from rfl, h, e, List.drop_drop, Nat.add_one_mul, Nat.add_comm]
theorem list_flag : ∀ (n : Nat) (l : List Int) (f : Bool), (rdList rd n (l, f)).2.2 = (f || decide (l.length < n * K.size) || !fine K n l)
  | 0, l, f => by simp [rdList, fine]
  | n + 1, l, f => by
    have h := list_flag n (rd (l, f)).2.1 (rd (l, f)).2.2
    have e := R.rest l f
    have g := R.flag l f
    show (rdList rd n (rd (l, f)).2).2.2 = _
    rw [show (rd (l, f)).2 = ((rd (l, f)).2.1, (rd (l, f)).2.2) from rfl, h, e, g, fine]
    rw [Bool.eq_iff_iff]
    cases K.ok (l.take K.size) <;> cases fine K n (l.drop K.size) <;> cases f <;> simp [Nat.add_one_mul] <;> omega
theorem list_get : ∀ (n : Nat) (l : List Int) (f : Bool), (rdList rd n (l, f)).2.2 = false → (rdList rd n (l, f)).1 = parse K n l
  | 0, l, f, _ => rfl
  | n + 1, l, f, h => by
    have h' : (rdList rd n ((rd (l, f)).2.1, (rd (l, f)).2.2)).2.2 = false := h
    have hf : (rd (l, f)).2.2 = false := by
      rw [list_flag R n] at h'
      cases e : (rd (l, f)).2.2 with
      | false => rfl
      | true => rw [e] at h'; simp at h'
    have h1 := R.get l f hf
    have h2 := list_get n _ _ h'
    rw [R.rest l f] at h2
    show (rd (l, f)).1 :: (rdList rd n ((rd (l, f)).2.1, (rd (l, f)).2.2)).1 = _
    rw [h1, R.rest l f, h2, parse]
omit R in
theorem list_length : ∀ (n : Nat) (s : St), (rdList rd n s).1.length = n
  | 0, s => rfl
  | n + 1, s => by show (_ :: _).length = _; rw [List.length_cons, list_length n]
end
/-- Was all of the form, with nothing left behind it? -/
def wellF (s : St) : Bool := !s.2 && decide (s.1.length = 0)
theorem num_small {a : Int} {l : List Int} (h : smallN a = true) (f : Bool) : rdNum (a :: l, f) = (a, l, f) := by
  simp [rdNum, h]

/-- What the reader reads as a snapshot. -/
def mSnap (l : List Int) : SnapD × St :=
  let a := rdNum (l, false)
  let b := rdNum a.2
  let c := rdNum b.2
  let n := rdList rdNode a.1.toNat c.2
  let o := rdList rdLoad b.1.toNat n.2
  let p := rdList rdPod c.1.toNat o.2
  (⟨n.1, o.1, p.1⟩, p.2)
def mSpec (l : List Int) : SpecD × St :=
  let a := rdNum (l, false)
  let b := rdNum a.2
  let c := rdNum b.2
  let n := rdList rdWant a.1.toNat c.2
  (⟨n.1, b.1, c.1⟩, n.2)
def mMoves (l : List Int) : List MoveD × St :=
  let a := rdNum (l, false)
  rdList rdMove a.1.toNat a.2
theorem st_eta {α : Type} (p : α × St) : p.2 = (p.2.1, p.2.2) := rfl
theorem snap_machine {l : List Int} (hp : ∀ x ∈ l, 0 ≤ x) (h1 : ¬ l.length < 3) (h2 : ¬ (8 < l.getD 0 0 ∨ 8 < l.getD 1 0 ∨ 12 < l.getD 2 0)) :
    (wellF (mSnap l).2 = true ↔ (l.length = 3 + 10 * (l.getD 0 0).toNat + 5 * (l.getD 1 0).toNat + 8 * (l.getD 2 0).toNat ∧ snapFine (l.getD 0 0).toNat (l.getD 1 0).toNat (l.getD 2 0).toNat (l.drop 3) = true)) ∧
    (wellF (mSnap l).2 = true → (mSnap l).1 = snapOf (l.getD 0 0).toNat (l.getD 1 0).toNat (l.getD 2 0).toNat (l.drop 3)) := by
  match l, h1, h2 with
  | a :: b :: c :: r, _, h2 =>
    simp only [List.getD_cons_zero, List.getD_cons_succ, List.drop_succ_cons, List.drop_zero, List.length_cons] at h2 ⊢
    have e : mSnap (a :: b :: c :: r) = (⟨(rdList rdNode a.toNat (r, false)).1, (rdList rdLoad b.toNat (rdList rdNode a.toNat (r, false)).2).1, (rdList rdPod c.toNat (rdList rdLoad b.toNat (rdList rdNode a.toNat (r, false)).2).2).1⟩, (rdList rdPod c.toNat (rdList rdLoad b.toNat (rdList rdNode a.toNat (r, false)).2).2).2) := by
      simp only [mSnap, num_small (small_of (show a ≤ 2147483647 by omega)), num_small (small_of (show b ≤ 2147483647 by omega)), num_small (small_of (show c ≤ 2147483647 by omega))]
    rw [e]
    have s1 := list_rest node_reads a.toNat r false
    have f1 := list_flag node_reads a.toNat r false
    have g1 := list_get node_reads a.toNat r false
    generalize rdList rdNode a.toNat (r, false) = N at *
    obtain ⟨ns, l1, t1⟩ := N
    simp only at s1 f1 g1 ⊢
    have s2 := list_rest load_reads b.toNat l1 t1
    have f2 := list_flag load_reads b.toNat l1 t1
    have g2 := list_get load_reads b.toNat l1 t1
    generalize rdList rdLoad b.toNat (l1, t1) = O at *
    obtain ⟨os, l2, t2⟩ := O
    simp only at s2 f2 g2 ⊢
    have s3 := list_rest pod_reads c.toNat l2 t2
    have f3 := list_flag pod_reads c.toNat l2 t2
    have g3 := list_get pod_reads c.toNat l2 t2
    generalize rdList rdPod c.toNat (l2, t2) = P at *
    obtain ⟨ps, l3, t3⟩ := P
    simp only at s3 f3 g3 ⊢
    have z1 : nodeK.size = 10 := rfl
    have z2 : loadK.size = 5 := rfl
    have z3 : podK.size = 8 := rfl
    rw [z1] at s1 f1
    rw [z2] at s2 f2
    rw [z3] at s3 f3
    rw [s1, List.drop_drop] at s2
    rw [s1] at f2 g2
    rw [s2] at s3 f3 g3
    rw [List.drop_drop] at s3
    have hw : wellF (l3, t3) = true ↔ (t3 = false ∧ l3.length = 0) := by simp [wellF]
    have fold : snapFine a.toNat b.toNat c.toNat r = (fine nodeK a.toNat r && (fine loadK b.toNat (r.drop (a.toNat * 10)) && fine podK c.toNat (r.drop (a.toNat * 10 + b.toNat * 5)))) := rfl
    rw [hw, fold]
    constructor
    · rw [f3, f2, f1, s3]
      cases fine nodeK a.toNat r <;> cases fine loadK b.toNat (r.drop (a.toNat * 10)) <;> cases fine podK c.toNat (r.drop (a.toNat * 10 + b.toNat * 5)) <;> simp [List.length_drop] <;> omega
    · rintro ⟨k1, _⟩
      have k2 : t2 = false := by rw [f3] at k1; simp only [Bool.or_eq_false_iff] at k1; exact k1.1.1
      have k3 : t1 = false := by rw [f2] at k2; simp only [Bool.or_eq_false_iff] at k2; exact k2.1.1
      rw [g1 k3, g2 k2, g3 k1]
      rfl
  | [], h1, _ => simp at h1
  | [_], h1, _ => simp at h1
  | [_, _], h1, _ => simp at h1
theorem spec_machine {l : List Int} (hp : ∀ x ∈ l, 0 ≤ x) (h1 : ¬ l.length < 3) (h2 : ¬ 12 < l.getD 0 0) :
    (wellF (mSpec l).2 = true ↔ (l.length = 3 + 6 * (l.getD 0 0).toNat ∧ (smallN (l.getD 1 0) && (smallN (l.getD 2 0) && fine wantK (l.getD 0 0).toNat (l.drop 3))) = true)) ∧
    (wellF (mSpec l).2 = true → (mSpec l).1 = ⟨parse wantK (l.getD 0 0).toNat (l.drop 3), l.getD 1 0, l.getD 2 0⟩) := by
  match l, h1, h2 with
  | a :: b :: c :: r, _, h2 =>
    simp only [List.getD_cons_zero, List.getD_cons_succ, List.drop_succ_cons, List.drop_zero, List.length_cons] at h2 ⊢
    have e : mSpec (a :: b :: c :: r) = (⟨(rdList rdWant a.toNat (r, !smallN b || !smallN c)).1, if smallN b then b else 0, if smallN c then c else 0⟩, (rdList rdWant a.toNat (r, !smallN b || !smallN c)).2) := by
      simp only [mSpec, num_small (small_of (show a ≤ 2147483647 by omega))]
      simp [rdNum]
    rw [e]
    have s1 := list_rest want_reads a.toNat r (!smallN b || !smallN c)
    have f1 := list_flag want_reads a.toNat r (!smallN b || !smallN c)
    have g1 := list_get want_reads a.toNat r (!smallN b || !smallN c)
    generalize rdList rdWant a.toNat (r, !smallN b || !smallN c) = N at *
    obtain ⟨ns, l1, t1⟩ := N
    simp only at s1 f1 g1 ⊢
    have z1 : wantK.size = 6 := rfl
    rw [z1] at s1 f1
    have hw : wellF (l1, t1) = true ↔ (t1 = false ∧ l1.length = 0) := by simp [wellF]
    rw [hw]
    constructor
    · rw [f1, s1]
      cases smallN b <;> cases smallN c <;> cases fine wantK a.toNat r <;> simp [List.length_drop] <;> omega
    · rintro ⟨k1, _⟩
      have kb : smallN b = true ∧ smallN c = true := by rw [f1] at k1; cases hb : smallN b <;> cases hc : smallN c <;> simp_all
      rw [g1 k1, if_pos kb.1, if_pos kb.2]
  | [], h1, _ => simp at h1
  | [_], h1, _ => simp at h1
  | [_, _], h1, _ => simp at h1
theorem moves_machine {l : List Int} (hp : ∀ x ∈ l, 0 ≤ x) (h1 : ¬ l.length < 1) (h2 : ¬ 40 < l.getD 0 0) :
    (wellF (mMoves l).2 = true ↔ (l.length = 1 + 4 * (l.getD 0 0).toNat ∧ fine moveK (l.getD 0 0).toNat (l.drop 1) = true)) ∧
    (wellF (mMoves l).2 = true → (mMoves l).1 = parse moveK (l.getD 0 0).toNat (l.drop 1)) := by
  match l, h1, h2 with
  | a :: r, _, h2 =>
    simp only [List.getD_cons_zero, List.drop_succ_cons, List.drop_zero, List.length_cons] at h2 ⊢
    have e : mMoves (a :: r) = rdList rdMove a.toNat (r, false) := by
      simp only [mMoves, num_small (small_of (show a ≤ 2147483647 by omega))]
    rw [e]
    have s1 := list_rest move_reads a.toNat r false
    have f1 := list_flag move_reads a.toNat r false
    have g1 := list_get move_reads a.toNat r false
    generalize rdList rdMove a.toNat (r, false) = N at *
    obtain ⟨ns, l1, t1⟩ := N
    simp only at s1 f1 g1 ⊢
    have z1 : moveK.size = 4 := rfl
    rw [z1] at s1 f1
    have hw : wellF (l1, t1) = true ↔ (t1 = false ∧ l1.length = 0) := by simp [wellF]
    rw [hw]
    constructor
    · rw [f1, s1]
      cases fine moveK a.toNat r <;> simp [List.length_drop] <;> omega
    · rintro ⟨k1, _⟩
      exact g1 k1
  | [], h1, _ => simp at h1
/-- What the reader's way tells is what is told of the numbers. -/
theorem rdMoves_m {l : List Int} (hp : ∀ x ∈ l, 0 ≤ x) (h1 : ¬ l.length < 1) (h2 : ¬ 40 < l.getD 0 0) : rdMoves l = if wellF (mMoves l).2 = true then ((mMoves l).1, 0, -1) else ([], 2, -1) := by
  obtain ⟨a, b⟩ := moves_machine hp h1 h2
  unfold rdMoves
  rw [if_neg h1, if_neg h2]
  by_cases hw : wellF (mMoves l).2 = true
  · obtain ⟨c, d⟩ := a.1 hw
    rw [if_neg (by omega), if_neg (by rw [d]; decide), if_pos hw, b hw]
  · rw [if_neg hw]
    by_cases c : l.length = 1 + 4 * (l.getD 0 0).toNat
    · rw [if_neg (by omega), if_pos]
      cases d : fine moveK (l.getD 0 0).toNat (l.drop 1) with
      | false => rfl
      | true => exact absurd (a.2 ⟨c, d⟩) hw
    · rw [if_pos c]
theorem rdSpec_m {l : List Int} (hp : ∀ x ∈ l, 0 ≤ x) (h1 : ¬ l.length < 3) (h2 : ¬ 12 < l.getD 0 0) : rdSpec l = if wellF (mSpec l).2 = true then ((mSpec l).1, 0, -1) else (noSpec, 2, -1) := by
  obtain ⟨a, b⟩ := spec_machine hp h1 h2
  unfold rdSpec
  rw [if_neg h1, if_neg h2]
  by_cases hw : wellF (mSpec l).2 = true
  · obtain ⟨c, d⟩ := a.1 hw
    rw [if_neg (by omega), if_neg (by rw [d]; decide), if_pos hw, b hw]
  · rw [if_neg hw]
    by_cases c : l.length = 3 + 6 * (l.getD 0 0).toNat
    · rw [if_neg (by omega), if_pos]
      cases d : (smallN (l.getD 1 0) && (smallN (l.getD 2 0) && fine wantK (l.getD 0 0).toNat (l.drop 3))) with
      | false => rfl
      | true => exact absurd (a.2 ⟨c, d⟩) hw
    · rw [if_pos c]
theorem rdSnap_m {l : List Int} (hp : ∀ x ∈ l, 0 ≤ x) (h1 : ¬ l.length < 3) (h2 : ¬ (8 < l.getD 0 0 ∨ 8 < l.getD 1 0 ∨ 12 < l.getD 2 0)) :
    rdSnap l = if wellF (mSnap l).2 = true then (if (check (mSnap l).1).1 ≠ 0 then (noSnap, check (mSnap l).1) else ((mSnap l).1, 0, -1)) else (noSnap, 2, -1) := by
  obtain ⟨a, b⟩ := snap_machine hp h1 h2
  unfold rdSnap
  rw [if_neg h1, if_neg h2]
  by_cases hw : wellF (mSnap l).2 = true
  · obtain ⟨c, d⟩ := a.1 hw
    rw [if_neg (by omega), if_neg (by rw [d]; decide), if_pos hw, ← b hw]
  · rw [if_neg hw]
    by_cases c : l.length = 3 + 10 * (l.getD 0 0).toNat + 5 * (l.getD 1 0).toNat + 8 * (l.getD 2 0).toNat
    · rw [if_neg (by omega), if_pos]
      cases d : snapFine (l.getD 0 0).toNat (l.getD 1 0).toNat (l.getD 2 0).toNat (l.drop 3) with
      | false => rfl
      | true => exact absurd (a.2 ⟨c, d⟩) hw
    · rw [if_pos c]
end Go.Proofs.YtjpaeaedfgiomaaDoor

/- The program's codec, small functions of the writing side: numbers, truth, writable. -/
namespace Go.Proofs.YtjpaeaedfgiomaaDoor
set_option linter.unusedSimpArgs false
open Go.RowKit
set_option linter.unusedVariables false

abbrev i64s (l : List Int) : List Value := l.map (Value.int .i64)
/-- Numbers that may be written as they are. -/
def Pos (l : List Int) : Prop := ∀ x ∈ l, 0 ≤ x ∧ x ≤ 9223372036854775807
/-- What is told is a row of the call's own that holds these numbers. -/
def NumsTo (l : List Int) (w : World) (e : Ending) (w' : World) : Prop :=
  ∃ v, e = .returned v ∧ w'.ownsRow w.heap.size 52 1 v (u64s l).length (u64s l) ∧ Below w.heap.size w w'
def NumsRel (l : List Int) (w : World) (v i : Value) (wr : World) : Prop :=
  ∃ k : Nat, k ≤ l.length ∧ i = .int .i64 k ∧ wr.ownsRow w.heap.size 52 1 v (u64s (l.take k)).length (u64s (l.take k)) ∧ Below w.heap.size w wr
theorem numsTo_of {l : List Int} {w wr : World} {v : Value} {k : Nat} (hk : l.length ≤ k) (h : wr.ownsRow w.heap.size 52 1 v (u64s (l.take k)).length (u64s (l.take k))) (hb : Below w.heap.size w wr) : NumsTo l w (.returned v) wr := by
  rw [List.take_of_length_le hk] at h
  exact ⟨v, rfl, h, hb⟩

set_option maxHeartbeats 1600000 in
theorem numbers_any (l : List Int) (A : Option Addr) (n c : Nat) (w : World) (hn : n = l.length) (hl : n ≤ 1000) (hp : Pos l) (hr : Row w w.heap.size A (i64s l)) :
    Calls Tryd.prog 16 #[.slice A n c] w (NumsTo l w) := by
  have HN := Lib.hid hn
  have HP := Lib.hid hp
  have HR := Lib.hid hr
  clear hn hp hr
  go_enter Tryd.func16, Tryd.ntmps16
  go_wp2
  go_loopw [3, 8] (NumsRel l w) (fun _ i _ => n - (intOf i).toNat)
  case atStart => exact ⟨0, by omega, rfl, World.ownsRow_nil _ _ _ _, Below.refl _ _⟩
  case round =>
    obtain ⟨k, hk, rfl, hown, hbr⟩ := hrel
    have hz := hbr.size
    by_cases hlt : k < n
    · have hkl : k < l.length := by have := HN.out; omega
      obtain ⟨b, o, rfl, hb, hcell⟩ := HR.out.at (k := k) (by simpa using hkl)
      have hx := HP.out l[k] (List.getElem_mem hkl)
      have hc : wr.cell? ⟨b, o + k, none⟩ = some (.int .i64 l[k]) := (hbr.cell (p := ⟨b, o + k, none⟩) hb).trans ((hcell k (by simpa using hkl)).trans (by simp))
      have HT : Hid (l.take k ++ [l[k]] = l.take (k + 1)) := (List.take_succ_eq_append_getElem hkl).symm
      have HU : Hid ((u64s (l.take k)).length ≤ 2000000) := by show _ ≤ _; simp; omega
      generalize l[k] = x at *
      obtain ⟨hx0, hx1⟩ := hx
      have hx2 : x < 18446744073709551616 := by omega
      clear hcell
      go_wp2_with (at_builtin; refine wpList_push 29 52 (.int .u64 0) 8 Tryd.underlying29 Tryd.info52 rfl (by decide) rfl (.tmp 12) (.tmp 15) rfl w.heap.size _ (u64s (l.take k)) (.int .u64 x) rfl hown hz HU.out rfl rfl ?_; intro v' w1 hown1 hb1 hB1)
      go_roundw
      case rel => exact ⟨k + 1, by omega, by go_num, own64 hown1 HT.out, hbr.trans hb1⟩
      case measure => simp [intOf]; omega
    · go_wp2
      go_ret
      exact numsTo_of (by have := HN.out; omega) hown hbr

def truthI (b : Bool) : Int := truthN b
def WritRel (l : List Int) (i : Value) : Prop := ∃ k : Nat, k ≤ l.length ∧ i = .int .i64 k ∧ (l.take k).all inId = true
theorem all_take {α : Type} {p : α → Bool} {l : List α} {k : Nat} (hk : k < l.length) (h : (l.take k).all p = true) {x : α} (hx : l[k] = x) (hp : p x = true) : (l.take (k + 1)).all p = true := by
  rw [List.take_succ_eq_append_getElem hk, List.all_append, h, hx]; simp [hp]
theorem all_false {α : Type} {p : α → Bool} {l : List α} {k : Nat} (hk : k < l.length) {x : α} (hx : l[k] = x) (hp : p x = false) : l.all p = false := by
  rw [List.all_eq_false]
  exact ⟨l[k], List.getElem_mem hk, by rw [hx, hp]; decide⟩
theorem inId_false {n : Int} (h : n < 0 ∨ 2147483647 < n) : inId n = false := by
  simp [inId]; omega
set_option maxHeartbeats 1600000 in
theorem writable_any (l : List Int) (A : Option Addr) (n c : Nat) (w : World) (hn : n = l.length) (hl : n ≤ 1000) (hr : Row w w.heap.size A (i64s l)) :
    Calls Tryd.prog 13 #[.slice A n c] w fun e w' => e = .returned (.bool (l.all inId)) ∧ w = w' := by
  have HN := Lib.hid hn
  have HR := Lib.hid hr
  clear hn hr
  go_enter Tryd.func13, Tryd.ntmps13
  go_wp2
  go_loop [7] (WritRel l) (fun i => n - (intOf i).toNat)
  case atStart => exact ⟨0, by omega, rfl, rfl⟩
  case round =>
    obtain ⟨k, hk, rfl, hall⟩ := hrel
    have HALL := Lib.hid hall
    clear hall
    by_cases hlt : k < n
    · have hkl : k < l.length := by have := HN.out; omega
      obtain ⟨b, o, rfl, hb, hcell⟩ := HR.out.at (k := k) (by simpa using hkl)
      have hc : w.cell? ⟨b, o + k, none⟩ = some (.int .i64 l[k]) := (hcell k (by simpa using hkl)).trans (by simp)
      generalize hx : l[k] = x at *
      have HX := Lib.hid hx
      clear hcell hx
      by_cases h0 : x < 0
      · have HE := Lib.hid (all_false hkl HX.out (inId_false (.inl h0)))
        go_wp2
        go_ret
        exact ⟨ret_bool HE.out.symm, rfl⟩
      · by_cases h1 : 2147483647 < x
        · have HE := Lib.hid (all_false hkl HX.out (inId_false (.inr h1)))
          go_wp2
          go_ret
          exact ⟨ret_bool HE.out.symm, rfl⟩
        · have HE := Lib.hid (all_take hkl HALL.out HX.out (inId_iff.2 (by omega)))
          go_wp2
          go_round
          case rel => exact ⟨k + 1, by omega, by go_num, HE.out⟩
          case measure => simp [intOf]; omega
    · have HE : Hid (l.all inId = true) := by
        have := HALL.out
        rwa [List.take_of_length_le (by have := HN.out; omega)] at this
      go_wp2
      go_ret
      exact ⟨ret_bool HE.out.symm, rfl⟩
end Go.Proofs.YtjpaeaedfgiomaaDoor

/- slices.Grow of nil and slices.Concat, at []uint64: what they tell is a row of the call's own. -/
namespace Go.Proofs.YtjpaeaedfgiomaaDoor
set_option linter.unusedSimpArgs false
open Go.RowKit
set_option linter.unusedVariables false

def GrowTo (w : World) (e : Ending) (w' : World) : Prop := ∃ v, e = .returned v ∧ w'.ownsRow w.heap.size 52 1 v 0 [] ∧ Below w.heap.size w w'
theorem grow_end (w : World) (n G : Nat) (h : n ≤ G) (hG : G ≤ maxLen) : GrowTo w (.returned (.slice (some ⟨w.heap.size, 0, none⟩) 0 G)) (w.alloc (.cells (Builtin.zeroCells #[Value.int .u64 0] n ++ Builtin.zeroCells #[Value.int .u64 0] (G - n)) 52)).drew := by
  refine ⟨_, rfl, World.ownsRow_made w.drew (Builtin.zeroCells #[Value.int .u64 0] n ++ Builtin.zeroCells #[Value.int .u64 0] (G - n)) G (Nat.le_refl _) hG ?_, ((Below.refl _ w).alloc (Nat.le_refl _) _).drew⟩
  simp [size_zeroCells]
  omega
set_option maxHeartbeats 1600000 in
theorem grow_any (n : Nat) (w : World) (hn : n ≤ 1000000) :
    Calls Tryd.prog 38 #[.slice none 0 0, .int .i64 (n : Int)] w (GrowTo w) := by
  rcases Nat.eq_zero_or_pos n with h0 | h0
  · subst h0
    go_enter Tryd.func38, Tryd.ntmps38
    go_wp2
    go_ret
    exact ⟨_, rfl, World.ownsRow_nil _ _ _ _, Below.refl _ _⟩
  · obtain ⟨i0, hi, hz0, hz1, hz2⟩ := info_parts Tryd.info52
    have hrz : ∀ ty, (Builtin.append_ #[29, 3] ty #[.slice none 0 0, .int .i64 (n : Int)]).run Tryd.prog w =
        .ok (.slice (some ⟨w.heap.size, 0, none⟩) n (grownCap w n 0 52)) (w.drew.alloc (.cells (([] : List Value).toArray ++ Builtin.zeroCells (Value.int .u64 0).cells n ++ Builtin.zeroCells (Value.int .u64 0).cells (grownCap w n 0 52 - n)) 52)) := fun ty => by
      have hf : (Builtin.firstCells i0.size 0 (.slice none 0 0)).run Tryd.prog w.drew = .ok ([] : List Value).toArray w.drew := run_firstCells_none w.drew i0.size 0 0 0
      have h := Lib.run_append_grow_zeros w 29 3 ty 52 i0 (.int .u64 0) .i64 .i64 Tryd.underlying29 Tryd.underlying3 hi hz0 none 0 0 [] hf n h0 (by omega) (by omega) (by omega)
        (by rw [hz2]; omega)
        (by rw [hz2]; exact growslice_fits (by omega) (by omega))
      simpa only [Nat.zero_add] using h
    have hge : n ≤ grownCap w n 0 52 := grownCap_ge w _ _ _
    have hm : grownCap w n 0 52 ≤ maxLen := grownCap_le_maxLen w n 0 52 (by unfold maxLen; omega)
    generalize grownCap w n 0 52 = G at *
    have hm' : G ≤ 9223372036854775807 := by unfold maxLen at hm; omega
    have HZ := Lib.hid hrz
    have HM := Lib.hid hm
    clear hrz hi hz0 hz1 hz2 hm
    go_enter Tryd.func38, Tryd.ntmps38
    go_wp2_with (at_builtin; refine Lib.wpList_append_run _ rfl _ _ _ _ rfl _ _ rfl rfl _ _ (HZ.out _) ?_)
    all_goals
      go_ret
      exact grow_end w n G hge HM.out

/-- A row of slices of numbers. -/
def Parts (w : World) (B : Nat) (vs : List Value) (ls : List (List Int)) : Prop :=
  vs.length = ls.length ∧ ∀ i (h : i < ls.length), ∃ A c, vs[i]? = some (.slice A ls[i].length c) ∧ (A = none → c = 0) ∧ Row w B A (u64s ls[i])
theorem Parts.below {w w' : World} {B B' : Nat} {vs : List Value} {ls : List (List Int)} (h : Parts w B vs ls) (hb : Below B' w w') (hB : B ≤ B') : Parts w' B vs ls :=
  ⟨h.1, fun i hi => by obtain ⟨A, c, h1, h2, h3⟩ := h.2 i hi; exact ⟨A, c, h1, h2, h3.below hb hB⟩⟩
theorem Parts.more {w : World} {B B' : Nat} {vs : List Value} {ls : List (List Int)} (h : Parts w B vs ls) (hB : B ≤ B') : Parts w B' vs ls :=
  ⟨h.1, fun i hi => by obtain ⟨A, c, h1, h2, h3⟩ := h.2 i hi; exact ⟨A, c, h1, h2, h3.more hB⟩⟩
theorem Parts.nil {w : World} {B : Nat} : Parts w B [] [] := ⟨rfl, fun i h => by simp at h⟩
theorem Parts.cons {w : World} {B : Nat} {A : Option Addr} {n c : Nat} {l : List Int} {vs : List Value} {ls : List (List Int)} (hn : n = l.length) (hc : A = none → c = 0) (hr : Row w B A (u64s l)) (h : Parts w B vs ls) : Parts w B (.slice A n c :: vs) (l :: ls) := by
  subst hn
  refine ⟨by simp [h.1], fun i hi => ?_⟩
  rcases i with _ | i
  · exact ⟨A, c, rfl, hc, hr⟩
  · obtain ⟨A', c', h1, h2, h3⟩ := h.2 i (by simpa using hi)
    exact ⟨A', c', by simpa using h1, h2, h3⟩

theorem flat_take {ls : List (List Int)} {k : Nat} (hk : k < ls.length) {x : List Int} (hx : ls[k] = x) : (ls.take k).flatten ++ x = (ls.take (k + 1)).flatten := by
  rw [List.take_succ_eq_append_getElem hk, List.flatten_append, hx]; simp
theorem flat_le {ls : List (List Int)} (k : Nat) : (ls.take k).flatten.length ≤ ls.flatten.length := by
  have : ls.flatten = (ls.take k).flatten ++ (ls.drop k).flatten := by rw [← List.flatten_append, List.take_append_drop]
  rw [this, List.length_append]; omega
def CatLen (ls : List (List Int)) (s i : Value) : Prop := ∃ k : Nat, k ≤ ls.length ∧ i = .int .i64 k ∧ s = .int .i64 ((ls.take k).flatten.length : Nat)
def CatRel (ls : List (List Int)) (w : World) (v i : Value) (wr : World) : Prop :=
  ∃ k : Nat, k ≤ ls.length ∧ i = .int .i64 k ∧ wr.ownsRow w.heap.size 52 1 v (u64s (ls.take k).flatten).length (u64s (ls.take k).flatten) ∧ Below w.heap.size w wr
theorem own_cat {B : Nat} {w1 : World} {v : Value} {xs ys zs : List Int} (h : w1.ownsRow B 52 1 v (u64s xs ++ u64s ys).length (u64s xs ++ u64s ys)) (e : xs ++ ys = zs) : w1.ownsRow B 52 1 v (u64s zs).length (u64s zs) := by
  subst e; simpa using h

set_option maxHeartbeats 3200000 in
theorem concat_any (ls : List (List Int)) (vs : List Value) (A : Option Addr) (n c : Nat) (w : World) (hn : n = ls.length) (hl : n ≤ 100) (hs : ls.flatten.length ≤ 100000) (hr : Row w w.heap.size A vs) (hp : Parts w w.heap.size vs ls) :
    Calls Tryd.prog 15 #[.slice A n c] w (NumsTo ls.flatten w) := by
  have HN := Lib.hid hn
  have HS := Lib.hid hs
  have HR := Lib.hid hr
  have HP := Lib.hid hp
  clear hn hs hr hp
  go_enter Tryd.func15, Tryd.ntmps15
  go_wp2
  go_loop [3, 11] (CatLen ls) (fun _ i => n - (intOf i).toNat)
  case atStart => exact ⟨0, by omega, rfl, rfl⟩
  case round =>
    obtain ⟨k, hk, rfl, rfl⟩ := hrel
    by_cases hlt : k < n
    · have hkl : k < ls.length := by have := HN.out; omega
      obtain ⟨A', c', h1, _, _⟩ := HP.out.2 k hkl
      obtain ⟨hkv, h1⟩ := List.getElem?_eq_some_iff.1 h1
      obtain ⟨b, o, rfl, hb, hcell⟩ := HR.out.at hkv
      have hc : w.cell? ⟨b, o + k, none⟩ = some (.slice A' ls[k].length c') := (hcell k hkv).trans (by rw [h1])
      have HE := Lib.hid (congrArg List.length (flat_take hkl rfl))
      have g1 : (ls.take k).flatten.length + ls[k].length ≤ 100000 := by have := HE.out; have h3 := flat_le (ls := ls) (k + 1); have h4 := HS.out; simp only [List.length_append] at this; omega
      clear hcell h1
      generalize hq : (ls.take k).flatten.length = q at *
      generalize hr : ls[k].length = r at *
      have HQ := Lib.hid hq
      have HR' := Lib.hid hr
      clear hq hr
      go_wp2
      go_round
      case rel => exact ⟨k + 1, by omega, by go_num, by have := HE.out; have h2 := HQ.out; have h3 := HR'.out; rw [List.length_append] at this; rw [← this, h2, h3]; go_num⟩
      case measure => simp [intOf]; omega
    · have htk : ls.take k = ls := List.take_of_length_le (by have := HN.out; omega)
      have hs' := HS.out
      rw [htk]
      generalize hq : ls.flatten.length = q at *
      have HQ := Lib.hid hq
      clear hq htk
      go_wp2_with fail
      refine (grow_any q w (by omega)).mono ?_
      rintro e w1 ⟨v, rfl, hown1, hb1⟩
      have HB1 := Lib.hid hb1
      have HO1 := Lib.hid hown1
      clear hown1 hb1
      go_wp2
      go_loopw [6, 27] (CatRel ls w) (fun _ i _ => n - (intOf i).toNat)
      case atStart => exact ⟨0, by omega, rfl, HO1.out, HB1.out⟩
      case round =>
        obtain ⟨k, hk, rfl, hown, hbr⟩ := hrel
        have hz := hbr.size
        by_cases hlt : k < n
        · have hkl : k < ls.length := by have := HN.out; omega
          obtain ⟨A', c', h1, h2, h3⟩ := HP.out.2 k hkl
          obtain ⟨hkv, h1⟩ := List.getElem?_eq_some_iff.1 h1
          obtain ⟨b, o, rfl, hb, hcell⟩ := HR.out.at hkv
          have hc : wr.cell? ⟨b, o + k, none⟩ = some (.slice A' ls[k].length c') := (hbr.cell (p := ⟨b, o + k, none⟩) hb).trans ((hcell k hkv).trans (by rw [h1]))
          have HE := Lib.hid (flat_take hkl rfl)
          have HG : Hid ((u64s (ls.take k).flatten).length + (u64s ls[k]).length ≤ 2000000) := by
            have := congrArg List.length HE.out; have h3 := flat_le (ls := ls) (k + 1); have h4 := HS.out; have h5 := HQ.out
            rw [List.length_append] at this
            show _ ≤ _
            simp only [List.length_map]; omega
          have H3 := Lib.hid (h3.below hbr (Nat.le_refl _))
          have H2 := Lib.hid h2
          clear hcell h1 h3 h2
          generalize hl : ls[k] = x at *
          generalize hr : x.length = r at *
          have HR' := Lib.hid hr
          clear hl hr
          go_wp2_with (at_builtin; refine wpList_cat 29 52 (.int .u64 0) 8 Tryd.underlying29 Tryd.info52 rfl (by decide) rfl (.tmp 31) (.tmp 32) rfl w.heap.size w.heap.size _ (u64s (ls.take k).flatten) (u64s x) A' c' (one_u64s _) H2.out hown H3.out hz HG.out rfl rfl ((HR'.out.symm).trans (by simp)) ?_; intro v' w2 hown2 hb2 hB2)
          go_roundw
          case rel => exact ⟨k + 1, by omega, by go_num, own_cat hown2 HE.out, hbr.trans hb2⟩
          case measure => simp [intOf]; omega
        · have htk : ls.take k = ls := List.take_of_length_le (by have := HN.out; omega)
          rw [htk] at hown
          clear htk
          go_wp2
          go_ret
          exact ⟨_, rfl, hown, hbr⟩
end Go.Proofs.YtjpaeaedfgiomaaDoor

/- The program's codec: calls with their arguments in a row of the call's own: numbers of one to five, slices.Concat of two to four. -/
namespace Go.Proofs.YtjpaeaedfgiomaaDoor
set_option linter.unusedSimpArgs false
open Go.RowKit
set_option linter.unusedVariables false

theorem row_at (v : World) (g c : Nat) (xs : List Value) (hg : g < v.heap.size) (h : ∀ j (h : j < xs.length), v.cell? ⟨g, j, none⟩ = some xs[j]) : Row v v.heap.size (some ⟨g, 0, none⟩) xs :=
  .inr ⟨g, 0, rfl, hg, fun j hj => by rw [Nat.zero_add]; exact h j hj⟩
abbrev I31 (n : Int) : Prop := 0 ≤ n ∧ n ≤ 9223372036854775807
theorem numbers_1 (a : Int) (g : Nat) (v : World) (hg : g < v.heap.size) (pa : I31 a) (h0 : v.cell? ⟨g, 0, none⟩ = some (.int .i64 a)) :
    Calls Tryd.prog 16 #[.slice (some ⟨g, 0, none⟩) 1 1] v (NumsTo [a] v) :=
  numbers_any [a] _ 1 1 v rfl (by decide) (by intro x hx; simp at hx; subst hx; exact pa) (row_at v g 1 _ hg fun j hj => by
    match j, hj with
    | 0, _ => exact h0)
theorem numbers_2 (a b : Int) (g : Nat) (v : World) (hg : g < v.heap.size) (pa : I31 a) (pb : I31 b) (h0 : v.cell? ⟨g, 0, none⟩ = some (.int .i64 a)) (h1 : v.cell? ⟨g, 1, none⟩ = some (.int .i64 b)) :
    Calls Tryd.prog 16 #[.slice (some ⟨g, 0, none⟩) 2 2] v (NumsTo [a, b] v) :=
  numbers_any [a, b] _ 2 2 v rfl (by decide) (by intro x hx; simp at hx; rcases hx with rfl | rfl; exact pa; exact pb) (row_at v g 2 _ hg fun j hj => by
    match j, hj with
    | 0, _ => exact h0
    | 1, _ => exact h1)
theorem numbers_3 (a b c : Int) (g : Nat) (v : World) (hg : g < v.heap.size) (pa : I31 a) (pb : I31 b) (pc : I31 c) (h0 : v.cell? ⟨g, 0, none⟩ = some (.int .i64 a)) (h1 : v.cell? ⟨g, 1, none⟩ = some (.int .i64 b)) (h2 : v.cell? ⟨g, 2, none⟩ = some (.int .i64 c)) :
    Calls Tryd.prog 16 #[.slice (some ⟨g, 0, none⟩) 3 3] v (NumsTo [a, b, c] v) :=
  numbers_any [a, b, c] _ 3 3 v rfl (by decide) (by intro x hx; simp at hx; rcases hx with rfl | rfl | rfl; exact pa; exact pb; exact pc) (row_at v g 3 _ hg fun j hj => by
    match j, hj with
    | 0, _ => exact h0
    | 1, _ => exact h1
    | 2, _ => exact h2)
theorem numbers_4 (a b c d : Int) (g : Nat) (v : World) (hg : g < v.heap.size) (pa : I31 a) (pb : I31 b) (pc : I31 c) (pd : I31 d) (h0 : v.cell? ⟨g, 0, none⟩ = some (.int .i64 a)) (h1 : v.cell? ⟨g, 1, none⟩ = some (.int .i64 b)) (h2 : v.cell? ⟨g, 2, none⟩ = some (.int .i64 c)) (h3 : v.cell? ⟨g, 3, none⟩ = some (.int .i64 d)) :
    Calls Tryd.prog 16 #[.slice (some ⟨g, 0, none⟩) 4 4] v (NumsTo [a, b, c, d] v) :=
  numbers_any [a, b, c, d] _ 4 4 v rfl (by decide) (by intro x hx; simp at hx; rcases hx with rfl | rfl | rfl | rfl; exact pa; exact pb; exact pc; exact pd) (row_at v g 4 _ hg fun j hj => by
    match j, hj with
    | 0, _ => exact h0
    | 1, _ => exact h1
    | 2, _ => exact h2
    | 3, _ => exact h3)
theorem numbers_5 (a b c d e : Int) (g : Nat) (v : World) (hg : g < v.heap.size) (pa : I31 a) (pb : I31 b) (pc : I31 c) (pd : I31 d) (pe : I31 e) (h0 : v.cell? ⟨g, 0, none⟩ = some (.int .i64 a)) (h1 : v.cell? ⟨g, 1, none⟩ = some (.int .i64 b)) (h2 : v.cell? ⟨g, 2, none⟩ = some (.int .i64 c)) (h3 : v.cell? ⟨g, 3, none⟩ = some (.int .i64 d)) (h4 : v.cell? ⟨g, 4, none⟩ = some (.int .i64 e)) :
    Calls Tryd.prog 16 #[.slice (some ⟨g, 0, none⟩) 5 5] v (NumsTo [a, b, c, d, e] v) :=
  numbers_any [a, b, c, d, e] _ 5 5 v rfl (by decide) (by intro x hx; simp at hx; rcases hx with rfl | rfl | rfl | rfl | rfl; exact pa; exact pb; exact pc; exact pd; exact pe) (row_at v g 5 _ hg fun j hj => by
    match j, hj with
    | 0, _ => exact h0
    | 1, _ => exact h1
    | 2, _ => exact h2
    | 3, _ => exact h3
    | 4, _ => exact h4)

/-- A slice of numbers: what slices.Concat takes. -/
def Sl (v : World) (l : List Int) (A : Option Addr) (n c : Nat) : Prop := n = l.length ∧ (A = none → c = 0) ∧ Row v v.heap.size A (u64s l)
theorem Sl.below {v v' : World} {l : List Int} {A : Option Addr} {n c : Nat} (h : Sl v l A n c) (hb : Below v.heap.size v v') : Sl v' l A n c := ⟨h.1, h.2.1, (h.2.2.below hb (Nat.le_refl _)).more hb.size⟩
theorem Sl.of_own {v : World} {B : Nat} {u : Value} {l : List Int} (h : v.ownsRow B 52 1 u (u64s l).length (u64s l)) : ∃ A c, u = .slice A l.length c ∧ Sl v l A l.length c := by
  obtain ⟨A, c, rfl, _, _, hn⟩ := own_form h
  refine ⟨A, c, by simp, rfl, fun e => (hn e).2, (Row.of_own h).1⟩
theorem Sl.box {v : World} {g o : Nat} {a b c d : Int} (hg : g < v.heap.size) (h0 : v.cell? ⟨g, o, none⟩ = some (.int .u64 a)) (h1 : v.cell? ⟨g, o + 1, none⟩ = some (.int .u64 b)) (h2 : v.cell? ⟨g, o + 2, none⟩ = some (.int .u64 c)) (h3 : v.cell? ⟨g, o + 3, none⟩ = some (.int .u64 d)) : Sl v [a, b, c, d] (some ⟨g, o, none⟩) 4 4 :=
  ⟨rfl, (by intro h; cases h), .inr ⟨g, o, rfl, hg, fun j hj => by
    match j, hj with
    | 0, _ => exact h0
    | 1, _ => exact h1
    | 2, _ => exact h2
    | 3, _ => exact h3⟩⟩
/-- What a call that makes memory gives: a slice of numbers. -/
def SlTo (l : List Int) (w : World) (e : Ending) (w' : World) : Prop := ∃ A c, e = .returned (.slice A l.length c) ∧ Sl w' l A l.length c ∧ Below w.heap.size w w'
theorem SlTo.of {l : List Int} {w w' : World} {e : Ending} (h : NumsTo l w e w') : SlTo l w e w' := by
  obtain ⟨v, rfl, ho, hb⟩ := h
  obtain ⟨A, c, rfl, hs⟩ := Sl.of_own ho
  exact ⟨A, c, rfl, hs, hb⟩
theorem concat_2 (l1 l2 : List Int) (A1 A2 : Option Addr) (n1 c1 n2 c2 g : Nat) (v : World) (hg : g < v.heap.size) (hl : l1.length + l2.length ≤ 100000) (s1 : Sl v l1 A1 n1 c1) (s2 : Sl v l2 A2 n2 c2)
    (h0 : v.cell? ⟨g, 0, none⟩ = some (.slice A1 n1 c1)) (h1 : v.cell? ⟨g, 1, none⟩ = some (.slice A2 n2 c2)) :
    Calls Tryd.prog 15 #[.slice (some ⟨g, 0, none⟩) 2 2] v (NumsTo (l1 ++ l2) v) := by
  have := concat_any [l1, l2] [.slice A1 n1 c1, .slice A2 n2 c2] (some ⟨g, 0, none⟩) 2 2 v rfl (by decide) (by simp; omega) (row_at v g 2 _ hg fun j hj => by
    match j, hj with
    | 0, _ => exact h0
    | 1, _ => exact h1) (.cons s1.1 s1.2.1 s1.2.2 (.cons s2.1 s2.2.1 s2.2.2 .nil))
  simpa only [List.flatten_cons, List.flatten_nil, List.append_nil] using this
theorem concat_3 (l1 l2 l3 : List Int) (A1 A2 A3 : Option Addr) (n1 c1 n2 c2 n3 c3 g : Nat) (v : World) (hg : g < v.heap.size) (hl : l1.length + (l2.length + l3.length) ≤ 100000) (s1 : Sl v l1 A1 n1 c1) (s2 : Sl v l2 A2 n2 c2) (s3 : Sl v l3 A3 n3 c3)
    (h0 : v.cell? ⟨g, 0, none⟩ = some (.slice A1 n1 c1)) (h1 : v.cell? ⟨g, 1, none⟩ = some (.slice A2 n2 c2)) (h2 : v.cell? ⟨g, 2, none⟩ = some (.slice A3 n3 c3)) :
    Calls Tryd.prog 15 #[.slice (some ⟨g, 0, none⟩) 3 3] v (NumsTo (l1 ++ (l2 ++ l3)) v) := by
  have := concat_any [l1, l2, l3] [.slice A1 n1 c1, .slice A2 n2 c2, .slice A3 n3 c3] (some ⟨g, 0, none⟩) 3 3 v rfl (by decide) (by simp; omega) (row_at v g 3 _ hg fun j hj => by
    match j, hj with
    | 0, _ => exact h0
    | 1, _ => exact h1
    | 2, _ => exact h2) (.cons s1.1 s1.2.1 s1.2.2 (.cons s2.1 s2.2.1 s2.2.2 (.cons s3.1 s3.2.1 s3.2.2 .nil)))
  simpa only [List.flatten_cons, List.flatten_nil, List.append_nil] using this
theorem concat_4 (l1 l2 l3 l4 : List Int) (A1 A2 A3 A4 : Option Addr) (n1 c1 n2 c2 n3 c3 n4 c4 g : Nat) (v : World) (hg : g < v.heap.size) (hl : l1.length + (l2.length + (l3.length + l4.length)) ≤ 100000) (s1 : Sl v l1 A1 n1 c1) (s2 : Sl v l2 A2 n2 c2) (s3 : Sl v l3 A3 n3 c3) (s4 : Sl v l4 A4 n4 c4)
    (h0 : v.cell? ⟨g, 0, none⟩ = some (.slice A1 n1 c1)) (h1 : v.cell? ⟨g, 1, none⟩ = some (.slice A2 n2 c2)) (h2 : v.cell? ⟨g, 2, none⟩ = some (.slice A3 n3 c3)) (h3 : v.cell? ⟨g, 3, none⟩ = some (.slice A4 n4 c4)) :
    Calls Tryd.prog 15 #[.slice (some ⟨g, 0, none⟩) 4 4] v (NumsTo (l1 ++ (l2 ++ (l3 ++ l4))) v) := by
  have := concat_any [l1, l2, l3, l4] [.slice A1 n1 c1, .slice A2 n2 c2, .slice A3 n3 c3, .slice A4 n4 c4] (some ⟨g, 0, none⟩) 4 4 v rfl (by decide) (by simp; omega) (row_at v g 4 _ hg fun j hj => by
    match j, hj with
    | 0, _ => exact h0
    | 1, _ => exact h1
    | 2, _ => exact h2
    | 3, _ => exact h3) (.cons s1.1 s1.2.1 s1.2.2 (.cons s2.1 s2.2.1 s2.2.2 (.cons s3.1 s3.2.1 s3.2.2 (.cons s4.1 s4.2.1 s4.2.2 .nil))))
  simpa only [List.flatten_cons, List.flatten_nil, List.append_nil] using this
theorem NumsTo.lift {l : List Int} {w v w' : World} {e : Ending} (h : NumsTo l v e w') (hb : Below w.heap.size w v) : NumsTo l w e w' := by
  obtain ⟨u, rfl, ho, hb'⟩ := h
  refine ⟨u, rfl, ⟨ho.1, ?_⟩, hb.trans (hb'.mono hb.size)⟩
  rcases ho.2 with h0 | ⟨g, cap, cur, hv, hbg, hg, rest⟩
  · exact .inl h0
  · exact .inr ⟨g, cap, cur, hv, Nat.le_trans hb.size hbg, hg, rest⟩
theorem Keeps.refl (W : World) : Keeps W W := Keeps.of (Below.refl _ _)
theorem Keeps.drew {W v : World} (h : Keeps W v) : Keeps W v.drew := Keeps.of (Below.drew h.2)
theorem Keeps.set {W v : World} {p : Addr} (h : Keeps W v) (hp : W.heap.size ≤ p.block) (x : Value) : Keeps W (v.setCell p x) := Keeps.of (h.2.setCell hp x)
theorem numbers_2s (a b : Int) (g : Nat) (v : World) (hg : g < v.heap.size) (pa : I31 a) (pb : I31 b) (h0 : v.cell? ⟨g, 0, none⟩ = some (.int .i64 a)) (h1 : v.cell? ⟨g, 1, none⟩ = some (.int .i64 b)) :
    Calls Tryd.prog 16 #[.slice (some ⟨g, 0, none⟩) 2 2] v (SlTo [a, b] v) := (numbers_2 a b g v hg pa pb h0 h1).mono fun _ _ => SlTo.of
theorem numbers_1s (a : Int) (g : Nat) (v : World) (hg : g < v.heap.size) (pa : I31 a) (h0 : v.cell? ⟨g, 0, none⟩ = some (.int .i64 a)) :
    Calls Tryd.prog 16 #[.slice (some ⟨g, 0, none⟩) 1 1] v (SlTo [a] v) := (numbers_1 a g v hg pa h0).mono fun _ _ => SlTo.of
theorem numbers_3s (a b c : Int) (g : Nat) (v : World) (hg : g < v.heap.size) (pa : I31 a) (pb : I31 b) (pc : I31 c) (h0 : v.cell? ⟨g, 0, none⟩ = some (.int .i64 a)) (h1 : v.cell? ⟨g, 1, none⟩ = some (.int .i64 b)) (h2 : v.cell? ⟨g, 2, none⟩ = some (.int .i64 c)) :
    Calls Tryd.prog 16 #[.slice (some ⟨g, 0, none⟩) 3 3] v (SlTo [a, b, c] v) := (numbers_3 a b c g v hg pa pb pc h0 h1 h2).mono fun _ _ => SlTo.of
theorem i31_truth (b : Bool) : I31 (truthN b) := by cases b <;> decide
/-- The last call of a writer: what it tells is a row of the writer's own. -/
theorem nums_end {l : List Int} {W w v w' : World} {e : Ending} (kW : Below w.heap.size w W) (k : Keeps W v) (h : NumsTo l v e w') : NumsTo l w e w' :=
  h.lift (kW.trans (k.2.mono kW.size))
end Go.Proofs.YtjpaeaedfgiomaaDoor

/- The program's codec: the numbers of a node. -/
namespace Go.Proofs.YtjpaeaedfgiomaaDoor
set_option linter.unusedSimpArgs false
open Go.RowKit
set_option linter.unusedVariables false

end Go.Proofs.YtjpaeaedfgiomaaDoor

/- The program's each, at one kind of record: the numbers of all, one behind the other. -/
namespace Go.Proofs.YtjpaeaedfgiomaaDoor
set_option linter.unusedSimpArgs false
open Go.RowKit
set_option linter.unusedVariables false

def OknN (x : NodeD) : Prop := I31 x.id ∧ I31 x.zone
def FlatNRel (l : List NodeD) (w : World) (v i : Value) (wr : World) : Prop :=
  ∃ k : Nat, k ≤ l.length ∧ i = .int .i64 k ∧ wr.ownsRow w.heap.size 52 1 v (u64s ((l.take k).flatMap nodeK.nums)).length (u64s ((l.take k).flatMap nodeK.nums)) ∧ Below w.heap.size w wr
end Go.Proofs.YtjpaeaedfgiomaaDoor

/- The program's codec: the numbers of a load. -/
namespace Go.Proofs.YtjpaeaedfgiomaaDoor
set_option linter.unusedSimpArgs false
open Go.RowKit
set_option linter.unusedVariables false

end Go.Proofs.YtjpaeaedfgiomaaDoor

/- The program's each, at one kind of record: the numbers of all, one behind the other. -/
namespace Go.Proofs.YtjpaeaedfgiomaaDoor
set_option linter.unusedSimpArgs false
open Go.RowKit
set_option linter.unusedVariables false

def OknL (x : LoadD) : Prop := I31 x.id ∧ I31 x.skew ∧ I31 x.min ∧ I31 x.max
def FlatLRel (l : List LoadD) (w : World) (v i : Value) (wr : World) : Prop :=
  ∃ k : Nat, k ≤ l.length ∧ i = .int .i64 k ∧ wr.ownsRow w.heap.size 52 1 v (u64s ((l.take k).flatMap loadK.nums)).length (u64s ((l.take k).flatMap loadK.nums)) ∧ Below w.heap.size w wr
end Go.Proofs.YtjpaeaedfgiomaaDoor

/- The program's codec: the numbers of a pod. -/
namespace Go.Proofs.YtjpaeaedfgiomaaDoor
set_option linter.unusedSimpArgs false
open Go.RowKit
set_option linter.unusedVariables false

end Go.Proofs.YtjpaeaedfgiomaaDoor

/- The program's each, at one kind of record: the numbers of all, one behind the other. -/
namespace Go.Proofs.YtjpaeaedfgiomaaDoor
set_option linter.unusedSimpArgs false
open Go.RowKit
set_option linter.unusedVariables false

def OknP (x : PodD) : Prop := I31 x.id ∧ I31 x.load ∧ I31 x.prio ∧ I31 x.node
def FlatPRel (l : List PodD) (w : World) (v i : Value) (wr : World) : Prop :=
  ∃ k : Nat, k ≤ l.length ∧ i = .int .i64 k ∧ wr.ownsRow w.heap.size 52 1 v (u64s ((l.take k).flatMap podK.nums)).length (u64s ((l.take k).flatMap podK.nums)) ∧ Below w.heap.size w wr
end Go.Proofs.YtjpaeaedfgiomaaDoor

/- The program's codec: the numbers of a want. -/
namespace Go.Proofs.YtjpaeaedfgiomaaDoor
set_option linter.unusedSimpArgs false
open Go.RowKit
set_option linter.unusedVariables false

end Go.Proofs.YtjpaeaedfgiomaaDoor

namespace Go.Proofs.YtjpaeaedfgiomaaDoor
set_option linter.unusedSimpArgs false
open Go.RowKit
set_option linter.unusedVariables false

def OknW (x : WantD) : Prop := I31 x.pod
def FlatWRel (l : List WantD) (w : World) (v i : Value) (wr : World) : Prop :=
  ∃ k : Nat, k ≤ l.length ∧ i = .int .i64 k ∧ wr.ownsRow w.heap.size 52 1 v (u64s ((l.take k).flatMap wantK.nums)).length (u64s ((l.take k).flatMap wantK.nums)) ∧ Below w.heap.size w wr
end Go.Proofs.YtjpaeaedfgiomaaDoor
