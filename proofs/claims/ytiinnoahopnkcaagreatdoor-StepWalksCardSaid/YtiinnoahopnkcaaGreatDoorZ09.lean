/- Joined texts, part 9: YA VecA VecB VecC VecD. -/
import Derived.Test.YtiinnoahopnkcaaGreatDoorZ08
import Derived.Lib.Slices
import Derived.Test.YtiinnoahopnkcaaGreatDoorRows
import Derived.WalkKit
import Derived.WalkSpells
import Derived.WalkLawsBesides
import Derived.Laws.Externs
import Derived.Shelf.Spec.BitsCarry
import Derived.Lib.Hide
import Derived.Deep.QuietTactic
import Derived.BigQuiet

/- Plain mathematics of loads over zones. -/
namespace Go.Proofs.YtiinnoahopnkcaaGreatDoor
set_option linter.unusedSimpArgs false
open Go.RowKit
set_option linter.unusedVariables false

/-- The zone that a pod is in. -/
def zoneD (ns : List NodeD) (p : PodD) : Option Int :=
  if p.node = 0 then none else
    if place NodeD.id p.node ns 0 < 0 then none else (ns[(place NodeD.id p.node ns 0).toNat]?).map NodeD.zone
theorem zoneD_nowhere {ns : List NodeD} {p : PodD} (h : p.node = 0) : zoneD ns p = none := by simp [zoneD, h]
theorem zoneD_none {ns : List NodeD} {p : PodD} (h : place NodeD.id p.node ns 0 < 0) : zoneD ns p = none := by simp [zoneD, h]
theorem zoneD_some {ns : List NodeD} {p : PodD} {i : Nat} (h0 : p.node ≠ 0) (hi : i < ns.length) (h : place NodeD.id p.node ns 0 = i) : zoneD ns p = some ns[i].zone := by
  have : ¬ (i : Int) < 0 := by omega
  simp [zoneD, h0, h, this, hi]
def inZ (ns : List NodeD) (load z : Int) (p : PodD) : Bool := p.load == load && zoneD ns p == some z
/-- A load's count in a zone. -/
def countD (ns : List NodeD) (load z : Int) (l : List PodD) : Nat := l.countP (inZ ns load z)
def countsD (ns : List NodeD) (load : Int) (zs : List Int) (l : List PodD) : List Int := zs.map fun z => (countD ns load z l : Int)
theorem counts_len {ns : List NodeD} {load : Int} {zs : List Int} {l : List PodD} : (countsD ns load zs l).length = zs.length := by simp [countsD]
theorem count_le (ns : List NodeD) (load z : Int) (l : List PodD) : countD ns load z l ≤ l.length := List.countP_le_length
theorem count_next {ns : List NodeD} {load z : Int} {l : List PodD} {k : Nat} (h : k < l.length) {p : PodD} (hx : l[k] = p) : countD ns load z (l.take (k + 1)) = countD ns load z (l.take k) + if inZ ns load z p = true then 1 else 0 := by
  unfold countD
  rw [List.take_succ_eq_append_getElem h, hx, List.countP_append]
  simp [List.countP_cons]
theorem counts_zero (ns : List NodeD) (load : Int) (zs : List Int) (l : List PodD) : countsD ns load zs (l.take 0) = List.replicate zs.length 0 := by
  simp [countsD, countD, List.map_const']
theorem counts_skip {ns : List NodeD} {load : Int} {zs : List Int} {l : List PodD} {k : Nat} (h : k < l.length) {p : PodD} (hx : l[k] = p) (hno : ∀ z ∈ zs, inZ ns load z p = false) : countsD ns load zs (l.take (k + 1)) = countsD ns load zs (l.take k) := by
  unfold countsD
  refine List.map_congr_left fun z hz => ?_
  rw [count_next h hx, hno z hz]
  simp
theorem inZ_load {ns : List NodeD} {load z : Int} {p : PodD} (h : p.load ≠ load) : inZ ns load z p = false := by simp [inZ, h]
theorem inZ_none {ns : List NodeD} {load z : Int} {p : PodD} (h : zoneD ns p = none) : inZ ns load z p = false := by simp [inZ, h]
theorem inZ_other {ns : List NodeD} {load z y : Int} {p : PodD} (h : zoneD ns p = some y) (hy : y ≠ z) : inZ ns load z p = false := by simp [inZ, h, hy]
theorem inZ_here {ns : List NodeD} {load z : Int} {p : PodD} (hl : p.load = load) (h : zoneD ns p = some z) : inZ ns load z p = true := by simp [inZ, h, hl]
theorem rising_at8 {z : Int} : ∀ {zs : List Int}, Rising zs → z ∈ zs → ∃ hi : zs.countP (· < z) < zs.length, zs[zs.countP (· < z)] = z ∧ ∀ j, ∀ hj : j < zs.length, j ≠ zs.countP (· < z) → zs[j] ≠ z
  | [], _, h => by simp at h
  | x :: r, hr, h => by
    by_cases hx : x = z
    · subst hx
      have h0 : r.countP (· < x) = 0 := by
        rw [List.countP_eq_zero]
        intro y hy
        have := hr.1 y hy
        simp; omega
      have e : (x :: r).countP (· < x) = 0 := by simp [h0]
      refine ⟨by rw [e]; simp, by simp [e], fun j hj hne => ?_⟩
      rw [e] at hne
      cases j with
      | zero => exact absurd rfl hne
      | succ j =>
        have := hr.1 _ (List.getElem_mem (l := r) (n := j) (by simpa using hj))
        simp only [List.getElem_cons_succ]
        omega
    · have hm : z ∈ r := by
        rcases List.mem_cons.1 h with e | e
        · exact absurd e.symm hx
        · exact e
      obtain ⟨i1, i2, i3⟩ := rising_at8 hr.2 hm
      have hlt := hr.1 z hm
      have e : (x :: r).countP (· < z) = r.countP (· < z) + 1 := by simp [hlt]
      refine ⟨by rw [e]; simpa using i1, by simp only [e, List.getElem_cons_succ]; exact i2, fun j hj hne => ?_⟩
      rw [e] at hne
      cases j with
      | zero => simpa using hx
      | succ j => simp only [List.getElem_cons_succ]; exact i3 j (by simpa using hj) (by omega)
theorem counts_bump {ns : List NodeD} {load z : Int} {zs : List Int} {l : List PodD} {k : Nat} (h : k < l.length) {p : PodD} (hx : l[k] = p) (hl : p.load = load) (hz : zoneD ns p = some z) (hr : Rising zs) (hm : z ∈ zs) :
    zs.countP (· < z) < zs.length ∧ (countsD ns load zs (l.take k))[zs.countP (· < z)]? = some (countD ns load z (l.take k) : Int) ∧ countsD ns load zs (l.take (k + 1)) = (countsD ns load zs (l.take k)).set (zs.countP (· < z)) ((countD ns load z (l.take k) : Int) + 1) := by
  obtain ⟨hi, he, hne⟩ := rising_at8 hr hm
  refine ⟨hi, ?_, ?_⟩
  · unfold countsD
    rw [List.getElem?_map, List.getElem?_eq_getElem hi, he]
    rfl
  · refine List.ext_getElem (by simp [counts_len]) fun j h1 h2 => ?_
    have hj : j < zs.length := by simpa [counts_len] using h1
    rw [List.getElem_set]
    by_cases e : zs.countP (· < z) = j
    · subst e
      rw [if_pos rfl]
      simp only [countsD, List.getElem_map, he]
      rw [count_next h hx, inZ_here hl hz]
      simp
    · rw [if_neg e]
      simp only [countsD, List.getElem_map]
      rw [count_next h hx, inZ_other hz (fun q => hne j hj (fun w => e w.symm) q.symm)]
      simp
theorem rising_le : ∀ {zs : List Int}, Rising zs → zs.Pairwise (· ≤ ·)
  | [], _ => List.Pairwise.nil
  | x :: r, h => List.Pairwise.cons (fun y hy => by have := h.1 y hy; omega) (rising_le h.2)
theorem rising_nodup : ∀ {zs : List Int}, Rising zs → zs.Nodup
  | [], _ => List.nodup_nil
  | x :: r, h => List.nodup_cons.2 ⟨fun hm => by have := h.1 x hm; omega, rising_nodup h.2⟩

/-! The greatest and the least one. -/
theorem foldl_max : ∀ (r : List Int) (a : Int), a ≤ r.foldl max a ∧ (∀ x ∈ r, x ≤ r.foldl max a) ∧ (r.foldl max a = a ∨ r.foldl max a ∈ r)
  | [], a => ⟨Int.le_refl _, by simp, .inl rfl⟩
  | y :: r, a => by
    obtain ⟨h1, h2, h3⟩ := foldl_max r (max a y)
    refine ⟨by simp only [List.foldl_cons]; omega, fun x hx => ?_, ?_⟩
    · simp only [List.foldl_cons]
      rcases List.mem_cons.1 hx with e | e
      · omega
      · exact h2 x e
    · simp only [List.foldl_cons]
      rcases h3 with e | e
      · rw [e]
        by_cases q : y ≤ a
        · left; omega
        · right; rw [show max a y = y by omega]; simp
      · right; simp [e]
theorem foldl_min : ∀ (r : List Int) (a : Int), r.foldl min a ≤ a ∧ (∀ x ∈ r, r.foldl min a ≤ x) ∧ (r.foldl min a = a ∨ r.foldl min a ∈ r)
  | [], a => ⟨Int.le_refl _, by simp, .inl rfl⟩
  | y :: r, a => by
    obtain ⟨h1, h2, h3⟩ := foldl_min r (min a y)
    refine ⟨by simp only [List.foldl_cons]; omega, fun x hx => ?_, ?_⟩
    · simp only [List.foldl_cons]
      rcases List.mem_cons.1 hx with e | e
      · omega
      · exact h2 x e
    · simp only [List.foldl_cons]
      rcases h3 with e | e
      · rw [e]
        by_cases q : a ≤ y
        · left; omega
        · right; rw [show min a y = y by omega]; simp
      · right; simp [e]
theorem maxOf_spec {zs : List Int} (h : zs ≠ []) : Lib.maxOf zs ∈ zs ∧ ∀ x ∈ zs, x ≤ Lib.maxOf zs := by
  obtain ⟨a, r, rfl⟩ := List.exists_cons_of_ne_nil h
  obtain ⟨h1, h2, h3⟩ := foldl_max (a :: r) a
  refine ⟨?_, h2⟩
  rcases h3 with e | e
  · unfold Lib.maxOf; rw [List.headD_cons, e]; simp
  · exact e
theorem minOf_spec {zs : List Int} (h : zs ≠ []) : Lib.minOf zs ∈ zs ∧ ∀ x ∈ zs, Lib.minOf zs ≤ x := by
  obtain ⟨a, r, rfl⟩ := List.exists_cons_of_ne_nil h
  obtain ⟨h1, h2, h3⟩ := foldl_min (a :: r) a
  refine ⟨?_, h2⟩
  rcases h3 with e | e
  · unfold Lib.minOf; rw [List.headD_cons, e]; simp
  · exact e
/-- How unlike zones are. -/
def skewD (ns : List NodeD) (load : Int) (zs : List Int) (l : List PodD) : Int := if zs = [] then 0 else Lib.maxOf (countsD ns load zs l) - Lib.minOf (countsD ns load zs l)
theorem counts_ne {ns : List NodeD} {load : Int} {zs : List Int} {l : List PodD} (h : zs ≠ []) : countsD ns load zs l ≠ [] := by
  intro e
  exact h (List.eq_nil_of_length_eq_zero (by rw [← counts_len (ns := ns) (load := load) (l := l), e]; rfl))
theorem counts_bounds {ns : List NodeD} {load : Int} {zs : List Int} {l : List PodD} {x : Int} (h : x ∈ countsD ns load zs l) : 0 ≤ x ∧ x ≤ l.length := by
  simp only [countsD, List.mem_map] at h
  obtain ⟨z, _, rfl⟩ := h
  have := count_le ns load z l
  omega
theorem skew_max {ns : List NodeD} {load : Int} {zs : List Int} {l : List PodD} (h : zs ≠ []) : skewD ns load zs l = Lib.maxOf (countsD ns load zs l) - Lib.minOf (countsD ns load zs l) ∧ 0 ≤ Lib.minOf (countsD ns load zs l) ∧ Lib.minOf (countsD ns load zs l) ≤ Lib.maxOf (countsD ns load zs l) ∧ Lib.maxOf (countsD ns load zs l) ≤ l.length := by
  have hn := counts_ne (ns := ns) (load := load) (l := l) h
  obtain ⟨m1, m2⟩ := maxOf_spec hn
  obtain ⟨n1, n2⟩ := minOf_spec hn
  exact ⟨by rw [skewD, if_neg h], (counts_bounds n1).1, m2 _ n1, (counts_bounds m1).2⟩
theorem skew_bounds (ns : List NodeD) (load : Int) (zs : List Int) (l : List PodD) : 0 ≤ skewD ns load zs l ∧ skewD ns load zs l ≤ l.length := by
  by_cases h : zs = []
  · rw [skewD, if_pos h]; omega
  · have := skew_max (ns := ns) (load := load) (l := l) h
    omega
/-! All counts together. -/
/-- Is a pod of this load, at a node that there is? -/
def thereD (ns : List NodeD) (load : Int) (p : PodD) : Bool := p.load == load && (p.node != 0 && decide (0 ≤ place NodeD.id p.node ns 0))
theorem zone_there {ns : List NodeD} {p : PodD} (h0 : p.node ≠ 0) (h : ¬ place NodeD.id p.node ns 0 < 0) : ∃ z, zoneD ns p = some z ∧ z ∈ zonesOf ns := by
  have hg := place_ge (f := NodeD.id) (id := p.node) (l := ns) (k := 0) (by omega)
  obtain ⟨i, hi⟩ := Int.eq_ofNat_of_zero_le (show 0 ≤ place NodeD.id p.node ns 0 by omega)
  have hi' : i < ns.length := by omega
  refine ⟨_, zoneD_some h0 hi' hi, ?_⟩
  unfold zonesOf
  rw [zones_mem]
  left
  simp
  exact ⟨_, List.getElem_mem hi', rfl⟩
theorem sum_add (f g : Int → Int) : ∀ zs : List Int, (zs.map fun z => f z + g z).sum = (zs.map f).sum + (zs.map g).sum
  | [] => rfl
  | z :: r => by simp only [List.map_cons, List.sum_cons, sum_add f g r]; omega
theorem sum_none (f : Int → Int) : ∀ zs : List Int, (∀ z ∈ zs, f z = 0) → (zs.map f).sum = 0
  | [], _ => rfl
  | z :: r, h => by simp only [List.map_cons, List.sum_cons, h z (by simp), sum_none f r fun y hy => h y (by simp [hy])]; rfl
theorem sum_one (f : Int → Int) (y : Int) : ∀ zs : List Int, zs.Nodup → y ∈ zs → f y = 1 → (∀ z ∈ zs, z ≠ y → f z = 0) → (zs.map f).sum = 1
  | [], _, h, _, _ => by simp at h
  | z :: r, hn, hm, h1, h0 => by
    simp only [List.map_cons, List.sum_cons]
    by_cases e : z = y
    · subst e
      rw [h1, sum_none f r fun x hx => h0 x (by simp [hx]) fun q => (List.nodup_cons.1 hn).1 (q ▸ hx)]
      rfl
    · rw [h0 z (by simp) e, sum_one f y r (List.nodup_cons.1 hn).2 ((List.mem_cons.1 hm).resolve_left fun q => e q.symm) h1 fun x hx => h0 x (by simp [hx])]
      rfl
theorem counts_all (ns : List NodeD) (load : Int) : ∀ l : List PodD, (countsD ns load (zonesOf ns) l).sum = (l.countP (thereD ns load) : Nat)
  | [] => by
    unfold countsD
    rw [sum_none _ _ fun z _ => by simp [countD]]
    rfl
  | p :: r => by
    have hc : countsD ns load (zonesOf ns) (p :: r) = (zonesOf ns).map fun z => (countD ns load z r : Int) + (if inZ ns load z p = true then 1 else 0) := by
      unfold countsD
      refine List.map_congr_left fun z _ => ?_
      unfold countD
      rw [List.countP_cons]
      split <;> simp
    rw [hc, sum_add]
    have ih := counts_all ns load r
    unfold countsD at ih
    rw [ih, List.countP_cons]
    have key : ((zonesOf ns).map fun z => (if inZ ns load z p = true then (1 : Int) else 0)).sum = if thereD ns load p = true then 1 else 0 := by
      by_cases hl : p.load = load
      · by_cases h0 : p.node = 0
        · rw [sum_none (fun z => if inZ ns load z p = true then (1 : Int) else 0) _ fun z _ => by show (if inZ ns load z p = true then (1 : Int) else 0) = 0; rw [inZ_none (zoneD_nowhere h0)]; rfl]
          simp [thereD, h0]
        · by_cases hp : place NodeD.id p.node ns 0 < 0
          · rw [sum_none (fun z => if inZ ns load z p = true then (1 : Int) else 0) _ fun z _ => by show (if inZ ns load z p = true then (1 : Int) else 0) = 0; rw [inZ_none (zoneD_none hp)]; rfl]
            have : ¬ 0 ≤ place NodeD.id p.node ns 0 := by omega
            simp [thereD, this]
          · obtain ⟨y, hy, hm⟩ := zone_there h0 hp
            rw [sum_one (fun z => if inZ ns load z p = true then (1 : Int) else 0) y (zonesOf ns) (rising_nodup (zones_fold ns [] trivial).1) hm (by show (if inZ ns load y p = true then (1 : Int) else 0) = 1; rw [inZ_here hl hy]; rfl) fun z _ hz => by show (if inZ ns load z p = true then (1 : Int) else 0) = 0; rw [inZ_other hy (fun q => hz q.symm)]; rfl]
            have : 0 ≤ place NodeD.id p.node ns 0 := by omega
            simp [thereD, hl, h0, this]
      · rw [sum_none (fun z => if inZ ns load z p = true then (1 : Int) else 0) _ fun z _ => by show (if inZ ns load z p = true then (1 : Int) else 0) = 0; rw [inZ_load hl]; rfl]
        simp [thereD, hl]
    rw [key]
    split <;> simp
/-! What a move changes. -/
theorem near_max {a b : List Int} (h : a ≠ []) (hl : a.length = b.length) (hd : ∀ i, ∀ h1 : i < a.length, ∀ h2 : i < b.length, a[i] ≤ b[i] + 1) : Lib.maxOf a ≤ Lib.maxOf b + 1 := by
  obtain ⟨m1, _⟩ := maxOf_spec h
  obtain ⟨i, hi, e⟩ := List.getElem_of_mem m1
  have hb : b ≠ [] := fun q => h (List.eq_nil_of_length_eq_zero (by rw [hl, q]; rfl))
  have := (maxOf_spec hb).2 b[i] (List.getElem_mem (by omega))
  have := hd i hi (by omega)
  omega
theorem near_min {a b : List Int} (h : a ≠ []) (hl : a.length = b.length) (hd : ∀ i, ∀ h1 : i < a.length, ∀ h2 : i < b.length, a[i] ≤ b[i] + 1) : Lib.minOf a ≤ Lib.minOf b + 1 := by
  have hb : b ≠ [] := fun q => h (List.eq_nil_of_length_eq_zero (by rw [hl, q]; rfl))
  obtain ⟨m1, _⟩ := minOf_spec hb
  obtain ⟨i, hi, e⟩ := List.getElem_of_mem m1
  have := (minOf_spec h).2 a[i] (List.getElem_mem (by omega))
  have := hd i (by omega) hi
  omega
theorem count_set (ns : List NodeD) (load z : Int) (l : List PodD) (i : Nat) (p : PodD) : countD ns load z (l.set i p) ≤ countD ns load z l + 1 ∧ countD ns load z l ≤ countD ns load z (l.set i p) + 1 := by
  by_cases hi : i < l.length
  · unfold countD
    have h1 : l.countP (inZ ns load z) = (l.take i).countP (inZ ns load z) + ((if inZ ns load z l[i] = true then 1 else 0) + (l.drop (i + 1)).countP (inZ ns load z)) := by
      conv => lhs; rw [← List.take_append_drop i l, List.drop_eq_getElem_cons hi, List.countP_append, List.countP_cons]
      omega
    have h2 : (l.set i p).countP (inZ ns load z) = (l.take i).countP (inZ ns load z) + ((if inZ ns load z p = true then 1 else 0) + (l.drop (i + 1)).countP (inZ ns load z)) := by
      rw [List.set_eq_take_append_cons_drop, if_pos hi, List.countP_append, List.countP_cons]
      omega
    rw [h1, h2]
    split <;> split <;> omega
  · rw [List.set_eq_of_length_le (by omega)]; omega
theorem skew_set (ns : List NodeD) (load : Int) (zs : List Int) (l : List PodD) (i : Nat) (p : PodD) : skewD ns load zs (l.set i p) ≤ skewD ns load zs l + 2 ∧ skewD ns load zs l ≤ skewD ns load zs (l.set i p) + 2 := by
  by_cases h : zs = []
  · simp [skewD, h]
  · have n1 := counts_ne (ns := ns) (load := load) (l := l) h
    have n2 := counts_ne (ns := ns) (load := load) (l := l.set i p) h
    have hl : (countsD ns load zs (l.set i p)).length = (countsD ns load zs l).length := by rw [counts_len, counts_len]
    have d1 : ∀ j, ∀ h1 : j < (countsD ns load zs (l.set i p)).length, ∀ h2 : j < (countsD ns load zs l).length, (countsD ns load zs (l.set i p))[j] ≤ (countsD ns load zs l)[j] + 1 := fun j h1 h2 => by
      simp only [countsD, List.getElem_map]
      have := count_set ns load (zs[j]'(by rwa [counts_len] at h1)) l i p
      omega
    have d2 : ∀ j, ∀ h1 : j < (countsD ns load zs l).length, ∀ h2 : j < (countsD ns load zs (l.set i p)).length, (countsD ns load zs l)[j] ≤ (countsD ns load zs (l.set i p))[j] + 1 := fun j h1 h2 => by
      simp only [countsD, List.getElem_map]
      have := count_set ns load (zs[j]'(by rwa [counts_len] at h1)) l i p
      omega
    have a1 := near_max n2 hl d1
    have a2 := near_max n1 hl.symm d2
    have a3 := near_min n2 hl d1
    have a4 := near_min n1 hl.symm d2
    rw [skewD, skewD, if_neg h, if_neg h]
    omega
theorem skew_behind (ns : List NodeD) (load : Int) (zs : List Int) (x : List WantD) (t : StateD) (m : MoveD) :
    skewD ns load zs (behindD x t m).pods - skewD ns load zs t.pods ≤ (if m.kind = 4 then 4 else 2) ∧ -(skewD ns load zs (behindD x t m).pods - skewD ns load zs t.pods) ≤ (if m.kind = 4 then 4 else 2) := by
  unfold behindD
  by_cases h2 : m.kind = 2
  · rw [if_pos h2, if_neg (by omega)]
    have := skew_set ns load zs t.pods (idxD m.pod t.pods) (goD (podZ m.pod t.pods))
    constructor <;> (dsimp only; omega)
  · rw [if_neg h2]
    by_cases h3 : m.kind = 3
    · rw [if_pos h3, if_neg (by omega)]
      have := skew_set ns load zs t.pods (idxD m.pod t.pods) (comeD x m.node (podZ m.pod t.pods))
      constructor <;> (dsimp only; omega)
    · rw [if_neg h3]
      by_cases h4 : m.kind = 4
      · rw [if_pos h4, if_pos h4]
        have q1 := skew_set ns load zs t.pods (idxD m.over t.pods) (goD (podZ m.over t.pods))
        have q2 := skew_set ns load zs (t.pods.set (idxD m.over t.pods) (goD (podZ m.over t.pods))) (idxD m.pod t.pods) (comeD x m.node (podZ m.pod t.pods))
        constructor <;> (dsimp only; omega)
      · rw [if_neg h4, if_neg h4]
        have := skew_set ns load zs t.pods (idxD m.pod t.pods) (comeD x m.node (podZ m.pod t.pods))
        constructor <;> (dsimp only; omega)
theorem skew_made {ns : List NodeD} {x : List WantD} {t : StateD} {m : MoveD} (h : (makeD ns x t m).2 = 0) (load : Int) (zs : List Int) :
    (skewD ns load zs (makeD ns x t m).1.pods - skewD ns load zs t.pods ≤ (if m.kind = 4 then 4 else 2) ∧ -(skewD ns load zs (makeD ns x t m).1.pods - skewD ns load zs t.pods) ≤ (if m.kind = 4 then 4 else 2)) ∧ (makeD ns x t m).1.pods.length = t.pods.length := by
  have e : (makeD ns x t m).1 = behindD x t m := by
    unfold makeD at h ⊢
    split at h
    · cases h
    · split at h
      · cases h
      · split at h
        · cases h
        · rename_i q1 q2 q3
          rw [if_neg q1, if_neg q2, if_neg q3]
  rw [e]
  refine ⟨skew_behind ns load zs x t m, ?_⟩
  unfold behindD
  split
  · simp
  · split
    · simp
    · split <;> simp
end Go.Proofs.YtiinnoahopnkcaaGreatDoor

/- Contracts of the small functions: sums and differences of 64 bits, halves, one sum of the reference. -/
namespace Go.Proofs.YtiinnoahopnkcaaGreatDoor
set_option linter.unusedSimpArgs false
open Go.RowKit
set_option linter.unusedVariables false

theorem below_drewN {B : Nat} {a w : World} (h : Below B a w) (n : Nat) : Below B a (w.drewN n) := ⟨h.os, h.tape, h.output, h.size, h.block⟩
theorem bcell {W w1 : World} (hb : Below W.heap.size W w1) : (∀ b o, b < W.heap.size → w1.cell? ⟨b, o, none⟩ = W.cell? ⟨b, o, none⟩) ∧ (∀ b o, b < W.heap.size → w1.frozen? ⟨b, o, none⟩ = W.frozen? ⟨b, o, none⟩) :=
  ⟨fun b o h => hb.cell (p := ⟨b, o, none⟩) h, fun b o h => hb.frozen (p := ⟨b, o, none⟩) h⟩
theorem quiet_left0 {P : Program} {f : FuncId} {args : Array Value} {w : World} {n : Nat} {v : Value}
    (h : Calls P f args (w.drewN n) fun e w' => e = .returned v ∧ w.drewN n = w') : Calls P f args (w.drewN n) fun e w'' => e = .returned v ∧ ∃ m, w'' = w.drewN m :=
  h.mono fun _ _ ⟨he, hm⟩ => ⟨he, n, hm.symm⟩
theorem quiet_left1 {P : Program} {f : FuncId} {args : Array Value} {w : World} {a n : Nat} {v : Value}
    (h : Calls P f args (w.drewN (a + n)) fun e w' => e = .returned v ∧ w.drewN (a + n) = w') :
    Calls P f args (w.drewN (a + n)) fun e w'' => e = .returned v ∧ ∃ m, w'' = w.drewN (a + m) :=
  h.mono fun _ _ ⟨he, hm⟩ => ⟨he, n, hm.symm⟩

theorem add64_ok (x y : Int) (hx : 0 ≤ x) (hy : 0 ≤ y) (h : x + y < 18446744073709551616) (w : World) :
    (callFunc 149 #[.int .u64 x, .int .u64 y, .int .u64 0]).run Tryz.prog w = .ok (.value (.tuple #[.int .u64 (x + y), .int .u64 0])) w := by
  rw [run_callFunc_extern Tryz.func149 (by kernel_rfl) (by kernel_rfl) (by kernel_rfl) (e := add64Entry) (by kernel_rfl),
    run_add64 (P := Tryz.prog) x y 0 hx hy (by omega) (by omega) w]
  rw [show (x + y + 0) % 18446744073709551616 = x + y by omega, show (x + y + 0) / 18446744073709551616 = 0 by omega]
  rfl
theorem add64_over (x y : Int) (hx : 0 ≤ x) (hy : 0 ≤ y) (hx1 : x < 18446744073709551616) (hy1 : y < 18446744073709551616) (h : 18446744073709551616 ≤ x + y) (w : World) :
    (callFunc 149 #[.int .u64 x, .int .u64 y, .int .u64 0]).run Tryz.prog w = .ok (.value (.tuple #[.int .u64 ((x + y) % 18446744073709551616), .int .u64 1])) w := by
  rw [run_callFunc_extern Tryz.func149 (by kernel_rfl) (by kernel_rfl) (by kernel_rfl) (e := add64Entry) (by kernel_rfl),
    run_add64 (P := Tryz.prog) x y 0 hx hy (by omega) (by omega) w]
  rw [show x + y + 0 = x + y by omega, show (x + y) / 18446744073709551616 = 1 by omega]
  rfl
theorem sub64_ok (x y : Int) (hx : 0 ≤ x) (hy : 0 ≤ y) (hx1 : x < 18446744073709551616) (h : y ≤ x) (w : World) :
    (callFunc 143 #[.int .u64 x, .int .u64 y, .int .u64 0]).run Tryz.prog w = .ok (.value (.tuple #[.int .u64 (x - y), .int .u64 0])) w := by
  obtain ⟨x, rfl⟩ := Int.eq_ofNat_of_zero_le hx
  obtain ⟨y, rfl⟩ := Int.eq_ofNat_of_zero_le hy
  rw [run_callFunc_extern Tryz.func143 (by kernel_rfl) (by kernel_rfl) (by kernel_rfl) (e := sub64Entry) (by kernel_rfl), show (sub64Entry #[.int .u64 x, .int .u64 y, .int .u64 0]).run Tryz.prog w = _ from run_sub64 x y 0 (by omega) w]
  rw [if_neg (by omega), show (((x + 18446744073709551616 - y - 0) % 18446744073709551616 : Nat) : Int) = x - y by omega]
  rfl
theorem sub64_over (x y : Int) (hx : 0 ≤ x) (hy : 0 ≤ y) (h : x < y) (w : World) :
    (callFunc 143 #[.int .u64 x, .int .u64 y, .int .u64 0]).run Tryz.prog w = .ok (.value (.tuple #[.int .u64 ((x + 18446744073709551616 - y).toNat % 18446744073709551616 : Nat), .int .u64 1])) w := by
  obtain ⟨x, rfl⟩ := Int.eq_ofNat_of_zero_le hx
  obtain ⟨y, rfl⟩ := Int.eq_ofNat_of_zero_le hy
  rw [run_callFunc_extern Tryz.func143 (by kernel_rfl) (by kernel_rfl) (by kernel_rfl) (e := sub64Entry) (by kernel_rfl), show (sub64Entry #[.int .u64 x, .int .u64 y, .int .u64 0]).run Tryz.prog w = _ from run_sub64 x y 0 (by omega) w]
  rw [if_pos (by omega), show ((x : Int) + 18446744073709551616 - y).toNat = x + 18446744073709551616 - y - 0 by omega]
  rfl

theorem half_up (x : Int) (h0 : 0 ≤ x) (h1 : x < 18446744073709551616) (w : World) :
    Calls Tryz.prog 148 #[.int .u64 x, .bool true] w fun e w' => e = .returned (.int .u64 (x / 4294967296)) ∧ w = w' := by
  go_enter Tryz.func148, Tryz.ntmps148
  go_wp2
  go_ret
  exact ⟨rfl, rfl⟩
theorem half_low (x : Int) (h0 : 0 ≤ x) (h1 : x < 18446744073709551616) (w : World) :
    Calls Tryz.prog 148 #[.int .u64 x, .bool false] w fun e w' => e = .returned (.int .u64 (x % 4294967296)) ∧ w = w' := by
  go_enter Tryz.func148, Tryz.ntmps148
  go_wp2
  go_ret
  exact ⟨rfl, rfl⟩
theorem one_num (x y : Int) : (x / 4294967296 + y / 4294967296 + (x % 4294967296 + y % 4294967296) / 4294967296) * 4294967296 + (x + y) % 4294967296 = x + y := by omega
theorem ret_ib {a b : Int} {t : Bool} (h : a = b) : Ending.returned (.tuple #[.int .u64 a, .bool t]) = .returned (.tuple #[.int .u64 b, .bool t]) := by rw [h]
set_option maxHeartbeats 400000 in
theorem one_ok (x y : Int) (hx : 0 ≤ x) (hy : 0 ≤ y) (h : x + y < 18446744073709551616) (w : World) :
    Calls Tryz.prog 141 #[.int .u64 x, .int .u64 y] w fun e w' => e = .returned (.tuple #[.int .u64 (x + y), .bool true]) ∧ w = w' := by
  have hg : x / 4294967296 + y / 4294967296 + (x % 4294967296 + y % 4294967296) / 4294967296 < 4294967296 := by omega
  go_enter Tryz.func141, Tryz.ntmps141
  go_wp2_with fail
  refine (half_low x hx (by omega) _).mono ?_; rintro e w' ⟨rfl, rfl⟩
  go_wp2_with fail
  refine (half_low y hy (by omega) _).mono ?_; rintro e w' ⟨rfl, rfl⟩
  go_wp2_with fail
  refine (half_up x hx (by omega) _).mono ?_; rintro e w' ⟨rfl, rfl⟩
  go_wp2_with fail
  refine (half_up y hy (by omega) _).mono ?_; rintro e w' ⟨rfl, rfl⟩
  go_wp2
  go_ret2
  exact ⟨ret_ib (one_num x y), rfl⟩
set_option maxHeartbeats 400000 in
theorem one_over (x y : Int) (hx : 0 ≤ x) (hy : 0 ≤ y) (hx1 : x < 18446744073709551616) (hy1 : y < 18446744073709551616) (h : 18446744073709551616 ≤ x + y) (w : World) :
    Calls Tryz.prog 141 #[.int .u64 x, .int .u64 y] w fun e w' => e = .returned (.tuple #[.int .u64 0, .bool false]) ∧ w = w' := by
  have hg : 4294967296 ≤ x / 4294967296 + y / 4294967296 + (x % 4294967296 + y % 4294967296) / 4294967296 := by omega
  go_enter Tryz.func141, Tryz.ntmps141
  go_wp2_with fail
  refine (half_low x hx (by omega) _).mono ?_; rintro e w' ⟨rfl, rfl⟩
  go_wp2_with fail
  refine (half_low y hy (by omega) _).mono ?_; rintro e w' ⟨rfl, rfl⟩
  go_wp2_with fail
  refine (half_up x hx (by omega) _).mono ?_; rintro e w' ⟨rfl, rfl⟩
  go_wp2_with fail
  refine (half_up y hy (by omega) _).mono ?_; rintro e w' ⟨rfl, rfl⟩
  go_wp2
  go_ret2
  exact ⟨rfl, rfl⟩
end Go.Proofs.YtiinnoahopnkcaaGreatDoor

/- vec.Add: the four sums, or ErrOver. -/
namespace Go.Proofs.YtiinnoahopnkcaaGreatDoor
set_option linter.unusedSimpArgs false
open Go.RowKit
set_option linter.unusedVariables false

set_option maxHeartbeats 1000000 in
theorem add_o0 (a0 a1 a2 a3 b0 b1 b2 b3 : Int) (p0 : 0 ≤ a0) (p1 : 0 ≤ a1) (p2 : 0 ≤ a2) (p3 : 0 ≤ a3) (q0 : 0 ≤ b0) (q1 : 0 ≤ b1) (q2 : 0 ≤ b2) (q3 : 0 ≤ b3) (pm0 : a0 < 18446744073709551616) (pm1 : a1 < 18446744073709551616) (pm2 : a2 < 18446744073709551616) (pm3 : a3 < 18446744073709551616) (qm0 : b0 < 18446744073709551616) (qm1 : b1 < 18446744073709551616) (qm2 : b2 < 18446744073709551616) (qm3 : b3 < 18446744073709551616)  (h0 : 18446744073709551616 ≤ a0 + b0) (w : World) :
    Calls Tryz.prog 142 #[.agg #[.int .u64 a0, .int .u64 a1, .int .u64 a2, .int .u64 a3], .agg #[.int .u64 b0, .int .u64 b1, .int .u64 b2, .int .u64 b3]] w fun e w' =>
      e = .returned (.tuple #[.agg #[.int .u64 0, .int .u64 0, .int .u64 0, .int .u64 0], .iface 54 (.int .i64 8)]) ∧ Below w.heap.size w w' := by
  have e0 := add64_over a0 b0 p0 q0 pm0 qm0 h0
  go_enter Tryz.func142, Tryz.ntmps142
  go_wp2
  refine wp_loop_rounds 5 ?_
  rw [rounds_succ]
  go_wp2
  go_quiet (fail)
  go_wp2
  refine bodyPost_ret (v := .tuple #[.agg #[.int .u64 0, .int .u64 0, .int .u64 0, .int .u64 0], .iface 54 (.int .i64 8)]) ?_ rfl ?_
  · simp [results, Tryz.results142, go_sem]
  · clear e0
    refine ⟨rfl, ?_⟩
    repeat (first | with_reducible exact Below.refl _ _ | with_reducible refine Below.setCell ?_ ?_ _ | with_reducible refine below_drewN ?_ _ | with_reducible refine Below.alloc ?_ ?_ _)
    all_goals first | (simp; done) | (simp; omega)
set_option maxHeartbeats 1000000 in
theorem add_o1 (a0 a1 a2 a3 b0 b1 b2 b3 : Int) (p0 : 0 ≤ a0) (p1 : 0 ≤ a1) (p2 : 0 ≤ a2) (p3 : 0 ≤ a3) (q0 : 0 ≤ b0) (q1 : 0 ≤ b1) (q2 : 0 ≤ b2) (q3 : 0 ≤ b3) (pm0 : a0 < 18446744073709551616) (pm1 : a1 < 18446744073709551616) (pm2 : a2 < 18446744073709551616) (pm3 : a3 < 18446744073709551616) (qm0 : b0 < 18446744073709551616) (qm1 : b1 < 18446744073709551616) (qm2 : b2 < 18446744073709551616) (qm3 : b3 < 18446744073709551616) (h0 : a0 + b0 < 18446744073709551616) (h1 : 18446744073709551616 ≤ a1 + b1) (w : World) :
    Calls Tryz.prog 142 #[.agg #[.int .u64 a0, .int .u64 a1, .int .u64 a2, .int .u64 a3], .agg #[.int .u64 b0, .int .u64 b1, .int .u64 b2, .int .u64 b3]] w fun e w' =>
      e = .returned (.tuple #[.agg #[.int .u64 0, .int .u64 0, .int .u64 0, .int .u64 0], .iface 54 (.int .i64 8)]) ∧ Below w.heap.size w w' := by
  have e0 := add64_ok a0 b0 p0 q0 h0
  have e1 := add64_over a1 b1 p1 q1 pm1 qm1 h1
  go_enter Tryz.func142, Tryz.ntmps142
  go_wp2
  refine wp_loop_rounds 5 ?_
  rw [rounds_succ]
  go_wp2
  go_quiet (fail)
  go_wp2
  rw [rounds_succ]
  go_wp2
  go_quiet (fail)
  go_wp2
  refine bodyPost_ret (v := .tuple #[.agg #[.int .u64 0, .int .u64 0, .int .u64 0, .int .u64 0], .iface 54 (.int .i64 8)]) ?_ rfl ?_
  · simp [results, Tryz.results142, go_sem]
  · clear e0 e1
    refine ⟨rfl, ?_⟩
    repeat (first | with_reducible exact Below.refl _ _ | with_reducible refine Below.setCell ?_ ?_ _ | with_reducible refine below_drewN ?_ _ | with_reducible refine Below.alloc ?_ ?_ _)
    all_goals first | (simp; done) | (simp; omega)
set_option maxHeartbeats 1000000 in
theorem add_o2 (a0 a1 a2 a3 b0 b1 b2 b3 : Int) (p0 : 0 ≤ a0) (p1 : 0 ≤ a1) (p2 : 0 ≤ a2) (p3 : 0 ≤ a3) (q0 : 0 ≤ b0) (q1 : 0 ≤ b1) (q2 : 0 ≤ b2) (q3 : 0 ≤ b3) (pm0 : a0 < 18446744073709551616) (pm1 : a1 < 18446744073709551616) (pm2 : a2 < 18446744073709551616) (pm3 : a3 < 18446744073709551616) (qm0 : b0 < 18446744073709551616) (qm1 : b1 < 18446744073709551616) (qm2 : b2 < 18446744073709551616) (qm3 : b3 < 18446744073709551616) (h0 : a0 + b0 < 18446744073709551616) (h1 : a1 + b1 < 18446744073709551616) (h2 : 18446744073709551616 ≤ a2 + b2) (w : World) :
    Calls Tryz.prog 142 #[.agg #[.int .u64 a0, .int .u64 a1, .int .u64 a2, .int .u64 a3], .agg #[.int .u64 b0, .int .u64 b1, .int .u64 b2, .int .u64 b3]] w fun e w' =>
      e = .returned (.tuple #[.agg #[.int .u64 0, .int .u64 0, .int .u64 0, .int .u64 0], .iface 54 (.int .i64 8)]) ∧ Below w.heap.size w w' := by
  have e0 := add64_ok a0 b0 p0 q0 h0
  have e1 := add64_ok a1 b1 p1 q1 h1
  have e2 := add64_over a2 b2 p2 q2 pm2 qm2 h2
  go_enter Tryz.func142, Tryz.ntmps142
  go_wp2
  refine wp_loop_rounds 5 ?_
  rw [rounds_succ]
  go_wp2
  go_quiet (fail)
  go_wp2
  rw [rounds_succ]
  go_wp2
  go_quiet (fail)
  go_wp2
  rw [rounds_succ]
  go_wp2
  go_quiet (fail)
  go_wp2
  refine bodyPost_ret (v := .tuple #[.agg #[.int .u64 0, .int .u64 0, .int .u64 0, .int .u64 0], .iface 54 (.int .i64 8)]) ?_ rfl ?_
  · simp [results, Tryz.results142, go_sem]
  · clear e0 e1 e2
    refine ⟨rfl, ?_⟩
    repeat (first | with_reducible exact Below.refl _ _ | with_reducible refine Below.setCell ?_ ?_ _ | with_reducible refine below_drewN ?_ _ | with_reducible refine Below.alloc ?_ ?_ _)
    all_goals first | (simp; done) | (simp; omega)
set_option maxHeartbeats 1000000 in
theorem add_o3 (a0 a1 a2 a3 b0 b1 b2 b3 : Int) (p0 : 0 ≤ a0) (p1 : 0 ≤ a1) (p2 : 0 ≤ a2) (p3 : 0 ≤ a3) (q0 : 0 ≤ b0) (q1 : 0 ≤ b1) (q2 : 0 ≤ b2) (q3 : 0 ≤ b3) (pm0 : a0 < 18446744073709551616) (pm1 : a1 < 18446744073709551616) (pm2 : a2 < 18446744073709551616) (pm3 : a3 < 18446744073709551616) (qm0 : b0 < 18446744073709551616) (qm1 : b1 < 18446744073709551616) (qm2 : b2 < 18446744073709551616) (qm3 : b3 < 18446744073709551616) (h0 : a0 + b0 < 18446744073709551616) (h1 : a1 + b1 < 18446744073709551616) (h2 : a2 + b2 < 18446744073709551616) (h3 : 18446744073709551616 ≤ a3 + b3) (w : World) :
    Calls Tryz.prog 142 #[.agg #[.int .u64 a0, .int .u64 a1, .int .u64 a2, .int .u64 a3], .agg #[.int .u64 b0, .int .u64 b1, .int .u64 b2, .int .u64 b3]] w fun e w' =>
      e = .returned (.tuple #[.agg #[.int .u64 0, .int .u64 0, .int .u64 0, .int .u64 0], .iface 54 (.int .i64 8)]) ∧ Below w.heap.size w w' := by
  have e0 := add64_ok a0 b0 p0 q0 h0
  have e1 := add64_ok a1 b1 p1 q1 h1
  have e2 := add64_ok a2 b2 p2 q2 h2
  have e3 := add64_over a3 b3 p3 q3 pm3 qm3 h3
  go_enter Tryz.func142, Tryz.ntmps142
  go_wp2
  refine wp_loop_rounds 5 ?_
  rw [rounds_succ]
  go_wp2
  go_quiet (fail)
  go_wp2
  rw [rounds_succ]
  go_wp2
  go_quiet (fail)
  go_wp2
  rw [rounds_succ]
  go_wp2
  go_quiet (fail)
  go_wp2
  rw [rounds_succ]
  go_wp2
  go_quiet (fail)
  go_wp2
  refine bodyPost_ret (v := .tuple #[.agg #[.int .u64 0, .int .u64 0, .int .u64 0, .int .u64 0], .iface 54 (.int .i64 8)]) ?_ rfl ?_
  · simp [results, Tryz.results142, go_sem]
  · clear e0 e1 e2 e3
    refine ⟨rfl, ?_⟩
    repeat (first | with_reducible exact Below.refl _ _ | with_reducible refine Below.setCell ?_ ?_ _ | with_reducible refine below_drewN ?_ _ | with_reducible refine Below.alloc ?_ ?_ _)
    all_goals first | (simp; done) | (simp; omega)
set_option maxHeartbeats 1000000 in
theorem add_ok (a0 a1 a2 a3 b0 b1 b2 b3 : Int) (p0 : 0 ≤ a0) (p1 : 0 ≤ a1) (p2 : 0 ≤ a2) (p3 : 0 ≤ a3) (q0 : 0 ≤ b0) (q1 : 0 ≤ b1) (q2 : 0 ≤ b2) (q3 : 0 ≤ b3) (pm0 : a0 < 18446744073709551616) (pm1 : a1 < 18446744073709551616) (pm2 : a2 < 18446744073709551616) (pm3 : a3 < 18446744073709551616) (qm0 : b0 < 18446744073709551616) (qm1 : b1 < 18446744073709551616) (qm2 : b2 < 18446744073709551616) (qm3 : b3 < 18446744073709551616) (h0 : a0 + b0 < 18446744073709551616) (h1 : a1 + b1 < 18446744073709551616) (h2 : a2 + b2 < 18446744073709551616) (h3 : a3 + b3 < 18446744073709551616) (w : World) :
    Calls Tryz.prog 142 #[.agg #[.int .u64 a0, .int .u64 a1, .int .u64 a2, .int .u64 a3], .agg #[.int .u64 b0, .int .u64 b1, .int .u64 b2, .int .u64 b3]] w fun e w' =>
      e = .returned (.tuple #[.agg #[.int .u64 (a0 + b0), .int .u64 (a1 + b1), .int .u64 (a2 + b2), .int .u64 (a3 + b3)], .nilIface]) ∧ Below w.heap.size w w' := by
  have e0 := add64_ok a0 b0 p0 q0 h0
  have e1 := add64_ok a1 b1 p1 q1 h1
  have e2 := add64_ok a2 b2 p2 q2 h2
  have e3 := add64_ok a3 b3 p3 q3 h3
  go_enter Tryz.func142, Tryz.ntmps142
  go_wp2
  refine wp_loop_rounds 5 ?_
  rw [rounds_succ]
  go_wp2
  go_quiet (fail)
  go_wp2
  rw [rounds_succ]
  go_wp2
  go_quiet (fail)
  go_wp2
  rw [rounds_succ]
  go_wp2
  go_quiet (fail)
  go_wp2
  rw [rounds_succ]
  go_wp2
  go_quiet (fail)
  go_wp2
  rw [rounds_succ]
  go_wp2
  refine bodyPost_ret (v := .tuple #[.agg #[.int .u64 (a0 + b0), .int .u64 (a1 + b1), .int .u64 (a2 + b2), .int .u64 (a3 + b3)], .nilIface]) ?_ rfl ?_
  · simp [results, Tryz.results142, go_sem]
  · clear e0 e1 e2 e3
    refine ⟨rfl, ?_⟩
    repeat (first | with_reducible exact Below.refl _ _ | with_reducible refine Below.setCell ?_ ?_ _ | with_reducible refine below_drewN ?_ _ | with_reducible refine Below.alloc ?_ ?_ _)
    all_goals first | (simp; done) | (simp; omega)
theorem add_over (a0 a1 a2 a3 b0 b1 b2 b3 : Int) (p0 : 0 ≤ a0) (p1 : 0 ≤ a1) (p2 : 0 ≤ a2) (p3 : 0 ≤ a3) (q0 : 0 ≤ b0) (q1 : 0 ≤ b1) (q2 : 0 ≤ b2) (q3 : 0 ≤ b3) (pm0 : a0 < 18446744073709551616) (pm1 : a1 < 18446744073709551616) (pm2 : a2 < 18446744073709551616) (pm3 : a3 < 18446744073709551616) (qm0 : b0 < 18446744073709551616) (qm1 : b1 < 18446744073709551616) (qm2 : b2 < 18446744073709551616) (qm3 : b3 < 18446744073709551616) (h : ¬ (a0 + b0 < 18446744073709551616 ∧ a1 + b1 < 18446744073709551616 ∧ a2 + b2 < 18446744073709551616 ∧ a3 + b3 < 18446744073709551616)) (w : World) :
    Calls Tryz.prog 142 #[.agg #[.int .u64 a0, .int .u64 a1, .int .u64 a2, .int .u64 a3], .agg #[.int .u64 b0, .int .u64 b1, .int .u64 b2, .int .u64 b3]] w fun e w' =>
      e = .returned (.tuple #[.agg #[.int .u64 0, .int .u64 0, .int .u64 0, .int .u64 0], .iface 54 (.int .i64 8)]) ∧ Below w.heap.size w w' := by
  by_cases h0 : a0 + b0 < 18446744073709551616
  rotate_left
  · exact add_o0 a0 a1 a2 a3 b0 b1 b2 b3 p0 p1 p2 p3 q0 q1 q2 q3 pm0 pm1 pm2 pm3 qm0 qm1 qm2 qm3  (by omega) w
  by_cases h1 : a1 + b1 < 18446744073709551616
  rotate_left
  · exact add_o1 a0 a1 a2 a3 b0 b1 b2 b3 p0 p1 p2 p3 q0 q1 q2 q3 pm0 pm1 pm2 pm3 qm0 qm1 qm2 qm3 h0 (by omega) w
  by_cases h2 : a2 + b2 < 18446744073709551616
  rotate_left
  · exact add_o2 a0 a1 a2 a3 b0 b1 b2 b3 p0 p1 p2 p3 q0 q1 q2 q3 pm0 pm1 pm2 pm3 qm0 qm1 qm2 qm3 h0 h1 (by omega) w
  by_cases h3 : a3 + b3 < 18446744073709551616
  rotate_left
  · exact add_o3 a0 a1 a2 a3 b0 b1 b2 b3 p0 p1 p2 p3 q0 q1 q2 q3 pm0 pm1 pm2 pm3 qm0 qm1 qm2 qm3 h0 h1 h2 (by omega) w
  exact absurd ⟨h0, h1, h2, h3⟩ h
end Go.Proofs.YtiinnoahopnkcaaGreatDoor

/- vec.Sub: the four differences, or ErrOver. -/
namespace Go.Proofs.YtiinnoahopnkcaaGreatDoor
set_option linter.unusedSimpArgs false
open Go.RowKit
set_option linter.unusedVariables false

set_option maxHeartbeats 1000000 in
theorem sub_o0 (a0 a1 a2 a3 b0 b1 b2 b3 : Int) (p0 : 0 ≤ a0) (p1 : 0 ≤ a1) (p2 : 0 ≤ a2) (p3 : 0 ≤ a3) (q0 : 0 ≤ b0) (q1 : 0 ≤ b1) (q2 : 0 ≤ b2) (q3 : 0 ≤ b3) (pm0 : a0 < 18446744073709551616) (pm1 : a1 < 18446744073709551616) (pm2 : a2 < 18446744073709551616) (pm3 : a3 < 18446744073709551616) (qm0 : b0 < 18446744073709551616) (qm1 : b1 < 18446744073709551616) (qm2 : b2 < 18446744073709551616) (qm3 : b3 < 18446744073709551616)  (h0 : a0 < b0) (w : World) :
    Calls Tryz.prog 136 #[.agg #[.int .u64 a0, .int .u64 a1, .int .u64 a2, .int .u64 a3], .agg #[.int .u64 b0, .int .u64 b1, .int .u64 b2, .int .u64 b3]] w fun e w' =>
      e = .returned (.tuple #[.agg #[.int .u64 0, .int .u64 0, .int .u64 0, .int .u64 0], .iface 54 (.int .i64 8)]) ∧ Below w.heap.size w w' := by
  have e0 := sub64_over a0 b0 p0 q0 h0
  go_enter Tryz.func136, Tryz.ntmps136
  go_wp2
  refine wp_loop_rounds 5 ?_
  rw [rounds_succ]
  go_wp2
  go_quiet (fail)
  go_wp2
  refine bodyPost_ret (v := .tuple #[.agg #[.int .u64 0, .int .u64 0, .int .u64 0, .int .u64 0], .iface 54 (.int .i64 8)]) ?_ rfl ?_
  · simp [results, Tryz.results136, go_sem]
  · clear e0
    refine ⟨rfl, ?_⟩
    repeat (first | with_reducible exact Below.refl _ _ | with_reducible refine Below.setCell ?_ ?_ _ | with_reducible refine below_drewN ?_ _ | with_reducible refine Below.alloc ?_ ?_ _)
    all_goals first | (simp; done) | (simp; omega)
set_option maxHeartbeats 1000000 in
theorem sub_o1 (a0 a1 a2 a3 b0 b1 b2 b3 : Int) (p0 : 0 ≤ a0) (p1 : 0 ≤ a1) (p2 : 0 ≤ a2) (p3 : 0 ≤ a3) (q0 : 0 ≤ b0) (q1 : 0 ≤ b1) (q2 : 0 ≤ b2) (q3 : 0 ≤ b3) (pm0 : a0 < 18446744073709551616) (pm1 : a1 < 18446744073709551616) (pm2 : a2 < 18446744073709551616) (pm3 : a3 < 18446744073709551616) (qm0 : b0 < 18446744073709551616) (qm1 : b1 < 18446744073709551616) (qm2 : b2 < 18446744073709551616) (qm3 : b3 < 18446744073709551616) (h0 : b0 ≤ a0) (h1 : a1 < b1) (w : World) :
    Calls Tryz.prog 136 #[.agg #[.int .u64 a0, .int .u64 a1, .int .u64 a2, .int .u64 a3], .agg #[.int .u64 b0, .int .u64 b1, .int .u64 b2, .int .u64 b3]] w fun e w' =>
      e = .returned (.tuple #[.agg #[.int .u64 0, .int .u64 0, .int .u64 0, .int .u64 0], .iface 54 (.int .i64 8)]) ∧ Below w.heap.size w w' := by
  have e0 := sub64_ok a0 b0 p0 q0 pm0 h0
  have e1 := sub64_over a1 b1 p1 q1 h1
  go_enter Tryz.func136, Tryz.ntmps136
  go_wp2
  refine wp_loop_rounds 5 ?_
  rw [rounds_succ]
  go_wp2
  go_quiet (fail)
  go_wp2
  rw [rounds_succ]
  go_wp2
  go_quiet (fail)
  go_wp2
  refine bodyPost_ret (v := .tuple #[.agg #[.int .u64 0, .int .u64 0, .int .u64 0, .int .u64 0], .iface 54 (.int .i64 8)]) ?_ rfl ?_
  · simp [results, Tryz.results136, go_sem]
  · clear e0 e1
    refine ⟨rfl, ?_⟩
    repeat (first | with_reducible exact Below.refl _ _ | with_reducible refine Below.setCell ?_ ?_ _ | with_reducible refine below_drewN ?_ _ | with_reducible refine Below.alloc ?_ ?_ _)
    all_goals first | (simp; done) | (simp; omega)
set_option maxHeartbeats 1000000 in
theorem sub_o2 (a0 a1 a2 a3 b0 b1 b2 b3 : Int) (p0 : 0 ≤ a0) (p1 : 0 ≤ a1) (p2 : 0 ≤ a2) (p3 : 0 ≤ a3) (q0 : 0 ≤ b0) (q1 : 0 ≤ b1) (q2 : 0 ≤ b2) (q3 : 0 ≤ b3) (pm0 : a0 < 18446744073709551616) (pm1 : a1 < 18446744073709551616) (pm2 : a2 < 18446744073709551616) (pm3 : a3 < 18446744073709551616) (qm0 : b0 < 18446744073709551616) (qm1 : b1 < 18446744073709551616) (qm2 : b2 < 18446744073709551616) (qm3 : b3 < 18446744073709551616) (h0 : b0 ≤ a0) (h1 : b1 ≤ a1) (h2 : a2 < b2) (w : World) :
    Calls Tryz.prog 136 #[.agg #[.int .u64 a0, .int .u64 a1, .int .u64 a2, .int .u64 a3], .agg #[.int .u64 b0, .int .u64 b1, .int .u64 b2, .int .u64 b3]] w fun e w' =>
      e = .returned (.tuple #[.agg #[.int .u64 0, .int .u64 0, .int .u64 0, .int .u64 0], .iface 54 (.int .i64 8)]) ∧ Below w.heap.size w w' := by
  have e0 := sub64_ok a0 b0 p0 q0 pm0 h0
  have e1 := sub64_ok a1 b1 p1 q1 pm1 h1
  have e2 := sub64_over a2 b2 p2 q2 h2
  go_enter Tryz.func136, Tryz.ntmps136
  go_wp2
  refine wp_loop_rounds 5 ?_
  rw [rounds_succ]
  go_wp2
  go_quiet (fail)
  go_wp2
  rw [rounds_succ]
  go_wp2
  go_quiet (fail)
  go_wp2
  rw [rounds_succ]
  go_wp2
  go_quiet (fail)
  go_wp2
  refine bodyPost_ret (v := .tuple #[.agg #[.int .u64 0, .int .u64 0, .int .u64 0, .int .u64 0], .iface 54 (.int .i64 8)]) ?_ rfl ?_
  · simp [results, Tryz.results136, go_sem]
  · clear e0 e1 e2
    refine ⟨rfl, ?_⟩
    repeat (first | with_reducible exact Below.refl _ _ | with_reducible refine Below.setCell ?_ ?_ _ | with_reducible refine below_drewN ?_ _ | with_reducible refine Below.alloc ?_ ?_ _)
    all_goals first | (simp; done) | (simp; omega)
set_option maxHeartbeats 1000000 in
theorem sub_o3 (a0 a1 a2 a3 b0 b1 b2 b3 : Int) (p0 : 0 ≤ a0) (p1 : 0 ≤ a1) (p2 : 0 ≤ a2) (p3 : 0 ≤ a3) (q0 : 0 ≤ b0) (q1 : 0 ≤ b1) (q2 : 0 ≤ b2) (q3 : 0 ≤ b3) (pm0 : a0 < 18446744073709551616) (pm1 : a1 < 18446744073709551616) (pm2 : a2 < 18446744073709551616) (pm3 : a3 < 18446744073709551616) (qm0 : b0 < 18446744073709551616) (qm1 : b1 < 18446744073709551616) (qm2 : b2 < 18446744073709551616) (qm3 : b3 < 18446744073709551616) (h0 : b0 ≤ a0) (h1 : b1 ≤ a1) (h2 : b2 ≤ a2) (h3 : a3 < b3) (w : World) :
    Calls Tryz.prog 136 #[.agg #[.int .u64 a0, .int .u64 a1, .int .u64 a2, .int .u64 a3], .agg #[.int .u64 b0, .int .u64 b1, .int .u64 b2, .int .u64 b3]] w fun e w' =>
      e = .returned (.tuple #[.agg #[.int .u64 0, .int .u64 0, .int .u64 0, .int .u64 0], .iface 54 (.int .i64 8)]) ∧ Below w.heap.size w w' := by
  have e0 := sub64_ok a0 b0 p0 q0 pm0 h0
  have e1 := sub64_ok a1 b1 p1 q1 pm1 h1
  have e2 := sub64_ok a2 b2 p2 q2 pm2 h2
  have e3 := sub64_over a3 b3 p3 q3 h3
  go_enter Tryz.func136, Tryz.ntmps136
  go_wp2
  refine wp_loop_rounds 5 ?_
  rw [rounds_succ]
  go_wp2
  go_quiet (fail)
  go_wp2
  rw [rounds_succ]
  go_wp2
  go_quiet (fail)
  go_wp2
  rw [rounds_succ]
  go_wp2
  go_quiet (fail)
  go_wp2
  rw [rounds_succ]
  go_wp2
  go_quiet (fail)
  go_wp2
  refine bodyPost_ret (v := .tuple #[.agg #[.int .u64 0, .int .u64 0, .int .u64 0, .int .u64 0], .iface 54 (.int .i64 8)]) ?_ rfl ?_
  · simp [results, Tryz.results136, go_sem]
  · clear e0 e1 e2 e3
    refine ⟨rfl, ?_⟩
    repeat (first | with_reducible exact Below.refl _ _ | with_reducible refine Below.setCell ?_ ?_ _ | with_reducible refine below_drewN ?_ _ | with_reducible refine Below.alloc ?_ ?_ _)
    all_goals first | (simp; done) | (simp; omega)
set_option maxHeartbeats 1000000 in
theorem sub_ok (a0 a1 a2 a3 b0 b1 b2 b3 : Int) (p0 : 0 ≤ a0) (p1 : 0 ≤ a1) (p2 : 0 ≤ a2) (p3 : 0 ≤ a3) (q0 : 0 ≤ b0) (q1 : 0 ≤ b1) (q2 : 0 ≤ b2) (q3 : 0 ≤ b3) (pm0 : a0 < 18446744073709551616) (pm1 : a1 < 18446744073709551616) (pm2 : a2 < 18446744073709551616) (pm3 : a3 < 18446744073709551616) (qm0 : b0 < 18446744073709551616) (qm1 : b1 < 18446744073709551616) (qm2 : b2 < 18446744073709551616) (qm3 : b3 < 18446744073709551616) (h0 : b0 ≤ a0) (h1 : b1 ≤ a1) (h2 : b2 ≤ a2) (h3 : b3 ≤ a3) (w : World) :
    Calls Tryz.prog 136 #[.agg #[.int .u64 a0, .int .u64 a1, .int .u64 a2, .int .u64 a3], .agg #[.int .u64 b0, .int .u64 b1, .int .u64 b2, .int .u64 b3]] w fun e w' =>
      e = .returned (.tuple #[.agg #[.int .u64 (a0 - b0), .int .u64 (a1 - b1), .int .u64 (a2 - b2), .int .u64 (a3 - b3)], .nilIface]) ∧ Below w.heap.size w w' := by
  have e0 := sub64_ok a0 b0 p0 q0 pm0 h0
  have e1 := sub64_ok a1 b1 p1 q1 pm1 h1
  have e2 := sub64_ok a2 b2 p2 q2 pm2 h2
  have e3 := sub64_ok a3 b3 p3 q3 pm3 h3
  go_enter Tryz.func136, Tryz.ntmps136
  go_wp2
  refine wp_loop_rounds 5 ?_
  rw [rounds_succ]
  go_wp2
  go_quiet (fail)
  go_wp2
  rw [rounds_succ]
  go_wp2
  go_quiet (fail)
  go_wp2
  rw [rounds_succ]
  go_wp2
  go_quiet (fail)
  go_wp2
  rw [rounds_succ]
  go_wp2
  go_quiet (fail)
  go_wp2
  rw [rounds_succ]
  go_wp2
  refine bodyPost_ret (v := .tuple #[.agg #[.int .u64 (a0 - b0), .int .u64 (a1 - b1), .int .u64 (a2 - b2), .int .u64 (a3 - b3)], .nilIface]) ?_ rfl ?_
  · simp [results, Tryz.results136, go_sem]
  · clear e0 e1 e2 e3
    refine ⟨rfl, ?_⟩
    repeat (first | with_reducible exact Below.refl _ _ | with_reducible refine Below.setCell ?_ ?_ _ | with_reducible refine below_drewN ?_ _ | with_reducible refine Below.alloc ?_ ?_ _)
    all_goals first | (simp; done) | (simp; omega)
theorem sub_over (a0 a1 a2 a3 b0 b1 b2 b3 : Int) (p0 : 0 ≤ a0) (p1 : 0 ≤ a1) (p2 : 0 ≤ a2) (p3 : 0 ≤ a3) (q0 : 0 ≤ b0) (q1 : 0 ≤ b1) (q2 : 0 ≤ b2) (q3 : 0 ≤ b3) (pm0 : a0 < 18446744073709551616) (pm1 : a1 < 18446744073709551616) (pm2 : a2 < 18446744073709551616) (pm3 : a3 < 18446744073709551616) (qm0 : b0 < 18446744073709551616) (qm1 : b1 < 18446744073709551616) (qm2 : b2 < 18446744073709551616) (qm3 : b3 < 18446744073709551616) (h : ¬ (b0 ≤ a0 ∧ b1 ≤ a1 ∧ b2 ≤ a2 ∧ b3 ≤ a3)) (w : World) :
    Calls Tryz.prog 136 #[.agg #[.int .u64 a0, .int .u64 a1, .int .u64 a2, .int .u64 a3], .agg #[.int .u64 b0, .int .u64 b1, .int .u64 b2, .int .u64 b3]] w fun e w' =>
      e = .returned (.tuple #[.agg #[.int .u64 0, .int .u64 0, .int .u64 0, .int .u64 0], .iface 54 (.int .i64 8)]) ∧ Below w.heap.size w w' := by
  by_cases h0 : b0 ≤ a0
  rotate_left
  · exact sub_o0 a0 a1 a2 a3 b0 b1 b2 b3 p0 p1 p2 p3 q0 q1 q2 q3 pm0 pm1 pm2 pm3 qm0 qm1 qm2 qm3  (by omega) w
  by_cases h1 : b1 ≤ a1
  rotate_left
  · exact sub_o1 a0 a1 a2 a3 b0 b1 b2 b3 p0 p1 p2 p3 q0 q1 q2 q3 pm0 pm1 pm2 pm3 qm0 qm1 qm2 qm3 h0 (by omega) w
  by_cases h2 : b2 ≤ a2
  rotate_left
  · exact sub_o2 a0 a1 a2 a3 b0 b1 b2 b3 p0 p1 p2 p3 q0 q1 q2 q3 pm0 pm1 pm2 pm3 qm0 qm1 qm2 qm3 h0 h1 (by omega) w
  by_cases h3 : b3 ≤ a3
  rotate_left
  · exact sub_o3 a0 a1 a2 a3 b0 b1 b2 b3 p0 p1 p2 p3 q0 q1 q2 q3 pm0 pm1 pm2 pm3 qm0 qm1 qm2 qm3 h0 h1 h2 (by omega) w
  exact absurd ⟨h0, h1, h2, h3⟩ h
end Go.Proofs.YtiinnoahopnkcaaGreatDoor

namespace Go.Proofs.YtiinnoahopnkcaaGreatDoor
set_option linter.unusedSimpArgs false
open Go.RowKit
set_option linter.unusedVariables false

set_option maxHeartbeats 1000000 in
theorem radd_o0 (a0 a1 a2 a3 b0 b1 b2 b3 : Int) (p0 : 0 ≤ a0) (p1 : 0 ≤ a1) (p2 : 0 ≤ a2) (p3 : 0 ≤ a3) (q0 : 0 ≤ b0) (q1 : 0 ≤ b1) (q2 : 0 ≤ b2) (q3 : 0 ≤ b3) (pm0 : a0 < 18446744073709551616) (pm1 : a1 < 18446744073709551616) (pm2 : a2 < 18446744073709551616) (pm3 : a3 < 18446744073709551616) (qm0 : b0 < 18446744073709551616) (qm1 : b1 < 18446744073709551616) (qm2 : b2 < 18446744073709551616) (qm3 : b3 < 18446744073709551616)  (h0 : 18446744073709551616 ≤ a0 + b0) (w : World) :
    Calls Tryz.prog 134 #[.agg #[.int .u64 a0, .int .u64 a1, .int .u64 a2, .int .u64 a3], .agg #[.int .u64 b0, .int .u64 b1, .int .u64 b2, .int .u64 b3]] w fun e w' =>
      e = .returned (.tuple #[.agg #[.int .u64 0, .int .u64 0, .int .u64 0, .int .u64 0], .bool false]) ∧ Below w.heap.size w w' := by
  go_enter Tryz.func134, Tryz.ntmps134
  go_wp2
  refine wp_loop_rounds 5 ?_
  rw [rounds_succ]
  go_wp2
  go_quiet ((go_at_call 141; first | exact quiet_left0 (one_over a0 b0 p0 q0 pm0 qm0 h0 _) | exact quiet_left1 (one_over a0 b0 p0 q0 pm0 qm0 h0 _)))
  go_wp2
  refine bodyPost_ret (v := .tuple #[.agg #[.int .u64 0, .int .u64 0, .int .u64 0, .int .u64 0], .bool false]) ?_ rfl ?_
  · simp [results, Tryz.results134, go_sem]
  · refine ⟨rfl, ?_⟩
    repeat (first | with_reducible exact Below.refl _ _ | with_reducible refine Below.setCell ?_ ?_ _ | with_reducible refine below_drewN ?_ _ | with_reducible refine Below.alloc ?_ ?_ _)
    all_goals first | (simp; done) | (simp; omega)
set_option maxHeartbeats 1000000 in
theorem radd_o1 (a0 a1 a2 a3 b0 b1 b2 b3 : Int) (p0 : 0 ≤ a0) (p1 : 0 ≤ a1) (p2 : 0 ≤ a2) (p3 : 0 ≤ a3) (q0 : 0 ≤ b0) (q1 : 0 ≤ b1) (q2 : 0 ≤ b2) (q3 : 0 ≤ b3) (pm0 : a0 < 18446744073709551616) (pm1 : a1 < 18446744073709551616) (pm2 : a2 < 18446744073709551616) (pm3 : a3 < 18446744073709551616) (qm0 : b0 < 18446744073709551616) (qm1 : b1 < 18446744073709551616) (qm2 : b2 < 18446744073709551616) (qm3 : b3 < 18446744073709551616) (h0 : a0 + b0 < 18446744073709551616) (h1 : 18446744073709551616 ≤ a1 + b1) (w : World) :
    Calls Tryz.prog 134 #[.agg #[.int .u64 a0, .int .u64 a1, .int .u64 a2, .int .u64 a3], .agg #[.int .u64 b0, .int .u64 b1, .int .u64 b2, .int .u64 b3]] w fun e w' =>
      e = .returned (.tuple #[.agg #[.int .u64 0, .int .u64 0, .int .u64 0, .int .u64 0], .bool false]) ∧ Below w.heap.size w w' := by
  go_enter Tryz.func134, Tryz.ntmps134
  go_wp2
  refine wp_loop_rounds 5 ?_
  rw [rounds_succ]
  go_wp2
  go_quiet ((go_at_call 141; first | exact quiet_left0 (one_ok a0 b0 p0 q0 h0 _) | exact quiet_left1 (one_ok a0 b0 p0 q0 h0 _)))
  go_wp2
  rw [rounds_succ]
  go_wp2
  go_quiet ((go_at_call 141; first | exact quiet_left0 (one_over a1 b1 p1 q1 pm1 qm1 h1 _) | exact quiet_left1 (one_over a1 b1 p1 q1 pm1 qm1 h1 _)))
  go_wp2
  refine bodyPost_ret (v := .tuple #[.agg #[.int .u64 0, .int .u64 0, .int .u64 0, .int .u64 0], .bool false]) ?_ rfl ?_
  · simp [results, Tryz.results134, go_sem]
  · refine ⟨rfl, ?_⟩
    repeat (first | with_reducible exact Below.refl _ _ | with_reducible refine Below.setCell ?_ ?_ _ | with_reducible refine below_drewN ?_ _ | with_reducible refine Below.alloc ?_ ?_ _)
    all_goals first | (simp; done) | (simp; omega)
set_option maxHeartbeats 1000000 in
theorem radd_o2 (a0 a1 a2 a3 b0 b1 b2 b3 : Int) (p0 : 0 ≤ a0) (p1 : 0 ≤ a1) (p2 : 0 ≤ a2) (p3 : 0 ≤ a3) (q0 : 0 ≤ b0) (q1 : 0 ≤ b1) (q2 : 0 ≤ b2) (q3 : 0 ≤ b3) (pm0 : a0 < 18446744073709551616) (pm1 : a1 < 18446744073709551616) (pm2 : a2 < 18446744073709551616) (pm3 : a3 < 18446744073709551616) (qm0 : b0 < 18446744073709551616) (qm1 : b1 < 18446744073709551616) (qm2 : b2 < 18446744073709551616) (qm3 : b3 < 18446744073709551616) (h0 : a0 + b0 < 18446744073709551616) (h1 : a1 + b1 < 18446744073709551616) (h2 : 18446744073709551616 ≤ a2 + b2) (w : World) :
    Calls Tryz.prog 134 #[.agg #[.int .u64 a0, .int .u64 a1, .int .u64 a2, .int .u64 a3], .agg #[.int .u64 b0, .int .u64 b1, .int .u64 b2, .int .u64 b3]] w fun e w' =>
      e = .returned (.tuple #[.agg #[.int .u64 0, .int .u64 0, .int .u64 0, .int .u64 0], .bool false]) ∧ Below w.heap.size w w' := by
  go_enter Tryz.func134, Tryz.ntmps134
  go_wp2
  refine wp_loop_rounds 5 ?_
  rw [rounds_succ]
  go_wp2
  go_quiet ((go_at_call 141; first | exact quiet_left0 (one_ok a0 b0 p0 q0 h0 _) | exact quiet_left1 (one_ok a0 b0 p0 q0 h0 _)))
  go_wp2
  rw [rounds_succ]
  go_wp2
  go_quiet ((go_at_call 141; first | exact quiet_left0 (one_ok a1 b1 p1 q1 h1 _) | exact quiet_left1 (one_ok a1 b1 p1 q1 h1 _)))
  go_wp2
  rw [rounds_succ]
  go_wp2
  go_quiet ((go_at_call 141; first | exact quiet_left0 (one_over a2 b2 p2 q2 pm2 qm2 h2 _) | exact quiet_left1 (one_over a2 b2 p2 q2 pm2 qm2 h2 _)))
  go_wp2
  refine bodyPost_ret (v := .tuple #[.agg #[.int .u64 0, .int .u64 0, .int .u64 0, .int .u64 0], .bool false]) ?_ rfl ?_
  · simp [results, Tryz.results134, go_sem]
  · refine ⟨rfl, ?_⟩
    repeat (first | with_reducible exact Below.refl _ _ | with_reducible refine Below.setCell ?_ ?_ _ | with_reducible refine below_drewN ?_ _ | with_reducible refine Below.alloc ?_ ?_ _)
    all_goals first | (simp; done) | (simp; omega)
set_option maxHeartbeats 1000000 in
theorem radd_o3 (a0 a1 a2 a3 b0 b1 b2 b3 : Int) (p0 : 0 ≤ a0) (p1 : 0 ≤ a1) (p2 : 0 ≤ a2) (p3 : 0 ≤ a3) (q0 : 0 ≤ b0) (q1 : 0 ≤ b1) (q2 : 0 ≤ b2) (q3 : 0 ≤ b3) (pm0 : a0 < 18446744073709551616) (pm1 : a1 < 18446744073709551616) (pm2 : a2 < 18446744073709551616) (pm3 : a3 < 18446744073709551616) (qm0 : b0 < 18446744073709551616) (qm1 : b1 < 18446744073709551616) (qm2 : b2 < 18446744073709551616) (qm3 : b3 < 18446744073709551616) (h0 : a0 + b0 < 18446744073709551616) (h1 : a1 + b1 < 18446744073709551616) (h2 : a2 + b2 < 18446744073709551616) (h3 : 18446744073709551616 ≤ a3 + b3) (w : World) :
    Calls Tryz.prog 134 #[.agg #[.int .u64 a0, .int .u64 a1, .int .u64 a2, .int .u64 a3], .agg #[.int .u64 b0, .int .u64 b1, .int .u64 b2, .int .u64 b3]] w fun e w' =>
      e = .returned (.tuple #[.agg #[.int .u64 0, .int .u64 0, .int .u64 0, .int .u64 0], .bool false]) ∧ Below w.heap.size w w' := by
  go_enter Tryz.func134, Tryz.ntmps134
  go_wp2
  refine wp_loop_rounds 5 ?_
  rw [rounds_succ]
  go_wp2
  go_quiet ((go_at_call 141; first | exact quiet_left0 (one_ok a0 b0 p0 q0 h0 _) | exact quiet_left1 (one_ok a0 b0 p0 q0 h0 _)))
  go_wp2
  rw [rounds_succ]
  go_wp2
  go_quiet ((go_at_call 141; first | exact quiet_left0 (one_ok a1 b1 p1 q1 h1 _) | exact quiet_left1 (one_ok a1 b1 p1 q1 h1 _)))
  go_wp2
  rw [rounds_succ]
  go_wp2
  go_quiet ((go_at_call 141; first | exact quiet_left0 (one_ok a2 b2 p2 q2 h2 _) | exact quiet_left1 (one_ok a2 b2 p2 q2 h2 _)))
  go_wp2
  rw [rounds_succ]
  go_wp2
  go_quiet ((go_at_call 141; first | exact quiet_left0 (one_over a3 b3 p3 q3 pm3 qm3 h3 _) | exact quiet_left1 (one_over a3 b3 p3 q3 pm3 qm3 h3 _)))
  go_wp2
  refine bodyPost_ret (v := .tuple #[.agg #[.int .u64 0, .int .u64 0, .int .u64 0, .int .u64 0], .bool false]) ?_ rfl ?_
  · simp [results, Tryz.results134, go_sem]
  · refine ⟨rfl, ?_⟩
    repeat (first | with_reducible exact Below.refl _ _ | with_reducible refine Below.setCell ?_ ?_ _ | with_reducible refine below_drewN ?_ _ | with_reducible refine Below.alloc ?_ ?_ _)
    all_goals first | (simp; done) | (simp; omega)
set_option maxHeartbeats 1000000 in
theorem radd_ok (a0 a1 a2 a3 b0 b1 b2 b3 : Int) (p0 : 0 ≤ a0) (p1 : 0 ≤ a1) (p2 : 0 ≤ a2) (p3 : 0 ≤ a3) (q0 : 0 ≤ b0) (q1 : 0 ≤ b1) (q2 : 0 ≤ b2) (q3 : 0 ≤ b3) (pm0 : a0 < 18446744073709551616) (pm1 : a1 < 18446744073709551616) (pm2 : a2 < 18446744073709551616) (pm3 : a3 < 18446744073709551616) (qm0 : b0 < 18446744073709551616) (qm1 : b1 < 18446744073709551616) (qm2 : b2 < 18446744073709551616) (qm3 : b3 < 18446744073709551616) (h0 : a0 + b0 < 18446744073709551616) (h1 : a1 + b1 < 18446744073709551616) (h2 : a2 + b2 < 18446744073709551616) (h3 : a3 + b3 < 18446744073709551616) (w : World) :
    Calls Tryz.prog 134 #[.agg #[.int .u64 a0, .int .u64 a1, .int .u64 a2, .int .u64 a3], .agg #[.int .u64 b0, .int .u64 b1, .int .u64 b2, .int .u64 b3]] w fun e w' =>
      e = .returned (.tuple #[.agg #[.int .u64 (a0 + b0), .int .u64 (a1 + b1), .int .u64 (a2 + b2), .int .u64 (a3 + b3)], .bool true]) ∧ Below w.heap.size w w' := by
  go_enter Tryz.func134, Tryz.ntmps134
  go_wp2
  refine wp_loop_rounds 5 ?_
  rw [rounds_succ]
  go_wp2
  go_quiet ((go_at_call 141; first | exact quiet_left0 (one_ok a0 b0 p0 q0 h0 _) | exact quiet_left1 (one_ok a0 b0 p0 q0 h0 _)))
  go_wp2
  rw [rounds_succ]
  go_wp2
  go_quiet ((go_at_call 141; first | exact quiet_left0 (one_ok a1 b1 p1 q1 h1 _) | exact quiet_left1 (one_ok a1 b1 p1 q1 h1 _)))
  go_wp2
  rw [rounds_succ]
  go_wp2
  go_quiet ((go_at_call 141; first | exact quiet_left0 (one_ok a2 b2 p2 q2 h2 _) | exact quiet_left1 (one_ok a2 b2 p2 q2 h2 _)))
  go_wp2
  rw [rounds_succ]
  go_wp2
  go_quiet ((go_at_call 141; first | exact quiet_left0 (one_ok a3 b3 p3 q3 h3 _) | exact quiet_left1 (one_ok a3 b3 p3 q3 h3 _)))
  go_wp2
  rw [rounds_succ]
  go_wp2
  refine bodyPost_ret (v := .tuple #[.agg #[.int .u64 (a0 + b0), .int .u64 (a1 + b1), .int .u64 (a2 + b2), .int .u64 (a3 + b3)], .bool true]) ?_ rfl ?_
  · simp [results, Tryz.results134, go_sem]
  · refine ⟨rfl, ?_⟩
    repeat (first | with_reducible exact Below.refl _ _ | with_reducible refine Below.setCell ?_ ?_ _ | with_reducible refine below_drewN ?_ _ | with_reducible refine Below.alloc ?_ ?_ _)
    all_goals first | (simp; done) | (simp; omega)
theorem radd_over (a0 a1 a2 a3 b0 b1 b2 b3 : Int) (p0 : 0 ≤ a0) (p1 : 0 ≤ a1) (p2 : 0 ≤ a2) (p3 : 0 ≤ a3) (q0 : 0 ≤ b0) (q1 : 0 ≤ b1) (q2 : 0 ≤ b2) (q3 : 0 ≤ b3) (pm0 : a0 < 18446744073709551616) (pm1 : a1 < 18446744073709551616) (pm2 : a2 < 18446744073709551616) (pm3 : a3 < 18446744073709551616) (qm0 : b0 < 18446744073709551616) (qm1 : b1 < 18446744073709551616) (qm2 : b2 < 18446744073709551616) (qm3 : b3 < 18446744073709551616) (h : ¬ (a0 + b0 < 18446744073709551616 ∧ a1 + b1 < 18446744073709551616 ∧ a2 + b2 < 18446744073709551616 ∧ a3 + b3 < 18446744073709551616)) (w : World) :
    Calls Tryz.prog 134 #[.agg #[.int .u64 a0, .int .u64 a1, .int .u64 a2, .int .u64 a3], .agg #[.int .u64 b0, .int .u64 b1, .int .u64 b2, .int .u64 b3]] w fun e w' =>
      e = .returned (.tuple #[.agg #[.int .u64 0, .int .u64 0, .int .u64 0, .int .u64 0], .bool false]) ∧ Below w.heap.size w w' := by
  by_cases h0 : a0 + b0 < 18446744073709551616
  rotate_left
  · exact radd_o0 a0 a1 a2 a3 b0 b1 b2 b3 p0 p1 p2 p3 q0 q1 q2 q3 pm0 pm1 pm2 pm3 qm0 qm1 qm2 qm3  (by omega) w
  by_cases h1 : a1 + b1 < 18446744073709551616
  rotate_left
  · exact radd_o1 a0 a1 a2 a3 b0 b1 b2 b3 p0 p1 p2 p3 q0 q1 q2 q3 pm0 pm1 pm2 pm3 qm0 qm1 qm2 qm3 h0 (by omega) w
  by_cases h2 : a2 + b2 < 18446744073709551616
  rotate_left
  · exact radd_o2 a0 a1 a2 a3 b0 b1 b2 b3 p0 p1 p2 p3 q0 q1 q2 q3 pm0 pm1 pm2 pm3 qm0 qm1 qm2 qm3 h0 h1 (by omega) w
  by_cases h3 : a3 + b3 < 18446744073709551616
  rotate_left
  · exact radd_o3 a0 a1 a2 a3 b0 b1 b2 b3 p0 p1 p2 p3 q0 q1 q2 q3 pm0 pm1 pm2 pm3 qm0 qm1 qm2 qm3 h0 h1 h2 (by omega) w
  exact absurd ⟨h0, h1, h2, h3⟩ h
end Go.Proofs.YtiinnoahopnkcaaGreatDoor
