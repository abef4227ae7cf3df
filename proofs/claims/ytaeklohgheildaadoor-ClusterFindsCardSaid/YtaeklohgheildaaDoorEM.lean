/- Plain mathematics: a sorted list without its repetitions is the list of all, rising, each once. -/
import Derived.Lib.SlicesCompact
import Derived.Test.YtaeklohgheildaaDoorCM
namespace Go.Proofs.YtaeklohgheildaaDoor
open Go.Lib

theorem rising_eq : ∀ {a b : List Int}, Rising a → Rising b → (∀ y, y ∈ a ↔ y ∈ b) → a = b
  | [], [], _, _, _ => rfl
  | [], y :: r, _, _, h => by have := (h y).2 (by simp); simp at this
  | x :: r, [], _, _, h => by have := (h x).1 (by simp); simp at this
  | x :: r, y :: t, ha, hb, h => by
    have hxy : x = y := by
      rcases List.mem_cons.1 ((h x).1 (by simp)) with e | e
      · exact e
      · rcases List.mem_cons.1 ((h y).2 (by simp)) with f | f
        · exact f.symm
        · have h1 := hb.1 x e
          have h2 := ha.1 y f
          omega
    subst hxy
    have hr : r = t := rising_eq ha.2 hb.2 fun z => by
      constructor
      · intro hz
        rcases List.mem_cons.1 ((h z).1 (by simp [hz])) with e | e
        · have := ha.1 z hz; omega
        · exact e
      · intro hz
        rcases List.mem_cons.1 ((h z).2 (by simp [hz])) with e | e
        · have := hb.1 z hz; omega
        · exact e
    rw [hr]
theorem rising_snoc {z : Int} : ∀ {l : List Int}, Rising l → (∀ y ∈ l, y < z) → Rising (l ++ [z])
  | [], _, _ => ⟨by simp, trivial⟩
  | x :: r, h, hz => by
    refine ⟨fun y hy => ?_, rising_snoc h.2 fun y hy => hz y (by simp [hy])⟩
    rcases List.mem_append.1 hy with hy | hy
    · exact h.1 y hy
    · rw [List.mem_singleton.1 hy]; exact hz x (by simp)

theorem compact_upTo (d : Array Int) (hs : ∀ i j, i ≤ j → j < d.size → d[i]! ≤ d[j]!) : ∀ m, m ≤ d.size → Rising (compactUpTo d m) ∧ ∀ y, y ∈ compactUpTo d m ↔ ∃ j, j < m ∧ d[j]! = y
  | 0, _ => ⟨by simp [compactUpTo, Rising], fun y => by simp [compactUpTo]⟩
  | m + 1, hm => by
    obtain ⟨h1, h2⟩ := compact_upTo d hs m (by omega)
    rw [compactUpTo_succ]
    by_cases hk : keeps d m = true
    · rw [if_pos hk]
      refine ⟨rising_snoc h1 fun y hy => ?_, fun y => ?_⟩
      · obtain ⟨j, hj, rfl⟩ := (h2 y).1 hy
        have hne : d[m]! ≠ d[m - 1]! := by
          have := hk
          unfold keeps at this
          rcases of_decide_eq_true this with e | e
          · omega
          · exact e
        have a1 := hs j (m - 1) (by omega) (by omega)
        have a2 := hs (m - 1) m (by omega) (by omega)
        omega
      · constructor
        · intro hy
          rcases List.mem_append.1 hy with hy | hy
          · obtain ⟨j, hj, e⟩ := (h2 y).1 hy
            exact ⟨j, by omega, e⟩
          · exact ⟨m, by omega, (List.mem_singleton.1 hy).symm⟩
        · rintro ⟨j, hj, e⟩
          by_cases hjm : j = m
          · subst hjm; simp [e]
          · exact List.mem_append.2 (.inl ((h2 y).2 ⟨j, by omega, e⟩))
    · rw [if_neg hk, List.append_nil]
      refine ⟨h1, fun y => ?_⟩
      have hk' : m ≠ 0 ∧ d[m]! = d[m - 1]! := by
        have e : ¬ (m = 0 ∨ d[m]! ≠ d[m - 1]!) := fun e => hk (by unfold keeps; exact decide_eq_true e)
        refine ⟨fun h => e (.inl h), ?_⟩
        by_cases q : d[m]! = d[m - 1]!
        · exact q
        · exact absurd (.inr q) e
      constructor
      · intro hy
        obtain ⟨j, hj, e⟩ := (h2 y).1 hy
        exact ⟨j, by omega, e⟩
      · rintro ⟨j, hj, e⟩
        by_cases hjm : j = m
        · subst hjm
          exact (h2 y).2 ⟨j - 1, by omega, by rw [← hk'.2]; exact e⟩
        · exact (h2 y).2 ⟨j, by omega, e⟩

theorem compact_sorted (ts : List Int) (hs : ts.Pairwise (· ≤ ·)) : Rising (compact ts) ∧ ∀ y, y ∈ compact ts ↔ y ∈ ts := by
  have hget : ∀ i, ∀ h : i < ts.length, ts.toArray[i]! = ts[i] := fun i h => by simp [h]
  have key := compact_upTo ts.toArray (fun i j hij hj => by
    have hj' : j < ts.length := by simpa using hj
    rw [hget i (by omega), hget j hj']
    by_cases e : i = j
    · subst e; exact Int.le_refl _
    · exact List.pairwise_iff_getElem.1 hs i j (by omega) hj' (by omega)) ts.length (by simp)
  refine ⟨key.1, fun y => (key.2 y).trans ?_⟩
  constructor
  · rintro ⟨j, hj, rfl⟩
    rw [hget j hj]
    exact List.getElem_mem hj
  · intro hy
    obtain ⟨j, hj, rfl⟩ := List.mem_iff_getElem.1 hy
    exact ⟨j, hj, hget j hj⟩
theorem zones_mem (l : List NodeD) : ∀ (acc : List Int) (y : Int), y ∈ l.foldl (fun acc n => insZ n.zone acc) acc ↔ y ∈ l.map NodeD.zone ∨ y ∈ acc := by
  induction l with
  | nil => intro acc y; simp
  | cons n r ih =>
    intro acc y
    simp only [List.foldl_cons, ih, insZ_mem, List.map_cons, List.mem_cons]
    constructor
    · rintro (h | h | h)
      · exact .inl (.inr h)
      · exact .inl (.inl h)
      · exact .inr h
    · rintro ((h | h) | h)
      · exact .inr (.inl h)
      · exact .inl h
      · exact .inr (.inr h)
theorem zones_compact (l : List NodeD) : compact ((l.map NodeD.zone).mergeSort fun x y => decide (x ≤ y)) = zonesOf l := by
  have hs : ((l.map NodeD.zone).mergeSort fun x y => decide (x ≤ y)).Pairwise (· ≤ ·) := by
    have := List.pairwise_mergeSort (le := fun x y : Int => decide (x ≤ y)) (fun a b c h1 h2 => by simp at *; omega) (fun a b => by simp; omega) (l.map NodeD.zone)
    exact this.imp fun h => by simpa using h
  obtain ⟨h1, h2⟩ := compact_sorted _ hs
  refine rising_eq h1 (zones_fold l [] trivial).1 fun y => (h2 y).trans ?_
  rw [List.mem_mergeSort]
  unfold zonesOf
  rw [zones_mem]
  simp
end Go.Proofs.YtaeklohgheildaaDoor
