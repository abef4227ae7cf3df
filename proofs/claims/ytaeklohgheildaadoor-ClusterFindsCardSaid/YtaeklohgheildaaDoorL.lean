/- What an append to a row of the call's own leaves: one element; a slice that reads as a list, nil or not. -/
import Derived.Test.YtaeklohgheildaaDoorA
namespace Go.Proofs.YtaeklohgheildaaDoor
open Go.RowKit
set_option linter.unusedVariables false

theorem one_u8s (l : List Int) : ∀ u ∈ u8s l, u.oneCell' = true := by
  intro u hu; simp at hu; obtain ⟨x, _, rfl⟩ := hu; rfl
theorem one_u64s (l : List Int) : ∀ u ∈ u64s l, u.oneCell' = true := by
  intro u hu; simp at hu; obtain ⟨x, _, rfl⟩ := hu; rfl

section
variable {ops : Array Oper} {rest : List Oper} {o : Oper} {a : Act} {Q : Exit → Act → World → Prop} {wr : World}

theorem wpList_push (t e : TypeId) (z : Value) (bytes : Nat) (ht : Tryd.prog.underlying t = some (.slice e)) (hinfo : (Tryd.prog.info? e).map (fun i => (i.zero, i.size, i.bytes)) = some (some z, 1, bytes)) (hz : z.cells.size = 1) (hby : bytes ≤ 8)
    (hgd : o.guard = none) (s x : Operand) (ho : o.op = .call { callee := .builtin .append, args := #[s, x], argTypes := #[t, t] })
    (B : Nat) (v : Value) (xs : List Value) (u : Value) (hu : u.oneCell' = true) (hown : wr.ownsRow B e 1 v xs.length xs) (hB : B ≤ wr.heap.size) (hl : xs.length ≤ 2000000)
    (hs : a.eval s = v) (hx : a.eval x = .slice (some ⟨wr.heap.size, 0, none⟩) 1 1)
    (h : ∀ v' w', w'.ownsRow B e 1 v' (xs ++ [u]).length (xs ++ [u]) → Below B wr w' → B ≤ w'.heap.size → wpList Tryd.prog ops Q rest (a.put o.dst v') w') :
    wpList Tryd.prog ops Q (o :: rest) a (wr.alloc (.cells #[u] e)) := by
  obtain ⟨i0, hi, hz0, hz1, hz2⟩ := info_parts hinfo
  refine wpList_append_own _ hgd s x t ho B e i0 z 1 bytes ht hi hz0 hz1 hz2 hz (by decide) v xs.length xs hs (hown.alloc _) ⟨wr.heap.size, 0, none⟩ 1 1 [u] hx rfl ?_ ?_ ?_ ?_ ?_ ?_
  · intro j y hy
    rcases j with _ | j
    · simp at hy; subst hy; simp [Addr.add]
    · simp at hy
  · intro y hy; simp at hy; subst hy; exact hu
  · unfold maxLen; omega
  · have : (xs.length + 1) * bytes ≤ (xs.length + 1) * 8 := Nat.mul_le_mul_left _ hby
    omega
  · simp; omega
  · intro v' w' h1 h2 _
    exact h v' w' (by simpa using h1) (push_own hB hown (Below.refl _ _) h2) (by have := h2.size; simp at this; omega)

theorem wpList_cat (t e : TypeId) (z : Value) (bytes : Nat) (ht : Tryd.prog.underlying t = some (.slice e)) (hinfo : (Tryd.prog.info? e).map (fun i => (i.zero, i.size, i.bytes)) = some (some z, 1, bytes)) (hz : z.cells.size = 1) (hby : bytes ≤ 8)
    (hgd : o.guard = none) (s x : Operand) (ho : o.op = .call { callee := .builtin .append, args := #[s, x], argTypes := #[t, t] })
    {n : Nat} (B R : Nat) (v : Value) (xs ys : List Value) (A : Option Addr) (c : Nat) (hu : ∀ u ∈ ys, u.oneCell' = true) (hnil : A = none → c = 0) (hown : wr.ownsRow B e 1 v xs.length xs) (hrow : Row wr R A ys) (hB : B ≤ wr.heap.size) (hl : xs.length + ys.length ≤ 2000000)
    (hs : a.eval s = v) (hx : a.eval x = .slice A n c) (hn : n = ys.length)
    (h : ∀ v' w', w'.ownsRow B e 1 v' (xs ++ ys).length (xs ++ ys) → Below B wr w' → B ≤ w'.heap.size → wpList Tryd.prog ops Q rest (a.put o.dst v') w') :
    wpList Tryd.prog ops Q (o :: rest) a wr := by
  obtain ⟨i0, hi, hz0, hz1, hz2⟩ := info_parts hinfo
  subst hn
  have fin : ∀ v' w', w'.ownsRow B e 1 v' (xs.length + ys.length) (xs ++ ys) → wr.grownBy w' v.ownBlock → wpList Tryd.prog ops Q rest (a.put o.dst v') w' := fun v' w' h1 h2 =>
    h v' w' (by simpa using h1) ((Below.refl B wr).grown h2 hB (fun j hj => (hown.lt j hj).1)) (by have := h2.size; omega)
  rcases A with _ | ad
  · have h0 : ys = [] := by
      rcases hrow with h0 | ⟨_, _, h0, _⟩
      · exact h0
      · cases h0
    subst h0
    have := hnil rfl
    subst this
    exact wpList_append_own_none hgd s x t ho B e i0 1 ht hi v xs.length xs hs hown hx (fin v wr (by simpa using hown) (World.grownBy.refl _ _))
  · refine wpList_append_own _ hgd s x t ho B e i0 z 1 bytes ht hi hz0 hz1 hz2 hz (by decide) v xs.length xs hs hown ad ys.length c ys hx (by simp) ?_ hu ?_ ?_ hB (fun v' w' h1 h2 _ => fin v' w' h1 h2)
    · intro j y hy
      rcases hrow with h0 | ⟨b, o', h0, _, h1⟩
      · subst h0; simp at hy
      · have h0' := Option.some.inj h0
        subst h0'
        obtain ⟨hj, rfl⟩ := List.getElem?_eq_some_iff.1 hy
        rw [Addr.add_lit]
        exact h1 j hj
    · unfold maxLen; omega
    · have : (xs.length + ys.length) * bytes ≤ (xs.length + ys.length) * 8 := Nat.mul_le_mul_left _ hby
      omega
end
end Go.Proofs.YtaeklohgheildaaDoor
