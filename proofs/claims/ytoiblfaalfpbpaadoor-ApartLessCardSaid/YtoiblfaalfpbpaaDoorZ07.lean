/- Joined texts, part 7: BP WP WW WQ WK WT WA WY BY. -/
import Derived.Test.YtoiblfaalfpbpaaDoorZ06
import Derived.Test.YtoiblfaalfpbpaaDoorZ02
import Derived.Deep.CutRange
import Derived.Test.YtoiblfaalfpbpaaDoorZ01
import Derived.Deep.RegionHeld3
import Derived.Test.YtoiblfaalfpbpaaDoorZ05
import Derived.Maps.AppendAt

/- The head of layer 7's laws: the document's example, and two pods that clash. -/
namespace Go.Proofs.YtoiblfaalfpbpaaDoor
set_option linter.unusedSimpArgs false
open Go.RowKit
set_option linter.unusedVariables false

theorem recs_newG {α : Type} {size : Nat} {cells : α → List Value} (hc : ∀ x, (cells x).length = size) (w : World) (t : TypeId) (xs : List α) (cs : Array Value) (hcs : cs = (xs.flatMap cells).toArray) {g : Nat} (hg : g = w.heap.size) : Recs size cells (w.alloc (.cells cs t)) (g + 1) (some ⟨g, 0, none⟩) xs := by
  subst hcs hg
  refine .inr ⟨w.heap.size, 0, rfl, by omega, fun i hi j u hu => ?_⟩
  have hj : j < size := by have := (List.getElem?_eq_some_iff.1 hu).1; rwa [hc] at this
  have h2 := flatMap_get (size := size) hc hi hj
  rw [hu] at h2
  simpa using h2
def upL7 : LoadD := ⟨2, true, 0, 0, 0⟩
def upP7 : PodD := ⟨1, 2, 0, ⟨0, 0, 0, 0⟩, 3⟩
def upQ7 : PodD := ⟨4, 2, 0, ⟨0, 0, 0, 0⟩, 3⟩
theorem up7_none : apartOf [upL7] [] = (0, -1) := by decide
theorem up7_two : apartOf [upL7] [upP7, upQ7] = (10, 1) := by decide
theorem up7_clash : clashOf [upL7] [upP7, upQ7] 1 = 4 := by decide

set_option maxHeartbeats 6400000 in
set_option maxRecDepth 100000 in
theorem up07_any (w : World) (hg : Laid w) : Calls Tryd.prog 5 #[] w fun e w' => e = .returned (.bool true) ∧ Below w.heap.size w w' := by
  have hb1 : Below w.heap.size w (w.alloc (.cells #[.int .i64 2, .bool true, .int .i64 0, .int .i64 0, .int .i64 0] 46)) := (Below.refl _ w).alloc (Nat.le_refl _) _
  have hr1 := recs_newG (cells := cellsL) (size := 5) (fun _ => rfl) w 46 [upL7] #[.int .i64 2, .bool true, .int .i64 0, .int .i64 0, .int .i64 0] rfl rfl
  have hb2 := hb1.alloc (by simp) (.cells #[.slice none 0 0, .slice (some ⟨w.heap.size, 0, none⟩) 1 1, .slice none 0 0] 26)
  have hB : Bf ((w.alloc (.cells #[.int .i64 2, .bool true, .int .i64 0, .int .i64 0, .int .i64 0] 46)).alloc (.cells #[.slice none 0 0, .slice (some ⟨w.heap.size, 0, none⟩) 1 1, .slice none 0 0] 26)) (w.heap.size + 1) [.slice none 0 0, .slice (some ⟨w.heap.size, 0, none⟩) 1 1, .slice none 0 0] :=
    Bf.new (w.alloc (.cells #[.int .i64 2, .bool true, .int .i64 0, .int .i64 0, .int .i64 0] 46)) _ _ (by simp)
  have hr1' := hr1.below ((Below.refl _ _).alloc (Nat.le_refl _) (.cells #[.slice none 0 0, .slice (some ⟨w.heap.size, 0, none⟩) 1 1, .slice none 0 0] 26)) (by simp)
  have hsz : ((w.alloc (.cells #[.int .i64 2, .bool true, .int .i64 0, .int .i64 0, .int .i64 0] 46)).alloc (.cells #[.slice none 0 0, .slice (some ⟨w.heap.size, 0, none⟩) 1 1, .slice none 0 0] 26)).heap.size = w.heap.size + 2 := by simp
  clear hr1 hb1
  go_enter Tryd.func5, Tryd.ntmps5
  go_upto_region 2 with fail
  generalize hW : ((w.alloc (.cells #[.int .i64 2, .bool true, .int .i64 0, .int .i64 0, .int .i64 0] 46)).alloc (.cells #[.slice none 0 0, .slice (some ⟨w.heap.size, 0, none⟩) 1 1, .slice none 0 0] 26)) = W at *
  clear hW
  have HSZ := Lib.hid hsz
  have HB0 := Lib.hid hb2
  have HBB := Lib.hid hB
  have HR1 := Lib.hid hr1'
  generalize hgs : w.heap.size + 1 = gs at *
  have HGS := Lib.hid hgs
  clear hgs
  generalize hl : w.heap.size = gl at *
  clear hsz hb2 hB hr1'
  have hr2 := recs_newG (cells := cellsP) (size := 8) (fun _ => rfl) W 42 [upP7, upQ7] #[.int .i64 1, .int .i64 2, .int .i64 0, .int .u64 0, .int .u64 0, .int .u64 0, .int .u64 0, .int .i64 3, .int .i64 4, .int .i64 2, .int .i64 0, .int .u64 0, .int .u64 0, .int .u64 0, .int .u64 0, .int .i64 3] rfl rfl
  have hr2' := hr2.below ((Below.refl _ _).alloc (Nat.le_refl _) (.cells #[.slice (some ⟨W.heap.size, 0, none⟩) 2 2, .int .i64 0, .int .i64 0] 28)) (by simp)
  have hB2 : Bf ((W.alloc (.cells #[.int .i64 1, .int .i64 2, .int .i64 0, .int .u64 0, .int .u64 0, .int .u64 0, .int .u64 0, .int .i64 3, .int .i64 4, .int .i64 2, .int .i64 0, .int .u64 0, .int .u64 0, .int .u64 0, .int .u64 0, .int .i64 3] 42)).alloc (.cells #[.slice (some ⟨W.heap.size, 0, none⟩) 2 2, .int .i64 0, .int .i64 0] 28)) (W.heap.size + 1) [.slice (some ⟨W.heap.size, 0, none⟩) 2 2, .int .i64 0, .int .i64 0] :=
    Bf.new (W.alloc (.cells #[.int .i64 1, .int .i64 2, .int .i64 0, .int .u64 0, .int .u64 0, .int .u64 0, .int .u64 0, .int .i64 3, .int .i64 4, .int .i64 2, .int .i64 0, .int .u64 0, .int .u64 0, .int .u64 0, .int .u64 0, .int .i64 3] 42)) _ _ (by simp)
  have hb3 := below_two W (.cells #[.int .i64 1, .int .i64 2, .int .i64 0, .int .u64 0, .int .u64 0, .int .u64 0, .int .u64 0, .int .i64 3, .int .i64 4, .int .i64 2, .int .i64 0, .int .u64 0, .int .u64 0, .int .u64 0, .int .u64 0, .int .i64 3] 42) (.cells #[.slice (some ⟨W.heap.size, 0, none⟩) 2 2, .int .i64 0, .int .i64 0] 28)
  have hsz2 : ((W.alloc (.cells #[.int .i64 1, .int .i64 2, .int .i64 0, .int .u64 0, .int .u64 0, .int .u64 0, .int .u64 0, .int .i64 3, .int .i64 4, .int .i64 2, .int .i64 0, .int .u64 0, .int .u64 0, .int .u64 0, .int .u64 0, .int .i64 3] 42)).alloc (.cells #[.slice (some ⟨W.heap.size, 0, none⟩) 2 2, .int .i64 0, .int .i64 0] 28)).heap.size = W.heap.size + 2 := by simp
  clear hr2
  go_upto_region 3 with fail
  generalize hX : ((W.alloc (.cells #[.int .i64 1, .int .i64 2, .int .i64 0, .int .u64 0, .int .u64 0, .int .u64 0, .int .u64 0, .int .i64 3, .int .i64 4, .int .i64 2, .int .i64 0, .int .u64 0, .int .u64 0, .int .u64 0, .int .u64 0, .int .i64 3] 42)).alloc (.cells #[.slice (some ⟨W.heap.size, 0, none⟩) 2 2, .int .i64 0, .int .i64 0] 28)) = X at *
  clear hX
  generalize hg1 : W.heap.size + 1 = gt at *
  generalize hg2 : W.heap.size = gp at *
  have HK : Hid (Below gl w X) := HB0.out.trans (hb3.mono (by have := HSZ.out; omega))
  have HBS : Hid (Bf X gs [.slice none 0 0, .slice (some ⟨gl, 0, none⟩) 1 1, .slice none 0 0]) := HBB.out.below hb3 (by have := HBB.out.lt; omega)
  have HBT := Lib.hid hB2
  have HX1 : Hid (∀ V, Below X.heap.size X V → Recs 5 cellsL V V.heap.size (some ⟨gl, 0, none⟩) [upL7]) := fun V hV => ((HR1.out.below hb3 (by have := HSZ.out; have := HGS.out; omega)).below hV (by have := hsz2; have := HSZ.out; have := HGS.out; omega)).more (by have := hV.size; have := hsz2; have := HSZ.out; have := HGS.out; omega)
  have HX2 : Hid (∀ V, Below X.heap.size X V → Recs 8 cellsP V V.heap.size (some ⟨gp, 0, none⟩) [upP7, upQ7]) := fun V hV => (hr2'.below hV (by have := hsz2; omega)).more (by have := hV.size; have := hsz2; omega)
  have HG : Hid (∀ V, Below X.heap.size X V → Laid V) := fun V hV => Laid.below (Laid.below hg HK.out (by omega)) hV (Nat.le_refl _)
  have H1 : Hid (∀ V, Below X.heap.size X V → Calls Tryd.prog 7 #[.agg #[.slice none 0 0, .slice (some ⟨gl, 0, none⟩) 1 1, .slice none 0 0], .agg #[.slice none 0 0, .int .i64 0, .int .i64 0]] V fun e w' => e = .returned .nilIface ∧ Below V.heap.size V w') := fun V hV => by
    have h := apartCheck_any [upL7] [] (some ⟨gl, 0, none⟩) none 1 1 0 0 (.slice none 0 0) (.slice none 0 0) (.int .i64 0) (.int .i64 0) V rfl (by omega) (HX1.out V hV) rfl (by omega) (by omega) Recs.nil
    rw [up7_none] at h
    exact h.mono fun e w' ⟨u, he, hu, hb⟩ => ⟨by rw [he, errIs_none hu rfl rfl], hb⟩
  have H2 : Hid (∀ V, Below X.heap.size X V → Calls Tryd.prog 8 #[.agg #[.slice none 0 0, .slice (some ⟨gl, 0, none⟩) 1 1, .slice none 0 0], .agg #[.slice (some ⟨gp, 0, none⟩) 2 2, .int .i64 0, .int .i64 0], .int .i64 1] V fun e w' => e = .returned (.int .i64 4) ∧ Below V.heap.size V w') := fun V hV => by
    have h := apartClash_any [upL7] [upP7, upQ7] 1 (some ⟨gl, 0, none⟩) (some ⟨gp, 0, none⟩) 1 1 2 2 (.slice none 0 0) (.slice none 0 0) (.int .i64 0) (.int .i64 0) V rfl (by omega) (HX1.out V hV) rfl (by omega) (HX2.out V hV)
    rw [up7_clash] at h
    exact h
  have H3 : Hid (∀ V, Below X.heap.size X V → Calls Tryd.prog 7 #[.agg #[.slice none 0 0, .slice (some ⟨gl, 0, none⟩) 1 1, .slice none 0 0], .agg #[.slice (some ⟨gp, 0, none⟩) 2 2, .int .i64 0, .int .i64 0]] V fun e w' => ∃ g : Nat, e = .returned (.iface 53 (.pointer (some ⟨g, 0, none⟩))) ∧ w'.heap[g]? = some (.cells #[.int .i64 1, .int .i64 10] 55 (0, 0)) ∧ Below V.heap.size V w') := fun V hV => by
    have h := apartCheck_any [upL7] [upP7, upQ7] (some ⟨gl, 0, none⟩) (some ⟨gp, 0, none⟩) 1 1 2 2 (.slice none 0 0) (.slice none 0 0) (.int .i64 0) (.int .i64 0) V rfl (by omega) (HX1.out V hV) rfl (by omega) (by omega) (HX2.out V hV)
    rw [up7_two] at h
    refine h.mono fun e w' ⟨u, he, hu, hb⟩ => ?_
    obtain ⟨g, hg1, hg2⟩ := errIs_spot hu (k := 1) rfl
    exact ⟨g, by rw [he, hg1], hg2, hb⟩
  have HGW : Hid (gl = w.heap.size) := hl.symm
  clear hg hl hg1 hg2 hb3 hr2' hB2 hsz2 HSZ HGS HB0 HBB HR1 HX1 HX2
  obtain ⟨a0, a1, a2, a3⟩ := HBS.out.cells3
  obtain ⟨b0, b1, b2, b3⟩ := HBT.out.cells3
  go_wp2_with fail
  refine (H1.out _ (Below.refl _ _)).mono ?_
  rintro e w1 ⟨rfl, hb1⟩
  have HK1 := Lib.hid hb1
  clear a0 a1 a2 a3 b0 b1 b2 b3 hb1
  obtain ⟨a0, a1, a2, a3⟩ := (HBS.out.below HK1.out HBS.out.lt).cells3
  obtain ⟨b0, b1, b2, b3⟩ := (HBT.out.below HK1.out HBT.out.lt).cells3
  go_wp2_with fail
  refine (H2.out _ HK1.out).mono ?_
  rintro e w2 ⟨rfl, hb2⟩
  have HK2 := Lib.hid (HK1.out.trans (hb2.mono HK1.out.size))
  clear a0 a1 a2 a3 b0 b1 b2 b3 hb2
  obtain ⟨a0, a1, a2, a3⟩ := (HBS.out.below HK2.out HBS.out.lt).cells3
  obtain ⟨b0, b1, b2, b3⟩ := (HBT.out.below HK2.out HBT.out.lt).cells3
  go_wp2_with fail
  refine (H3.out _ HK2.out).mono ?_
  rintro e w3 ⟨g, rfl, hgg, hb3⟩
  have HK3 := Lib.hid (HK2.out.trans (hb3.mono HK2.out.size))
  have HI := Lib.hid (Is_yes g 1 10 w3 (HG.out w3 HK3.out) hgg)
  clear a0 a1 a2 a3 b0 b1 b2 b3 hb3 hgg
  go_wp2_with fail
  refine HI.out.mono ?_
  rintro e w4 ⟨rfl, hb4⟩
  have HK4 := Lib.hid (HK3.out.trans (hb4.mono HK3.out.size))
  clear hb4
  go_wp2
  go_ret
  have hfin := HK.out.trans (HK4.out.mono (show gl ≤ X.heap.size by have := HK.out.size; have := HGW.out; omega))
  rw [HGW.out] at hfin
  exact ⟨rfl, hfin⟩
end Go.Proofs.YtoiblfaalfpbpaaDoor

/- The head of layer 6's laws: the document's example, and a node without room. -/
namespace Go.Proofs.YtoiblfaalfpbpaaDoor
set_option linter.unusedSimpArgs false
open Go.RowKit
set_option linter.unusedVariables false

def upN6 : NodeD := ⟨3, 1, ⟨5, 0, 0, 0⟩, ⟨1, 0, 0, 0⟩⟩
def upP6 : PodD := ⟨1, 0, 0, ⟨5, 0, 0, 0⟩, 3⟩
theorem up6_rest : restD [upN6] [] 3 = (⟨4, 0, 0, 0⟩, 0) := by rfl
theorem up6_full : roomOf [upN6] [upP6] = (9, 0) := by decide
theorem up6_none : roomOf [upN6] [] = (0, -1) := by decide
theorem upN6_ok : ∀ x ∈ [upN6], x.Ok := by
  intro x hx
  obtain rfl := List.mem_singleton.1 hx
  exact ⟨⟨by decide, by decide⟩, ⟨by decide, by decide⟩, ⟨⟨by decide, by decide⟩, ⟨by decide, by decide⟩, ⟨by decide, by decide⟩, ⟨by decide, by decide⟩⟩, ⟨⟨by decide, by decide⟩, ⟨by decide, by decide⟩, ⟨by decide, by decide⟩, ⟨by decide, by decide⟩⟩⟩
theorem upP6_ok : ∀ x ∈ [upP6], x.Ok := by
  intro x hx
  obtain rfl := List.mem_singleton.1 hx
  exact ⟨⟨by decide, by decide⟩, ⟨by decide, by decide⟩, ⟨by decide, by decide⟩, ⟨⟨by decide, by decide⟩, ⟨by decide, by decide⟩, ⟨by decide, by decide⟩, ⟨by decide, by decide⟩⟩, ⟨by decide, by decide⟩⟩
theorem no_ok {α : Type} {Ok : α → Prop} : ∀ p ∈ ([] : List α), Ok p := fun _ h => by simp at h

end Go.Proofs.YtoiblfaalfpbpaaDoor

/- The use of a node by the reference. -/
namespace Go.Proofs.YtoiblfaalfpbpaaDoor
set_option linter.unusedSimpArgs false
open Go.RowKit
set_option linter.unusedVariables false

end Go.Proofs.YtoiblfaalfpbpaaDoor

/- A node's rest by the reference. -/
namespace Go.Proofs.YtoiblfaalfpbpaaDoor
set_option linter.unusedSimpArgs false
open Go.RowKit
set_option linter.unusedVariables false

theorem ref_ret {p : V4 × Int} {a : Value} {b : Value} (q : V4 × Int) (h : p = q) (ha : a = aggV q.1) (hb : b = .int .i64 q.2) : Ending.returned (.tuple #[a, b]) = .returned (.tuple #[aggV p.1, .int .i64 p.2]) := by subst h ha hb; rfl

end Go.Proofs.YtoiblfaalfpbpaaDoor

/- The first node at fault by the reference. -/
namespace Go.Proofs.YtoiblfaalfpbpaaDoor
set_option linter.unusedSimpArgs false
open Go.RowKit
set_option linter.unusedVariables false

end Go.Proofs.YtoiblfaalfpbpaaDoor

/- The law RoomTells. -/
namespace Go.Proofs.YtoiblfaalfpbpaaDoor
set_option linter.unusedSimpArgs false
open Go.RowKit
set_option linter.unusedVariables false

theorem vec_not_self (x : V4) (w : World) : (binOp .neq 40 (.agg #[.int .u64 x.a, .int .u64 x.b, .int .u64 x.c, .int .u64 x.d]) (.agg #[.int .u64 x.a, .int .u64 x.b, .int .u64 x.c, .int .u64 x.d])).run Tryd.prog w = .ok (.bool false) w := by
  rw [vec_neq, vecEq_self]
  rfl
theorem few06 {n1 n2 n3 n5 : Nat} (h : few05 n1 n2 n3 0 n5 = true) : n1 ≤ 40 ∧ n2 ≤ 40 ∧ n3 ≤ 40 ∧ n5 ≤ 40 := by
  simp [few05] at h
  omega
end Go.Proofs.YtoiblfaalfpbpaaDoor

/- append of all records of a slice at a step of a region that draws its order; slices of slices of records. -/
namespace Go.Proofs.YtoiblfaalfpbpaaDoor
set_option linter.unusedSimpArgs false
open Go.RowKit
set_option linter.unusedVariables false

section
variable {α : Type} {size : Nat} {cells : α → List Value} {w : World} {B : Nat} {xs : List α}
theorem Recs.drop {b o : Nat} (h : Recs size cells w B (some ⟨b, o, none⟩) xs) (k : Nat) : Recs size cells w B (some ⟨b, o + k * size, none⟩) (xs.drop k) := by
  rcases h with h | ⟨b', o', h1, h2, h3⟩
  · exact .inl (by simp [h])
  · injection h1 with h1
    injection h1 with h1 h1'
    subst h1 h1'
    refine .inr ⟨b, o + k * size, rfl, h2, fun i hi j u hu => ?_⟩
    have hi' : k + i < xs.length := by simp at hi; omega
    rw [List.getElem_drop] at hu
    have := h3 (k + i) hi' j u hu
    rwa [Nat.add_mul, ← Nat.add_assoc] at this
end
theorem Keeps.grow {W v v' : World} {B : Nat} (h : Keeps W v) (hb : Below B v v') (hB : W.heap.size ≤ B) : Keeps W v' := Keeps.of (h.2.trans (hb.mono hB))
section
variable {ops : Array Oper} {o : Oper} {a : Act} {Q : Exit → Act → World → Prop} {wr : World} {K : Act → World → Prop} {E : Prop}
set_option maxRecDepth 100000 in
theorem step_recsA {α : Type} {cells : α → List Value} (t e : TypeId) (z : Value) (size bytes : Nat) (ht : Tryd.prog.underlying t = some (.slice e)) (hinfo : (Tryd.prog.info? e).map (fun i => (i.zero, i.size, i.bytes)) = some (some z, size, bytes)) (hz : z.cells.size = size) (hsz : 0 < size) (hby : bytes ≤ 1000)
    (hc : ∀ x, (cells x).length = size) (hu : ∀ x, ∀ u ∈ cells x, u.oneCell' = true)
    (hgd : o.guard = none) (s x : Operand) (ho : o.op = .call { callee := .builtin .append, args := #[s, x], argTypes := #[t, t] })
    (B R : Nat) (gv cv n m : Nat) (xs ys : List α) (ad : Addr) (c : Nat) (hown : wr.ownsRow B e size (.slice (some ⟨gv, 0, none⟩) n cv) n (xs.flatMap cells)) (hrow : Recs size cells wr R (some ad) ys) (hB : B ≤ wr.heap.size) (hl : n + m ≤ 2000000)
    (hs : a.eval s = .slice (some ⟨gv, 0, none⟩) n cv) (hx : a.eval x = .slice (some ad) m c) (hm : m = ys.length)
    (h : ∀ g cap w', w'.ownsRow B e size (.slice (some ⟨g, 0, none⟩) (n + m) cap) (n + m) ((xs ++ ys).flatMap cells) → Below B wr w' → (g = gv ∨ g = wr.heap.size) → g < w'.heap.size →
      (∀ b o', b ≠ gv → b < wr.heap.size → w'.cell? ⟨b, o', none⟩ = wr.cell? ⟨b, o', none⟩ ∧ w'.frozen? ⟨b, o', none⟩ = wr.frozen? ⟨b, o', none⟩) → wr.heap.size ≤ w'.heap.size → K (a.put o.dst (.slice (some ⟨g, 0, none⟩) (n + m) cap)) w') :
    if Region.wanted o (yielded ops a.tmps) = true then Oper.wp Tryd.prog o a wr K Q else E := by
  obtain ⟨i0, hi, hz0, hz1, hz2⟩ := info_parts3 hinfo
  have hw : Region.wanted o (yielded ops a.tmps) = true := by simp [Region.wanted, hgd]
  rw [if_pos hw]
  have hn1 : ∀ j u, (ys.flatMap cells)[j]? = some u → wr.cell? (ad.add j) = some u := by
    intro j y hy
    rcases hrow with h0 | ⟨b, o', h0, hb, h1⟩
    · rw [h0] at hy; simp at hy
    · injection h0 with h0
      subst h0
      have hj := (List.getElem?_eq_some_iff.1 hy).1
      rw [flatMap_len hc] at hj
      have hi' : j / size < ys.length := Nat.div_lt_of_lt_mul (by rw [Nat.mul_comm]; exact hj)
      have hjm : j % size < size := Nat.mod_lt _ hsz
      have hdm : j / size * size + j % size = j := by rw [Nat.mul_comm]; exact Nat.div_add_mod j size
      have e1 := flatMap_get (size := size) hc hi' hjm
      rw [hdm] at e1
      have := h1 (j / size) hi' (j % size) y (by rw [← e1]; exact hy)
      rw [Addr.add_lit, ← hdm]
      rwa [Nat.add_assoc] at this
  have hn2 : ∀ u ∈ ys.flatMap cells, u.oneCell' = true := by
    intro u hu'
    rcases List.mem_flatMap.1 hu' with ⟨x, _, hx'⟩
    exact hu x u hx'
  obtain ⟨v', w', hr, h2, h3, h4, h5⟩ := run_append_own_at (P := Tryd.prog) wr B t o.type e i0 z size bytes ht hi hz0 hz1 hz2 hz hsz _ n (xs.flatMap cells) hown ad m c (ys.flatMap cells) (by rw [flatMap_len hc, hm]) hn1 hn2 (by unfold maxLen; omega) (by have : (n + m) * bytes ≤ (n + m) * 1000 := Nat.mul_le_mul_left _ hby; omega) hB
  have h1 : ∃ g cap, v' = .slice (some ⟨g, 0, none⟩) (n + m) cap ∧ g < w'.heap.size := by
    rcases h2.2 with ⟨hv, _⟩ | ⟨g, cap, cur, hv, _, hg, _⟩
    · have := (h4.1 hv).1; cases this
    · exact ⟨g, cap, hv, (Array.getElem?_eq_some_iff.1 hg).1⟩
  obtain ⟨g, cap, rfl, hlt⟩ := h1
  unfold Oper.wp execOp
  simp only [ho, resolve, invoke, builtin, Sem.run_bind, Sem.run_pure, Result.andThen_ok, List.map_toArray, List.map_cons, List.map_nil, hs, hx, hr]
  refine h g cap w' (by rw [List.flatMap_append]; exact h2) ((Below.refl B wr).grown h3 hB (fun j hj => (hown.lt j hj).1)) ?_ hlt (fun b o' hne hb => ?_) h3.size
  · rcases h5 with h5 | h5
    · left; simpa [Value.ownBlock] using h5
    · right; simpa [Value.ownBlock] using h5
  · have hne' : some b ≠ (Value.slice (some ⟨gv, 0, none⟩) n cv).ownBlock := by simpa [Value.ownBlock] using hne
    exact ⟨World.cell?_of_block (h3.block b hb hne'), World.frozen?_of_block (h3.block b hb hne')⟩
end
end Go.Proofs.YtoiblfaalfpbpaaDoor

/- The law RoomLess. -/
namespace Go.Proofs.YtoiblfaalfpbpaaDoor
set_option linter.unusedSimpArgs false
open Go.RowKit
set_option linter.unusedVariables false

theorem own_emptyR (V : World) (B g : Nat) (e : TypeId) (hB : B ≤ V.heap.size) (hg : g = V.heap.size) : (V.alloc (.cells #[] e)).ownsRow B e 8 (.slice (some ⟨g, 0, none⟩) 0 0) 0 (([] : List PodD).flatMap cellsP) := by
  subst hg
  exact World.ownsRow_made V #[] 0 hB (by decide) rfl
theorem far_cells {wr w' : World} {gv : Nat} (h : ∀ b o', b ≠ gv → b < wr.heap.size → w'.cell? ⟨b, o', none⟩ = wr.cell? ⟨b, o', none⟩ ∧ w'.frozen? ⟨b, o', none⟩ = wr.frozen? ⟨b, o', none⟩) :
    (∀ b o', b ≠ gv → b < wr.heap.size → w'.cell? ⟨b, o', none⟩ = wr.cell? ⟨b, o', none⟩) ∧ (∀ b o', b ≠ gv → b < wr.heap.size → w'.frozen? ⟨b, o', none⟩ = wr.frozen? ⟨b, o', none⟩) :=
  ⟨fun b o' h1 h2 => (h b o' h1 h2).1, fun b o' h1 h2 => (h b o' h1 h2).2⟩
theorem Bf.far {V V' : World} {gv b : Nat} {cs : List Value} (h : Bf V b cs) (hne : b ≠ gv) (hcx : ∀ b o', b ≠ gv → b < V.heap.size → V'.cell? ⟨b, o', none⟩ = V.cell? ⟨b, o', none⟩) (hfx : ∀ b o', b ≠ gv → b < V.heap.size → V'.frozen? ⟨b, o', none⟩ = V.frozen? ⟨b, o', none⟩) (hsz : V.heap.size ≤ V'.heap.size) : Bf V' b cs :=
  ⟨Nat.lt_of_lt_of_le h.lt hsz, fun j u hu => (hcx b j hne h.lt).trans (h.cell j u hu), fun o => (hfx b o hne h.lt).trans (h.frozen o)⟩
theorem own_drew {V : World} {B e size n : Nat} {v : Value} {xs : List Value} (h : V.ownsRow B e size v n xs) : V.drew.ownsRow B e size v n xs := h
end Go.Proofs.YtoiblfaalfpbpaaDoor

namespace Go.Proofs.YtoiblfaalfpbpaaDoor
set_option linter.unusedSimpArgs false
open Go.RowKit
set_option linter.unusedVariables false

set_option maxHeartbeats 12800000 in
set_option maxRecDepth 100000 in
theorem apartLess_in (s : SnapD) (t : StateD) (id : Int) (A1 A2 A3 A4 : Option Addr) (n1 c1 n2 c2 n3 c3 n4 c4 : Nat) (w : World) (hg : Laid w)
    (hn2 : n2 = s.loads.length) (hr2 : Recs 5 cellsL w w.heap.size A2 s.loads) (hn4 : n4 = t.pods.length) (hr4 : Recs 8 cellsP w w.heap.size A4 t.pods) (hc4 : n4 ≤ c4) (hm4 : c4 ≤ maxLen) :
    Calls Tryd.prog 3 #[.agg #[.slice A1 n1 c1, .slice A2 n2 c2, .slice A3 n3 c3], .agg #[.slice A4 n4 c4, .int .i64 t.preempts, .int .i64 t.shifts], .int .i64 id] w fun e w' => e = .returned (.bool true) ∧ Below w.heap.size w w' := by
  have T0 := T2.new w [.slice A1 n1 c1, .slice A2 n2 c2, .slice A3 n3 c3] [.slice A4 n4 c4, .int .i64 t.preempts, .int .i64 t.shifts] 26 28
  have HG := Lib.hid (fun (V : World) (hV : Below w.heap.size w V) => Laid.below hg hV (Nat.le_refl _))
  have HR2 := Lib.hid (fun (V : World) (hV : Below w.heap.size w V) => (hr2.below hV (Nat.le_refl _)).more hV.size)
  have HR4 := Lib.hid (fun (V : World) (hV : Below w.heap.size w V) => (hr4.below hV (Nat.le_refl _)).more hV.size)
  have HUP := Lib.hid (up07_any _ (HG.out _ T0.below))
  have HN2 := Lib.hid hn2
  have HN4 := Lib.hid hn4
  have HM4 : Hid (c4 ≤ 9223372036854775807) := by show _ ≤ _; unfold maxLen at hm4; omega
  clear hg hr2 hr4 hn2 hn4 hm4
  go_enter Tryd.func3, Tryd.ntmps3
  go_wp2_with fail
  refine HUP.out.mono ?_
  rintro e w1 ⟨rfl, hb1⟩
  have T1 := T0.keep hb1
  clear hb1 T0 HUP
  obtain ⟨a0, a1, a2, a3⟩ := T1.one.cells3
  obtain ⟨b0, b1, b2, b3⟩ := T1.two.cells3
  go_wp2_with fail
  refine (few05_any _ _ _ _ _ _ _ _ _ _ _ _ _ _ _ _ _ _ _ _).mono ?_
  rintro e w2 ⟨rfl, hb2⟩
  have T2' := T1.keep hb2
  have kw := T2'.below
  clear hb2 T1 a0 a1 a2 a3 b0 b1 b2 b3
  obtain ⟨a0, a1, a2, a3⟩ := T2'.one.cells3
  obtain ⟨b0, b1, b2, b3⟩ := T2'.two.cells3
  cases hfew : few05 n1 n2 n3 0 n4 with
  | false =>
    clear hfew T2'
    go_wp2
    go_ret
    exact ⟨rfl, kw⟩
  | true =>
    obtain ⟨_, hl2, _, hl4⟩ := few06 hfew
    clear hfew
    by_cases hneg : id < 0
    · have hd : decide (id < 0) = true := decide_eq_true hneg
      clear hneg T2'
      go_wp2
      go_ret
      exact ⟨rfl, kw⟩
    by_cases hge : (n4 : Int) ≤ id
    · have hd : decide (id < 0) = false := decide_eq_false hneg
      have hd2 : decide ((n4 : Int) ≤ id) = true := decide_eq_true hge
      clear hneg hge T2'
      go_wp2
      go_ret
      exact ⟨rfl, kw⟩
    obtain ⟨i, rfl⟩ : ∃ i : Nat, id = i := ⟨id.toNat, by omega⟩
    have hi : i < n4 := by omega
    have hd2 : decide ((n4 : Int) ≤ (i : Int)) = false := decide_eq_false hge
    have hd1 : decide ((i : Int) < 0) = false := decide_eq_false hneg
    have HF4 := Lib.hid (fun W hW => apartCheck_any s.loads t.pods A2 A4 n2 c2 n4 c4 (.slice A1 n1 c1) (.slice A3 n3 c3) (.int .i64 t.preempts) (.int .i64 t.shifts) W HN2.out (by omega) (HR2.out W hW) HN4.out (by omega) hc4 (HR4.out W hW))
    have HKW := Lib.hid kw
    have HT2 := Lib.hid T2'
    clear hneg hge T2' kw
    go_wp2_with fail
    refine (HF4.out _ HKW.out).mono ?_
    rintro e w3 ⟨u, rfl, hu, hb3⟩
    have T3' := HT2.out.keep hb3
    by_cases hp : (apartOf s.loads t.pods).1 = 0
    · have hp2 := apart_zero hp
      obtain rfl := errIs_none hu hp (by rw [hp2])
      have HL1 := Lib.hid (apart_sub (less_sub t.pods i) hp2)
      have HL2 := Lib.hid (apart_sub (List.take_sublist i t.pods) hp2)
      have kw3 := T3'.below
      have HT3 := Lib.hid T3'
      clear hu hb3 hp hp2 a0 a1 a2 a3 b0 b1 b2 b3
      obtain ⟨b0, b1, b2, b3⟩ := T3'.two.cells3
      obtain ⟨b, o, rfl, hb, _⟩ := (HR4.out w (Below.refl _ _)).at (k := i) (by have := HN4.out; omega)
      have HRA : Hid (∀ V, Keeps w3 V → Recs 8 cellsP V V.heap.size (some ⟨b, o, none⟩) (t.pods.take i)) := fun V hV => (HR4.out V (kw3.trans (hV.2.mono kw3.size))).take i
      obtain ⟨ad, had, hrb⟩ : ∃ ad : Addr, (if c4 = i + 1 then some ⟨b, o, none⟩ else some (⟨b, o + (i + 1) * 8, none⟩ : Addr)) = some ad ∧ ∀ V, Keeps w3 V → Recs 8 cellsP V V.heap.size (some ad) (t.pods.drop (i + 1)) := by
        by_cases hcc : c4 = i + 1
        · exact ⟨⟨b, o, none⟩, by rw [if_pos hcc], fun V _ => .inl (List.drop_of_length_le (by have := HN4.out; omega))⟩
        · exact ⟨⟨b, o + (i + 1) * 8, none⟩, by rw [if_neg hcc], fun V hV => (HR4.out V (kw3.trans (hV.2.mono kw3.size))).drop (i + 1)⟩
      have HRB := Lib.hid hrb
      clear hrb
      have hi0 : (0 : Int) ≤ (i : Int) := by omega
      have hic : (i : Int) ≤ (c4 : Int) := by omega
      have hic2 : (i : Int) + 1 ≤ (c4 : Int) := by omega
      have hin : (i : Int) + 1 ≤ (n4 : Int) := by omega
      have hi2 : (i : Int) ≤ (n4 : Int) := by omega
      have hwp : IntKind.i64.wrap ((i : Int) + 1) = (i : Int) + 1 := IntWalk.i64_in _ (by omega)
      have htn : ((i : Int) + 1).toNat = i + 1 := by omega
      have hi1 : (0 : Int) ≤ (i : Int) + 1 := by omega
      clear T3' hd1 hd2
      go_wp2
      go_region_held3 (fun w' => (∀ b o, b < w3.heap.size → w'.cell? ⟨b, o, none⟩ = w3.cell? ⟨b, o, none⟩) ∧ Below w3.heap.size w3 w')
        (first | (with_reducible assumption) | (show Keeps w3 _; with_reducible (repeat (first | exact Keeps.refl _ | assumption | refine Keeps.drew ?_ | refine Keeps.set ?_ (by first | (simp; done) | (simp; omega) | omega) _ | refine Keeps.alloc ?_ _ | refine Keeps.step ?_ (by assumption)))))
        (first
          | (refine step_recsA 24 42 (.agg #[.int .i64 0, .int .i64 0, .int .i64 0, .int .u64 0, .int .u64 0, .int .u64 0, .int .u64 0, .int .i64 0]) 8 64 underPods infoPod rfl (by decide) (by decide) (fun _ => rfl) onePod rfl (.tmp 34) (.tmp 38) rfl w3.heap.size _ _ _ 0 _ [] (t.pods.take i) ⟨b, o, none⟩ _ (by with_reducible (repeat (first | exact own_emptyR _ _ _ _ (by first | (simp; done) | (simp; omega)) (by first | (simp; done) | (simp; omega)) | refine own_drew ?_ | refine World.ownsRow.alloc ?_ _))) (HRA.out _ (by assumption)) (by first | (simp; done) | (simp; omega)) (by omega) rfl rfl (by simp; have := HN4.out; omega) ?_; intro g1 k1 w4 hown4 hb4 hat4 hlt4 hbx4 hsz4; have hown4s := hown4; simp only [Nat.zero_add, List.nil_append] at hown4s; have hown4t := hown4; simp only [List.nil_append] at hown4t; obtain ⟨hcx4, hfx4⟩ := far_cells hbx4; clear hbx4; (try simp only [World.size_alloc, World.size_drew] at hat4); (try simp only [World.size_alloc, World.size_drew] at hsz4); have hk4 : Keeps w3 w4 := Keeps.grow (by assumption) hb4 (Nat.le_refl _))
          | (refine step_recsA 24 42 (.agg #[.int .i64 0, .int .i64 0, .int .i64 0, .int .u64 0, .int .u64 0, .int .u64 0, .int .u64 0, .int .i64 0]) 8 64 underPods infoPod rfl (by decide) (by decide) (fun _ => rfl) onePod rfl (.tmp 39) (.tmp 44) rfl w3.heap.size _ _ _ _ _ (t.pods.take i) (t.pods.drop (i + 1)) ad _ (by with_reducible (repeat (first | exact hown4t | exact hown4s | refine own_drew ?_ | refine World.ownsRow.alloc ?_ _))) (HRB.out _ (by assumption)) (by have hk5 := hk4.2.size; first | (simp; done) | (simp; omega) | omega) (by omega) rfl rfl (by simp; have := HN4.out; omega) ?_; intro g2 k2 w5 hown5 hb5 hat5 hlt5 hbx5 hsz5; obtain ⟨hcx5, hfx5⟩ := far_cells hbx5; clear hbx5; (try simp only [World.size_alloc, World.size_drew] at hat5); (try simp only [World.size_alloc, World.size_drew] at hsz5); have hk5 : Keeps w3 w5 := Keeps.grow (by assumption) hb5 (Nat.le_refl _); (try (have hq1 : w3.heap.size ≠ g1 := (by omega))); (try (have hq2 : w3.heap.size + 1 ≠ g1 := (by omega))); (try (have hq3 : w4.heap.size ≠ g1 := (by omega))); have hs1 : w3.heap.size < w4.heap.size := (by omega); (try (have hs2 : w3.heap.size + 1 < w4.heap.size := (by omega))); have hs3 : w3.heap.size < w5.heap.size := (by omega); (try (have hs4 : w3.heap.size + 1 < w5.heap.size := (by omega))); (try (have hs5 : w4.heap.size < w5.heap.size := (by omega)))))
      rename_i hK
      have O5 : Out 8 cellsP w5 (t.pods.take i ++ t.pods.drop (i + 1)) (some ⟨g2, 0, none⟩) k2 := out_of_own (show ∀ x, (cellsP x).length = 8 from fun _ => rfl) (by rw [List.length_append, List.length_take, List.length_drop]; have := HN4.out; omega) hown5
      have BV : Bf (w5.alloc (.cells #[.slice (some ⟨g2, 0, none⟩) (i + (n4 - (i + 1))) k2, .int .i64 0, .int .i64 0] 28)) w5.heap.size [.slice (some ⟨g2, 0, none⟩) (i + (n4 - (i + 1))) k2, .int .i64 0, .int .i64 0] := Bf.new w5 _ _ rfl
      have OV := O5.alloc (.cells #[.slice (some ⟨g2, 0, none⟩) (i + (n4 - (i + 1))) k2, .int .i64 0, .int .i64 0] 28)
      have KV := hK.2
      generalize hV : (w5.alloc (.cells #[.slice (some ⟨g2, 0, none⟩) (i + (n4 - (i + 1))) k2, .int .i64 0, .int .i64 0] 28)) = V at *
      generalize hh : w5.heap.size = h at BV ⊢
      clear hK hV hh hcx4 hfx4 hcx5 hfx5 hat4 hat5 hown4 hown4s hown4t hown5 hb4 hb5 hk4 hk5 O5
      rotate_left
      rename_i hK
      have B5 : Bf w5 (w4.heap.size) [.slice none 0 0, .int .i64 0, .int .i64 0] := Bf.far (by with_reducible (repeat (first | exact Bf.new _ _ _ (by first | rfl | (simp; done)) | refine Bf.drew ?_ | refine Bf.alloc ?_ _))) hq3 hcx5 hfx5 (by first | (simp; done) | (simp; omega))
      have hne2 : g2 ≠ w4.heap.size := by omega
      have O5 : Out 8 cellsP w5 (t.pods.take i ++ t.pods.drop (i + 1)) (some ⟨g2, 0, none⟩) k2 := out_of_own (show ∀ x, (cellsP x).length = 8 from fun _ => rfl) (by rw [List.length_append, List.length_take, List.length_drop]; have := HN4.out; omega) hown5
      have BV : Bf (((w5.setCell ⟨w4.heap.size, 0, none⟩ (.slice (some ⟨g2, 0, none⟩) (i + (n4 - (i + 1))) k2)).setCell ⟨w4.heap.size, 1, none⟩ (.int .i64 0)).setCell ⟨w4.heap.size, 2, none⟩ (.int .i64 0)) (w4.heap.size) [.slice (some ⟨g2, 0, none⟩) (i + (n4 - (i + 1))) k2, .int .i64 0, .int .i64 0] := ((B5.set 0 (.slice (some ⟨g2, 0, none⟩) (i + (n4 - (i + 1))) k2)).set 1 (.int .i64 0)).set 2 (.int .i64 0)
      have OV := ((O5.set (p := ⟨w4.heap.size, 0, none⟩) (fun a ha => by obtain rfl := Option.some.inj ha; exact hne2) (.slice (some ⟨g2, 0, none⟩) (i + (n4 - (i + 1))) k2)).set (p := ⟨w4.heap.size, 1, none⟩) (fun a ha => by obtain rfl := Option.some.inj ha; exact hne2) (.int .i64 0)).set (p := ⟨w4.heap.size, 2, none⟩) (fun a ha => by obtain rfl := Option.some.inj ha; exact hne2) (.int .i64 0)
      have KV := hK.2
      generalize hV : (((w5.setCell ⟨w4.heap.size, 0, none⟩ (.slice (some ⟨g2, 0, none⟩) (i + (n4 - (i + 1))) k2)).setCell ⟨w4.heap.size, 1, none⟩ (.int .i64 0)).setCell ⟨w4.heap.size, 2, none⟩ (.int .i64 0)) = V at *
      generalize hh : w4.heap.size = h at BV ⊢
      clear hK hV hh hcx4 hfx4 hcx5 hfx5 hat4 hat5 hown4 hown4s hown4t hown5 hb4 hb5 hk4 hk5 hne2 O5 B5
      rotate_left
      rename_i hK
      have B5 : Bf w5 (w3.heap.size + 1) [.slice none 0 0, .int .i64 0, .int .i64 0] := Bf.far (Bf.far (by with_reducible (repeat (first | exact Bf.new _ _ _ (by first | rfl | (simp; done)) | refine Bf.drew ?_ | refine Bf.alloc ?_ _))) (by omega) hcx4 hfx4 (by first | (simp; done) | (simp; omega))) hq2 hcx5 hfx5 (by first | (simp; done) | (simp; omega) | omega)
      have hne2 : g2 ≠ w3.heap.size + 1 := by omega
      have O5 : Out 8 cellsP w5 (t.pods.take i ++ t.pods.drop (i + 1)) (some ⟨g2, 0, none⟩) k2 := out_of_own (show ∀ x, (cellsP x).length = 8 from fun _ => rfl) (by rw [List.length_append, List.length_take, List.length_drop]; have := HN4.out; omega) hown5
      have BV : Bf (((w5.setCell ⟨w3.heap.size + 1, 0, none⟩ (.slice (some ⟨g2, 0, none⟩) (i + (n4 - (i + 1))) k2)).setCell ⟨w3.heap.size + 1, 1, none⟩ (.int .i64 0)).setCell ⟨w3.heap.size + 1, 2, none⟩ (.int .i64 0)) (w3.heap.size + 1) [.slice (some ⟨g2, 0, none⟩) (i + (n4 - (i + 1))) k2, .int .i64 0, .int .i64 0] := ((B5.set 0 (.slice (some ⟨g2, 0, none⟩) (i + (n4 - (i + 1))) k2)).set 1 (.int .i64 0)).set 2 (.int .i64 0)
      have OV := ((O5.set (p := ⟨w3.heap.size + 1, 0, none⟩) (fun a ha => by obtain rfl := Option.some.inj ha; exact hne2) (.slice (some ⟨g2, 0, none⟩) (i + (n4 - (i + 1))) k2)).set (p := ⟨w3.heap.size + 1, 1, none⟩) (fun a ha => by obtain rfl := Option.some.inj ha; exact hne2) (.int .i64 0)).set (p := ⟨w3.heap.size + 1, 2, none⟩) (fun a ha => by obtain rfl := Option.some.inj ha; exact hne2) (.int .i64 0)
      have KV := hK.2
      generalize hV : (((w5.setCell ⟨w3.heap.size + 1, 0, none⟩ (.slice (some ⟨g2, 0, none⟩) (i + (n4 - (i + 1))) k2)).setCell ⟨w3.heap.size + 1, 1, none⟩ (.int .i64 0)).setCell ⟨w3.heap.size + 1, 2, none⟩ (.int .i64 0)) = V at *
      generalize hh : w3.heap.size + 1 = h at BV ⊢
      clear hK hV hh hcx4 hfx4 hcx5 hfx5 hat4 hat5 hown4 hown4s hown4t hown5 hb4 hb5 hk4 hk5 hne2 O5 B5
      rotate_left
      rename_i hK
      have B5 : Bf w5 (w3.heap.size) [.slice none 0 0, .int .i64 0, .int .i64 0] := Bf.far (Bf.far (by with_reducible (repeat (first | exact Bf.new _ _ _ (by first | rfl | (simp; done)) | refine Bf.drew ?_ | refine Bf.alloc ?_ _))) (by omega) hcx4 hfx4 (by first | (simp; done) | (simp; omega))) hq1 hcx5 hfx5 (by first | (simp; done) | (simp; omega) | omega)
      have hne2 : g2 ≠ w3.heap.size := by omega
      have O5 : Out 8 cellsP w5 (t.pods.take i ++ t.pods.drop (i + 1)) (some ⟨g2, 0, none⟩) k2 := out_of_own (show ∀ x, (cellsP x).length = 8 from fun _ => rfl) (by rw [List.length_append, List.length_take, List.length_drop]; have := HN4.out; omega) hown5
      have BV : Bf (((w5.setCell ⟨w3.heap.size, 0, none⟩ (.slice (some ⟨g2, 0, none⟩) (i + (n4 - (i + 1))) k2)).setCell ⟨w3.heap.size, 1, none⟩ (.int .i64 0)).setCell ⟨w3.heap.size, 2, none⟩ (.int .i64 0)) (w3.heap.size) [.slice (some ⟨g2, 0, none⟩) (i + (n4 - (i + 1))) k2, .int .i64 0, .int .i64 0] := ((B5.set 0 (.slice (some ⟨g2, 0, none⟩) (i + (n4 - (i + 1))) k2)).set 1 (.int .i64 0)).set 2 (.int .i64 0)
      have OV := ((O5.set (p := ⟨w3.heap.size, 0, none⟩) (fun a ha => by obtain rfl := Option.some.inj ha; exact hne2) (.slice (some ⟨g2, 0, none⟩) (i + (n4 - (i + 1))) k2)).set (p := ⟨w3.heap.size, 1, none⟩) (fun a ha => by obtain rfl := Option.some.inj ha; exact hne2) (.int .i64 0)).set (p := ⟨w3.heap.size, 2, none⟩) (fun a ha => by obtain rfl := Option.some.inj ha; exact hne2) (.int .i64 0)
      have KV := hK.2
      generalize hV : (((w5.setCell ⟨w3.heap.size, 0, none⟩ (.slice (some ⟨g2, 0, none⟩) (i + (n4 - (i + 1))) k2)).setCell ⟨w3.heap.size, 1, none⟩ (.int .i64 0)).setCell ⟨w3.heap.size, 2, none⟩ (.int .i64 0)) = V at *
      generalize hh : w3.heap.size = h at BV ⊢
      clear hK hV hh hcx4 hfx4 hcx5 hfx5 hat4 hat5 hown4 hown4s hown4t hown5 hb4 hb5 hk4 hk5 hne2 O5 B5
      rotate_left
      all_goals
        have kV := kw3.trans (KV.mono kw3.size)
        have TV := HT3.out.keep KV
        have HKV := Lib.hid kV
        have HRT := Lib.hid (HR4.out V kV)
        have HF5 : Hid (∀ W, ((∀ b o, b < V.heap.size → W.cell? ⟨b, o, none⟩ = V.cell? ⟨b, o, none⟩) ∧ Below V.heap.size V W) → Calls Tryd.prog 7 #[.agg #[.slice A1 n1 c1, .slice A2 n2 c2, .slice A3 n3 c3], .agg #[.slice (some ⟨g2, 0, none⟩) (i + (n4 - (i + 1))) k2, .int .i64 0, .int .i64 0]] W fun e w' => e = .returned .nilIface ∧ Below W.heap.size W w') := fun W hW => by
          have h := apartCheck_any s.loads (t.pods.take i ++ t.pods.drop (i + 1)) A2 (some ⟨g2, 0, none⟩) n2 c2 (i + (n4 - (i + 1))) k2 (.slice A1 n1 c1) (.slice A3 n3 c3) (.int .i64 0) (.int .i64 0) W HN2.out (by omega) (HR2.out W (kV.trans (hW.2.mono kV.size))) (by simp; have := HN4.out; omega) (by omega) (by have := OV.1; simp at this; have := HN4.out; omega) ((OV.recs.below hW.2 (Nat.le_refl _)).more hW.2.size)
          rw [HL1.out] at h
          exact h.mono fun e w' ⟨u, he, hu, hb⟩ => ⟨by rw [he, errIs_none hu rfl rfl], hb⟩
        have HF6 : Hid (∀ W, ((∀ b o, b < V.heap.size → W.cell? ⟨b, o, none⟩ = V.cell? ⟨b, o, none⟩) ∧ Below V.heap.size V W) → Calls Tryd.prog 7 #[.agg #[.slice A1 n1 c1, .slice A2 n2 c2, .slice A3 n3 c3], .agg #[.slice (some ⟨b, o, none⟩) i c4, .int .i64 0, .int .i64 0]] W fun e w' => e = .returned .nilIface ∧ Below W.heap.size W w') := fun W hW => by
          have h := apartCheck_any s.loads (t.pods.take i) A2 (some ⟨b, o, none⟩) n2 c2 i c4 (.slice A1 n1 c1) (.slice A3 n3 c3) (.int .i64 0) (.int .i64 0) W HN2.out (by omega) (HR2.out W (kV.trans (hW.2.mono kV.size))) (by simp; have := HN4.out; omega) (by omega) (by omega) (((HRT.out.below hW.2 (Nat.le_refl _)).more hW.2.size).take i)
          rw [HL2.out] at h
          exact h.mono fun e w' ⟨u, he, hu, hb⟩ => ⟨by rw [he, errIs_none hu rfl rfl], hb⟩
        clear b0 b1 b2 b3
        obtain ⟨a0, a1, a2, a3⟩ := TV.one.cells3
        obtain ⟨b0, b1, b2, b3⟩ := TV.two.cells3
        obtain ⟨q0, q1, q2, q3⟩ := BV.cells3
        clear OV BV TV KV kV had hwp htn hic2 hin hi1
        go_wp2
        go_region_held3 (fun w' => (∀ b o, b < V.heap.size → w'.cell? ⟨b, o, none⟩ = V.cell? ⟨b, o, none⟩) ∧ Below V.heap.size V w')
          (first | (with_reducible assumption) | (show Keeps V _; with_reducible (repeat (first | exact Keeps.refl _ | assumption | refine Keeps.drew ?_ | refine Keeps.alloc ?_ _ | refine Keeps.step ?_ (by assumption)))))
          (first
            | (go_at_call 7; (with_reducible refine (HF5.out _ (by assumption)).mono ?_); rintro e w6 ⟨rfl, hb6⟩)
            | (go_at_call 7; (with_reducible refine (HF6.out _ (by assumption)).mono ?_); rintro e w7 ⟨rfl, hb7⟩))
        rename_i hK
        have HB6 := Lib.hid (HKV.out.trans (hK.2.mono HKV.out.size))
        clear hK
        go_wp2
        go_ret
        exact ⟨rfl, HB6.out⟩
    · obtain ⟨tt, vv, rfl⟩ := errIs_some hu hp
      have kw3 := T3'.below
      clear hu hp hb3 T3'
      go_wp2
      go_ret
      exact ⟨rfl, kw3⟩
end Go.Proofs.YtoiblfaalfpbpaaDoor
