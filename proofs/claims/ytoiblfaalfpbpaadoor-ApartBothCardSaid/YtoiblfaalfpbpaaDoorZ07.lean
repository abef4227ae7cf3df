/- Joined texts, part 7: BP BM WP WW WQ WK WT BX. -/
import Derived.Test.YtoiblfaalfpbpaaDoorZ06
import Derived.Test.YtoiblfaalfpbpaaDoorZ02
import Derived.Deep.CutRange
import Derived.Test.YtoiblfaalfpbpaaDoorZ03
import Derived.Test.YtoiblfaalfpbpaaDoorZ05
import Derived.Test.YtoiblfaalfpbpaaDoorZ01
import Derived.Deep.RegionHeld3
import Derived.BigQuiet

/- The head of layer 7's laws: the document's example, and two pods that clash. -/
namespace Go.Proofs.YtoiblfaalfpbpaaDoor
set_option linter.unusedSimpArgs false
open Go.RowKit
set_option linter.unusedVariables false

theorem recs_newG {α : Type} {size : Nat} {cells : α → List Value} (hc : ∀ x, (cells x).length = size) (w : World) (t : TypeId) (xs : List α) (cs : Array Value) (hcs : cs = (xs.flatMap cells).toArray) {g : Nat} (hg : g = w.heap.size) : Recs size cells (w.alloc (.cells cs t)) (g + 1) (some ⟨g, 0, none⟩) xs := by
  subst hcs hg
  refine .inr ⟨w.heap.size, 0, rfl, by omega, fun i hi j u hu => ?_⟩
  have hj : j < size := by have := (List.getElem?_eq_some_iff.1 hu).1; rwa [hc] at this
  have h2 := flatMap_get (size := size) hc hi hj
  rw [hu] at h2
  simpa using h2
def upL7 : LoadD := ⟨2, true, 0, 0, 0⟩
def upP7 : PodD := ⟨1, 2, 0, ⟨0, 0, 0, 0⟩, 3⟩
def upQ7 : PodD := ⟨4, 2, 0, ⟨0, 0, 0, 0⟩, 3⟩
theorem up7_none : apartOf [upL7] [] = (0, -1) := by decide
theorem up7_two : apartOf [upL7] [upP7, upQ7] = (10, 1) := by decide
theorem up7_clash : clashOf [upL7] [upP7, upQ7] 1 = 4 := by decide

set_option maxHeartbeats 6400000 in
set_option maxRecDepth 100000 in
theorem up07_any (w : World) (hg : Laid w) : Calls Tryd.prog 5 #[] w fun e w' => e = .returned (.bool true) ∧ Below w.heap.size w w' := by
  have hb1 : Below w.heap.size w (w.alloc (.cells #[.int .i64 2, .bool true, .int .i64 0, .int .i64 0, .int .i64 0] 46)) := (Below.refl _ w).alloc (Nat.le_refl _) _
  have hr1 := recs_newG (cells := cellsL) (size := 5) (fun _ => rfl) w 46 [upL7] #[.int .i64 2, .bool true, .int .i64 0, .int .i64 0, .int .i64 0] rfl rfl
  have hb2 := hb1.alloc (by simp) (.cells #[.slice none 0 0, .slice (some ⟨w.heap.size, 0, none⟩) 1 1, .slice none 0 0] 26)
  have hB : Bf ((w.alloc (.cells #[.int .i64 2, .bool true, .int .i64 0, .int .i64 0, .int .i64 0] 46)).alloc (.cells #[.slice none 0 0, .slice (some ⟨w.heap.size, 0, none⟩) 1 1, .slice none 0 0] 26)) (w.heap.size + 1) [.slice none 0 0, .slice (some ⟨w.heap.size, 0, none⟩) 1 1, .slice none 0 0] :=
    Bf.new (w.alloc (.cells #[.int .i64 2, .bool true, .int .i64 0, .int .i64 0, .int .i64 0] 46)) _ _ (by simp)
  have hr1' := hr1.below ((Below.refl _ _).alloc (Nat.le_refl _) (.cells #[.slice none 0 0, .slice (some ⟨w.heap.size, 0, none⟩) 1 1, .slice none 0 0] 26)) (by simp)
  have hsz : ((w.alloc (.cells #[.int .i64 2, .bool true, .int .i64 0, .int .i64 0, .int .i64 0] 46)).alloc (.cells #[.slice none 0 0, .slice (some ⟨w.heap.size, 0, none⟩) 1 1, .slice none 0 0] 26)).heap.size = w.heap.size + 2 := by simp
  clear hr1 hb1
  go_enter Tryd.func5, Tryd.ntmps5
  go_upto_region 2 with fail
  generalize hW : ((w.alloc (.cells #[.int .i64 2, .bool true, .int .i64 0, .int .i64 0, .int .i64 0] 46)).alloc (.cells #[.slice none 0 0, .slice (some ⟨w.heap.size, 0, none⟩) 1 1, .slice none 0 0] 26)) = W at *
  clear hW
  have HSZ := Lib.hid hsz
  have HB0 := Lib.hid hb2
  have HBB := Lib.hid hB
  have HR1 := Lib.hid hr1'
  generalize hgs : w.heap.size + 1 = gs at *
  have HGS := Lib.hid hgs
  clear hgs
  generalize hl : w.heap.size = gl at *
  clear hsz hb2 hB hr1'
  have hr2 := recs_newG (cells := cellsP) (size := 8) (fun _ => rfl) W 42 [upP7, upQ7] #[.int .i64 1, .int .i64 2, .int .i64 0, .int .u64 0, .int .u64 0, .int .u64 0, .int .u64 0, .int .i64 3, .int .i64 4, .int .i64 2, .int .i64 0, .int .u64 0, .int .u64 0, .int .u64 0, .int .u64 0, .int .i64 3] rfl rfl
  have hr2' := hr2.below ((Below.refl _ _).alloc (Nat.le_refl _) (.cells #[.slice (some ⟨W.heap.size, 0, none⟩) 2 2, .int .i64 0, .int .i64 0] 28)) (by simp)
  have hB2 : Bf ((W.alloc (.cells #[.int .i64 1, .int .i64 2, .int .i64 0, .int .u64 0, .int .u64 0, .int .u64 0, .int .u64 0, .int .i64 3, .int .i64 4, .int .i64 2, .int .i64 0, .int .u64 0, .int .u64 0, .int .u64 0, .int .u64 0, .int .i64 3] 42)).alloc (.cells #[.slice (some ⟨W.heap.size, 0, none⟩) 2 2, .int .i64 0, .int .i64 0] 28)) (W.heap.size + 1) [.slice (some ⟨W.heap.size, 0, none⟩) 2 2, .int .i64 0, .int .i64 0] :=
    Bf.new (W.alloc (.cells #[.int .i64 1, .int .i64 2, .int .i64 0, .int .u64 0, .int .u64 0, .int .u64 0, .int .u64 0, .int .i64 3, .int .i64 4, .int .i64 2, .int .i64 0, .int .u64 0, .int .u64 0, .int .u64 0, .int .u64 0, .int .i64 3] 42)) _ _ (by simp)
  have hb3 := below_two W (.cells #[.int .i64 1, .int .i64 2, .int .i64 0, .int .u64 0, .int .u64 0, .int .u64 0, .int .u64 0, .int .i64 3, .int .i64 4, .int .i64 2, .int .i64 0, .int .u64 0, .int .u64 0, .int .u64 0, .int .u64 0, .int .i64 3] 42) (.cells #[.slice (some ⟨W.heap.size, 0, none⟩) 2 2, .int .i64 0, .int .i64 0] 28)
  have hsz2 : ((W.alloc (.cells #[.int .i64 1, .int .i64 2, .int .i64 0, .int .u64 0, .int .u64 0, .int .u64 0, .int .u64 0, .int .i64 3, .int .i64 4, .int .i64 2, .int .i64 0, .int .u64 0, .int .u64 0, .int .u64 0, .int .u64 0, .int .i64 3] 42)).alloc (.cells #[.slice (some ⟨W.heap.size, 0, none⟩) 2 2, .int .i64 0, .int .i64 0] 28)).heap.size = W.heap.size + 2 := by simp
  clear hr2
  go_upto_region 3 with fail
  generalize hX : ((W.alloc (.cells #[.int .i64 1, .int .i64 2, .int .i64 0, .int .u64 0, .int .u64 0, .int .u64 0, .int .u64 0, .int .i64 3, .int .i64 4, .int .i64 2, .int .i64 0, .int .u64 0, .int .u64 0, .int .u64 0, .int .u64 0, .int .i64 3] 42)).alloc (.cells #[.slice (some ⟨W.heap.size, 0, none⟩) 2 2, .int .i64 0, .int .i64 0] 28)) = X at *
  clear hX
  generalize hg1 : W.heap.size + 1 = gt at *
  generalize hg2 : W.heap.size = gp at *
  have HK : Hid (Below gl w X) := HB0.out.trans (hb3.mono (by have := HSZ.out; omega))
  have HBS : Hid (Bf X gs [.slice none 0 0, .slice (some ⟨gl, 0, none⟩) 1 1, .slice none 0 0]) := HBB.out.below hb3 (by have := HBB.out.lt; omega)
  have HBT := Lib.hid hB2
  have HX1 : Hid (∀ V, Below X.heap.size X V → Recs 5 cellsL V V.heap.size (some ⟨gl, 0, none⟩) [upL7]) := fun V hV => ((HR1.out.below hb3 (by have := HSZ.out; have := HGS.out; omega)).below hV (by have := hsz2; have := HSZ.out; have := HGS.out; omega)).more (by have := hV.size; have := hsz2; have := HSZ.out; have := HGS.out; omega)
  have HX2 : Hid (∀ V, Below X.heap.size X V → Recs 8 cellsP V V.heap.size (some ⟨gp, 0, none⟩) [upP7, upQ7]) := fun V hV => (hr2'.below hV (by have := hsz2; omega)).more (by have := hV.size; have := hsz2; omega)
  have HG : Hid (∀ V, Below X.heap.size X V → Laid V) := fun V hV => Laid.below (Laid.below hg HK.out (by omega)) hV (Nat.le_refl _)
  have H1 : Hid (∀ V, Below X.heap.size X V → Calls Tryd.prog 7 #[.agg #[.slice none 0 0, .slice (some ⟨gl, 0, none⟩) 1 1, .slice none 0 0], .agg #[.slice none 0 0, .int .i64 0, .int .i64 0]] V fun e w' => e = .returned .nilIface ∧ Below V.heap.size V w') := fun V hV => by
    have h := apartCheck_any [upL7] [] (some ⟨gl, 0, none⟩) none 1 1 0 0 (.slice none 0 0) (.slice none 0 0) (.int .i64 0) (.int .i64 0) V rfl (by omega) (HX1.out V hV) rfl (by omega) (by omega) Recs.nil
    rw [up7_none] at h
    exact h.mono fun e w' ⟨u, he, hu, hb⟩ => ⟨by rw [he, errIs_none hu rfl rfl], hb⟩
  have H2 : Hid (∀ V, Below X.heap.size X V → Calls Tryd.prog 8 #[.agg #[.slice none 0 0, .slice (some ⟨gl, 0, none⟩) 1 1, .slice none 0 0], .agg #[.slice (some ⟨gp, 0, none⟩) 2 2, .int .i64 0, .int .i64 0], .int .i64 1] V fun e w' => e = .returned (.int .i64 4) ∧ Below V.heap.size V w') := fun V hV => by
    have h := apartClash_any [upL7] [upP7, upQ7] 1 (some ⟨gl, 0, none⟩) (some ⟨gp, 0, none⟩) 1 1 2 2 (.slice none 0 0) (.slice none 0 0) (.int .i64 0) (.int .i64 0) V rfl (by omega) (HX1.out V hV) rfl (by omega) (HX2.out V hV)
    rw [up7_clash] at h
    exact h
  have H3 : Hid (∀ V, Below X.heap.size X V → Calls Tryd.prog 7 #[.agg #[.slice none 0 0, .slice (some ⟨gl, 0, none⟩) 1 1, .slice none 0 0], .agg #[.slice (some ⟨gp, 0, none⟩) 2 2, .int .i64 0, .int .i64 0]] V fun e w' => ∃ g : Nat, e = .returned (.iface 53 (.pointer (some ⟨g, 0, none⟩))) ∧ w'.heap[g]? = some (.cells #[.int .i64 1, .int .i64 10] 55 (0, 0)) ∧ Below V.heap.size V w') := fun V hV => by
    have h := apartCheck_any [upL7] [upP7, upQ7] (some ⟨gl, 0, none⟩) (some ⟨gp, 0, none⟩) 1 1 2 2 (.slice none 0 0) (.slice none 0 0) (.int .i64 0) (.int .i64 0) V rfl (by omega) (HX1.out V hV) rfl (by omega) (by omega) (HX2.out V hV)
    rw [up7_two] at h
    refine h.mono fun e w' ⟨u, he, hu, hb⟩ => ?_
    obtain ⟨g, hg1, hg2⟩ := errIs_spot hu (k := 1) rfl
    exact ⟨g, by rw [he, hg1], hg2, hb⟩
  have HGW : Hid (gl = w.heap.size) := hl.symm
  clear hg hl hg1 hg2 hb3 hr2' hB2 hsz2 HSZ HGS HB0 HBB HR1 HX1 HX2
  obtain ⟨a0, a1, a2, a3⟩ := HBS.out.cells3
  obtain ⟨b0, b1, b2, b3⟩ := HBT.out.cells3
  go_wp2_with fail
  refine (H1.out _ (Below.refl _ _)).mono ?_
  rintro e w1 ⟨rfl, hb1⟩
  have HK1 := Lib.hid hb1
  clear a0 a1 a2 a3 b0 b1 b2 b3 hb1
  obtain ⟨a0, a1, a2, a3⟩ := (HBS.out.below HK1.out HBS.out.lt).cells3
  obtain ⟨b0, b1, b2, b3⟩ := (HBT.out.below HK1.out HBT.out.lt).cells3
  go_wp2_with fail
  refine (H2.out _ HK1.out).mono ?_
  rintro e w2 ⟨rfl, hb2⟩
  have HK2 := Lib.hid (HK1.out.trans (hb2.mono HK1.out.size))
  clear a0 a1 a2 a3 b0 b1 b2 b3 hb2
  obtain ⟨a0, a1, a2, a3⟩ := (HBS.out.below HK2.out HBS.out.lt).cells3
  obtain ⟨b0, b1, b2, b3⟩ := (HBT.out.below HK2.out HBT.out.lt).cells3
  go_wp2_with fail
  refine (H3.out _ HK2.out).mono ?_
  rintro e w3 ⟨g, rfl, hgg, hb3⟩
  have HK3 := Lib.hid (HK2.out.trans (hb3.mono HK2.out.size))
  have HI := Lib.hid (Is_yes g 1 10 w3 (HG.out w3 HK3.out) hgg)
  clear a0 a1 a2 a3 b0 b1 b2 b3 hb3 hgg
  go_wp2_with fail
  refine HI.out.mono ?_
  rintro e w4 ⟨rfl, hb4⟩
  have HK4 := Lib.hid (HK3.out.trans (hb4.mono HK3.out.size))
  clear hb4
  go_wp2
  go_ret
  have hfin := HK.out.trans (HK4.out.mono (show gl ≤ X.heap.size by have := HK.out.size; have := HGW.out; omega))
  rw [HGW.out] at hfin
  exact ⟨rfl, hfin⟩
end Go.Proofs.YtoiblfaalfpbpaaDoor

/- Plain mathematics: of pods whose Ids rise, who clashes with whom. -/
namespace Go.Proofs.YtoiblfaalfpbpaaDoor
set_option linter.unusedSimpArgs false
open Go.RowKit
set_option linter.unusedVariables false

/-- The first k Ids rise, from 1 on. -/
def Rises (l : List PodD) (k : Nat) : Prop := ∀ j (hj : j < l.length), j < k → 1 ≤ l[j].id ∧ (∀ h0 : 0 < j, (l[j - 1]'(by omega)).id < l[j].id)
theorem rises_zero (l : List PodD) : Rises l 0 := fun j _ h => by omega
theorem rises_first {l : List PodD} (h : 0 < l.length) (h1 : 1 ≤ l[0].id) : Rises l 1 := fun j hj hk => by
  obtain rfl : j = 0 := by omega
  exact ⟨h1, fun h0 => by omega⟩
theorem rises_next {l : List PodD} {k : Nat} (h : k + 1 < l.length) (hr : Rises l (k + 1)) (h1 : 1 ≤ l[k + 1].id) (h2 : l[k].id < l[k + 1].id) : Rises l (k + 1 + 1) := fun j hj hk => by
  by_cases hjk : j < k + 1
  · exact hr j hj hjk
  · obtain rfl : j = k + 1 := by omega
    exact ⟨h1, fun _ => h2⟩
theorem rises_lt {l : List PodD} {n : Nat} (hr : Rises l n) (hn : l.length ≤ n) {i : Nat} : ∀ (d : Nat) (h : i + d + 1 < l.length), l[i].id < l[i + d + 1].id
  | 0, h => (hr (i + 0 + 1) h (by omega)).2 (by omega)
  | d + 1, h => by
    have h1 := rises_lt hr hn (i := i) d (by omega)
    have h2 := (hr (i + (d + 1) + 1) h (by omega)).2 (by omega)
    have h3 : l[i + (d + 1) + 1 - 1]'(by omega) = l[i + d + 1]'(by omega) := by congr 1
    rw [h3] at h2
    omega
theorem rises_inj {l : List PodD} {n : Nat} (hr : Rises l n) (hn : l.length ≤ n) {i j : Nat} (hi : i < l.length) (hj : j < l.length) (h : i ≠ j) : l[i].id ≠ l[j].id := by
  rcases Nat.lt_or_gt_of_ne h with h | h
  · obtain ⟨d, rfl⟩ : ∃ d, j = i + d + 1 := ⟨j - i - 1, by omega⟩
    have := rises_lt hr hn (i := i) d hj
    omega
  · obtain ⟨d, rfl⟩ : ∃ d, i = j + d + 1 := ⟨i - j - 1, by omega⟩
    have := rises_lt hr hn (i := j) d hi
    omega
theorem rises_pos {l : List PodD} {n : Nat} (hr : Rises l n) (hn : l.length ≤ n) {i : Nat} (hi : i < l.length) : 1 ≤ l[i].id := (hr i hi (by omega)).1
theorem rises_place {l : List PodD} {n : Nat} (hr : Rises l n) (hn : l.length ≤ n) {i : Nat} (hi : i < l.length) : place PodD.id l[i].id l 0 = i := by
  have := place_at (f := PodD.id) (id := l[i].id) (k := 0) hi rfl (fun j hj => rises_inj hr hn (by omega) hi (by omega))
  omega
theorem rises_clash {ls : List LoadD} {l : List PodD} {n : Nat} (hr : Rises l n) (hn : l.length ≤ n) {i : Nat} (hi : i < l.length) : clashOf ls l l[i].id = clashFrom ls l[i] i l 0 :=
  clashOf_some hi (rises_place hr hn hi) rfl
theorem clashFrom_spec {ls : List LoadD} {p : PodD} {i : Nat} {l : List PodD} : ∀ (n k : Nat), l.length = k + n →
    (clashFrom ls p i (l.drop k) k = 0 ∧ ∀ j, k ≤ j → ∀ h : j < l.length, j ≠ i → clashD ls p l[j] = false) ∨ ∃ j, ∃ h : j < l.length, j ≠ i ∧ clashD ls p l[j] = true ∧ clashFrom ls p i (l.drop k) k = l[j].id
  | 0, k, hn => .inl ⟨by rw [List.drop_of_length_le (by omega)]; rfl, fun j h1 h2 => by omega⟩
  | n + 1, k, hn => by
    have hk : k < l.length := by omega
    rw [List.drop_eq_getElem_cons hk, clashFrom]
    by_cases h : k ≠ i ∧ clashD ls p l[k] = true
    · rw [if_pos h]
      exact .inr ⟨k, hk, h.1, h.2, rfl⟩
    · rw [if_neg h]
      rcases clashFrom_spec (ls := ls) (p := p) (i := i) (l := l) n (k + 1) (by omega) with ⟨h1, h2⟩ | ⟨j, h1, h2, h3, h4⟩
      · refine .inl ⟨h1, fun j hj1 hj2 hj3 => ?_⟩
        by_cases hjk : j = k
        · subst hjk
          cases hc : clashD ls p l[j] with
          | false => rfl
          | true => exact absurd ⟨hj3, hc⟩ h
        · exact h2 j (by omega) hj2 hj3
      · exact .inr ⟨j, h1, h2, h3, h4⟩
theorem clash_zero {ls : List LoadD} {l : List PodD} {n : Nat} (hr : Rises l n) (hn : l.length ≤ n) {i : Nat} (hi : i < l.length) : clashOf ls l l[i].id = 0 ↔ ∀ j, ∀ h : j < l.length, j ≠ i → clashD ls l[i] l[j] = false := by
  rw [rises_clash hr hn hi]
  have hs := clashFrom_spec (ls := ls) (p := l[i]) (i := i) (l := l) l.length 0 (by omega)
  rw [List.drop_zero] at hs
  rcases hs with ⟨h1, h2⟩ | ⟨j, h1, h2, h3, h4⟩
  · exact ⟨fun _ j hj hne => h2 j (by omega) hj hne, fun _ => h1⟩
  · have := rises_pos hr hn h1
    constructor
    · intro h; omega
    · intro h; rw [h j h1 h2] at h3; cases h3
/-- Who clashes clashes with another one, which clashes too. -/
theorem clash_other {ls : List LoadD} {l : List PodD} {n : Nat} (hr : Rises l n) (hn : l.length ≤ n) {i : Nat} (hi : i < l.length) (h : clashOf ls l l[i].id ≠ 0) : clashOf ls l l[i].id ≠ l[i].id ∧ clashOf ls l (clashOf ls l l[i].id) ≠ 0 := by
  have hs := clashFrom_spec (ls := ls) (p := l[i]) (i := i) (l := l) l.length 0 (by omega)
  rw [List.drop_zero, ← rises_clash hr hn hi] at hs
  rcases hs with ⟨h1, _⟩ | ⟨j, h1, h2, h3, h4⟩
  · exact absurd h1 h
  · rw [h4]
    refine ⟨rises_inj hr hn h1 hi h2, fun h0 => ?_⟩
    have := (clash_zero (ls := ls) hr hn h1).1 h0 i hi (by omega)
    rw [clashD_symm h3] at this
    cases this
/-- Does one of the first k clash? -/
def someB (ls : List LoadD) (l : List PodD) (k : Nat) : Bool := (l.take k).any fun p => clashOf ls l p.id != 0
theorem someB_zero (ls : List LoadD) (l : List PodD) : someB ls l 0 = false := by simp [someB]
theorem someB_next {ls : List LoadD} {l : List PodD} {k : Nat} (h : k < l.length) : someB ls l (k + 1) = (someB ls l k || clashOf ls l l[k].id != 0) := by
  rw [someB, List.take_succ_eq_append_getElem h, List.any_append]; simp [someB]
theorem some_apart {ls : List LoadD} {l : List PodD} {n : Nat} (hr : Rises l n) (hn : l.length ≤ n) {k : Nat} (hk : l.length ≤ k) : someB ls l k = !(decide ((apartOf ls l).1 = 0)) := by
  rw [someB, List.take_of_length_le hk]
  by_cases h : (apartOf ls l).1 = 0
  · rw [decide_eq_true h, Bool.not_true, List.any_eq_false]
    intro p hp
    obtain ⟨i, hi, rfl⟩ := List.getElem_of_mem hp
    have h0 := (apart_pairwise.1 (apart_zero h))
    rw [List.pairwise_iff_getElem] at h0
    have := (clash_zero (ls := ls) hr hn hi).2 (fun j hj hne => by
      rcases Nat.lt_or_gt_of_ne hne with hne | hne
      · exact h0 j i hj hi hne
      · have := h0 i j hi hj hne
        rw [clashD_comm] at this
        exact this)
    simp [this]
  · rw [decide_eq_false h, Bool.not_false]
    cases ha : l.any (fun p => clashOf ls l p.id != 0) with
    | true => rfl
    | false =>
      exfalso
      apply h
      rw [List.any_eq_false] at ha
      have : apartOf ls l = (0, -1) := by
        rw [apart_pairwise, List.pairwise_iff_getElem]
        intro i j hi hj hij
        have h1 := ha l[i] (List.getElem_mem hi)
        have h2 : clashOf ls l l[i].id = 0 := by simpa using h1
        have h3 := (clash_zero (ls := ls) hr hn hi).1 h2 j hj (by omega)
        rw [clashD_comm]
        exact h3
      rw [this]
end Go.Proofs.YtoiblfaalfpbpaaDoor

/- The head of layer 6's laws: the document's example, and a node without room. -/
namespace Go.Proofs.YtoiblfaalfpbpaaDoor
set_option linter.unusedSimpArgs false
open Go.RowKit
set_option linter.unusedVariables false

def upN6 : NodeD := ⟨3, 1, ⟨5, 0, 0, 0⟩, ⟨1, 0, 0, 0⟩⟩
def upP6 : PodD := ⟨1, 0, 0, ⟨5, 0, 0, 0⟩, 3⟩
theorem up6_rest : restD [upN6] [] 3 = (⟨4, 0, 0, 0⟩, 0) := by rfl
theorem up6_full : roomOf [upN6] [upP6] = (9, 0) := by decide
theorem up6_none : roomOf [upN6] [] = (0, -1) := by decide
theorem upN6_ok : ∀ x ∈ [upN6], x.Ok := by
  intro x hx
  obtain rfl := List.mem_singleton.1 hx
  exact ⟨⟨by decide, by decide⟩, ⟨by decide, by decide⟩, ⟨⟨by decide, by decide⟩, ⟨by decide, by decide⟩, ⟨by decide, by decide⟩, ⟨by decide, by decide⟩⟩, ⟨⟨by decide, by decide⟩, ⟨by decide, by decide⟩, ⟨by decide, by decide⟩, ⟨by decide, by decide⟩⟩⟩
theorem upP6_ok : ∀ x ∈ [upP6], x.Ok := by
  intro x hx
  obtain rfl := List.mem_singleton.1 hx
  exact ⟨⟨by decide, by decide⟩, ⟨by decide, by decide⟩, ⟨by decide, by decide⟩, ⟨⟨by decide, by decide⟩, ⟨by decide, by decide⟩, ⟨by decide, by decide⟩, ⟨by decide, by decide⟩⟩, ⟨by decide, by decide⟩⟩
theorem no_ok {α : Type} {Ok : α → Prop} : ∀ p ∈ ([] : List α), Ok p := fun _ h => by simp at h

end Go.Proofs.YtoiblfaalfpbpaaDoor

/- The use of a node by the reference. -/
namespace Go.Proofs.YtoiblfaalfpbpaaDoor
set_option linter.unusedSimpArgs false
open Go.RowKit
set_option linter.unusedVariables false

end Go.Proofs.YtoiblfaalfpbpaaDoor

/- A node's rest by the reference. -/
namespace Go.Proofs.YtoiblfaalfpbpaaDoor
set_option linter.unusedSimpArgs false
open Go.RowKit
set_option linter.unusedVariables false

theorem ref_ret {p : V4 × Int} {a : Value} {b : Value} (q : V4 × Int) (h : p = q) (ha : a = aggV q.1) (hb : b = .int .i64 q.2) : Ending.returned (.tuple #[a, b]) = .returned (.tuple #[aggV p.1, .int .i64 p.2]) := by subst h ha hb; rfl

end Go.Proofs.YtoiblfaalfpbpaaDoor

/- The first node at fault by the reference. -/
namespace Go.Proofs.YtoiblfaalfpbpaaDoor
set_option linter.unusedSimpArgs false
open Go.RowKit
set_option linter.unusedVariables false

end Go.Proofs.YtoiblfaalfpbpaaDoor

/- The law RoomTells. -/
namespace Go.Proofs.YtoiblfaalfpbpaaDoor
set_option linter.unusedSimpArgs false
open Go.RowKit
set_option linter.unusedVariables false

theorem vec_not_self (x : V4) (w : World) : (binOp .neq 40 (.agg #[.int .u64 x.a, .int .u64 x.b, .int .u64 x.c, .int .u64 x.d]) (.agg #[.int .u64 x.a, .int .u64 x.b, .int .u64 x.c, .int .u64 x.d])).run Tryd.prog w = .ok (.bool false) w := by
  rw [vec_neq, vecEq_self]
  rfl
theorem few06 {n1 n2 n3 n5 : Nat} (h : few05 n1 n2 n3 0 n5 = true) : n1 ≤ 40 ∧ n2 ≤ 40 ∧ n3 ≤ 40 ∧ n5 ≤ 40 := by
  simp [few05] at h
  omega
end Go.Proofs.YtoiblfaalfpbpaaDoor

namespace Go.Proofs.YtoiblfaalfpbpaaDoor
set_option linter.unusedSimpArgs false
open Go.RowKit
set_option linter.unusedVariables false

theorem T2.draws {a b : List Value} {w V : World} (h : T2 a b w V) (q : Nat) : T2 a b w (V.drewN q) := h.keep (below_draws (Below.refl _ _) q)
def RiseRel (l : List PodD) (a b : List Value) (n : Nat) (w : World) (i : Value) (wr : World) : Prop := ∃ k : Nat, k ≤ n ∧ i = .int .i64 k ∧ Rises l k ∧ T2 a b w wr
def SomeRel (ls : List LoadD) (l : List PodD) (a b : List Value) (n : Nat) (w : World) (f i : Value) (wr : World) : Prop := ∃ k : Nat, k ≤ n ∧ f = .bool (someB ls l k) ∧ i = .int .i64 k ∧ T2 a b w wr

set_option maxHeartbeats 25600000 in
set_option maxRecDepth 100000 in
theorem apartBoth_in (s : SnapD) (t : StateD) (A1 A2 A3 A4 : Option Addr) (n1 c1 n2 c2 n3 c3 n4 c4 : Nat) (w : World) (hg : Laid w)
    (hn2 : n2 = s.loads.length) (hr2 : Recs 5 cellsL w w.heap.size A2 s.loads) (hn4 : n4 = t.pods.length) (hr4 : Recs 8 cellsP w w.heap.size A4 t.pods) (hc4 : n4 ≤ c4) :
    Calls Tryd.prog 4 #[.agg #[.slice A1 n1 c1, .slice A2 n2 c2, .slice A3 n3 c3], .agg #[.slice A4 n4 c4, .int .i64 t.preempts, .int .i64 t.shifts]] w fun e w' => e = .returned (.bool true) ∧ Below w.heap.size w w' := by
  have T0 := T2.new w [.slice A1 n1 c1, .slice A2 n2 c2, .slice A3 n3 c3] [.slice A4 n4 c4, .int .i64 t.preempts, .int .i64 t.shifts] 26 28
  have HG := Lib.hid (fun (V : World) (hV : Below w.heap.size w V) => Laid.below hg hV (Nat.le_refl _))
  have HR2 := Lib.hid (fun (V : World) (hV : Below w.heap.size w V) => (hr2.below hV (Nat.le_refl _)).more hV.size)
  have HR4 := Lib.hid (fun (V : World) (hV : Below w.heap.size w V) => (hr4.below hV (Nat.le_refl _)).more hV.size)
  have HRR := Lib.hid hr4
  have HUP := Lib.hid (up07_any _ (HG.out _ T0.below))
  have HN2 := Lib.hid hn2
  have HN4 := Lib.hid hn4
  clear hg hr2 hr4 hn2 hn4
  go_enter Tryd.func4, Tryd.ntmps4
  go_wp2_with fail
  refine HUP.out.mono ?_
  rintro e w1 ⟨rfl, hb1⟩
  have T1 := T0.keep hb1
  clear hb1 T0 HUP
  obtain ⟨a0, a1, a2, a3⟩ := T1.one.cells3
  obtain ⟨b0, b1, b2, b3⟩ := T1.two.cells3
  go_wp2_with fail
  refine (few05_any _ _ _ _ _ _ _ _ _ _ _ _ _ _ _ _ _ _ _ _).mono ?_
  rintro e w2 ⟨rfl, hb2⟩
  have T2' := T1.keep hb2
  have kw := T2'.below
  clear hb2 T1 a0 a1 a2 a3 b0 b1 b2 b3
  cases hfew : few05 n1 n2 n3 0 n4 with
  | false =>
    clear hfew T2'
    go_wp2
    go_ret
    exact ⟨rfl, kw⟩
  | true =>
    obtain ⟨_, hl2, _, hl4⟩ := few06 hfew
    have HT0 := Lib.hid T2'
    have HCL := Lib.hid (fun W (hW : Below w.heap.size w W) id => apartClash_any s.loads t.pods id A2 A4 n2 c2 n4 c4 (.slice A1 n1 c1) (.slice A3 n3 c3) (.int .i64 t.preempts) (.int .i64 t.shifts) W HN2.out (by omega) (HR2.out W hW) HN4.out (by omega) (HR4.out W hW))
    have HCH := Lib.hid (fun W hW => apartCheck_any s.loads t.pods A2 A4 n2 c2 n4 c4 (.slice A1 n1 c1) (.slice A3 n3 c3) (.int .i64 t.preempts) (.int .i64 t.shifts) W HN2.out (by omega) (HR2.out W hW) HN4.out (by omega) hc4 (HR4.out W hW))
    clear hfew kw T2'
    go_wp2
    go_loopw [8] (RiseRel t.pods [.slice A1 n1 c1, .slice A2 n2 c2, .slice A3 n3 c3] [.slice A4 n4 c4, .int .i64 t.preempts, .int .i64 t.shifts] n4 w) (fun i _ => n4 - (intOf i).toNat)
    case atStart => exact ⟨0, by omega, rfl, rises_zero _, HT0.out⟩
    case round =>
      obtain ⟨k, hk, rfl, hri, T1⟩ := hrel
      have HT1 := Lib.hid T1
      have HRI := Lib.hid hri
      obtain ⟨b0, b1, b2, b3⟩ := T1.two.cells3
      clear hri
      by_cases hlt : k < n4
      · have hkl : k < t.pods.length := by have := HN4.out; omega
        obtain ⟨b, o, rfl, hb, he⟩ := HRR.out.at hkl
        have kwr := T1.below
        generalize hx : t.pods[k] = x at *
        have HX := Lib.hid hx
        have e0 : wr.cell? ⟨b, o + k * 8, none⟩ = some (.int .i64 x.id) := (kwr.cell (p := ⟨b, o + k * 8, none⟩) hb).trans (he 0 _ rfl)
        have hbw : b < wr.heap.size := Nat.lt_of_lt_of_le hb kwr.size
        clear he hx
        cases k with
        | zero =>
          simp only [Nat.zero_mul, Nat.add_zero] at e0
          have hn0 : (0 : Int) < (n4 : Int) := by omega
          by_cases h1 : x.id < 1
          · have hd : decide (x.id < 1) = true := decide_eq_true h1
            clear h1 T1
            go_wp2
            go_quiet (fail)
            go_wp2
            go_ret
            exact ⟨rfl, below_draws kwr _⟩
          · have hd : decide (x.id < 1) = false := decide_eq_false h1
            have HS := Lib.hid (rises_first hkl (by rw [HX.out]; omega))
            clear h1 T1
            go_wp2
            go_quiet (fail)
            go_wp2
            go_roundw
            case rel => exact ⟨1, by omega, by go_num, HS.out, HT1.out.draws _⟩
            case measure => simp [intOf]; omega
        | succ j =>
          have hjl : j < t.pods.length := by omega
          obtain ⟨b', o', h1, _, hf⟩ := HRR.out.at hjl
          injection h1 with h1
          injection h1 with h1 h2 _
          subst h1 h2
          generalize hy : t.pods[j] = y at *
          have HY := Lib.hid hy
          have f0 : wr.cell? ⟨b, o + j * 8, none⟩ = some (.int .i64 y.id) := (kwr.cell (p := ⟨b, o + j * 8, none⟩) hb).trans (hf 0 _ rfl)
          have hj0 : (0 : Int) ≤ (j : Int) := by omega
          have hj1 : (0 : Int) ≤ (j : Int) + 1 := by omega
          have hjn : (j : Int) < (n4 : Int) := by omega
          have hjn1 : (j : Int) + 1 < (n4 : Int) := by omega
          have hjp : decide ((0 : Int) < (j : Int) + 1) = true := decide_eq_true (by omega)
          have s1 : IntKind.i64.wrap ((j : Int) + 1 - 1) = (j : Int) := by rw [IntWalk.i64_in _ (by omega)]; omega
          have s2 : IntKind.i64.wrap (j : Int) = (j : Int) := IntWalk.i64_in _ (by omega)
          have s3 : ((j : Int) + 1).toNat = j + 1 := by omega
          clear hf hy T1
          by_cases h2 : x.id ≤ y.id
          · have hd2 : decide (x.id ≤ y.id) = true := decide_eq_true h2
            clear h2
            go_wp2
            go_quiet (fail)
            go_wp2
            go_ret
            exact ⟨rfl, below_draws kwr _⟩
          · have hd2 : decide (x.id ≤ y.id) = false := decide_eq_false h2
            by_cases h1 : x.id < 1
            · have hd : decide (x.id < 1) = true := decide_eq_true h1
              clear h1 h2
              go_wp2
              go_quiet (fail)
              go_wp2
              go_ret
              exact ⟨rfl, below_draws kwr _⟩
            · have hd : decide (x.id < 1) = false := decide_eq_false h1
              have HS := Lib.hid (rises_next hkl HRI.out (by rw [HX.out]; omega) (by rw [HX.out, HY.out]; omega))
              clear h1 h2
              go_wp2
              go_quiet (fail)
              go_wp2
              go_roundw
              case rel => exact ⟨j + 1 + 1, by omega, by go_num, HS.out, HT1.out.draws _⟩
              case measure => simp [intOf]; omega
      · have hlk : t.pods.length ≤ k := by have := HN4.out; omega
        have HSA := Lib.hid (fun m (hm : t.pods.length ≤ m) => some_apart (ls := s.loads) HRI.out hlk hm)
        have HCO := Lib.hid (fun i (hi : i < t.pods.length) h => clash_other (ls := s.loads) HRI.out hlk hi h)
        clear hk T1
        go_wp2
        go_loopw [7, 9] (SomeRel s.loads t.pods [.slice A1 n1 c1, .slice A2 n2 c2, .slice A3 n3 c3] [.slice A4 n4 c4, .int .i64 t.preempts, .int .i64 t.shifts] n4 w) (fun _ i _ => n4 - (intOf i).toNat)
        case atStart => exact ⟨0, by omega, by rw [someB_zero], rfl, HT1.out⟩
        case round =>
          clear b0 b1 b2 b3
          obtain ⟨i, hi, rfl, rfl, T4⟩ := hrel
          have HT4 := Lib.hid T4
          have kwr := T4.below
          obtain ⟨a0, a1, a2, a3⟩ := T4.one.cells3
          obtain ⟨b0, b1, b2, b3⟩ := T4.two.cells3
          clear T4
          by_cases hlt2 : i < n4
          · have hil : i < t.pods.length := by have := HN4.out; omega
            have HNX := Lib.hid (someB_next (ls := s.loads) hil)
            have HOT := Lib.hid (HCO.out i hil)
            obtain ⟨b, o, rfl, hb, he⟩ := HRR.out.at hil
            generalize hx : t.pods[i] = x at *
            have e0 : wr.cell? ⟨b, o + i * 8, none⟩ = some (.int .i64 x.id) := (kwr.cell (p := ⟨b, o + i * 8, none⟩) hb).trans (he 0 _ rfl)
            have hbw : b < wr.heap.size := Nat.lt_of_lt_of_le hb kwr.size
            have hi0 : (0 : Int) ≤ (i : Int) := by omega
            have hin : (i : Int) < (n4 : Int) := by omega
            have HCW : Hid (∀ V, ((∀ b o, b < wr.heap.size → V.cell? ⟨b, o, none⟩ = wr.cell? ⟨b, o, none⟩) ∧ Below wr.heap.size wr V) → Calls Tryd.prog 8 #[.agg #[.slice A1 n1 c1, .slice A2 n2 c2, .slice A3 n3 c3], .agg #[.slice (some ⟨b, o, none⟩) n4 c4, .int .i64 t.preempts, .int .i64 t.shifts], .int .i64 x.id] V fun e w' => e = .returned (.int .i64 (clashOf s.loads t.pods x.id)) ∧ Below V.heap.size V w') := fun V hV => HCL.out V (kwr.trans (hV.2.mono kwr.size)) x.id
            generalize hz : clashOf s.loads t.pods x.id = z at *
            generalize hf : someB s.loads t.pods i = f at *
            have HZ := Lib.hid (fun V hV => HCL.out V hV z)
            clear he hx hz hf
            go_wp2
            go_region_held3 (fun w' => (∀ b o, b < wr.heap.size → w'.cell? ⟨b, o, none⟩ = wr.cell? ⟨b, o, none⟩) ∧ Below wr.heap.size wr w')
              (first | (with_reducible assumption) | (show Keeps wr _; with_reducible (repeat (first | exact Keeps.refl _ | assumption | refine Keeps.drew ?_ | refine Keeps.alloc ?_ _ | refine Keeps.step ?_ (by assumption)))))
              (first | (go_at_call 8; (with_reducible refine (HCW.out _ (by assumption)).mono ?_); rintro e w5 ⟨rfl, hb5⟩))
            rename_i hK
            have T5 := HT4.out.keep hK.2
            have k5 := T5.below
            have HT5 := Lib.hid T5
            have e05 := (hK.1 b (o + i * 8) hbw).trans e0
            clear hK a0 a1 a2 a3 b0 b1 b2 b3 e0
            obtain ⟨a0, a1, a2, a3⟩ := T5.one.cells3
            obtain ⟨b0, b1, b2, b3⟩ := T5.two.cells3
            clear T5
            by_cases h0 : z = 0
            · have hd : (z != 0) = false := by simp [h0]
              have HD := Lib.hid hd
              clear h0
              cases f with
              | true =>
                go_wp2
                go_roundw
                case rel => exact ⟨i + 1, by omega, by rw [HNX.out]; rfl, by go_num, HT5.out⟩
                case measure => simp [intOf]; omega
              | false =>
                go_wp2
                go_roundw
                case rel => exact ⟨i + 1, by omega, by rw [HNX.out, HD.out]; rfl, by go_num, HT5.out⟩
                case measure => simp [intOf]; omega
            · obtain ⟨hne, hcz⟩ := HOT.out h0
              have hd : (z != 0) = true := by simp [h0]
              have HD := Lib.hid hd
              have hd2 : (z == x.id) = false := by simp [hne]
              have HZ5 := Lib.hid (HZ.out _ k5)
              generalize clashOf s.loads t.pods z = y at *
              have hd3 : (y == 0) = false := by simp [hcz]
              clear h0 hne hcz HOT HZ
              go_wp2_with fail
              refine HZ5.out.mono ?_
              rintro e w6 ⟨rfl, hb6⟩
              have HT6 := Lib.hid (HT5.out.keep hb6)
              clear hb6 HZ5
              cases f with
              | true =>
                go_wp2
                go_roundw
                case rel => exact ⟨i + 1, by omega, by rw [HNX.out]; rfl, by go_num, HT6.out⟩
                case measure => simp [intOf]; omega
              | false =>
                go_wp2
                go_roundw
                case rel => exact ⟨i + 1, by omega, by rw [HNX.out, HD.out]; rfl, by go_num, HT6.out⟩
                case measure => simp [intOf]; omega
          · have hsome := HSA.out i (by have := HN4.out; omega)
            have HCC := Lib.hid (HCH.out wr kwr)
            generalize someB s.loads t.pods i = f at *
            by_cases hp : (apartOf s.loads t.pods).1 = 0
            · rw [decide_eq_true hp] at hsome
              obtain rfl : f = false := hsome
              have HP := Lib.hid hp
              clear hp
              go_wp2_with fail
              refine HCC.out.mono ?_
              rintro e w5 ⟨u, rfl, hu, hb5⟩
              obtain rfl := errIs_none hu HP.out (by rw [apart_zero HP.out])
              have k5 := kwr.trans (hb5.mono kwr.size)
              clear hu hb5
              go_wp2
              go_ret
              exact ⟨rfl, k5⟩
            · rw [decide_eq_false hp] at hsome
              obtain rfl : f = true := hsome
              have HP := Lib.hid hp
              clear hp
              go_wp2_with fail
              refine HCC.out.mono ?_
              rintro e w5 ⟨u, rfl, hu, hb5⟩
              obtain ⟨tt, vv, rfl⟩ := errIs_some hu HP.out
              have k5 := kwr.trans (hb5.mono kwr.size)
              clear hu hb5
              go_wp2
              go_ret
              exact ⟨rfl, k5⟩
end Go.Proofs.YtoiblfaalfpbpaaDoor
