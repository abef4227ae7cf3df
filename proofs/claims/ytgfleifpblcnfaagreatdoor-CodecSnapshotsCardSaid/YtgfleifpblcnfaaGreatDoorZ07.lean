/- Joined texts, part 7: GC GB GDN GEN GDL GEL GDP GEP GDW GEW GDM. -/
import Derived.Test.YtgfleifpblcnfaaGreatDoorZ06
import Derived.Lib.AppendZerosOnto
import Derived.Lib.Walk

/- slices.Grow of nil and slices.Concat, at []uint64: what they tell is a row of the call's own. -/
namespace Go.Proofs.YtgfleifpblcnfaaGreatDoor
set_option linter.unusedSimpArgs false
open Go.RowKit
set_option linter.unusedVariables false

def GrowTo (w : World) (e : Ending) (w' : World) : Prop := ∃ v, e = .returned v ∧ w'.ownsRow w.heap.size 65 1 v 0 [] ∧ Below w.heap.size w w'
theorem grow_end (w : World) (n G : Nat) (h : n ≤ G) (hG : G ≤ maxLen) : GrowTo w (.returned (.slice (some ⟨w.heap.size, 0, none⟩) 0 G)) (w.alloc (.cells (Builtin.zeroCells #[Value.int .u64 0] n ++ Builtin.zeroCells #[Value.int .u64 0] (G - n)) 65)).drew := by
  refine ⟨_, rfl, World.ownsRow_made w.drew (Builtin.zeroCells #[Value.int .u64 0] n ++ Builtin.zeroCells #[Value.int .u64 0] (G - n)) G (Nat.le_refl _) hG ?_, ((Below.refl _ w).alloc (Nat.le_refl _) _).drew⟩
  simp [size_zeroCells]
  omega
set_option maxHeartbeats 1600000 in
theorem grow_any (n : Nat) (w : World) (hn : n ≤ 1000000) :
    Calls Tryz.prog 74 #[.slice none 0 0, .int .i64 (n : Int)] w (GrowTo w) := by
  rcases Nat.eq_zero_or_pos n with h0 | h0
  · subst h0
    go_enter Tryz.func74, Tryz.ntmps74
    go_wp2
    go_ret
    exact ⟨_, rfl, World.ownsRow_nil _ _ _ _, Below.refl _ _⟩
  · obtain ⟨i0, hi, hz0, hz1, hz2⟩ := info_parts Tryz.info65
    have hrz : ∀ ty, (Builtin.append_ #[38, 3] ty #[.slice none 0 0, .int .i64 (n : Int)]).run Tryz.prog w =
        .ok (.slice (some ⟨w.heap.size, 0, none⟩) n (grownCap w n 0 65)) (w.drew.alloc (.cells (([] : List Value).toArray ++ Builtin.zeroCells (Value.int .u64 0).cells n ++ Builtin.zeroCells (Value.int .u64 0).cells (grownCap w n 0 65 - n)) 65)) := fun ty => by
      have hf : (Builtin.firstCells i0.size 0 (.slice none 0 0)).run Tryz.prog w.drew = .ok ([] : List Value).toArray w.drew := run_firstCells_none w.drew i0.size 0 0 0
      have h := Lib.run_append_grow_zeros w 38 3 ty 65 i0 (.int .u64 0) .i64 .i64 Tryz.underlying38 Tryz.underlying3 hi hz0 none 0 0 [] hf n h0 (by omega) (by omega) (by omega)
        (by rw [hz2]; omega)
        (by rw [hz2]; exact growslice_fits (by omega) (by omega))
      simpa only [Nat.zero_add] using h
    have hge : n ≤ grownCap w n 0 65 := grownCap_ge w _ _ _
    have hm : grownCap w n 0 65 ≤ maxLen := grownCap_le_maxLen w n 0 65 (by unfold maxLen; omega)
    generalize grownCap w n 0 65 = G at *
    have hm' : G ≤ 9223372036854775807 := by unfold maxLen at hm; omega
    have HZ := Lib.hid hrz
    have HM := Lib.hid hm
    clear hrz hi hz0 hz1 hz2 hm
    go_enter Tryz.func74, Tryz.ntmps74
    go_wp2_with (at_builtin; refine Lib.wpList_append_run _ rfl _ _ _ _ rfl _ _ rfl rfl _ _ (HZ.out _) ?_)
    all_goals
      go_ret
      exact grow_end w n G hge HM.out

/-- A row of slices of numbers. -/
def Parts (w : World) (B : Nat) (vs : List Value) (ls : List (List Int)) : Prop :=
  vs.length = ls.length ∧ ∀ i (h : i < ls.length), ∃ A c, vs[i]? = some (.slice A ls[i].length c) ∧ (A = none → c = 0) ∧ Row w B A (u64s ls[i])
theorem Parts.below {w w' : World} {B B' : Nat} {vs : List Value} {ls : List (List Int)} (h : Parts w B vs ls) (hb : Below B' w w') (hB : B ≤ B') : Parts w' B vs ls :=
  ⟨h.1, fun i hi => by obtain ⟨A, c, h1, h2, h3⟩ := h.2 i hi; exact ⟨A, c, h1, h2, h3.below hb hB⟩⟩
theorem Parts.more {w : World} {B B' : Nat} {vs : List Value} {ls : List (List Int)} (h : Parts w B vs ls) (hB : B ≤ B') : Parts w B' vs ls :=
  ⟨h.1, fun i hi => by obtain ⟨A, c, h1, h2, h3⟩ := h.2 i hi; exact ⟨A, c, h1, h2, h3.more hB⟩⟩
theorem Parts.nil {w : World} {B : Nat} : Parts w B [] [] := ⟨rfl, fun i h => by simp at h⟩
theorem Parts.cons {w : World} {B : Nat} {A : Option Addr} {n c : Nat} {l : List Int} {vs : List Value} {ls : List (List Int)} (hn : n = l.length) (hc : A = none → c = 0) (hr : Row w B A (u64s l)) (h : Parts w B vs ls) : Parts w B (.slice A n c :: vs) (l :: ls) := by
  subst hn
  refine ⟨by simp [h.1], fun i hi => ?_⟩
  rcases i with _ | i
  · exact ⟨A, c, rfl, hc, hr⟩
  · obtain ⟨A', c', h1, h2, h3⟩ := h.2 i (by simpa using hi)
    exact ⟨A', c', by simpa using h1, h2, h3⟩

theorem flat_take {ls : List (List Int)} {k : Nat} (hk : k < ls.length) {x : List Int} (hx : ls[k] = x) : (ls.take k).flatten ++ x = (ls.take (k + 1)).flatten := by
  rw [List.take_succ_eq_append_getElem hk, List.flatten_append, hx]; simp
theorem flat_le {ls : List (List Int)} (k : Nat) : (ls.take k).flatten.length ≤ ls.flatten.length := by
  have : ls.flatten = (ls.take k).flatten ++ (ls.drop k).flatten := by rw [← List.flatten_append, List.take_append_drop]
  rw [this, List.length_append]; omega
def CatLen (ls : List (List Int)) (s i : Value) : Prop := ∃ k : Nat, k ≤ ls.length ∧ i = .int .i64 k ∧ s = .int .i64 ((ls.take k).flatten.length : Nat)
def CatRel (ls : List (List Int)) (w : World) (v i : Value) (wr : World) : Prop :=
  ∃ k : Nat, k ≤ ls.length ∧ i = .int .i64 k ∧ wr.ownsRow w.heap.size 65 1 v (u64s (ls.take k).flatten).length (u64s (ls.take k).flatten) ∧ Below w.heap.size w wr
theorem own_cat {B : Nat} {w1 : World} {v : Value} {xs ys zs : List Int} (h : w1.ownsRow B 65 1 v (u64s xs ++ u64s ys).length (u64s xs ++ u64s ys)) (e : xs ++ ys = zs) : w1.ownsRow B 65 1 v (u64s zs).length (u64s zs) := by
  subst e; simpa using h

set_option maxHeartbeats 3200000 in
theorem concat_any (ls : List (List Int)) (vs : List Value) (A : Option Addr) (n c : Nat) (w : World) (hn : n = ls.length) (hl : n ≤ 100) (hs : ls.flatten.length ≤ 100000) (hr : Row w w.heap.size A vs) (hp : Parts w w.heap.size vs ls) :
    Calls Tryz.prog 24 #[.slice A n c] w (NumsTo ls.flatten w) := by
  have HN := Lib.hid hn
  have HS := Lib.hid hs
  have HR := Lib.hid hr
  have HP := Lib.hid hp
  clear hn hs hr hp
  go_enter Tryz.func24, Tryz.ntmps24
  go_wp2
  go_loop [3, 11] (CatLen ls) (fun _ i => n - (intOf i).toNat)
  case atStart => exact ⟨0, by omega, rfl, rfl⟩
  case round =>
    obtain ⟨k, hk, rfl, rfl⟩ := hrel
    by_cases hlt : k < n
    · have hkl : k < ls.length := by have := HN.out; omega
      obtain ⟨A', c', h1, _, _⟩ := HP.out.2 k hkl
      obtain ⟨hkv, h1⟩ := List.getElem?_eq_some_iff.1 h1
      obtain ⟨b, o, rfl, hb, hcell⟩ := HR.out.at hkv
      have hc : w.cell? ⟨b, o + k, none⟩ = some (.slice A' ls[k].length c') := (hcell k hkv).trans (by rw [h1])
      have HE := Lib.hid (congrArg List.length (flat_take hkl rfl))
      have g1 : (ls.take k).flatten.length + ls[k].length ≤ 100000 := by have := HE.out; have h3 := flat_le (ls := ls) (k + 1); have h4 := HS.out; simp only [List.length_append] at this; omega
      clear hcell h1
      generalize hq : (ls.take k).flatten.length = q at *
      generalize hr : ls[k].length = r at *
      have HQ := Lib.hid hq
      have HR' := Lib.hid hr
      clear hq hr
      go_wp2
      go_round
      case rel => exact ⟨k + 1, by omega, by go_num, by have := HE.out; have h2 := HQ.out; have h3 := HR'.out; rw [List.length_append] at this; rw [← this, h2, h3]; go_num⟩
      case measure => simp [intOf]; omega
    · have htk : ls.take k = ls := List.take_of_length_le (by have := HN.out; omega)
      have hs' := HS.out
      rw [htk]
      generalize hq : ls.flatten.length = q at *
      have HQ := Lib.hid hq
      clear hq htk
      go_wp2_with fail
      refine (grow_any q w (by omega)).mono ?_
      rintro e w1 ⟨v, rfl, hown1, hb1⟩
      have HB1 := Lib.hid hb1
      have HO1 := Lib.hid hown1
      clear hown1 hb1
      go_wp2
      go_loopw [6, 27] (CatRel ls w) (fun _ i _ => n - (intOf i).toNat)
      case atStart => exact ⟨0, by omega, rfl, HO1.out, HB1.out⟩
      case round =>
        obtain ⟨k, hk, rfl, hown, hbr⟩ := hrel
        have hz := hbr.size
        by_cases hlt : k < n
        · have hkl : k < ls.length := by have := HN.out; omega
          obtain ⟨A', c', h1, h2, h3⟩ := HP.out.2 k hkl
          obtain ⟨hkv, h1⟩ := List.getElem?_eq_some_iff.1 h1
          obtain ⟨b, o, rfl, hb, hcell⟩ := HR.out.at hkv
          have hc : wr.cell? ⟨b, o + k, none⟩ = some (.slice A' ls[k].length c') := (hbr.cell (p := ⟨b, o + k, none⟩) hb).trans ((hcell k hkv).trans (by rw [h1]))
          have HE := Lib.hid (flat_take hkl rfl)
          have HG : Hid ((u64s (ls.take k).flatten).length + (u64s ls[k]).length ≤ 2000000) := by
            have := congrArg List.length HE.out; have h3 := flat_le (ls := ls) (k + 1); have h4 := HS.out; have h5 := HQ.out
            rw [List.length_append] at this
            show _ ≤ _
            simp only [List.length_map]; omega
          have H3 := Lib.hid (h3.below hbr (Nat.le_refl _))
          have H2 := Lib.hid h2
          clear hcell h1 h3 h2
          generalize hl : ls[k] = x at *
          generalize hr : x.length = r at *
          have HR' := Lib.hid hr
          clear hl hr
          go_wp2_with (at_builtin; refine wpList_cat 38 65 (.int .u64 0) 8 Tryz.underlying38 Tryz.info65 rfl (by decide) rfl (.tmp 31) (.tmp 32) rfl w.heap.size w.heap.size _ (u64s (ls.take k).flatten) (u64s x) A' c' (one_u64s _) H2.out hown H3.out hz HG.out rfl rfl ((HR'.out.symm).trans (by simp)) ?_; intro v' w2 hown2 hb2 hB2)
          go_roundw
          case rel => exact ⟨k + 1, by omega, by go_num, own_cat hown2 HE.out, hbr.trans hb2⟩
          case measure => simp [intOf]; omega
        · have htk : ls.take k = ls := List.take_of_length_le (by have := HN.out; omega)
          rw [htk] at hown
          clear htk
          go_wp2
          go_ret
          exact ⟨_, rfl, hown, hbr⟩
end Go.Proofs.YtgfleifpblcnfaaGreatDoor

/- The program's codec: calls with their arguments in a row of the call's own: numbers of one to five, slices.Concat of two to four. -/
namespace Go.Proofs.YtgfleifpblcnfaaGreatDoor
set_option linter.unusedSimpArgs false
open Go.RowKit
set_option linter.unusedVariables false

theorem row_at (v : World) (g c : Nat) (xs : List Value) (hg : g < v.heap.size) (h : ∀ j (h : j < xs.length), v.cell? ⟨g, j, none⟩ = some xs[j]) : Row v v.heap.size (some ⟨g, 0, none⟩) xs :=
  .inr ⟨g, 0, rfl, hg, fun j hj => by rw [Nat.zero_add]; exact h j hj⟩
abbrev I31 (n : Int) : Prop := 0 ≤ n ∧ n ≤ 9223372036854775807
theorem numbers_1 (a : Int) (g : Nat) (v : World) (hg : g < v.heap.size) (pa : I31 a) (h0 : v.cell? ⟨g, 0, none⟩ = some (.int .i64 a)) :
    Calls Tryz.prog 25 #[.slice (some ⟨g, 0, none⟩) 1 1] v (NumsTo [a] v) :=
  numbers_any [a] _ 1 1 v rfl (by decide) (by intro x hx; simp at hx; subst hx; exact pa) (row_at v g 1 _ hg fun j hj => by
    match j, hj with
    | 0, _ => exact h0)
theorem numbers_2 (a b : Int) (g : Nat) (v : World) (hg : g < v.heap.size) (pa : I31 a) (pb : I31 b) (h0 : v.cell? ⟨g, 0, none⟩ = some (.int .i64 a)) (h1 : v.cell? ⟨g, 1, none⟩ = some (.int .i64 b)) :
    Calls Tryz.prog 25 #[.slice (some ⟨g, 0, none⟩) 2 2] v (NumsTo [a, b] v) :=
  numbers_any [a, b] _ 2 2 v rfl (by decide) (by intro x hx; simp at hx; rcases hx with rfl | rfl; exact pa; exact pb) (row_at v g 2 _ hg fun j hj => by
    match j, hj with
    | 0, _ => exact h0
    | 1, _ => exact h1)
theorem numbers_3 (a b c : Int) (g : Nat) (v : World) (hg : g < v.heap.size) (pa : I31 a) (pb : I31 b) (pc : I31 c) (h0 : v.cell? ⟨g, 0, none⟩ = some (.int .i64 a)) (h1 : v.cell? ⟨g, 1, none⟩ = some (.int .i64 b)) (h2 : v.cell? ⟨g, 2, none⟩ = some (.int .i64 c)) :
    Calls Tryz.prog 25 #[.slice (some ⟨g, 0, none⟩) 3 3] v (NumsTo [a, b, c] v) :=
  numbers_any [a, b, c] _ 3 3 v rfl (by decide) (by intro x hx; simp at hx; rcases hx with rfl | rfl | rfl; exact pa; exact pb; exact pc) (row_at v g 3 _ hg fun j hj => by
    match j, hj with
    | 0, _ => exact h0
    | 1, _ => exact h1
    | 2, _ => exact h2)
theorem numbers_4 (a b c d : Int) (g : Nat) (v : World) (hg : g < v.heap.size) (pa : I31 a) (pb : I31 b) (pc : I31 c) (pd : I31 d) (h0 : v.cell? ⟨g, 0, none⟩ = some (.int .i64 a)) (h1 : v.cell? ⟨g, 1, none⟩ = some (.int .i64 b)) (h2 : v.cell? ⟨g, 2, none⟩ = some (.int .i64 c)) (h3 : v.cell? ⟨g, 3, none⟩ = some (.int .i64 d)) :
    Calls Tryz.prog 25 #[.slice (some ⟨g, 0, none⟩) 4 4] v (NumsTo [a, b, c, d] v) :=
  numbers_any [a, b, c, d] _ 4 4 v rfl (by decide) (by intro x hx; simp at hx; rcases hx with rfl | rfl | rfl | rfl; exact pa; exact pb; exact pc; exact pd) (row_at v g 4 _ hg fun j hj => by
    match j, hj with
    | 0, _ => exact h0
    | 1, _ => exact h1
    | 2, _ => exact h2
    | 3, _ => exact h3)
theorem numbers_5 (a b c d e : Int) (g : Nat) (v : World) (hg : g < v.heap.size) (pa : I31 a) (pb : I31 b) (pc : I31 c) (pd : I31 d) (pe : I31 e) (h0 : v.cell? ⟨g, 0, none⟩ = some (.int .i64 a)) (h1 : v.cell? ⟨g, 1, none⟩ = some (.int .i64 b)) (h2 : v.cell? ⟨g, 2, none⟩ = some (.int .i64 c)) (h3 : v.cell? ⟨g, 3, none⟩ = some (.int .i64 d)) (h4 : v.cell? ⟨g, 4, none⟩ = some (.int .i64 e)) :
    Calls Tryz.prog 25 #[.slice (some ⟨g, 0, none⟩) 5 5] v (NumsTo [a, b, c, d, e] v) :=
  numbers_any [a, b, c, d, e] _ 5 5 v rfl (by decide) (by intro x hx; simp at hx; rcases hx with rfl | rfl | rfl | rfl | rfl; exact pa; exact pb; exact pc; exact pd; exact pe) (row_at v g 5 _ hg fun j hj => by
    match j, hj with
    | 0, _ => exact h0
    | 1, _ => exact h1
    | 2, _ => exact h2
    | 3, _ => exact h3
    | 4, _ => exact h4)

/-- A slice of numbers: what slices.Concat takes. -/
def Sl (v : World) (l : List Int) (A : Option Addr) (n c : Nat) : Prop := n = l.length ∧ (A = none → c = 0) ∧ Row v v.heap.size A (u64s l)
theorem Sl.below {v v' : World} {l : List Int} {A : Option Addr} {n c : Nat} (h : Sl v l A n c) (hb : Below v.heap.size v v') : Sl v' l A n c := ⟨h.1, h.2.1, (h.2.2.below hb (Nat.le_refl _)).more hb.size⟩
theorem Sl.of_own {v : World} {B : Nat} {u : Value} {l : List Int} (h : v.ownsRow B 65 1 u (u64s l).length (u64s l)) : ∃ A c, u = .slice A l.length c ∧ Sl v l A l.length c := by
  obtain ⟨A, c, rfl, _, _, hn⟩ := own_form h
  refine ⟨A, c, by simp, rfl, fun e => (hn e).2, (Row.of_own h).1⟩
theorem Sl.box {v : World} {g o : Nat} {a b c d : Int} (hg : g < v.heap.size) (h0 : v.cell? ⟨g, o, none⟩ = some (.int .u64 a)) (h1 : v.cell? ⟨g, o + 1, none⟩ = some (.int .u64 b)) (h2 : v.cell? ⟨g, o + 2, none⟩ = some (.int .u64 c)) (h3 : v.cell? ⟨g, o + 3, none⟩ = some (.int .u64 d)) : Sl v [a, b, c, d] (some ⟨g, o, none⟩) 4 4 :=
  ⟨rfl, (by intro h; cases h), .inr ⟨g, o, rfl, hg, fun j hj => by
    match j, hj with
    | 0, _ => exact h0
    | 1, _ => exact h1
    | 2, _ => exact h2
    | 3, _ => exact h3⟩⟩
/-- What a call that makes memory gives: a slice of numbers. -/
def SlTo (l : List Int) (w : World) (e : Ending) (w' : World) : Prop := ∃ A c, e = .returned (.slice A l.length c) ∧ Sl w' l A l.length c ∧ Below w.heap.size w w'
theorem SlTo.of {l : List Int} {w w' : World} {e : Ending} (h : NumsTo l w e w') : SlTo l w e w' := by
  obtain ⟨v, rfl, ho, hb⟩ := h
  obtain ⟨A, c, rfl, hs⟩ := Sl.of_own ho
  exact ⟨A, c, rfl, hs, hb⟩
theorem concat_2 (l1 l2 : List Int) (A1 A2 : Option Addr) (n1 c1 n2 c2 g : Nat) (v : World) (hg : g < v.heap.size) (hl : l1.length + l2.length ≤ 100000) (s1 : Sl v l1 A1 n1 c1) (s2 : Sl v l2 A2 n2 c2)
    (h0 : v.cell? ⟨g, 0, none⟩ = some (.slice A1 n1 c1)) (h1 : v.cell? ⟨g, 1, none⟩ = some (.slice A2 n2 c2)) :
    Calls Tryz.prog 24 #[.slice (some ⟨g, 0, none⟩) 2 2] v (NumsTo (l1 ++ l2) v) := by
  have := concat_any [l1, l2] [.slice A1 n1 c1, .slice A2 n2 c2] (some ⟨g, 0, none⟩) 2 2 v rfl (by decide) (by simp; omega) (row_at v g 2 _ hg fun j hj => by
    match j, hj with
    | 0, _ => exact h0
    | 1, _ => exact h1) (.cons s1.1 s1.2.1 s1.2.2 (.cons s2.1 s2.2.1 s2.2.2 .nil))
  simpa only [List.flatten_cons, List.flatten_nil, List.append_nil] using this
theorem concat_3 (l1 l2 l3 : List Int) (A1 A2 A3 : Option Addr) (n1 c1 n2 c2 n3 c3 g : Nat) (v : World) (hg : g < v.heap.size) (hl : l1.length + (l2.length + l3.length) ≤ 100000) (s1 : Sl v l1 A1 n1 c1) (s2 : Sl v l2 A2 n2 c2) (s3 : Sl v l3 A3 n3 c3)
    (h0 : v.cell? ⟨g, 0, none⟩ = some (.slice A1 n1 c1)) (h1 : v.cell? ⟨g, 1, none⟩ = some (.slice A2 n2 c2)) (h2 : v.cell? ⟨g, 2, none⟩ = some (.slice A3 n3 c3)) :
    Calls Tryz.prog 24 #[.slice (some ⟨g, 0, none⟩) 3 3] v (NumsTo (l1 ++ (l2 ++ l3)) v) := by
  have := concat_any [l1, l2, l3] [.slice A1 n1 c1, .slice A2 n2 c2, .slice A3 n3 c3] (some ⟨g, 0, none⟩) 3 3 v rfl (by decide) (by simp; omega) (row_at v g 3 _ hg fun j hj => by
    match j, hj with
    | 0, _ => exact h0
    | 1, _ => exact h1
    | 2, _ => exact h2) (.cons s1.1 s1.2.1 s1.2.2 (.cons s2.1 s2.2.1 s2.2.2 (.cons s3.1 s3.2.1 s3.2.2 .nil)))
  simpa only [List.flatten_cons, List.flatten_nil, List.append_nil] using this
theorem concat_4 (l1 l2 l3 l4 : List Int) (A1 A2 A3 A4 : Option Addr) (n1 c1 n2 c2 n3 c3 n4 c4 g : Nat) (v : World) (hg : g < v.heap.size) (hl : l1.length + (l2.length + (l3.length + l4.length)) ≤ 100000) (s1 : Sl v l1 A1 n1 c1) (s2 : Sl v l2 A2 n2 c2) (s3 : Sl v l3 A3 n3 c3) (s4 : Sl v l4 A4 n4 c4)
    (h0 : v.cell? ⟨g, 0, none⟩ = some (.slice A1 n1 c1)) (h1 : v.cell? ⟨g, 1, none⟩ = some (.slice A2 n2 c2)) (h2 : v.cell? ⟨g, 2, none⟩ = some (.slice A3 n3 c3)) (h3 : v.cell? ⟨g, 3, none⟩ = some (.slice A4 n4 c4)) :
    Calls Tryz.prog 24 #[.slice (some ⟨g, 0, none⟩) 4 4] v (NumsTo (l1 ++ (l2 ++ (l3 ++ l4))) v) := by
  have := concat_any [l1, l2, l3, l4] [.slice A1 n1 c1, .slice A2 n2 c2, .slice A3 n3 c3, .slice A4 n4 c4] (some ⟨g, 0, none⟩) 4 4 v rfl (by decide) (by simp; omega) (row_at v g 4 _ hg fun j hj => by
    match j, hj with
    | 0, _ => exact h0
    | 1, _ => exact h1
    | 2, _ => exact h2
    | 3, _ => exact h3) (.cons s1.1 s1.2.1 s1.2.2 (.cons s2.1 s2.2.1 s2.2.2 (.cons s3.1 s3.2.1 s3.2.2 (.cons s4.1 s4.2.1 s4.2.2 .nil))))
  simpa only [List.flatten_cons, List.flatten_nil, List.append_nil] using this
theorem NumsTo.lift {l : List Int} {w v w' : World} {e : Ending} (h : NumsTo l v e w') (hb : Below w.heap.size w v) : NumsTo l w e w' := by
  obtain ⟨u, rfl, ho, hb'⟩ := h
  refine ⟨u, rfl, ⟨ho.1, ?_⟩, hb.trans (hb'.mono hb.size)⟩
  rcases ho.2 with h0 | ⟨g, cap, cur, hv, hbg, hg, rest⟩
  · exact .inl h0
  · exact .inr ⟨g, cap, cur, hv, Nat.le_trans hb.size hbg, hg, rest⟩
theorem Keeps.refl (W : World) : Keeps W W := Keeps.of (Below.refl _ _)
theorem Keeps.drew {W v : World} (h : Keeps W v) : Keeps W v.drew := Keeps.of (Below.drew h.2)
theorem Keeps.set {W v : World} {p : Addr} (h : Keeps W v) (hp : W.heap.size ≤ p.block) (x : Value) : Keeps W (v.setCell p x) := Keeps.of (h.2.setCell hp x)
theorem numbers_2s (a b : Int) (g : Nat) (v : World) (hg : g < v.heap.size) (pa : I31 a) (pb : I31 b) (h0 : v.cell? ⟨g, 0, none⟩ = some (.int .i64 a)) (h1 : v.cell? ⟨g, 1, none⟩ = some (.int .i64 b)) :
    Calls Tryz.prog 25 #[.slice (some ⟨g, 0, none⟩) 2 2] v (SlTo [a, b] v) := (numbers_2 a b g v hg pa pb h0 h1).mono fun _ _ => SlTo.of
theorem numbers_1s (a : Int) (g : Nat) (v : World) (hg : g < v.heap.size) (pa : I31 a) (h0 : v.cell? ⟨g, 0, none⟩ = some (.int .i64 a)) :
    Calls Tryz.prog 25 #[.slice (some ⟨g, 0, none⟩) 1 1] v (SlTo [a] v) := (numbers_1 a g v hg pa h0).mono fun _ _ => SlTo.of
theorem numbers_3s (a b c : Int) (g : Nat) (v : World) (hg : g < v.heap.size) (pa : I31 a) (pb : I31 b) (pc : I31 c) (h0 : v.cell? ⟨g, 0, none⟩ = some (.int .i64 a)) (h1 : v.cell? ⟨g, 1, none⟩ = some (.int .i64 b)) (h2 : v.cell? ⟨g, 2, none⟩ = some (.int .i64 c)) :
    Calls Tryz.prog 25 #[.slice (some ⟨g, 0, none⟩) 3 3] v (SlTo [a, b, c] v) := (numbers_3 a b c g v hg pa pb pc h0 h1 h2).mono fun _ _ => SlTo.of
theorem i31_truth (b : Bool) : I31 (truthN b) := by cases b <;> decide
/-- The last call of a writer: what it tells is a row of the writer's own. -/
theorem nums_end {l : List Int} {W w v w' : World} {e : Ending} (kW : Below w.heap.size w W) (k : Keeps W v) (h : NumsTo l v e w') : NumsTo l w e w' :=
  h.lift (kW.trans (k.2.mono kW.size))
end Go.Proofs.YtgfleifpblcnfaaGreatDoor

/- The program's codec: the numbers of a node. -/
namespace Go.Proofs.YtgfleifpblcnfaaGreatDoor
set_option linter.unusedSimpArgs false
open Go.RowKit
set_option linter.unusedVariables false

set_option maxHeartbeats 3200000 in
set_option maxRecDepth 100000 in
theorem nodeNums_any (x : NodeD) (w : World) (h1 : I31 x.id) (h2 : I31 x.zone) :
    Calls Tryz.prog 27 #[aggN x] w (NumsTo (nodeK.nums x) w) := by
  go_enter Tryz.func27, Tryz.ntmps27
  go_wp2
  have kW : Below w.heap.size w (w.alloc (.cells #[.int .i64 x.id, .int .i64 x.zone, .int .u64 x.cap.a, .int .u64 x.cap.b, .int .u64 x.cap.c, .int .u64 x.cap.d, .int .u64 x.held.a, .int .u64 x.held.b, .int .u64 x.held.c, .int .u64 x.held.d] 71)) := (Below.refl _ _).alloc (Nat.le_refl _) _
  have hWz : w.heap.size < (w.alloc (.cells #[.int .i64 x.id, .int .i64 x.zone, .int .u64 x.cap.a, .int .u64 x.cap.b, .int .u64 x.cap.c, .int .u64 x.cap.d, .int .u64 x.held.a, .int .u64 x.held.b, .int .u64 x.held.c, .int .u64 x.held.d] 71)).heap.size := by simp
  have f : ∀ j u, (#[Value.int .i64 x.id, .int .i64 x.zone, .int .u64 x.cap.a, .int .u64 x.cap.b, .int .u64 x.cap.c, .int .u64 x.cap.d, .int .u64 x.held.a, .int .u64 x.held.b, .int .u64 x.held.c, .int .u64 x.held.d] : Array Value)[j]? = some u → (w.alloc (.cells #[.int .i64 x.id, .int .i64 x.zone, .int .u64 x.cap.a, .int .u64 x.cap.b, .int .u64 x.cap.c, .int .u64 x.cap.d, .int .u64 x.held.a, .int .u64 x.held.b, .int .u64 x.held.c, .int .u64 x.held.d] 71)).cell? ⟨w.heap.size, j, none⟩ = some u := fun j u hu => by simpa using hu
  generalize (w.alloc (.cells #[.int .i64 x.id, .int .i64 x.zone, .int .u64 x.cap.a, .int .u64 x.cap.b, .int .u64 x.cap.c, .int .u64 x.cap.d, .int .u64 x.held.a, .int .u64 x.held.b, .int .u64 x.held.c, .int .u64 x.held.d] 71)) = W at *
  have f0 := f 0 _ rfl
  have f1 := f 1 _ rfl
  have f2 := f 2 _ rfl
  have f3 := f 3 _ rfl
  have f4 := f 4 _ rfl
  have f5 := f 5 _ rfl
  have f6 := f 6 _ rfl
  have f7 := f 7 _ rfl
  have f8 := f 8 _ rfl
  have f9 := f 9 _ rfl
  have HS1 : Hid (∀ v : World, Keeps W v → Sl v [x.cap.a, x.cap.b, x.cap.c, x.cap.d] (some ⟨w.heap.size, 2, none⟩) 4 4) := fun v kv => (Sl.box hWz f2 f3 f4 f5).below kv.2
  have HS2 : Hid (∀ v : World, Keeps W v → Sl v [x.held.a, x.held.b, x.held.c, x.held.d] (some ⟨w.heap.size, 6, none⟩) 4 4) := fun v kv => (Sl.box hWz f6 f7 f8 f9).below kv.2
  clear f
  go_region_held3 (fun w' => (∀ b o, b < W.heap.size → w'.cell? ⟨b, o, none⟩ = W.cell? ⟨b, o, none⟩) ∧ Below W.heap.size W w')
    (first | (with_reducible assumption) | (show Keeps W _; with_reducible (repeat (first | exact Keeps.refl _ | refine Keeps.drew ?_ | refine Keeps.set ?_ (by simp) _ | refine Keeps.alloc ?_ _ | refine Keeps.step ?_ (by assumption)))))
    (first
      | (go_at_call 25; refine (numbers_2s x.id x.zone _ _ (by simp) h1 h2 (by simp) (by simp)).mono ?_; rintro e w1 ⟨A1, c1, rfl, hs1, hb1⟩)
      | (go_at_call 24; have hkp : Keeps W (w1.alloc _) := (by assumption); refine (concat_3 [x.id, x.zone] _ _ A1 (some ⟨w.heap.size, 2, none⟩) (some ⟨w.heap.size, 6, none⟩) 2 c1 4 4 4 4 w1.heap.size _ (by simp) (by simp) (hs1.below ((Below.refl _ _).alloc (Nat.le_refl _) _)) (HS1.out _ (by assumption)) (HS2.out _ (by assumption)) (by simp) (by simp) (by simp)).mono ?_; rintro e w2 ⟨u, rfl, ho, hb⟩))
  all_goals
    go_wp2
    go_ret
    exact nums_end kW hkp ⟨u, rfl, ho, hb⟩
end Go.Proofs.YtgfleifpblcnfaaGreatDoor

/- The program's each, at one kind of record: the numbers of all, one behind the other. -/
namespace Go.Proofs.YtgfleifpblcnfaaGreatDoor
set_option linter.unusedSimpArgs false
open Go.RowKit
set_option linter.unusedVariables false

def OknN (x : NodeD) : Prop := I31 x.id ∧ I31 x.zone
theorem nodeNums_sl (x : NodeD) (w : World) (hx : OknN x) : Calls Tryz.prog 27 #[aggN x] w fun e w' => ∃ A c, e = .returned (.slice A 10 c) ∧ Sl w' (nodeK.nums x) A 10 c ∧ Below w.heap.size w w' :=
  (nodeNums_any x w (hx.1) (hx.2)).mono fun _ _ h => SlTo.of h
def FlatNRel (l : List NodeD) (w : World) (v i : Value) (wr : World) : Prop :=
  ∃ k : Nat, k ≤ l.length ∧ i = .int .i64 k ∧ wr.ownsRow w.heap.size 65 1 v (u64s ((l.take k).flatMap nodeK.nums)).length (u64s ((l.take k).flatMap nodeK.nums)) ∧ Below w.heap.size w wr
set_option maxHeartbeats 3200000 in
set_option maxRecDepth 100000 in
theorem flatN_any (l : List NodeD) (A : Option Addr) (n c : Nat) (w : World) (hn : n = l.length) (hl : n ≤ 1000) (hp : ∀ x ∈ l, OknN x) (hr : Recs 10 cellsN w w.heap.size A l) :
    Calls Tryz.prog 26 #[.slice A n c, .func (.func 27) #[] #[]] w (NumsTo (l.flatMap nodeK.nums) w) := by
  have HN := Lib.hid hn
  have HP := Lib.hid hp
  have HR := Lib.hid hr
  clear hn hp hr
  go_enter Tryz.func26, Tryz.ntmps26
  go_wp2
  go_loopw [5, 10] (FlatNRel l w) (fun _ i _ => n - (intOf i).toNat)
  case atStart => exact ⟨0, by omega, rfl, World.ownsRow_nil _ _ _ _, Below.refl _ _⟩
  case round =>
    obtain ⟨k, hk, rfl, hown, hbr⟩ := hrel
    have hz := hbr.size
    by_cases hlt : k < n
    · have hkl : k < l.length := by have := HN.out; omega
      obtain ⟨b, o, rfl, hb, he⟩ := HR.out.at hkl
      have HX := Lib.hid (HP.out l[k] (List.getElem_mem hkl))
      have HT : Hid ((l.take k).flatMap nodeK.nums ++ nodeK.nums l[k] = (l.take (k + 1)).flatMap nodeK.nums) := by
        show _ ++ _ = _
        rw [List.take_succ_eq_append_getElem hkl, List.flatMap_append]; simp
      have HU : Hid ((u64s ((l.take k).flatMap nodeK.nums)).length + (u64s (nodeK.nums l[k])).length ≤ 2000000) := by
        have e1 : ((l.take k).flatMap nodeK.nums).length = (l.take k).length * 10 := flat_length nodeK _
        have e2 : (nodeK.nums l[k]).length = 10 := rfl
        show _ ≤ _
        rw [List.length_map, List.length_map, e1, e2, List.length_take]
        have : min k l.length ≤ 1000 := by have := HN.out; omega
        omega
      generalize l[k] = x at *
      have e0 : wr.cell? ⟨b, o + k * 10, none⟩ = some (.int .i64 x.id) := (hbr.cell (p := ⟨b, o + k * 10, none⟩) hb).trans (he 0 _ rfl)
      have e1 : wr.cell? ⟨b, o + k * 10 + 1, none⟩ = some (.int .i64 x.zone) := (hbr.cell (p := ⟨b, o + k * 10 + 1, none⟩) hb).trans (he 1 _ rfl)
      have e2 : wr.cell? ⟨b, o + k * 10 + 2, none⟩ = some (.int .u64 x.cap.a) := (hbr.cell (p := ⟨b, o + k * 10 + 2, none⟩) hb).trans (he 2 _ rfl)
      have e3 : wr.cell? ⟨b, o + k * 10 + 3, none⟩ = some (.int .u64 x.cap.b) := (hbr.cell (p := ⟨b, o + k * 10 + 3, none⟩) hb).trans (he 3 _ rfl)
      have e4 : wr.cell? ⟨b, o + k * 10 + 4, none⟩ = some (.int .u64 x.cap.c) := (hbr.cell (p := ⟨b, o + k * 10 + 4, none⟩) hb).trans (he 4 _ rfl)
      have e5 : wr.cell? ⟨b, o + k * 10 + 5, none⟩ = some (.int .u64 x.cap.d) := (hbr.cell (p := ⟨b, o + k * 10 + 5, none⟩) hb).trans (he 5 _ rfl)
      have e6 : wr.cell? ⟨b, o + k * 10 + 6, none⟩ = some (.int .u64 x.held.a) := (hbr.cell (p := ⟨b, o + k * 10 + 6, none⟩) hb).trans (he 6 _ rfl)
      have e7 : wr.cell? ⟨b, o + k * 10 + 7, none⟩ = some (.int .u64 x.held.b) := (hbr.cell (p := ⟨b, o + k * 10 + 7, none⟩) hb).trans (he 7 _ rfl)
      have e8 : wr.cell? ⟨b, o + k * 10 + 8, none⟩ = some (.int .u64 x.held.c) := (hbr.cell (p := ⟨b, o + k * 10 + 8, none⟩) hb).trans (he 8 _ rfl)
      have e9 : wr.cell? ⟨b, o + k * 10 + 9, none⟩ = some (.int .u64 x.held.d) := (hbr.cell (p := ⟨b, o + k * 10 + 9, none⟩) hb).trans (he 9 _ rfl)
      have hbw : b < wr.heap.size := by omega
      clear he
      go_wp2_with fail
      go_at_call 27
      refine (nodeNums_sl x _ HX.out).mono ?_
      rintro e w1 ⟨A1, c1, rfl, hs1, hb1⟩
      have hz1 : w.heap.size ≤ w1.heap.size := by have := hb1.size; simp at this; omega
      have hown1 := own_below (hown.alloc (.cells #[.int .i64 x.id, .int .i64 x.zone, .int .u64 x.cap.a, .int .u64 x.cap.b, .int .u64 x.cap.c, .int .u64 x.cap.d, .int .u64 x.held.a, .int .u64 x.held.b, .int .u64 x.held.c, .int .u64 x.held.d] 71)) hb1 (Nat.le_refl _)
      have kw1 : Below w.heap.size w w1 := (hbr.alloc hz _).trans (hb1.mono (by simp; omega))
      have HS := Lib.hid hs1
      clear hs1 hb1 hown
      go_wp2_with (at_builtin; refine wpList_cat 38 65 (.int .u64 0) 8 Tryz.underlying38 Tryz.info65 rfl (by decide) rfl (.tmp 14) (.tmp 17) rfl w.heap.size w1.heap.size _ (u64s ((l.take k).flatMap nodeK.nums)) (u64s (nodeK.nums x)) A1 c1 (one_u64s _) HS.out.2.1 hown1 HS.out.2.2 hz1 HU.out rfl rfl rfl ?_; intro v' w2 hown2 hb2 hB2)
      go_roundw
      case rel => exact ⟨k + 1, by omega, by go_num, own_cat hown2 HT.out, kw1.trans hb2⟩
      case measure => simp [intOf]; omega
    · have htk : l.take k = l := List.take_of_length_le (by have := HN.out; omega)
      rw [htk] at hown
      clear htk
      go_wp2
      go_ret
      exact ⟨_, rfl, hown, hbr⟩
end Go.Proofs.YtgfleifpblcnfaaGreatDoor

/- The program's codec: the numbers of a load. -/
namespace Go.Proofs.YtgfleifpblcnfaaGreatDoor
set_option linter.unusedSimpArgs false
open Go.RowKit
set_option linter.unusedVariables false

set_option maxHeartbeats 6400000 in
set_option maxRecDepth 100000 in
theorem loadNums_any (x : LoadD) (w : World) (h1 : I31 x.id) (h2 : I31 x.skew) (h3 : I31 x.min) (h4 : I31 x.max) :
    Calls Tryz.prog 29 #[aggL x] w (NumsTo (loadK.nums x) w) := by
  go_enter Tryz.func29, Tryz.ntmps29
  go_wp2
  have kW : Below w.heap.size w (w.alloc (.cells #[.int .i64 x.id, .bool x.apart, .int .i64 x.skew, .int .i64 x.min, .int .i64 x.max] 75)) := (Below.refl _ _).alloc (Nat.le_refl _) _
  have hWz : w.heap.size < (w.alloc (.cells #[.int .i64 x.id, .bool x.apart, .int .i64 x.skew, .int .i64 x.min, .int .i64 x.max] 75)).heap.size := by simp
  have f0 : (w.alloc (.cells #[.int .i64 x.id, .bool x.apart, .int .i64 x.skew, .int .i64 x.min, .int .i64 x.max] 75)).cell? ⟨w.heap.size, 0, none⟩ = some (.int .i64 x.id) := by simp
  have f1 : (w.alloc (.cells #[.int .i64 x.id, .bool x.apart, .int .i64 x.skew, .int .i64 x.min, .int .i64 x.max] 75)).cell? ⟨w.heap.size, 1, none⟩ = some (.bool x.apart) := by simp
  have f2 : (w.alloc (.cells #[.int .i64 x.id, .bool x.apart, .int .i64 x.skew, .int .i64 x.min, .int .i64 x.max] 75)).cell? ⟨w.heap.size, 2, none⟩ = some (.int .i64 x.skew) := by simp
  have f3 : (w.alloc (.cells #[.int .i64 x.id, .bool x.apart, .int .i64 x.skew, .int .i64 x.min, .int .i64 x.max] 75)).cell? ⟨w.heap.size, 3, none⟩ = some (.int .i64 x.min) := by simp
  have f4 : (w.alloc (.cells #[.int .i64 x.id, .bool x.apart, .int .i64 x.skew, .int .i64 x.min, .int .i64 x.max] 75)).cell? ⟨w.heap.size, 4, none⟩ = some (.int .i64 x.max) := by simp
  generalize (w.alloc (.cells #[.int .i64 x.id, .bool x.apart, .int .i64 x.skew, .int .i64 x.min, .int .i64 x.max] 75)) = W at *
  go_region_held3 (fun w' => (∀ b o, b < W.heap.size → w'.cell? ⟨b, o, none⟩ = W.cell? ⟨b, o, none⟩) ∧ Below W.heap.size W w')
    (first | (with_reducible assumption) | (show Keeps W _; with_reducible (repeat (first | exact Keeps.refl _ | refine Keeps.drew ?_ | refine Keeps.set ?_ (by simp) _ | refine Keeps.alloc ?_ _ | refine Keeps.step ?_ (by assumption)))))
    (first
      | (go_at_call 75; refine (truth_any x.apart _).mono ?_; rintro e w' ⟨rfl, rfl⟩)
      | (go_at_call 25; have hkp : Keeps W _ := (by assumption); refine (numbers_5 x.id (truthN x.apart) x.skew x.min x.max _ _ (by simp) h1 (i31_truth _) h2 h3 h4 (by simp) (by simp) (by simp) (by simp) (by simp)).mono ?_; rintro e w9 ⟨u, rfl, ho, hb⟩))
  all_goals
    go_wp2
    go_ret
    exact nums_end kW hkp ⟨u, rfl, ho, hb⟩
end Go.Proofs.YtgfleifpblcnfaaGreatDoor

/- The program's each, at one kind of record: the numbers of all, one behind the other. -/
namespace Go.Proofs.YtgfleifpblcnfaaGreatDoor
set_option linter.unusedSimpArgs false
open Go.RowKit
set_option linter.unusedVariables false

def OknL (x : LoadD) : Prop := I31 x.id ∧ I31 x.skew ∧ I31 x.min ∧ I31 x.max
theorem loadNums_sl (x : LoadD) (w : World) (hx : OknL x) : Calls Tryz.prog 29 #[aggL x] w fun e w' => ∃ A c, e = .returned (.slice A 5 c) ∧ Sl w' (loadK.nums x) A 5 c ∧ Below w.heap.size w w' :=
  (loadNums_any x w (hx.1) (hx.2.1) (hx.2.2.1) (hx.2.2.2)).mono fun _ _ h => SlTo.of h
def FlatLRel (l : List LoadD) (w : World) (v i : Value) (wr : World) : Prop :=
  ∃ k : Nat, k ≤ l.length ∧ i = .int .i64 k ∧ wr.ownsRow w.heap.size 65 1 v (u64s ((l.take k).flatMap loadK.nums)).length (u64s ((l.take k).flatMap loadK.nums)) ∧ Below w.heap.size w wr
set_option maxHeartbeats 3200000 in
set_option maxRecDepth 100000 in
theorem flatL_any (l : List LoadD) (A : Option Addr) (n c : Nat) (w : World) (hn : n = l.length) (hl : n ≤ 1000) (hp : ∀ x ∈ l, OknL x) (hr : Recs 5 cellsL w w.heap.size A l) :
    Calls Tryz.prog 28 #[.slice A n c, .func (.func 29) #[] #[]] w (NumsTo (l.flatMap loadK.nums) w) := by
  have HN := Lib.hid hn
  have HP := Lib.hid hp
  have HR := Lib.hid hr
  clear hn hp hr
  go_enter Tryz.func28, Tryz.ntmps28
  go_wp2
  go_loopw [5, 10] (FlatLRel l w) (fun _ i _ => n - (intOf i).toNat)
  case atStart => exact ⟨0, by omega, rfl, World.ownsRow_nil _ _ _ _, Below.refl _ _⟩
  case round =>
    obtain ⟨k, hk, rfl, hown, hbr⟩ := hrel
    have hz := hbr.size
    by_cases hlt : k < n
    · have hkl : k < l.length := by have := HN.out; omega
      obtain ⟨b, o, rfl, hb, he⟩ := HR.out.at hkl
      have HX := Lib.hid (HP.out l[k] (List.getElem_mem hkl))
      have HT : Hid ((l.take k).flatMap loadK.nums ++ loadK.nums l[k] = (l.take (k + 1)).flatMap loadK.nums) := by
        show _ ++ _ = _
        rw [List.take_succ_eq_append_getElem hkl, List.flatMap_append]; simp
      have HU : Hid ((u64s ((l.take k).flatMap loadK.nums)).length + (u64s (loadK.nums l[k])).length ≤ 2000000) := by
        have e1 : ((l.take k).flatMap loadK.nums).length = (l.take k).length * 5 := flat_length loadK _
        have e2 : (loadK.nums l[k]).length = 5 := rfl
        show _ ≤ _
        rw [List.length_map, List.length_map, e1, e2, List.length_take]
        have : min k l.length ≤ 1000 := by have := HN.out; omega
        omega
      generalize l[k] = x at *
      have e0 : wr.cell? ⟨b, o + k * 5, none⟩ = some (.int .i64 x.id) := (hbr.cell (p := ⟨b, o + k * 5, none⟩) hb).trans (he 0 _ rfl)
      have e1 : wr.cell? ⟨b, o + k * 5 + 1, none⟩ = some (.bool x.apart) := (hbr.cell (p := ⟨b, o + k * 5 + 1, none⟩) hb).trans (he 1 _ rfl)
      have e2 : wr.cell? ⟨b, o + k * 5 + 2, none⟩ = some (.int .i64 x.skew) := (hbr.cell (p := ⟨b, o + k * 5 + 2, none⟩) hb).trans (he 2 _ rfl)
      have e3 : wr.cell? ⟨b, o + k * 5 + 3, none⟩ = some (.int .i64 x.min) := (hbr.cell (p := ⟨b, o + k * 5 + 3, none⟩) hb).trans (he 3 _ rfl)
      have e4 : wr.cell? ⟨b, o + k * 5 + 4, none⟩ = some (.int .i64 x.max) := (hbr.cell (p := ⟨b, o + k * 5 + 4, none⟩) hb).trans (he 4 _ rfl)
      have hbw : b < wr.heap.size := by omega
      clear he
      go_wp2_with fail
      go_at_call 29
      refine (loadNums_sl x _ HX.out).mono ?_
      rintro e w1 ⟨A1, c1, rfl, hs1, hb1⟩
      have hz1 : w.heap.size ≤ w1.heap.size := by have := hb1.size; simp at this; omega
      have hown1 := own_below (hown.alloc (.cells #[.int .i64 x.id, .bool x.apart, .int .i64 x.skew, .int .i64 x.min, .int .i64 x.max] 75)) hb1 (Nat.le_refl _)
      have kw1 : Below w.heap.size w w1 := (hbr.alloc hz _).trans (hb1.mono (by simp; omega))
      have HS := Lib.hid hs1
      clear hs1 hb1 hown
      go_wp2_with (at_builtin; refine wpList_cat 38 65 (.int .u64 0) 8 Tryz.underlying38 Tryz.info65 rfl (by decide) rfl (.tmp 14) (.tmp 17) rfl w.heap.size w1.heap.size _ (u64s ((l.take k).flatMap loadK.nums)) (u64s (loadK.nums x)) A1 c1 (one_u64s _) HS.out.2.1 hown1 HS.out.2.2 hz1 HU.out rfl rfl rfl ?_; intro v' w2 hown2 hb2 hB2)
      go_roundw
      case rel => exact ⟨k + 1, by omega, by go_num, own_cat hown2 HT.out, kw1.trans hb2⟩
      case measure => simp [intOf]; omega
    · have htk : l.take k = l := List.take_of_length_le (by have := HN.out; omega)
      rw [htk] at hown
      clear htk
      go_wp2
      go_ret
      exact ⟨_, rfl, hown, hbr⟩
end Go.Proofs.YtgfleifpblcnfaaGreatDoor

/- The program's codec: the numbers of a pod. -/
namespace Go.Proofs.YtgfleifpblcnfaaGreatDoor
set_option linter.unusedSimpArgs false
open Go.RowKit
set_option linter.unusedVariables false

set_option maxHeartbeats 6400000 in
set_option maxRecDepth 100000 in
theorem podNums_any (x : PodD) (w : World) (h1 : I31 x.id) (h2 : I31 x.load) (h3 : I31 x.prio) (h4 : I31 x.node) :
    Calls Tryz.prog 31 #[aggP x] w (NumsTo (podK.nums x) w) := by
  go_enter Tryz.func31, Tryz.ntmps31
  go_wp2
  have kW : Below w.heap.size w (w.alloc (.cells #[.int .i64 x.id, .int .i64 x.load, .int .i64 x.prio, .int .u64 x.req.a, .int .u64 x.req.b, .int .u64 x.req.c, .int .u64 x.req.d, .int .i64 x.node] 79)) := (Below.refl _ _).alloc (Nat.le_refl _) _
  have hWz : w.heap.size < (w.alloc (.cells #[.int .i64 x.id, .int .i64 x.load, .int .i64 x.prio, .int .u64 x.req.a, .int .u64 x.req.b, .int .u64 x.req.c, .int .u64 x.req.d, .int .i64 x.node] 79)).heap.size := by simp
  have f0 : (w.alloc (.cells #[.int .i64 x.id, .int .i64 x.load, .int .i64 x.prio, .int .u64 x.req.a, .int .u64 x.req.b, .int .u64 x.req.c, .int .u64 x.req.d, .int .i64 x.node] 79)).cell? ⟨w.heap.size, 0, none⟩ = some (.int .i64 x.id) := by simp
  have f1 : (w.alloc (.cells #[.int .i64 x.id, .int .i64 x.load, .int .i64 x.prio, .int .u64 x.req.a, .int .u64 x.req.b, .int .u64 x.req.c, .int .u64 x.req.d, .int .i64 x.node] 79)).cell? ⟨w.heap.size, 1, none⟩ = some (.int .i64 x.load) := by simp
  have f2 : (w.alloc (.cells #[.int .i64 x.id, .int .i64 x.load, .int .i64 x.prio, .int .u64 x.req.a, .int .u64 x.req.b, .int .u64 x.req.c, .int .u64 x.req.d, .int .i64 x.node] 79)).cell? ⟨w.heap.size, 2, none⟩ = some (.int .i64 x.prio) := by simp
  have f3 : (w.alloc (.cells #[.int .i64 x.id, .int .i64 x.load, .int .i64 x.prio, .int .u64 x.req.a, .int .u64 x.req.b, .int .u64 x.req.c, .int .u64 x.req.d, .int .i64 x.node] 79)).cell? ⟨w.heap.size, 3, none⟩ = some (.int .u64 x.req.a) := by simp
  have f4 : (w.alloc (.cells #[.int .i64 x.id, .int .i64 x.load, .int .i64 x.prio, .int .u64 x.req.a, .int .u64 x.req.b, .int .u64 x.req.c, .int .u64 x.req.d, .int .i64 x.node] 79)).cell? ⟨w.heap.size, 4, none⟩ = some (.int .u64 x.req.b) := by simp
  have f5 : (w.alloc (.cells #[.int .i64 x.id, .int .i64 x.load, .int .i64 x.prio, .int .u64 x.req.a, .int .u64 x.req.b, .int .u64 x.req.c, .int .u64 x.req.d, .int .i64 x.node] 79)).cell? ⟨w.heap.size, 5, none⟩ = some (.int .u64 x.req.c) := by simp
  have f6 : (w.alloc (.cells #[.int .i64 x.id, .int .i64 x.load, .int .i64 x.prio, .int .u64 x.req.a, .int .u64 x.req.b, .int .u64 x.req.c, .int .u64 x.req.d, .int .i64 x.node] 79)).cell? ⟨w.heap.size, 6, none⟩ = some (.int .u64 x.req.d) := by simp
  have f7 : (w.alloc (.cells #[.int .i64 x.id, .int .i64 x.load, .int .i64 x.prio, .int .u64 x.req.a, .int .u64 x.req.b, .int .u64 x.req.c, .int .u64 x.req.d, .int .i64 x.node] 79)).cell? ⟨w.heap.size, 7, none⟩ = some (.int .i64 x.node) := by simp
  generalize (w.alloc (.cells #[.int .i64 x.id, .int .i64 x.load, .int .i64 x.prio, .int .u64 x.req.a, .int .u64 x.req.b, .int .u64 x.req.c, .int .u64 x.req.d, .int .i64 x.node] 79)) = W at *
  have HS1 : Hid (∀ v : World, Keeps W v → Sl v [x.req.a, x.req.b, x.req.c, x.req.d] (some ⟨w.heap.size, 3, none⟩) 4 4) := fun v kv => (Sl.box hWz f3 f4 f5 f6).below kv.2
  go_region_held3 (fun w' => (∀ b o, b < W.heap.size → w'.cell? ⟨b, o, none⟩ = W.cell? ⟨b, o, none⟩) ∧ Below W.heap.size W w')
    (first | (with_reducible assumption) | (show Keeps W _; with_reducible (repeat (first | exact Keeps.refl _ | refine Keeps.drew ?_ | refine Keeps.set ?_ (by simp) _ | refine Keeps.alloc ?_ _ | refine Keeps.step ?_ (by assumption)))))
    (first
      | (go_at_call 25; first | ((with_reducible refine (numbers_3s x.id x.load x.prio _ _ (by first | (simp; done) | (simp; omega)) h1 h2 h3 (by first | (simp; done) | (simp; omega)) (by first | (simp; done) | (simp; omega)) (by first | (simp; done) | (simp; omega))).mono ?_); rintro e w1 ⟨A1, c1, rfl, hs1, hb1⟩; have HB1 := Lib.hid hb1) | ((with_reducible refine (numbers_1s x.node _ _ (by first | (simp; done) | (simp; omega) | (have := HB1.out.size; simp at this; omega)) h4 (by first | (simp; done) | (simp; omega) | (rw [(old_cells HB1.out).1 _ _ (by first | (simp; done) | (simp; omega))]; simp; done) | (rw [(old_cells HB1.out).1 _ _ (by first | (simp; done) | (simp; omega))]; simp; omega))).mono ?_); rintro e w2 ⟨A2, c2, rfl, hs2, hb2⟩; have hs1' := hs1.below (by first | exact hb2 | exact ((Below.refl _ _).alloc (Nat.le_refl _) _).trans (hb2.mono (by simp)) | exact ((Below.refl _ _).drew.alloc (Nat.le_refl _) _).trans (hb2.mono (by simp)) | exact ((Below.refl _ _).alloc (Nat.le_refl _) _).drew.trans (hb2.mono (by simp)))))
      | (go_at_call 24; have hkp : Keeps W _ := (by assumption); refine (concat_3 [x.id, x.load, x.prio] _ [x.node] A1 (some ⟨w.heap.size, 3, none⟩) A2 3 c1 4 4 1 c2 _ _ (by simp) (by simp) (hs1'.below ((Below.refl _ _).alloc (Nat.le_refl _) _)) (HS1.out _ (by assumption)) (hs2.below ((Below.refl _ _).alloc (Nat.le_refl _) _)) (by simp) (by simp) (by simp)).mono ?_; rintro e w9 ⟨u, rfl, ho, hb⟩))
  all_goals
    go_wp2
    go_ret
    exact nums_end kW hkp ⟨u, rfl, ho, hb⟩
end Go.Proofs.YtgfleifpblcnfaaGreatDoor

/- The program's each, at one kind of record: the numbers of all, one behind the other. -/
namespace Go.Proofs.YtgfleifpblcnfaaGreatDoor
set_option linter.unusedSimpArgs false
open Go.RowKit
set_option linter.unusedVariables false

def OknP (x : PodD) : Prop := I31 x.id ∧ I31 x.load ∧ I31 x.prio ∧ I31 x.node
theorem podNums_sl (x : PodD) (w : World) (hx : OknP x) : Calls Tryz.prog 31 #[aggP x] w fun e w' => ∃ A c, e = .returned (.slice A 8 c) ∧ Sl w' (podK.nums x) A 8 c ∧ Below w.heap.size w w' :=
  (podNums_any x w (hx.1) (hx.2.1) (hx.2.2.1) (hx.2.2.2)).mono fun _ _ h => SlTo.of h
def FlatPRel (l : List PodD) (w : World) (v i : Value) (wr : World) : Prop :=
  ∃ k : Nat, k ≤ l.length ∧ i = .int .i64 k ∧ wr.ownsRow w.heap.size 65 1 v (u64s ((l.take k).flatMap podK.nums)).length (u64s ((l.take k).flatMap podK.nums)) ∧ Below w.heap.size w wr
set_option maxHeartbeats 3200000 in
set_option maxRecDepth 100000 in
theorem flatP_any (l : List PodD) (A : Option Addr) (n c : Nat) (w : World) (hn : n = l.length) (hl : n ≤ 1000) (hp : ∀ x ∈ l, OknP x) (hr : Recs 8 cellsP w w.heap.size A l) :
    Calls Tryz.prog 30 #[.slice A n c, .func (.func 31) #[] #[]] w (NumsTo (l.flatMap podK.nums) w) := by
  have HN := Lib.hid hn
  have HP := Lib.hid hp
  have HR := Lib.hid hr
  clear hn hp hr
  go_enter Tryz.func30, Tryz.ntmps30
  go_wp2
  go_loopw [5, 10] (FlatPRel l w) (fun _ i _ => n - (intOf i).toNat)
  case atStart => exact ⟨0, by omega, rfl, World.ownsRow_nil _ _ _ _, Below.refl _ _⟩
  case round =>
    obtain ⟨k, hk, rfl, hown, hbr⟩ := hrel
    have hz := hbr.size
    by_cases hlt : k < n
    · have hkl : k < l.length := by have := HN.out; omega
      obtain ⟨b, o, rfl, hb, he⟩ := HR.out.at hkl
      have HX := Lib.hid (HP.out l[k] (List.getElem_mem hkl))
      have HT : Hid ((l.take k).flatMap podK.nums ++ podK.nums l[k] = (l.take (k + 1)).flatMap podK.nums) := by
        show _ ++ _ = _
        rw [List.take_succ_eq_append_getElem hkl, List.flatMap_append]; simp
      have HU : Hid ((u64s ((l.take k).flatMap podK.nums)).length + (u64s (podK.nums l[k])).length ≤ 2000000) := by
        have e1 : ((l.take k).flatMap podK.nums).length = (l.take k).length * 8 := flat_length podK _
        have e2 : (podK.nums l[k]).length = 8 := rfl
        show _ ≤ _
        rw [List.length_map, List.length_map, e1, e2, List.length_take]
        have : min k l.length ≤ 1000 := by have := HN.out; omega
        omega
      generalize l[k] = x at *
      have e0 : wr.cell? ⟨b, o + k * 8, none⟩ = some (.int .i64 x.id) := (hbr.cell (p := ⟨b, o + k * 8, none⟩) hb).trans (he 0 _ rfl)
      have e1 : wr.cell? ⟨b, o + k * 8 + 1, none⟩ = some (.int .i64 x.load) := (hbr.cell (p := ⟨b, o + k * 8 + 1, none⟩) hb).trans (he 1 _ rfl)
      have e2 : wr.cell? ⟨b, o + k * 8 + 2, none⟩ = some (.int .i64 x.prio) := (hbr.cell (p := ⟨b, o + k * 8 + 2, none⟩) hb).trans (he 2 _ rfl)
      have e3 : wr.cell? ⟨b, o + k * 8 + 3, none⟩ = some (.int .u64 x.req.a) := (hbr.cell (p := ⟨b, o + k * 8 + 3, none⟩) hb).trans (he 3 _ rfl)
      have e4 : wr.cell? ⟨b, o + k * 8 + 4, none⟩ = some (.int .u64 x.req.b) := (hbr.cell (p := ⟨b, o + k * 8 + 4, none⟩) hb).trans (he 4 _ rfl)
      have e5 : wr.cell? ⟨b, o + k * 8 + 5, none⟩ = some (.int .u64 x.req.c) := (hbr.cell (p := ⟨b, o + k * 8 + 5, none⟩) hb).trans (he 5 _ rfl)
      have e6 : wr.cell? ⟨b, o + k * 8 + 6, none⟩ = some (.int .u64 x.req.d) := (hbr.cell (p := ⟨b, o + k * 8 + 6, none⟩) hb).trans (he 6 _ rfl)
      have e7 : wr.cell? ⟨b, o + k * 8 + 7, none⟩ = some (.int .i64 x.node) := (hbr.cell (p := ⟨b, o + k * 8 + 7, none⟩) hb).trans (he 7 _ rfl)
      have hbw : b < wr.heap.size := by omega
      clear he
      go_wp2_with fail
      go_at_call 31
      refine (podNums_sl x _ HX.out).mono ?_
      rintro e w1 ⟨A1, c1, rfl, hs1, hb1⟩
      have hz1 : w.heap.size ≤ w1.heap.size := by have := hb1.size; simp at this; omega
      have hown1 := own_below (hown.alloc (.cells #[.int .i64 x.id, .int .i64 x.load, .int .i64 x.prio, .int .u64 x.req.a, .int .u64 x.req.b, .int .u64 x.req.c, .int .u64 x.req.d, .int .i64 x.node] 79)) hb1 (Nat.le_refl _)
      have kw1 : Below w.heap.size w w1 := (hbr.alloc hz _).trans (hb1.mono (by simp; omega))
      have HS := Lib.hid hs1
      clear hs1 hb1 hown
      go_wp2_with (at_builtin; refine wpList_cat 38 65 (.int .u64 0) 8 Tryz.underlying38 Tryz.info65 rfl (by decide) rfl (.tmp 14) (.tmp 17) rfl w.heap.size w1.heap.size _ (u64s ((l.take k).flatMap podK.nums)) (u64s (podK.nums x)) A1 c1 (one_u64s _) HS.out.2.1 hown1 HS.out.2.2 hz1 HU.out rfl rfl rfl ?_; intro v' w2 hown2 hb2 hB2)
      go_roundw
      case rel => exact ⟨k + 1, by omega, by go_num, own_cat hown2 HT.out, kw1.trans hb2⟩
      case measure => simp [intOf]; omega
    · have htk : l.take k = l := List.take_of_length_le (by have := HN.out; omega)
      rw [htk] at hown
      clear htk
      go_wp2
      go_ret
      exact ⟨_, rfl, hown, hbr⟩
end Go.Proofs.YtgfleifpblcnfaaGreatDoor

/- The program's codec: the numbers of a want. -/
namespace Go.Proofs.YtgfleifpblcnfaaGreatDoor
set_option linter.unusedSimpArgs false
open Go.RowKit
set_option linter.unusedVariables false

set_option maxHeartbeats 6400000 in
set_option maxRecDepth 100000 in
theorem wantNums_any (x : WantD) (w : World) (h1 : I31 x.pod) :
    Calls Tryz.prog 54 #[aggW x] w (NumsTo (wantK.nums x) w) := by
  go_enter Tryz.func54, Tryz.ntmps54
  go_wp2
  have kW : Below w.heap.size w (w.alloc (.cells #[.int .i64 x.pod, .int .u64 x.req.a, .int .u64 x.req.b, .int .u64 x.req.c, .int .u64 x.req.d, .bool x.stay] 105)) := (Below.refl _ _).alloc (Nat.le_refl _) _
  have hWz : w.heap.size < (w.alloc (.cells #[.int .i64 x.pod, .int .u64 x.req.a, .int .u64 x.req.b, .int .u64 x.req.c, .int .u64 x.req.d, .bool x.stay] 105)).heap.size := by simp
  have f0 : (w.alloc (.cells #[.int .i64 x.pod, .int .u64 x.req.a, .int .u64 x.req.b, .int .u64 x.req.c, .int .u64 x.req.d, .bool x.stay] 105)).cell? ⟨w.heap.size, 0, none⟩ = some (.int .i64 x.pod) := by simp
  have f1 : (w.alloc (.cells #[.int .i64 x.pod, .int .u64 x.req.a, .int .u64 x.req.b, .int .u64 x.req.c, .int .u64 x.req.d, .bool x.stay] 105)).cell? ⟨w.heap.size, 1, none⟩ = some (.int .u64 x.req.a) := by simp
  have f2 : (w.alloc (.cells #[.int .i64 x.pod, .int .u64 x.req.a, .int .u64 x.req.b, .int .u64 x.req.c, .int .u64 x.req.d, .bool x.stay] 105)).cell? ⟨w.heap.size, 2, none⟩ = some (.int .u64 x.req.b) := by simp
  have f3 : (w.alloc (.cells #[.int .i64 x.pod, .int .u64 x.req.a, .int .u64 x.req.b, .int .u64 x.req.c, .int .u64 x.req.d, .bool x.stay] 105)).cell? ⟨w.heap.size, 3, none⟩ = some (.int .u64 x.req.c) := by simp
  have f4 : (w.alloc (.cells #[.int .i64 x.pod, .int .u64 x.req.a, .int .u64 x.req.b, .int .u64 x.req.c, .int .u64 x.req.d, .bool x.stay] 105)).cell? ⟨w.heap.size, 4, none⟩ = some (.int .u64 x.req.d) := by simp
  have f5 : (w.alloc (.cells #[.int .i64 x.pod, .int .u64 x.req.a, .int .u64 x.req.b, .int .u64 x.req.c, .int .u64 x.req.d, .bool x.stay] 105)).cell? ⟨w.heap.size, 5, none⟩ = some (.bool x.stay) := by simp
  generalize (w.alloc (.cells #[.int .i64 x.pod, .int .u64 x.req.a, .int .u64 x.req.b, .int .u64 x.req.c, .int .u64 x.req.d, .bool x.stay] 105)) = W at *
  have HS1 : Hid (∀ v : World, Keeps W v → Sl v [x.req.a, x.req.b, x.req.c, x.req.d] (some ⟨w.heap.size, 1, none⟩) 4 4) := fun v kv => (Sl.box hWz f1 f2 f3 f4).below kv.2
  go_region_held3 (fun w' => (∀ b o, b < W.heap.size → w'.cell? ⟨b, o, none⟩ = W.cell? ⟨b, o, none⟩) ∧ Below W.heap.size W w')
    (first | (with_reducible assumption) | (show Keeps W _; with_reducible (repeat (first | exact Keeps.refl _ | refine Keeps.drew ?_ | refine Keeps.set ?_ (by simp) _ | refine Keeps.alloc ?_ _ | refine Keeps.step ?_ (by assumption)))))
    (first
      | (go_at_call 75; refine (truth_any x.stay _).mono ?_; rintro e w' ⟨rfl, rfl⟩)
      | (go_at_call 25; first | ((with_reducible refine (numbers_1s x.pod _ _ (by first | (simp; done) | (simp; omega)) h1 (by first | (simp; done) | (simp; omega))).mono ?_); rintro e w1 ⟨A1, c1, rfl, hs1, hb1⟩) | ((with_reducible refine (numbers_1s (truthN x.stay) _ _ (by first | (simp; done) | (simp; omega)) (i31_truth _) (by first | (simp; done) | (simp; omega))).mono ?_); rintro e w2 ⟨A2, c2, rfl, hs2, hb2⟩; have hs1' := hs1.below (by first | exact hb2 | exact ((Below.refl _ _).alloc (Nat.le_refl _) _).trans (hb2.mono (by simp)) | exact ((Below.refl _ _).drew.alloc (Nat.le_refl _) _).trans (hb2.mono (by simp)) | exact ((Below.refl _ _).alloc (Nat.le_refl _) _).drew.trans (hb2.mono (by simp)))))
      | (go_at_call 24; have hkp : Keeps W _ := (by assumption); refine (concat_3 [x.pod] _ [truthN x.stay] A1 (some ⟨w.heap.size, 1, none⟩) A2 1 c1 4 4 1 c2 _ _ (by simp) (by simp) (hs1'.below ((Below.refl _ _).alloc (Nat.le_refl _) _)) (HS1.out _ (by assumption)) (hs2.below ((Below.refl _ _).alloc (Nat.le_refl _) _)) (by simp) (by simp) (by simp)).mono ?_; rintro e w9 ⟨u, rfl, ho, hb⟩))
  all_goals
    go_wp2
    go_ret
    exact nums_end kW hkp ⟨u, rfl, ho, hb⟩
end Go.Proofs.YtgfleifpblcnfaaGreatDoor

/- The program's each, at one kind of record: the numbers of all, one behind the other. -/
namespace Go.Proofs.YtgfleifpblcnfaaGreatDoor
set_option linter.unusedSimpArgs false
open Go.RowKit
set_option linter.unusedVariables false

def OknW (x : WantD) : Prop := I31 x.pod
theorem wantNums_sl (x : WantD) (w : World) (hx : OknW x) : Calls Tryz.prog 54 #[aggW x] w fun e w' => ∃ A c, e = .returned (.slice A 6 c) ∧ Sl w' (wantK.nums x) A 6 c ∧ Below w.heap.size w w' :=
  (wantNums_any x w (hx)).mono fun _ _ h => SlTo.of h
def FlatWRel (l : List WantD) (w : World) (v i : Value) (wr : World) : Prop :=
  ∃ k : Nat, k ≤ l.length ∧ i = .int .i64 k ∧ wr.ownsRow w.heap.size 65 1 v (u64s ((l.take k).flatMap wantK.nums)).length (u64s ((l.take k).flatMap wantK.nums)) ∧ Below w.heap.size w wr
set_option maxHeartbeats 3200000 in
set_option maxRecDepth 100000 in
theorem flatW_any (l : List WantD) (A : Option Addr) (n c : Nat) (w : World) (hn : n = l.length) (hl : n ≤ 1000) (hp : ∀ x ∈ l, OknW x) (hr : Recs 6 cellsW w w.heap.size A l) :
    Calls Tryz.prog 53 #[.slice A n c, .func (.func 54) #[] #[]] w (NumsTo (l.flatMap wantK.nums) w) := by
  have HN := Lib.hid hn
  have HP := Lib.hid hp
  have HR := Lib.hid hr
  clear hn hp hr
  go_enter Tryz.func53, Tryz.ntmps53
  go_wp2
  go_loopw [5, 10] (FlatWRel l w) (fun _ i _ => n - (intOf i).toNat)
  case atStart => exact ⟨0, by omega, rfl, World.ownsRow_nil _ _ _ _, Below.refl _ _⟩
  case round =>
    obtain ⟨k, hk, rfl, hown, hbr⟩ := hrel
    have hz := hbr.size
    by_cases hlt : k < n
    · have hkl : k < l.length := by have := HN.out; omega
      obtain ⟨b, o, rfl, hb, he⟩ := HR.out.at hkl
      have HX := Lib.hid (HP.out l[k] (List.getElem_mem hkl))
      have HT : Hid ((l.take k).flatMap wantK.nums ++ wantK.nums l[k] = (l.take (k + 1)).flatMap wantK.nums) := by
        show _ ++ _ = _
        rw [List.take_succ_eq_append_getElem hkl, List.flatMap_append]; simp
      have HU : Hid ((u64s ((l.take k).flatMap wantK.nums)).length + (u64s (wantK.nums l[k])).length ≤ 2000000) := by
        have e1 : ((l.take k).flatMap wantK.nums).length = (l.take k).length * 6 := flat_length wantK _
        have e2 : (wantK.nums l[k]).length = 6 := rfl
        show _ ≤ _
        rw [List.length_map, List.length_map, e1, e2, List.length_take]
        have : min k l.length ≤ 1000 := by have := HN.out; omega
        omega
      generalize l[k] = x at *
      have e0 : wr.cell? ⟨b, o + k * 6, none⟩ = some (.int .i64 x.pod) := (hbr.cell (p := ⟨b, o + k * 6, none⟩) hb).trans (he 0 _ rfl)
      have e1 : wr.cell? ⟨b, o + k * 6 + 1, none⟩ = some (.int .u64 x.req.a) := (hbr.cell (p := ⟨b, o + k * 6 + 1, none⟩) hb).trans (he 1 _ rfl)
      have e2 : wr.cell? ⟨b, o + k * 6 + 2, none⟩ = some (.int .u64 x.req.b) := (hbr.cell (p := ⟨b, o + k * 6 + 2, none⟩) hb).trans (he 2 _ rfl)
      have e3 : wr.cell? ⟨b, o + k * 6 + 3, none⟩ = some (.int .u64 x.req.c) := (hbr.cell (p := ⟨b, o + k * 6 + 3, none⟩) hb).trans (he 3 _ rfl)
      have e4 : wr.cell? ⟨b, o + k * 6 + 4, none⟩ = some (.int .u64 x.req.d) := (hbr.cell (p := ⟨b, o + k * 6 + 4, none⟩) hb).trans (he 4 _ rfl)
      have e5 : wr.cell? ⟨b, o + k * 6 + 5, none⟩ = some (.bool x.stay) := (hbr.cell (p := ⟨b, o + k * 6 + 5, none⟩) hb).trans (he 5 _ rfl)
      have hbw : b < wr.heap.size := by omega
      clear he
      go_wp2_with fail
      go_at_call 54
      refine (wantNums_sl x _ HX.out).mono ?_
      rintro e w1 ⟨A1, c1, rfl, hs1, hb1⟩
      have hz1 : w.heap.size ≤ w1.heap.size := by have := hb1.size; simp at this; omega
      have hown1 := own_below (hown.alloc (.cells #[.int .i64 x.pod, .int .u64 x.req.a, .int .u64 x.req.b, .int .u64 x.req.c, .int .u64 x.req.d, .bool x.stay] 105)) hb1 (Nat.le_refl _)
      have kw1 : Below w.heap.size w w1 := (hbr.alloc hz _).trans (hb1.mono (by simp; omega))
      have HS := Lib.hid hs1
      clear hs1 hb1 hown
      go_wp2_with (at_builtin; refine wpList_cat 38 65 (.int .u64 0) 8 Tryz.underlying38 Tryz.info65 rfl (by decide) rfl (.tmp 14) (.tmp 17) rfl w.heap.size w1.heap.size _ (u64s ((l.take k).flatMap wantK.nums)) (u64s (wantK.nums x)) A1 c1 (one_u64s _) HS.out.2.1 hown1 HS.out.2.2 hz1 HU.out rfl rfl rfl ?_; intro v' w2 hown2 hb2 hB2)
      go_roundw
      case rel => exact ⟨k + 1, by omega, by go_num, own_cat hown2 HT.out, kw1.trans hb2⟩
      case measure => simp [intOf]; omega
    · have htk : l.take k = l := List.take_of_length_le (by have := HN.out; omega)
      rw [htk] at hown
      clear htk
      go_wp2
      go_ret
      exact ⟨_, rfl, hown, hbr⟩
end Go.Proofs.YtgfleifpblcnfaaGreatDoor

namespace Go.Proofs.YtgfleifpblcnfaaGreatDoor
set_option linter.unusedSimpArgs false
open Go.RowKit
set_option linter.unusedVariables false

abbrev aggM (x : MoveD) : Value := .agg #[.int .i64 x.kind, .int .i64 x.pod, .int .i64 x.node, .int .i64 x.over]
def cellsM (x : MoveD) : List Value := [.int .i64 x.kind, .int .i64 x.pod, .int .i64 x.node, .int .i64 x.over]
set_option maxHeartbeats 6400000 in
set_option maxRecDepth 100000 in
theorem moveNums_any (x : MoveD) (w : World) (h1 : I31 x.kind) (h2 : I31 x.pod) (h3 : I31 x.node) (h4 : I31 x.over) :
    Calls Tryz.prog 59 #[aggM x] w (NumsTo (moveK.nums x) w) := by
  go_enter Tryz.func59, Tryz.ntmps59
  go_wp2_with (go_at_call 25; refine (numbers_4 x.kind x.pod x.node x.over _ _ (by simp) h1 h2 h3 h4 (by simp) (by simp) (by simp) (by simp)).mono ?_; rintro e w9 ⟨u, rfl, ho, hb⟩)
  go_ret
  exact NumsTo.lift ⟨u, rfl, ho, hb⟩ (((Below.refl _ w).alloc (Nat.le_refl _) _).alloc (by simp) _)
end Go.Proofs.YtgfleifpblcnfaaGreatDoor
