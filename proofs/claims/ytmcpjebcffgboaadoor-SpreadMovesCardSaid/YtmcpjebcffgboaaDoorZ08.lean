/- Joined texts, part 8: EZ BA BB EP YB ES YC YD BC BD. -/
import Derived.Test.YtmcpjebcffgboaaDoorZ07
import Derived.Test.YtmcpjebcffgboaaDoorZ06
import Derived.Test.YtmcpjebcffgboaaDoorZ01
import Derived.Test.YtmcpjebcffgboaaDoorZ03
import Derived.Test.YtmcpjebcffgboaaDoorZ04
import Derived.Shelf.Sort.Plain
import Derived.Shelf.Slices.CompactI
import Derived.Shelf.Slices.In.SortNone
import Derived.Shelf.Slices.SearchI
import Derived.Shelf.Slices.Turned
import Derived.Test.YtmcpjebcffgboaaDoorProg
import Derived.Deep.OwnRows
import Derived.Sort.OwnSortedInts
import Derived.Lib.OwnBridge
import Derived.Sort.Grow
import Derived.Test.YtmcpjebcffgboaaDoorZ02
import Derived.Deep.RegionHeld3

/- The program's Zones, from what slices.Sort and slices.Compact come to. -/
namespace Go.Proofs.YtmcpjebcffgboaaDoor
set_option linter.unusedSimpArgs false
open Go.RowKit
set_option linter.unusedVariables false

abbrev sortI (zs : List Int) : List Int := zs.mergeSort fun x y => decide (x ≤ y)
/-- slices.Sort at a slice of the call's own. -/
def SortOwn : Prop := ∀ (B : Nat) (v : Value) (zs : List Int) (w : World), B ≤ w.heap.size → w.ownsRow B 3 1 v zs.length (i64s zs) → zs.length ≤ 1000 →
  Calls Tryd.prog 15 #[v] w fun e w' => e = .returned (.tuple #[]) ∧ w'.ownsRow B 3 1 v zs.length (i64s (sortI zs)) ∧ Below B w w'
def CompTo (zs : List Int) (B : Nat) (w : World) (e : Ending) (w' : World) : Prop := ∃ v', e = .returned v' ∧ w'.ownsRow B 3 1 v' (Lib.compact zs).length (i64s (Lib.compact zs)) ∧ Below B w w'
/-- slices.Compact at a slice of the call's own. -/
def CompOwn : Prop := ∀ (B : Nat) (v : Value) (zs : List Int) (w : World), B ≤ w.heap.size → w.ownsRow B 3 1 v zs.length (i64s zs) → zs.length ≤ 1000 → Calls Tryd.prog 16 #[v] w (CompTo zs B w)

def ZoRel (l : List NodeD) (W : World) (B : Nat) (v i : Value) (wr : World) : Prop :=
  ∃ k : Nat, k ≤ l.length ∧ i = .int .i64 k ∧ wr.ownsRow B 3 1 v (i64s ((l.take k).map NodeD.zone)).length (i64s ((l.take k).map NodeD.zone)) ∧ Below B W wr
theorem zones_more {l : List NodeD} {k : Nat} {nd : NodeD} (h : k < l.length) (hx : l[k] = nd) : i64s ((l.take (k + 1)).map NodeD.zone) = i64s ((l.take k).map NodeD.zone) ++ [.int .i64 nd.zone] := by
  rw [List.take_succ_eq_append_getElem h, hx]; simp

set_option maxHeartbeats 3200000 in
set_option maxRecDepth 100000 in
theorem zones_any (HS : SortOwn) (HC : CompOwn) (l : List NodeD) (A : Option Addr) (n c : Nat) (v2 v3 : Value) (w : World) (hn : n = l.length) (hl : n ≤ 1000) (hr : Recs 10 cellsN w w.heap.size A l) :
    Calls Tryd.prog 7 #[.agg #[.slice A n c, v2, v3]] w (ZonesTo l w) := by
  have HSS := Lib.hid HS
  have HCC := Lib.hid HC
  have HR := Lib.hid hr
  have HN := Lib.hid hn
  clear hr hn HS HC
  have b00 : Below w.heap.size w (w.alloc (.cells #[.slice A n c, v2, v3] 26)) := (Below.refl _ _).alloc (Nat.le_refl _) _
  go_enter Tryd.func7, Tryd.ntmps7
  go_wp2
  go_loopw [3, 9] (ZoRel l (w.alloc (.cells #[.slice A n c, v2, v3] 26)) (w.heap.size + 1)) (fun _ i _ => n - (intOf i).toNat)
  case atStart => exact ⟨0, by omega, rfl, ⟨by simp, .inl ⟨rfl, by simp⟩⟩, Below.refl _ _⟩
  case round =>
    obtain ⟨k, hk, rfl, hown, hbr⟩ := hrel
    have HOWN := Lib.hid hown
    have hzr : w.heap.size + 1 ≤ wr.heap.size := by have := hbr.size; simpa using this
    have kwr : Below w.heap.size w wr := b00.trans (hbr.mono (by omega))
    clear hown
    by_cases hlt : k < n
    · have hkl : k < l.length := by have := HN.out; omega
      obtain ⟨b, o, rfl, hb, he⟩ := HR.out.at hkl
      generalize hx : l[k] = nd at *
      have HX := Lib.hid hx
      clear hx
      have e0 : wr.cell? ⟨b, o + k * 10, none⟩ = some (.int .i64 nd.id) := (kwr.cell (p := ⟨b, o + k * 10, none⟩) hb).trans (he 0 _ rfl)
      have e1 : wr.cell? ⟨b, o + k * 10 + 1, none⟩ = some (.int .i64 nd.zone) := (kwr.cell (p := ⟨b, o + k * 10 + 1, none⟩) hb).trans (he 1 _ rfl)
      have e2 : wr.cell? ⟨b, o + k * 10 + 2, none⟩ = some (.int .u64 nd.cap.a) := (kwr.cell (p := ⟨b, o + k * 10 + 2, none⟩) hb).trans (he 2 _ rfl)
      have e3 : wr.cell? ⟨b, o + k * 10 + 3, none⟩ = some (.int .u64 nd.cap.b) := (kwr.cell (p := ⟨b, o + k * 10 + 3, none⟩) hb).trans (he 3 _ rfl)
      have e4 : wr.cell? ⟨b, o + k * 10 + 4, none⟩ = some (.int .u64 nd.cap.c) := (kwr.cell (p := ⟨b, o + k * 10 + 4, none⟩) hb).trans (he 4 _ rfl)
      have e5 : wr.cell? ⟨b, o + k * 10 + 5, none⟩ = some (.int .u64 nd.cap.d) := (kwr.cell (p := ⟨b, o + k * 10 + 5, none⟩) hb).trans (he 5 _ rfl)
      have e6 : wr.cell? ⟨b, o + k * 10 + 6, none⟩ = some (.int .u64 nd.held.a) := (kwr.cell (p := ⟨b, o + k * 10 + 6, none⟩) hb).trans (he 6 _ rfl)
      have e7 : wr.cell? ⟨b, o + k * 10 + 7, none⟩ = some (.int .u64 nd.held.b) := (kwr.cell (p := ⟨b, o + k * 10 + 7, none⟩) hb).trans (he 7 _ rfl)
      have e8 : wr.cell? ⟨b, o + k * 10 + 8, none⟩ = some (.int .u64 nd.held.c) := (kwr.cell (p := ⟨b, o + k * 10 + 8, none⟩) hb).trans (he 8 _ rfl)
      have e9 : wr.cell? ⟨b, o + k * 10 + 9, none⟩ = some (.int .u64 nd.held.d) := (kwr.cell (p := ⟨b, o + k * 10 + 9, none⟩) hb).trans (he 9 _ rfl)
      have hbw : b < wr.heap.size := by omega
      have HM := Lib.hid (zones_more hkl HX.out)
      have HL : Hid ((i64s ((l.take k).map NodeD.zone)).length ≤ 2000000) := by show _ ≤ _; simp; omega
      have k1 : Below (w.heap.size + 1) (w.alloc (.cells #[.slice (some ⟨b, o, none⟩) n c, v2, v3] 26)) (wr.alloc (.cells #[.int .i64 nd.id, .int .i64 nd.zone, .int .u64 nd.cap.a, .int .u64 nd.cap.b, .int .u64 nd.cap.c, .int .u64 nd.cap.d, .int .u64 nd.held.a, .int .u64 nd.held.b, .int .u64 nd.held.c, .int .u64 nd.held.d] 41)) := hbr.alloc hzr _
      have HO1 := Lib.hid (HOWN.out.alloc (.cells #[.int .i64 nd.id, .int .i64 nd.zone, .int .u64 nd.cap.a, .int .u64 nd.cap.b, .int .u64 nd.cap.c, .int .u64 nd.cap.d, .int .u64 nd.held.a, .int .u64 nd.held.b, .int .u64 nd.held.c, .int .u64 nd.held.d] 41))
      clear he
      go_wp2_with (at_builtin; refine wpList_push 34 3 (.int .i64 0) 8 Tryd.underlying34 Tryd.info3 rfl (by decide) rfl (.tmp 13) (.tmp 16) rfl (w.heap.size + 1) _ (i64s ((l.take k).map NodeD.zone)) (.int .i64 nd.zone) rfl HO1.out (by show w.heap.size + 1 ≤ (wr.alloc _).heap.size; simp; omega) HL.out rfl (by simp [go_sem]) ?_; intro v5 w3 hown3 hb3 hB3)
      have HO3 := Lib.hid hown3
      clear hown3
      go_wp2
      go_roundw
      case rel => exact ⟨k + 1, by omega, by go_num, by rw [HM.out]; exact HO3.out, k1.trans hb3⟩
      case measure => simp [intOf]; omega
    · have HK : Hid (l.take k = l) := List.take_of_length_le (by have := HN.out; omega)
      have HO : Hid (wr.ownsRow (w.heap.size + 1) 3 1 u3 (l.map NodeD.zone).length (i64s (l.map NodeD.zone))) := by
        have h := HOWN.out
        rw [HK.out, List.length_map (f := Value.int .i64)] at h
        exact h
      have HLL : Hid ((l.map NodeD.zone).length ≤ 1000) := by show _ ≤ _; have := HN.out; simp; omega
      go_wp2_with fail
      refine (HSS.out _ _ _ _ hzr HO.out HLL.out).mono ?_
      rintro e w1 ⟨rfl, hown1, hb1⟩
      have HO1 : Hid (w1.ownsRow (w.heap.size + 1) 3 1 u3 (sortI (l.map NodeD.zone)).length (i64s (sortI (l.map NodeD.zone)))) := by
        rw [show (sortI (l.map NodeD.zone)).length = (l.map NodeD.zone).length from List.length_mergeSort _]; exact hown1
      have HL1 : Hid ((sortI (l.map NodeD.zone)).length ≤ 1000) := by
        show _ ≤ _; rw [show (sortI (l.map NodeD.zone)).length = (l.map NodeD.zone).length from List.length_mergeSort _]; exact HLL.out
      clear hown1
      have hz1 : w.heap.size + 1 ≤ w1.heap.size := Nat.le_trans hzr hb1.size
      go_wp2_with fail
      refine (HCC.out _ _ _ _ hz1 HO1.out HL1.out).mono ?_
      rintro e w2 ⟨v', rfl, hown2, hb2⟩
      rw [zones_compact] at hown2
      have HO2 := Lib.hid hown2
      clear hown2
      have kw2 : Below w.heap.size w w2 := b00.trans (((hbr.trans hb1).trans hb2).mono (by omega))
      go_wp2
      go_ret
      exact ⟨_, rfl, by rw [List.length_map]; exact HO2.out, kw2⟩
end Go.Proofs.YtmcpjebcffgboaaDoor

/- Plain mathematics of pods that may not be together. -/
namespace Go.Proofs.YtmcpjebcffgboaaDoor
set_option linter.unusedSimpArgs false
open Go.RowKit
set_option linter.unusedVariables false

/-- Has the first load of this Id Apart? -/
def apartD (id : Int) : List LoadD → Bool
  | [] => false
  | x :: r => if x.id = id then x.apart else apartD id r
theorem apartD_no {id : Int} : ∀ {l : List LoadD} {k : Int}, 0 ≤ k → place LoadD.id id l k < 0 → apartD id l = false
  | [], _, _, _ => rfl
  | x :: r, k, hk, h => by
    by_cases hx : x.id = id
    · simp [place, hx] at h; omega
    · simp only [place, if_neg hx] at h
      simp only [apartD, if_neg hx]
      exact apartD_no (by omega) h
theorem apartD_yes {id : Int} : ∀ {l : List LoadD} {k : Int} {i : Nat} (hi : i < l.length), place LoadD.id id l k = k + i → 0 ≤ k → apartD id l = l[i].apart
  | [], _, _, hi, _, _ => by simp at hi
  | x :: r, k, i, hi, h, hk => by
    by_cases hx : x.id = id
    · simp only [place, if_pos hx] at h
      obtain rfl : i = 0 := by omega
      simp [apartD, hx]
    · simp only [place, if_neg hx] at h
      cases i with
      | zero =>
        have h3 : place LoadD.id id r (k + 1) < 0 ∨ k + 1 ≤ place LoadD.id id r (k + 1) := place_or r (k + 1) (by omega)
        omega
      | succ i =>
        simp only [apartD, if_neg hx, List.getElem_cons_succ]
        exact apartD_yes (by simpa using hi) (by rw [h]; omega) (by omega)
/-- Do two pods clash? -/
def clashD (ls : List LoadD) (a b : PodD) : Bool := a.node != 0 && (a.node == b.node && (a.load == b.load && apartD a.load ls))
theorem clashD_symm {ls : List LoadD} {a b : PodD} (h : clashD ls a b = true) : clashD ls b a = true := by
  simp only [clashD, Bool.and_eq_true, bne_iff_ne, beq_iff_eq] at h ⊢
  obtain ⟨h1, h2, h3, h4⟩ := h
  exact ⟨by rw [← h2]; exact h1, h2.symm, h3.symm, by rw [← h3]; exact h4⟩
theorem clashD_comm (ls : List LoadD) (a b : PodD) : clashD ls a b = clashD ls b a := by
  cases h : clashD ls a b with
  | true => exact (clashD_symm h).symm
  | false =>
    cases h2 : clashD ls b a with
    | false => rfl
    | true => rw [clashD_symm h2] at h; cases h
/-- The Id of the first pod of the list, behind k others, that is not at place i and clashes with p. -/
def clashFrom (ls : List LoadD) (p : PodD) (i : Nat) : List PodD → Nat → Int
  | [], _ => 0
  | q :: r, k => if k ≠ i ∧ clashD ls p q = true then q.id else clashFrom ls p i r (k + 1)
theorem clashFrom_at {ls : List LoadD} {p : PodD} {i : Nat} {l : List PodD} {k : Nat} {z : Int} (h : k < l.length) {q : PodD} (hx : l[k] = q) (hp : clashFrom ls p i (l.drop k) k = z) :
    (k ≠ i ∧ clashD ls p q = true → z = q.id) ∧ (k = i ∨ clashD ls p q = false → clashFrom ls p i (l.drop (k + 1)) (k + 1) = z) := by
  rw [List.drop_eq_getElem_cons h, hx, clashFrom] at hp
  constructor
  · intro e; rw [if_pos e] at hp; exact hp.symm
  · intro e
    rw [if_neg (by rcases e with e | e <;> simp [e])] at hp
    exact hp
theorem clashFrom_end {ls : List LoadD} {p : PodD} {i : Nat} {l : List PodD} {k : Nat} {z : Int} (h : l.length ≤ k) (hp : clashFrom ls p i (l.drop k) k = z) : z = 0 := by
  rw [List.drop_of_length_le h] at hp
  exact hp.symm
/-- The first other pod with which the first pod of that Id clashes; 0: none. -/
def clashOf (ls : List LoadD) (l : List PodD) (id : Int) : Int :=
  if place PodD.id id l 0 < 0 then 0 else
    match l[(place PodD.id id l 0).toNat]? with
    | none => 0
    | some p => clashFrom ls p (place PodD.id id l 0).toNat l 0
theorem clashOf_none {ls : List LoadD} {l : List PodD} {id : Int} (h : place PodD.id id l 0 < 0) : clashOf ls l id = 0 := by
  unfold clashOf
  rw [if_pos h]
theorem clashOf_some {ls : List LoadD} {l : List PodD} {id : Int} {i : Nat} (hi : i < l.length) (h : place PodD.id id l 0 = i) {p : PodD} (hp : l[i] = p) : clashOf ls l id = clashFrom ls p i l 0 := by
  unfold clashOf
  rw [if_neg (by omega), h, Int.toNat_natCast, List.getElem?_eq_getElem hi, hp]
/-- The first pod, behind k others, that clashes with one ahead of it. -/
def apartFrom (ls : List LoadD) (l : List PodD) : List PodD → Nat → Int × Int
  | [], _ => (0, -1)
  | p :: r, k => if (l.take k).any (clashD ls p) = true then (10, (k : Int)) else apartFrom ls l r (k + 1)
def apartOf (ls : List LoadD) (l : List PodD) : Int × Int := apartFrom ls l l 0
theorem apartFrom_at {ls : List LoadD} {l : List PodD} {k : Nat} {z : Int × Int} (h : k < l.length) {p : PodD} (hx : l[k] = p) (hp : apartFrom ls l (l.drop k) k = z) :
    ((l.take k).any (clashD ls p) = true → z = (10, (k : Int))) ∧ ((l.take k).any (clashD ls p) = false → apartFrom ls l (l.drop (k + 1)) (k + 1) = z) := by
  rw [List.drop_eq_getElem_cons h, hx, apartFrom] at hp
  constructor
  · intro e; rw [if_pos e] at hp; exact hp.symm
  · intro e; rw [if_neg (by rw [e]; decide)] at hp; exact hp
theorem apartFrom_end {ls : List LoadD} {l : List PodD} {k : Nat} {z : Int × Int} (h : l.length ≤ k) (hp : apartFrom ls l (l.drop k) k = z) : z = (0, -1) := by
  rw [List.drop_of_length_le h] at hp
  exact hp.symm
/-- The place of the first one of which it is true; -1: of none. -/
def idxF (f : PodD → Bool) : List PodD → Int → Int
  | [], _ => -1
  | q :: r, k => if f q = true then k else idxF f r (k + 1)
theorem idxF_at {f : PodD → Bool} {l : List PodD} {k : Nat} {z : Int} (h : k < l.length) {q : PodD} (hx : l[k] = q) (hp : idxF f (l.drop k) k = z) :
    (f q = true → z = k) ∧ (f q = false → idxF f (l.drop (k + 1)) ((k + 1 : Nat) : Int) = z) := by
  rw [List.drop_eq_getElem_cons h, hx, idxF] at hp
  constructor
  · intro e; rw [if_pos e] at hp; exact hp.symm
  · intro e; rw [if_neg (by rw [e]; decide)] at hp; exact hp
theorem idxF_end {f : PodD → Bool} {l : List PodD} {k : Nat} {z : Int} (h : l.length ≤ k) (hp : idxF f (l.drop k) k = z) : z = -1 := by
  rw [List.drop_of_length_le h] at hp
  exact hp.symm
theorem idxF_any {f : PodD → Bool} : ∀ (l : List PodD) (k : Int), 0 ≤ k → (decide (0 ≤ idxF f l k) = l.any f)
  | [], k, hk => by simp [idxF]
  | q :: r, k, hk => by
    cases h : f q with
    | true => simp [idxF, h, hk]
    | false => simp only [idxF, h, List.any_cons, Bool.false_or]; rw [if_neg (by decide)]; exact idxF_any r (k + 1) (by omega)
theorem apartFrom_pair {ls : List LoadD} {l : List PodD} : ∀ (r : List PodD) (k : Nat), ((apartFrom ls l r k).1 = 0 ∧ apartFrom ls l r k = (0, -1)) ∨ ∃ j : Nat, apartFrom ls l r k = (10, (j : Int))
  | [], _ => .inl ⟨rfl, rfl⟩
  | p :: r, k => by
    unfold apartFrom
    split
    · exact .inr ⟨k, rfl⟩
    · exact apartFrom_pair r (k + 1)
theorem apartFrom_iff {ls : List LoadD} {l : List PodD} : ∀ (n k : Nat), l.length = k + n → (apartFrom ls l (l.drop k) k = (0, -1) ↔ ∀ j, k ≤ j → ∀ h : j < l.length, (l.take j).any (clashD ls l[j]) = false)
  | 0, k, hn => by
    rw [List.drop_of_length_le (by omega), apartFrom]
    simp only [true_iff]
    intro j h1 h2; omega
  | n + 1, k, hn => by
    have hk : k < l.length := by omega
    rw [List.drop_eq_getElem_cons hk, apartFrom]
    cases h : (l.take k).any (clashD ls l[k]) with
    | true =>
      simp only [if_true]
      constructor
      · intro e; injection e with e1 e2; omega
      · intro e; have := e k (Nat.le_refl _) hk; rw [h] at this; cases this
    | false =>
      rw [if_neg (by decide), apartFrom_iff n (k + 1) (by omega)]
      constructor
      · intro e j h1 h2
        by_cases hj : j = k
        · subst hj; exact h
        · exact e j (by omega) h2
      · intro e j h1 h2; exact e j (by omega) h2
theorem apart_pairwise {ls : List LoadD} {l : List PodD} : apartOf ls l = (0, -1) ↔ l.Pairwise (fun p q => clashD ls q p = false) := by
  have h := apartFrom_iff (ls := ls) (l := l) l.length 0 (by omega)
  rw [List.drop_zero] at h
  rw [apartOf, h, List.pairwise_iff_getElem]
  constructor
  · intro e i j hi hj hij
    have := e j (by omega) hj
    rw [List.any_eq_false] at this
    have h2 := this l[i] (by rw [List.mem_take_iff_getElem]; exact ⟨i, by omega, rfl⟩)
    simpa using h2
  · intro e j _ hj
    rw [List.any_eq_false]
    intro p hp
    rw [List.mem_take_iff_getElem] at hp
    obtain ⟨i, hi, rfl⟩ := hp
    have := e i j (by omega) hj (by omega)
    simpa using this
theorem apart_zero {ls : List LoadD} {l : List PodD} (h : (apartOf ls l).1 = 0) : apartOf ls l = (0, -1) := by
  rcases apartFrom_pair (ls := ls) (l := l) l 0 with h1 | ⟨j, h1⟩
  · exact h1.2
  · rw [apartOf, h1] at h; cases h
theorem apart_sub {ls : List LoadD} {l m : List PodD} (hs : m.Sublist l) (h : apartOf ls l = (0, -1)) : apartOf ls m = (0, -1) :=
  apart_pairwise.2 ((apart_pairwise.1 h).sublist hs)
theorem less_sub {α : Type} (l : List α) (n : Nat) : (l.take n ++ l.drop (n + 1)).Sublist l := by
  have h : (l.drop (n + 1)).Sublist (l.drop n) := by
    rw [show l.drop (n + 1) = (l.drop n).drop 1 by rw [List.drop_drop]]
    exact List.drop_sublist 1 _
  have h2 := List.Sublist.append (List.Sublist.refl (l.take n)) h
  rwa [List.take_append_drop] at h2
end Go.Proofs.YtmcpjebcffgboaaDoor

/- The program's hasApart, clash, and its closures; slices.IndexFunc and slices.ContainsFunc at them. -/
namespace Go.Proofs.YtmcpjebcffgboaaDoor
set_option linter.unusedSimpArgs false
open Go.RowKit
set_option linter.unusedVariables false

section
variable {V : World}
theorem Bf.cells8 {b : Nat} {x : PodD} (h : Bf V b (cellsP x)) : (V.cell? ⟨b, 0, none⟩ = some (.int .i64 x.id) ∧ V.cell? ⟨b, 1, none⟩ = some (.int .i64 x.load) ∧ V.cell? ⟨b, 2, none⟩ = some (.int .i64 x.prio) ∧ V.cell? ⟨b, 3, none⟩ = some (.int .u64 x.req.a)) ∧
    V.cell? ⟨b, 4, none⟩ = some (.int .u64 x.req.b) ∧ V.cell? ⟨b, 5, none⟩ = some (.int .u64 x.req.c) ∧ V.cell? ⟨b, 6, none⟩ = some (.int .u64 x.req.d) ∧ V.cell? ⟨b, 7, none⟩ = some (.int .i64 x.node) ∧ b < V.heap.size :=
  ⟨⟨h.cell 0 _ rfl, h.cell 1 _ rfl, h.cell 2 _ rfl, h.cell 3 _ rfl⟩, h.cell 4 _ rfl, h.cell 5 _ rfl, h.cell 6 _ rfl, h.cell 7 _ rfl, h.lt⟩
end
def IdxRel (f : PodD → Bool) (l : List PodD) (W : World) (i : Value) (wr : World) : Prop := ∃ k : Nat, k ≤ l.length ∧ i = .int .i64 k ∧ idxF f (l.drop k) k = idxF f l 0 ∧ Below W.heap.size W wr
end Go.Proofs.YtmcpjebcffgboaaDoor

/- slices.Sort, Compact, BinarySearch, Max and Min at []int as they stand in this program: the tables of numbers under which the library's contracts hold here. -/
namespace Go.Proofs.YtmcpjebcffgboaaDoor
set_option linter.unusedSimpArgs false
open Go.Shelf
def Tryd.laysSort_ren : Go.Shelf.Ren := ⟨fun | 189 => 15 | 125 => 29 | 257 => 28 | 128 => 52 | 129 => 53 | 294 => 43 | 295 => 44 | 296 => 45 | 297 => 46 | 298 => 47 | 299 => 48 | 216 => 49 | 300 => 50 | 301 => 51 | 328 => 60 | 329 => 61 | 330 => 62 | 331 => 63 | 332 => 64 | 215 => 65 | 343 => 68 | n => n, fun | 28 => 34 | 3 => 3 | 46 => 79 | 0 => 0 | 51 => 113 | 53 => 37 | 4 => 4 | 183 => 106 | 182 => 105 | 131 => 80 | 5 => 5 | 9 => 9 | 218 => 137 | 222 => 141 | 228 => 145 | 229 => 146 | n => n, fun | n => n⟩
theorem Tryd.laysSort : Go.Proofs.Lays.n189 Tryd.prog Tryd.laysSort_ren := {
  mixed := by kernel_rfl
  f125 := Tryd.func29.trans (congrArg some (by kernel_rfl))
  f128 := Tryd.func52.trans (congrArg some (by kernel_rfl))
  f129 := Tryd.func53.trans (congrArg some (by kernel_rfl))
  f189 := Tryd.func15.trans (congrArg some (by kernel_rfl))
  f215 := Tryd.func65.trans (congrArg some (by kernel_rfl))
  f216 := Tryd.func49.trans (congrArg some (by kernel_rfl))
  f257 := Tryd.func28.trans (congrArg some (by kernel_rfl))
  f294 := Tryd.func43.trans (congrArg some (by kernel_rfl))
  f295 := Tryd.func44.trans (congrArg some (by kernel_rfl))
  f296 := Tryd.func45.trans (congrArg some (by kernel_rfl))
  f297 := Tryd.func46.trans (congrArg some (by kernel_rfl))
  f298 := Tryd.func47.trans (congrArg some (by kernel_rfl))
  f299 := Tryd.func48.trans (congrArg some (by kernel_rfl))
  f300 := Tryd.func50.trans (congrArg some (by kernel_rfl))
  f301 := Tryd.func51.trans (congrArg some (by kernel_rfl))
  f328 := Tryd.func60.trans (congrArg some (by kernel_rfl))
  f329 := Tryd.func61.trans (congrArg some (by kernel_rfl))
  f330 := Tryd.func62.trans (congrArg some (by kernel_rfl))
  f331 := Tryd.func63.trans (congrArg some (by kernel_rfl))
  f332 := Tryd.func64.trans (congrArg some (by kernel_rfl))
  f343 := Tryd.func68.trans (congrArg some (by kernel_rfl))
  t0 := Tryd.underlying0
  a0 := Tryd.isAgg0
  z0 := Tryd.sizeOf0
  v0 := Tryd.zeroValue0
  t3 := Tryd.underlying3
  a3 := Tryd.isAgg3
  z3 := Tryd.sizeOf3
  v3 := Tryd.zeroValue3
  t4 := Tryd.underlying4
  a4 := Tryd.isAgg4
  z4 := Tryd.sizeOf4
  v4 := Tryd.zeroValue4
  t5 := Tryd.underlying5
  a5 := Tryd.isAgg5
  z5 := Tryd.sizeOf5
  v5 := Tryd.zeroValue5
  t9 := Tryd.underlying9
  a9 := Tryd.isAgg9
  z9 := Tryd.sizeOf9
  v9 := Tryd.zeroValue9
  t28 := Tryd.underlying34
  a28 := Tryd.isAgg34
  z28 := Tryd.sizeOf34
  v28 := Tryd.zeroValue34
  t46 := Tryd.underlying79
  a46 := Tryd.isAgg79
  z46 := Tryd.sizeOf79
  v46 := Tryd.zeroValue79
  t51 := Tryd.underlying113
  a51 := Tryd.isAgg113
  z51 := Tryd.sizeOf113
  v51 := Tryd.zeroValue113
  t53 := Tryd.underlying37
  a53 := Tryd.isAgg37
  z53 := Tryd.sizeOf37
  v53 := Tryd.zeroValue37
  t131 := Tryd.underlying80
  a131 := Tryd.isAgg80
  z131 := Tryd.sizeOf80
  v131 := Tryd.zeroValue80
  t182 := Tryd.underlying105
  a182 := Tryd.isAgg105
  z182 := Tryd.sizeOf105
  v182 := Tryd.zeroValue105
  t183 := Tryd.underlying106
  a183 := Tryd.isAgg106
  z183 := Tryd.sizeOf106
  v183 := Tryd.zeroValue106
  t218 := Tryd.underlying137
  a218 := Tryd.isAgg137
  z218 := Tryd.sizeOf137
  v218 := Tryd.zeroValue137
  t222 := Tryd.underlying141
  a222 := Tryd.isAgg141
  z222 := Tryd.sizeOf141
  v222 := Tryd.zeroValue141
  t228 := Tryd.underlying145
  a228 := Tryd.isAgg145
  z228 := Tryd.sizeOf145
  v228 := Tryd.zeroValue145
  t229 := Tryd.underlying146
  a229 := Tryd.isAgg146
  z229 := Tryd.sizeOf146
  v229 := Tryd.zeroValue146 }
def Tryd.laysCompact_ren : Go.Shelf.Ren := ⟨fun | 20 => 16 | n => n, fun | 22 => 34 | 3 => 3 | 4 => 4 | 0 => 0 | n => n, fun | n => n⟩
theorem Tryd.laysCompact : Go.Proofs.Lays2.n20 Tryd.prog Tryd.laysCompact_ren := {
  mixed := by kernel_rfl
  f20 := Tryd.func16.trans (congrArg some (by kernel_rfl))
  t0 := Tryd.underlying0
  a0 := Tryd.isAgg0
  z0 := Tryd.sizeOf0
  v0 := Tryd.zeroValue0
  t3 := Tryd.underlying3
  a3 := Tryd.isAgg3
  z3 := Tryd.sizeOf3
  v3 := Tryd.zeroValue3
  t4 := Tryd.underlying4
  a4 := Tryd.isAgg4
  z4 := Tryd.sizeOf4
  v4 := Tryd.zeroValue4
  t22 := Tryd.underlying34
  a22 := Tryd.isAgg34
  z22 := Tryd.sizeOf34
  v22 := Tryd.zeroValue34
  i3 := by kernel_rfl }
def Tryd.laysSearch_ren : Go.Shelf.Ren := ⟨fun | 25 => 31 | 31 => 49 | 32 => 54 | 37 => 65 | n => n, fun | 22 => 34 | 3 => 3 | 4 => 4 | 40 => 79 | 0 => 0 | n => n, fun | n => n⟩
theorem Tryd.laysSearch : Go.Proofs.Lays2.n25 Tryd.prog Tryd.laysSearch_ren := {
  mixed := by kernel_rfl
  f25 := Tryd.func31.trans (congrArg some (by kernel_rfl))
  f31 := Tryd.func49.trans (congrArg some (by kernel_rfl))
  f32 := Tryd.func54.trans (congrArg some (by kernel_rfl))
  f37 := Tryd.func65.trans (congrArg some (by kernel_rfl))
  t0 := Tryd.underlying0
  a0 := Tryd.isAgg0
  z0 := Tryd.sizeOf0
  v0 := Tryd.zeroValue0
  t3 := Tryd.underlying3
  a3 := Tryd.isAgg3
  z3 := Tryd.sizeOf3
  v3 := Tryd.zeroValue3
  t4 := Tryd.underlying4
  a4 := Tryd.isAgg4
  z4 := Tryd.sizeOf4
  v4 := Tryd.zeroValue4
  t22 := Tryd.underlying34
  a22 := Tryd.isAgg34
  z22 := Tryd.sizeOf34
  v22 := Tryd.zeroValue34
  t40 := Tryd.underlying79
  a40 := Tryd.isAgg79
  z40 := Tryd.sizeOf79
  v40 := Tryd.zeroValue79 }
def Tryd.laysMax_ren : Go.Shelf.Ren := ⟨fun | 113 => 20 | n => n, fun | 28 => 34 | 3 => 3 | 4 => 4 | 9 => 9 | 20 => 20 | 0 => 0 | n => n, fun | n => n⟩
theorem Tryd.laysMax : Go.Proofs.Lays.n113 Tryd.prog Tryd.laysMax_ren := {
  mixed := by kernel_rfl
  f113 := Tryd.func20.trans (congrArg some (by kernel_rfl))
  t0 := Tryd.underlying0
  a0 := Tryd.isAgg0
  z0 := Tryd.sizeOf0
  v0 := Tryd.zeroValue0
  t3 := Tryd.underlying3
  a3 := Tryd.isAgg3
  z3 := Tryd.sizeOf3
  v3 := Tryd.zeroValue3
  t4 := Tryd.underlying4
  a4 := Tryd.isAgg4
  z4 := Tryd.sizeOf4
  v4 := Tryd.zeroValue4
  t9 := Tryd.underlying9
  a9 := Tryd.isAgg9
  z9 := Tryd.sizeOf9
  v9 := Tryd.zeroValue9
  t20 := Tryd.underlying20
  a20 := Tryd.isAgg20
  z20 := Tryd.sizeOf20
  v20 := Tryd.zeroValue20
  t28 := Tryd.underlying34
  a28 := Tryd.isAgg34
  z28 := Tryd.sizeOf34
  v28 := Tryd.zeroValue34 }
def Tryd.laysMin_ren : Go.Shelf.Ren := ⟨fun | 114 => 21 | n => n, fun | 28 => 34 | 3 => 3 | 4 => 4 | 9 => 9 | 20 => 20 | 0 => 0 | n => n, fun | n => n⟩
theorem Tryd.laysMin : Go.Proofs.Lays.n114 Tryd.prog Tryd.laysMin_ren := {
  mixed := by kernel_rfl
  f114 := Tryd.func21.trans (congrArg some (by kernel_rfl))
  t0 := Tryd.underlying0
  a0 := Tryd.isAgg0
  z0 := Tryd.sizeOf0
  v0 := Tryd.zeroValue0
  t3 := Tryd.underlying3
  a3 := Tryd.isAgg3
  z3 := Tryd.sizeOf3
  v3 := Tryd.zeroValue3
  t4 := Tryd.underlying4
  a4 := Tryd.isAgg4
  z4 := Tryd.sizeOf4
  v4 := Tryd.zeroValue4
  t9 := Tryd.underlying9
  a9 := Tryd.isAgg9
  z9 := Tryd.sizeOf9
  v9 := Tryd.zeroValue9
  t20 := Tryd.underlying20
  a20 := Tryd.isAgg20
  z20 := Tryd.sizeOf20
  v20 := Tryd.zeroValue20
  t28 := Tryd.underlying34
  a28 := Tryd.isAgg34
  z28 := Tryd.sizeOf34
  v28 := Tryd.zeroValue34 }
end Go.Proofs.YtmcpjebcffgboaaDoor

/- The zone that a pod is in, and a load's counts in each of some zones: the program's zoneOf and counts of layer 8. -/
namespace Go.Proofs.YtmcpjebcffgboaaDoor
set_option linter.unusedSimpArgs false
open Go.RowKit Go.Shelf
set_option linter.unusedVariables false

set_option maxHeartbeats 6400000 in
set_option maxRecDepth 100000 in
theorem zoneOf_any (ns : List NodeD) (p : PodD) (A1 : Option Addr) (n1 c1 : Nat) (s2 s3 : Value) (w : World) (hn1 : n1 = ns.length) (hl1 : n1 ≤ 1000) (hr1 : Recs 10 cellsN w w.heap.size A1 ns) :
    Calls Tryd.prog 30 #[.agg #[.slice A1 n1 c1, s2, s3], aggP p] w fun e w' => e = .returned (.tuple #[.int .i64 ((zoneD ns p).getD 0), .bool (zoneD ns p).isSome]) ∧ Below w.heap.size w w' := by
  have T0 := T2.new w [.slice A1 n1 c1, s2, s3] (cellsP p) 26 45
  have HF := Lib.hid (node_any ns p.node A1 n1 c1 s2 s3 _ hn1 hl1 ((hr1.below T0.below (Nat.le_refl _)).more T0.below.size))
  have HN1 := Lib.hid hn1
  have HT0 := Lib.hid T0
  clear hr1 hn1 T0
  go_enter Tryd.func30, Tryd.ntmps30
  by_cases h0 : p.node = 0
  · have hd : (p.node == 0) = true := by simp [h0]
    have HE := Lib.hid (zoneD_nowhere (ns := ns) h0)
    have kw := HT0.out.below
    clear h0
    go_wp2
    go_ret2
    exact ⟨by rw [HE.out]; rfl, kw⟩
  · have hd : (p.node == 0) = false := by simp [h0]
    have H0 := Lib.hid h0
    clear h0
    go_wp2_with fail
    refine HF.out.mono ?_
    rintro e w1 ⟨hh, hb1⟩
    have T1 := HT0.out.keep hb1
    clear hb1 HT0 HF
    rcases hh with ⟨hp, rfl⟩ | ⟨i, hi, hp, rfl⟩
    · have HE := Lib.hid (zoneD_none (ns := ns) hp)
      have kw := T1.below.alloc T1.below.size (.cells (cellsN ⟨0, 0, ⟨0, 0, 0, 0⟩, ⟨0, 0, 0, 0⟩⟩).toArray 41)
      clear hp T1
      go_wp2
      go_ret2
      exact ⟨by rw [HE.out]; rfl, kw⟩
    · have HE := Lib.hid (zoneD_some (ns := ns) H0.out hi hp)
      generalize ns[i] = x at *
      have kw := T1.below.alloc T1.below.size (.cells (cellsN x).toArray 41)
      clear hp T1
      go_wp2
      go_ret2
      exact ⟨by rw [HE.out]; rfl, kw⟩

/-- slices.BinarySearch of a row of numbers that rise. -/
theorem search_any (zs : List Int) (x : Int) (b o n c : Nat) (w : World) (hn : n = zs.length) (hl : n ≤ 1000) (hr : Rising zs) (hc : ∀ j, j < zs.length → w.cell? ⟨b, o + j, none⟩ = some (.int .i64 (zs.getD j 0))) :
    Calls Tryd.prog 31 #[.slice (some ⟨b, o, none⟩) n c, .int .i64 x] w fun e w' => e = .returned (.tuple #[.int .i64 (zs.countP (· < x) : Nat), .bool (zs.contains x)]) ∧ Below w.heap.size w w' := by
  have h := Any.slices_BinarySearch_int Tryd.laysSearch b o n c zs x w (by omega) (by omega) hc (by rw [hn, List.take_length]; exact rising_le hr)
  rw [hn, List.take_length] at h
  subst hn
  exact h.mono fun e w' ⟨h1, q, h2⟩ => ⟨h1, by rw [h2]; exact below_draws (Below.refl _ _) q⟩
theorem made_zero (n : Nat) : madeCells #[Value.int .i64 0] n = (i64s (List.replicate n 0)).toArray := by
  apply Array.ext'
  simp [madeCells, Nat.mod_one]
  exact List.ext_getElem (by simp) fun i h1 h2 => by simp
theorem T3.put {a b c : List Value} {w V : World} (h : T3 a b c w V) (i : Nat) (v : Value) : T3 a b (c.set i v) w (V.setCell ⟨w.heap.size + 2, i, none⟩ v) :=
  ⟨h.one.other (by simp) _, h.two.other (by simp) _, h.three.set i v, h.below.setCell (by simp) _⟩
theorem i64s_set (l : List Int) (i : Nat) (x : Int) : (i64s l).set i (.int .i64 x) = i64s (l.set i x) := by simp [i64s, List.map_set]
def CountRel (ns : List NodeD) (load : Int) (zs : List Int) (l : List PodD) (a b : List Value) (w : World) (i : Value) (wr : World) : Prop := ∃ k : Nat, k ≤ l.length ∧ i = .int .i64 k ∧ T3 a b (i64s (countsD ns load zs (l.take k))) w wr
/-- The counts, in new memory. -/
def CountTo (ns : List NodeD) (load : Int) (zs : List Int) (l : List PodD) (n : Nat) (w : World) (e : Ending) (w' : World) : Prop := ∃ g, e = .returned (.slice (some ⟨g, 0, none⟩) n n) ∧ w.heap.size ≤ g ∧ Bf w' g (i64s (countsD ns load zs l)) ∧ Below w.heap.size w w'

set_option maxHeartbeats 12800000 in
set_option maxRecDepth 100000 in
theorem counts_any (ns : List NodeD) (l : List PodD) (load : Int) (zs : List Int) (A1 A4 : Option Addr) (n1 c1 n4 c4 bz oz nz cz : Nat) (s2 s3 v1 v2 : Value) (w : World)
    (hn1 : n1 = ns.length) (hl1 : n1 ≤ 400) (hr1 : Recs 10 cellsN w w.heap.size A1 ns) (hn4 : n4 = l.length) (hl4 : n4 ≤ 400) (hr4 : Recs 8 cellsP w w.heap.size A4 l)
    (hnz : nz = zs.length) (hlz : nz ≤ 1000) (hrz : Rising zs) (hbz : bz < w.heap.size) (hcz : ∀ j, j < zs.length → w.cell? ⟨bz, oz + j, none⟩ = some (.int .i64 (zs.getD j 0))) :
    Calls Tryd.prog 17 #[.agg #[.slice A1 n1 c1, s2, s3], .agg #[.slice A4 n4 c4, v1, v2], .int .i64 load, .slice (some ⟨bz, oz, none⟩) nz cz] w (CountTo ns load zs l nz w) := by
  have T0 := T3.new w [.slice A1 n1 c1, s2, s3] [.slice A4 n4 c4, v1, v2] (i64s (List.replicate nz 0)) 26 28 3
  have HN4 := Lib.hid hn4
  have HR4 := Lib.hid hr4
  have HNZ := Lib.hid hnz
  have HRZ := Lib.hid hrz
  have HZO := Lib.hid (fun (V : World) (hV : Below w.heap.size w V) (p : PodD) => zoneOf_any ns p A1 n1 c1 s2 s3 V hn1 (by omega) ((hr1.below hV (Nat.le_refl _)).more hV.size))
  have HSE := Lib.hid (fun (V : World) (hV : Below w.heap.size w V) (x : Int) => search_any zs x bz oz nz cz V hnz hlz hrz (fun j hj => (hV.cell (p := ⟨bz, oz + j, none⟩) hbz).trans (hcz j hj)))
  have HT0 := Lib.hid T0
  have hmk : ∀ w : World, (Instr.makeSlice 34 (.int .i64 (nz : Int)) (.int .i64 (nz : Int))).run Tryd.prog w = .ok (.slice (some ⟨w.heap.size, 0, none⟩) nz nz) (w.alloc (.cells (i64s (List.replicate nz 0)).toArray 3)) := fun w => by
    rw [← made_zero]
    exact run_make_row' 34 3 (.int .i64 0) 8 Tryd.underlying34 Tryd.info3 rfl .i64 .i64 nz (by omega) (by omega) w
  clear hr1 hn1 hr4 hn4 hnz hrz hcz T0
  go_enter Tryd.func17, Tryd.ntmps17
  go_wp2
  go_loopw [22] (CountRel ns load zs l [.slice A1 n1 c1, s2, s3] [.slice A4 n4 c4, v1, v2] w) (fun i _ => n4 - (intOf i).toNat)
  case atStart => exact ⟨0, by omega, rfl, by rw [counts_zero, ← HNZ.out]; have h := HT0.out; simp only [i64s, List.map_replicate, List.toArray_replicate] at h ⊢; exact h⟩
  case round =>
    obtain ⟨k, hk, rfl, T1⟩ := hrel
    have HT1 := Lib.hid T1
    clear hmk
    by_cases hlt : k < n4
    · have hkl : k < l.length := by have := HN4.out; omega
      have kwr := T1.below
      obtain ⟨b, o, rfl, hb, he⟩ := HR4.out.at hkl
      generalize hx : l[k] = p at *
      have HX := Lib.hid hx
      clear hx
      have e0 : wr.cell? ⟨b, o + k * 8, none⟩ = some (.int .i64 p.id) := (kwr.cell (p := ⟨b, o + k * 8, none⟩) hb).trans (he 0 _ rfl)
      have e1 : wr.cell? ⟨b, o + k * 8 + 1, none⟩ = some (.int .i64 p.load) := (kwr.cell (p := ⟨b, o + k * 8 + 1, none⟩) hb).trans (he 1 _ rfl)
      have e2 : wr.cell? ⟨b, o + k * 8 + 2, none⟩ = some (.int .i64 p.prio) := (kwr.cell (p := ⟨b, o + k * 8 + 2, none⟩) hb).trans (he 2 _ rfl)
      have e3 : wr.cell? ⟨b, o + k * 8 + 3, none⟩ = some (.int .u64 p.req.a) := (kwr.cell (p := ⟨b, o + k * 8 + 3, none⟩) hb).trans (he 3 _ rfl)
      have e4 : wr.cell? ⟨b, o + k * 8 + 4, none⟩ = some (.int .u64 p.req.b) := (kwr.cell (p := ⟨b, o + k * 8 + 4, none⟩) hb).trans (he 4 _ rfl)
      have e5 : wr.cell? ⟨b, o + k * 8 + 5, none⟩ = some (.int .u64 p.req.c) := (kwr.cell (p := ⟨b, o + k * 8 + 5, none⟩) hb).trans (he 5 _ rfl)
      have e6 : wr.cell? ⟨b, o + k * 8 + 6, none⟩ = some (.int .u64 p.req.d) := (kwr.cell (p := ⟨b, o + k * 8 + 6, none⟩) hb).trans (he 6 _ rfl)
      have e7 : wr.cell? ⟨b, o + k * 8 + 7, none⟩ = some (.int .i64 p.node) := (kwr.cell (p := ⟨b, o + k * 8 + 7, none⟩) hb).trans (he 7 _ rfl)
      have hbw : b < wr.heap.size := Nat.lt_of_lt_of_le hb kwr.size
      obtain ⟨a0, a1, a2, a3⟩ := T1.one.cells3
      have TW := T1.alloc (.cells #[.int .i64 p.id, .int .i64 p.load, .int .i64 p.prio, .int .u64 p.req.a, .int .u64 p.req.b, .int .u64 p.req.c, .int .u64 p.req.d, .int .i64 p.node] 45)
      have HTW := Lib.hid TW
      clear he T1 kwr
      by_cases hload : p.load = load
      · have hd : (p.load != load) = false := by simp [hload]
        have HL := Lib.hid hload
        have HZW := Lib.hid (HZO.out _ TW.below p)
        clear hload TW
        go_wp2_with fail
        refine HZW.out.mono ?_
        rintro e w2 ⟨rfl, hb2⟩
        have HT2 := Lib.hid (HTW.out.keep hb2)
        clear hb2 HZW HTW e0 e1 e2 e3 e4 e5 e6 e7 a0 a1 a2 a3 hd
        rcases hz : zoneD ns p with _ | z
        · have HN := Lib.hid (counts_skip (ns := ns) (load := load) (zs := zs) hkl HX.out (fun z _ => inZ_none hz))
          clear hz
          go_wp2
          go_roundw
          case rel => exact ⟨k + 1, by omega, by go_num, by rw [HN.out]; exact HT2.out⟩
          case measure => simp [intOf]; omega
        · have HSW := Lib.hid (HSE.out _ HT2.out.below z)
          cases hm : zs.contains z with
          | false =>
            have HN := Lib.hid (counts_skip (ns := ns) (load := load) (zs := zs) hkl HX.out (fun y hy => inZ_other hz (fun q => by rw [q] at hm; simp at hm; exact hm hy)))
            rw [hm] at HSW
            clear hz hm
            go_wp2_with fail
            refine HSW.out.mono ?_
            rintro e w3 ⟨rfl, hb3⟩
            have HT3 := Lib.hid (HT2.out.keep hb3)
            clear hb3 HSW
            go_wp2
            go_roundw
            case rel => exact ⟨k + 1, by omega, by go_num, by rw [HN.out]; exact HT3.out⟩
            case measure => simp [intOf]; omega
          | true =>
            have HN := Lib.hid (counts_bump (ns := ns) (load := load) (zs := zs) hkl HX.out HL.out hz HRZ.out (by simpa using hm))
            have hcl := count_le ns load z (l.take k)
            rw [List.length_take] at hcl
            rw [hm] at HSW
            clear hz hm
            generalize hi : zs.countP (· < z) = i at *
            generalize hcc : countD ns load z (l.take k) = cc at *
            clear hi hcc
            have hin : (i : Int) < (nz : Int) := by have := HN.out.1; have := HNZ.out; omega
            have hi0 : (0 : Int) ≤ (i : Int) := by omega
            have hcc : (cc : Int) ≤ 1000 := by omega
            have hcc0 : (0 : Int) ≤ (cc : Int) := by omega
            clear hcl
            go_wp2_with fail
            refine HSW.out.mono ?_
            rintro e w3 ⟨rfl, hb3⟩
            have T3' := HT2.out.keep hb3
            have HT3 := Lib.hid T3'
            have g0 : w3.cell? ⟨w.heap.size + 2, i, none⟩ = some (.int .i64 cc) := T3'.three.cell i _ (by rw [List.getElem?_map, HN.out.2.1]; rfl)
            have g1 : w3.frozen? ⟨w.heap.size + 2, i, none⟩ = false := T3'.three.frozen i
            have g2 : w.heap.size + 2 < w3.heap.size := T3'.three.lt
            clear hb3 HSW T3'
            go_wp2
            go_roundw
            case rel => exact ⟨k + 1, by omega, by go_num, by rw [HN.out.2.2, ← i64s_set]; exact HT3.out.put i _⟩
            case measure => simp [intOf]; omega
      · have hd : (p.load != load) = true := by simp [hload]
        have HN := Lib.hid (counts_skip (ns := ns) (load := load) (zs := zs) hkl HX.out (fun z _ => inZ_load hload))
        clear hload TW
        go_wp2
        go_roundw
        case rel => exact ⟨k + 1, by omega, by go_num, by rw [HN.out]; exact HTW.out⟩
        case measure => simp [intOf]; omega
    · have HK : Hid (l.take k = l) := List.take_of_length_le (by have := HN4.out; omega)
      clear T1
      go_wp2
      go_ret
      exact ⟨w.heap.size + 2, rfl, by omega, by have := HT1.out.three; rw [HK.out] at this; exact this, HT1.out.below⟩
end Go.Proofs.YtmcpjebcffgboaaDoor

/- slices.Sort and slices.Compact at a slice of the call's own. -/
namespace Go.Proofs.YtmcpjebcffgboaaDoor
set_option linter.unusedSimpArgs false
open Go.RowKit Go.Shelf Go.Sort
set_option linter.unusedVariables false

theorem slice_shape {w : World} {B : Nat} {v : Value} {zs : List Int} (h : w.ownsRow B 3 1 v zs.length (i64s zs)) : (v = .slice none 0 0 ∧ zs = []) ∨ ∃ g cap cur, v = .slice (some ⟨g, 0, none⟩) zs.length cap ∧ B ≤ g ∧ w.heap[g]? = some (.cells cur 3 (0, 0)) ∧ zs.length ≤ cap ∧ cap ≤ maxLen ∧ cur.size = cap * 1 ∧ cur.toList.take zs.length = i64s zs := by
  rcases h.2 with ⟨h1, h2⟩ | ⟨g, cap, cur, h1, h2, h3, h4, h5, h6, h7⟩
  · exact .inl ⟨h1, List.eq_nil_of_length_eq_zero h2⟩
  · exact .inr ⟨g, cap, cur, h1, h2, h3, h4, h5, h6, by rw [Nat.mul_one] at h7; exact h7⟩
theorem sort_own : SortOwn := by
  intro B v zs w hB hown hl
  rcases slice_shape hown with ⟨rfl, rfl⟩ | ⟨g, cap, cur, rfl, hbase, hb, h1, h2, h3, h4⟩
  · exact (Any.slices_Sort_int_none Tryd.laysSort none 0 w).mono fun e w' ⟨he, hw⟩ => ⟨he, by subst hw; rw [show sortI [] = [] by simp [sortI]]; exact hown, by subst hw; exact Below.refl _ _⟩
  · have hgl : g < w.heap.size := (Array.getElem?_eq_some_iff.1 hb).1
    refine (Any.slices_Sort_int Tryd.laysSort g 0 cap zs w (holds_of_blockI hb h4) hgl (by omega)).mono fun e w' ⟨he, n, os, hw⟩ => ⟨he, ?_, ?_⟩
    · subst hw
      exact ownsRow_sortedI (ss := zs) (ts := sortI zs) (List.length_mergeSort zs) hbase hb h1 h2 h3
    · subst hw
      exact (Below.refl B w).grown (grownBy_sortedI _) hB (fun j hj => by cases hj; exact hbase)
theorem comp_own : CompOwn := by
  intro B v zs w hB hown hl
  rcases slice_shape hown with ⟨rfl, rfl⟩ | ⟨g, cap, cur, rfl, hbase, hb, h1, h2, h3, h4⟩
  · exact (Any.slices_Compact_int_empty Tryd.laysCompact none 0 w).mono fun e w' ⟨he, hw⟩ => ⟨_, he, by subst hw; exact hown, by subst hw; exact Below.refl _ _⟩
  · refine (Any.slices_Compact_int Tryd.laysCompact g 0 cap zs w (holds_of_blockI hb h4) (by omega) h1).mono fun e w' ⟨he, q, hw⟩ => ⟨_, he, ?_, ?_⟩
    · subst hw
      have hle : (Lib.compact zs).length ≤ zs.length := Lib.compact_length_le zs
      have hc := Lib.ownsRow_putRow (enc := Value.int .i64) (q := q) (k := (Lib.compact zs).length) (ys := Lib.compact zs ++ List.replicate (zs.length - (Lib.compact zs).length) 0) hown (by simp; omega) hle
      rw [List.take_left] at hc
      exact hc
    · subst hw
      exact Lib.below_putRow (Below.refl _ _) hbase
end Go.Proofs.YtmcpjebcffgboaaDoor

/- A load's count in a zone, and its skew: the program's Count and Skew of layer 8. -/
namespace Go.Proofs.YtmcpjebcffgboaaDoor
set_option linter.unusedSimpArgs false
open Go.RowKit Go.Shelf
set_option linter.unusedVariables false

set_option maxHeartbeats 6400000 in
set_option maxRecDepth 100000 in
theorem count_any (ns : List NodeD) (l : List PodD) (load zone : Int) (A1 A4 : Option Addr) (n1 c1 n4 c4 : Nat) (s2 s3 v1 v2 : Value) (w : World)
    (hn1 : n1 = ns.length) (hl1 : n1 ≤ 400) (hr1 : Recs 10 cellsN w w.heap.size A1 ns) (hn4 : n4 = l.length) (hl4 : n4 ≤ 400) (hr4 : Recs 8 cellsP w w.heap.size A4 l) :
    Calls Tryd.prog 8 #[.agg #[.slice A1 n1 c1, s2, s3], .agg #[.slice A4 n4 c4, v1, v2], .int .i64 load, .int .i64 zone] w fun e w' => e = .returned (.int .i64 (countD ns load zone l : Nat)) ∧ Below w.heap.size w w' := by
  have T0 := T3.new w [.slice A1 n1 c1, s2, s3] [.slice A4 n4 c4, v1, v2] [.int .i64 zone] 26 28 3
  have HC := Lib.hid (counts_any ns l load [zone] A1 A4 n1 c1 n4 c4 (w.heap.size + 2) 0 1 1 s2 s3 v1 v2 _ hn1 hl1 ((hr1.below T0.below (Nat.le_refl _)).more T0.below.size) hn4 hl4 ((hr4.below T0.below (Nat.le_refl _)).more T0.below.size) rfl (by omega) ⟨by simp, trivial⟩ T0.three.lt
    (fun j hj => by
      obtain rfl : j = 0 := by simpa using hj
      exact T0.three.cell 0 _ rfl))
  have HK := Lib.hid T0.below
  clear hr1 hr4 hn1 hn4 T0
  go_enter Tryd.func8, Tryd.ntmps8
  go_wp2_with fail
  refine HC.out.mono ?_
  rintro e w1 ⟨g, rfl, hg, hbf, hb1⟩
  have g0 : w1.cell? ⟨g, 0, none⟩ = some (.int .i64 (countD ns load zone l : Nat)) := hbf.cell 0 _ rfl
  have g1 : g < w1.heap.size := hbf.lt
  have kw := HK.out.trans (hb1.mono HK.out.size)
  clear hbf hg hb1 HK HC
  go_wp2
  go_ret
  exact ⟨rfl, kw⟩

theorem mm_bounds {ns : List NodeD} {load : Int} {zs : List Int} {l : List PodD} (hz : zs ≠ []) : ∃ a b : Nat, Lib.maxOf (countsD ns load zs l) = a ∧ Lib.minOf (countsD ns load zs l) = b ∧ b ≤ a ∧ a ≤ l.length ∧ skewD ns load zs l = (a : Int) - (b : Int) := by
  have h := skew_max (ns := ns) (load := load) (l := l) hz
  obtain ⟨a, ha⟩ := Int.eq_ofNat_of_zero_le (show 0 ≤ Lib.maxOf (countsD ns load zs l) by omega)
  obtain ⟨b, hb⟩ := Int.eq_ofNat_of_zero_le (show 0 ≤ Lib.minOf (countsD ns load zs l) by omega)
  refine ⟨a, b, ha, hb, by omega, by omega, by rw [h.1, ha, hb]⟩

set_option maxHeartbeats 6400000 in
set_option maxRecDepth 100000 in
theorem skew_any (ns : List NodeD) (l : List PodD) (load : Int) (A1 A4 : Option Addr) (n1 c1 n4 c4 : Nat) (s2 s3 v1 v2 : Value) (w : World)
    (hn1 : n1 = ns.length) (hl1 : n1 ≤ 400) (hr1 : Recs 10 cellsN w w.heap.size A1 ns) (hn4 : n4 = l.length) (hl4 : n4 ≤ 400) (hr4 : Recs 8 cellsP w w.heap.size A4 l) :
    Calls Tryd.prog 10 #[.agg #[.slice A1 n1 c1, s2, s3], .agg #[.slice A4 n4 c4, v1, v2], .int .i64 load] w fun e w' => e = .returned (.int .i64 (skewD ns load (zonesOf ns) l)) ∧ Below w.heap.size w w' := by
  have T0 := T2.new w [.slice A1 n1 c1, s2, s3] [.slice A4 n4 c4, v1, v2] 26 28
  have HZ := Lib.hid (zones_any sort_own comp_own ns A1 n1 c1 s2 s3 _ hn1 (by omega) ((hr1.below T0.below (Nat.le_refl _)).more T0.below.size))
  have HR := Lib.hid (zones_fold ns [] trivial)
  have HT0 := Lib.hid T0
  have HC := Lib.hid (fun (V : World) (hV : Below w.heap.size w V) (bz nz cz : Nat) h1 h2 h3 h4 => counts_any ns l load (zonesOf ns) A1 A4 n1 c1 n4 c4 bz 0 nz cz s2 s3 v1 v2 V hn1 hl1 ((hr1.below hV (Nat.le_refl _)).more hV.size) hn4 hl4 ((hr4.below hV (Nat.le_refl _)).more hV.size) h1 h2 (zones_fold ns [] trivial).1 h3 h4)
  have HN1 := Lib.hid hn1
  have HN4 := Lib.hid hn4
  clear hr1 hr4 hn1 hn4 T0
  go_enter Tryd.func10, Tryd.ntmps10
  go_wp2_with fail
  refine HZ.out.mono ?_
  rintro e w1 ⟨v, rfl, hown, hb1⟩
  have T1 := HT0.out.keep hb1
  have HT1 := Lib.hid T1
  clear hb1 HT0 HZ
  rw [List.length_map] at hown
  have hz400 : (zonesOf ns).length ≤ 400 := by
    have h := HR.out.2.1
    have := HN1.out
    unfold zonesOf
    simp at h
    omega
  rcases slice_shape hown with ⟨rfl, he⟩ | ⟨g, cap, cur, rfl, hbase, hb, h1, h2, h3, h4⟩
  · have HE : Hid (skewD ns load (zonesOf ns) l = 0) := by show _ = _; rw [skewD, if_pos he]
    have kw := T1.below
    clear hown he hz400 T1
    go_wp2
    go_ret
    exact ⟨ret_int HE.out.symm, kw⟩
  · have hcell : ∀ j, j < (zonesOf ns).length → w1.cell? ⟨g, 0 + j, none⟩ = some (.int .i64 ((zonesOf ns).getD j 0)) := fun j hj => by
      have hq := hown.cells (g := g) rfl j (.int .i64 ((zonesOf ns).getD j 0)) (by rw [List.getElem?_map, List.getElem?_eq_getElem hj]; simp [List.getD, hj])
      rw [Addr.add_lit] at hq
      simpa using hq
    have hg : g < w1.heap.size := (Array.getElem?_eq_some_iff.1 hb).1
    have HC1 := Lib.hid (HC.out w1 T1.below g (zonesOf ns).length cap rfl (by omega) hg hcell)
    by_cases hz : zonesOf ns = []
    · have HE : Hid (skewD ns load (zonesOf ns) l = 0) := by show _ = _; rw [skewD, if_pos hz]
      have kw := T1.below
      have hn0 : (zonesOf ns).length = 0 := by rw [hz]; rfl
      rw [hn0]
      clear hown hz hz400 T1 hcell hb h1 h2 h3 h4 HC1
      go_wp2
      go_ret
      exact ⟨ret_int HE.out.symm, kw⟩
    · obtain ⟨a, b, m1, m2, m3, m4, m5⟩ := mm_bounds (ns := ns) (load := load) (l := l) hz
      have HM := Lib.hid m1
      have HMI := Lib.hid m2
      have HSK := Lib.hid m5
      have hpos : 0 < (zonesOf ns).length := List.length_pos_iff.2 hz
      have HCL := Lib.hid (counts_len (ns := ns) (load := load) (zs := zonesOf ns) (l := l))
      have ha : (a : Int) ≤ 400 := by have := HN4.out; omega
      have hba : (b : Int) ≤ (a : Int) := by omega
      have hb0 : (0 : Int) ≤ (b : Int) := by omega
      obtain ⟨a0, a1, a2, a3⟩ := T1.one.cells3
      obtain ⟨b0, b1, b2, b3⟩ := T1.two.cells3
      generalize hnz : (zonesOf ns).length = nz at *
      have hd : ((nz : Int) == 0) = false := by simp; omega
      have HNZ := Lib.hid hnz
      clear hown hz T1 hcell hb h1 h2 h3 h4 m1 m2 m3 m4 m5 hnz
      go_wp2_with fail
      refine HC1.out.mono ?_
      rintro e w2 ⟨g', rfl, hg', hbf, hb2⟩
      have HBF := Lib.hid hbf
      have HT2 := Lib.hid (HT1.out.keep hb2)
      have HCC : Hid (∀ V : World, V = w2 → ∀ j, j < (countsD ns load (zonesOf ns) l).length → V.cell? ⟨g', 0 + j, none⟩ = some (.int .i64 ((countsD ns load (zonesOf ns) l).getD j 0))) := fun V hV j hj => by
        subst hV
        rw [Nat.zero_add]
        exact hbf.cell j _ (by rw [List.getElem?_map, List.getElem?_eq_getElem hj]; simp [List.getD, hj])
      have HMX := Lib.hid (Any.slices_Max_int Tryd.laysMax g' 0 nz nz (countsD ns load (zonesOf ns) l) w2 hpos (by rw [HCL.out]; exact Nat.le_refl _) (by omega) (HCC.out w2 rfl))
      have HMN := Lib.hid (Any.slices_Min_int Tryd.laysMin g' 0 nz nz (countsD ns load (zonesOf ns) l) w2 hpos (by rw [HCL.out]; exact Nat.le_refl _) (by omega) (HCC.out w2 rfl))
      clear hg' hbf hb2 HC1 a0 a1 a2 a3 b0 b1 b2 b3 HCC
      go_wp2_with fail
      refine HMX.out.mono ?_
      rintro e w3 ⟨rfl, rfl⟩
      have HT : Hid ((countsD ns load (zonesOf ns) l).take nz = countsD ns load (zonesOf ns) l) := List.take_of_length_le (by rw [HCL.out]; exact Nat.le_refl _)
      rw [HT.out, HM.out]
      go_wp2_with fail
      refine HMN.out.mono ?_
      rintro e w3' ⟨rfl, rfl⟩
      rw [HT.out, HMI.out]
      go_wp2
      go_ret
      exact ⟨ret_int HSK.out.symm, HT2.out.below⟩
end Go.Proofs.YtmcpjebcffgboaaDoor

/- The program's Check of layer 8. -/
namespace Go.Proofs.YtmcpjebcffgboaaDoor
set_option linter.unusedSimpArgs false
open Go.RowKit
set_option linter.unusedVariables false

/-- The first load, behind k others, whose zones are too unlike. -/
def spreadFrom (ns : List NodeD) (l : List PodD) : List LoadD → Nat → Int × Int
  | [], _ => (0, -1)
  | x :: r, k => if 0 < x.skew ∧ x.skew < skewD ns x.id (zonesOf ns) l then (11, (k : Int)) else spreadFrom ns l r (k + 1)
def spreadOf (ns : List NodeD) (ls : List LoadD) (l : List PodD) : Int × Int := spreadFrom ns l ls 0
theorem spreadFrom_at {ns : List NodeD} {l : List PodD} {ls : List LoadD} {k : Nat} {z : Int × Int} (h : k < ls.length) {x : LoadD} (hx : ls[k] = x) (hp : spreadFrom ns l (ls.drop k) k = z) :
    (0 < x.skew ∧ x.skew < skewD ns x.id (zonesOf ns) l → z = (11, (k : Int))) ∧ (¬ (0 < x.skew ∧ x.skew < skewD ns x.id (zonesOf ns) l) → spreadFrom ns l (ls.drop (k + 1)) (k + 1) = z) := by
  rw [List.drop_eq_getElem_cons h, hx, spreadFrom] at hp
  constructor
  · intro e; rw [if_pos e] at hp; exact hp.symm
  · intro e; rw [if_neg e] at hp; exact hp
theorem spreadFrom_end {ns : List NodeD} {l : List PodD} {ls : List LoadD} {k : Nat} {z : Int × Int} (h : ls.length ≤ k) (hp : spreadFrom ns l (ls.drop k) k = z) : z = (0, -1) := by
  rw [List.drop_of_length_le h] at hp
  exact hp.symm
theorem Bf.cells5 {V : World} {b : Nat} {x : LoadD} (h : Bf V b (cellsL x)) : (V.cell? ⟨b, 0, none⟩ = some (.int .i64 x.id) ∧ V.cell? ⟨b, 1, none⟩ = some (.bool x.apart) ∧ V.cell? ⟨b, 2, none⟩ = some (.int .i64 x.skew)) ∧ V.cell? ⟨b, 3, none⟩ = some (.int .i64 x.min) ∧ V.cell? ⟨b, 4, none⟩ = some (.int .i64 x.max) ∧ b < V.heap.size :=
  ⟨⟨h.cell 0 _ rfl, h.cell 1 _ rfl, h.cell 2 _ rfl⟩, h.cell 3 _ rfl, h.cell 4 _ rfl, h.lt⟩
def SpreadRel (ns : List NodeD) (ls : List LoadD) (l : List PodD) (a b : List Value) (w : World) (v : Value) (wr : World) : Prop := ∃ k : Nat, k ≤ ls.length ∧ v = .int .i64 k ∧ spreadFrom ns l (ls.drop k) k = spreadOf ns ls l ∧ T2 a b w wr

set_option maxHeartbeats 6400000 in
set_option maxRecDepth 100000 in
theorem spreadCheck_any (ns : List NodeD) (ls : List LoadD) (l : List PodD) (A1 A2 A4 : Option Addr) (n1 c1 n2 c2 n4 c4 : Nat) (s3 v1 v2 : Value) (w : World)
    (hn1 : n1 = ns.length) (hl1 : n1 ≤ 400) (hr1 : Recs 10 cellsN w w.heap.size A1 ns) (hn2 : n2 = ls.length) (hl2 : n2 ≤ 400) (hr2 : Recs 5 cellsL w w.heap.size A2 ls) (hn4 : n4 = l.length) (hl4 : n4 ≤ 400) (hr4 : Recs 8 cellsP w w.heap.size A4 l) :
    Calls Tryd.prog 12 #[.agg #[.slice A1 n1 c1, .slice A2 n2 c2, s3], .agg #[.slice A4 n4 c4, v1, v2]] w (ErrTo (spreadOf ns ls l) w) := by
  have T0 := T2.new w [.slice A1 n1 c1, .slice A2 n2 c2, s3] [.slice A4 n4 c4, v1, v2] 26 28
  have HN2 := Lib.hid hn2
  have HR2 := Lib.hid hr2
  have HC := Lib.hid (fun (V : World) (hV : Below w.heap.size w V) (id : Int) => skew_any ns l id A1 A4 n1 c1 n4 c4 (.slice A2 n2 c2) s3 v1 v2 V hn1 hl1 ((hr1.below hV (Nat.le_refl _)).more hV.size) hn4 hl4 ((hr4.below hV (Nat.le_refl _)).more hV.size))
  have HT0 := Lib.hid T0
  clear hr1 hn1 hr2 hn2 hr4 hn4 T0
  go_enter Tryd.func12, Tryd.ntmps12
  go_wp2
  go_loopw [10] (SpreadRel ns ls l [.slice A1 n1 c1, .slice A2 n2 c2, s3] [.slice A4 n4 c4, v1, v2] w) (fun v _ => n2 - (intOf v).toNat)
  case atStart => exact ⟨0, by omega, rfl, rfl, HT0.out⟩
  case round =>
    obtain ⟨k, hk, rfl, hp, T1⟩ := hrel
    have HP := Lib.hid hp
    have HT1 := Lib.hid T1
    clear hp
    by_cases hlt : k < n2
    · have hkl : k < ls.length := by have := HN2.out; omega
      have kwr := T1.below
      obtain ⟨b, o, rfl, hb, he⟩ := HR2.out.at hkl
      generalize hx : ls[k] = x at *
      have HX := Lib.hid (spreadFrom_at hkl hx HP.out)
      clear hx
      have e0 : wr.cell? ⟨b, o + k * 5, none⟩ = some (.int .i64 x.id) := (kwr.cell (p := ⟨b, o + k * 5, none⟩) hb).trans (he 0 _ rfl)
      have e1 : wr.cell? ⟨b, o + k * 5 + 1, none⟩ = some (.bool x.apart) := (kwr.cell (p := ⟨b, o + k * 5 + 1, none⟩) hb).trans (he 1 _ rfl)
      have e2 : wr.cell? ⟨b, o + k * 5 + 2, none⟩ = some (.int .i64 x.skew) := (kwr.cell (p := ⟨b, o + k * 5 + 2, none⟩) hb).trans (he 2 _ rfl)
      have e3 : wr.cell? ⟨b, o + k * 5 + 3, none⟩ = some (.int .i64 x.min) := (kwr.cell (p := ⟨b, o + k * 5 + 3, none⟩) hb).trans (he 3 _ rfl)
      have e4 : wr.cell? ⟨b, o + k * 5 + 4, none⟩ = some (.int .i64 x.max) := (kwr.cell (p := ⟨b, o + k * 5 + 4, none⟩) hb).trans (he 4 _ rfl)
      have hbw : b < wr.heap.size := Nat.lt_of_lt_of_le hb kwr.size
      have TW := T1.alloc (.cells #[.int .i64 x.id, .bool x.apart, .int .i64 x.skew, .int .i64 x.min, .int .i64 x.max] 56)
      have QW : Bf (wr.alloc (.cells #[.int .i64 x.id, .bool x.apart, .int .i64 x.skew, .int .i64 x.min, .int .i64 x.max] 56)) wr.heap.size (cellsL x) := Bf.new wr (cellsL x) _ rfl
      clear he T1 kwr
      go_wp2_with fail
      go_upto_region 4 with fail
      clear e0 e1 e2 e3 e4 hbw
      generalize hW : wr.alloc (.cells #[.int .i64 x.id, .bool x.apart, .int .i64 x.skew, .int .i64 x.min, .int .i64 x.max] 56) = W at *
      generalize hh : wr.heap.size = h at *
      clear hW hh
      have HTW := Lib.hid TW
      have kW := TW.below
      obtain ⟨a0, a1, a2, a3⟩ := TW.one.cells3
      obtain ⟨b0, b1, b2, b3⟩ := TW.two.cells3
      obtain ⟨⟨q0, q1, q2⟩, q3, q4, q5⟩ := QW.cells5
      by_cases hs : 0 < x.skew
      · have hd : decide (0 < x.skew) = true := decide_eq_true hs
        have HCW : Hid (∀ V : World, Keeps W V → Calls Tryd.prog 10 #[.agg #[.slice A1 n1 c1, .slice (some ⟨b, o, none⟩) n2 c2, s3], .agg #[.slice A4 n4 c4, v1, v2], .int .i64 x.id] V fun e w' => e = .returned (.int .i64 (skewD ns x.id (zonesOf ns) l)) ∧ Below V.heap.size V w') := fun V hV => HC.out V (kW.trans (hV.2.mono kW.size)) x.id
        clear TW QW
        generalize skewD ns x.id (zonesOf ns) l = z at *
        by_cases hz : x.skew < z
        · have hd2 : decide (x.skew < z) = true := decide_eq_true hz
          have HN := Lib.hid (HX.out.1 ⟨hs, hz⟩)
          clear hs hz
          go_region_held3 (fun w' => (∀ b o, b < W.heap.size → w'.cell? ⟨b, o, none⟩ = W.cell? ⟨b, o, none⟩) ∧ Below W.heap.size W w')
            (first | (with_reducible assumption) | (show Keeps W _; with_reducible (repeat (first | exact Keeps.refl _ | assumption | refine Keeps.drew ?_ | refine Keeps.alloc ?_ _ | refine Keeps.step ?_ (by assumption)))))
            (first | (go_at_call 10; refine (HCW.out _ (by assumption)).mono ?_; rintro e w' ⟨rfl, hb⟩))
          rename_i V hK
          have kV := kW.trans (hK.2.mono kW.size)
          clear hK a0 a1 a2 a3 b0 b1 b2 b3 q0 q1 q2 q3 q4 q5 HCW
          go_wp2
          go_ret
          exact ⟨_, rfl, .inr (.inr ⟨k, _, by rw [HN.out], rfl, kV.size, by rw [HN.out]; exact heap_alloc_new _ _⟩), kV.alloc kV.size _⟩
        · have hd2 : decide (x.skew < z) = false := decide_eq_false hz
          have HN := Lib.hid (HX.out.2 (fun q => hz q.2))
          clear hs hz
          go_region_held3 (fun w' => (∀ b o, b < W.heap.size → w'.cell? ⟨b, o, none⟩ = W.cell? ⟨b, o, none⟩) ∧ Below W.heap.size W w')
            (first | (with_reducible assumption) | (show Keeps W _; with_reducible (repeat (first | exact Keeps.refl _ | assumption | refine Keeps.drew ?_ | refine Keeps.alloc ?_ _ | refine Keeps.step ?_ (by assumption)))))
            (first | (go_at_call 10; refine (HCW.out _ (by assumption)).mono ?_; rintro e w' ⟨rfl, hb⟩))
          rename_i hK
          have HT3 := Lib.hid (HTW.out.keep hK.2)
          clear hK a0 a1 a2 a3 b0 b1 b2 b3 q0 q1 q2 q3 q4 q5 HCW
          go_wp2
          go_roundw
          case rel => exact ⟨k + 1, by omega, by go_num, HN.out, HT3.out⟩
          case measure => simp [intOf]; omega
      · have hd : decide (0 < x.skew) = false := decide_eq_false hs
        have HN := Lib.hid (HX.out.2 (fun q => hs q.1))
        clear hs TW QW
        go_quiet (fail)
        clear a0 a1 a2 a3 b0 b1 b2 b3 q0 q1 q2 q3 q4 q5
        go_wp2
        go_roundw
        case rel => exact ⟨k + 1, by omega, by go_num, HN.out, HTW.out.keep (below_draws (Below.refl _ _) _)⟩
        case measure => simp [intOf]; omega
    · have HE := Lib.hid (spreadFrom_end (by have := HN2.out; omega) HP.out)
      have kwr := T1.below
      clear T1
      go_wp2
      go_ret
      exact ⟨_, rfl, .inl ⟨HE.out, rfl⟩, kwr⟩
end Go.Proofs.YtmcpjebcffgboaaDoor

/- The program's Clash of layer 7. -/
namespace Go.Proofs.YtmcpjebcffgboaaDoor
set_option linter.unusedSimpArgs false
open Go.RowKit
set_option linter.unusedVariables false

theorem T3.cells3a {x0 x1 x2 : Value} {b c : List Value} {w V : World} (h : T3 [x0, x1, x2] b c w V) : V.cell? ⟨w.heap.size, 0, none⟩ = some x0 ∧ V.cell? ⟨w.heap.size, 1, none⟩ = some x1 ∧ V.cell? ⟨w.heap.size, 2, none⟩ = some x2 ∧ w.heap.size < V.heap.size := h.one.cells3
def ClashRel (ls : List LoadD) (p : PodD) (i : Nat) (l : List PodD) (a b c : List Value) (w : World) (v : Value) (wr : World) : Prop := ∃ k : Nat, k ≤ l.length ∧ v = .int .i64 k ∧ clashFrom ls p i (l.drop k) k = clashFrom ls p i l 0 ∧ T3 a b c w wr

end Go.Proofs.YtmcpjebcffgboaaDoor

namespace Go.Proofs.YtmcpjebcffgboaaDoor
set_option linter.unusedSimpArgs false
open Go.RowKit
set_option linter.unusedVariables false

def ApartRel (ls : List LoadD) (l : List PodD) (a b : List Value) (w : World) (v : Value) (wr : World) : Prop := ∃ k : Nat, k ≤ l.length ∧ v = .int .i64 k ∧ apartFrom ls l (l.drop k) k = apartOf ls l ∧ T2 a b w wr

end Go.Proofs.YtmcpjebcffgboaaDoor
