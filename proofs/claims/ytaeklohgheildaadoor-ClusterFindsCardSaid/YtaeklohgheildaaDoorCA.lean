/- How nodes, loads, pods and wants lie in memory; the reference's small functions of layer 3. -/
import Derived.Test.YtaeklohgheildaaDoorRows
import Derived.WalkKit
import Derived.WalkSpells
import Derived.WalkLawsBesides
import Derived.Lib.Hide
import Derived.OwnWalk
import Derived.Test.YtaeklohgheildaaDoorCM
namespace Go.Proofs.YtaeklohgheildaaDoor
open Go.RowKit
set_option linter.unusedVariables false

def cellsV (x : V4) : List Value := [.int .u64 x.a, .int .u64 x.b, .int .u64 x.c, .int .u64 x.d]
def cellsN (n : NodeD) : List Value := [.int .i64 n.id, .int .i64 n.zone, .int .u64 n.cap.a, .int .u64 n.cap.b, .int .u64 n.cap.c, .int .u64 n.cap.d, .int .u64 n.held.a, .int .u64 n.held.b, .int .u64 n.held.c, .int .u64 n.held.d]
def cellsL (l : LoadD) : List Value := [.int .i64 l.id, .bool l.apart, .int .i64 l.skew, .int .i64 l.min, .int .i64 l.max]
def cellsP (p : PodD) : List Value := [.int .i64 p.id, .int .i64 p.load, .int .i64 p.prio, .int .u64 p.req.a, .int .u64 p.req.b, .int .u64 p.req.c, .int .u64 p.req.d, .int .i64 p.node]
def cellsW (x : WantD) : List Value := [.int .i64 x.pod, .int .u64 x.req.a, .int .u64 x.req.b, .int .u64 x.req.c, .int .u64 x.req.d, .bool x.stay]

/-- The slice '.slice A xs.length c' of records of so many cells reads as xs in w, and lies below block B. -/
def Recs {α : Type} (size : Nat) (cells : α → List Value) (w : World) (B : Nat) (A : Option Addr) (xs : List α) : Prop :=
  xs = [] ∨ ∃ b o, A = some ⟨b, o, none⟩ ∧ b < B ∧ ∀ i (h : i < xs.length) j u, (cells xs[i])[j]? = some u → w.cell? ⟨b, o + i * size + j, none⟩ = some u

section
variable {α : Type} {size : Nat} {cells : α → List Value} {w w' : World} {B B' : Nat} {A : Option Addr} {xs : List α}
theorem Recs.nil : Recs size cells w B A [] := .inl rfl
theorem Recs.below (h : Recs size cells w B A xs) (hb : Below B' w w') (hB : B ≤ B') : Recs size cells w' B A xs := by
  rcases h with h | ⟨b, o, h1, h2, h3⟩
  · exact .inl h
  · exact .inr ⟨b, o, h1, h2, fun i hi j u hu => (hb.cell (p := ⟨b, o + i * size + j, none⟩) (Nat.lt_of_lt_of_le h2 hB)).trans (h3 i hi j u hu)⟩
theorem Recs.more (h : Recs size cells w B A xs) (hB : B ≤ B') : Recs size cells w B' A xs := by
  rcases h with h | ⟨b, o, h1, h2, h3⟩
  · exact .inl h
  · exact .inr ⟨b, o, h1, Nat.lt_of_lt_of_le h2 hB, h3⟩
theorem Recs.at (h : Recs size cells w B A xs) {k : Nat} (hk : k < xs.length) :
    ∃ b o, A = some ⟨b, o, none⟩ ∧ b < B ∧ ∀ j u, (cells xs[k])[j]? = some u → w.cell? ⟨b, o + k * size + j, none⟩ = some u := by
  rcases h with h | ⟨b, o, h1, h2, h3⟩
  · subst h; simp at hk
  · exact ⟨b, o, h1, h2, h3 k hk⟩
theorem Recs.take (h : Recs size cells w B A xs) (n : Nat) : Recs size cells w B A (xs.take n) := by
  rcases h with h | ⟨b, o, h1, h2, h3⟩
  · exact .inl (by simp [h])
  · exact .inr ⟨b, o, h1, h2, fun i hi j u hu => h3 i (by simp at hi; omega) j u (by rw [List.getElem_take] at hu; exact hu)⟩
end

/-- A snapshot as it is handed over: three slices. -/
structure Snap (w : World) (B : Nat) (s : SnapD) (v : Value) : Prop where
  is : ∃ A1 c1 A2 c2 A3 c3, v = .agg #[.slice A1 s.nodes.length c1, .slice A2 s.loads.length c2, .slice A3 s.pods.length c3] ∧
    Recs 10 cellsN w B A1 s.nodes ∧ Recs 5 cellsL w B A2 s.loads ∧ Recs 8 cellsP w B A3 s.pods

theorem place_step {α : Type} {f : α → Int} {id : Int} {l : List α} {k : Nat} (h : k < l.length) (hne : f l[k] ≠ id) (hp : place f id (l.drop k) k = place f id l 0) : place f id (l.drop (k + 1)) ((k + 1 : Nat) : Int) = place f id l 0 := by
  rw [← hp, List.drop_eq_getElem_cons h, place, if_neg hne]; rfl
theorem place_here {α : Type} {f : α → Int} {id : Int} {l : List α} {k : Nat} (h : k < l.length) (he : f l[k] = id) (hp : place f id (l.drop k) k = place f id l 0) : place f id l 0 = k := by
  rw [← hp, List.drop_eq_getElem_cons h, place, if_pos he]
theorem place_end {α : Type} {f : α → Int} {id : Int} {l : List α} {k : Nat} (h : l.length ≤ k) (hp : place f id (l.drop k) k = place f id l 0) : place f id l 0 = -1 := by
  rw [← hp, List.drop_of_length_le h, place]
def FindRel {α : Type} (f : α → Int) (id : Int) (l : List α) (i : Value) : Prop := ∃ k : Nat, k ≤ l.length ∧ i = .int .i64 k ∧ place f id (l.drop k) k = place f id l 0
theorem ret_int {a b : Int} (h : a = b) : Ending.returned (.int .i64 a) = .returned (.int .i64 b) := by rw [h]

set_option maxHeartbeats 800000 in
theorem rNode_any (l : List NodeD) (id : Int) (A : Option Addr) (n c B : Nat) (v2 v3 : Value) (w : World) (hn : n = l.length) (hl : n ≤ 1000) (hB : B ≤ w.heap.size) (hr : Recs 10 cellsN w B A l) :
    Calls Tryd.prog 17 #[.agg #[.slice A n c, v2, v3], .int .i64 id] w fun e w' => e = .returned (.int .i64 (place NodeD.id id l 0)) ∧ Below w.heap.size w w' := by
  have HR := Lib.hid hr
  have HL := Lib.hid hn
  clear hr hn
  go_enter Tryd.func17, Tryd.ntmps17
  go_wp2
  go_loop [5] (FindRel NodeD.id id l) (fun i => n - (intOf i).toNat)
  case atStart => exact ⟨0, by omega, rfl, rfl⟩
  case round =>
    obtain ⟨k, hk, rfl, hp⟩ := hrel
    have HP := Lib.hid hp
    clear hp
    by_cases hlt : k < n
    · have hkl : k < l.length := by have := HL.out; omega
      obtain ⟨b, o, rfl, hb, hcell⟩ := HR.out.at hkl
      have hc : w.cell? ⟨b, o + k * 10, none⟩ = some (.int .i64 l[k].id) := hcell 0 _ rfl
      have hbl : b < w.heap.size := by omega
      clear hcell
      by_cases he : l[k].id = id
      · have HE := Lib.hid (place_here hkl he HP.out)
        obtain rfl := he
        go_wp2
        go_ret
        exact ⟨ret_int HE.out.symm, (Below.refl _ _).alloc (Nat.le_refl _) _⟩
      · have HE := Lib.hid (place_step hkl he HP.out)
        go_wp2
        go_round
        case rel => exact ⟨k + 1, by omega, by go_num, HE.out⟩
        case measure => simp [intOf]; omega
    · have HE := Lib.hid (place_end (by have := HL.out; omega) HP.out)
      go_wp2
      go_ret
      exact ⟨ret_int HE.out.symm, (Below.refl _ _).alloc (Nat.le_refl _) _⟩
end Go.Proofs.YtaeklohgheildaaDoor
