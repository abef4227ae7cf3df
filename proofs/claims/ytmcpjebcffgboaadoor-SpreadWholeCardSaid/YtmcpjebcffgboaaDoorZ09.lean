/- Joined texts, part 9: UK CH BP YP. -/
import Derived.Test.YtmcpjebcffgboaaDoorZ06
import Derived.Test.YtmcpjebcffgboaaDoorZ02
import Derived.Test.YtmcpjebcffgboaaDoorZ01
import Derived.Test.YtmcpjebcffgboaaDoorZ08
import Derived.Deep.CutRange

/- The heads of layer 5's laws: few of all, and the document's examples. -/
namespace Go.Proofs.YtmcpjebcffgboaaDoor
set_option linter.unusedSimpArgs false
open Go.RowKit
set_option linter.unusedVariables false

def few05 (n1 n2 n3 nx nt : Nat) : Bool := decide (n1 ≤ 40 ∧ n2 ≤ 40 ∧ n3 ≤ 40) && (decide (nx ≤ 40) && decide (nt ≤ 40))
set_option maxHeartbeats 1600000 in
theorem few05_any (A1 A2 A3 A4 A5 : Option Addr) (n1 c1 n2 c2 n3 c3 n4 c4 n5 c5 : Nat) (v1 v2 u1 u2 : Value) (w : World) :
    Calls Tryd.prog 6 #[.agg #[.slice A1 n1 c1, .slice A2 n2 c2, .slice A3 n3 c3], .agg #[.slice A4 n4 c4, v1, v2], .agg #[.slice A5 n5 c5, u1, u2]] w fun e w' => e = .returned (.bool (few05 n1 n2 n3 n4 n5)) ∧ Below w.heap.size w w' := by
  have b00 := below_three w (.cells #[.slice A1 n1 c1, .slice A2 n2 c2, .slice A3 n3 c3] 26) (.cells #[.slice A4 n4 c4, v1, v2] 33) (.cells #[.slice A5 n5 c5, u1, u2] 28)
  go_enter Tryd.func6, Tryd.ntmps6
  go_wp2_with fail
  refine (few_any _ _ _ _ _ _ _ _ _ _).mono ?_
  rintro e w1 ⟨rfl, hb1⟩
  have k1 : Below (w.heap.size + 3) _ w1 := hb1.mono (by simp)
  have kw1 := b00.trans (k1.mono (by omega))
  have a3 : w1.cell? ⟨w.heap.size + 1, 0, none⟩ = some (.slice A4 n4 c4) := (k1.cell (p := ⟨w.heap.size + 1, 0, none⟩) (by simp)).trans (by rw [World.cell?_alloc_lt _ _ _ (by simp)]; simp)
  have a4 : w1.cell? ⟨w.heap.size + 2, 0, none⟩ = some (.slice A5 n5 c5) := (k1.cell (p := ⟨w.heap.size + 2, 0, none⟩) (by simp)).trans (by rw [World.cell?_alloc_at _ _ _ _ (by simp)]; simp)
  cases hf : decide (n1 ≤ 40 ∧ n2 ≤ 40 ∧ n3 ≤ 40) with
  | false =>
    have HE := Lib.hid (show few05 n1 n2 n3 n4 n5 = false by unfold few05; rw [hf]; rfl)
    clear hf
    go_wp2
    go_ret
    exact ⟨ret_bool HE.out.symm, kw1⟩
  | true =>
    by_cases h4 : n4 ≤ 40
    · have d4 : decide ((n4 : Int) ≤ 40) = true := decide_eq_true (by omega)
      by_cases h5 : n5 ≤ 40
      · have d5 : decide ((n5 : Int) ≤ 40) = true := decide_eq_true (by omega)
        have HE := Lib.hid (show few05 n1 n2 n3 n4 n5 = true by unfold few05; rw [hf]; simp [h4, h5])
        clear hf
        go_wp2
        go_ret
        exact ⟨ret_bool HE.out.symm, kw1⟩
      · have d5 : decide ((n5 : Int) ≤ 40) = false := decide_eq_false (by omega)
        have HE := Lib.hid (show few05 n1 n2 n3 n4 n5 = false by unfold few05; rw [hf]; simp [h5])
        clear hf
        go_wp2
        go_ret
        exact ⟨ret_bool HE.out.symm, kw1⟩
    · have d4 : decide ((n4 : Int) ≤ 40) = false := decide_eq_false (by omega)
      have HE := Lib.hid (show few05 n1 n2 n3 n4 n5 = false by unfold few05; rw [hf]; simp [h4])
      clear hf
      go_wp2
      go_ret
      exact ⟨ret_bool HE.out.symm, kw1⟩
theorem recs_one {α : Type} {cells : α → List Value} {size : Nat} (w : World) (y : α) (t : TypeId) {g : Nat} (hg : g = w.heap.size) : Recs size cells (w.alloc (.cells (cells y).toArray t)) (g + 1) (some ⟨g, 0, none⟩) [y] := by
  subst hg
  refine .inr ⟨w.heap.size, 0, rfl, by omega, fun i hi j u hu => ?_⟩
  obtain rfl : i = 0 := by simpa using hi
  simp at hu ⊢
  exact hu
theorem Out.alloc {α : Type} {size : Nat} {cells : α → List Value} {w : World} {xs : List α} {A : Option Addr} {c : Nat} (h : Out size cells w xs A c) (o : Obj) : Out size cells (w.alloc o) xs A c :=
  ⟨h.1, h.2.1, h.2.2.1, (h.2.2.2.below ((Below.refl _ w).alloc (Nat.le_refl _) o) (Nat.le_refl _)).more (by simp)⟩
def upPod : PodD := ⟨1, 0, 0, ⟨0, 0, 0, 0⟩, 0⟩
def upNode : NodeD := ⟨3, 1, ⟨0, 0, 0, 0⟩, ⟨0, 0, 0, 0⟩⟩
theorem up_none : makeD [] [] noState ⟨1, 1, 0, 0⟩ = (noState, 4) := by rfl
theorem up_some : makeD [upNode] [] ⟨[upPod], 0, 0⟩ ⟨1, 1, 3, 0⟩ = (⟨[⟨1, 0, 0, ⟨0, 0, 0, 0⟩, 3⟩], 0, 0⟩, 0) := by rfl
end Go.Proofs.YtmcpjebcffgboaaDoor

/- The head of layer 3's statements, and the law ClusterFewer, walked, from what cluster.Check and cluster.Fair come to. -/
namespace Go.Proofs.YtmcpjebcffgboaaDoor
set_option linter.unusedSimpArgs false
open Go.RowKit
set_option linter.unusedVariables false

def SnapD.Ok (s : SnapD) : Prop := (∀ a ∈ s.nodes, a.Ok) ∧ (∀ a ∈ s.loads, a.Ok) ∧ (∀ a ∈ s.pods, a.Ok)
theorem errIs_none {B : Nat} {w : World} {u : Value} {p : Int × Int} (h : ErrIs p B w u) (hp : p.1 = 0) (h2 : p.2 = -1) : u = .nilIface := by
  rcases h with ⟨_, h⟩ | ⟨_, h, _⟩ | ⟨k, g, h, _⟩
  · exact h
  · omega
  · omega
theorem errIs_self {B : Nat} {w : World} {u : Value} {p : Int × Int} (h : ErrIs p B w u) (hp : p.1 ≠ 0) (h2 : p.2 = -1) : u = .iface 59 (.int .i64 p.1) := by
  rcases h with ⟨h, _⟩ | ⟨_, _, _, h⟩ | ⟨k, g, h, _⟩
  · rw [h] at hp; simp at hp
  · exact h
  · omega
theorem errIs_spot {B : Nat} {w : World} {u : Value} {p : Int × Int} (h : ErrIs p B w u) {k : Nat} (h2 : p.2 = k) : ∃ g, u = .iface 71 (.pointer (some ⟨g, 0, none⟩)) ∧ w.heap[g]? = some (.cells #[.int .i64 (k : Int), .int .i64 p.1] 73 (0, 0)) := by
  rcases h with ⟨h, _⟩ | ⟨h, _⟩ | ⟨k', g, h, h3, _, h4⟩
  · rw [h] at h2; exact absurd h2 (by simp)
  · omega
  · obtain rfl : k = k' := by omega
    exact ⟨g, h3, h4⟩
theorem errIs_some {B : Nat} {w : World} {u : Value} {p : Int × Int} (h : ErrIs p B w u) (hp : p.1 ≠ 0) : ∃ t v, u = .iface t v := by
  rcases h with ⟨h, _⟩ | ⟨_, _, _, h⟩ | ⟨k, g, h, h3, _⟩
  · rw [h] at hp; simp at hp
  · exact ⟨_, _, h⟩
  · exact ⟨_, _, h3⟩

theorem flat_at : ∀ (xs : List NodeD) (i : Nat) (h : i < xs.length) (j : Nat) (u : Value), (cellsN xs[i])[j]? = some u → (xs.flatMap cellsN)[i * 10 + j]? = some u
  | [], i, h, _, _, _ => by simp at h
  | x :: r, 0, _, j, u, hu => by
    have hj : j < (cellsN x).length := (List.getElem?_eq_some_iff.1 hu).1
    simp only [List.flatMap_cons, Nat.zero_mul, Nat.zero_add]
    rw [List.getElem?_append_left hj]
    exact hu
  | x :: r, i + 1, h, j, u, hu => by
    have hl : (cellsN x).length = 10 := rfl
    simp only [List.flatMap_cons]
    rw [List.getElem?_append_right (by rw [hl]; omega), hl, show (i + 1) * 10 + j - 10 = i * 10 + j by omega]
    exact flat_at r i (by simpa using h) j u hu
theorem recs_new (w : World) (t : TypeId) (xs : List NodeD) (cs : Array Value) (hc : cs = (xs.flatMap cellsN).toArray) : Recs 10 cellsN (w.alloc (.cells cs t)) (w.heap.size + 1) (some ⟨w.heap.size, 0, none⟩) xs := by
  refine .inr ⟨w.heap.size, 0, rfl, by omega, fun i hi j u hu => ?_⟩
  have h1 := flat_at xs i hi j u hu
  rw [World.cell?_alloc_at _ _ _ _ rfl, hc]
  simpa using h1
def z4 : V4 := ⟨0, 0, 0, 0⟩
def nd3 : NodeD := ⟨3, 1, z4, z4⟩
theorem z4_ok : z4.Ok := ⟨⟨by decide, by decide⟩, ⟨by decide, by decide⟩, ⟨by decide, by decide⟩, ⟨by decide, by decide⟩⟩
theorem nd3_ok : nd3.Ok := ⟨⟨by decide, by decide⟩, ⟨by decide, by decide⟩, z4_ok, z4_ok⟩
theorem check_0 : check ⟨[], [], []⟩ = (3, -1) := by decide
theorem check_1 : check ⟨[nd3], [], []⟩ = (0, -1) := by decide
theorem check_2 : check ⟨[nd3, nd3], [], []⟩ = (5, 1) := by decide

/-- ClusterFewer: what may be has with fewer pods what may be. -/
theorem ok_fewer {s : SnapD} (h : s.Ok) (n : Nat) : SnapD.Ok { s with pods := s.pods.take n } := ⟨h.1, h.2.1, fun a ha => h.2.2 a (List.mem_of_mem_take ha)⟩
end Go.Proofs.YtmcpjebcffgboaaDoor

/- The head of layer 7's laws: the document's example, and two pods that clash. -/
namespace Go.Proofs.YtmcpjebcffgboaaDoor
set_option linter.unusedSimpArgs false
open Go.RowKit
set_option linter.unusedVariables false

theorem recs_newG {α : Type} {size : Nat} {cells : α → List Value} (hc : ∀ x, (cells x).length = size) (w : World) (t : TypeId) (xs : List α) (cs : Array Value) (hcs : cs = (xs.flatMap cells).toArray) {g : Nat} (hg : g = w.heap.size) : Recs size cells (w.alloc (.cells cs t)) (g + 1) (some ⟨g, 0, none⟩) xs := by
  subst hcs hg
  refine .inr ⟨w.heap.size, 0, rfl, by omega, fun i hi j u hu => ?_⟩
  have hj : j < size := by have := (List.getElem?_eq_some_iff.1 hu).1; rwa [hc] at this
  have h2 := flatMap_get (size := size) hc hi hj
  rw [hu] at h2
  simpa using h2
def upL7 : LoadD := ⟨2, true, 0, 0, 0⟩
def upP7 : PodD := ⟨1, 2, 0, ⟨0, 0, 0, 0⟩, 3⟩
def upQ7 : PodD := ⟨4, 2, 0, ⟨0, 0, 0, 0⟩, 3⟩
theorem up7_none : apartOf [upL7] [] = (0, -1) := by decide
theorem up7_two : apartOf [upL7] [upP7, upQ7] = (10, 1) := by decide
theorem up7_clash : clashOf [upL7] [upP7, upQ7] 1 = 4 := by decide

end Go.Proofs.YtmcpjebcffgboaaDoor

namespace Go.Proofs.YtmcpjebcffgboaaDoor
set_option linter.unusedSimpArgs false
open Go.RowKit
set_option linter.unusedVariables false

def upN8 : NodeD := ⟨3, 1, ⟨0, 0, 0, 0⟩, ⟨0, 0, 0, 0⟩⟩
def upM8 : NodeD := ⟨4, 2, ⟨0, 0, 0, 0⟩, ⟨0, 0, 0, 0⟩⟩
def upL8 : LoadD := ⟨2, false, 1, 0, 0⟩
def upP8 : PodD := ⟨1, 2, 0, ⟨0, 0, 0, 0⟩, 3⟩
def upQ8 : PodD := ⟨4, 2, 0, ⟨0, 0, 0, 0⟩, 3⟩
theorem up8_none : spreadOf [upN8, upM8] [upL8] [] = (0, -1) := by decide
theorem up8_two : spreadOf [upN8, upM8] [upL8] [upP8, upQ8] = (11, 0) := by decide
theorem up8_count : countD [upN8, upM8] 2 1 [upP8, upQ8] = 2 := by decide

set_option maxHeartbeats 6400000 in
set_option maxRecDepth 100000 in
theorem up08_any (w : World) (hg : Laid w) : Calls Tryd.prog 5 #[] w fun e w' => e = .returned (.bool true) ∧ Below w.heap.size w w' := by
  have hrn := recs_newG (cells := cellsN) (size := 10) (fun _ => rfl) w 41 [upN8, upM8] #[.int .i64 3, .int .i64 1, .int .u64 0, .int .u64 0, .int .u64 0, .int .u64 0, .int .u64 0, .int .u64 0, .int .u64 0, .int .u64 0, .int .i64 4, .int .i64 2, .int .u64 0, .int .u64 0, .int .u64 0, .int .u64 0, .int .u64 0, .int .u64 0, .int .u64 0, .int .u64 0] rfl rfl
  have hrl := recs_newG (cells := cellsL) (size := 5) (fun _ => rfl) (w.alloc (.cells #[.int .i64 3, .int .i64 1, .int .u64 0, .int .u64 0, .int .u64 0, .int .u64 0, .int .u64 0, .int .u64 0, .int .u64 0, .int .u64 0, .int .i64 4, .int .i64 2, .int .u64 0, .int .u64 0, .int .u64 0, .int .u64 0, .int .u64 0, .int .u64 0, .int .u64 0, .int .u64 0] 41)) 56 [upL8] #[.int .i64 2, .bool false, .int .i64 1, .int .i64 0, .int .i64 0] rfl (g := w.heap.size + 1) (by simp)
  have hb2 : Below w.heap.size w (((w.alloc (.cells #[.int .i64 3, .int .i64 1, .int .u64 0, .int .u64 0, .int .u64 0, .int .u64 0, .int .u64 0, .int .u64 0, .int .u64 0, .int .u64 0, .int .i64 4, .int .i64 2, .int .u64 0, .int .u64 0, .int .u64 0, .int .u64 0, .int .u64 0, .int .u64 0, .int .u64 0, .int .u64 0] 41)).alloc (.cells #[.int .i64 2, .bool false, .int .i64 1, .int .i64 0, .int .i64 0] 56)).alloc (.cells #[.slice (some ⟨w.heap.size, 0, none⟩) 2 2, .slice (some ⟨w.heap.size + 1, 0, none⟩) 1 1, .slice none 0 0] 26)) := (below_two w (.cells #[.int .i64 3, .int .i64 1, .int .u64 0, .int .u64 0, .int .u64 0, .int .u64 0, .int .u64 0, .int .u64 0, .int .u64 0, .int .u64 0, .int .i64 4, .int .i64 2, .int .u64 0, .int .u64 0, .int .u64 0, .int .u64 0, .int .u64 0, .int .u64 0, .int .u64 0, .int .u64 0] 41) (.cells #[.int .i64 2, .bool false, .int .i64 1, .int .i64 0, .int .i64 0] 56)).alloc (by first | (simp; done) | (simp; omega)) _
  have hB : Bf (((w.alloc (.cells #[.int .i64 3, .int .i64 1, .int .u64 0, .int .u64 0, .int .u64 0, .int .u64 0, .int .u64 0, .int .u64 0, .int .u64 0, .int .u64 0, .int .i64 4, .int .i64 2, .int .u64 0, .int .u64 0, .int .u64 0, .int .u64 0, .int .u64 0, .int .u64 0, .int .u64 0, .int .u64 0] 41)).alloc (.cells #[.int .i64 2, .bool false, .int .i64 1, .int .i64 0, .int .i64 0] 56)).alloc (.cells #[.slice (some ⟨w.heap.size, 0, none⟩) 2 2, .slice (some ⟨w.heap.size + 1, 0, none⟩) 1 1, .slice none 0 0] 26)) (w.heap.size + 2) [.slice (some ⟨w.heap.size, 0, none⟩) 2 2, .slice (some ⟨w.heap.size + 1, 0, none⟩) 1 1, .slice none 0 0] :=
    Bf.new ((w.alloc (.cells #[.int .i64 3, .int .i64 1, .int .u64 0, .int .u64 0, .int .u64 0, .int .u64 0, .int .u64 0, .int .u64 0, .int .u64 0, .int .u64 0, .int .i64 4, .int .i64 2, .int .u64 0, .int .u64 0, .int .u64 0, .int .u64 0, .int .u64 0, .int .u64 0, .int .u64 0, .int .u64 0] 41)).alloc (.cells #[.int .i64 2, .bool false, .int .i64 1, .int .i64 0, .int .i64 0] 56)) _ _ (by simp)
  have hrn' := (hrn.below ((Below.refl _ _).alloc (Nat.le_refl _) (.cells #[.int .i64 2, .bool false, .int .i64 1, .int .i64 0, .int .i64 0] 56)) (by simp)).below ((Below.refl _ _).alloc (Nat.le_refl _) (.cells #[.slice (some ⟨w.heap.size, 0, none⟩) 2 2, .slice (some ⟨w.heap.size + 1, 0, none⟩) 1 1, .slice none 0 0] 26)) (by first | (simp; done) | (simp; omega))
  have hrl' := hrl.below ((Below.refl _ _).alloc (Nat.le_refl _) (.cells #[.slice (some ⟨w.heap.size, 0, none⟩) 2 2, .slice (some ⟨w.heap.size + 1, 0, none⟩) 1 1, .slice none 0 0] 26)) (by simp)
  have hsz : (((w.alloc (.cells #[.int .i64 3, .int .i64 1, .int .u64 0, .int .u64 0, .int .u64 0, .int .u64 0, .int .u64 0, .int .u64 0, .int .u64 0, .int .u64 0, .int .i64 4, .int .i64 2, .int .u64 0, .int .u64 0, .int .u64 0, .int .u64 0, .int .u64 0, .int .u64 0, .int .u64 0, .int .u64 0] 41)).alloc (.cells #[.int .i64 2, .bool false, .int .i64 1, .int .i64 0, .int .i64 0] 56)).alloc (.cells #[.slice (some ⟨w.heap.size, 0, none⟩) 2 2, .slice (some ⟨w.heap.size + 1, 0, none⟩) 1 1, .slice none 0 0] 26)).heap.size = w.heap.size + 3 := by simp
  clear hrn hrl
  go_enter Tryd.func5, Tryd.ntmps5
  go_upto_region 2 with fail
  generalize hW : (((w.alloc (.cells #[.int .i64 3, .int .i64 1, .int .u64 0, .int .u64 0, .int .u64 0, .int .u64 0, .int .u64 0, .int .u64 0, .int .u64 0, .int .u64 0, .int .i64 4, .int .i64 2, .int .u64 0, .int .u64 0, .int .u64 0, .int .u64 0, .int .u64 0, .int .u64 0, .int .u64 0, .int .u64 0] 41)).alloc (.cells #[.int .i64 2, .bool false, .int .i64 1, .int .i64 0, .int .i64 0] 56)).alloc (.cells #[.slice (some ⟨w.heap.size, 0, none⟩) 2 2, .slice (some ⟨w.heap.size + 1, 0, none⟩) 1 1, .slice none 0 0] 26)) = W at *
  clear hW
  have HSZ := Lib.hid hsz
  have HB0 := Lib.hid hb2
  have HBB := Lib.hid hB
  have HRN := Lib.hid hrn'
  have HRL := Lib.hid hrl'
  generalize hgs : w.heap.size + 2 = gs at *
  have HGS := Lib.hid hgs
  clear hgs
  generalize hl : w.heap.size + 1 = gl at *
  generalize hn : w.heap.size = gn at *
  have HGL := Lib.hid hl
  clear hsz hb2 hB hrn' hrl' hl
  have hr2 := recs_newG (cells := cellsP) (size := 8) (fun _ => rfl) W 45 [upP8, upQ8] #[.int .i64 1, .int .i64 2, .int .i64 0, .int .u64 0, .int .u64 0, .int .u64 0, .int .u64 0, .int .i64 3, .int .i64 4, .int .i64 2, .int .i64 0, .int .u64 0, .int .u64 0, .int .u64 0, .int .u64 0, .int .i64 3] rfl rfl
  have hr2' := hr2.below ((Below.refl _ _).alloc (Nat.le_refl _) (.cells #[.slice (some ⟨W.heap.size, 0, none⟩) 2 2, .int .i64 0, .int .i64 0] 28)) (by simp)
  have hB2 : Bf ((W.alloc (.cells #[.int .i64 1, .int .i64 2, .int .i64 0, .int .u64 0, .int .u64 0, .int .u64 0, .int .u64 0, .int .i64 3, .int .i64 4, .int .i64 2, .int .i64 0, .int .u64 0, .int .u64 0, .int .u64 0, .int .u64 0, .int .i64 3] 45)).alloc (.cells #[.slice (some ⟨W.heap.size, 0, none⟩) 2 2, .int .i64 0, .int .i64 0] 28)) (W.heap.size + 1) [.slice (some ⟨W.heap.size, 0, none⟩) 2 2, .int .i64 0, .int .i64 0] := Bf.new (W.alloc (.cells #[.int .i64 1, .int .i64 2, .int .i64 0, .int .u64 0, .int .u64 0, .int .u64 0, .int .u64 0, .int .i64 3, .int .i64 4, .int .i64 2, .int .i64 0, .int .u64 0, .int .u64 0, .int .u64 0, .int .u64 0, .int .i64 3] 45)) _ _ (by simp)
  have hb3 := below_two W (.cells #[.int .i64 1, .int .i64 2, .int .i64 0, .int .u64 0, .int .u64 0, .int .u64 0, .int .u64 0, .int .i64 3, .int .i64 4, .int .i64 2, .int .i64 0, .int .u64 0, .int .u64 0, .int .u64 0, .int .u64 0, .int .i64 3] 45) (.cells #[.slice (some ⟨W.heap.size, 0, none⟩) 2 2, .int .i64 0, .int .i64 0] 28)
  have hsz2 : ((W.alloc (.cells #[.int .i64 1, .int .i64 2, .int .i64 0, .int .u64 0, .int .u64 0, .int .u64 0, .int .u64 0, .int .i64 3, .int .i64 4, .int .i64 2, .int .i64 0, .int .u64 0, .int .u64 0, .int .u64 0, .int .u64 0, .int .i64 3] 45)).alloc (.cells #[.slice (some ⟨W.heap.size, 0, none⟩) 2 2, .int .i64 0, .int .i64 0] 28)).heap.size = W.heap.size + 2 := by simp
  clear hr2
  go_upto_region 3 with fail
  generalize hX : ((W.alloc (.cells #[.int .i64 1, .int .i64 2, .int .i64 0, .int .u64 0, .int .u64 0, .int .u64 0, .int .u64 0, .int .i64 3, .int .i64 4, .int .i64 2, .int .i64 0, .int .u64 0, .int .u64 0, .int .u64 0, .int .u64 0, .int .i64 3] 45)).alloc (.cells #[.slice (some ⟨W.heap.size, 0, none⟩) 2 2, .int .i64 0, .int .i64 0] 28)) = X at *
  clear hX
  generalize hg1 : W.heap.size + 1 = gt at *
  generalize hg2 : W.heap.size = gp at *
  have HK : Hid (Below gn w X) := HB0.out.trans (hb3.mono (by have := HSZ.out; omega))
  have HBS : Hid (Bf X gs [.slice (some ⟨gn, 0, none⟩) 2 2, .slice (some ⟨gl, 0, none⟩) 1 1, .slice none 0 0]) := HBB.out.below hb3 (by have := HBB.out.lt; omega)
  have HBT := Lib.hid hB2
  have HX0 : Hid (∀ V, Below X.heap.size X V → Recs 10 cellsN V V.heap.size (some ⟨gn, 0, none⟩) [upN8, upM8]) := fun V hV => ((HRN.out.below hb3 (by have := HSZ.out; have := HGS.out; have := HGL.out; omega)).below hV (by have := hsz2; have := HSZ.out; have := HGS.out; have := HGL.out; omega)).more (by have := hV.size; have := hsz2; have := HSZ.out; have := HGS.out; have := HGL.out; omega)
  have HX1 : Hid (∀ V, Below X.heap.size X V → Recs 5 cellsL V V.heap.size (some ⟨gl, 0, none⟩) [upL8]) := fun V hV => ((HRL.out.below hb3 (by have := HSZ.out; have := HGS.out; have := HGL.out; omega)).below hV (by have := hsz2; have := HSZ.out; have := HGS.out; have := HGL.out; omega)).more (by have := hV.size; have := hsz2; have := HSZ.out; have := HGS.out; have := HGL.out; omega)
  have HX2 : Hid (∀ V, Below X.heap.size X V → Recs 8 cellsP V V.heap.size (some ⟨gp, 0, none⟩) [upP8, upQ8]) := fun V hV => (hr2'.below hV (by have := hsz2; omega)).more (by have := hV.size; have := hsz2; omega)
  have HG : Hid (∀ V, Below X.heap.size X V → Laid V) := fun V hV => Laid.below (Laid.below hg HK.out (by omega)) hV (Nat.le_refl _)
  have H1 : Hid (∀ V, Below X.heap.size X V → Calls Tryd.prog 12 #[.agg #[.slice (some ⟨gn, 0, none⟩) 2 2, .slice (some ⟨gl, 0, none⟩) 1 1, .slice none 0 0], .agg #[.slice none 0 0, .int .i64 0, .int .i64 0]] V fun e w' => e = .returned .nilIface ∧ Below V.heap.size V w') := fun V hV => by
    have h := spreadCheck_any [upN8, upM8] [upL8] [] (some ⟨gn, 0, none⟩) (some ⟨gl, 0, none⟩) none 2 2 1 1 0 0 (.slice none 0 0) (.int .i64 0) (.int .i64 0) V rfl (by omega) (HX0.out V hV) rfl (by omega) (HX1.out V hV) rfl (by omega) Recs.nil
    rw [up8_none] at h
    exact h.mono fun e w' ⟨u, he, hu, hb⟩ => ⟨by rw [he, errIs_none hu rfl rfl], hb⟩
  have H2 : Hid (∀ V, Below X.heap.size X V → Calls Tryd.prog 8 #[.agg #[.slice (some ⟨gn, 0, none⟩) 2 2, .slice (some ⟨gl, 0, none⟩) 1 1, .slice none 0 0], .agg #[.slice (some ⟨gp, 0, none⟩) 2 2, .int .i64 0, .int .i64 0], .int .i64 2, .int .i64 1] V fun e w' => e = .returned (.int .i64 2) ∧ Below V.heap.size V w') := fun V hV => by
    have h := count_any [upN8, upM8] [upP8, upQ8] 2 1 (some ⟨gn, 0, none⟩) (some ⟨gp, 0, none⟩) 2 2 2 2 (.slice (some ⟨gl, 0, none⟩) 1 1) (.slice none 0 0) (.int .i64 0) (.int .i64 0) V rfl (by omega) (HX0.out V hV) rfl (by omega) (HX2.out V hV)
    rw [up8_count] at h
    exact h
  have H3 : Hid (∀ V, Below X.heap.size X V → Calls Tryd.prog 12 #[.agg #[.slice (some ⟨gn, 0, none⟩) 2 2, .slice (some ⟨gl, 0, none⟩) 1 1, .slice none 0 0], .agg #[.slice (some ⟨gp, 0, none⟩) 2 2, .int .i64 0, .int .i64 0]] V fun e w' => ∃ g : Nat, e = .returned (.iface 71 (.pointer (some ⟨g, 0, none⟩))) ∧ w'.heap[g]? = some (.cells #[.int .i64 0, .int .i64 11] 73 (0, 0)) ∧ Below V.heap.size V w') := fun V hV => by
    have h := spreadCheck_any [upN8, upM8] [upL8] [upP8, upQ8] (some ⟨gn, 0, none⟩) (some ⟨gl, 0, none⟩) (some ⟨gp, 0, none⟩) 2 2 1 1 2 2 (.slice none 0 0) (.int .i64 0) (.int .i64 0) V rfl (by omega) (HX0.out V hV) rfl (by omega) (HX1.out V hV) rfl (by omega) (HX2.out V hV)
    rw [up8_two] at h
    refine h.mono fun e w' ⟨u, he, hu, hb⟩ => ?_
    obtain ⟨g, hg1, hg2⟩ := errIs_spot hu (k := 0) rfl
    exact ⟨g, by rw [he, hg1], hg2, hb⟩
  have HGW : Hid (gn = w.heap.size) := hn.symm
  clear hg hn hg1 hg2 hb3 hr2' hB2 hsz2 HSZ HGS HGL HB0 HBB HRN HRL HX0 HX1 HX2
  obtain ⟨a0, a1, a2, a3⟩ := HBS.out.cells3
  obtain ⟨b0, b1, b2, b3⟩ := HBT.out.cells3
  go_wp2_with fail
  refine (H1.out _ (Below.refl _ _)).mono ?_
  rintro e w1 ⟨rfl, hb1⟩
  have HK1 := Lib.hid hb1
  clear a0 a1 a2 a3 b0 b1 b2 b3 hb1
  obtain ⟨a0, a1, a2, a3⟩ := (HBS.out.below HK1.out HBS.out.lt).cells3
  obtain ⟨b0, b1, b2, b3⟩ := (HBT.out.below HK1.out HBT.out.lt).cells3
  go_wp2_with fail
  refine (H2.out _ HK1.out).mono ?_
  rintro e w2 ⟨rfl, hb2⟩
  have HK2 := Lib.hid (HK1.out.trans (hb2.mono HK1.out.size))
  clear a0 a1 a2 a3 b0 b1 b2 b3 hb2
  obtain ⟨a0, a1, a2, a3⟩ := (HBS.out.below HK2.out HBS.out.lt).cells3
  obtain ⟨b0, b1, b2, b3⟩ := (HBT.out.below HK2.out HBT.out.lt).cells3
  go_wp2_with fail
  refine (H3.out _ HK2.out).mono ?_
  rintro e w3 ⟨g, rfl, hgg, hb3⟩
  have HK3 := Lib.hid (HK2.out.trans (hb3.mono HK2.out.size))
  have HI := Lib.hid (Is_yes g 0 11 w3 (HG.out w3 HK3.out) hgg)
  clear a0 a1 a2 a3 b0 b1 b2 b3 hb3 hgg
  go_wp2_with fail
  refine HI.out.mono ?_
  rintro e w4 ⟨rfl, hb4⟩
  have HK4 := Lib.hid (HK3.out.trans (hb4.mono HK3.out.size))
  clear hb4
  go_wp2
  go_ret
  have hfin := HK.out.trans (HK4.out.mono (show gn ≤ X.heap.size by have := HK.out.size; have := HGW.out; omega))
  rw [HGW.out] at hfin
  exact ⟨rfl, hfin⟩
end Go.Proofs.YtmcpjebcffgboaaDoor
