/- Joined texts, part 11: UK CH BP OP OW. -/
import Derived.Test.YtbhlmbfhmknanaaDoorZ05
import Derived.Test.YtbhlmbfhmknanaaDoorZ02
import Derived.Test.YtbhlmbfhmknanaaDoorZ01
import Derived.Test.YtbhlmbfhmknanaaDoorZ10
import Derived.Deep.CutRange

/- The heads of layer 5's laws: few of all, and the document's examples. -/
namespace Go.Proofs.YtbhlmbfhmknanaaDoor
set_option linter.unusedSimpArgs false
open Go.RowKit
set_option linter.unusedVariables false

def few05 (n1 n2 n3 nx nt : Nat) : Bool := decide (n1 ≤ 40 ∧ n2 ≤ 40 ∧ n3 ≤ 40) && (decide (nx ≤ 40) && decide (nt ≤ 40))
set_option maxHeartbeats 1600000 in
theorem few05_any (A1 A2 A3 A4 A5 : Option Addr) (n1 c1 n2 c2 n3 c3 n4 c4 n5 c5 : Nat) (v1 v2 u1 u2 : Value) (w : World) :
    Calls Tryd.prog 6 #[.agg #[.slice A1 n1 c1, .slice A2 n2 c2, .slice A3 n3 c3], .agg #[.slice A4 n4 c4, v1, v2], .agg #[.slice A5 n5 c5, u1, u2]] w fun e w' => e = .returned (.bool (few05 n1 n2 n3 n4 n5)) ∧ Below w.heap.size w w' := by
  have b00 := below_three w (.cells #[.slice A1 n1 c1, .slice A2 n2 c2, .slice A3 n3 c3] 26) (.cells #[.slice A4 n4 c4, v1, v2] 29) (.cells #[.slice A5 n5 c5, u1, u2] 31)
  go_enter Tryd.func6, Tryd.ntmps6
  go_wp2_with fail
  refine (few_any _ _ _ _ _ _ _ _ _ _).mono ?_
  rintro e w1 ⟨rfl, hb1⟩
  have k1 : Below (w.heap.size + 3) _ w1 := hb1.mono (by simp)
  have kw1 := b00.trans (k1.mono (by omega))
  have a3 : w1.cell? ⟨w.heap.size + 1, 0, none⟩ = some (.slice A4 n4 c4) := (k1.cell (p := ⟨w.heap.size + 1, 0, none⟩) (by simp)).trans (by rw [World.cell?_alloc_lt _ _ _ (by simp)]; simp)
  have a4 : w1.cell? ⟨w.heap.size + 2, 0, none⟩ = some (.slice A5 n5 c5) := (k1.cell (p := ⟨w.heap.size + 2, 0, none⟩) (by simp)).trans (by rw [World.cell?_alloc_at _ _ _ _ (by simp)]; simp)
  cases hf : decide (n1 ≤ 40 ∧ n2 ≤ 40 ∧ n3 ≤ 40) with
  | false =>
    have HE := Lib.hid (show few05 n1 n2 n3 n4 n5 = false by unfold few05; rw [hf]; rfl)
    clear hf
    go_wp2
    go_ret
    exact ⟨ret_bool HE.out.symm, kw1⟩
  | true =>
    by_cases h4 : n4 ≤ 40
    · have d4 : decide ((n4 : Int) ≤ 40) = true := decide_eq_true (by omega)
      by_cases h5 : n5 ≤ 40
      · have d5 : decide ((n5 : Int) ≤ 40) = true := decide_eq_true (by omega)
        have HE := Lib.hid (show few05 n1 n2 n3 n4 n5 = true by unfold few05; rw [hf]; simp [h4, h5])
        clear hf
        go_wp2
        go_ret
        exact ⟨ret_bool HE.out.symm, kw1⟩
      · have d5 : decide ((n5 : Int) ≤ 40) = false := decide_eq_false (by omega)
        have HE := Lib.hid (show few05 n1 n2 n3 n4 n5 = false by unfold few05; rw [hf]; simp [h5])
        clear hf
        go_wp2
        go_ret
        exact ⟨ret_bool HE.out.symm, kw1⟩
    · have d4 : decide ((n4 : Int) ≤ 40) = false := decide_eq_false (by omega)
      have HE := Lib.hid (show few05 n1 n2 n3 n4 n5 = false by unfold few05; rw [hf]; simp [h4])
      clear hf
      go_wp2
      go_ret
      exact ⟨ret_bool HE.out.symm, kw1⟩
theorem recs_one {α : Type} {cells : α → List Value} {size : Nat} (w : World) (y : α) (t : TypeId) {g : Nat} (hg : g = w.heap.size) : Recs size cells (w.alloc (.cells (cells y).toArray t)) (g + 1) (some ⟨g, 0, none⟩) [y] := by
  subst hg
  refine .inr ⟨w.heap.size, 0, rfl, by omega, fun i hi j u hu => ?_⟩
  obtain rfl : i = 0 := by simpa using hi
  simp at hu ⊢
  exact hu
theorem Out.alloc {α : Type} {size : Nat} {cells : α → List Value} {w : World} {xs : List α} {A : Option Addr} {c : Nat} (h : Out size cells w xs A c) (o : Obj) : Out size cells (w.alloc o) xs A c :=
  ⟨h.1, h.2.1, h.2.2.1, (h.2.2.2.below ((Below.refl _ w).alloc (Nat.le_refl _) o) (Nat.le_refl _)).more (by simp)⟩
def upPod : PodD := ⟨1, 0, 0, ⟨0, 0, 0, 0⟩, 0⟩
def upNode : NodeD := ⟨3, 1, ⟨0, 0, 0, 0⟩, ⟨0, 0, 0, 0⟩⟩
theorem up_none : makeD [] [] noState ⟨1, 1, 0, 0⟩ = (noState, 4) := by rfl
theorem up_some : makeD [upNode] [] ⟨[upPod], 0, 0⟩ ⟨1, 1, 3, 0⟩ = (⟨[⟨1, 0, 0, ⟨0, 0, 0, 0⟩, 3⟩], 0, 0⟩, 0) := by rfl
end Go.Proofs.YtbhlmbfhmknanaaDoor

/- The head of layer 3's statements, and the law ClusterFewer, walked, from what cluster.Check and cluster.Fair come to. -/
namespace Go.Proofs.YtbhlmbfhmknanaaDoor
set_option linter.unusedSimpArgs false
open Go.RowKit
set_option linter.unusedVariables false

def SnapD.Ok (s : SnapD) : Prop := (∀ a ∈ s.nodes, a.Ok) ∧ (∀ a ∈ s.loads, a.Ok) ∧ (∀ a ∈ s.pods, a.Ok)
theorem errIs_none {B : Nat} {w : World} {u : Value} {p : Int × Int} (h : ErrIs p B w u) (hp : p.1 = 0) (h2 : p.2 = -1) : u = .nilIface := by
  rcases h with ⟨_, h⟩ | ⟨_, h, _⟩ | ⟨k, g, h, _⟩
  · exact h
  · omega
  · omega
theorem errIs_self {B : Nat} {w : World} {u : Value} {p : Int × Int} (h : ErrIs p B w u) (hp : p.1 ≠ 0) (h2 : p.2 = -1) : u = .iface 41 (.int .i64 p.1) := by
  rcases h with ⟨h, _⟩ | ⟨_, _, _, h⟩ | ⟨k, g, h, _⟩
  · rw [h] at hp; simp at hp
  · exact h
  · omega
theorem errIs_spot {B : Nat} {w : World} {u : Value} {p : Int × Int} (h : ErrIs p B w u) {k : Nat} (h2 : p.2 = k) : ∃ g, u = .iface 49 (.pointer (some ⟨g, 0, none⟩)) ∧ w.heap[g]? = some (.cells #[.int .i64 (k : Int), .int .i64 p.1] 53 (0, 0)) := by
  rcases h with ⟨h, _⟩ | ⟨h, _⟩ | ⟨k', g, h, h3, _, h4⟩
  · rw [h] at h2; exact absurd h2 (by simp)
  · omega
  · obtain rfl : k = k' := by omega
    exact ⟨g, h3, h4⟩
theorem errIs_some {B : Nat} {w : World} {u : Value} {p : Int × Int} (h : ErrIs p B w u) (hp : p.1 ≠ 0) : ∃ t v, u = .iface t v := by
  rcases h with ⟨h, _⟩ | ⟨_, _, _, h⟩ | ⟨k, g, h, h3, _⟩
  · rw [h] at hp; simp at hp
  · exact ⟨_, _, h⟩
  · exact ⟨_, _, h3⟩

theorem flat_at : ∀ (xs : List NodeD) (i : Nat) (h : i < xs.length) (j : Nat) (u : Value), (cellsN xs[i])[j]? = some u → (xs.flatMap cellsN)[i * 10 + j]? = some u
  | [], i, h, _, _, _ => by simp at h
  | x :: r, 0, _, j, u, hu => by
    have hj : j < (cellsN x).length := (List.getElem?_eq_some_iff.1 hu).1
    simp only [List.flatMap_cons, Nat.zero_mul, Nat.zero_add]
    rw [List.getElem?_append_left hj]
    exact hu
  | x :: r, i + 1, h, j, u, hu => by
    have hl : (cellsN x).length = 10 := rfl
    simp only [List.flatMap_cons]
    rw [List.getElem?_append_right (by rw [hl]; omega), hl, show (i + 1) * 10 + j - 10 = i * 10 + j by omega]
    exact flat_at r i (by simpa using h) j u hu
theorem recs_new (w : World) (t : TypeId) (xs : List NodeD) (cs : Array Value) (hc : cs = (xs.flatMap cellsN).toArray) : Recs 10 cellsN (w.alloc (.cells cs t)) (w.heap.size + 1) (some ⟨w.heap.size, 0, none⟩) xs := by
  refine .inr ⟨w.heap.size, 0, rfl, by omega, fun i hi j u hu => ?_⟩
  have h1 := flat_at xs i hi j u hu
  rw [World.cell?_alloc_at _ _ _ _ rfl, hc]
  simpa using h1
def z4 : V4 := ⟨0, 0, 0, 0⟩
def nd3 : NodeD := ⟨3, 1, z4, z4⟩
theorem z4_ok : z4.Ok := ⟨⟨by decide, by decide⟩, ⟨by decide, by decide⟩, ⟨by decide, by decide⟩, ⟨by decide, by decide⟩⟩
theorem nd3_ok : nd3.Ok := ⟨⟨by decide, by decide⟩, ⟨by decide, by decide⟩, z4_ok, z4_ok⟩
theorem check_0 : check ⟨[], [], []⟩ = (3, -1) := by decide
theorem check_1 : check ⟨[nd3], [], []⟩ = (0, -1) := by decide
theorem check_2 : check ⟨[nd3, nd3], [], []⟩ = (5, 1) := by decide

/-- ClusterFewer: what may be has with fewer pods what may be. -/
theorem ok_fewer {s : SnapD} (h : s.Ok) (n : Nat) : SnapD.Ok { s with pods := s.pods.take n } := ⟨h.1, h.2.1, fun a ha => h.2.2 a (List.mem_of_mem_take ha)⟩
end Go.Proofs.YtbhlmbfhmknanaaDoor

/- The head of layer 7's laws: the document's example, and two pods that clash. -/
namespace Go.Proofs.YtbhlmbfhmknanaaDoor
set_option linter.unusedSimpArgs false
open Go.RowKit
set_option linter.unusedVariables false

theorem recs_newG {α : Type} {size : Nat} {cells : α → List Value} (hc : ∀ x, (cells x).length = size) (w : World) (t : TypeId) (xs : List α) (cs : Array Value) (hcs : cs = (xs.flatMap cells).toArray) {g : Nat} (hg : g = w.heap.size) : Recs size cells (w.alloc (.cells cs t)) (g + 1) (some ⟨g, 0, none⟩) xs := by
  subst hcs hg
  refine .inr ⟨w.heap.size, 0, rfl, by omega, fun i hi j u hu => ?_⟩
  have hj : j < size := by have := (List.getElem?_eq_some_iff.1 hu).1; rwa [hc] at this
  have h2 := flatMap_get (size := size) hc hi hj
  rw [hu] at h2
  simpa using h2
def upL7 : LoadD := ⟨2, true, 0, 0, 0⟩
def upP7 : PodD := ⟨1, 2, 0, ⟨0, 0, 0, 0⟩, 3⟩
def upQ7 : PodD := ⟨4, 2, 0, ⟨0, 0, 0, 0⟩, 3⟩
theorem up7_none : apartOf [upL7] [] = (0, -1) := by decide
theorem up7_two : apartOf [upL7] [upP7, upQ7] = (10, 1) := by decide
theorem up7_clash : clashOf [upL7] [upP7, upQ7] 1 = 4 := by decide

end Go.Proofs.YtbhlmbfhmknanaaDoor

/- The head of layer 11's laws: a load of which there are too few and a budget that is used up; nothing at all is safe. -/
namespace Go.Proofs.YtbhlmbfhmknanaaDoor
set_option linter.unusedSimpArgs false
open Go.RowKit
set_option linter.unusedVariables false

abbrev cellZ (z : Int) : List Value := [.int .i64 z]
theorem flat_cellZ : ∀ zs : List Int, zs.flatMap cellZ = i64s zs
  | [] => rfl
  | z :: r => by rw [List.flatMap_cons, flat_cellZ r]; rfl
theorem recs_codes {w : World} {B n : Nat} {e : TypeId} {v : Value} {zs : List Int} (hn : n = zs.length) (h : w.ownsRow B e 1 v n (i64s zs)) : ∃ A c, v = .slice A n c ∧ Recs 1 cellZ w w.heap.size A zs := by
  subst hn
  obtain ⟨A, c, h1, _, _, _, h2⟩ := recs_of_own (cells := cellZ) (size := 1) (fun _ => rfl) rfl (by rw [flat_cellZ]; exact h)
  exact ⟨A, c, h1, h2⟩
def upL11 : LoadD := ⟨2, false, 0, 1, 1⟩
theorem up11_bad : badK (fiveP [] [upL11] [] 0 0 0 1) 5 5 = [(12, 0), (15, -1)] := by decide
theorem up11_ok : okP (whyP (fiveP [] [] [] 0 0 0 0)) = true := by decide

set_option maxHeartbeats 6400000 in
set_option maxRecDepth 100000 in
theorem up11_any (w : World) (hg : Laid w) : Calls Tryd.prog 5 #[] w fun e w' => e = .returned (.bool true) ∧ Below w.heap.size w w' := by
  have hb1 : Below w.heap.size w (w.alloc (.cells #[.int .i64 2, .bool false, .int .i64 0, .int .i64 1, .int .i64 1] 44)) := (Below.refl _ w).alloc (Nat.le_refl _) _
  have hr1 := recs_newG (cells := cellsL) (size := 5) (fun _ => rfl) w 44 [upL11] #[.int .i64 2, .bool false, .int .i64 0, .int .i64 1, .int .i64 1] rfl rfl
  have hb2 := hb1.alloc (by simp) (.cells #[.slice none 0 0, .slice (some ⟨w.heap.size, 0, none⟩) 1 1, .slice none 0 0] 26)
  have hB : Bf ((w.alloc (.cells #[.int .i64 2, .bool false, .int .i64 0, .int .i64 1, .int .i64 1] 44)).alloc (.cells #[.slice none 0 0, .slice (some ⟨w.heap.size, 0, none⟩) 1 1, .slice none 0 0] 26)) (w.heap.size + 1) [.slice none 0 0, .slice (some ⟨w.heap.size, 0, none⟩) 1 1, .slice none 0 0] :=
    Bf.new (w.alloc (.cells #[.int .i64 2, .bool false, .int .i64 0, .int .i64 1, .int .i64 1] 44)) _ _ (by simp)
  have hr1' := hr1.below ((Below.refl _ _).alloc (Nat.le_refl _) (.cells #[.slice none 0 0, .slice (some ⟨w.heap.size, 0, none⟩) 1 1, .slice none 0 0] 26)) (by simp)
  have hsz : ((w.alloc (.cells #[.int .i64 2, .bool false, .int .i64 0, .int .i64 1, .int .i64 1] 44)).alloc (.cells #[.slice none 0 0, .slice (some ⟨w.heap.size, 0, none⟩) 1 1, .slice none 0 0] 26)).heap.size = w.heap.size + 2 := by simp
  clear hr1 hb1
  go_enter Tryd.func5, Tryd.ntmps5
  go_upto_region 2 with fail
  generalize hX : ((w.alloc (.cells #[.int .i64 2, .bool false, .int .i64 0, .int .i64 1, .int .i64 1] 44)).alloc (.cells #[.slice none 0 0, .slice (some ⟨w.heap.size, 0, none⟩) 1 1, .slice none 0 0] 26)) = X at *
  clear hX
  have HSZ := Lib.hid hsz
  have HK := Lib.hid hb2
  have HBS := Lib.hid hB
  have HR1 := Lib.hid hr1'
  generalize hgs : w.heap.size + 1 = gs at *
  have HGS := Lib.hid hgs
  clear hgs
  generalize hl : w.heap.size = gl at *
  clear hsz hb2 hB hr1'
  have HX1 : Hid (∀ V, Below X.heap.size X V → Recs 5 cellsL V V.heap.size (some ⟨gl, 0, none⟩) [upL11]) := fun V hV => (HR1.out.below hV (by have := HSZ.out; have := HGS.out; omega)).more (by have := hV.size; have := HSZ.out; have := HGS.out; omega)
  have HG : Hid (∀ V, Below X.heap.size X V → Laid V) := fun V hV => Laid.below (Laid.below hg HK.out (by omega)) hV (Nat.le_refl _)
  have H1 : Hid (∀ V, Below X.heap.size X V → Calls Tryd.prog 7 #[.agg #[.slice none 0 0, .slice (some ⟨gl, 0, none⟩) 1 1, .slice none 0 0], .agg #[.slice none 0 0, .int .i64 0, .int .i64 0], .agg #[.slice none 0 0, .int .i64 0, .int .i64 1]] V fun e w' => ∃ b o c, e = .returned (.slice (some ⟨b, o, none⟩) 2 c) ∧ b < w'.heap.size ∧ w'.cell? ⟨b, o, none⟩ = some (.int .i64 12) ∧ w'.cell? ⟨b, o + 1, none⟩ = some (.int .i64 15) ∧ Below V.heap.size V w') := fun V hV => by
    have h := safeAll_any [] [upL11] [] 0 0 0 1 none (some ⟨gl, 0, none⟩) none none none 0 0 1 1 0 0 0 0 0 0 V ⟨HG.out V hV, by simp, by simp, rfl, by decide, Recs.nil, rfl, by decide, HX1.out V hV, rfl, by decide, by decide, Recs.nil⟩
    rw [up11_bad] at h
    refine h.mono fun e w' ⟨v, he, hown, hb⟩ => ?_
    obtain ⟨A, c, hv, hrec⟩ := recs_codes (zs := [12, 15]) rfl hown
    obtain ⟨b, o, hA, hbb, h0⟩ := hrec.at (k := 0) (by decide)
    obtain ⟨b', o', hA', _, h1⟩ := hrec.at (k := 1) (by decide)
    rw [hA] at hA'
    injection hA' with hA'
    injection hA' with hA1 hA2
    subst hA1 hA2
    refine ⟨b, o, c, by rw [he, hv, hA]; rfl, hbb, ?_, ?_, hb⟩
    · simpa using h0 0 _ rfl
    · simpa using h1 0 _ rfl
  have H2 : Hid (∀ V, Below X.heap.size X V → Calls Tryd.prog 10 #[.agg #[.slice none 0 0, .slice none 0 0, .slice none 0 0], .agg #[.slice none 0 0, .int .i64 0, .int .i64 0], .agg #[.slice none 0 0, .int .i64 0, .int .i64 0]] V fun e w' => e = .returned (.bool true) ∧ Below V.heap.size V w') := fun V hV => by
    have h := safeIs_any [] [] [] 0 0 0 0 none none none none none 0 0 0 0 0 0 0 0 0 0 V ⟨HG.out V hV, by simp, by simp, rfl, by decide, Recs.nil, rfl, by decide, Recs.nil, rfl, by decide, by decide, Recs.nil⟩
    rw [up11_ok] at h
    exact h
  have HGW : Hid (gl = w.heap.size) := hl.symm
  clear hg hl HSZ HGS HR1 HX1 HG
  obtain ⟨a0, a1, a2, a3⟩ := HBS.out.cells3
  go_wp2_with fail
  refine (H1.out _ (Below.refl _ _)).mono ?_
  rintro e w1 ⟨b, o, c, rfl, hbb, hc0, hc1, hb1⟩
  have HK1 := Lib.hid hb1
  have HC0 := Lib.hid hc0
  have HC1 := Lib.hid hc1
  clear a0 a1 a2 a3 hb1 hc0 hc1
  go_wp2_with fail
  refine (H2.out _ HK1.out).mono ?_
  rintro e w2 ⟨rfl, hb2⟩
  have HK2 := Lib.hid (HK1.out.trans (hb2.mono HK1.out.size))
  have e0 : w2.cell? ⟨b, o, none⟩ = some (.int .i64 12) := (hb2.cell (p := ⟨b, o, none⟩) hbb).trans HC0.out
  have e1 : w2.cell? ⟨b, o + 1, none⟩ = some (.int .i64 15) := (hb2.cell (p := ⟨b, o + 1, none⟩) hbb).trans HC1.out
  have hbw : b < w2.heap.size := Nat.lt_of_lt_of_le hbb hb2.size
  clear hb2 hbb
  go_wp2
  go_ret
  have hfin := HK.out.trans (HK2.out.mono (show gl ≤ X.heap.size by have := HK.out.size; have := HGW.out; omega))
  exact ⟨rfl, by rw [← HGW.out]; exact hfin⟩
end Go.Proofs.YtbhlmbfhmknanaaDoor

namespace Go.Proofs.YtbhlmbfhmknanaaDoor
set_option linter.unusedSimpArgs false
open Go.RowKit
set_option linter.unusedVariables false

theorem few11 {n1 n2 n3 n4 n5 : Nat} (h : few05 n1 n2 n3 n4 n5 = true) : n1 ≤ 40 ∧ n2 ≤ 40 ∧ n3 ≤ 40 ∧ n4 ≤ 40 ∧ n5 ≤ 40 := by
  simp [few05] at h
  omega
theorem why_nil {ps : List (Int × Int)} (h : badK ps 1 5 = []) : whyP ps = (0, -1) ∧ okP (whyP ps) = true := by
  have e : whyP ps = (0, -1) := by rw [whyP, h]; rfl
  exact ⟨e, by rw [e]; decide⟩
theorem why_one {ps : List (Int × Int)} {p : Int × Int} (h : badK ps 1 5 = [p]) : whyP ps = p := by rw [whyP, h]; rfl
theorem five_len (ns : List NodeD) (ls : List LoadD) (l : List PodD) (x1 x2 t1 t2 : Int) : (fiveP ns ls l x1 x2 t1 t2).length = 5 := rfl

set_option maxHeartbeats 12800000 in
set_option maxRecDepth 100000 in
theorem safeFirst_in (s : SnapD) (x : SpecD) (t : StateD) (hno : ∀ a ∈ s.nodes, a.Ok) (hlo : ∀ a ∈ t.pods, a.Ok) (A1 A2 A3 A4 A5 : Option Addr) (n1 c1 n2 c2 n3 c3 n4 c4 n5 c5 : Nat) (w : World) (hg : Laid w)
    (hn1 : n1 = s.nodes.length) (hr1 : Recs 10 cellsN w w.heap.size A1 s.nodes) (hn2 : n2 = s.loads.length) (hr2 : Recs 5 cellsL w w.heap.size A2 s.loads) (hn4 : n4 = t.pods.length) (hc4 : n4 ≤ c4) (hr4 : Recs 8 cellsP w w.heap.size A4 t.pods) :
    Calls Tryd.prog 3 #[.agg #[.slice A1 n1 c1, .slice A2 n2 c2, .slice A3 n3 c3], .agg #[.slice A5 n5 c5, .int .i64 x.preempts, .int .i64 x.shifts], .agg #[.slice A4 n4 c4, .int .i64 t.preempts, .int .i64 t.shifts]] w fun e w' => e = .returned (.bool true) ∧ Below w.heap.size w w' := by
  have T0 := T3.new w [.slice A1 n1 c1, .slice A2 n2 c2, .slice A3 n3 c3] [.slice A5 n5 c5, .int .i64 x.preempts, .int .i64 x.shifts] [.slice A4 n4 c4, .int .i64 t.preempts, .int .i64 t.shifts] 26 29 31
  have HG := Lib.hid hg
  have HUP := Lib.hid (up11_any _ (Laid.below hg T0.below (Nat.le_refl _)))
  have HS : Hid (n1 ≤ 40 → n2 ≤ 40 → n4 ≤ 40 → SafeArgs s.nodes s.loads t.pods A1 A2 A4 n1 n2 n4 c4 w) := fun l1 l2 l4 => ⟨hg, hno, hlo, hn1, by omega, hr1, hn2, by omega, hr2, hn4, by omega, hc4, hr4⟩
  generalize x.preempts = x1 at *
  generalize x.shifts = x2 at *
  generalize t.preempts = t1 at *
  generalize t.shifts = t2 at *
  clear hg hr1 hr2 hr4 hn1 hn2 hn4 hc4 hno hlo
  go_enter Tryd.func3, Tryd.ntmps3
  go_wp2_with fail
  refine HUP.out.mono ?_
  rintro e w1 ⟨rfl, hb1⟩
  have T1 := T0.keep hb1
  clear hb1 T0 HUP
  obtain ⟨a0, a1, a2, a3⟩ := T1.one.cells3
  obtain ⟨b0, b1, b2, b3⟩ := T1.two.cells3
  obtain ⟨d0, d1, d2, d3⟩ := T1.three.cells3
  go_wp2_with fail
  refine (few05_any _ _ _ _ _ _ _ _ _ _ _ _ _ _ _ _ _ _ _ _).mono ?_
  rintro e w2 ⟨rfl, hb2⟩
  have T2' := T1.keep hb2
  have HK2 := Lib.hid T2'.below
  have HT2 := Lib.hid T2'
  clear hb2 T1 a0 a1 a2 a3 b0 b1 b2 b3 d0 d1 d2 d3
  cases hfew : few05 n1 n2 n3 n5 n4 with
  | false =>
    clear hfew T2'
    go_wp2
    go_ret
    exact ⟨rfl, HK2.out⟩
  | true =>
    obtain ⟨hl1, hl2, hl3, hl5, hl4⟩ := few11 hfew
    have HA := Lib.hid (HS.out hl1 hl2 hl4)
    have HALL := Lib.hid (fun (V : World) (hV : Below w.heap.size w V) => safeAll_any s.nodes s.loads t.pods x1 x2 t1 t2 A1 A2 A3 A4 A5 n1 c1 n2 c2 n3 c3 n4 c4 n5 c5 V (HA.out.at hV))
    have HWHY := Lib.hid (fun (V : World) (hV : Below w.heap.size w V) => safeWhy_any s.nodes s.loads t.pods x1 x2 t1 t2 A1 A2 A3 A4 A5 n1 c1 n2 c2 n3 c3 n4 c4 n5 c5 V (HA.out.at hV))
    have HIS := Lib.hid (fun (V : World) (hV : Below w.heap.size w V) => safeIs_any s.nodes s.loads t.pods x1 x2 t1 t2 A1 A2 A3 A4 A5 n1 c1 n2 c2 n3 c3 n4 c4 n5 c5 V (HA.out.at hV))
    have HONE := Lib.hid (badK_one (fiveP s.nodes s.loads t.pods x1 x2 t1 t2) 5 (by decide))
    rw [five_len] at HONE
    generalize fiveP s.nodes s.loads t.pods x1 x2 t1 t2 = ps at *
    clear hfew hl1 hl2 hl3 hl4 hl5 HS HA
    obtain ⟨a0, a1, a2, a3⟩ := T2'.one.cells3
    obtain ⟨b0, b1, b2, b3⟩ := T2'.two.cells3
    obtain ⟨d0, d1, d2, d3⟩ := T2'.three.cells3
    clear T2'
    go_wp2_with fail
    refine (HALL.out _ HK2.out).mono ?_
    rintro e w3 ⟨v, rfl, hown, hb3⟩
    obtain ⟨A, c, rfl, hrec⟩ := recs_codes (by simp) hown
    have HRC := Lib.hid hrec
    have T3' := HT2.out.keep hb3
    have HT3 := Lib.hid T3'
    have HK3 := Lib.hid T3'.below
    clear hb3 hown hrec HALL HT2 HK2 a0 a1 a2 a3 b0 b1 b2 b3 d0 d1 d2 d3
    obtain ⟨a0, a1, a2, a3⟩ := T3'.one.cells3
    obtain ⟨b0, b1, b2, b3⟩ := T3'.two.cells3
    obtain ⟨d0, d1, d2, d3⟩ := T3'.three.cells3
    clear T3'
    go_wp2_with fail
    refine (HWHY.out _ HK3.out).mono ?_
    rintro e w4 ⟨u, rfl, hu, hb4⟩
    have T4' := HT3.out.keep hb4
    have HOF := Lib.hid (of_any _ _ u w4 hu (Laid.below HG.out T4'.below (Nat.le_refl _)))
    have HRC4 := Lib.hid ((HRC.out.below hb4 (Nat.le_refl _)).more hb4.size)
    have HT4 := Lib.hid T4'
    clear hb4 hu T4' HT3 HK3 HRC a0 a1 a2 a3 b0 b1 b2 b3 d0 d1 d2 d3
    go_wp2_with fail
    refine HOF.out.mono ?_
    rintro e w5 ⟨rfl, hb5⟩
    have T5' := HT4.out.keep hb5
    have HRC5 := Lib.hid ((HRC4.out.below hb5 (Nat.le_refl _)).more hb5.size)
    have HT5 := Lib.hid T5'
    have HK5 := Lib.hid T5'.below
    clear hb5 HOF HT4 HRC4
    obtain ⟨a0, a1, a2, a3⟩ := T5'.one.cells3
    obtain ⟨b0, b1, b2, b3⟩ := T5'.two.cells3
    obtain ⟨d0, d1, d2, d3⟩ := T5'.three.cells3
    clear T5'
    rcases HONE.out with ⟨h5, h1⟩ | ⟨p, r, h5, h1, hok⟩
    · have HW := Lib.hid (why_nil h1)
      rw [h5]
      have hd : (((([] : List (Int × Int)).length : Nat) : Int) == 0) = true := rfl
      clear h5 h1 HONE
      go_wp2_with fail
      refine (HIS.out _ HK5.out).mono ?_
      rintro e w6 ⟨rfl, hb6⟩
      rw [HW.out.2]
      have T6' := HT5.out.keep hb6
      have HT6 := Lib.hid T6'
      have HK6 := Lib.hid T6'.below
      clear hb6 HT5 HK5 a0 a1 a2 a3 b0 b1 b2 b3 d0 d1 d2 d3
      obtain ⟨a0, a1, a2, a3⟩ := T6'.one.cells3
      obtain ⟨b0, b1, b2, b3⟩ := T6'.two.cells3
      obtain ⟨d0, d1, d2, d3⟩ := T6'.three.cells3
      clear T6'
      go_wp2_with fail
      refine (HWHY.out _ HK6.out).mono ?_
      rintro e w7 ⟨u7, rfl, hu7, hb7⟩
      have hn := hu7.nil HW.out.2
      subst hn
      have HK7 := Lib.hid (HT6.out.keep hb7).below
      clear hb7 hu7 a0 a1 a2 a3 b0 b1 b2 b3 d0 d1 d2 d3
      go_wp2
      go_ret
      exact ⟨rfl, HK7.out⟩
    · have HW := Lib.hid (why_one h1)
      have HOK := Lib.hid hok
      rw [h5] at HRC5 ⊢
      have hlen : (p :: r).length = r.length + 1 := rfl
      obtain ⟨b, o, hA, hbb, he⟩ := HRC5.out.at (k := 0) (by simp)
      have he0 := he 0 _ rfl
      simp only [List.map_cons, List.getElem_cons_zero, Nat.zero_mul, Nat.add_zero] at he0
      subst hA
      have HE0 := Lib.hid he0
      have HBB := Lib.hid hbb
      rw [HW.out]
      have hd : ((((p :: r).length : Nat) : Int) == 0) = false := beq_eq_false_iff_ne.2 (by rw [hlen]; omega)
      have hgt : ¬ ((((p :: r).length : Nat) : Int) ≤ 0) := by rw [hlen]; omega
      have hltl : (0 : Int) < (((p :: r).length : Nat) : Int) := by rw [hlen]; omega
      clear he he0 hbb h5 h1 hok HONE hlen
      generalize (p :: r).length = n at *
      generalize hp1 : p.1 = a at *
      clear hp1
      go_wp2_with fail
      refine (HIS.out _ HK5.out).mono ?_
      rintro e w6 ⟨rfl, hb6⟩
      rw [HW.out, HOK.out]
      have e0 : w6.cell? ⟨b, o, none⟩ = some (.int .i64 a) := (hb6.cell (p := ⟨b, o, none⟩) HBB.out).trans HE0.out
      have hbw : b < w6.heap.size := Nat.lt_of_lt_of_le HBB.out hb6.size
      have HK6 := Lib.hid (HT5.out.keep hb6).below
      clear hb6 a0 a1 a2 a3 b0 b1 b2 b3 d0 d1 d2 d3
      go_wp2
      go_ret
      exact ⟨rfl, HK6.out⟩
end Go.Proofs.YtbhlmbfhmknanaaDoor
