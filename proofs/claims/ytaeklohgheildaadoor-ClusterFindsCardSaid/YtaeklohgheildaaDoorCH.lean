/- The head of layer 3's statements, and the law ClusterFewer, walked, from what cluster.Check and cluster.Fair come to. -/
import Derived.Test.YtaeklohgheildaaDoorCG
import Derived.Test.YtaeklohgheildaaDoorCR
namespace Go.Proofs.YtaeklohgheildaaDoor
open Go.RowKit
set_option linter.unusedVariables false

def SnapD.Ok (s : SnapD) : Prop := (∀ a ∈ s.nodes, a.Ok) ∧ (∀ a ∈ s.loads, a.Ok) ∧ (∀ a ∈ s.pods, a.Ok)
/-- cluster.Check tells what is amiss first. -/
def CheckHolds : Prop := ∀ (s : SnapD) (A1 A2 A3 : Option Addr) (n1 c1 n2 c2 n3 c3 B : Nat) (w : World), s.Ok → n1 = s.nodes.length → n2 = s.loads.length → n3 = s.pods.length → n1 ≤ 40 → n2 ≤ 40 → n3 ≤ 40 → n1 ≤ c1 → n2 ≤ c2 → n3 ≤ c3 → c1 ≤ maxLen → c2 ≤ maxLen → c3 ≤ maxLen → B ≤ w.heap.size →
  Recs 10 cellsN w B A1 s.nodes → Recs 5 cellsL w B A2 s.loads → Recs 8 cellsP w B A3 s.pods → Calls Tryd.prog 12 #[snapV A1 A2 A3 n1 c1 n2 c2 n3 c3] w (ErrTo (check s) w)
/-- cluster.Fair tells what is amiss first. -/
def FairHolds : Prop := ∀ (s : SnapD) (x : SpecD) (A1 A2 A3 A4 : Option Addr) (n1 c1 n2 c2 n3 c3 n4 c4 B : Nat) (w : World), s.Ok → (∀ a ∈ x.wants, a.Ok) → I64 x.preempts → I64 x.shifts → n1 = s.nodes.length → n2 = s.loads.length → n3 = s.pods.length → n4 = x.wants.length → n1 ≤ 40 → n2 ≤ 40 → n3 ≤ 40 → n4 ≤ 40 → n1 ≤ c1 → n2 ≤ c2 → n3 ≤ c3 → n4 ≤ c4 → c1 ≤ maxLen → c2 ≤ maxLen → c3 ≤ maxLen → c4 ≤ maxLen → B ≤ w.heap.size →
  Recs 10 cellsN w B A1 s.nodes → Recs 5 cellsL w B A2 s.loads → Recs 8 cellsP w B A3 s.pods → Recs 6 cellsW w B A4 x.wants → Calls Tryd.prog 13 #[snapV A1 A2 A3 n1 c1 n2 c2 n3 c3, specV A4 n4 c4 x] w (ErrTo (fair s x) w)

theorem errIs_none {B : Nat} {w : World} {u : Value} {p : Int × Int} (h : ErrIs p B w u) (hp : p.1 = 0) (h2 : p.2 = -1) : u = .nilIface := by
  rcases h with ⟨_, h⟩ | ⟨_, h, _⟩ | ⟨k, g, h, _⟩
  · exact h
  · omega
  · omega
theorem errIs_self {B : Nat} {w : World} {u : Value} {p : Int × Int} (h : ErrIs p B w u) (hp : p.1 ≠ 0) (h2 : p.2 = -1) : u = .iface 62 (.int .i64 p.1) := by
  rcases h with ⟨h, _⟩ | ⟨_, _, _, h⟩ | ⟨k, g, h, _⟩
  · rw [h] at hp; simp at hp
  · exact h
  · omega
theorem errIs_spot {B : Nat} {w : World} {u : Value} {p : Int × Int} (h : ErrIs p B w u) {k : Nat} (h2 : p.2 = k) : ∃ g, u = .iface 91 (.pointer (some ⟨g, 0, none⟩)) ∧ w.heap[g]? = some (.cells #[.int .i64 (k : Int), .int .i64 p.1] 96 (0, 0)) := by
  rcases h with ⟨h, _⟩ | ⟨h, _⟩ | ⟨k', g, h, h3, _, h4⟩
  · rw [h] at h2; exact absurd h2 (by simp)
  · omega
  · obtain rfl : k = k' := by omega
    exact ⟨g, h3, h4⟩
theorem errIs_some {B : Nat} {w : World} {u : Value} {p : Int × Int} (h : ErrIs p B w u) (hp : p.1 ≠ 0) : ∃ t v, u = .iface t v := by
  rcases h with ⟨h, _⟩ | ⟨_, _, _, h⟩ | ⟨k, g, h, h3, _⟩
  · rw [h] at hp; simp at hp
  · exact ⟨_, _, h⟩
  · exact ⟨_, _, h3⟩

theorem flat_at : ∀ (xs : List NodeD) (i : Nat) (h : i < xs.length) (j : Nat) (u : Value), (cellsN xs[i])[j]? = some u → (xs.flatMap cellsN)[i * 10 + j]? = some u
  | [], i, h, _, _, _ => by simp at h
  | x :: r, 0, _, j, u, hu => by
    have hj : j < (cellsN x).length := (List.getElem?_eq_some_iff.1 hu).1
    simp only [List.flatMap_cons, Nat.zero_mul, Nat.zero_add]
    rw [List.getElem?_append_left hj]
    exact hu
  | x :: r, i + 1, h, j, u, hu => by
    have hl : (cellsN x).length = 10 := rfl
    simp only [List.flatMap_cons]
    rw [List.getElem?_append_right (by rw [hl]; omega), hl, show (i + 1) * 10 + j - 10 = i * 10 + j by omega]
    exact flat_at r i (by simpa using h) j u hu
theorem recs_new (w : World) (t : TypeId) (xs : List NodeD) (cs : Array Value) (hc : cs = (xs.flatMap cellsN).toArray) : Recs 10 cellsN (w.alloc (.cells cs t)) (w.heap.size + 1) (some ⟨w.heap.size, 0, none⟩) xs := by
  refine .inr ⟨w.heap.size, 0, rfl, by omega, fun i hi j u hu => ?_⟩
  have h1 := flat_at xs i hi j u hu
  rw [World.cell?_alloc_at _ _ _ _ rfl, hc]
  simpa using h1
def z4 : V4 := ⟨0, 0, 0, 0⟩
def nd3 : NodeD := ⟨3, 1, z4, z4⟩
theorem z4_ok : z4.Ok := ⟨⟨by decide, by decide⟩, ⟨by decide, by decide⟩, ⟨by decide, by decide⟩, ⟨by decide, by decide⟩⟩
theorem nd3_ok : nd3.Ok := ⟨⟨by decide, by decide⟩, ⟨by decide, by decide⟩, z4_ok, z4_ok⟩
theorem check_0 : check ⟨[], [], []⟩ = (3, -1) := by decide
theorem check_1 : check ⟨[nd3], [], []⟩ = (0, -1) := by decide
theorem check_2 : check ⟨[nd3, nd3], [], []⟩ = (5, 1) := by decide

set_option maxHeartbeats 1600000 in
theorem up_any (H : CheckHolds) (w : World) (hg : Laid w) : Calls Tryd.prog 7 #[] w fun e w' => e = .returned (.bool true) ∧ Below w.heap.size w w' := by
  have HG := Lib.hid hg
  have HC := Lib.hid H
  clear hg H
  have heq := eql_codes
  go_enter Tryd.func7, Tryd.ntmps7
  go_wp2_with fail
  refine (HC.out ⟨[], [], []⟩ none none none 0 0 0 0 0 0 w.heap.size _ ⟨fun _ h => by simp at h, fun _ h => by simp at h, fun _ h => by simp at h⟩ rfl rfl rfl (by decide) (by decide) (by decide) (by decide) (by decide) (by decide) (by decide) (by decide) (by decide) (Nat.le_refl _) Recs.nil Recs.nil Recs.nil).mono ?_
  rw [check_0]
  rintro e w1 ⟨u, rfl, hu, hb1⟩
  obtain rfl := errIs_self hu (by decide) rfl
  clear hu
  have hz1 := hb1.size
  go_wp2_with fail
  refine (HC.out ⟨[nd3], [], []⟩ (some ⟨w1.heap.size, 0, none⟩) none none 1 1 0 0 0 0 (w1.heap.size + 1) _ ⟨fun a h => by simp at h; subst h; exact nd3_ok, fun _ h => by simp at h, fun _ h => by simp at h⟩ rfl rfl rfl (by decide) (by decide) (by decide) (by decide) (by decide) (by decide) (by decide) (by decide) (by decide) (by simp) (recs_new w1 45 [nd3] _ rfl) Recs.nil Recs.nil).mono ?_
  rw [check_1]
  rintro e w2 ⟨u, rfl, hu, hb2⟩
  obtain rfl := errIs_none hu rfl rfl
  clear hu
  have hz2 := hb2.size
  have k2 : Below w.heap.size w w2 := (hb1.alloc hz1 _).trans (hb2.mono (by simp; omega))
  have hz2' := k2.size
  go_wp2_with fail
  refine (HC.out ⟨[nd3, nd3], [], []⟩ (some ⟨w2.heap.size, 0, none⟩) none none 2 2 0 0 0 0 (w2.heap.size + 1) _ ⟨fun a h => by simp at h; subst h; exact nd3_ok, fun _ h => by simp at h, fun _ h => by simp at h⟩ rfl rfl rfl (by decide) (by decide) (by decide) (by decide) (by decide) (by decide) (by decide) (by decide) (by decide) (by simp) (recs_new w2 45 [nd3, nd3] _ rfl) Recs.nil Recs.nil).mono ?_
  rw [check_2]
  rintro e w3 ⟨u, rfl, hu, hb3⟩
  obtain ⟨g, rfl, hblk⟩ := errIs_spot hu (k := 1) rfl
  clear hu
  have k3 : Below w.heap.size w w3 := (k2.alloc hz2' _).trans (hb3.mono (by simp; omega))
  have hz3 := k3.size
  have HBLK := Lib.hid hblk
  clear hblk
  go_wp2_with fail
  refine (Is_yes g 1 5 _ (HG.out.below k3 (Nat.le_refl _)) HBLK.out).mono ?_
  rintro e w4 ⟨rfl, hb4⟩
  go_wp2
  go_ret
  exact ⟨rfl, k3.trans (hb4.mono hz3)⟩

/-- ClusterFewer: what may be has with fewer pods what may be. -/
theorem ok_fewer {s : SnapD} (h : s.Ok) (n : Nat) : SnapD.Ok { s with pods := s.pods.take n } := ⟨h.1, h.2.1, fun a ha => h.2.2 a (List.mem_of_mem_take ha)⟩
set_option maxHeartbeats 3200000 in
theorem clusterFewer_in (HC : CheckHolds) (HF : FairHolds) (s : SnapD) (A1 A2 A3 : Option Addr) (n1 c1 n2 c2 n3 c3 k : Nat) (w : World) (hg : Laid w) (hok : s.Ok) (hn1 : n1 = s.nodes.length) (hn2 : n2 = s.loads.length) (hn3 : n3 = s.pods.length) (hl1 : n1 ≤ 40) (hl2 : n2 ≤ 40) (hl3 : n3 ≤ 40)
    (p1 : n1 ≤ c1) (p2 : n2 ≤ c2) (p3 : n3 ≤ c3) (q1 : c1 ≤ maxLen) (q2 : c2 ≤ maxLen) (q3 : c3 ≤ maxLen) (hk : k ≤ n3)
    (hr1 : Recs 10 cellsN w w.heap.size A1 s.nodes) (hr2 : Recs 5 cellsL w w.heap.size A2 s.loads) (hr3 : Recs 8 cellsP w w.heap.size A3 s.pods) :
    Calls Tryd.prog 5 #[snapV A1 A2 A3 n1 c1 n2 c2 n3 c3, .int .i64 (k : Int)] w fun e w' => e = .returned (.bool true) ∧ Below w.heap.size w w' := by
  have HG := Lib.hid hg
  have HN1 := Lib.hid hn1
  have HN2 := Lib.hid hn2
  have HN3 := Lib.hid hn3
  have HR1 := Lib.hid hr1
  have HR2 := Lib.hid hr2
  have HR3 := Lib.hid hr3
  have HCC := Lib.hid HC
  have HFF := Lib.hid HF
  have HOK := Lib.hid hok
  have Q1 := Lib.hid q1
  have Q2 := Lib.hid q2
  have Q3 := Lib.hid q3
  have q3' : c3 ≤ 9223372036854775807 := by unfold maxLen at q3; omega
  clear hg hn1 hn2 hn3 hr1 hr2 hr3 HC HF hok q1 q2 q3
  have b00 : Below w.heap.size w (w.alloc (.cells #[.slice A1 n1 c1, .slice A2 n2 c2, .slice A3 n3 c3] 26)) := (Below.refl _ w).alloc (Nat.le_refl _) _
  have HG0 := Lib.hid (HG.out.below b00 (Nat.le_refl _))
  go_enter Tryd.func5, Tryd.ntmps5
  go_wp2_with fail
  refine (up_any HCC.out _ HG0.out).mono ?_
  rintro e w1 ⟨rfl, hb1⟩
  have k1 : Below (w.heap.size + 1) (w.alloc (.cells #[.slice A1 n1 c1, .slice A2 n2 c2, .slice A3 n3 c3] 26)) w1 := hb1.mono (by simp)
  obtain ⟨b0, b1, b2⟩ := box_cells k1
  have hz1 : w.heap.size + 1 ≤ w1.heap.size := by have := k1.size; simpa using this
  go_wp2_with fail
  refine (few_any _ _ _ _ _ _ _ _ _ _).mono ?_
  rintro e w2 ⟨rfl, hb2⟩
  have hfew : decide (n1 ≤ 40 ∧ n2 ≤ 40 ∧ n3 ≤ 40) = true := by simp [hl1, hl2, hl3]
  have k2 := k1.trans (hb2.mono (show w.heap.size + 1 ≤ w1.heap.size by omega))
  have hz2 : w.heap.size + 1 ≤ w2.heap.size := by have := k2.size; simpa using this
  obtain ⟨d0, d1, d2⟩ := box_cells k2
  have kw2 : Below w.heap.size w w2 := b00.trans (k2.mono (by omega))
  clear b0 b1 b2
  go_wp2_with fail
  refine (HCC.out s A1 A2 A3 n1 c1 n2 c2 n3 c3 w.heap.size _ HOK.out HN1.out HN2.out HN3.out hl1 hl2 hl3 p1 p2 p3 Q1.out Q2.out Q3.out (by omega) (HR1.out.below kw2 (Nat.le_refl _)) (HR2.out.below kw2 (Nat.le_refl _)) (HR3.out.below kw2 (Nat.le_refl _))).mono ?_
  rintro e w3 ⟨u, rfl, hu, hb3⟩
  have k3 := k2.trans (hb3.mono (show w.heap.size + 1 ≤ w2.heap.size by omega))
  have hz3 : w.heap.size + 1 ≤ w3.heap.size := by have := k3.size; simpa using this
  obtain ⟨f0, f1, f2⟩ := box_cells k3
  have kw3 : Below w.heap.size w w3 := b00.trans (k3.mono (by omega))
  clear d0 d1 d2
  by_cases hck : (check s).1 = 0
  · have hcz := check_zero hck
    obtain rfl := errIs_none hu hck (by rw [hcz])
    have HCF := Lib.hid (check_zero (check_fewer k hck))
    have HFN := Lib.hid (fair_none (check_fewer k hck))
    have hfz : w3.frozen? ⟨w.heap.size, 2, none⟩ = false := by rw [k3.frozen (p := ⟨w.heap.size, 2, none⟩) (by show w.heap.size < w.heap.size + 1; omega)]; simp
    clear hu hck hcz
    have hk0 : (0 : Int) ≤ (k : Int) := by omega
    have hkc : (k : Int) ≤ (n3 : Int) := by omega
    have kw4 : Below w.heap.size w (w3.setCell ⟨w.heap.size, 2, none⟩ (.slice A3 k c3)) := kw3.setCell (p := ⟨w.heap.size, 2, none⟩) (Nat.le_refl _) _
    have hz4 := kw4.size
    have hm0 : w.heap.size < w3.heap.size := by omega
    have HNK := Lib.hid (show k = (s.pods.take k).length by have := HN3.out; simp; omega)
    have HC4 := Lib.hid (HCC.out { s with pods := s.pods.take k } A1 A2 A3 n1 c1 n2 c2 k c3 w.heap.size _ (ok_fewer HOK.out k) HN1.out HN2.out HNK.out hl1 hl2 (by omega) p1 p2 (by omega) Q1.out Q2.out Q3.out hz4 (HR1.out.below kw4 (Nat.le_refl _)) (HR2.out.below kw4 (Nat.le_refl _)) ((HR3.out.below kw4 (Nat.le_refl _)).take k))
    go_wp2_with fail
    refine HC4.out.mono ?_
    rw [HCF.out]
    rintro e w5 ⟨u, rfl, hu5, hb5⟩
    obtain rfl := errIs_none hu5 rfl rfl
    clear hu5
    have kw5 : Below w.heap.size w w5 := kw4.trans (hb5.mono hz4)
    have hz5 := kw5.size
    have hz35 : w3.heap.size ≤ w5.heap.size := by have := hb5.size; simpa using this
    have g0 : w5.cell? ⟨w.heap.size, 0, none⟩ = some (.slice A1 n1 c1) := by
      rw [hb5.cell (p := ⟨w.heap.size, 0, none⟩) (by simpa using hm0), World.cell?_setCell_other _ _ _ _ (by simp)]; exact f0
    have g1 : w5.cell? ⟨w.heap.size, 1, none⟩ = some (.slice A2 n2 c2) := by
      rw [hb5.cell (p := ⟨w.heap.size, 1, none⟩) (by simpa using hm0), World.cell?_setCell_other _ _ _ _ (by simp)]; exact f1
    have g2 : w5.cell? ⟨w.heap.size, 2, none⟩ = some (.slice A3 k c3) := by
      rw [hb5.cell (p := ⟨w.heap.size, 2, none⟩) (by simpa using hm0), World.cell?_setCell_same _ _ _ f2]
    have HF5 := Lib.hid (HFF.out { s with pods := s.pods.take k } ⟨[], 0, 0⟩ A1 A2 A3 none n1 c1 n2 c2 k c3 0 0 w.heap.size w5 (ok_fewer HOK.out k) (fun _ h => by simp at h) ⟨by decide, by decide⟩ ⟨by decide, by decide⟩ HN1.out HN2.out HNK.out rfl hl1 hl2 (by omega) (by decide) p1 p2 (by omega) (by decide) Q1.out Q2.out Q3.out (by decide) hz5 (HR1.out.below kw5 (Nat.le_refl _)) (HR2.out.below kw5 (Nat.le_refl _)) ((HR3.out.below kw5 (Nat.le_refl _)).take k) Recs.nil)
    go_wp2_with fail
    refine HF5.out.mono ?_
    rw [HFN.out]
    rintro e w6 ⟨u, rfl, hu6, hb6⟩
    obtain rfl := errIs_none hu6 rfl rfl
    clear hu6
    go_wp2
    go_ret
    exact ⟨rfl, kw5.trans (hb6.mono hz5)⟩
  · obtain ⟨t, v, rfl⟩ := errIs_some hu hck
    clear hu hck
    go_wp2
    go_ret
    exact ⟨rfl, kw3⟩
end Go.Proofs.YtaeklohgheildaaDoor
