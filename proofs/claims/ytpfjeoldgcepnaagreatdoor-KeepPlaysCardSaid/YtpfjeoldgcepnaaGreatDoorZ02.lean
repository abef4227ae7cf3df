/- Joined texts, part 2: CD CE CI CF. -/
import Derived.Test.YtpfjeoldgcepnaaGreatDoorZ01
import Derived.LaidEql
import Derived.ChangeKeysEq
import Derived.Laws.StructEq
import Derived.Deep.QuietTactic
import Derived.BigQuiet

/- dunnageref03.Check. -/
namespace Go.Proofs.YtpfjeoldgcepnaaGreatDoor
set_option linter.unusedSimpArgs false
open Go.RowKit
set_option linter.unusedVariables false

theorem box_cells {w wr : World} {x y z : Value} {t : TypeId} (hb : Below (w.heap.size + 1) (w.alloc (.cells #[x, y, z] t)) wr) :
    wr.cell? ⟨w.heap.size, 0, none⟩ = some x ∧ wr.cell? ⟨w.heap.size, 1, none⟩ = some y ∧ wr.cell? ⟨w.heap.size, 2, none⟩ = some z := by
  refine ⟨?_, ?_, ?_⟩
  all_goals
    rw [hb.cell (by show w.heap.size < w.heap.size + 1; omega)]
    simp

theorem firstBad_at {α : Type} {bad : Int → α → Int} {f : α → Int} {l : List α} {la : Int} {k m : Nat} {F : Option (Int × Nat)} (h : k < l.length) {x : α} (hx : l[k] = x) (hf : firstBad bad f la m (l.drop k) = F) :
    (bad la x ≠ 0 → F = some (bad la x, m)) ∧ (bad la x = 0 → firstBad bad f (f x) (m + 1) (l.drop (k + 1)) = F) := by
  rw [List.drop_eq_getElem_cons h, hx, firstBad] at hf
  constructor
  · intro hb; rw [if_pos hb] at hf; exact hf.symm
  · intro hb; rw [if_neg (by simpa using hb)] at hf; exact hf
theorem firstBad_end {α : Type} {bad : Int → α → Int} {f : α → Int} {l : List α} {la : Int} {k m : Nat} {F : Option (Int × Nat)} (h : l.length ≤ k) (hf : firstBad bad f la m (l.drop k) = F) : F = none := by
  rw [List.drop_of_length_le h, firstBad] at hf
  exact hf.symm
theorem check_large {s : SnapD} (h : large s = true) : check s = (3, -1) := by unfold check; rw [if_pos h]
theorem check_node {s : SnapD} (h : ¬ large s = true) {b : Int} {k : Nat} (hf : firstBad nodeBad NodeD.id 0 0 s.nodes = some (b, k)) : check s = (b, (k : Int)) := by unfold check; rw [if_neg h, hf]
theorem check_load {s : SnapD} (h : ¬ large s = true) (h1 : firstBad nodeBad NodeD.id 0 0 s.nodes = none) {b : Int} {k : Nat} (hf : firstBad loadBad LoadD.id 0 s.nodes.length s.loads = some (b, k)) : check s = (b, (k : Int)) := by unfold check; rw [if_neg h, h1, hf]
theorem check_pod {s : SnapD} (h : ¬ large s = true) (h1 : firstBad nodeBad NodeD.id 0 0 s.nodes = none) (h2 : firstBad loadBad LoadD.id 0 s.nodes.length s.loads = none) {b : Int} {k : Nat} (hf : firstBad (podBad s.nodes s.loads) PodD.id 0 (s.nodes.length + s.loads.length) s.pods = some (b, k)) : check s = (b, (k : Int)) := by
  unfold check; rw [if_neg h, h1, h2, hf]
theorem check_fine {s : SnapD} (h : ¬ large s = true) (h1 : firstBad nodeBad NodeD.id 0 0 s.nodes = none) (h2 : firstBad loadBad LoadD.id 0 s.nodes.length s.loads = none) (hf : firstBad (podBad s.nodes s.loads) PodD.id 0 (s.nodes.length + s.loads.length) s.pods = none) : check s = (0, -1) := by
  unfold check; rw [if_neg h, h1, h2, hf]
theorem ret_pair {a b c d : Int} {p : Int × Int} (h : p = (a, b)) (e1 : c = a) (e2 : d = b) : Ending.returned (.tuple #[.int .i64 c, .int .i64 d]) = .returned (.tuple #[.int .i64 p.1, .int .i64 p.2]) := by rw [h, e1, e2]

def NodesRel (s : SnapD) (W : World) (B : Nat) (last at_ i : Value) (wr : World) : Prop :=
  ∃ (k : Nat) (la : Int), k ≤ s.nodes.length ∧ i = .int .i64 k ∧ at_ = .int .i64 k ∧ last = .int .i64 la ∧ firstBad nodeBad NodeD.id la k (s.nodes.drop k) = firstBad nodeBad NodeD.id 0 0 s.nodes ∧ Below B W wr

def LoadsRel (s : SnapD) (W : World) (B : Nat) (last at_ i : Value) (wr : World) : Prop :=
  ∃ (k m : Nat) (la : Int), k ≤ s.loads.length ∧ m = s.nodes.length + k ∧ i = .int .i64 k ∧ at_ = .int .i64 m ∧ last = .int .i64 la ∧ firstBad loadBad LoadD.id la m (s.loads.drop k) = firstBad loadBad LoadD.id 0 s.nodes.length s.loads ∧ Below B W wr
def PodsRel (s : SnapD) (W : World) (B : Nat) (last at_ i : Value) (wr : World) : Prop :=
  ∃ (k m : Nat) (la : Int), k ≤ s.pods.length ∧ m = s.nodes.length + s.loads.length + k ∧ i = .int .i64 k ∧ at_ = .int .i64 m ∧ last = .int .i64 la ∧ firstBad (podBad s.nodes s.loads) PodD.id la m (s.pods.drop k) = firstBad (podBad s.nodes s.loads) PodD.id 0 (s.nodes.length + s.loads.length) s.pods ∧ Below B W wr

set_option maxHeartbeats 6400000 in
set_option maxRecDepth 100000 in
theorem rCheck_any (s : SnapD) (A1 A2 A3 : Option Addr) (n1 c1 n2 c2 n3 c3 B : Nat) (w : World) (hn1 : n1 = s.nodes.length) (hn2 : n2 = s.loads.length) (hn3 : n3 = s.pods.length) (hl1 : n1 ≤ 40) (hl2 : n2 ≤ 40) (hl3 : n3 ≤ 40) (hB : B ≤ w.heap.size)
    (hr1 : Recs 10 cellsN w B A1 s.nodes) (hr2 : Recs 5 cellsL w B A2 s.loads) (hr3 : Recs 8 cellsP w B A3 s.pods) :
    Calls Tryz.prog 33 #[.agg #[.slice A1 n1 c1, .slice A2 n2 c2, .slice A3 n3 c3]] w fun e w' => e = .returned (.tuple #[.int .i64 (check s).1, .int .i64 (check s).2]) ∧ Below w.heap.size w w' := by
  by_cases hlg : large s = true
  · have HE := Lib.hid (check_large hlg)
    have hsz : n1 = 0 ∨ 8 < n1 ∨ 8 < n2 ∨ 12 < n3 := by simp only [large, decide_eq_true_eq] at hlg; omega
    clear hlg hr1 hr2 hr3 hn1 hn2 hn3
    by_cases q1 : n1 = 0
    · subst q1
      clear hsz
      go_enter Tryz.func33, Tryz.ntmps33
      go_wp2
      go_ret2
      exact ⟨ret_pair HE.out rfl rfl, (Below.refl _ _).alloc (Nat.le_refl _) _⟩
    · have hne : ((n1 : Int) == 0) = false := by simp; omega
      by_cases q2 : 8 < n1
      · clear hsz
        go_enter Tryz.func33, Tryz.ntmps33
        go_wp2
        go_ret2
        exact ⟨ret_pair HE.out rfl rfl, (Below.refl _ _).alloc (Nat.le_refl _) _⟩
      · by_cases q3 : 8 < n2
        · clear hsz
          go_enter Tryz.func33, Tryz.ntmps33
          go_wp2
          go_ret2
          exact ⟨ret_pair HE.out rfl rfl, (Below.refl _ _).alloc (Nat.le_refl _) _⟩
        · have q4 : 12 < n3 := by omega
          clear hsz
          go_enter Tryz.func33, Tryz.ntmps33
          go_wp2
          go_ret2
          exact ⟨ret_pair HE.out rfl rfl, (Below.refl _ _).alloc (Nat.le_refl _) _⟩
  · have hsz : 1 ≤ n1 ∧ n1 ≤ 8 ∧ n2 ≤ 8 ∧ n3 ≤ 12 := by simp only [large, decide_eq_true_eq] at hlg; omega
    obtain ⟨z1, z2, z3, z4⟩ := hsz
    have HLG := Lib.hid hlg
    have HR1 := Lib.hid hr1
    have HR2 := Lib.hid hr2
    have HR3 := Lib.hid hr3
    have HN1 := Lib.hid hn1
    have HN2 := Lib.hid hn2
    have HN3 := Lib.hid hn3
    clear hlg hr1 hr2 hr3 hn1 hn2 hn3
    go_enter Tryz.func33, Tryz.ntmps33
    have hne : ((n1 : Int) == 0) = false := by simp; omega
    go_wp2
    go_loopw [4, 5, 6] (NodesRel s (w.alloc (.cells #[.slice A1 n1 c1, .slice A2 n2 c2, .slice A3 n3 c3] 26)) (w.heap.size + 1)) (fun _ _ i _ => n1 - (intOf i).toNat)
    case atStart => exact ⟨0, 0, by omega, rfl, rfl, rfl, rfl, Below.refl _ _⟩
    case round =>
      obtain ⟨k, la, hk, rfl, rfl, rfl, hfb, hbr⟩ := hrel
      have HF := Lib.hid hfb
      clear hfb
      obtain ⟨b0, b1, b2⟩ := box_cells hbr
      have hzr : w.heap.size + 1 ≤ wr.heap.size := by have := hbr.size; simpa using this
      by_cases hlt : k < n1
      · have hkl : k < s.nodes.length := by have := HN1.out; omega
        obtain ⟨b, o, rfl, hb, hcell⟩ := HR1.out.at hkl
        have hold : ∀ j u, (cellsN s.nodes[k])[j]? = some u → wr.cell? ⟨b, o + k * 10 + j, none⟩ = some u := fun j u hu => by
          rw [hbr.cell (p := ⟨b, o + k * 10 + j, none⟩) (by show b < w.heap.size + 1; omega), World.cell?_alloc_lt _ _ _ (by show b < w.heap.size; omega)]
          exact hcell j u hu
        clear hcell
        generalize hnd : s.nodes[k] = nd at *
        have e0 : wr.cell? ⟨b, o + k * 10, none⟩ = some (.int .i64 nd.id) := hold 0 _ rfl
        have e1 : wr.cell? ⟨b, o + k * 10 + 1, none⟩ = some (.int .i64 nd.zone) := hold 1 _ rfl
        have e2 : wr.cell? ⟨b, o + k * 10 + 2, none⟩ = some (.int .u64 nd.cap.a) := hold 2 _ rfl
        have e3 : wr.cell? ⟨b, o + k * 10 + 3, none⟩ = some (.int .u64 nd.cap.b) := hold 3 _ rfl
        have e4 : wr.cell? ⟨b, o + k * 10 + 4, none⟩ = some (.int .u64 nd.cap.c) := hold 4 _ rfl
        have e5 : wr.cell? ⟨b, o + k * 10 + 5, none⟩ = some (.int .u64 nd.cap.d) := hold 5 _ rfl
        have e6 : wr.cell? ⟨b, o + k * 10 + 6, none⟩ = some (.int .u64 nd.held.a) := hold 6 _ rfl
        have e7 : wr.cell? ⟨b, o + k * 10 + 7, none⟩ = some (.int .u64 nd.held.b) := hold 7 _ rfl
        have e8 : wr.cell? ⟨b, o + k * 10 + 8, none⟩ = some (.int .u64 nd.held.c) := hold 8 _ rfl
        have e9 : wr.cell? ⟨b, o + k * 10 + 9, none⟩ = some (.int .u64 nd.held.d) := hold 9 _ rfl
        have HND := Lib.hid hnd
        clear hold hnd
        have hfa := firstBad_at hkl HND.out HF.out
        have HFA := Lib.hid hfa
        clear hfa
        go_wp2_with fail
        refine (id_any _ _ _).mono ?_
        rintro e w1 ⟨rfl, rfl⟩
        go_wp2_with fail
        refine (rFits_any nd.held nd.cap _).mono ?_
        rintro e w2 ⟨rfl, hb2⟩
        have f0 : w2.cell? ⟨wr.heap.size, 0, none⟩ = some (.int .i64 nd.id) := (hb2.cell (p := ⟨wr.heap.size, 0, none⟩) (by simp)).trans (by simp)
        have f1 : w2.cell? ⟨wr.heap.size, 1, none⟩ = some (.int .i64 nd.zone) := (hb2.cell (p := ⟨wr.heap.size, 1, none⟩) (by simp)).trans (by simp)
        have k2 : Below (w.heap.size + 1) (w.alloc (.cells #[.slice (some ⟨b, o, none⟩) n1 c1, .slice A2 n2 c2, .slice A3 n3 c3] 26)) w2 := (hbr.alloc hzr _).trans (hb2.mono (by simp; omega))
        have kw : Below w.heap.size w w2 := ((Below.refl _ w).alloc (Nat.le_refl _) _).trans (k2.mono (by omega))
        clear e0 e1 e2 e3 e4 e5 e6 e7 e8 e9
        by_cases hb0 : idBad nd.id la = 0
        · by_cases hz : nd.zone < 1
          · have HE := Lib.hid (check_node HLG.out (HFA.out.1 (by simp [nodeBad, hb0, hz])))
            have HV := Lib.hid (show nodeBad la nd = 1 by simp [nodeBad, hb0, hz])
            go_wp2
            go_ret2
            exact ⟨ret_pair HE.out HV.out.symm rfl, kw⟩
          · by_cases hz8 : 8 < nd.zone
            · have HV := Lib.hid (show nodeBad la nd = 1 by simp [nodeBad, hb0, hz8])
              have HE := Lib.hid (check_node HLG.out (HFA.out.1 (by rw [HV.out]; decide)))
              go_wp2
              go_ret2
              exact ⟨ret_pair HE.out HV.out.symm rfl, kw⟩
            · by_cases hft : nd.held.le nd.cap = true
              · have HV := Lib.hid (show nodeBad la nd = 0 by simp [nodeBad, hb0, hft]; omega)
                have HE := Lib.hid (HFA.out.2 HV.out)
                go_wp2
                go_roundw
                case rel => exact ⟨k + 1, nd.id, by omega, by go_num, by go_num, rfl, HE.out, k2⟩
                case measure => simp [intOf]; omega
              · have hff : nd.held.le nd.cap = false := by simpa using hft
                have HV := Lib.hid (show nodeBad la nd = 1 by simp [nodeBad, hb0, hff])
                have HE := Lib.hid (check_node HLG.out (HFA.out.1 (by rw [HV.out]; decide)))
                clear hft
                go_wp2
                go_ret2
                exact ⟨ret_pair HE.out HV.out.symm rfl, kw⟩
        · have HV := Lib.hid (show nodeBad la nd = idBad nd.id la by simp [nodeBad, hb0])
          have HE := Lib.hid (check_node HLG.out (HFA.out.1 (by rw [HV.out]; exact hb0)))
          have hbn : (idBad nd.id la == 0) = false := by simpa using hb0
          have hbm : (idBad nd.id la != 0) = true := by simpa using hb0
          clear hb0
          go_wp2
          go_ret2
          exact ⟨ret_pair HE.out HV.out.symm rfl, kw⟩
      · have HE1 := Lib.hid (firstBad_end (by have := HN1.out; omega) HF.out)
        have HK1 := Lib.hid (show k = s.nodes.length by have := HN1.out; omega)
        clear HF
        go_wp2
        go_loopw [4, 5, 10] (LoadsRel s (w.alloc (.cells #[.slice A1 n1 c1, .slice A2 n2 c2, .slice A3 n3 c3] 26)) (w.heap.size + 1)) (fun _ _ i _ => n2 - (intOf i).toNat)
        case atStart => exact ⟨0, k, 0, by omega, HK1.out, rfl, rfl, rfl, by rw [HK1.out]; rfl, hbr⟩
        case round =>
          clear b0 b1 b2 hbr hzr HK1 hlt hk
          obtain ⟨k, m, la, hk, hm, rfl, rfl, rfl, hfb, hbr⟩ := hrel
          have HF := Lib.hid hfb
          have HMM := Lib.hid hm
          have hm40 : m ≤ 40 := by have := HN1.out; have := HN2.out; omega
          clear hfb hm
          obtain ⟨b0, b1, b2⟩ := box_cells hbr
          have hzr : w.heap.size + 1 ≤ wr.heap.size := by have := hbr.size; simpa using this
          by_cases hlt : k < n2
          · have hkl : k < s.loads.length := by have := HN2.out; omega
            obtain ⟨b, o, rfl, hb, hcell⟩ := HR2.out.at hkl
            have hold : ∀ j u, (cellsL s.loads[k])[j]? = some u → wr.cell? ⟨b, o + k * 5 + j, none⟩ = some u := fun j u hu => by
              rw [hbr.cell (p := ⟨b, o + k * 5 + j, none⟩) (by show b < w.heap.size + 1; omega), World.cell?_alloc_lt _ _ _ (by show b < w.heap.size; omega)]
              exact hcell j u hu
            clear hcell
            generalize hnd : s.loads[k] = nd at *
            have e0 : wr.cell? ⟨b, o + k * 5, none⟩ = some (.int .i64 nd.id) := hold 0 _ rfl
            have e1 : wr.cell? ⟨b, o + k * 5 + 1, none⟩ = some (.bool nd.apart) := hold 1 _ rfl
            have e2 : wr.cell? ⟨b, o + k * 5 + 2, none⟩ = some (.int .i64 nd.skew) := hold 2 _ rfl
            have e3 : wr.cell? ⟨b, o + k * 5 + 3, none⟩ = some (.int .i64 nd.min) := hold 3 _ rfl
            have e4 : wr.cell? ⟨b, o + k * 5 + 4, none⟩ = some (.int .i64 nd.max) := hold 4 _ rfl
            have HND := Lib.hid hnd
            clear hold hnd
            have HFA := Lib.hid (firstBad_at hkl HND.out HF.out)
            go_wp2_with fail
            refine (id_any _ _ _).mono ?_
            rintro e w1 ⟨rfl, rfl⟩
            go_wp2_with fail
            refine (count_any _ _).mono ?_
            rintro e w1 ⟨rfl, rfl⟩
            go_wp2_with fail
            refine (count_any _ _).mono ?_
            rintro e w1 ⟨rfl, rfl⟩
            go_wp2_with fail
            refine (count_any _ _).mono ?_
            rintro e w1 ⟨rfl, rfl⟩
            have k2 : Below (w.heap.size + 1) (w.alloc (.cells #[.slice A1 n1 c1, .slice (some ⟨b, o, none⟩) n2 c2, .slice A3 n3 c3] 26)) (wr.alloc (.cells #[.int .i64 nd.id, .bool nd.apart, .int .i64 nd.skew, .int .i64 nd.min, .int .i64 nd.max] 76)) := hbr.alloc hzr _
            have kw : Below w.heap.size w (wr.alloc (.cells #[.int .i64 nd.id, .bool nd.apart, .int .i64 nd.skew, .int .i64 nd.min, .int .i64 nd.max] 76)) := ((Below.refl _ w).alloc (Nat.le_refl _) _).trans (k2.mono (by omega))
            clear e0 e1 e2 e3 e4
            by_cases hb0 : idBad nd.id la = 0
            · by_cases ha : countOk nd.skew = true
              · by_cases hbb : countOk nd.min = true
                · by_cases hcc : countOk nd.max = true
                  · by_cases hmm : nd.max < nd.min
                    · have HV := Lib.hid (show loadBad la nd = 1 by simp [loadBad, hb0, hmm])
                      have HE := Lib.hid (check_load HLG.out HE1.out (HFA.out.1 (by rw [HV.out]; decide)))
                      go_wp2
                      go_ret2
                      exact ⟨ret_pair HE.out HV.out.symm rfl, kw⟩
                    · have HV := Lib.hid (show loadBad la nd = 0 by simp [loadBad, hb0, ha, hbb, hcc]; omega)
                      have HE := Lib.hid (HFA.out.2 HV.out)
                      go_wp2
                      go_roundw
                      case rel => exact ⟨k + 1, m + 1, nd.id, by omega, by have := HMM.out; omega, by go_num, by go_num, rfl, HE.out, k2⟩
                      case measure => simp [intOf]; omega
                  · have hx : countOk nd.max = false := by simpa using hcc
                    have HV := Lib.hid (show loadBad la nd = 1 by simp [loadBad, hb0, hx])
                    have HE := Lib.hid (check_load HLG.out HE1.out (HFA.out.1 (by rw [HV.out]; decide)))
                    clear hcc
                    go_wp2
                    go_ret2
                    exact ⟨ret_pair HE.out HV.out.symm rfl, kw⟩
                · have hx : countOk nd.min = false := by simpa using hbb
                  have HV := Lib.hid (show loadBad la nd = 1 by simp [loadBad, hb0, hx])
                  have HE := Lib.hid (check_load HLG.out HE1.out (HFA.out.1 (by rw [HV.out]; decide)))
                  clear hbb
                  go_wp2
                  go_ret2
                  exact ⟨ret_pair HE.out HV.out.symm rfl, kw⟩
              · have hx : countOk nd.skew = false := by simpa using ha
                have HV := Lib.hid (show loadBad la nd = 1 by simp [loadBad, hb0, hx])
                have HE := Lib.hid (check_load HLG.out HE1.out (HFA.out.1 (by rw [HV.out]; decide)))
                clear ha
                go_wp2
                go_ret2
                exact ⟨ret_pair HE.out HV.out.symm rfl, kw⟩
            · have HV := Lib.hid (show loadBad la nd = idBad nd.id la by simp [loadBad, hb0])
              have HE := Lib.hid (check_load HLG.out HE1.out (HFA.out.1 (by rw [HV.out]; exact hb0)))
              have hbn : (idBad nd.id la == 0) = false := by simpa using hb0
              have hbm : (idBad nd.id la != 0) = true := by simpa using hb0
              clear hb0
              go_wp2
              go_ret2
              exact ⟨ret_pair HE.out HV.out.symm rfl, kw⟩
          · have HE2 := Lib.hid (firstBad_end (by have := HN2.out; omega) HF.out)
            have HK2 := Lib.hid (show m = s.nodes.length + s.loads.length by have := HN2.out; have := HMM.out; omega)
            clear HF HMM
            go_wp2
            go_loopw [4, 5, 16] (PodsRel s (w.alloc (.cells #[.slice A1 n1 c1, .slice A2 n2 c2, .slice A3 n3 c3] 26)) (w.heap.size + 1)) (fun _ _ i _ => n3 - (intOf i).toNat)
            case atStart => exact ⟨0, m, 0, by omega, HK2.out, rfl, rfl, rfl, by rw [HK2.out]; rfl, hbr⟩
            case round =>
              clear b0 b1 b2 hbr hzr HK2 hlt hk hm40
              obtain ⟨k, m, la, hk, hm, rfl, rfl, rfl, hfb, hbr⟩ := hrel
              have HF := Lib.hid hfb
              have HMM := Lib.hid hm
              have hm80 : m ≤ 80 := by have := HN1.out; have := HN2.out; have := HN3.out; omega
              clear hfb hm
              obtain ⟨b0, b1, b2⟩ := box_cells hbr
              have hzr : w.heap.size + 1 ≤ wr.heap.size := by have := hbr.size; simpa using this
              by_cases hlt : k < n3
              · have hkl : k < s.pods.length := by have := HN3.out; omega
                obtain ⟨b, o, rfl, hb, hcell⟩ := HR3.out.at hkl
                have hold : ∀ j u, (cellsP s.pods[k])[j]? = some u → wr.cell? ⟨b, o + k * 8 + j, none⟩ = some u := fun j u hu => by
                  rw [hbr.cell (p := ⟨b, o + k * 8 + j, none⟩) (by show b < w.heap.size + 1; omega), World.cell?_alloc_lt _ _ _ (by show b < w.heap.size; omega)]
                  exact hcell j u hu
                clear hcell
                generalize hnd : s.pods[k] = nd at *
                have e0 : wr.cell? ⟨b, o + k * 8, none⟩ = some (.int .i64 nd.id) := hold 0 _ rfl
                have e1 : wr.cell? ⟨b, o + k * 8 + 1, none⟩ = some (.int .i64 nd.load) := hold 1 _ rfl
                have e2 : wr.cell? ⟨b, o + k * 8 + 2, none⟩ = some (.int .i64 nd.prio) := hold 2 _ rfl
                have e3 : wr.cell? ⟨b, o + k * 8 + 3, none⟩ = some (.int .u64 nd.req.a) := hold 3 _ rfl
                have e4 : wr.cell? ⟨b, o + k * 8 + 4, none⟩ = some (.int .u64 nd.req.b) := hold 4 _ rfl
                have e5 : wr.cell? ⟨b, o + k * 8 + 5, none⟩ = some (.int .u64 nd.req.c) := hold 5 _ rfl
                have e6 : wr.cell? ⟨b, o + k * 8 + 6, none⟩ = some (.int .u64 nd.req.d) := hold 6 _ rfl
                have e7 : wr.cell? ⟨b, o + k * 8 + 7, none⟩ = some (.int .i64 nd.node) := hold 7 _ rfl
                have HND := Lib.hid hnd
                clear hold hnd
                have HFA := Lib.hid (firstBad_at hkl HND.out HF.out)
                have k1 : Below (w.heap.size + 1) (w.alloc (.cells #[.slice A1 n1 c1, .slice A2 n2 c2, .slice (some ⟨b, o, none⟩) n3 c3] 26)) (wr.alloc (.cells #[.int .i64 nd.id, .int .i64 nd.load, .int .i64 nd.prio, .int .u64 nd.req.a, .int .u64 nd.req.b, .int .u64 nd.req.c, .int .u64 nd.req.d, .int .i64 nd.node] 79)) := hbr.alloc hzr _
                have kw : Below w.heap.size w (wr.alloc (.cells #[.int .i64 nd.id, .int .i64 nd.load, .int .i64 nd.prio, .int .u64 nd.req.a, .int .u64 nd.req.b, .int .u64 nd.req.c, .int .u64 nd.req.d, .int .i64 nd.node] 79)) := ((Below.refl _ w).alloc (Nat.le_refl _) _).trans (k1.mono (by omega))
                go_wp2_with fail
                refine (id_any _ _ _).mono ?_
                rintro e w1 ⟨rfl, rfl⟩
                go_wp2_with fail
                refine (count_any _ _).mono ?_
                rintro e w1 ⟨rfl, rfl⟩
                clear e0 e1 e2 e3 e4 e5 e6 e7
                by_cases hb0 : idBad nd.id la = 0
                · by_cases ha : countOk nd.prio = true
                  · have hsz1 : w.heap.size ≤ (wr.alloc (.cells #[.int .i64 nd.id, .int .i64 nd.load, .int .i64 nd.prio, .int .u64 nd.req.a, .int .u64 nd.req.b, .int .u64 nd.req.c, .int .u64 nd.req.d, .int .i64 nd.node] 79)).heap.size := by simp; omega
                    have hwl : w.heap.size < wr.heap.size := by omega
                    have HR2' := Lib.hid ((HR2.out.below kw hB).more (Nat.le_refl B))
                    go_wp2_with fail
                    refine (rLoad_any s.loads nd.load A2 n2 c2 B _ _ _ HN2.out (by omega) (by omega) HR2'.out).mono ?_
                    rintro e w2 ⟨rfl, hb2⟩
                    have f0 : w2.cell? ⟨wr.heap.size, 0, none⟩ = some (.int .i64 nd.id) := (hb2.cell (p := ⟨wr.heap.size, 0, none⟩) (by simp)).trans (by simp)
                    have f7 : w2.cell? ⟨wr.heap.size, 7, none⟩ = some (.int .i64 nd.node) := (hb2.cell (p := ⟨wr.heap.size, 7, none⟩) (by simp)).trans (by simp)
                    have k2 : Below (w.heap.size + 1) (w.alloc (.cells #[.slice A1 n1 c1, .slice A2 n2 c2, .slice (some ⟨b, o, none⟩) n3 c3] 26)) w2 := k1.trans (hb2.mono (by simp; omega))
                    have kw2 : Below w.heap.size w w2 := ((Below.refl _ w).alloc (Nat.le_refl _) _).trans (k2.mono (by omega))
                    obtain ⟨g0, g1, g2⟩ := box_cells k2
                    by_cases hpl : place LoadD.id nd.load s.loads 0 < 0
                    · have HV := Lib.hid (show podBad s.nodes s.loads la nd = 4 by simp [podBad, hb0, ha, hpl])
                      have HE := Lib.hid (check_pod HLG.out HE1.out HE2.out (HFA.out.1 (by rw [HV.out]; decide)))
                      go_wp2
                      go_ret2
                      exact ⟨ret_pair HE.out HV.out.symm rfl, kw2⟩
                    · by_cases hnn : nd.node = 0
                      · have HV := Lib.hid (show podBad s.nodes s.loads la nd = 0 by simp [podBad, hb0, ha, hnn]; omega)
                        have HE := Lib.hid (HFA.out.2 HV.out)
                        go_wp2
                        go_roundw
                        case rel => exact ⟨k + 1, m + 1, nd.id, by omega, by have := HMM.out; omega, by go_num, by go_num, rfl, HE.out, k2⟩
                        case measure => simp [intOf]; omega
                      · have hnm : (nd.node != 0) = true := by simpa using hnn
                        have hz2 := hb2.size
                        have hz2' : w.heap.size ≤ w2.heap.size := by simp at hz2; omega
                        have HR1' := Lib.hid (HR1.out.below kw2 hB)
                        go_wp2_with fail
                        refine (rNode_any s.nodes nd.node A1 n1 c1 B _ _ _ HN1.out (by omega) (by omega) HR1'.out).mono ?_
                        rintro e w3 ⟨rfl, hb3⟩
                        have h0 : w3.cell? ⟨wr.heap.size, 0, none⟩ = some (.int .i64 nd.id) := (hb3.cell (p := ⟨wr.heap.size, 0, none⟩) (by show wr.heap.size < w2.heap.size; simp at hz2; omega)).trans f0
                        have k3 : Below (w.heap.size + 1) (w.alloc (.cells #[.slice A1 n1 c1, .slice A2 n2 c2, .slice (some ⟨b, o, none⟩) n3 c3] 26)) w3 := k2.trans (hb3.mono (by simp at hz2; omega))
                        have kw3 : Below w.heap.size w w3 := ((Below.refl _ w).alloc (Nat.le_refl _) _).trans (k3.mono (by omega))
                        by_cases hpn : place NodeD.id nd.node s.nodes 0 < 0
                        · have HV := Lib.hid (show podBad s.nodes s.loads la nd = 4 by simp [podBad, hb0, ha, hpn, hnn])
                          have HE := Lib.hid (check_pod HLG.out HE1.out HE2.out (HFA.out.1 (by rw [HV.out]; decide)))
                          go_wp2
                          go_ret2
                          exact ⟨ret_pair HE.out HV.out.symm rfl, kw3⟩
                        · have HV := Lib.hid (show podBad s.nodes s.loads la nd = 0 by simp [podBad, hb0, ha, hpn]; omega)
                          have HE := Lib.hid (HFA.out.2 HV.out)
                          go_wp2
                          go_roundw
                          case rel => exact ⟨k + 1, m + 1, nd.id, by omega, by have := HMM.out; omega, by go_num, by go_num, rfl, HE.out, k3⟩
                          case measure => simp [intOf]; omega
                  · have hx : countOk nd.prio = false := by simpa using ha
                    have HV := Lib.hid (show podBad s.nodes s.loads la nd = 1 by simp [podBad, hb0, hx])
                    have HE := Lib.hid (check_pod HLG.out HE1.out HE2.out (HFA.out.1 (by rw [HV.out]; decide)))
                    clear ha
                    go_wp2
                    go_ret2
                    exact ⟨ret_pair HE.out HV.out.symm rfl, kw⟩
                · have HV := Lib.hid (show podBad s.nodes s.loads la nd = idBad nd.id la by simp [podBad, hb0])
                  have HE := Lib.hid (check_pod HLG.out HE1.out HE2.out (HFA.out.1 (by rw [HV.out]; exact hb0)))
                  have hbn : (idBad nd.id la == 0) = false := by simpa using hb0
                  have hbm : (idBad nd.id la != 0) = true := by simpa using hb0
                  clear hb0
                  go_wp2
                  go_ret2
                  exact ⟨ret_pair HE.out HV.out.symm rfl, kw⟩
              · have HE3 := Lib.hid (firstBad_end (by have := HN3.out; omega) HF.out)
                have HE := Lib.hid (check_fine HLG.out HE1.out HE2.out HE3.out)
                have kw : Below w.heap.size w wr := ((Below.refl _ w).alloc (Nat.le_refl _) _).trans (hbr.mono (by omega))
                go_wp2
                go_ret2
                exact ⟨ret_pair HE.out rfl rfl, kw⟩
end Go.Proofs.YtpfjeoldgcepnaaGreatDoor

/- '==' and '!=' on amounts. -/
namespace Go.Proofs.YtpfjeoldgcepnaaGreatDoor
set_option linter.unusedSimpArgs false
open Go.RowKit
set_option linter.unusedVariables false

theorem num_eqIn (d : Nat) (a b : Int) (w : World) : (Op.equalIn (d + 1) 57 (.int .u64 a) (.int .u64 b)).run Tryz.prog w = .ok (a == b) w := by
  simp [Op.equalIn, run_underlying Tryz.underlying57]
theorem part_num (cs : Array Value) (j : Nat) (v : Value) (h : cs[j]? = some v) (w : World) : (part 57 cs j).run Tryz.prog w = .ok v w := by
  have hf : ∀ w : World, (isAgg 57).run Tryz.prog w = .ok false w := fun _ => by kernel_rfl
  simp [part, hf, h]
theorem vec_eqlIn (d : Nat) (a0 a1 a2 a3 b0 b1 b2 b3 : Int) (w : World) :
    (Op.equalIn (d + 2) 59 (.agg #[.int .u64 a0, .int .u64 a1, .int .u64 a2, .int .u64 a3]) (.agg #[.int .u64 b0, .int .u64 b1, .int .u64 b2, .int .u64 b3])).run Tryz.prog w
      = .ok (a0 == b0 && (a1 == b1 && (a2 == b2 && a3 == b3))) w := by
  obtain ⟨i, hi⟩ := Option.isSome_iff_exists.1 (show (Tryz.prog.info? 57).isSome = true by kernel_rfl)
  rw [run_equalIn_array w (d + 1) _ _ Tryz.underlying59 hi]
  have hc : Tryz.prog.cellsOf 57 = 1 := by kernel_rfl
  rw [hc, show List.range 4 = [0, 1, 2, 3] from rfl]
  simp only [Op.eqItems, Sem.run_bind, Nat.mul_one]
  rw [part_num #[.int .u64 a0, .int .u64 a1, .int .u64 a2, .int .u64 a3] 0 (.int .u64 a0) rfl]
  simp only [Result.andThen_ok]
  rw [part_num _ 0 (.int .u64 b0) rfl]
  simp only [Result.andThen_ok, num_eqIn]
  cases h0 : a0 == b0
  · simp
  simp only [Bool.not_true, Bool.false_eq_true, if_false, Sem.run_bind, Bool.true_and]
  rw [part_num _ 1 (.int .u64 a1) rfl]
  simp only [Result.andThen_ok]
  rw [part_num _ 1 (.int .u64 b1) rfl]
  simp only [Result.andThen_ok, num_eqIn]
  cases h1 : a1 == b1
  · simp
  simp only [Bool.not_true, Bool.false_eq_true, if_false, Sem.run_bind, Bool.true_and]
  rw [part_num _ 2 (.int .u64 a2) rfl]
  simp only [Result.andThen_ok]
  rw [part_num _ 2 (.int .u64 b2) rfl]
  simp only [Result.andThen_ok, num_eqIn]
  cases h2 : a2 == b2
  · simp
  simp only [Bool.not_true, Bool.false_eq_true, if_false, Sem.run_bind, Bool.true_and]
  rw [part_num _ 3 (.int .u64 a3) rfl]
  simp only [Result.andThen_ok]
  rw [part_num _ 3 (.int .u64 b3) rfl]
  simp only [Result.andThen_ok, num_eqIn]
  cases h3 : a3 == b3 <;> simp
theorem vec_eql (a0 a1 a2 a3 b0 b1 b2 b3 : Int) (w : World) :
    (binOp .eql 59 (.agg #[.int .u64 a0, .int .u64 a1, .int .u64 a2, .int .u64 a3]) (.agg #[.int .u64 b0, .int .u64 b1, .int .u64 b2, .int .u64 b3])).run Tryz.prog w
      = .ok (.bool (a0 == b0 && (a1 == b1 && (a2 == b2 && a3 == b3)))) w := by
  simp only [binOp]
  simp [Op.equal, Op.maxDepth, vec_eqlIn 9998]
theorem vec_neq0 (x : V4) (w : World) :
    (binOp .neq 59 (aggV x) (.agg #[.int .u64 0, .int .u64 0, .int .u64 0, .int .u64 0])).run Tryz.prog w = .ok (.bool (!x.zero)) w := by
  simp only [binOp]
  have e : x.zero = (x.a == 0 && (x.b == 0 && (x.c == 0 && x.d == 0))) := by
    unfold V4.zero
    rw [Bool.eq_iff_iff]
    simp
  rw [e]
  simp [Op.equal, Op.maxDepth, vec_eqlIn 9998]
end Go.Proofs.YtpfjeoldgcepnaaGreatDoor

/- '!=' of a node, a load, a want and itself. -/
namespace Go.Proofs.YtpfjeoldgcepnaaGreatDoor
set_option linter.unusedSimpArgs false
open Go.RowKit
set_option linter.unusedVariables false

theorem part_int (cs : Array Value) (j : Nat) (v : Value) (h : cs[j]? = some v) (w : World) : (part 3 cs j).run Tryz.prog w = .ok v w := by
  have hf : ∀ w : World, (isAgg 3).run Tryz.prog w = .ok false w := fun _ => by kernel_rfl
  simp [part, hf, h]
theorem part_vec (cs : Array Value) (j : Nat) (v0 v1 v2 v3 : Value) (h : cs.extract j (j + 4) = #[v0, v1, v2, v3]) (w : World) : (part 59 cs j).run Tryz.prog w = .ok (.agg #[v0, v1, v2, v3]) w := by
  have hf : ∀ w : World, (isAgg 59).run Tryz.prog w = .ok true w := fun _ => by kernel_rfl
  have hs : ∀ w : World, (sizeOf 59).run Tryz.prog w = .ok 4 w := fun _ => by kernel_rfl
  simp [part, hf, hs, h]
end Go.Proofs.YtpfjeoldgcepnaaGreatDoor

namespace Go.Proofs.YtpfjeoldgcepnaaGreatDoor
set_option linter.unusedSimpArgs false
open Go.RowKit
set_option linter.unusedVariables false
set_option linter.unusedSimpArgs false

theorem below_draws {B : Nat} {a w : World} (h : Below B a w) (n : Nat) : Below B a (w.drewN n) := ⟨h.os, h.tape, h.output, h.size, h.block⟩
theorem box2_cells {w wr : World} {x y z x' y' z' : Value} {t t' : TypeId} (hb : Below (w.heap.size + 2) ((w.alloc (.cells #[x, y, z] t)).alloc (.cells #[x', y', z'] t')) wr) :
    (wr.cell? ⟨w.heap.size, 0, none⟩ = some x ∧ wr.cell? ⟨w.heap.size, 1, none⟩ = some y ∧ wr.cell? ⟨w.heap.size, 2, none⟩ = some z) ∧
    (wr.cell? ⟨w.heap.size + 1, 0, none⟩ = some x' ∧ wr.cell? ⟨w.heap.size + 1, 1, none⟩ = some y' ∧ wr.cell? ⟨w.heap.size + 1, 2, none⟩ = some z') := by
  refine ⟨⟨?_, ?_, ?_⟩, ?_, ?_, ?_⟩
  all_goals
    rw [hb.cell (by simp)]
    simp
def FairRel (s : SnapD) (x : SpecD) (W : World) (B : Nat) (i : Value) (wr : World) : Prop :=
  ∃ (k : Nat) (fst : Bool) (la : Int), k ≤ x.wants.length ∧ i = .int .i64 k ∧ (k = 0 → fst = true) ∧ (∀ j (hj : j < x.wants.length), k = j + 1 → fst = false ∧ la = x.wants[j].pod) ∧
    firstWant s fst la k (x.wants.drop k) = firstWant s true 0 0 x.wants ∧ Below B W wr
theorem fairRel_next {s : SnapD} {x : SpecD} {W wr : World} {B k : Nat} {wd : WantD} (hk : k < x.wants.length) (hx : x.wants[k] = wd) (h : firstWant s false wd.pod (k + 1) (x.wants.drop (k + 1)) = firstWant s true 0 0 x.wants) (hb : Below B W wr) : FairRel s x W B (.int .i64 ((k : Int) + 1)) wr := by
  refine ⟨k + 1, false, wd.pod, by omega, by simp, fun h => by omega, fun j hj h => ⟨rfl, ?_⟩, h, hb⟩
  obtain rfl : j = k := by omega
  rw [hx]
theorem firstWant_at {s : SnapD} {l : List WantD} {fst : Bool} {la : Int} {k m : Nat} {F : Option (Int × Nat)} (h : k < l.length) {x : WantD} (hx : l[k] = x) (hf : firstWant s fst la m (l.drop k) = F) :
    (wantBad s fst la x ≠ 0 → F = some (wantBad s fst la x, m)) ∧ (wantBad s fst la x = 0 → firstWant s false x.pod (m + 1) (l.drop (k + 1)) = F) := by
  rw [List.drop_eq_getElem_cons h, hx, firstWant] at hf
  constructor
  · intro hb; rw [if_pos hb] at hf; exact hf.symm
  · intro hb; rw [if_neg (by simpa using hb)] at hf; exact hf
theorem fair_bad {s : SnapD} {x : SpecD} (h : (check s).1 ≠ 0) : fair s x = check s := by unfold fair; rw [if_pos h]
theorem fair_large {s : SnapD} {x : SpecD} (h : (check s).1 = 0) (h1 : x.preempts < 0 ∨ 40 < x.preempts ∨ x.shifts < 0 ∨ 40 < x.shifts) : fair s x = (3, -1) := by unfold fair; rw [if_neg (by simpa using h), if_pos h1]
theorem fair_some {s : SnapD} {x : SpecD} (h : (check s).1 = 0) (h1 : ¬ (x.preempts < 0 ∨ 40 < x.preempts ∨ x.shifts < 0 ∨ 40 < x.shifts)) {b : Int} {k : Nat} (hf : firstWant s true 0 0 x.wants = some (b, k)) : fair s x = (b, (k : Int)) := by
  unfold fair; rw [if_neg (by simpa using h), if_neg h1, hf]
theorem fair_fine {s : SnapD} {x : SpecD} (h : (check s).1 = 0) (h1 : ¬ (x.preempts < 0 ∨ 40 < x.preempts ∨ x.shifts < 0 ∨ 40 < x.shifts)) (hf : firstWant s true 0 0 x.wants = none) : fair s x = (0, -1) := by
  unfold fair; rw [if_neg (by simpa using h), if_neg h1, hf]
theorem ret_pair' {p q : Int × Int} (h : p = q) : Ending.returned (.tuple #[.int .i64 q.1, .int .i64 q.2]) = .returned (.tuple #[.int .i64 p.1, .int .i64 p.2]) := by rw [h]

set_option maxHeartbeats 6400000 in
set_option maxRecDepth 100000 in
theorem rFair_any (s : SnapD) (x : SpecD) (A1 A2 A3 A4 : Option Addr) (n1 c1 n2 c2 n3 c3 n4 c4 B : Nat) (w : World) (hn1 : n1 = s.nodes.length) (hn2 : n2 = s.loads.length) (hn3 : n3 = s.pods.length) (hn4 : n4 = x.wants.length) (hl1 : n1 ≤ 40) (hl2 : n2 ≤ 40) (hl3 : n3 ≤ 40) (hl4 : n4 ≤ 40) (hB : B ≤ w.heap.size)
    (hr1 : Recs 10 cellsN w B A1 s.nodes) (hr2 : Recs 5 cellsL w B A2 s.loads) (hr3 : Recs 8 cellsP w B A3 s.pods) (hr4 : Recs 6 cellsW w B A4 x.wants) :
    Calls Tryz.prog 8 #[.agg #[.slice A1 n1 c1, .slice A2 n2 c2, .slice A3 n3 c3], .agg #[.slice A4 n4 c4, .int .i64 x.preempts, .int .i64 x.shifts]] w fun e w' => e = .returned (.tuple #[.int .i64 (fair s x).1, .int .i64 (fair s x).2]) ∧ Below w.heap.size w w' := by
  have HR1 := Lib.hid hr1
  have HR2 := Lib.hid hr2
  have HR3 := Lib.hid hr3
  have HR4 := Lib.hid hr4
  have HN1 := Lib.hid hn1
  have HN2 := Lib.hid hn2
  have HN3 := Lib.hid hn3
  have HN4 := Lib.hid hn4
  clear hr1 hr2 hr3 hr4 hn1 hn2 hn3 hn4
  have b00 : Below w.heap.size w ((w.alloc (.cells #[.slice A1 n1 c1, .slice A2 n2 c2, .slice A3 n3 c3] 26)).alloc (.cells #[.slice A4 n4 c4, .int .i64 x.preempts, .int .i64 x.shifts] 29)) := below_two _ _ _
  have hsz0 : w.heap.size ≤ ((w.alloc (.cells #[.slice A1 n1 c1, .slice A2 n2 c2, .slice A3 n3 c3] 26)).alloc (.cells #[.slice A4 n4 c4, .int .i64 x.preempts, .int .i64 x.shifts] 29)).heap.size := by simp; omega
  have HCH := Lib.hid (rCheck_any s A1 A2 A3 n1 c1 n2 c2 n3 c3 B ((w.alloc (.cells #[.slice A1 n1 c1, .slice A2 n2 c2, .slice A3 n3 c3] 26)).alloc (.cells #[.slice A4 n4 c4, .int .i64 x.preempts, .int .i64 x.shifts] 29)) HN1.out HN2.out HN3.out hl1 hl2 hl3 (by omega) (HR1.out.below b00 hB) (HR2.out.below b00 hB) (HR3.out.below b00 hB))
  go_enter Tryz.func8, Tryz.ntmps8
  go_wp2_with fail
  refine HCH.out.mono ?_
  rintro e w1 ⟨rfl, hb1⟩
  have k1 : Below (w.heap.size + 2) ((w.alloc (.cells #[.slice A1 n1 c1, .slice A2 n2 c2, .slice A3 n3 c3] 26)).alloc (.cells #[.slice A4 n4 c4, .int .i64 x.preempts, .int .i64 x.shifts] 29)) w1 := hb1.mono (by simp)
  have kw1 : Below w.heap.size w w1 := b00.trans (k1.mono (by omega))
  obtain ⟨⟨b0, b1, b2⟩, b3, b4, b5⟩ := box2_cells k1
  by_cases hck : (check s).1 = 0
  · by_cases hp1 : x.preempts < 0
    · have HE := Lib.hid (fair_large (x := x) hck (.inl hp1))
      go_wp2
      go_ret2
      exact ⟨ret_pair HE.out rfl rfl, kw1⟩
    · by_cases hp2 : 40 < x.preempts
      · have HE := Lib.hid (fair_large (x := x) hck (.inr (.inl hp2)))
        go_wp2
        go_ret2
        exact ⟨ret_pair HE.out rfl rfl, kw1⟩
      · by_cases hp3 : x.shifts < 0
        · have HE := Lib.hid (fair_large (x := x) hck (.inr (.inr (.inl hp3))))
          go_wp2
          go_ret2
          exact ⟨ret_pair HE.out rfl rfl, kw1⟩
        · by_cases hp4 : 40 < x.shifts
          · have HE := Lib.hid (fair_large (x := x) hck (.inr (.inr (.inr hp4))))
            go_wp2
            go_ret2
            exact ⟨ret_pair HE.out rfl rfl, kw1⟩
          · have HOK := Lib.hid (show ¬ (x.preempts < 0 ∨ 40 < x.preempts ∨ x.shifts < 0 ∨ 40 < x.shifts) by omega)
            have HCK := Lib.hid hck
            go_wp2
            go_loopw [8] (FairRel s x ((w.alloc (.cells #[.slice A1 n1 c1, .slice A2 n2 c2, .slice A3 n3 c3] 26)).alloc (.cells #[.slice A4 n4 c4, .int .i64 x.preempts, .int .i64 x.shifts] 29)) (w.heap.size + 2)) (fun i _ => n4 - (intOf i).toNat)
            case atStart => exact ⟨0, true, 0, by omega, rfl, fun _ => rfl, fun j _ h => by omega, rfl, k1⟩
            case round =>
              clear hck b0 b1 b2 b3 b4 b5 k1 kw1 hb1 HCH
              obtain ⟨k, fst, la, hk, rfl, hf0, hfl, hfw, hbr⟩ := hrel
              have HF0 := Lib.hid hf0
              have HFL := Lib.hid hfl
              have HFW := Lib.hid hfw
              clear hf0 hfl hfw
              obtain ⟨⟨b0, b1, b2⟩, b3, b4, b5⟩ := box2_cells hbr
              have hzr : w.heap.size + 2 ≤ wr.heap.size := by have := hbr.size; simpa using this
              by_cases hlt : k < n4
              · have hkl : k < x.wants.length := by have := HN4.out; omega
                obtain ⟨b, o, rfl, hb, hcells⟩ : ∃ b o, A4 = some ⟨b, o, none⟩ ∧ b < B ∧ ∀ i (h : i < x.wants.length) j u, (cellsW x.wants[i])[j]? = some u → w.cell? ⟨b, o + i * 6 + j, none⟩ = some u := by
                  rcases HR4.out with h0 | h0
                  · rw [h0] at hkl; simp at hkl
                  · exact h0
                have hall : ∀ i (h : i < x.wants.length) j u, (cellsW x.wants[i])[j]? = some u → wr.cell? ⟨b, o + i * 6 + j, none⟩ = some u := fun i hi j u hu => by
                  rw [hbr.cell (p := ⟨b, o + i * 6 + j, none⟩) (by show b < w.heap.size + 2; omega), World.cell?_alloc_lt _ _ _ (by simp; omega), World.cell?_alloc_lt _ _ _ (by show b < w.heap.size; omega)]
                  exact hcells i hi j u hu
                have hold := hall k hkl
                have HALL := Lib.hid hall
                clear hcells hall
                generalize hnd : x.wants[k] = wd at *
                have e0 : wr.cell? ⟨b, o + k * 6, none⟩ = some (.int .i64 wd.pod) := hold 0 _ rfl
                have e1 : wr.cell? ⟨b, o + k * 6 + 1, none⟩ = some (.int .u64 wd.req.a) := hold 1 _ rfl
                have e2 : wr.cell? ⟨b, o + k * 6 + 2, none⟩ = some (.int .u64 wd.req.b) := hold 2 _ rfl
                have e3 : wr.cell? ⟨b, o + k * 6 + 3, none⟩ = some (.int .u64 wd.req.c) := hold 3 _ rfl
                have e4 : wr.cell? ⟨b, o + k * 6 + 4, none⟩ = some (.int .u64 wd.req.d) := hold 4 _ rfl
                have e5 : wr.cell? ⟨b, o + k * 6 + 5, none⟩ = some (.bool wd.stay) := hold 5 _ rfl
                have HND := Lib.hid hnd
                have HFA := Lib.hid (firstWant_at hkl HND.out HFW.out)
                clear hold hnd
                have hwl : w.heap.size < wr.heap.size := by omega
                have hwl1 : w.heap.size + 1 < wr.heap.size := by omega
                have hbl : b < wr.heap.size := by omega
                have hvn := vec_neq0 wd.req
                have k2 : Below (w.heap.size + 2) ((w.alloc (.cells #[.slice A1 n1 c1, .slice A2 n2 c2, .slice A3 n3 c3] 26)).alloc (.cells #[.slice (some ⟨b, o, none⟩) n4 c4, .int .i64 x.preempts, .int .i64 x.shifts] 29)) (wr.alloc (.cells #[.int .i64 wd.pod, .int .u64 wd.req.a, .int .u64 wd.req.b, .int .u64 wd.req.c, .int .u64 wd.req.d, .bool wd.stay] 82)) := hbr.alloc hzr _
                have kw2 : Below w.heap.size w (wr.alloc (.cells #[.int .i64 wd.pod, .int .u64 wd.req.a, .int .u64 wd.req.b, .int .u64 wd.req.c, .int .u64 wd.req.d, .bool wd.stay] 82)) := (below_two _ _ _).trans (k2.mono (by omega))
                have HRP := Lib.hid (HR3.out.below kw2 hB)
                rcases Nat.eq_zero_or_pos k with hk0 | hk0
                · subst hk0
                  simp only [Nat.zero_mul, Nat.add_zero] at e0 e1 e2 e3 e4 e5
                  obtain rfl := HF0.out rfl
                  go_wp2
                  go_quiet (fail)
                  go_wp2
                  go_quiet (fail)
                  go_wp2_with fail
                  refine (rPod_any s.pods wd.pod A3 n3 c3 B _ _ _ HN3.out (by omega) ?_ ?_).mono ?_
                  · show B ≤ (wr.alloc _).heap.size; simp; omega
                  · exact HRP.out
                  rintro e w3 ⟨rfl, hb3⟩
                  have f0 : w3.cell? ⟨wr.heap.size, 0, none⟩ = some (.int .i64 wd.pod) := (hb3.cell (p := ⟨wr.heap.size, 0, none⟩) (by show wr.heap.size < (wr.alloc _).heap.size; simp)).trans (by simp)
                  have f1 : w3.cell? ⟨wr.heap.size, 1, none⟩ = some (.int .u64 wd.req.a) := (hb3.cell (p := ⟨wr.heap.size, 1, none⟩) (by show wr.heap.size < (wr.alloc _).heap.size; simp)).trans (by simp)
                  have f2 : w3.cell? ⟨wr.heap.size, 2, none⟩ = some (.int .u64 wd.req.b) := (hb3.cell (p := ⟨wr.heap.size, 2, none⟩) (by show wr.heap.size < (wr.alloc _).heap.size; simp)).trans (by simp)
                  have f3 : w3.cell? ⟨wr.heap.size, 3, none⟩ = some (.int .u64 wd.req.c) := (hb3.cell (p := ⟨wr.heap.size, 3, none⟩) (by show wr.heap.size < (wr.alloc _).heap.size; simp)).trans (by simp)
                  have f4 : w3.cell? ⟨wr.heap.size, 4, none⟩ = some (.int .u64 wd.req.d) := (hb3.cell (p := ⟨wr.heap.size, 4, none⟩) (by show wr.heap.size < (wr.alloc _).heap.size; simp)).trans (by simp)
                  have f5 : w3.cell? ⟨wr.heap.size, 5, none⟩ = some (.bool wd.stay) := (hb3.cell (p := ⟨wr.heap.size, 5, none⟩) (by show wr.heap.size < (wr.alloc _).heap.size; simp)).trans (by simp)
                  have k3 : Below (w.heap.size + 2) ((w.alloc (.cells #[.slice A1 n1 c1, .slice A2 n2 c2, .slice A3 n3 c3] 26)).alloc (.cells #[.slice (some ⟨b, o, none⟩) n4 c4, .int .i64 x.preempts, .int .i64 x.shifts] 29)) w3 := (below_draws k2 _).trans (hb3.mono (by show w.heap.size + 2 ≤ (wr.alloc _).heap.size; simp; omega))
                  have kw3 : Below w.heap.size w w3 := (below_two _ _ _).trans (k3.mono (by omega))
                  by_cases hpl : place PodD.id wd.pod s.pods 0 < 0
                  · have HV := Lib.hid (show wantBad s true la wd = 4 by simp [wantBad, hpl])
                    have HE := Lib.hid (fair_some HCK.out HOK.out (HFA.out.1 (by rw [HV.out]; decide)))
                    go_wp2
                    go_ret2
                    exact ⟨ret_pair HE.out HV.out.symm rfl, kw3⟩
                  · cases hst : wd.stay with
                    | true =>
                      have HV := Lib.hid (show wantBad s true la wd = 0 by simp [wantBad, hpl, hst])
                      have HE := Lib.hid (HFA.out.2 HV.out)
                      go_wp2
                      go_roundw
                      case rel => exact fairRel_next (k := 0) hkl HND.out HE.out k3
                      case measure => simp [intOf]; omega
                    | false =>
                      cases hze : wd.req.zero with
                      | true =>
                        have HV := Lib.hid (show wantBad s true la wd = 0 by simp [wantBad, hpl, hst, hze])
                        have HE := Lib.hid (HFA.out.2 HV.out)
                        go_wp2
                        go_roundw
                        case rel => exact fairRel_next (k := 0) hkl HND.out HE.out k3
                        case measure => simp [intOf]; omega
                      | false =>
                        have HV := Lib.hid (show wantBad s true la wd = 1 by simp [wantBad, hpl, hst, hze])
                        have HE := Lib.hid (fair_some HCK.out HOK.out (HFA.out.1 (by rw [HV.out]; decide)))
                        go_wp2
                        go_ret2
                        exact ⟨ret_pair HE.out HV.out.symm rfl, kw3⟩
                · obtain ⟨j, rfl⟩ : ∃ j, k = j + 1 := ⟨k - 1, by omega⟩
                  obtain ⟨rfl, hla⟩ := HFL.out j (by omega) rfl
                  have ep : wr.cell? ⟨b, o + j * 6, none⟩ = some (.int .i64 la) := by rw [hla]; exact HALL.out j (by omega) 0 _ rfl
                  clear hla
                  have hj0 : (0 : Int) ≤ (j : Int) := by omega
                  have hj1 : (j : Int) < (n4 : Int) := by omega
                  by_cases h5 : wd.pod = la
                  · have HV := Lib.hid (show wantBad s false la wd = 5 by simp [wantBad, h5])
                    have HE := Lib.hid (fair_some HCK.out HOK.out (HFA.out.1 (by rw [HV.out]; decide)))
                    obtain rfl := h5
                    go_wp2
                    go_quiet (fail)
                    go_wp2
                    go_ret2
                    exact ⟨ret_pair HE.out HV.out.symm rfl, below_draws kw2 _⟩
                  · have h5b : (wd.pod == la) = false := by simpa using h5
                    by_cases h6 : wd.pod < la
                    · have HV := Lib.hid (show wantBad s false la wd = 1 by simp [wantBad, h5, h6])
                      have HE := Lib.hid (fair_some HCK.out HOK.out (HFA.out.1 (by rw [HV.out]; decide)))
                      clear h5
                      go_wp2
                      go_quiet (fail)
                      go_wp2
                      go_quiet (fail)
                      go_wp2
                      go_ret2
                      exact ⟨ret_pair HE.out HV.out.symm rfl, below_draws (below_draws kw2 _) _⟩
                    · go_wp2
                      go_quiet (fail)
                      go_wp2
                      go_quiet (fail)
                      go_wp2_with fail
                      refine (rPod_any s.pods wd.pod A3 n3 c3 B _ _ _ HN3.out (by omega) ?_ ?_).mono ?_
                      · show B ≤ (wr.alloc _).heap.size; simp; omega
                      · exact HRP.out
                      rintro e w3 ⟨rfl, hb3⟩
                      have f0 : w3.cell? ⟨wr.heap.size, 0, none⟩ = some (.int .i64 wd.pod) := (hb3.cell (p := ⟨wr.heap.size, 0, none⟩) (by show wr.heap.size < (wr.alloc _).heap.size; simp)).trans (by simp)
                      have f1 : w3.cell? ⟨wr.heap.size, 1, none⟩ = some (.int .u64 wd.req.a) := (hb3.cell (p := ⟨wr.heap.size, 1, none⟩) (by show wr.heap.size < (wr.alloc _).heap.size; simp)).trans (by simp)
                      have f2 : w3.cell? ⟨wr.heap.size, 2, none⟩ = some (.int .u64 wd.req.b) := (hb3.cell (p := ⟨wr.heap.size, 2, none⟩) (by show wr.heap.size < (wr.alloc _).heap.size; simp)).trans (by simp)
                      have f3 : w3.cell? ⟨wr.heap.size, 3, none⟩ = some (.int .u64 wd.req.c) := (hb3.cell (p := ⟨wr.heap.size, 3, none⟩) (by show wr.heap.size < (wr.alloc _).heap.size; simp)).trans (by simp)
                      have f4 : w3.cell? ⟨wr.heap.size, 4, none⟩ = some (.int .u64 wd.req.d) := (hb3.cell (p := ⟨wr.heap.size, 4, none⟩) (by show wr.heap.size < (wr.alloc _).heap.size; simp)).trans (by simp)
                      have f5 : w3.cell? ⟨wr.heap.size, 5, none⟩ = some (.bool wd.stay) := (hb3.cell (p := ⟨wr.heap.size, 5, none⟩) (by show wr.heap.size < (wr.alloc _).heap.size; simp)).trans (by simp)
                      have k3 : Below (w.heap.size + 2) ((w.alloc (.cells #[.slice A1 n1 c1, .slice A2 n2 c2, .slice A3 n3 c3] 26)).alloc (.cells #[.slice (some ⟨b, o, none⟩) n4 c4, .int .i64 x.preempts, .int .i64 x.shifts] 29)) w3 := (below_draws k2 _).trans (hb3.mono (by show w.heap.size + 2 ≤ (wr.alloc _).heap.size; simp; omega))
                      have kw3 : Below w.heap.size w w3 := (below_two _ _ _).trans (k3.mono (by omega))
                      by_cases hpl : place PodD.id wd.pod s.pods 0 < 0
                      · have HV := Lib.hid (show wantBad s false la wd = 4 by simp [wantBad, hpl, h5, h6])
                        have HE := Lib.hid (fair_some HCK.out HOK.out (HFA.out.1 (by rw [HV.out]; decide)))
                        go_wp2
                        go_ret2
                        exact ⟨ret_pair HE.out HV.out.symm rfl, kw3⟩
                      · cases hst : wd.stay with
                        | true =>
                          have HV := Lib.hid (show wantBad s false la wd = 0 by simp [wantBad, hpl, hst, h5, h6])
                          have HE := Lib.hid (HFA.out.2 HV.out)
                          go_wp2
                          go_roundw
                          case rel => exact fairRel_next (k := j + 1) hkl HND.out HE.out k3
                          case measure => simp [intOf]; omega
                        | false =>
                          cases hze : wd.req.zero with
                          | true =>
                            have HV := Lib.hid (show wantBad s false la wd = 0 by simp [wantBad, hpl, hst, hze, h5, h6])
                            have HE := Lib.hid (HFA.out.2 HV.out)
                            go_wp2
                            go_roundw
                            case rel => exact fairRel_next (k := j + 1) hkl HND.out HE.out k3
                            case measure => simp [intOf]; omega
                          | false =>
                            have HV := Lib.hid (show wantBad s false la wd = 1 by simp [wantBad, hpl, hst, hze, h5, h6])
                            have HE := Lib.hid (fair_some HCK.out HOK.out (HFA.out.1 (by rw [HV.out]; decide)))
                            go_wp2
                            go_ret2
                            exact ⟨ret_pair HE.out HV.out.symm rfl, kw3⟩
              · have HE := Lib.hid (fair_fine HCK.out HOK.out (by have h := HFW.out; rw [List.drop_of_length_le (by have := HN4.out; omega)] at h; exact h.symm))
                have kw : Below w.heap.size w wr := (below_two _ _ _).trans (hbr.mono (by omega))
                go_wp2
                go_ret2
                exact ⟨ret_pair HE.out rfl rfl, kw⟩
  · have HE := Lib.hid (fair_bad (x := x) hck)
    have hcm : ((check s).1 != 0) = true := by simpa using hck
    clear hck
    go_wp2
    go_ret2
    exact ⟨ret_pair' HE.out, kw1⟩
end Go.Proofs.YtpfjeoldgcepnaaGreatDoor
