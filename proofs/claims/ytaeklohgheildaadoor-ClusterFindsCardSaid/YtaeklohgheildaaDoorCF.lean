/- dunnageref03.Fair. -/
import Derived.Test.YtaeklohgheildaaDoorCE
import Derived.Deep.QuietTactic
import Derived.BigQuiet
namespace Go.Proofs.YtaeklohgheildaaDoor
open Go.RowKit
set_option linter.unusedVariables false
set_option linter.unusedSimpArgs false

theorem below_draws {B : Nat} {a w : World} (h : Below B a w) (n : Nat) : Below B a (w.drewN n) := ⟨h.os, h.tape, h.output, h.size, h.block⟩
theorem box2_cells {w wr : World} {x y z x' y' z' : Value} {t t' : TypeId} (hb : Below (w.heap.size + 2) ((w.alloc (.cells #[x, y, z] t)).alloc (.cells #[x', y', z'] t')) wr) :
    (wr.cell? ⟨w.heap.size, 0, none⟩ = some x ∧ wr.cell? ⟨w.heap.size, 1, none⟩ = some y ∧ wr.cell? ⟨w.heap.size, 2, none⟩ = some z) ∧
    (wr.cell? ⟨w.heap.size + 1, 0, none⟩ = some x' ∧ wr.cell? ⟨w.heap.size + 1, 1, none⟩ = some y' ∧ wr.cell? ⟨w.heap.size + 1, 2, none⟩ = some z') := by
  refine ⟨⟨?_, ?_, ?_⟩, ?_, ?_, ?_⟩
  all_goals
    rw [hb.cell (by simp)]
    simp
def FairRel (s : SnapD) (x : SpecD) (W : World) (B : Nat) (i : Value) (wr : World) : Prop :=
  ∃ (k : Nat) (fst : Bool) (la : Int), k ≤ x.wants.length ∧ i = .int .i64 k ∧ (k = 0 → fst = true) ∧ (∀ j (hj : j < x.wants.length), k = j + 1 → fst = false ∧ la = x.wants[j].pod) ∧
    firstWant s fst la k (x.wants.drop k) = firstWant s true 0 0 x.wants ∧ Below B W wr
theorem fairRel_next {s : SnapD} {x : SpecD} {W wr : World} {B k : Nat} {wd : WantD} (hk : k < x.wants.length) (hx : x.wants[k] = wd) (h : firstWant s false wd.pod (k + 1) (x.wants.drop (k + 1)) = firstWant s true 0 0 x.wants) (hb : Below B W wr) : FairRel s x W B (.int .i64 ((k : Int) + 1)) wr := by
  refine ⟨k + 1, false, wd.pod, by omega, by simp, fun h => by omega, fun j hj h => ⟨rfl, ?_⟩, h, hb⟩
  obtain rfl : j = k := by omega
  rw [hx]
theorem firstWant_at {s : SnapD} {l : List WantD} {fst : Bool} {la : Int} {k m : Nat} {F : Option (Int × Nat)} (h : k < l.length) {x : WantD} (hx : l[k] = x) (hf : firstWant s fst la m (l.drop k) = F) :
    (wantBad s fst la x ≠ 0 → F = some (wantBad s fst la x, m)) ∧ (wantBad s fst la x = 0 → firstWant s false x.pod (m + 1) (l.drop (k + 1)) = F) := by
  rw [List.drop_eq_getElem_cons h, hx, firstWant] at hf
  constructor
  · intro hb; rw [if_pos hb] at hf; exact hf.symm
  · intro hb; rw [if_neg (by simpa using hb)] at hf; exact hf
theorem fair_bad {s : SnapD} {x : SpecD} (h : (check s).1 ≠ 0) : fair s x = check s := by unfold fair; rw [if_pos h]
theorem fair_large {s : SnapD} {x : SpecD} (h : (check s).1 = 0) (h1 : x.preempts < 0 ∨ 40 < x.preempts ∨ x.shifts < 0 ∨ 40 < x.shifts) : fair s x = (3, -1) := by unfold fair; rw [if_neg (by simpa using h), if_pos h1]
theorem fair_some {s : SnapD} {x : SpecD} (h : (check s).1 = 0) (h1 : ¬ (x.preempts < 0 ∨ 40 < x.preempts ∨ x.shifts < 0 ∨ 40 < x.shifts)) {b : Int} {k : Nat} (hf : firstWant s true 0 0 x.wants = some (b, k)) : fair s x = (b, (k : Int)) := by
  unfold fair; rw [if_neg (by simpa using h), if_neg h1, hf]
theorem fair_fine {s : SnapD} {x : SpecD} (h : (check s).1 = 0) (h1 : ¬ (x.preempts < 0 ∨ 40 < x.preempts ∨ x.shifts < 0 ∨ 40 < x.shifts)) (hf : firstWant s true 0 0 x.wants = none) : fair s x = (0, -1) := by
  unfold fair; rw [if_neg (by simpa using h), if_neg h1, hf]
theorem ret_pair' {p q : Int × Int} (h : p = q) : Ending.returned (.tuple #[.int .i64 q.1, .int .i64 q.2]) = .returned (.tuple #[.int .i64 p.1, .int .i64 p.2]) := by rw [h]

set_option maxHeartbeats 6400000 in
set_option maxRecDepth 100000 in
theorem rFair_any (s : SnapD) (x : SpecD) (A1 A2 A3 A4 : Option Addr) (n1 c1 n2 c2 n3 c3 n4 c4 B : Nat) (w : World) (hn1 : n1 = s.nodes.length) (hn2 : n2 = s.loads.length) (hn3 : n3 = s.pods.length) (hn4 : n4 = x.wants.length) (hl1 : n1 ≤ 40) (hl2 : n2 ≤ 40) (hl3 : n3 ≤ 40) (hl4 : n4 ≤ 40) (hB : B ≤ w.heap.size)
    (hr1 : Recs 10 cellsN w B A1 s.nodes) (hr2 : Recs 5 cellsL w B A2 s.loads) (hr3 : Recs 8 cellsP w B A3 s.pods) (hr4 : Recs 6 cellsW w B A4 x.wants) :
    Calls Tryd.prog 10 #[.agg #[.slice A1 n1 c1, .slice A2 n2 c2, .slice A3 n3 c3], .agg #[.slice A4 n4 c4, .int .i64 x.preempts, .int .i64 x.shifts]] w fun e w' => e = .returned (.tuple #[.int .i64 (fair s x).1, .int .i64 (fair s x).2]) ∧ Below w.heap.size w w' := by
  have HR1 := Lib.hid hr1
  have HR2 := Lib.hid hr2
  have HR3 := Lib.hid hr3
  have HR4 := Lib.hid hr4
  have HN1 := Lib.hid hn1
  have HN2 := Lib.hid hn2
  have HN3 := Lib.hid hn3
  have HN4 := Lib.hid hn4
  clear hr1 hr2 hr3 hr4 hn1 hn2 hn3 hn4
  have b00 : Below w.heap.size w ((w.alloc (.cells #[.slice A1 n1 c1, .slice A2 n2 c2, .slice A3 n3 c3] 26)).alloc (.cells #[.slice A4 n4 c4, .int .i64 x.preempts, .int .i64 x.shifts] 29)) := below_two _ _ _
  have hsz0 : w.heap.size ≤ ((w.alloc (.cells #[.slice A1 n1 c1, .slice A2 n2 c2, .slice A3 n3 c3] 26)).alloc (.cells #[.slice A4 n4 c4, .int .i64 x.preempts, .int .i64 x.shifts] 29)).heap.size := by simp; omega
  have HCH := Lib.hid (rCheck_any s A1 A2 A3 n1 c1 n2 c2 n3 c3 B ((w.alloc (.cells #[.slice A1 n1 c1, .slice A2 n2 c2, .slice A3 n3 c3] 26)).alloc (.cells #[.slice A4 n4 c4, .int .i64 x.preempts, .int .i64 x.shifts] 29)) HN1.out HN2.out HN3.out hl1 hl2 hl3 (by omega) (HR1.out.below b00 hB) (HR2.out.below b00 hB) (HR3.out.below b00 hB))
  go_enter Tryd.func10, Tryd.ntmps10
  go_wp2_with fail
  refine HCH.out.mono ?_
  rintro e w1 ⟨rfl, hb1⟩
  have k1 : Below (w.heap.size + 2) ((w.alloc (.cells #[.slice A1 n1 c1, .slice A2 n2 c2, .slice A3 n3 c3] 26)).alloc (.cells #[.slice A4 n4 c4, .int .i64 x.preempts, .int .i64 x.shifts] 29)) w1 := hb1.mono (by simp)
  have kw1 : Below w.heap.size w w1 := b00.trans (k1.mono (by omega))
  obtain ⟨⟨b0, b1, b2⟩, b3, b4, b5⟩ := box2_cells k1
  by_cases hck : (check s).1 = 0
  · by_cases hp1 : x.preempts < 0
    · have HE := Lib.hid (fair_large (x := x) hck (.inl hp1))
      go_wp2
      go_ret2
      exact ⟨ret_pair HE.out rfl rfl, kw1⟩
    · by_cases hp2 : 40 < x.preempts
      · have HE := Lib.hid (fair_large (x := x) hck (.inr (.inl hp2)))
        go_wp2
        go_ret2
        exact ⟨ret_pair HE.out rfl rfl, kw1⟩
      · by_cases hp3 : x.shifts < 0
        · have HE := Lib.hid (fair_large (x := x) hck (.inr (.inr (.inl hp3))))
          go_wp2
          go_ret2
          exact ⟨ret_pair HE.out rfl rfl, kw1⟩
        · by_cases hp4 : 40 < x.shifts
          · have HE := Lib.hid (fair_large (x := x) hck (.inr (.inr (.inr hp4))))
            go_wp2
            go_ret2
            exact ⟨ret_pair HE.out rfl rfl, kw1⟩
          · have HOK := Lib.hid (show ¬ (x.preempts < 0 ∨ 40 < x.preempts ∨ x.shifts < 0 ∨ 40 < x.shifts) by omega)
            have HCK := Lib.hid hck
            go_wp2
            go_loopw [8] (FairRel s x ((w.alloc (.cells #[.slice A1 n1 c1, .slice A2 n2 c2, .slice A3 n3 c3] 26)).alloc (.cells #[.slice A4 n4 c4, .int .i64 x.preempts, .int .i64 x.shifts] 29)) (w.heap.size + 2)) (fun i _ => n4 - (intOf i).toNat)
            case atStart => exact ⟨0, true, 0, by omega, rfl, fun _ => rfl, fun j _ h => by omega, rfl, k1⟩
            case round =>
              clear hck b0 b1 b2 b3 b4 b5 k1 kw1 hb1 HCH
              obtain ⟨k, fst, la, hk, rfl, hf0, hfl, hfw, hbr⟩ := hrel
              have HF0 := Lib.hid hf0
              have HFL := Lib.hid hfl
              have HFW := Lib.hid hfw
              clear hf0 hfl hfw
              obtain ⟨⟨b0, b1, b2⟩, b3, b4, b5⟩ := box2_cells hbr
              have hzr : w.heap.size + 2 ≤ wr.heap.size := by have := hbr.size; simpa using this
              by_cases hlt : k < n4
              · have hkl : k < x.wants.length := by have := HN4.out; omega
                obtain ⟨b, o, rfl, hb, hcells⟩ : ∃ b o, A4 = some ⟨b, o, none⟩ ∧ b < B ∧ ∀ i (h : i < x.wants.length) j u, (cellsW x.wants[i])[j]? = some u → w.cell? ⟨b, o + i * 6 + j, none⟩ = some u := by
                  rcases HR4.out with h0 | h0
                  · rw [h0] at hkl; simp at hkl
                  · exact h0
                have hall : ∀ i (h : i < x.wants.length) j u, (cellsW x.wants[i])[j]? = some u → wr.cell? ⟨b, o + i * 6 + j, none⟩ = some u := fun i hi j u hu => by
                  rw [hbr.cell (p := ⟨b, o + i * 6 + j, none⟩) (by show b < w.heap.size + 2; omega), World.cell?_alloc_lt _ _ _ (by simp; omega), World.cell?_alloc_lt _ _ _ (by show b < w.heap.size; omega)]
                  exact hcells i hi j u hu
                have hold := hall k hkl
                have HALL := Lib.hid hall
                clear hcells hall
                generalize hnd : x.wants[k] = wd at *
                have e0 : wr.cell? ⟨b, o + k * 6, none⟩ = some (.int .i64 wd.pod) := hold 0 _ rfl
                have e1 : wr.cell? ⟨b, o + k * 6 + 1, none⟩ = some (.int .u64 wd.req.a) := hold 1 _ rfl
                have e2 : wr.cell? ⟨b, o + k * 6 + 2, none⟩ = some (.int .u64 wd.req.b) := hold 2 _ rfl
                have e3 : wr.cell? ⟨b, o + k * 6 + 3, none⟩ = some (.int .u64 wd.req.c) := hold 3 _ rfl
                have e4 : wr.cell? ⟨b, o + k * 6 + 4, none⟩ = some (.int .u64 wd.req.d) := hold 4 _ rfl
                have e5 : wr.cell? ⟨b, o + k * 6 + 5, none⟩ = some (.bool wd.stay) := hold 5 _ rfl
                have HND := Lib.hid hnd
                have HFA := Lib.hid (firstWant_at hkl HND.out HFW.out)
                clear hold hnd
                have hwl : w.heap.size < wr.heap.size := by omega
                have hwl1 : w.heap.size + 1 < wr.heap.size := by omega
                have hbl : b < wr.heap.size := by omega
                have hvn := vec_neq0 wd.req
                have k2 : Below (w.heap.size + 2) ((w.alloc (.cells #[.slice A1 n1 c1, .slice A2 n2 c2, .slice A3 n3 c3] 26)).alloc (.cells #[.slice (some ⟨b, o, none⟩) n4 c4, .int .i64 x.preempts, .int .i64 x.shifts] 29)) (wr.alloc (.cells #[.int .i64 wd.pod, .int .u64 wd.req.a, .int .u64 wd.req.b, .int .u64 wd.req.c, .int .u64 wd.req.d, .bool wd.stay] 53)) := hbr.alloc hzr _
                have kw2 : Below w.heap.size w (wr.alloc (.cells #[.int .i64 wd.pod, .int .u64 wd.req.a, .int .u64 wd.req.b, .int .u64 wd.req.c, .int .u64 wd.req.d, .bool wd.stay] 53)) := (below_two _ _ _).trans (k2.mono (by omega))
                have HRP := Lib.hid (HR3.out.below kw2 hB)
                rcases Nat.eq_zero_or_pos k with hk0 | hk0
                · subst hk0
                  simp only [Nat.zero_mul, Nat.add_zero] at e0 e1 e2 e3 e4 e5
                  obtain rfl := HF0.out rfl
                  go_wp2
                  go_quiet (fail)
                  go_wp2
                  go_quiet (fail)
                  go_wp2_with fail
                  refine (rPod_any s.pods wd.pod A3 n3 c3 B _ _ _ HN3.out (by omega) ?_ ?_).mono ?_
                  · show B ≤ (wr.alloc _).heap.size; simp; omega
                  · exact HRP.out
                  rintro e w3 ⟨rfl, hb3⟩
                  have f0 : w3.cell? ⟨wr.heap.size, 0, none⟩ = some (.int .i64 wd.pod) := (hb3.cell (p := ⟨wr.heap.size, 0, none⟩) (by show wr.heap.size < (wr.alloc _).heap.size; simp)).trans (by simp)
                  have f1 : w3.cell? ⟨wr.heap.size, 1, none⟩ = some (.int .u64 wd.req.a) := (hb3.cell (p := ⟨wr.heap.size, 1, none⟩) (by show wr.heap.size < (wr.alloc _).heap.size; simp)).trans (by simp)
                  have f2 : w3.cell? ⟨wr.heap.size, 2, none⟩ = some (.int .u64 wd.req.b) := (hb3.cell (p := ⟨wr.heap.size, 2, none⟩) (by show wr.heap.size < (wr.alloc _).heap.size; simp)).trans (by simp)
                  have f3 : w3.cell? ⟨wr.heap.size, 3, none⟩ = some (.int .u64 wd.req.c) := (hb3.cell (p := ⟨wr.heap.size, 3, none⟩) (by show wr.heap.size < (wr.alloc _).heap.size; simp)).trans (by simp)
                  have f4 : w3.cell? ⟨wr.heap.size, 4, none⟩ = some (.int .u64 wd.req.d) := (hb3.cell (p := ⟨wr.heap.size, 4, none⟩) (by show wr.heap.size < (wr.alloc _).heap.size; simp)).trans (by simp)
                  have f5 : w3.cell? ⟨wr.heap.size, 5, none⟩ = some (.bool wd.stay) := (hb3.cell (p := ⟨wr.heap.size, 5, none⟩) (by show wr.heap.size < (wr.alloc _).heap.size; simp)).trans (by simp)
                  have k3 : Below (w.heap.size + 2) ((w.alloc (.cells #[.slice A1 n1 c1, .slice A2 n2 c2, .slice A3 n3 c3] 26)).alloc (.cells #[.slice (some ⟨b, o, none⟩) n4 c4, .int .i64 x.preempts, .int .i64 x.shifts] 29)) w3 := (below_draws k2 _).trans (hb3.mono (by show w.heap.size + 2 ≤ (wr.alloc _).heap.size; simp; omega))
                  have kw3 : Below w.heap.size w w3 := (below_two _ _ _).trans (k3.mono (by omega))
                  by_cases hpl : place PodD.id wd.pod s.pods 0 < 0
                  · have HV := Lib.hid (show wantBad s true la wd = 4 by simp [wantBad, hpl])
                    have HE := Lib.hid (fair_some HCK.out HOK.out (HFA.out.1 (by rw [HV.out]; decide)))
                    go_wp2
                    go_ret2
                    exact ⟨ret_pair HE.out HV.out.symm rfl, kw3⟩
                  · cases hst : wd.stay with
                    | true =>
                      have HV := Lib.hid (show wantBad s true la wd = 0 by simp [wantBad, hpl, hst])
                      have HE := Lib.hid (HFA.out.2 HV.out)
                      go_wp2
                      go_roundw
                      case rel => exact fairRel_next (k := 0) hkl HND.out HE.out k3
                      case measure => simp [intOf]; omega
                    | false =>
                      cases hze : wd.req.zero with
                      | true =>
                        have HV := Lib.hid (show wantBad s true la wd = 0 by simp [wantBad, hpl, hst, hze])
                        have HE := Lib.hid (HFA.out.2 HV.out)
                        go_wp2
                        go_roundw
                        case rel => exact fairRel_next (k := 0) hkl HND.out HE.out k3
                        case measure => simp [intOf]; omega
                      | false =>
                        have HV := Lib.hid (show wantBad s true la wd = 1 by simp [wantBad, hpl, hst, hze])
                        have HE := Lib.hid (fair_some HCK.out HOK.out (HFA.out.1 (by rw [HV.out]; decide)))
                        go_wp2
                        go_ret2
                        exact ⟨ret_pair HE.out HV.out.symm rfl, kw3⟩
                · obtain ⟨j, rfl⟩ : ∃ j, k = j + 1 := ⟨k - 1, by omega⟩
                  obtain ⟨rfl, hla⟩ := HFL.out j (by omega) rfl
                  have ep : wr.cell? ⟨b, o + j * 6, none⟩ = some (.int .i64 la) := by rw [hla]; exact HALL.out j (by omega) 0 _ rfl
                  clear hla
                  have hj0 : (0 : Int) ≤ (j : Int) := by omega
                  have hj1 : (j : Int) < (n4 : Int) := by omega
                  by_cases h5 : wd.pod = la
                  · have HV := Lib.hid (show wantBad s false la wd = 5 by simp [wantBad, h5])
                    have HE := Lib.hid (fair_some HCK.out HOK.out (HFA.out.1 (by rw [HV.out]; decide)))
                    obtain rfl := h5
                    go_wp2
                    go_quiet (fail)
                    go_wp2
                    go_ret2
                    exact ⟨ret_pair HE.out HV.out.symm rfl, below_draws kw2 _⟩
                  · have h5b : (wd.pod == la) = false := by simpa using h5
                    by_cases h6 : wd.pod < la
                    · have HV := Lib.hid (show wantBad s false la wd = 1 by simp [wantBad, h5, h6])
                      have HE := Lib.hid (fair_some HCK.out HOK.out (HFA.out.1 (by rw [HV.out]; decide)))
                      clear h5
                      go_wp2
                      go_quiet (fail)
                      go_wp2
                      go_quiet (fail)
                      go_wp2
                      go_ret2
                      exact ⟨ret_pair HE.out HV.out.symm rfl, below_draws (below_draws kw2 _) _⟩
                    · go_wp2
                      go_quiet (fail)
                      go_wp2
                      go_quiet (fail)
                      go_wp2_with fail
                      refine (rPod_any s.pods wd.pod A3 n3 c3 B _ _ _ HN3.out (by omega) ?_ ?_).mono ?_
                      · show B ≤ (wr.alloc _).heap.size; simp; omega
                      · exact HRP.out
                      rintro e w3 ⟨rfl, hb3⟩
                      have f0 : w3.cell? ⟨wr.heap.size, 0, none⟩ = some (.int .i64 wd.pod) := (hb3.cell (p := ⟨wr.heap.size, 0, none⟩) (by show wr.heap.size < (wr.alloc _).heap.size; simp)).trans (by simp)
                      have f1 : w3.cell? ⟨wr.heap.size, 1, none⟩ = some (.int .u64 wd.req.a) := (hb3.cell (p := ⟨wr.heap.size, 1, none⟩) (by show wr.heap.size < (wr.alloc _).heap.size; simp)).trans (by simp)
                      have f2 : w3.cell? ⟨wr.heap.size, 2, none⟩ = some (.int .u64 wd.req.b) := (hb3.cell (p := ⟨wr.heap.size, 2, none⟩) (by show wr.heap.size < (wr.alloc _).heap.size; simp)).trans (by simp)
                      have f3 : w3.cell? ⟨wr.heap.size, 3, none⟩ = some (.int .u64 wd.req.c) := (hb3.cell (p := ⟨wr.heap.size, 3, none⟩) (by show wr.heap.size < (wr.alloc _).heap.size; simp)).trans (by simp)
                      have f4 : w3.cell? ⟨wr.heap.size, 4, none⟩ = some (.int .u64 wd.req.d) := (hb3.cell (p := ⟨wr.heap.size, 4, none⟩) (by show wr.heap.size < (wr.alloc _).heap.size; simp)).trans (by simp)
                      have f5 : w3.cell? ⟨wr.heap.size, 5, none⟩ = some (.bool wd.stay) := (hb3.cell (p := ⟨wr.heap.size, 5, none⟩) (by show wr.heap.size < (wr.alloc _).heap.size; simp)).trans (by simp)
                      have k3 : Below (w.heap.size + 2) ((w.alloc (.cells #[.slice A1 n1 c1, .slice A2 n2 c2, .slice A3 n3 c3] 26)).alloc (.cells #[.slice (some ⟨b, o, none⟩) n4 c4, .int .i64 x.preempts, .int .i64 x.shifts] 29)) w3 := (below_draws k2 _).trans (hb3.mono (by show w.heap.size + 2 ≤ (wr.alloc _).heap.size; simp; omega))
                      have kw3 : Below w.heap.size w w3 := (below_two _ _ _).trans (k3.mono (by omega))
                      by_cases hpl : place PodD.id wd.pod s.pods 0 < 0
                      · have HV := Lib.hid (show wantBad s false la wd = 4 by simp [wantBad, hpl, h5, h6])
                        have HE := Lib.hid (fair_some HCK.out HOK.out (HFA.out.1 (by rw [HV.out]; decide)))
                        go_wp2
                        go_ret2
                        exact ⟨ret_pair HE.out HV.out.symm rfl, kw3⟩
                      · cases hst : wd.stay with
                        | true =>
                          have HV := Lib.hid (show wantBad s false la wd = 0 by simp [wantBad, hpl, hst, h5, h6])
                          have HE := Lib.hid (HFA.out.2 HV.out)
                          go_wp2
                          go_roundw
                          case rel => exact fairRel_next (k := j + 1) hkl HND.out HE.out k3
                          case measure => simp [intOf]; omega
                        | false =>
                          cases hze : wd.req.zero with
                          | true =>
                            have HV := Lib.hid (show wantBad s false la wd = 0 by simp [wantBad, hpl, hst, hze, h5, h6])
                            have HE := Lib.hid (HFA.out.2 HV.out)
                            go_wp2
                            go_roundw
                            case rel => exact fairRel_next (k := j + 1) hkl HND.out HE.out k3
                            case measure => simp [intOf]; omega
                          | false =>
                            have HV := Lib.hid (show wantBad s false la wd = 1 by simp [wantBad, hpl, hst, hze, h5, h6])
                            have HE := Lib.hid (fair_some HCK.out HOK.out (HFA.out.1 (by rw [HV.out]; decide)))
                            go_wp2
                            go_ret2
                            exact ⟨ret_pair HE.out HV.out.symm rfl, kw3⟩
              · have HE := Lib.hid (fair_fine HCK.out HOK.out (by have h := HFW.out; rw [List.drop_of_length_le (by have := HN4.out; omega)] at h; exact h.symm))
                have kw : Below w.heap.size w wr := (below_two _ _ _).trans (hbr.mono (by omega))
                go_wp2
                go_ret2
                exact ⟨ret_pair HE.out rfl rfl, kw⟩
  · have HE := Lib.hid (fair_bad (x := x) hck)
    have hcm : ((check s).1 != 0) = true := by simpa using hck
    clear hck
    go_wp2
    go_ret2
    exact ⟨ret_pair' HE.out, kw1⟩
end Go.Proofs.YtaeklohgheildaaDoor
