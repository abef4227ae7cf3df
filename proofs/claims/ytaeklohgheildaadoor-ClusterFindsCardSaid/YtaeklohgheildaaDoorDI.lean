/- The program's sizesMayBe and Check: what is amiss first with a snapshot. -/
import Derived.Test.YtaeklohgheildaaDoorDHN
import Derived.Test.YtaeklohgheildaaDoorDHL
import Derived.Test.YtaeklohgheildaaDoorDHP
import Derived.Test.YtaeklohgheildaaDoorCH
namespace Go.Proofs.YtaeklohgheildaaDoor
open Go.RowKit
set_option linter.unusedVariables false

def fewB (n1 n2 n3 : Nat) : Bool := inB n1 1 8 && (decide (n2 ≤ 8) && decide (n3 ≤ 12))
set_option maxHeartbeats 1600000 in
theorem sizes_any (A1 A2 A3 : Option Addr) (n1 c1 n2 c2 n3 c3 : Nat) (w : World) :
    Calls Tryd.prog 28 #[snapV A1 A2 A3 n1 c1 n2 c2 n3 c3] w fun e w' => e = .returned (.bool (fewB n1 n2 n3)) ∧ Below w.heap.size w w' := by
  have b00 : Below w.heap.size w (w.alloc (.cells #[.slice A1 n1 c1, .slice A2 n2 c2, .slice A3 n3 c3] 26)) := (Below.refl _ _).alloc (Nat.le_refl _) _
  go_enter Tryd.func28, Tryd.ntmps28
  go_wp2_with fail
  refine (within_any _ _ _ _).mono ?_
  rintro e w' ⟨rfl, rfl⟩
  by_cases h1 : inB n1 1 8 = true
  · by_cases h2 : n2 ≤ 8
    · by_cases h3 : n3 ≤ 12
      · have HE := Lib.hid (show fewB n1 n2 n3 = true by simp [fewB, h1, h2, h3])
        have d2 : decide ((n2 : Int) ≤ 8) = true := decide_eq_true (by omega)
        have d3 : decide ((n3 : Int) ≤ 12) = true := decide_eq_true (by omega)
        go_wp2
        go_ret
        exact ⟨ret_bool HE.out.symm, b00⟩
      · have HE := Lib.hid (show fewB n1 n2 n3 = false by simp [fewB]; omega)
        have d2 : decide ((n2 : Int) ≤ 8) = true := decide_eq_true (by omega)
        have d3 : decide ((n3 : Int) ≤ 12) = false := decide_eq_false (by omega)
        go_wp2
        go_ret
        exact ⟨ret_bool HE.out.symm, b00⟩
    · have HE := Lib.hid (show fewB n1 n2 n3 = false by simp [fewB]; omega)
      have d2 : decide ((n2 : Int) ≤ 8) = false := decide_eq_false (by omega)
      go_wp2
      go_ret
      exact ⟨ret_bool HE.out.symm, b00⟩
  · have h1' : inB n1 1 8 = false := by simpa using h1
    have HE := Lib.hid (show fewB n1 n2 n3 = false by simp [fewB, h1'])
    clear h1
    go_wp2
    go_ret
    exact ⟨ret_bool HE.out.symm, b00⟩
theorem few_large (s : SnapD) : large s = !fewB s.nodes.length s.loads.length s.pods.length := by
  unfold large fewB inB
  generalize s.nodes.length = a
  generalize s.loads.length = b
  generalize s.pods.length = c
  rw [Bool.eq_iff_iff]
  simp
  omega
theorem errTo_each {p : Int × Int} {w w' : World} {b : Int} {k g : Nat} (hp : p = (b, (k : Int))) (hb : Below w.heap.size w w') (hg : w.heap.size ≤ g) (hc : w'.heap[g]? = some (.cells #[.int .i64 (k : Int), .int .i64 b] 96 (0, 0))) :
    ErrTo p w (.returned (.iface 91 (.pointer (some ⟨g, 0, none⟩)))) w' :=
  ⟨_, rfl, .inr (.inr ⟨k, g, by rw [hp], rfl, hg, by rw [hp]; exact hc⟩), hb⟩

set_option maxHeartbeats 3200000 in
set_option maxRecDepth 100000 in
theorem check_holds : CheckHolds := by
  intro s A1 A2 A3 n1 c1 n2 c2 n3 c3 B w hok hn1 hn2 hn3 hl1 hl2 hl3 p1 p2 p3 q1 q2 q3 hB hr1 hr2 hr3
  have b00 : Below w.heap.size w (w.alloc (.cells #[.slice A1 n1 c1, .slice A2 n2 c2, .slice A3 n3 c3] 26)) := (Below.refl _ _).alloc (Nat.le_refl _) _
  have HN1 := Lib.hid hn1
  have HN2 := Lib.hid hn2
  have HN3 := Lib.hid hn3
  have HR1 := Lib.hid (hr1.more hB)
  have HR2 := Lib.hid (hr2.more hB)
  have HR3 := Lib.hid (hr3.more hB)
  have HLG := Lib.hid (few_large s)
  clear hok hn1 hn2 hn3 hr1 hr2 hr3 q1 q2 q3 p1 p2 p3 hB
  have hmf : ∀ (fn : Fn) (first cap : Array Value) (w : World), (Instr.makeFunc fn first cap).run Tryd.prog w = .ok (.func fn first cap) w := fun _ _ _ _ => rfl
  go_enter Tryd.func12, Tryd.ntmps12
  go_wp2_with fail
  refine (sizes_any _ _ _ _ _ _ _ _ _ _).mono ?_
  rintro e w1 ⟨rfl, hb1⟩
  have k1 : Below (w.heap.size + 1) (w.alloc (.cells #[.slice A1 n1 c1, .slice A2 n2 c2, .slice A3 n3 c3] 26)) w1 := hb1.mono (by simp)
  have kw1 : Below w.heap.size w w1 := b00.trans (k1.mono (by omega))
  obtain ⟨a0, a1, a2⟩ := box_cells k1
  by_cases hf : fewB n1 n2 n3 = true
  · have HNL := Lib.hid (show ¬ large s = true by rw [HLG.out, ← HN1.out, ← HN2.out, ← HN3.out, hf]; decide)
    have HC1 : Hid (Calls Tryd.prog 29 #[.slice A1 n1 c1, .int .i64 0, .func (.func 30) #[] #[], .func (.func 31) #[] #[]] w1 (EachTo (firstBad nodeBad NodeD.id 0 0 s.nodes) w1)) :=
      eachN_any s.nodes 0 A1 n1 c1 w1 HN1.out (by omega) (by omega) ((HR1.out.below kw1 (Nat.le_refl _)).more kw1.size)
    go_wp2_with fail
    refine HC1.out.mono ?_
    rintro e w2 ⟨hb2, hh⟩
    have k2 : Below (w.heap.size + 1) (w.alloc (.cells #[.slice A1 n1 c1, .slice A2 n2 c2, .slice A3 n3 c3] 26)) w2 := k1.trans (hb2.mono (by have := k1.size; simpa using this))
    have kw2 : Below w.heap.size w w2 := b00.trans (k2.mono (by omega))
    obtain ⟨d0, d1, d2⟩ := box_cells k2
    clear a0 a1 a2
    rcases hh with ⟨hF1, rfl⟩ | ⟨b, k, g, hF1, rfl, hg, hcell⟩
    · have HF1 := Lib.hid hF1
      clear hF1
      have HC2 : Hid (Calls Tryd.prog 32 #[.slice A2 n2 c2, .int .i64 (n1 : Int), .func (.func 33) #[] #[], .func (.func 34) #[] #[]] w2 (EachTo (firstBad loadBad LoadD.id 0 n1 s.loads) w2)) :=
        eachL_any s.loads n1 A2 n2 c2 w2 HN2.out (by omega) (by omega) ((HR2.out.below kw2 (Nat.le_refl _)).more kw2.size)
      go_wp2_with fail
      refine HC2.out.mono ?_
      rintro e w3 ⟨hb3, hh⟩
      have k3 : Below (w.heap.size + 1) (w.alloc (.cells #[.slice A1 n1 c1, .slice A2 n2 c2, .slice A3 n3 c3] 26)) w3 := k2.trans (hb3.mono (by have := k2.size; simpa using this))
      have kw3 : Below w.heap.size w w3 := b00.trans (k3.mono (by omega))
      obtain ⟨f0, f1, f2⟩ := box_cells k3
      clear d0 d1 d2
      rcases hh with ⟨hF2, rfl⟩ | ⟨b, k, g, hF2, rfl, hg, hcell⟩
      · have HF2 := Lib.hid hF2
        clear hF2
        have HC3 : Hid (Calls Tryd.prog 35 #[.slice A3 n3 c3, .int .i64 ((n1 : Int) + (n2 : Int)), .func (.func 36) #[] #[], .func (.func 37) #[] #[.pointer (some ⟨w.heap.size, 0, none⟩)]] w3 (EachTo (firstBad (podBad s.nodes s.loads) PodD.id 0 (n1 + n2) s.pods) w3)) := by
          have := eachP_any s.pods s.nodes s.loads w.heap.size (n1 + n2) A3 n3 c3 w3 HN3.out (by omega) (by omega) ((HR3.out.below kw3 (Nat.le_refl _)).more kw3.size) (fun x v hv => by
            have k4 := k3.trans (hv.mono (by have := k3.size; simpa using this))
            have kw4 : Below w.heap.size w v := b00.trans (k4.mono (by omega))
            obtain ⟨z0, z1, z2⟩ := box_cells k4
            exact podClosure_any s.nodes s.loads x w.heap.size A1 A2 A3 n1 c1 n2 c2 n3 c3 v z0 z1 z2 HN1.out HN2.out (by omega) (by omega) ((HR1.out.below kw4 (Nat.le_refl _)).more kw4.size) ((HR2.out.below kw4 (Nat.le_refl _)).more kw4.size))
          simp only [Int.natCast_add] at this
          exact this
        go_wp2_with fail
        refine HC3.out.mono ?_
        rintro e w4 ⟨hb4, hh⟩
        have kw4 : Below w.heap.size w w4 := kw3.trans (hb4.mono kw3.size)
        rcases hh with ⟨hF3, rfl⟩ | ⟨b, k, g, hF3, rfl, hg, hcell⟩
        · have HE := Lib.hid (check_fine HNL.out HF1.out (by rw [← HN1.out]; exact HF2.out) (by rw [← HN1.out, ← HN2.out]; exact hF3))
          clear hF3
          go_wp2
          go_ret
          exact ⟨_, rfl, .inl ⟨HE.out, rfl⟩, kw4⟩
        · have HE := Lib.hid (check_pod HNL.out HF1.out (by rw [← HN1.out]; exact HF2.out) (by rw [← HN1.out, ← HN2.out]; exact hF3))
          have HCC := Lib.hid hcell
          have hg' : w.heap.size ≤ g := Nat.le_trans kw3.size hg
          clear hF3 hcell
          go_wp2
          go_ret
          exact errTo_each HE.out kw4 hg' HCC.out
      · have HE := Lib.hid (check_load HNL.out HF1.out (by rw [← HN1.out]; exact hF2))
        have HCC := Lib.hid hcell
        have hg' : w.heap.size ≤ g := Nat.le_trans kw2.size hg
        clear hF2 hcell
        go_wp2
        go_ret
        exact errTo_each HE.out kw3 hg' HCC.out
    · have HE := Lib.hid (check_node HNL.out hF1)
      have HCC := Lib.hid hcell
      have hg' : w.heap.size ≤ g := Nat.le_trans kw1.size hg
      clear hF1 hcell
      go_wp2
      go_ret
      exact errTo_each HE.out kw2 hg' HCC.out
  · have hf' : fewB n1 n2 n3 = false := by simpa using hf
    have HE := Lib.hid (check_large (s := s) (by rw [HLG.out, ← HN1.out, ← HN2.out, ← HN3.out, hf']; rfl))
    clear hf
    go_wp2
    go_ret
    exact ⟨_, rfl, .inr (.inl ⟨by rw [HE.out], by rw [HE.out]; decide, by rw [HE.out]; decide, by rw [HE.out]; rfl⟩), kw1⟩
end Go.Proofs.YtaeklohgheildaaDoor
