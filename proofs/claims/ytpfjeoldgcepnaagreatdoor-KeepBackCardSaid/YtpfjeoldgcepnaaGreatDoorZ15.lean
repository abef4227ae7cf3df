/- Joined texts, part 15: DI DJ XC ZC XF UK BP OP XG XH XI WW WQ WK XL1 VD. -/
import Derived.Test.YtpfjeoldgcepnaaGreatDoorZ14
import Derived.Test.YtpfjeoldgcepnaaGreatDoorZ13
import Derived.Test.YtpfjeoldgcepnaaGreatDoorZ02
import Derived.Test.YtpfjeoldgcepnaaGreatDoorZ06
import Derived.Test.YtpfjeoldgcepnaaGreatDoorZ09
import Derived.Test.YtpfjeoldgcepnaaGreatDoorZ03
import Derived.Deep.RegionHeld3
import Derived.BigQuiet
import Derived.Deep.CutRange
import Derived.Test.YtpfjeoldgcepnaaGreatDoorZ12
import Derived.Test.YtpfjeoldgcepnaaGreatDoorZ01
import Derived.Test.YtpfjeoldgcepnaaGreatDoorZ08

/- The program's sizesMayBe and Check: what is amiss first with a snapshot. -/
namespace Go.Proofs.YtpfjeoldgcepnaaGreatDoor
set_option linter.unusedSimpArgs false
open Go.RowKit
set_option linter.unusedVariables false

def fewB (n1 n2 n3 : Nat) : Bool := inB n1 1 8 && (decide (n2 ≤ 8) && decide (n3 ≤ 12))
set_option maxHeartbeats 1600000 in
theorem sizes_any (A1 A2 A3 : Option Addr) (n1 c1 n2 c2 n3 c3 : Nat) (w : World) :
    Calls Tryz.prog 93 #[snapV A1 A2 A3 n1 c1 n2 c2 n3 c3] w fun e w' => e = .returned (.bool (fewB n1 n2 n3)) ∧ Below w.heap.size w w' := by
  have b00 : Below w.heap.size w (w.alloc (.cells #[.slice A1 n1 c1, .slice A2 n2 c2, .slice A3 n3 c3] 26)) := (Below.refl _ _).alloc (Nat.le_refl _) _
  go_enter Tryz.func93, Tryz.ntmps93
  go_wp2_with fail
  refine (within_any _ _ _ _).mono ?_
  rintro e w' ⟨rfl, rfl⟩
  by_cases h1 : inB n1 1 8 = true
  · by_cases h2 : n2 ≤ 8
    · by_cases h3 : n3 ≤ 12
      · have HE := Lib.hid (show fewB n1 n2 n3 = true by simp [fewB, h1, h2, h3])
        have d2 : decide ((n2 : Int) ≤ 8) = true := decide_eq_true (by omega)
        have d3 : decide ((n3 : Int) ≤ 12) = true := decide_eq_true (by omega)
        go_wp2
        go_ret
        exact ⟨ret_bool HE.out.symm, b00⟩
      · have HE := Lib.hid (show fewB n1 n2 n3 = false by simp [fewB]; omega)
        have d2 : decide ((n2 : Int) ≤ 8) = true := decide_eq_true (by omega)
        have d3 : decide ((n3 : Int) ≤ 12) = false := decide_eq_false (by omega)
        go_wp2
        go_ret
        exact ⟨ret_bool HE.out.symm, b00⟩
    · have HE := Lib.hid (show fewB n1 n2 n3 = false by simp [fewB]; omega)
      have d2 : decide ((n2 : Int) ≤ 8) = false := decide_eq_false (by omega)
      go_wp2
      go_ret
      exact ⟨ret_bool HE.out.symm, b00⟩
  · have h1' : inB n1 1 8 = false := by simpa using h1
    have HE := Lib.hid (show fewB n1 n2 n3 = false by simp [fewB, h1'])
    clear h1
    go_wp2
    go_ret
    exact ⟨ret_bool HE.out.symm, b00⟩
theorem few_large (s : SnapD) : large s = !fewB s.nodes.length s.loads.length s.pods.length := by
  unfold large fewB inB
  generalize s.nodes.length = a
  generalize s.loads.length = b
  generalize s.pods.length = c
  rw [Bool.eq_iff_iff]
  simp
  omega
theorem errTo_each {p : Int × Int} {w w' : World} {b : Int} {k g : Nat} (hp : p = (b, (k : Int))) (hb : Below w.heap.size w w') (hg : w.heap.size ≤ g) (hc : w'.heap[g]? = some (.cells #[.int .i64 (k : Int), .int .i64 b] 134 (0, 0))) :
    ErrTo p w (.returned (.iface 129 (.pointer (some ⟨g, 0, none⟩)))) w' :=
  ⟨_, rfl, .inr (.inr ⟨k, g, by rw [hp], rfl, hg, by rw [hp]; exact hc⟩), hb⟩

set_option maxHeartbeats 3200000 in
set_option maxRecDepth 100000 in
theorem check_holds : CheckHolds := by
  intro s A1 A2 A3 n1 c1 n2 c2 n3 c3 B w hok hn1 hn2 hn3 hl1 hl2 hl3 p1 p2 p3 q1 q2 q3 hB hr1 hr2 hr3
  have b00 : Below w.heap.size w (w.alloc (.cells #[.slice A1 n1 c1, .slice A2 n2 c2, .slice A3 n3 c3] 26)) := (Below.refl _ _).alloc (Nat.le_refl _) _
  have HN1 := Lib.hid hn1
  have HN2 := Lib.hid hn2
  have HN3 := Lib.hid hn3
  have HR1 := Lib.hid (hr1.more hB)
  have HR2 := Lib.hid (hr2.more hB)
  have HR3 := Lib.hid (hr3.more hB)
  have HLG := Lib.hid (few_large s)
  clear hok hn1 hn2 hn3 hr1 hr2 hr3 q1 q2 q3 p1 p2 p3 hB
  have hmf : ∀ (fn : Fn) (first cap : Array Value) (w : World), (Instr.makeFunc fn first cap).run Tryz.prog w = .ok (.func fn first cap) w := fun _ _ _ _ => rfl
  go_enter Tryz.func53, Tryz.ntmps53
  go_wp2_with fail
  refine (sizes_any _ _ _ _ _ _ _ _ _ _).mono ?_
  rintro e w1 ⟨rfl, hb1⟩
  have k1 : Below (w.heap.size + 1) (w.alloc (.cells #[.slice A1 n1 c1, .slice A2 n2 c2, .slice A3 n3 c3] 26)) w1 := hb1.mono (by simp)
  have kw1 : Below w.heap.size w w1 := b00.trans (k1.mono (by omega))
  obtain ⟨a0, a1, a2⟩ := box_cells k1
  by_cases hf : fewB n1 n2 n3 = true
  · have HNL := Lib.hid (show ¬ large s = true by rw [HLG.out, ← HN1.out, ← HN2.out, ← HN3.out, hf]; decide)
    have HC1 : Hid (Calls Tryz.prog 94 #[.slice A1 n1 c1, .int .i64 0, .func (.func 88) #[] #[], .func (.func 95) #[] #[]] w1 (EachTo (firstBad nodeBad NodeD.id 0 0 s.nodes) w1)) :=
      eachN_any s.nodes 0 A1 n1 c1 w1 HN1.out (by omega) (by omega) ((HR1.out.below kw1 (Nat.le_refl _)).more kw1.size)
    go_wp2_with fail
    refine HC1.out.mono ?_
    rintro e w2 ⟨hb2, hh⟩
    have k2 : Below (w.heap.size + 1) (w.alloc (.cells #[.slice A1 n1 c1, .slice A2 n2 c2, .slice A3 n3 c3] 26)) w2 := k1.trans (hb2.mono (by have := k1.size; simpa using this))
    have kw2 : Below w.heap.size w w2 := b00.trans (k2.mono (by omega))
    obtain ⟨d0, d1, d2⟩ := box_cells k2
    clear a0 a1 a2
    rcases hh with ⟨hF1, rfl⟩ | ⟨b, k, g, hF1, rfl, hg, hcell⟩
    · have HF1 := Lib.hid hF1
      clear hF1
      have HC2 : Hid (Calls Tryz.prog 96 #[.slice A2 n2 c2, .int .i64 (n1 : Int), .func (.func 97) #[] #[], .func (.func 98) #[] #[]] w2 (EachTo (firstBad loadBad LoadD.id 0 n1 s.loads) w2)) :=
        eachL_any s.loads n1 A2 n2 c2 w2 HN2.out (by omega) (by omega) ((HR2.out.below kw2 (Nat.le_refl _)).more kw2.size)
      go_wp2_with fail
      refine HC2.out.mono ?_
      rintro e w3 ⟨hb3, hh⟩
      have k3 : Below (w.heap.size + 1) (w.alloc (.cells #[.slice A1 n1 c1, .slice A2 n2 c2, .slice A3 n3 c3] 26)) w3 := k2.trans (hb3.mono (by have := k2.size; simpa using this))
      have kw3 : Below w.heap.size w w3 := b00.trans (k3.mono (by omega))
      obtain ⟨f0, f1, f2⟩ := box_cells k3
      clear d0 d1 d2
      rcases hh with ⟨hF2, rfl⟩ | ⟨b, k, g, hF2, rfl, hg, hcell⟩
      · have HF2 := Lib.hid hF2
        clear hF2
        have HC3 : Hid (Calls Tryz.prog 99 #[.slice A3 n3 c3, .int .i64 ((n1 : Int) + (n2 : Int)), .func (.func 100) #[] #[], .func (.func 101) #[] #[.pointer (some ⟨w.heap.size, 0, none⟩)]] w3 (EachTo (firstBad (podBad s.nodes s.loads) PodD.id 0 (n1 + n2) s.pods) w3)) := by
          have := eachP_any s.pods s.nodes s.loads w.heap.size (n1 + n2) A3 n3 c3 w3 HN3.out (by omega) (by omega) ((HR3.out.below kw3 (Nat.le_refl _)).more kw3.size) (fun x v hv => by
            have k4 := k3.trans (hv.mono (by have := k3.size; simpa using this))
            have kw4 : Below w.heap.size w v := b00.trans (k4.mono (by omega))
            obtain ⟨z0, z1, z2⟩ := box_cells k4
            exact podClosure_any s.nodes s.loads x w.heap.size A1 A2 A3 n1 c1 n2 c2 n3 c3 v z0 z1 z2 HN1.out HN2.out (by omega) (by omega) ((HR1.out.below kw4 (Nat.le_refl _)).more kw4.size) ((HR2.out.below kw4 (Nat.le_refl _)).more kw4.size))
          simp only [Int.natCast_add] at this
          exact this
        go_wp2_with fail
        refine HC3.out.mono ?_
        rintro e w4 ⟨hb4, hh⟩
        have kw4 : Below w.heap.size w w4 := kw3.trans (hb4.mono kw3.size)
        rcases hh with ⟨hF3, rfl⟩ | ⟨b, k, g, hF3, rfl, hg, hcell⟩
        · have HE := Lib.hid (check_fine HNL.out HF1.out (by rw [← HN1.out]; exact HF2.out) (by rw [← HN1.out, ← HN2.out]; exact hF3))
          clear hF3
          go_wp2
          go_ret
          exact ⟨_, rfl, .inl ⟨HE.out, rfl⟩, kw4⟩
        · have HE := Lib.hid (check_pod HNL.out HF1.out (by rw [← HN1.out]; exact HF2.out) (by rw [← HN1.out, ← HN2.out]; exact hF3))
          have HCC := Lib.hid hcell
          have hg' : w.heap.size ≤ g := Nat.le_trans kw3.size hg
          clear hF3 hcell
          go_wp2
          go_ret
          exact errTo_each HE.out kw4 hg' HCC.out
      · have HE := Lib.hid (check_load HNL.out HF1.out (by rw [← HN1.out]; exact hF2))
        have HCC := Lib.hid hcell
        have hg' : w.heap.size ≤ g := Nat.le_trans kw2.size hg
        clear hF2 hcell
        go_wp2
        go_ret
        exact errTo_each HE.out kw3 hg' HCC.out
    · have HE := Lib.hid (check_node HNL.out hF1)
      have HCC := Lib.hid hcell
      have hg' : w.heap.size ≤ g := Nat.le_trans kw1.size hg
      clear hF1 hcell
      go_wp2
      go_ret
      exact errTo_each HE.out kw2 hg' HCC.out
  · have hf' : fewB n1 n2 n3 = false := by simpa using hf
    have HE := Lib.hid (check_large (s := s) (by rw [HLG.out, ← HN1.out, ← HN2.out, ← HN3.out, hf']; rfl))
    clear hf
    go_wp2
    go_ret
    exact ⟨_, rfl, .inr (.inl ⟨by rw [HE.out], by rw [HE.out]; decide, by rw [HE.out]; decide, by rw [HE.out]; rfl⟩), kw1⟩
end Go.Proofs.YtpfjeoldgcepnaaGreatDoor

/- The program's Fair: what is amiss first with a spec. -/
namespace Go.Proofs.YtpfjeoldgcepnaaGreatDoor
set_option linter.unusedSimpArgs false
open Go.RowKit
set_option linter.unusedVariables false

theorem ErrIs.more {p : Int × Int} {B B' : Nat} {w : World} {u : Value} (h : ErrIs p B w u) (hB : B' ≤ B) : ErrIs p B' w u := by
  rcases h with h | h | ⟨k, g, h1, h2, h3, h4⟩
  · exact .inl h
  · exact .inr (.inl h)
  · exact .inr (.inr ⟨k, g, h1, h2, Nat.le_trans hB h3, h4⟩)
theorem want_key {s : SnapD} {l : List WantD} {k : Nat} {fst : Bool} {la : Int} {y : WantD} (hk : k < l.length) (hy : l[k] = y) (h0 : k = 0 → fst = true) (h1 : ∀ j (hj : j < l.length), k = j + 1 → fst = false ∧ la = l[j].pod) :
    wantBad s fst la y = orI (ordAt WantD.pod l k) (wantF s.pods y) := by
  cases k with
  | zero =>
    obtain rfl := h0 rfl
    simp [wantBad, ordAt, orI, wantF]
  | succ j =>
    obtain ⟨rfl, rfl⟩ := h1 j (by omega) rfl
    rw [ordAt_next hk, hy]
    unfold wantBad ordI orI wantF
    by_cases e1 : y.pod = l[j].pod
    · simp [e1]
    · by_cases e2 : y.pod < l[j].pod
      · simp [e1, e2]
      · simp [e1, e2]

theorem fair_end {w W v : World} {f : Int × Int} {b b' : Int} {m g : Nat} (kW : Below w.heap.size w W) (h : Keeps W v) (hF : f = (b', (m : Int))) (hb : b' = b) (hg : g = v.heap.size) :
    ErrTo f w (.returned (.iface 129 (.pointer (some ⟨g, 0, none⟩)))) (v.alloc (.cells #[.int .i64 (m : Int), .int .i64 b] 134)) := by
  have kv : Below w.heap.size w v := kW.trans (h.2.mono kW.size)
  subst hg hb
  exact errTo_each hF (kv.alloc kv.size _) kv.size (each_new v _)
theorem firstWant_end {s : SnapD} {l : List WantD} {fst : Bool} {la : Int} {k m : Nat} {F : Option (Int × Nat)} (h : l.length ≤ k) (hf : firstWant s fst la m (l.drop k) = F) : F = none := by
  rw [List.drop_of_length_le h, firstWant] at hf
  exact hf.symm
set_option maxHeartbeats 6400000 in
set_option maxRecDepth 100000 in
theorem fair_holds : FairHolds := by
  intro s x A1 A2 A3 A4 n1 c1 n2 c2 n3 c3 n4 c4 B w hok hwo hi1 hi2 hn1 hn2 hn3 hn4 hl1 hl2 hl3 hl4 p1 p2 p3 p4 q1 q2 q3 q4 hB hr1 hr2 hr3 hr4
  have b00 := below_two w (.cells #[.slice A1 n1 c1, .slice A2 n2 c2, .slice A3 n3 c3] 26) (.cells #[.slice A4 n4 c4, .int .i64 x.preempts, .int .i64 x.shifts] 29)
  have HN3 := Lib.hid hn3
  have HN4 := Lib.hid hn4
  have HR3 := Lib.hid (hr3.more hB)
  have HR4 := Lib.hid (hr4.more hB)
  have HCH := Lib.hid (check_holds s A1 A2 A3 n1 c1 n2 c2 n3 c3 B ((w.alloc (.cells #[.slice A1 n1 c1, .slice A2 n2 c2, .slice A3 n3 c3] 26)).alloc (.cells #[.slice A4 n4 c4, .int .i64 x.preempts, .int .i64 x.shifts] 29)) hok hn1 hn2 hn3 hl1 hl2 hl3 p1 p2 p3 q1 q2 q3 (Nat.le_trans hB b00.size) (hr1.below b00 hB) (hr2.below b00 hB) (hr3.below b00 hB))
  clear hok hwo hi1 hi2 hn1 hn2 hn3 hn4 hr1 hr2 hr3 hr4 q1 q2 q3 q4 p1 p2 p3 p4 hB
  go_enter Tryz.func23, Tryz.ntmps23
  go_wp2_with fail
  refine HCH.out.mono ?_
  rintro e w1 ⟨u, rfl, hu, hb1⟩
  have k1 : Below (w.heap.size + 2) ((w.alloc (.cells #[.slice A1 n1 c1, .slice A2 n2 c2, .slice A3 n3 c3] 26)).alloc (.cells #[.slice A4 n4 c4, .int .i64 x.preempts, .int .i64 x.shifts] 29)) w1 := hb1.mono (by simp)
  have kw1 : Below w.heap.size w w1 := b00.trans (k1.mono (by omega))
  obtain ⟨⟨a0, a1, a2⟩, a3, a4, a5⟩ := box2_cells k1
  by_cases hck : (check s).1 = 0
  · have hcz := check_zero hck
    obtain rfl := errIs_none hu hck (by rw [hcz])
    have HCK := Lib.hid hck
    clear hu hck hcz
    go_wp2_with fail
    refine (within_any _ _ _ _).mono ?_
    rintro e w' ⟨rfl, rfl⟩
    by_cases hp1 : inB x.preempts 0 40 = true
    · go_wp2_with fail
      refine (within_any _ _ _ _).mono ?_
      rintro e w' ⟨rfl, rfl⟩
      by_cases hp2 : inB x.shifts 0 40 = true
      · have HOK := Lib.hid (show ¬ (x.preempts < 0 ∨ 40 < x.preempts ∨ x.shifts < 0 ∨ 40 < x.shifts) by have := inB_iff.1 hp1; have := inB_iff.1 hp2; omega)
        go_wp2
        go_loopw [28] (FairRel s x ((w.alloc (.cells #[.slice A1 n1 c1, .slice A2 n2 c2, .slice A3 n3 c3] 26)).alloc (.cells #[.slice A4 n4 c4, .int .i64 x.preempts, .int .i64 x.shifts] 29)) (w.heap.size + 2)) (fun i _ => n4 - (intOf i).toNat)
        case atStart => exact ⟨0, true, 0, by omega, rfl, fun _ => rfl, fun j hj h => by omega, rfl, k1⟩
        case round =>
          clear a0 a1 a2 a3 a4 a5
          obtain ⟨k, fst, la, hk, rfl, hfs, hfl, hfb, hbr⟩ := hrel
          have HFS := Lib.hid hfs
          have HFL := Lib.hid hfl
          have HFB := Lib.hid hfb
          clear hfs hfl hfb
          have hzr : w.heap.size + 2 ≤ wr.heap.size := by have := hbr.size; simpa using this
          have kwr : Below w.heap.size w wr := b00.trans (hbr.mono (by omega))
          by_cases hlt : k < n4
          · have hkl : k < x.wants.length := by have := HN4.out; omega
            have HOF := Lib.hid (fun (v : World) (hv : Below w.heap.size w v) => orderW_any x.wants k A4 n4 c4 v HN4.out (by omega) hkl ((HR4.out.below hv (Nat.le_refl _)).more hv.size))
            obtain ⟨b, o, rfl, hb, he⟩ := HR4.out.at hkl
            generalize hx : x.wants[k] = y at *
            have HX := Lib.hid hx
            clear hx
            have e0 : wr.cell? ⟨b, o + k * 6, none⟩ = some (.int .i64 y.pod) := (kwr.cell (p := ⟨b, o + k * 6, none⟩) hb).trans (he 0 _ rfl)
            have e1 : wr.cell? ⟨b, o + k * 6 + 1, none⟩ = some (.int .u64 y.req.a) := (kwr.cell (p := ⟨b, o + k * 6 + 1, none⟩) hb).trans (he 1 _ rfl)
            have e2 : wr.cell? ⟨b, o + k * 6 + 2, none⟩ = some (.int .u64 y.req.b) := (kwr.cell (p := ⟨b, o + k * 6 + 2, none⟩) hb).trans (he 2 _ rfl)
            have e3 : wr.cell? ⟨b, o + k * 6 + 3, none⟩ = some (.int .u64 y.req.c) := (kwr.cell (p := ⟨b, o + k * 6 + 3, none⟩) hb).trans (he 3 _ rfl)
            have e4 : wr.cell? ⟨b, o + k * 6 + 4, none⟩ = some (.int .u64 y.req.d) := (kwr.cell (p := ⟨b, o + k * 6 + 4, none⟩) hb).trans (he 4 _ rfl)
            have e5 : wr.cell? ⟨b, o + k * 6 + 5, none⟩ = some (.bool y.stay) := (kwr.cell (p := ⟨b, o + k * 6 + 5, none⟩) hb).trans (he 5 _ rfl)
            have hbw : b < wr.heap.size := by omega
            clear he
            obtain ⟨⟨a0, a1, a2⟩, a3, a4, a5⟩ := box2_cells hbr
            go_wp2
            generalize hW : wr.alloc (.cells #[.int .i64 y.pod, .int .u64 y.req.a, .int .u64 y.req.b, .int .u64 y.req.c, .int .u64 y.req.d, .bool y.stay] 82) = W at *
            have kW : Below w.heap.size w W := by rw [← hW]; exact kwr.alloc kwr.size _
            have kW2 : Below (w.heap.size + 2) ((w.alloc (.cells #[.slice A1 n1 c1, .slice A2 n2 c2, .slice A3 n3 c3] 26)).alloc (.cells #[.slice (some ⟨b, o, none⟩) n4 c4, .int .i64 x.preempts, .int .i64 x.shifts] 29)) W := by rw [← hW]; exact hbr.alloc hzr _
            have hgW : wr.heap.size < W.heap.size := by rw [← hW]; simp
            have hgW0 : w.heap.size < W.heap.size := by omega
            have hgW1 : w.heap.size + 1 < W.heap.size := by omega
            have f0 : W.cell? ⟨wr.heap.size, 0, none⟩ = some (.int .i64 y.pod) := by rw [← hW]; simp
            have f1 : W.cell? ⟨wr.heap.size, 1, none⟩ = some (.int .u64 y.req.a) := by rw [← hW]; simp
            have f2 : W.cell? ⟨wr.heap.size, 2, none⟩ = some (.int .u64 y.req.b) := by rw [← hW]; simp
            have f3 : W.cell? ⟨wr.heap.size, 3, none⟩ = some (.int .u64 y.req.c) := by rw [← hW]; simp
            have f4 : W.cell? ⟨wr.heap.size, 4, none⟩ = some (.int .u64 y.req.d) := by rw [← hW]; simp
            have f5 : W.cell? ⟨wr.heap.size, 5, none⟩ = some (.bool y.stay) := by rw [← hW]; simp
            clear hW a0 a1 a2 a3 a4 a5
            obtain ⟨⟨a0, a1, a2⟩, a3, a4, a5⟩ := box2_cells kW2
            generalize hq : ordAt WantD.pod x.wants k = q at *
            generalize ht : wantF s.pods y = t
            have HQ := Lib.hid hq
            have HT := Lib.hid ht
            clear hq ht
            have HIF2 : Hid (∀ v : World, ((∀ b o, b < W.heap.size → v.cell? ⟨b, o, none⟩ = W.cell? ⟨b, o, none⟩) ∧ Below W.heap.size W v) → Calls Tryz.prog 56 #[.slice (some ⟨b, o, none⟩) n4 c4, .int .i64 (k : Int), .func (.func 57) #[] #[]] v fun e w' => e = .returned (.int .i64 q) ∧ Below v.heap.size v w') := fun v hv => HOF.out v (kW.trans (hv.2.mono kW.size))
            have HOT2 : Hid (∀ v : World, ((∀ b o, b < W.heap.size → v.cell? ⟨b, o, none⟩ = W.cell? ⟨b, o, none⟩) ∧ Below W.heap.size W v) → Calls Tryz.prog 58 #[.agg #[.slice A1 n1 c1, .slice A2 n2 c2, .slice A3 n3 c3], aggW y] v fun e w' => e = .returned (.int .i64 t) ∧ Below v.heap.size v w') := by
              have := HT.out
              subst this
              exact fun v hv => wantFault_any s.pods y A1 A2 A3 n1 c1 n2 c2 n3 c3 v HN3.out (by omega) ((HR3.out.below (kW.trans (hv.2.mono kW.size)) (Nat.le_refl _)).more (kW.trans (hv.2.mono kW.size)).size)
            go_region_held3 (fun w' => (∀ b o, b < W.heap.size → w'.cell? ⟨b, o, none⟩ = W.cell? ⟨b, o, none⟩) ∧ Below W.heap.size W w')
              (first | (with_reducible assumption) | exact Keeps.of (Below.drew (Below.refl _ _)) | exact Keeps.step (by assumption) (by assumption) | exact Keeps.alloc (by assumption) _)
              (first
                | (go_at_call 56; refine (HIF2.out _ (by assumption)).mono ?_; rintro e w' ⟨rfl, hb⟩)
                | (go_at_call 58; refine (HOT2.out _ (by assumption)).mono ?_; rintro e w' ⟨rfl, hb⟩)
                | (go_at_call 55; refine (or_any q t _ _ (by simp) (by simp)).mono ?_; rintro e w' ⟨rfl, rfl⟩))
            have HV := Lib.hid (show wantBad s fst la y = orI q t by rw [want_key hkl HX.out HFS.out HFL.out, HT.out, HQ.out])
            have HFA := Lib.hid (firstWant_at hkl HX.out HFB.out)
            by_cases h0 : orI q t = 0
            · have hz : (orI q t != 0) = false := by simp [h0]
              have HE := Lib.hid (HFA.out.2 (by rw [HV.out]; exact h0))
              clear h0
              go_wp2
              go_roundw
              case rel => exact fairRel_next hkl HX.out HE.out (kW2.trans ((by assumption : Keeps W _).2.mono (by omega)))
              case measure => simp [intOf]; omega
            · have hz : (orI q t != 0) = true := by simpa using h0
              have HE := Lib.hid (fair_some HCK.out HOK.out (HFA.out.1 (by rw [HV.out]; exact h0)))
              clear h0
              go_wp2_with fail
              refine (spot_any _ _ _).mono ?_
              rintro e w2 ⟨rfl, rfl⟩
              go_wp2
              go_ret
              refine fair_end kW ?_ HE.out HV.out ?_
              · assumption
              · simp
          · have HE := Lib.hid (fair_fine HCK.out HOK.out (firstWant_end (by have := HN4.out; omega) HFB.out))
            go_wp2
            go_ret
            exact ⟨_, rfl, .inl ⟨HE.out, rfl⟩, kwr⟩
      · have hp2' : inB x.shifts 0 40 = false := by simpa using hp2
        have HE := Lib.hid (fair_large (x := x) HCK.out (by have := mt inB_iff.2 (by rw [hp2']; decide : ¬ inB x.shifts 0 40 = true); omega))
        clear hp2
        go_wp2
        go_ret
        exact ⟨_, rfl, .inr (.inl ⟨by rw [HE.out], by rw [HE.out]; decide, by rw [HE.out]; decide, by rw [HE.out]; rfl⟩), kw1⟩
    · have hp1' : inB x.preempts 0 40 = false := by simpa using hp1
      have HE := Lib.hid (fair_large (x := x) HCK.out (by have := mt inB_iff.2 (by rw [hp1']; decide : ¬ inB x.preempts 0 40 = true); omega))
      clear hp1
      go_wp2
      go_ret
      exact ⟨_, rfl, .inr (.inl ⟨by rw [HE.out], by rw [HE.out]; decide, by rw [HE.out]; decide, by rw [HE.out]; rfl⟩), kw1⟩
  · obtain ⟨t, v, rfl⟩ := errIs_some hu hck
    have HU := Lib.hid hu
    have HE := Lib.hid (fair_bad (x := x) hck)
    clear hu hck
    go_wp2
    go_ret
    exact ⟨_, rfl, by rw [HE.out]; exact HU.out.more b00.size, kw1⟩
end Go.Proofs.YtpfjeoldgcepnaaGreatDoor

/- The program's Walk of layer 12. -/
namespace Go.Proofs.YtpfjeoldgcepnaaGreatDoor
set_option linter.unusedSimpArgs false
open Go.RowKit
set_option linter.unusedVariables false

theorem ErrIs.put {p : Int × Int} {B : Nat} {w : World} {u : Value} (h : ErrIs p B w u) {q : Addr} (hq : q.block < B) (v : Value) : ErrIs p B (w.setCell q v) u := by
  rcases h with h | h | ⟨k, g, h1, h2, h3, h4⟩
  · exact .inl h
  · exact .inr (.inl h)
  · exact .inr (.inr ⟨k, g, h1, h2, h3, (Below.heap_setCell w q v g (by omega)).trans h4⟩)
theorem T3.past {a b c : List Value} {w V : World} (h : T3 a b c w V) {p : Addr} (hp : w.heap.size + 3 ≤ p.block) (v : Value) : T3 a b c w (V.setCell p v) :=
  ⟨h.one.other (by omega) v, h.two.other (by omega) v, h.three.other (by omega) v, h.below.setCell (by omega) v⟩
theorem OwnAt.from {B : Nat} {l : List PodD} {w : World} {A : Option Addr} {c : Nat} (h : OwnAt B l w A c) : ∀ a, A = some a → B ≤ a.block ∧ a.block < w.heap.size := by
  intro a ha
  rcases h.2 with ⟨h0, _⟩ | ⟨g, cap, cur, hv, hb, hg, _⟩
  · injection h0 with h0 _ _
    rw [h0] at ha; cases ha
  · injection hv with h0 _ _
    rw [h0] at ha
    injection ha with ha
    rw [← ha]
    exact ⟨hb, (Array.getElem?_eq_some_iff.1 hg).1⟩
/-- What is handed in to a walk. -/
structure WalkArgs (s : SnapD) (x : SpecD) (A1 A2 A3 A5 : Option Addr) (n1 c1 n2 c2 n3 c3 n5 c5 : Nat) (w : World) : Prop where
  g : Laid w
  ok : s.Ok
  wo : ∀ a ∈ x.wants, a.Ok
  i1 : I64 x.preempts
  i2 : I64 x.shifts
  s1 : n1 = s.nodes.length ∧ n1 ≤ 40 ∧ n1 ≤ c1 ∧ c1 ≤ maxLen
  s2 : n2 = s.loads.length ∧ n2 ≤ 40 ∧ n2 ≤ c2 ∧ c2 ≤ maxLen
  s3 : n3 = s.pods.length ∧ n3 ≤ 40 ∧ n3 ≤ c3 ∧ c3 ≤ maxLen ∧ (A3 = none → c3 = 0)
  s5 : n5 = x.wants.length ∧ n5 ≤ 40 ∧ n5 ≤ c5 ∧ c5 ≤ maxLen
  r1 : Recs 10 cellsN w w.heap.size A1 s.nodes
  r2 : Recs 5 cellsL w w.heap.size A2 s.loads
  r3 : Recs 8 cellsP w w.heap.size A3 s.pods
  r5 : Recs 6 cellsW w w.heap.size A5 x.wants
theorem WalkArgs.at {s : SnapD} {x : SpecD} {A1 A2 A3 A5 : Option Addr} {n1 c1 n2 c2 n3 c3 n5 c5 : Nat} {w V : World} (h : WalkArgs s x A1 A2 A3 A5 n1 c1 n2 c2 n3 c3 n5 c5 w) (hV : Below w.heap.size w V) : WalkArgs s x A1 A2 A3 A5 n1 c1 n2 c2 n3 c3 n5 c5 V :=
  ⟨Laid.below h.g hV (Nat.le_refl _), h.ok, h.wo, h.i1, h.i2, h.s1, h.s2, h.s3, h.s5, (h.r1.below hV (Nat.le_refl _)).more hV.size, (h.r2.below hV (Nat.le_refl _)).more hV.size, (h.r3.below hV (Nat.le_refl _)).more hV.size, (h.r5.below hV (Nat.le_refl _)).more hV.size⟩
theorem WalkArgs.fair {s : SnapD} {x : SpecD} {A1 A2 A3 A5 : Option Addr} {n1 c1 n2 c2 n3 c3 n5 c5 : Nat} {w : World} (h : WalkArgs s x A1 A2 A3 A5 n1 c1 n2 c2 n3 c3 n5 c5 w) :
    Calls Tryz.prog 23 #[.agg #[.slice A1 n1 c1, .slice A2 n2 c2, .slice A3 n3 c3], .agg #[.slice A5 n5 c5, .int .i64 x.preempts, .int .i64 x.shifts]] w (ErrTo (fair s x) w) :=
  fair_holds s x A1 A2 A3 A5 n1 c1 n2 c2 n3 c3 n5 c5 w.heap.size w h.ok h.wo h.i1 h.i2 h.s1.1 h.s2.1 h.s3.1 h.s5.1 h.s1.2.1 h.s2.2.1 h.s3.2.1 h.s5.2.1 h.s1.2.2.1 h.s2.2.2.1 h.s3.2.2.1 h.s5.2.2.1 h.s1.2.2.2 h.s2.2.2.2 h.s3.2.2.2.1 h.s5.2.2.2 (Nat.le_refl _) h.r1 h.r2 h.r3 h.r5
theorem WalkArgs.safe {s : SnapD} {x : SpecD} {A1 A2 A3 A5 : Option Addr} {n1 c1 n2 c2 n3 c3 n5 c5 : Nat} {w : World} (h : WalkArgs s x A1 A2 A3 A5 n1 c1 n2 c2 n3 c3 n5 c5 w) {l : List PodD} {A : Option Addr} {c : Nat} (hO : Out 8 cellsP w l A c) (hok : ∀ p ∈ l, p.Ok) (hlen : l.length = s.pods.length) : SafeArgs s.nodes s.loads l A1 A2 A n1 n2 l.length c w :=
  ⟨h.g, h.ok.1, hok, h.s1.1, by have := h.s1.2.1; omega, h.r1, h.s2.1, by have := h.s2.2.1; omega, h.r2, rfl, by have h1 := h.s3.1; have h2 := h.s3.2.1; omega, hO.1, hO.2.2.2⟩

end Go.Proofs.YtpfjeoldgcepnaaGreatDoor

/- How many of a load are somewhere, which load is at fault, whether a budget is used up: the reference's Size, Used, Budget of layer 9. -/
namespace Go.Proofs.YtpfjeoldgcepnaaGreatDoor
set_option linter.unusedSimpArgs false
open Go.RowKit
set_option linter.unusedVariables false

end Go.Proofs.YtpfjeoldgcepnaaGreatDoor

/- The reference's two and Apart of layer 7. -/
namespace Go.Proofs.YtpfjeoldgcepnaaGreatDoor
set_option linter.unusedSimpArgs false
open Go.RowKit
set_option linter.unusedVariables false

theorem T3.cells8 {x y : PodD} {a : List Value} {w V : World} (h : T3 a (cellsP x) (cellsP y) w V) :
    ((V.cell? ⟨w.heap.size + 1, 1, none⟩ = some (.int .i64 x.load) ∧ V.cell? ⟨w.heap.size + 1, 4, none⟩ = some (.int .u64 x.req.b) ∧ V.cell? ⟨w.heap.size + 1, 7, none⟩ = some (.int .i64 x.node) ∧ w.heap.size + 1 < V.heap.size) ∧
    (V.cell? ⟨w.heap.size + 2, 1, none⟩ = some (.int .i64 y.load) ∧ V.cell? ⟨w.heap.size + 2, 7, none⟩ = some (.int .i64 y.node) ∧ w.heap.size + 2 < V.heap.size)) :=
  ⟨⟨h.two.cell 1 _ rfl, h.two.cell 4 _ rfl, h.two.cell 7 _ rfl, h.two.lt⟩, h.three.cell 1 _ rfl, h.three.cell 7 _ rfl, h.three.lt⟩
end Go.Proofs.YtpfjeoldgcepnaaGreatDoor

/- The heads of layer 5's laws: few of all, and the document's examples. -/
namespace Go.Proofs.YtpfjeoldgcepnaaGreatDoor
set_option linter.unusedSimpArgs false
open Go.RowKit
set_option linter.unusedVariables false

theorem recs_one {α : Type} {cells : α → List Value} {size : Nat} (w : World) (y : α) (t : TypeId) {g : Nat} (hg : g = w.heap.size) : Recs size cells (w.alloc (.cells (cells y).toArray t)) (g + 1) (some ⟨g, 0, none⟩) [y] := by
  subst hg
  refine .inr ⟨w.heap.size, 0, rfl, by omega, fun i hi j u hu => ?_⟩
  obtain rfl : i = 0 := by simpa using hi
  simp at hu ⊢
  exact hu
theorem Out.alloc {α : Type} {size : Nat} {cells : α → List Value} {w : World} {xs : List α} {A : Option Addr} {c : Nat} (h : Out size cells w xs A c) (o : Obj) : Out size cells (w.alloc o) xs A c :=
  ⟨h.1, h.2.1, h.2.2.1, (h.2.2.2.below ((Below.refl _ w).alloc (Nat.le_refl _) o) (Nat.le_refl _)).more (by simp)⟩
end Go.Proofs.YtpfjeoldgcepnaaGreatDoor

/- The head of layer 7's laws: the document's example, and two pods that clash. -/
namespace Go.Proofs.YtpfjeoldgcepnaaGreatDoor
set_option linter.unusedSimpArgs false
open Go.RowKit
set_option linter.unusedVariables false

end Go.Proofs.YtpfjeoldgcepnaaGreatDoor

/- The head of layer 11's laws: a load of which there are too few and a budget that is used up; nothing at all is safe. -/
namespace Go.Proofs.YtpfjeoldgcepnaaGreatDoor
set_option linter.unusedSimpArgs false
open Go.RowKit
set_option linter.unusedVariables false

end Go.Proofs.YtpfjeoldgcepnaaGreatDoor

/- The reference's Count, Skew and Spread of layer 8. -/
namespace Go.Proofs.YtpfjeoldgcepnaaGreatDoor
set_option linter.unusedSimpArgs false
open Go.RowKit
set_option linter.unusedVariables false

end Go.Proofs.YtpfjeoldgcepnaaGreatDoor

/- The reference's Skew of layer 8. -/
namespace Go.Proofs.YtpfjeoldgcepnaaGreatDoor
set_option linter.unusedSimpArgs false
open Go.RowKit
set_option linter.unusedVariables false

end Go.Proofs.YtpfjeoldgcepnaaGreatDoor

/- The reference's Spread of layer 8. -/
namespace Go.Proofs.YtpfjeoldgcepnaaGreatDoor
set_option linter.unusedSimpArgs false
open Go.RowKit
set_option linter.unusedVariables false

end Go.Proofs.YtpfjeoldgcepnaaGreatDoor

/- The use of a node by the reference. -/
namespace Go.Proofs.YtpfjeoldgcepnaaGreatDoor
set_option linter.unusedSimpArgs false
open Go.RowKit
set_option linter.unusedVariables false

end Go.Proofs.YtpfjeoldgcepnaaGreatDoor

/- A node's rest by the reference. -/
namespace Go.Proofs.YtpfjeoldgcepnaaGreatDoor
set_option linter.unusedSimpArgs false
open Go.RowKit
set_option linter.unusedVariables false

end Go.Proofs.YtpfjeoldgcepnaaGreatDoor

/- The first node at fault by the reference. -/
namespace Go.Proofs.YtpfjeoldgcepnaaGreatDoor
set_option linter.unusedSimpArgs false
open Go.RowKit
set_option linter.unusedVariables false

end Go.Proofs.YtpfjeoldgcepnaaGreatDoor

/- The reference's Why of layer 11. -/
namespace Go.Proofs.YtpfjeoldgcepnaaGreatDoor
set_option linter.unusedSimpArgs false
open Go.RowKit
set_option linter.unusedVariables false

theorem why5 (a b c d e : Int × Int) : whyP [a, b, c, d, e] = if okP a = false then a else if okP b = false then b else if okP c = false then c else if okP d = false then d else if okP e = false then e else (0, -1) := by
  unfold whyP badK
  simp only [List.take_succ_cons, List.take_zero, List.filter_cons, List.filter_nil]
  cases okP a <;> cases okP b <;> cases okP c <;> cases okP d <;> cases okP e <;> simp
theorem spread_pair {ns : List NodeD} {l : List PodD} : ∀ (r : List LoadD) (k : Nat), spreadFrom ns l r k = (0, -1) ∨ ∃ j : Nat, spreadFrom ns l r k = (11, (j : Int))
  | [], _ => .inl rfl
  | x :: r, k => by
    unfold spreadFrom
    split
    · exact .inr ⟨k, rfl⟩
    · exact spread_pair r (k + 1)
/-- The first that is amiss: its number. -/
def whyC (r a s b : Int) (u : Bool) : Int := if r ≠ 0 then r else if 0 ≤ a then 10 else if 0 ≤ s then 11 else if b ≠ 0 then b else if u = true then 15 else 0
theorem codeS_is (ns : List NodeD) (ls : List LoadD) (x : SpecD) (t : StateD) : codeS ns ls x t = whyC (roomOf ns t.pods).1 (apartOf ls t.pods).2 (spreadOf ns ls t.pods).2 (budgetOf ls t.pods).1 (usedD x.preempts x.shifts t.preempts t.shifts) := by
  have h1 := told8_ok (told8_room (l := t.pods) ns 0 (fun _ h => h))
  have h4 := told8_ok (told8_budget (l := t.pods) ls 0)
  change okP (roomOf ns t.pods) = ((roomOf ns t.pods).1 == 0) at h1
  change okP (budgetOf ls t.pods) = ((budgetOf ls t.pods).1 == 0) at h4
  have h2 : apartOf ls t.pods = (0, -1) ∨ ∃ j : Nat, apartOf ls t.pods = (10, (j : Int)) := by
    rcases apartFrom_pair (ls := ls) (l := t.pods) t.pods 0 with ⟨_, e⟩ | e
    · exact .inl e
    · exact .inr e
  have h3 : spreadOf ns ls t.pods = (0, -1) ∨ ∃ j : Nat, spreadOf ns ls t.pods = (11, (j : Int)) := spread_pair ls 0
  unfold codeS fiveP whyC
  rw [why5, h1, h4]
  have k0 : okP (0, -1) = true := rfl
  have k1 : ∀ j : Nat, okP (10, (j : Int)) = false := fun _ => rfl
  have k2 : ∀ j : Nat, okP (11, (j : Int)) = false := fun _ => rfl
  by_cases c1 : (roomOf ns t.pods).1 = 0
  · rcases h2 with e2 | ⟨j, e2⟩
    · rcases h3 with e3 | ⟨j, e3⟩
      · by_cases c4 : (budgetOf ls t.pods).1 = 0
        · rw [e2, e3]
          cases hu : usedD x.preempts x.shifts t.preempts t.shifts <;> simp [c1, c4, usedP, hu, okP]
        · rw [e2, e3]
          simp [c1, c4, k0]
      · rw [e2, e3]
        simp [c1, k0, k2]
    · rw [e2]
      simp [c1, k1]
  · simp [c1]

end Go.Proofs.YtpfjeoldgcepnaaGreatDoor

namespace Go.Proofs.YtpfjeoldgcepnaaGreatDoor
set_option linter.unusedSimpArgs false
open Go.RowKit
set_option linter.unusedVariables false

/-- The zones of these nodes, by their Ids. -/
def zmOf (ns : List NodeD) : Int → Option Int := ns.foldl (fun f n => fun i => if i = n.id then some n.zone else f i) (fun _ => none)
theorem zm_fold : ∀ (ns : List NodeD) (f : Int → Option Int), (ns.map NodeD.id).Nodup → ∀ i z, ns.foldl (fun f n => fun i => if i = n.id then some n.zone else f i) f i = some z ↔ (∃ n ∈ ns, n.id = i ∧ n.zone = z) ∨ ((∀ n ∈ ns, n.id ≠ i) ∧ f i = some z)
  | [], f, _, i, z => by simp
  | x :: r, f, h, i, z => by
    obtain ⟨h1, h2⟩ := List.nodup_cons.1 (by simpa using h : (x.id :: r.map NodeD.id).Nodup)
    rw [List.foldl_cons, zm_fold r _ h2]
    by_cases e : i = x.id
    · subst e
      have hno : ∀ n ∈ r, n.id ≠ x.id := fun n hn e => h1 (e ▸ List.mem_map.2 ⟨n, hn, rfl⟩)
      constructor
      · rintro (⟨n, hn, e, _⟩ | ⟨_, h4⟩)
        · exact absurd e (hno n hn)
        · rw [if_pos rfl] at h4
          exact .inl ⟨x, by simp, rfl, Option.some.inj h4⟩
      · rintro (⟨n, hn, e, h4⟩ | ⟨h4, _⟩)
        · rcases List.mem_cons.1 hn with rfl | hn
          · exact .inr ⟨hno, by rw [if_pos rfl, h4]⟩
          · exact absurd e (hno n hn)
        · exact absurd rfl (h4 x (by simp))
    · constructor
      · rintro (⟨n, hn, h3, h4⟩ | ⟨h3, h4⟩)
        · exact .inl ⟨n, by simp [hn], h3, h4⟩
        · rw [if_neg e] at h4
          refine .inr ⟨fun n hn => ?_, h4⟩
          rcases List.mem_cons.1 hn with rfl | hn
          · exact fun q => e q.symm
          · exact h3 n hn
      · rintro (⟨n, hn, h3, h4⟩ | ⟨h3, h4⟩)
        · rcases List.mem_cons.1 hn with rfl | hn
          · exact absurd h3.symm e
          · exact .inl ⟨n, hn, h3, h4⟩
        · exact .inr ⟨fun n hn => h3 n (by simp [hn]), by rw [if_neg e]; exact h4⟩
theorem zm_is {ns : List NodeD} (h : FineN ns) (i z : Int) : zmOf ns i = some z ↔ ∃ n ∈ ns, n.id = i ∧ n.zone = z := by
  unfold zmOf
  rw [zm_fold ns _ h.one]
  simp
theorem zm_zone {ns : List NodeD} (h : FineN ns) {n : NodeD} (hn : n ∈ ns) : zmOf ns n.id = some n.zone := (zm_is h _ _).2 ⟨n, hn, rfl, rfl⟩

/-! What the checks are by what is counted. -/
def clashL (ns : List NodeD) (c : CntD) (x : LoadD) : Bool := x.apart && ns.any fun n => decide (1 < c.ats x.id n.id)
def leastL (ns : List NodeD) (c : CntD) (x : LoadD) : Int := (ns.map fun n => c.inz x.id n.zone).foldl min 12
def mostL (ns : List NodeD) (c : CntD) (x : LoadD) : Int := (ns.map fun n => c.inz x.id n.zone).foldl max 0
def unlikeL (ns : List NodeD) (c : CntD) (x : LoadD) : Bool := x.skew != 0 && decide (x.skew < mostL ns c x - leastL ns c x)
def budK (c : CntD) : List LoadD → Int
  | [] => 0
  | x :: r => if fault9 x (c.size x.id) = 0 then budK c r else fault9 x (c.size x.id)
def loadsK (ns : List NodeD) (c : CntD) (ls : List LoadD) : Int := if ls.any (clashL ns c) = true then 10 else if ls.any (unlikeL ns c) = true then 11 else budK c ls
def faultK (ns : List NodeD) (c : CntD) (ls : List LoadD) (x : SpecD) (t1 t2 : Int) : Int := if loadsK ns c ls ≠ 0 then loadsK ns c ls else if usedD x.preempts x.shifts t1 t2 = true then 15 else 0

theorem count_two {f : PodD → Bool} : ∀ {l : List PodD}, l.Pairwise (fun p q => ¬ (f p = true ∧ f q = true)) → l.countP f ≤ 1
  | [], _ => by simp
  | x :: r, h => by
    obtain ⟨h1, h2⟩ := List.pairwise_cons.1 h
    rw [List.countP_cons]
    by_cases hx : f x = true
    · have : r.countP f = 0 := by rw [List.countP_eq_zero]; intro y hy hf; exact h1 y hy ⟨hx, hf⟩
      rw [if_pos hx]; omega
    · rw [if_neg hx]; have := count_two h2; omega
theorem apartD_mem {id : Int} : ∀ {ls : List LoadD}, apartD id ls = true → ∃ x ∈ ls, x.id = id ∧ x.apart = true
  | [], h => by cases h
  | x :: r, h => by
    unfold apartD at h
    split at h
    · rename_i e; exact ⟨x, by simp, e, h⟩
    · obtain ⟨y, hy, h2⟩ := apartD_mem h; exact ⟨y, by simp [hy], h2⟩
theorem apartD_is : ∀ {ls : List LoadD}, (ls.map LoadD.id).Nodup → ∀ {x : LoadD}, x ∈ ls → apartD x.id ls = x.apart
  | [], _, x, h => by simp at h
  | y :: r, hn, x, h => by
    obtain ⟨h1, h2⟩ := List.nodup_cons.1 (by simpa using hn : (y.id :: r.map LoadD.id).Nodup)
    unfold apartD
    rcases List.mem_cons.1 h with rfl | hx
    · rw [if_pos rfl]
    · have hne : ¬ y.id = x.id := fun e => h1 (by rw [e]; exact List.mem_map.2 ⟨x, hx, rfl⟩)
      rw [if_neg hne]
      exact apartD_is h2 hx
theorem pair_of_count {ls : List LoadD} : ∀ {l : List PodD}, (∀ x ∈ ls, x.apart = true → ∀ p ∈ l, p.node ≠ 0 → l.countP (atP x.id p.node) ≤ 1) → l.Pairwise (fun p q => clashD ls q p = false)
  | [], _ => List.Pairwise.nil
  | y :: r, h => by
    refine List.pairwise_cons.2 ⟨fun q hq => ?_, pair_of_count fun x hx ha p hp h0 => ?_⟩
    · cases hc : clashD ls q y with
      | false => rfl
      | true =>
        exfalso
        simp only [clashD, Bool.and_eq_true, bne_iff_ne, beq_iff_eq] at hc
        obtain ⟨c1, c2, c3, c4⟩ := hc
        obtain ⟨x, hx, e1, e2⟩ := apartD_mem c4
        have c5 : y.node ≠ 0 := by rw [← c2]; exact c1
        have := h x hx e2 y (by simp) c5
        rw [List.countP_cons, if_pos (by simp [atP, c5, e1, c3])] at this
        have h2 : 0 < r.countP (atP x.id y.node) := by
          rw [List.countP_pos_iff]
          exact ⟨q, hq, by simp [atP, c5, e1, c2]⟩
        omega
    · have := h x hx ha p (by simp [hp]) h0
      rw [List.countP_cons] at this
      omega
theorem apart_is {ns : List NodeD} {ls : List LoadD} {l : List PodD} {zm : Int → Option Int} (hN : FineN ns) (hL : FineL ls) (hP : FineP ns l) : (0 ≤ (apartOf ls l).2) ↔ ls.any (clashL ns (cntOf zm l)) = true := by
  have h1 : (0 ≤ (apartOf ls l).2) ↔ ¬ apartOf ls l = (0, -1) := by
    rcases apartFrom_pair (ls := ls) (l := l) l 0 with ⟨_, e⟩ | ⟨j, e⟩
    · rw [apartOf, e]; simp
    · rw [apartOf, e]; simp
  rw [h1, apart_pairwise, List.any_eq_true]
  constructor
  · intro hp
    refine Classical.byContradiction fun hno => hp (pair_of_count fun x hx ha p hpl h0 => ?_)
    rcases hP.node p hpl with e | ⟨n, hn, e⟩
    · exact absurd e h0
    · refine Nat.le_of_not_lt fun hlt => hno ⟨x, hx, ?_⟩
      unfold clashL
      rw [ha, Bool.true_and, List.any_eq_true]
      refine ⟨n, hn, decide_eq_true ?_⟩
      rw [e]
      show (1 : Int) < (l.countP (atP x.id p.node) : Nat)
      omega
  · rintro ⟨x, hx, hc⟩ hp
    unfold clashL at hc
    rw [Bool.and_eq_true, List.any_eq_true] at hc
    obtain ⟨ha, n, hn, hd⟩ := hc
    have hd := of_decide_eq_true hd
    have hd : 1 < l.countP (atP x.id n.id) := by
      have : (1 : Int) < (l.countP (atP x.id n.id) : Nat) := hd
      omega
    have : l.countP (atP x.id n.id) ≤ 1 := by
      refine count_two (hp.imp fun {p q} h => ?_)
      rintro ⟨f1, f2⟩
      simp only [atP, Bool.and_eq_true, bne_iff_ne, beq_iff_eq] at f1 f2
      have : clashD ls q p = true := by
        simp only [clashD, Bool.and_eq_true, bne_iff_ne, beq_iff_eq]
        refine ⟨f2.1, by rw [f2.2.2, f1.2.2], by rw [f2.2.1, f1.2.1], ?_⟩
        rw [f2.2.1, apartD_is hL.one hx, ha]
      rw [this] at h; cases h
    omega

theorem inz_is {ns : List NodeD} {l : List PodD} (hN : FineN ns) (hP : FineP ns l) (ld z : Int) : l.countP (inP (zmOf ns) ld z) = countD ns ld z l := by
  unfold countD
  refine List.countP_congr fun p hp => ?_
  unfold inP inZ
  by_cases h0 : p.node = 0
  · rw [zoneD_nowhere h0]; simp [h0]
  · rcases hP.node p hp with e | ⟨n, hn, e⟩
    · exact absurd e h0
    · have hpl : ¬ place NodeD.id p.node ns 0 < 0 := by
        rw [place_neg (by omega)]
        intro h; exact h n hn e
      have hg := place_ge (f := NodeD.id) (id := p.node) (l := ns) (k := 0) (by omega)
      obtain ⟨i, hi⟩ := Int.eq_ofNat_of_zero_le (show 0 ≤ place NodeD.id p.node ns 0 by omega)
      have hi' : i < ns.length := by omega
      have e1 := place_eqA (f := NodeD.id) (id := p.node) (l := ns) (k := 0) hi' (by rw [hi]; omega) (by omega)
      rw [zoneD_some h0 hi' hi]
      have : zmOf ns p.node = some ns[i].zone := (zm_is hN _ _).2 ⟨ns[i], List.getElem_mem hi', e1, rfl⟩
      simp [zoneZ, this, h0]
theorem skew_is {ns : List NodeD} {l : List PodD} (hN : FineN ns) (hP : FineP ns l) (x : LoadD) : mostL ns (cntOf (zmOf ns) l) x - leastL ns (cntOf (zmOf ns) l) x = skewD ns x.id (zonesOf ns) l := by
  have hv : (ns.map fun n => (cntOf (zmOf ns) l).inz x.id n.zone) = ns.map fun n => (countD ns x.id n.zone l : Int) := by
    refine List.map_congr_left fun n _ => ?_
    show ((l.countP (inP (zmOf ns) x.id n.zone) : Nat) : Int) = _
    rw [inz_is hN hP]
  unfold mostL leastL
  rw [hv]
  have hz : ∀ y, y ∈ zonesOf ns ↔ y ∈ ns.map NodeD.zone := fun y => by unfold zonesOf; rw [zones_mem]; simp
  have hzs : zonesOf ns ≠ [] := by
    intro e
    cases hns : ns with
    | nil => exact hN.some hns
    | cons n r =>
      have := (hz n.zone).2 (by rw [hns]; simp)
      rw [e] at this
      simp at this
  have hmem : ∀ v, v ∈ countsD ns x.id (zonesOf ns) l ↔ v ∈ ns.map fun n => (countD ns x.id n.zone l : Int) := fun v => by
    unfold countsD
    simp only [List.mem_map]
    constructor
    · rintro ⟨z, h1, h2⟩
      obtain ⟨n, hn, e⟩ := List.mem_map.1 ((hz z).1 h1)
      exact ⟨n, hn, by rw [e]; exact h2⟩
    · rintro ⟨n, hn, h2⟩
      exact ⟨n.zone, (hz _).2 (List.mem_map.2 ⟨n, hn, rfl⟩), h2⟩
  have hne : countsD ns x.id (zonesOf ns) l ≠ [] := counts_ne hzs
  obtain ⟨m1, m2⟩ := maxOf_spec hne
  obtain ⟨n1, n2⟩ := minOf_spec hne
  obtain ⟨f1, f2, f3⟩ := foldl_max (ns.map fun n => (countD ns x.id n.zone l : Int)) 0
  obtain ⟨g1, g2, g3⟩ := foldl_min (ns.map fun n => (countD ns x.id n.zone l : Int)) 12
  have b1 := counts_bounds m1
  have b2 := counts_bounds n1
  have hlen := hP.len
  rw [skewD, if_neg hzs]
  have q1 := f2 _ ((hmem _).1 m1)
  have q2 := g2 _ ((hmem _).1 n1)
  have q3 : (ns.map fun n => (countD ns x.id n.zone l : Int)).foldl max 0 ≤ Lib.maxOf (countsD ns x.id (zonesOf ns) l) := by
    rcases f3 with e | e
    · rw [e]; exact b1.1
    · exact m2 _ ((hmem _).2 e)
  have q4 : Lib.minOf (countsD ns x.id (zonesOf ns) l) ≤ (ns.map fun n => (countD ns x.id n.zone l : Int)).foldl min 12 := by
    rcases g3 with e | e
    · rw [e]; omega
    · exact n2 _ ((hmem _).2 e)
  omega
theorem spread_is {ns : List NodeD} {l : List PodD} (hN : FineN ns) (hP : FineP ns l) : ∀ (ls : List LoadD) (k : Nat), (∀ x ∈ ls, 0 ≤ x.skew) → ((0 ≤ (spreadFrom ns l ls k).2) ↔ ls.any (unlikeL ns (cntOf (zmOf ns) l)) = true)
  | [], k, _ => by simp [spreadFrom]
  | x :: r, k, h => by
    have ih := spread_is hN hP r (k + 1) (fun y hy => h y (by simp [hy]))
    have hx := h x (by simp)
    have hu : unlikeL ns (cntOf (zmOf ns) l) x = decide (0 < x.skew ∧ x.skew < skewD ns x.id (zonesOf ns) l) := by
      unfold unlikeL
      rw [skew_is hN hP]
      by_cases h0 : x.skew = 0
      · simp [h0]
      · have : 0 < x.skew := by omega
        simp [h0, this]
    unfold spreadFrom
    rw [List.any_cons, hu]
    by_cases hc : 0 < x.skew ∧ x.skew < skewD ns x.id (zonesOf ns) l
    · rw [if_pos hc, decide_eq_true hc]; simp
    · rw [if_neg hc, decide_eq_false hc, Bool.false_or]; exact ih
theorem budget_is {zm : Int → Option Int} {l : List PodD} : ∀ (ls : List LoadD) (k : Nat), (budgetFrom l ls k).1 = budK (cntOf zm l) ls
  | [], k => rfl
  | x :: r, k => by
    have e : (cntOf zm l).size x.id = (sizeD x.id l : Nat) := rfl
    unfold budgetFrom budK
    rw [e]
    split
    · exact budget_is r (k + 1)
    · rfl
theorem codeS_K {ns : List NodeD} {ls : List LoadD} {x : SpecD} {t : StateD} (hN : FineN ns) (hL : FineL ls) (hP : FineP ns t.pods) :
    codeS ns ls x t = if (roomOf ns t.pods).1 ≠ 0 then (roomOf ns t.pods).1 else faultK ns (cntOf (zmOf ns) t.pods) ls x t.preempts t.shifts := by
  rw [codeS_is]
  unfold whyC faultK loadsK
  have h1 := apart_is (zm := zmOf ns) hN hL hP
  have h2 := spread_is hN hP ls 0 hL.skew
  have h3 := budget_is (zm := zmOf ns) (l := t.pods) ls 0
  change (0 ≤ (spreadOf ns ls t.pods).2) ↔ _ at h2
  change (budgetOf ls t.pods).1 = _ at h3
  rw [h3]
  by_cases c0 : (roomOf ns t.pods).1 = 0
  · have n0 : ¬ (roomOf ns t.pods).1 ≠ 0 := fun h => h c0
    rw [if_neg n0, if_neg n0]
    by_cases c1 : ls.any (clashL ns (cntOf (zmOf ns) t.pods)) = true
    · rw [if_pos (h1.2 c1), if_pos c1]; simp
    · rw [if_neg (fun e => c1 (h1.1 e)), if_neg c1]
      by_cases c2 : ls.any (unlikeL ns (cntOf (zmOf ns) t.pods)) = true
      · rw [if_pos (h2.2 c2), if_pos c2]; simp
      · rw [if_neg (fun e => c2 (h2.1 e)), if_neg c2]
  · rw [if_pos c0, if_pos c0]
end Go.Proofs.YtpfjeoldgcepnaaGreatDoor
