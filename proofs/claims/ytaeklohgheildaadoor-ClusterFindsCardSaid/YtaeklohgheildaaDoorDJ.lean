/- The program's Fair: what is amiss first with a spec. -/
import Derived.Test.YtaeklohgheildaaDoorDI
namespace Go.Proofs.YtaeklohgheildaaDoor
open Go.RowKit
set_option linter.unusedVariables false

theorem ErrIs.more {p : Int × Int} {B B' : Nat} {w : World} {u : Value} (h : ErrIs p B w u) (hB : B' ≤ B) : ErrIs p B' w u := by
  rcases h with h | h | ⟨k, g, h1, h2, h3, h4⟩
  · exact .inl h
  · exact .inr (.inl h)
  · exact .inr (.inr ⟨k, g, h1, h2, Nat.le_trans hB h3, h4⟩)
theorem want_key {s : SnapD} {l : List WantD} {k : Nat} {fst : Bool} {la : Int} {y : WantD} (hk : k < l.length) (hy : l[k] = y) (h0 : k = 0 → fst = true) (h1 : ∀ j (hj : j < l.length), k = j + 1 → fst = false ∧ la = l[j].pod) :
    wantBad s fst la y = orI (ordAt WantD.pod l k) (wantF s.pods y) := by
  cases k with
  | zero =>
    obtain rfl := h0 rfl
    simp [wantBad, ordAt, orI, wantF]
  | succ j =>
    obtain ⟨rfl, rfl⟩ := h1 j (by omega) rfl
    rw [ordAt_next hk, hy]
    unfold wantBad ordI orI wantF
    by_cases e1 : y.pod = l[j].pod
    · simp [e1]
    · by_cases e2 : y.pod < l[j].pod
      · simp [e1, e2]
      · simp [e1, e2]

theorem fair_end {w W v : World} {f : Int × Int} {b b' : Int} {m g : Nat} (kW : Below w.heap.size w W) (h : Keeps W v) (hF : f = (b', (m : Int))) (hb : b' = b) (hg : g = v.heap.size) :
    ErrTo f w (.returned (.iface 91 (.pointer (some ⟨g, 0, none⟩)))) (v.alloc (.cells #[.int .i64 (m : Int), .int .i64 b] 96)) := by
  have kv : Below w.heap.size w v := kW.trans (h.2.mono kW.size)
  subst hg hb
  exact errTo_each hF (kv.alloc kv.size _) kv.size (each_new v _)
theorem firstWant_end {s : SnapD} {l : List WantD} {fst : Bool} {la : Int} {k m : Nat} {F : Option (Int × Nat)} (h : l.length ≤ k) (hf : firstWant s fst la m (l.drop k) = F) : F = none := by
  rw [List.drop_of_length_le h, firstWant] at hf
  exact hf.symm
set_option maxHeartbeats 6400000 in
set_option maxRecDepth 100000 in
theorem fair_holds : FairHolds := by
  intro s x A1 A2 A3 A4 n1 c1 n2 c2 n3 c3 n4 c4 B w hok hwo hi1 hi2 hn1 hn2 hn3 hn4 hl1 hl2 hl3 hl4 p1 p2 p3 p4 q1 q2 q3 q4 hB hr1 hr2 hr3 hr4
  have b00 := below_two w (.cells #[.slice A1 n1 c1, .slice A2 n2 c2, .slice A3 n3 c3] 26) (.cells #[.slice A4 n4 c4, .int .i64 x.preempts, .int .i64 x.shifts] 29)
  have HN3 := Lib.hid hn3
  have HN4 := Lib.hid hn4
  have HR3 := Lib.hid (hr3.more hB)
  have HR4 := Lib.hid (hr4.more hB)
  have HCH := Lib.hid (check_holds s A1 A2 A3 n1 c1 n2 c2 n3 c3 B ((w.alloc (.cells #[.slice A1 n1 c1, .slice A2 n2 c2, .slice A3 n3 c3] 26)).alloc (.cells #[.slice A4 n4 c4, .int .i64 x.preempts, .int .i64 x.shifts] 29)) hok hn1 hn2 hn3 hl1 hl2 hl3 p1 p2 p3 q1 q2 q3 (Nat.le_trans hB b00.size) (hr1.below b00 hB) (hr2.below b00 hB) (hr3.below b00 hB))
  clear hok hwo hi1 hi2 hn1 hn2 hn3 hn4 hr1 hr2 hr3 hr4 q1 q2 q3 q4 p1 p2 p3 p4 hB
  go_enter Tryd.func13, Tryd.ntmps13
  go_wp2_with fail
  refine HCH.out.mono ?_
  rintro e w1 ⟨u, rfl, hu, hb1⟩
  have k1 : Below (w.heap.size + 2) ((w.alloc (.cells #[.slice A1 n1 c1, .slice A2 n2 c2, .slice A3 n3 c3] 26)).alloc (.cells #[.slice A4 n4 c4, .int .i64 x.preempts, .int .i64 x.shifts] 29)) w1 := hb1.mono (by simp)
  have kw1 : Below w.heap.size w w1 := b00.trans (k1.mono (by omega))
  obtain ⟨⟨a0, a1, a2⟩, a3, a4, a5⟩ := box2_cells k1
  by_cases hck : (check s).1 = 0
  · have hcz := check_zero hck
    obtain rfl := errIs_none hu hck (by rw [hcz])
    have HCK := Lib.hid hck
    clear hu hck hcz
    go_wp2_with fail
    refine (within_any _ _ _ _).mono ?_
    rintro e w' ⟨rfl, rfl⟩
    by_cases hp1 : inB x.preempts 0 40 = true
    · go_wp2_with fail
      refine (within_any _ _ _ _).mono ?_
      rintro e w' ⟨rfl, rfl⟩
      by_cases hp2 : inB x.shifts 0 40 = true
      · have HOK := Lib.hid (show ¬ (x.preempts < 0 ∨ 40 < x.preempts ∨ x.shifts < 0 ∨ 40 < x.shifts) by have := inB_iff.1 hp1; have := inB_iff.1 hp2; omega)
        go_wp2
        go_loopw [28] (FairRel s x ((w.alloc (.cells #[.slice A1 n1 c1, .slice A2 n2 c2, .slice A3 n3 c3] 26)).alloc (.cells #[.slice A4 n4 c4, .int .i64 x.preempts, .int .i64 x.shifts] 29)) (w.heap.size + 2)) (fun i _ => n4 - (intOf i).toNat)
        case atStart => exact ⟨0, true, 0, by omega, rfl, fun _ => rfl, fun j hj h => by omega, rfl, k1⟩
        case round =>
          clear a0 a1 a2 a3 a4 a5
          obtain ⟨k, fst, la, hk, rfl, hfs, hfl, hfb, hbr⟩ := hrel
          have HFS := Lib.hid hfs
          have HFL := Lib.hid hfl
          have HFB := Lib.hid hfb
          clear hfs hfl hfb
          have hzr : w.heap.size + 2 ≤ wr.heap.size := by have := hbr.size; simpa using this
          have kwr : Below w.heap.size w wr := b00.trans (hbr.mono (by omega))
          by_cases hlt : k < n4
          · have hkl : k < x.wants.length := by have := HN4.out; omega
            have HOF := Lib.hid (fun (v : World) (hv : Below w.heap.size w v) => orderW_any x.wants k A4 n4 c4 v HN4.out (by omega) hkl ((HR4.out.below hv (Nat.le_refl _)).more hv.size))
            obtain ⟨b, o, rfl, hb, he⟩ := HR4.out.at hkl
            generalize hx : x.wants[k] = y at *
            have HX := Lib.hid hx
            clear hx
            have e0 : wr.cell? ⟨b, o + k * 6, none⟩ = some (.int .i64 y.pod) := (kwr.cell (p := ⟨b, o + k * 6, none⟩) hb).trans (he 0 _ rfl)
            have e1 : wr.cell? ⟨b, o + k * 6 + 1, none⟩ = some (.int .u64 y.req.a) := (kwr.cell (p := ⟨b, o + k * 6 + 1, none⟩) hb).trans (he 1 _ rfl)
            have e2 : wr.cell? ⟨b, o + k * 6 + 2, none⟩ = some (.int .u64 y.req.b) := (kwr.cell (p := ⟨b, o + k * 6 + 2, none⟩) hb).trans (he 2 _ rfl)
            have e3 : wr.cell? ⟨b, o + k * 6 + 3, none⟩ = some (.int .u64 y.req.c) := (kwr.cell (p := ⟨b, o + k * 6 + 3, none⟩) hb).trans (he 3 _ rfl)
            have e4 : wr.cell? ⟨b, o + k * 6 + 4, none⟩ = some (.int .u64 y.req.d) := (kwr.cell (p := ⟨b, o + k * 6 + 4, none⟩) hb).trans (he 4 _ rfl)
            have e5 : wr.cell? ⟨b, o + k * 6 + 5, none⟩ = some (.bool y.stay) := (kwr.cell (p := ⟨b, o + k * 6 + 5, none⟩) hb).trans (he 5 _ rfl)
            have hbw : b < wr.heap.size := by omega
            clear he
            obtain ⟨⟨a0, a1, a2⟩, a3, a4, a5⟩ := box2_cells hbr
            go_wp2
            generalize hW : wr.alloc (.cells #[.int .i64 y.pod, .int .u64 y.req.a, .int .u64 y.req.b, .int .u64 y.req.c, .int .u64 y.req.d, .bool y.stay] 53) = W at *
            have kW : Below w.heap.size w W := by rw [← hW]; exact kwr.alloc kwr.size _
            have kW2 : Below (w.heap.size + 2) ((w.alloc (.cells #[.slice A1 n1 c1, .slice A2 n2 c2, .slice A3 n3 c3] 26)).alloc (.cells #[.slice (some ⟨b, o, none⟩) n4 c4, .int .i64 x.preempts, .int .i64 x.shifts] 29)) W := by rw [← hW]; exact hbr.alloc hzr _
            have hgW : wr.heap.size < W.heap.size := by rw [← hW]; simp
            have hgW0 : w.heap.size < W.heap.size := by omega
            have hgW1 : w.heap.size + 1 < W.heap.size := by omega
            have f0 : W.cell? ⟨wr.heap.size, 0, none⟩ = some (.int .i64 y.pod) := by rw [← hW]; simp
            have f1 : W.cell? ⟨wr.heap.size, 1, none⟩ = some (.int .u64 y.req.a) := by rw [← hW]; simp
            have f2 : W.cell? ⟨wr.heap.size, 2, none⟩ = some (.int .u64 y.req.b) := by rw [← hW]; simp
            have f3 : W.cell? ⟨wr.heap.size, 3, none⟩ = some (.int .u64 y.req.c) := by rw [← hW]; simp
            have f4 : W.cell? ⟨wr.heap.size, 4, none⟩ = some (.int .u64 y.req.d) := by rw [← hW]; simp
            have f5 : W.cell? ⟨wr.heap.size, 5, none⟩ = some (.bool y.stay) := by rw [← hW]; simp
            clear hW a0 a1 a2 a3 a4 a5
            obtain ⟨⟨a0, a1, a2⟩, a3, a4, a5⟩ := box2_cells kW2
            generalize hq : ordAt WantD.pod x.wants k = q at *
            generalize ht : wantF s.pods y = t
            have HQ := Lib.hid hq
            have HT := Lib.hid ht
            clear hq ht
            have HIF2 : Hid (∀ v : World, ((∀ b o, b < W.heap.size → v.cell? ⟨b, o, none⟩ = W.cell? ⟨b, o, none⟩) ∧ Below W.heap.size W v) → Calls Tryd.prog 41 #[.slice (some ⟨b, o, none⟩) n4 c4, .int .i64 (k : Int), .func (.func 42) #[] #[]] v fun e w' => e = .returned (.int .i64 q) ∧ Below v.heap.size v w') := fun v hv => HOF.out v (kW.trans (hv.2.mono kW.size))
            have HOT2 : Hid (∀ v : World, ((∀ b o, b < W.heap.size → v.cell? ⟨b, o, none⟩ = W.cell? ⟨b, o, none⟩) ∧ Below W.heap.size W v) → Calls Tryd.prog 43 #[.agg #[.slice A1 n1 c1, .slice A2 n2 c2, .slice A3 n3 c3], aggW y] v fun e w' => e = .returned (.int .i64 t) ∧ Below v.heap.size v w') := by
              have := HT.out
              subst this
              exact fun v hv => wantFault_any s.pods y A1 A2 A3 n1 c1 n2 c2 n3 c3 v HN3.out (by omega) ((HR3.out.below (kW.trans (hv.2.mono kW.size)) (Nat.le_refl _)).more (kW.trans (hv.2.mono kW.size)).size)
            go_region_held3 (fun w' => (∀ b o, b < W.heap.size → w'.cell? ⟨b, o, none⟩ = W.cell? ⟨b, o, none⟩) ∧ Below W.heap.size W w')
              (first | (with_reducible assumption) | exact Keeps.of (Below.drew (Below.refl _ _)) | exact Keeps.step (by assumption) (by assumption) | exact Keeps.alloc (by assumption) _)
              (first
                | (go_at_call 41; refine (HIF2.out _ (by assumption)).mono ?_; rintro e w' ⟨rfl, hb⟩)
                | (go_at_call 43; refine (HOT2.out _ (by assumption)).mono ?_; rintro e w' ⟨rfl, hb⟩)
                | (go_at_call 40; refine (or_any q t _ _ (by simp) (by simp)).mono ?_; rintro e w' ⟨rfl, rfl⟩))
            have HV := Lib.hid (show wantBad s fst la y = orI q t by rw [want_key hkl HX.out HFS.out HFL.out, HT.out, HQ.out])
            have HFA := Lib.hid (firstWant_at hkl HX.out HFB.out)
            by_cases h0 : orI q t = 0
            · have hz : (orI q t != 0) = false := by simp [h0]
              have HE := Lib.hid (HFA.out.2 (by rw [HV.out]; exact h0))
              clear h0
              go_wp2
              go_roundw
              case rel => exact fairRel_next hkl HX.out HE.out (kW2.trans ((by assumption : Keeps W _).2.mono (by omega)))
              case measure => simp [intOf]; omega
            · have hz : (orI q t != 0) = true := by simpa using h0
              have HE := Lib.hid (fair_some HCK.out HOK.out (HFA.out.1 (by rw [HV.out]; exact h0)))
              clear h0
              go_wp2_with fail
              refine (spot_any _ _ _).mono ?_
              rintro e w2 ⟨rfl, rfl⟩
              go_wp2
              go_ret
              refine fair_end kW ?_ HE.out HV.out ?_
              · assumption
              · simp
          · have HE := Lib.hid (fair_fine HCK.out HOK.out (firstWant_end (by have := HN4.out; omega) HFB.out))
            go_wp2
            go_ret
            exact ⟨_, rfl, .inl ⟨HE.out, rfl⟩, kwr⟩
      · have hp2' : inB x.shifts 0 40 = false := by simpa using hp2
        have HE := Lib.hid (fair_large (x := x) HCK.out (by have := mt inB_iff.2 (by rw [hp2']; decide : ¬ inB x.shifts 0 40 = true); omega))
        clear hp2
        go_wp2
        go_ret
        exact ⟨_, rfl, .inr (.inl ⟨by rw [HE.out], by rw [HE.out]; decide, by rw [HE.out]; decide, by rw [HE.out]; rfl⟩), kw1⟩
    · have hp1' : inB x.preempts 0 40 = false := by simpa using hp1
      have HE := Lib.hid (fair_large (x := x) HCK.out (by have := mt inB_iff.2 (by rw [hp1']; decide : ¬ inB x.preempts 0 40 = true); omega))
      clear hp1
      go_wp2
      go_ret
      exact ⟨_, rfl, .inr (.inl ⟨by rw [HE.out], by rw [HE.out]; decide, by rw [HE.out]; decide, by rw [HE.out]; rfl⟩), kw1⟩
  · obtain ⟨t, v, rfl⟩ := errIs_some hu hck
    have HU := Lib.hid hu
    have HE := Lib.hid (fair_bad (x := x) hck)
    clear hu hck
    go_wp2
    go_ret
    exact ⟨_, rfl, by rw [HE.out]; exact HU.out.more b00.size, kw1⟩
end Go.Proofs.YtaeklohgheildaaDoor
