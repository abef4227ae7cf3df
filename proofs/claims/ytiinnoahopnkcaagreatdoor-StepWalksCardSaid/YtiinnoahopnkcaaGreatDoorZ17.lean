/- Joined texts, part 17: DJ XC ZC. -/
import Derived.Test.YtiinnoahopnkcaaGreatDoorZ16
import Derived.Test.YtiinnoahopnkcaaGreatDoorZ15
import Derived.Test.YtiinnoahopnkcaaGreatDoorZ04
import Derived.Test.YtiinnoahopnkcaaGreatDoorZ08
import Derived.Test.YtiinnoahopnkcaaGreatDoorZ11
import Derived.Test.YtiinnoahopnkcaaGreatDoorZ05
import Derived.Deep.RegionHeld3
import Derived.BigQuiet
import Derived.Deep.CutRange

/- The program's Fair: what is amiss first with a spec. -/
namespace Go.Proofs.YtiinnoahopnkcaaGreatDoor
set_option linter.unusedSimpArgs false
open Go.RowKit
set_option linter.unusedVariables false

theorem ErrIs.more {p : Int × Int} {B B' : Nat} {w : World} {u : Value} (h : ErrIs p B w u) (hB : B' ≤ B) : ErrIs p B' w u := by
  rcases h with h | h | ⟨k, g, h1, h2, h3, h4⟩
  · exact .inl h
  · exact .inr (.inl h)
  · exact .inr (.inr ⟨k, g, h1, h2, Nat.le_trans hB h3, h4⟩)
theorem want_key {s : SnapD} {l : List WantD} {k : Nat} {fst : Bool} {la : Int} {y : WantD} (hk : k < l.length) (hy : l[k] = y) (h0 : k = 0 → fst = true) (h1 : ∀ j (hj : j < l.length), k = j + 1 → fst = false ∧ la = l[j].pod) :
    wantBad s fst la y = orI (ordAt WantD.pod l k) (wantF s.pods y) := by
  cases k with
  | zero =>
    obtain rfl := h0 rfl
    simp [wantBad, ordAt, orI, wantF]
  | succ j =>
    obtain ⟨rfl, rfl⟩ := h1 j (by omega) rfl
    rw [ordAt_next hk, hy]
    unfold wantBad ordI orI wantF
    by_cases e1 : y.pod = l[j].pod
    · simp [e1]
    · by_cases e2 : y.pod < l[j].pod
      · simp [e1, e2]
      · simp [e1, e2]

theorem fair_end {w W v : World} {f : Int × Int} {b b' : Int} {m g : Nat} (kW : Below w.heap.size w W) (h : Keeps W v) (hF : f = (b', (m : Int))) (hb : b' = b) (hg : g = v.heap.size) :
    ErrTo f w (.returned (.iface 88 (.pointer (some ⟨g, 0, none⟩)))) (v.alloc (.cells #[.int .i64 (m : Int), .int .i64 b] 92)) := by
  have kv : Below w.heap.size w v := kW.trans (h.2.mono kW.size)
  subst hg hb
  exact errTo_each hF (kv.alloc kv.size _) kv.size (each_new v _)
theorem firstWant_end {s : SnapD} {l : List WantD} {fst : Bool} {la : Int} {k m : Nat} {F : Option (Int × Nat)} (h : l.length ≤ k) (hf : firstWant s fst la m (l.drop k) = F) : F = none := by
  rw [List.drop_of_length_le h, firstWant] at hf
  exact hf.symm
set_option maxHeartbeats 6400000 in
set_option maxRecDepth 100000 in
theorem fair_holds : FairHolds := by
  intro s x A1 A2 A3 A4 n1 c1 n2 c2 n3 c3 n4 c4 B w hok hwo hi1 hi2 hn1 hn2 hn3 hn4 hl1 hl2 hl3 hl4 p1 p2 p3 p4 q1 q2 q3 q4 hB hr1 hr2 hr3 hr4
  have b00 := below_two w (.cells #[.slice A1 n1 c1, .slice A2 n2 c2, .slice A3 n3 c3] 26) (.cells #[.slice A4 n4 c4, .int .i64 x.preempts, .int .i64 x.shifts] 29)
  have HN3 := Lib.hid hn3
  have HN4 := Lib.hid hn4
  have HR3 := Lib.hid (hr3.more hB)
  have HR4 := Lib.hid (hr4.more hB)
  have HCH := Lib.hid (check_holds s A1 A2 A3 n1 c1 n2 c2 n3 c3 B ((w.alloc (.cells #[.slice A1 n1 c1, .slice A2 n2 c2, .slice A3 n3 c3] 26)).alloc (.cells #[.slice A4 n4 c4, .int .i64 x.preempts, .int .i64 x.shifts] 29)) hok hn1 hn2 hn3 hl1 hl2 hl3 p1 p2 p3 q1 q2 q3 (Nat.le_trans hB b00.size) (hr1.below b00 hB) (hr2.below b00 hB) (hr3.below b00 hB))
  clear hok hwo hi1 hi2 hn1 hn2 hn3 hn4 hr1 hr2 hr3 hr4 q1 q2 q3 q4 p1 p2 p3 p4 hB
  go_enter Tryz.func14, Tryz.ntmps14
  go_wp2_with fail
  refine HCH.out.mono ?_
  rintro e w1 ⟨u, rfl, hu, hb1⟩
  have k1 : Below (w.heap.size + 2) ((w.alloc (.cells #[.slice A1 n1 c1, .slice A2 n2 c2, .slice A3 n3 c3] 26)).alloc (.cells #[.slice A4 n4 c4, .int .i64 x.preempts, .int .i64 x.shifts] 29)) w1 := hb1.mono (by simp)
  have kw1 : Below w.heap.size w w1 := b00.trans (k1.mono (by omega))
  obtain ⟨⟨a0, a1, a2⟩, a3, a4, a5⟩ := box2_cells k1
  by_cases hck : (check s).1 = 0
  · have hcz := check_zero hck
    obtain rfl := errIs_none hu hck (by rw [hcz])
    have HCK := Lib.hid hck
    clear hu hck hcz
    go_wp2_with fail
    refine (within_any _ _ _ _).mono ?_
    rintro e w' ⟨rfl, rfl⟩
    by_cases hp1 : inB x.preempts 0 40 = true
    · go_wp2_with fail
      refine (within_any _ _ _ _).mono ?_
      rintro e w' ⟨rfl, rfl⟩
      by_cases hp2 : inB x.shifts 0 40 = true
      · have HOK := Lib.hid (show ¬ (x.preempts < 0 ∨ 40 < x.preempts ∨ x.shifts < 0 ∨ 40 < x.shifts) by have := inB_iff.1 hp1; have := inB_iff.1 hp2; omega)
        go_wp2
        go_loopw [28] (FairRel s x ((w.alloc (.cells #[.slice A1 n1 c1, .slice A2 n2 c2, .slice A3 n3 c3] 26)).alloc (.cells #[.slice A4 n4 c4, .int .i64 x.preempts, .int .i64 x.shifts] 29)) (w.heap.size + 2)) (fun i _ => n4 - (intOf i).toNat)
        case atStart => exact ⟨0, true, 0, by omega, rfl, fun _ => rfl, fun j hj h => by omega, rfl, k1⟩
        case round =>
          clear a0 a1 a2 a3 a4 a5
          obtain ⟨k, fst, la, hk, rfl, hfs, hfl, hfb, hbr⟩ := hrel
          have HFS := Lib.hid hfs
          have HFL := Lib.hid hfl
          have HFB := Lib.hid hfb
          clear hfs hfl hfb
          have hzr : w.heap.size + 2 ≤ wr.heap.size := by have := hbr.size; simpa using this
          have kwr : Below w.heap.size w wr := b00.trans (hbr.mono (by omega))
          by_cases hlt : k < n4
          · have hkl : k < x.wants.length := by have := HN4.out; omega
            have HOF := Lib.hid (fun (v : World) (hv : Below w.heap.size w v) => orderW_any x.wants k A4 n4 c4 v HN4.out (by omega) hkl ((HR4.out.below hv (Nat.le_refl _)).more hv.size))
            obtain ⟨b, o, rfl, hb, he⟩ := HR4.out.at hkl
            generalize hx : x.wants[k] = y at *
            have HX := Lib.hid hx
            clear hx
            have e0 : wr.cell? ⟨b, o + k * 6, none⟩ = some (.int .i64 y.pod) := (kwr.cell (p := ⟨b, o + k * 6, none⟩) hb).trans (he 0 _ rfl)
            have e1 : wr.cell? ⟨b, o + k * 6 + 1, none⟩ = some (.int .u64 y.req.a) := (kwr.cell (p := ⟨b, o + k * 6 + 1, none⟩) hb).trans (he 1 _ rfl)
            have e2 : wr.cell? ⟨b, o + k * 6 + 2, none⟩ = some (.int .u64 y.req.b) := (kwr.cell (p := ⟨b, o + k * 6 + 2, none⟩) hb).trans (he 2 _ rfl)
            have e3 : wr.cell? ⟨b, o + k * 6 + 3, none⟩ = some (.int .u64 y.req.c) := (kwr.cell (p := ⟨b, o + k * 6 + 3, none⟩) hb).trans (he 3 _ rfl)
            have e4 : wr.cell? ⟨b, o + k * 6 + 4, none⟩ = some (.int .u64 y.req.d) := (kwr.cell (p := ⟨b, o + k * 6 + 4, none⟩) hb).trans (he 4 _ rfl)
            have e5 : wr.cell? ⟨b, o + k * 6 + 5, none⟩ = some (.bool y.stay) := (kwr.cell (p := ⟨b, o + k * 6 + 5, none⟩) hb).trans (he 5 _ rfl)
            have hbw : b < wr.heap.size := by omega
            clear he
            obtain ⟨⟨a0, a1, a2⟩, a3, a4, a5⟩ := box2_cells hbr
            go_wp2
            generalize hW : wr.alloc (.cells #[.int .i64 y.pod, .int .u64 y.req.a, .int .u64 y.req.b, .int .u64 y.req.c, .int .u64 y.req.d, .bool y.stay] 64) = W at *
            have kW : Below w.heap.size w W := by rw [← hW]; exact kwr.alloc kwr.size _
            have kW2 : Below (w.heap.size + 2) ((w.alloc (.cells #[.slice A1 n1 c1, .slice A2 n2 c2, .slice A3 n3 c3] 26)).alloc (.cells #[.slice (some ⟨b, o, none⟩) n4 c4, .int .i64 x.preempts, .int .i64 x.shifts] 29)) W := by rw [← hW]; exact hbr.alloc hzr _
            have hgW : wr.heap.size < W.heap.size := by rw [← hW]; simp
            have hgW0 : w.heap.size < W.heap.size := by omega
            have hgW1 : w.heap.size + 1 < W.heap.size := by omega
            have f0 : W.cell? ⟨wr.heap.size, 0, none⟩ = some (.int .i64 y.pod) := by rw [← hW]; simp
            have f1 : W.cell? ⟨wr.heap.size, 1, none⟩ = some (.int .u64 y.req.a) := by rw [← hW]; simp
            have f2 : W.cell? ⟨wr.heap.size, 2, none⟩ = some (.int .u64 y.req.b) := by rw [← hW]; simp
            have f3 : W.cell? ⟨wr.heap.size, 3, none⟩ = some (.int .u64 y.req.c) := by rw [← hW]; simp
            have f4 : W.cell? ⟨wr.heap.size, 4, none⟩ = some (.int .u64 y.req.d) := by rw [← hW]; simp
            have f5 : W.cell? ⟨wr.heap.size, 5, none⟩ = some (.bool y.stay) := by rw [← hW]; simp
            clear hW a0 a1 a2 a3 a4 a5
            obtain ⟨⟨a0, a1, a2⟩, a3, a4, a5⟩ := box2_cells kW2
            generalize hq : ordAt WantD.pod x.wants k = q at *
            generalize ht : wantF s.pods y = t
            have HQ := Lib.hid hq
            have HT := Lib.hid ht
            clear hq ht
            have HIF2 : Hid (∀ v : World, ((∀ b o, b < W.heap.size → v.cell? ⟨b, o, none⟩ = W.cell? ⟨b, o, none⟩) ∧ Below W.heap.size W v) → Calls Tryz.prog 28 #[.slice (some ⟨b, o, none⟩) n4 c4, .int .i64 (k : Int), .func (.func 29) #[] #[]] v fun e w' => e = .returned (.int .i64 q) ∧ Below v.heap.size v w') := fun v hv => HOF.out v (kW.trans (hv.2.mono kW.size))
            have HOT2 : Hid (∀ v : World, ((∀ b o, b < W.heap.size → v.cell? ⟨b, o, none⟩ = W.cell? ⟨b, o, none⟩) ∧ Below W.heap.size W v) → Calls Tryz.prog 30 #[.agg #[.slice A1 n1 c1, .slice A2 n2 c2, .slice A3 n3 c3], aggW y] v fun e w' => e = .returned (.int .i64 t) ∧ Below v.heap.size v w') := by
              have := HT.out
              subst this
              exact fun v hv => wantFault_any s.pods y A1 A2 A3 n1 c1 n2 c2 n3 c3 v HN3.out (by omega) ((HR3.out.below (kW.trans (hv.2.mono kW.size)) (Nat.le_refl _)).more (kW.trans (hv.2.mono kW.size)).size)
            go_region_held3 (fun w' => (∀ b o, b < W.heap.size → w'.cell? ⟨b, o, none⟩ = W.cell? ⟨b, o, none⟩) ∧ Below W.heap.size W w')
              (first | (with_reducible assumption) | exact Keeps.of (Below.drew (Below.refl _ _)) | exact Keeps.step (by assumption) (by assumption) | exact Keeps.alloc (by assumption) _)
              (first
                | (go_at_call 28; refine (HIF2.out _ (by assumption)).mono ?_; rintro e w' ⟨rfl, hb⟩)
                | (go_at_call 30; refine (HOT2.out _ (by assumption)).mono ?_; rintro e w' ⟨rfl, hb⟩)
                | (go_at_call 27; refine (or_any q t _ _ (by simp) (by simp)).mono ?_; rintro e w' ⟨rfl, rfl⟩))
            have HV := Lib.hid (show wantBad s fst la y = orI q t by rw [want_key hkl HX.out HFS.out HFL.out, HT.out, HQ.out])
            have HFA := Lib.hid (firstWant_at hkl HX.out HFB.out)
            by_cases h0 : orI q t = 0
            · have hz : (orI q t != 0) = false := by simp [h0]
              have HE := Lib.hid (HFA.out.2 (by rw [HV.out]; exact h0))
              clear h0
              go_wp2
              go_roundw
              case rel => exact fairRel_next hkl HX.out HE.out (kW2.trans ((by assumption : Keeps W _).2.mono (by omega)))
              case measure => simp [intOf]; omega
            · have hz : (orI q t != 0) = true := by simpa using h0
              have HE := Lib.hid (fair_some HCK.out HOK.out (HFA.out.1 (by rw [HV.out]; exact h0)))
              clear h0
              go_wp2_with fail
              refine (spot_any _ _ _).mono ?_
              rintro e w2 ⟨rfl, rfl⟩
              go_wp2
              go_ret
              refine fair_end kW ?_ HE.out HV.out ?_
              · assumption
              · simp
          · have HE := Lib.hid (fair_fine HCK.out HOK.out (firstWant_end (by have := HN4.out; omega) HFB.out))
            go_wp2
            go_ret
            exact ⟨_, rfl, .inl ⟨HE.out, rfl⟩, kwr⟩
      · have hp2' : inB x.shifts 0 40 = false := by simpa using hp2
        have HE := Lib.hid (fair_large (x := x) HCK.out (by have := mt inB_iff.2 (by rw [hp2']; decide : ¬ inB x.shifts 0 40 = true); omega))
        clear hp2
        go_wp2
        go_ret
        exact ⟨_, rfl, .inr (.inl ⟨by rw [HE.out], by rw [HE.out]; decide, by rw [HE.out]; decide, by rw [HE.out]; rfl⟩), kw1⟩
    · have hp1' : inB x.preempts 0 40 = false := by simpa using hp1
      have HE := Lib.hid (fair_large (x := x) HCK.out (by have := mt inB_iff.2 (by rw [hp1']; decide : ¬ inB x.preempts 0 40 = true); omega))
      clear hp1
      go_wp2
      go_ret
      exact ⟨_, rfl, .inr (.inl ⟨by rw [HE.out], by rw [HE.out]; decide, by rw [HE.out]; decide, by rw [HE.out]; rfl⟩), kw1⟩
  · obtain ⟨t, v, rfl⟩ := errIs_some hu hck
    have HU := Lib.hid hu
    have HE := Lib.hid (fair_bad (x := x) hck)
    clear hu hck
    go_wp2
    go_ret
    exact ⟨_, rfl, by rw [HE.out]; exact HU.out.more b00.size, kw1⟩
end Go.Proofs.YtiinnoahopnkcaaGreatDoor

/- The program's Walk of layer 12. -/
namespace Go.Proofs.YtiinnoahopnkcaaGreatDoor
set_option linter.unusedSimpArgs false
open Go.RowKit
set_option linter.unusedVariables false

theorem ErrIs.put {p : Int × Int} {B : Nat} {w : World} {u : Value} (h : ErrIs p B w u) {q : Addr} (hq : q.block < B) (v : Value) : ErrIs p B (w.setCell q v) u := by
  rcases h with h | h | ⟨k, g, h1, h2, h3, h4⟩
  · exact .inl h
  · exact .inr (.inl h)
  · exact .inr (.inr ⟨k, g, h1, h2, h3, (Below.heap_setCell w q v g (by omega)).trans h4⟩)
theorem T3.past {a b c : List Value} {w V : World} (h : T3 a b c w V) {p : Addr} (hp : w.heap.size + 3 ≤ p.block) (v : Value) : T3 a b c w (V.setCell p v) :=
  ⟨h.one.other (by omega) v, h.two.other (by omega) v, h.three.other (by omega) v, h.below.setCell (by omega) v⟩
theorem OwnAt.from {B : Nat} {l : List PodD} {w : World} {A : Option Addr} {c : Nat} (h : OwnAt B l w A c) : ∀ a, A = some a → B ≤ a.block ∧ a.block < w.heap.size := by
  intro a ha
  rcases h.2 with ⟨h0, _⟩ | ⟨g, cap, cur, hv, hb, hg, _⟩
  · injection h0 with h0 _ _
    rw [h0] at ha; cases ha
  · injection hv with h0 _ _
    rw [h0] at ha
    injection ha with ha
    rw [← ha]
    exact ⟨hb, (Array.getElem?_eq_some_iff.1 hg).1⟩
set_option maxHeartbeats 800000 in
/-- The first state, in memory of the call's own. -/
theorem stateFirst_new (l : List PodD) (A : Option Addr) (n c : Nat) (v0 v1 : Value) (w : World) (hn : n = l.length) (hl : n ≤ 1000) (h0 : A = none → c = 0) (hr : Recs 8 cellsP w w.heap.size A l) :
    Calls Tryz.prog 15 #[.agg #[v0, v1, .slice A n c]] w fun e w' => ∃ A' c', e = .returned (stateV A' n c' 0 0) ∧ Out 8 cellsP w' l A' c' ∧ (∀ a, A' = some a → w.heap.size ≤ a.block ∧ a.block < w'.heap.size) ∧ Below w.heap.size w w' := by
  have b00 := below_two w (.cells #[v0, v1, .slice A n c] 26) (.cells #[.slice none 0 0, .int .i64 0, .int .i64 0] 34)
  have HF := Lib.hid (clone_any l A n c ((w.alloc (.cells #[v0, v1, .slice A n c] 26)).alloc (.cells #[.slice none 0 0, .int .i64 0, .int .i64 0] 34)) hn hl h0 ((hr.below b00 (Nat.le_refl _)).more b00.size))
  have HN := Lib.hid hn
  clear hr hn h0
  go_enter Tryz.func15, Tryz.ntmps15
  go_wp2_with fail
  refine HF.out.mono ?_
  rintro e w1 ⟨A', c', rfl, ho, hb1⟩
  have HO := Lib.hid ho
  clear ho
  have kw1 := b00.trans (hb1.mono b00.size)
  have hz1 : w.heap.size + 2 ≤ w1.heap.size := by have := hb1.size; simpa using this
  have g0 : w1.cell? ⟨w.heap.size + 1, 0, none⟩ = some (.slice none 0 0) := (hb1.cell (p := ⟨w.heap.size + 1, 0, none⟩) (by simp)).trans (by simp)
  have h0 : w1.frozen? ⟨w.heap.size + 1, 0, none⟩ = false := (hb1.frozen (p := ⟨w.heap.size + 1, 0, none⟩) (by simp)).trans (by simp)
  have g1 : w1.cell? ⟨w.heap.size + 1, 1, none⟩ = some (.int .i64 0) := (hb1.cell (p := ⟨w.heap.size + 1, 1, none⟩) (by simp)).trans (by simp)
  have h1 : w1.frozen? ⟨w.heap.size + 1, 1, none⟩ = false := (hb1.frozen (p := ⟨w.heap.size + 1, 1, none⟩) (by simp)).trans (by simp)
  have g2 : w1.cell? ⟨w.heap.size + 1, 2, none⟩ = some (.int .i64 0) := (hb1.cell (p := ⟨w.heap.size + 1, 2, none⟩) (by simp)).trans (by simp)
  have h2 : w1.frozen? ⟨w.heap.size + 1, 2, none⟩ = false := (hb1.frozen (p := ⟨w.heap.size + 1, 2, none⟩) (by simp)).trans (by simp)
  have HFR := Lib.hid (show ∀ a, A' = some a → w.heap.size ≤ a.block ∧ a.block < w1.heap.size from fun a ha => by have := (OwnAt.of HO.out).from a ha; simp at this; omega)
  go_wp2
  refine bodyPost_ret (v := stateV A' n c' 0 0) ?_ rfl ?_
  · simp [results, Tryz.results15, go_sem, *]
  · refine ⟨A', c', rfl, ((((OwnAt.of HO.out).set (by simp) _).set (by simp) _).set (by simp) _).out, fun a ha => by have := HFR.out a ha; simpa using this, ?_⟩
    repeat (first | with_reducible exact kw1 | with_reducible refine Below.setCell ?_ ?_ _)
    all_goals (show w.heap.size ≤ w.heap.size + 1; omega)

/-- What is handed in to a walk. -/
structure WalkArgs (s : SnapD) (x : SpecD) (A1 A2 A3 A5 : Option Addr) (n1 c1 n2 c2 n3 c3 n5 c5 : Nat) (w : World) : Prop where
  g : Laid w
  ok : s.Ok
  wo : ∀ a ∈ x.wants, a.Ok
  i1 : I64 x.preempts
  i2 : I64 x.shifts
  s1 : n1 = s.nodes.length ∧ n1 ≤ 40 ∧ n1 ≤ c1 ∧ c1 ≤ maxLen
  s2 : n2 = s.loads.length ∧ n2 ≤ 40 ∧ n2 ≤ c2 ∧ c2 ≤ maxLen
  s3 : n3 = s.pods.length ∧ n3 ≤ 40 ∧ n3 ≤ c3 ∧ c3 ≤ maxLen ∧ (A3 = none → c3 = 0)
  s5 : n5 = x.wants.length ∧ n5 ≤ 40 ∧ n5 ≤ c5 ∧ c5 ≤ maxLen
  r1 : Recs 10 cellsN w w.heap.size A1 s.nodes
  r2 : Recs 5 cellsL w w.heap.size A2 s.loads
  r3 : Recs 8 cellsP w w.heap.size A3 s.pods
  r5 : Recs 6 cellsW w w.heap.size A5 x.wants
theorem WalkArgs.at {s : SnapD} {x : SpecD} {A1 A2 A3 A5 : Option Addr} {n1 c1 n2 c2 n3 c3 n5 c5 : Nat} {w V : World} (h : WalkArgs s x A1 A2 A3 A5 n1 c1 n2 c2 n3 c3 n5 c5 w) (hV : Below w.heap.size w V) : WalkArgs s x A1 A2 A3 A5 n1 c1 n2 c2 n3 c3 n5 c5 V :=
  ⟨Laid.below h.g hV (Nat.le_refl _), h.ok, h.wo, h.i1, h.i2, h.s1, h.s2, h.s3, h.s5, (h.r1.below hV (Nat.le_refl _)).more hV.size, (h.r2.below hV (Nat.le_refl _)).more hV.size, (h.r3.below hV (Nat.le_refl _)).more hV.size, (h.r5.below hV (Nat.le_refl _)).more hV.size⟩
theorem WalkArgs.fair {s : SnapD} {x : SpecD} {A1 A2 A3 A5 : Option Addr} {n1 c1 n2 c2 n3 c3 n5 c5 : Nat} {w : World} (h : WalkArgs s x A1 A2 A3 A5 n1 c1 n2 c2 n3 c3 n5 c5 w) :
    Calls Tryz.prog 14 #[.agg #[.slice A1 n1 c1, .slice A2 n2 c2, .slice A3 n3 c3], .agg #[.slice A5 n5 c5, .int .i64 x.preempts, .int .i64 x.shifts]] w (ErrTo (fair s x) w) :=
  fair_holds s x A1 A2 A3 A5 n1 c1 n2 c2 n3 c3 n5 c5 w.heap.size w h.ok h.wo h.i1 h.i2 h.s1.1 h.s2.1 h.s3.1 h.s5.1 h.s1.2.1 h.s2.2.1 h.s3.2.1 h.s5.2.1 h.s1.2.2.1 h.s2.2.2.1 h.s3.2.2.1 h.s5.2.2.1 h.s1.2.2.2 h.s2.2.2.2 h.s3.2.2.2.1 h.s5.2.2.2 (Nat.le_refl _) h.r1 h.r2 h.r3 h.r5
theorem WalkArgs.safe {s : SnapD} {x : SpecD} {A1 A2 A3 A5 : Option Addr} {n1 c1 n2 c2 n3 c3 n5 c5 : Nat} {w : World} (h : WalkArgs s x A1 A2 A3 A5 n1 c1 n2 c2 n3 c3 n5 c5 w) {l : List PodD} {A : Option Addr} {c : Nat} (hO : Out 8 cellsP w l A c) (hok : ∀ p ∈ l, p.Ok) (hlen : l.length = s.pods.length) : SafeArgs s.nodes s.loads l A1 A2 A n1 n2 l.length c w :=
  ⟨h.g, h.ok.1, hok, h.s1.1, by have := h.s1.2.1; omega, h.r1, h.s2.1, by have := h.s2.2.1; omega, h.r2, rfl, by have h1 := h.s3.1; have h2 := h.s3.2.1; omega, hO.1, hO.2.2.2⟩

/-- What a walk comes to. -/
def WalkTo (z : StateD × Nat × (Int × Int)) (w : World) (e : Ending) (w' : World) : Prop :=
  ∃ A c u, e = .returned (.tuple #[stateV A z.1.pods.length c z.1.preempts z.1.shifts, .int .i64 (z.2.1 : Int), u]) ∧ Out 8 cellsP w' z.1.pods A c ∧ (∀ a, A = some a → w.heap.size ≤ a.block) ∧ ErrIs z.2.2 w.heap.size w' u ∧ Below w.heap.size w w'
def WalkRel (ns : List NodeD) (ls : List LoadD) (x : SpecD) (l : List MoveD) (z : StateD × Nat × Int) (a b : List Value) (g N : Nat) (w : World) (i : Value) (wr : World) : Prop :=
  ∃ (k : Nat) (t : StateD) (A : Option Addr) (c : Nat), k ≤ l.length ∧ i = .int .i64 k ∧ walkK ns ls x (l.drop k) k t = z ∧ T3 a b [.slice none 0 0, .int .i64 0, .int .i64 0] w wr ∧ Bf wr g [.slice A t.pods.length c, .int .i64 t.preempts, .int .i64 t.shifts] ∧ Out 8 cellsP wr t.pods A c ∧
    (∀ a, A = some a → w.heap.size + 3 ≤ a.block ∧ a.block ≠ g) ∧ (∀ p ∈ t.pods, p.Ok) ∧ t.pods.length = N
theorem walkD_no1 {s : SnapD} {x : SpecD} {l : List MoveD} (h : (fair s x).1 ≠ 0) : walkD s x l = (noState, 0, fair s x) := by rw [walkD, if_pos h]
theorem walkD_no2 {s : SnapD} {x : SpecD} {l : List MoveD} (h : (fair s x).1 = 0) (h2 : codeS s.nodes s.loads x (firstD s) ≠ 0) : walkD s x l = (noState, 0, (codeS s.nodes s.loads x (firstD s), -1)) := by rw [walkD, if_neg (by simp [h]), if_pos h2]
theorem walkD_yes {s : SnapD} {x : SpecD} {l : List MoveD} (h : (fair s x).1 = 0) (h2 : codeS s.nodes s.loads x (firstD s) = 0) : walkD s x l = ((walkK s.nodes s.loads x l 0 (firstD s)).1, (walkK s.nodes s.loads x l 0 (firstD s)).2.1, ((walkK s.nodes s.loads x l 0 (firstD s)).2.2, -1)) := by rw [walkD, if_neg (by simp [h]), if_neg (by simp [h2])]

set_option maxHeartbeats 12800000 in
set_option maxRecDepth 100000 in
/-- The program's Walk. -/
theorem stepWalk_any (s : SnapD) (x : SpecD) (l : List MoveD) (A1 A2 A3 A5 A6 : Option Addr) (n1 c1 n2 c2 n3 c3 n5 c5 n6 c6 : Nat) (w : World) (h : WalkArgs s x A1 A2 A3 A5 n1 c1 n2 c2 n3 c3 n5 c5 w) (hn6 : n6 = l.length) (hl6 : n6 ≤ 1000) (hr6 : Recs 4 cellsM w w.heap.size A6 l) :
    Calls Tryz.prog 7 #[.agg #[.slice A1 n1 c1, .slice A2 n2 c2, .slice A3 n3 c3], .agg #[.slice A5 n5 c5, .int .i64 x.preempts, .int .i64 x.shifts], .slice A6 n6 c6] w (WalkTo (walkD s x l) w) := by
  obtain rfl : n3 = s.pods.length := h.s3.1
  have T0 := T3.new w [.slice A1 n1 c1, .slice A2 n2 c2, .slice A3 s.pods.length c3] [.slice A5 n5 c5, .int .i64 x.preempts, .int .i64 x.shifts] [.slice none 0 0, .int .i64 0, .int .i64 0] 26 29 34
  have HFAIR := Lib.hid (h.at T0.below).fair
  have HFI : Hid (∀ V, Below w.heap.size w V → Calls Tryz.prog 15 #[.agg #[.slice A1 n1 c1, .slice A2 n2 c2, .slice A3 s.pods.length c3]] V fun e w' => ∃ A' c', e = .returned (stateV A' s.pods.length c' 0 0) ∧ Out 8 cellsP w' s.pods A' c' ∧ (∀ a, A' = some a → V.heap.size ≤ a.block ∧ a.block < w'.heap.size) ∧ Below V.heap.size V w') := fun V hV => by
    have k := h.at hV
    exact stateFirst_new s.pods A3 s.pods.length c3 (.slice A1 n1 c1) (.slice A2 n2 c2) V rfl (by have := k.s3.2.1; omega) k.s3.2.2.2.2 k.r3
  have HFA : Hid (∀ (t : StateD) V A c, Below w.heap.size w V → Out 8 cellsP V t.pods A c → (∀ p ∈ t.pods, p.Ok) → t.pods.length = s.pods.length → Calls Tryz.prog 16 #[.agg #[.slice A1 n1 c1, .slice A2 n2 c2, .slice A3 s.pods.length c3], .agg #[.slice A5 n5 c5, .int .i64 x.preempts, .int .i64 x.shifts], .agg #[.slice A t.pods.length c, .int .i64 t.preempts, .int .i64 t.shifts]] V
      fun e w' => e = .returned (codeV (codeS s.nodes s.loads x t)) ∧ Below V.heap.size V w') := fun t V A c hV hO hok hlen =>
    stepFault_any s.nodes s.loads x t A1 A2 A3 A A5 n1 c1 n2 c2 _ c3 _ c n5 c5 V ((h.at hV).safe hO hok hlen)
  have HDO : Hid (∀ (t : StateD) (m : MoveD) V A c, Below w.heap.size w V → Out 8 cellsP V t.pods A c → (∀ p ∈ t.pods, p.Ok) → t.pods.length = s.pods.length → Calls Tryz.prog 17 #[.agg #[.slice A1 n1 c1, .slice A2 n2 c2, .slice A3 s.pods.length c3], .agg #[.slice A5 n5 c5, .int .i64 x.preempts, .int .i64 x.shifts], .agg #[.slice A t.pods.length c, .int .i64 t.preempts, .int .i64 t.shifts], .agg #[.int .i64 m.kind, .int .i64 m.pod, .int .i64 m.node, .int .i64 m.over]] V
      (DoTo (doD s.nodes s.loads x t m) V)) := fun t m V A c hV hO hok hlen => by
    have k := h.at hV
    exact stepDo_any s.nodes s.loads x t m A1 A2 A3 A A5 n1 c1 n2 c2 _ c3 _ c n5 c5 V (k.safe hO hok hlen) hO.2.2.1 k.s5.1 (by have := k.s5.2.1; omega) k.r5 k.wo
  have HDOK : Hid (∀ (t : StateD) (m : MoveD), (∀ p ∈ t.pods, p.Ok) → (doD s.nodes s.loads x t m).2 = 0 → (∀ p ∈ (doD s.nodes s.loads x t m).1.pods, p.Ok) ∧ (doD s.nodes s.loads x t m).1.pods.length = t.pods.length) := fun t m hok h0 => do_ok h.ok.1 h.wo hok h0
  have HDV := Lib.hid (fun (t : StateD) (m : MoveD) => do_vals s.nodes s.loads x t m)
  have H1 := Lib.hid (walkD_no1 (s := s) (x := x) (l := l))
  have H2 := Lib.hid (walkD_no2 (s := s) (x := x) (l := l))
  have H3 := Lib.hid (walkD_yes (s := s) (x := x) (l := l))
  have HP0 := Lib.hid h.ok.2.2
  have HN6 := Lib.hid hn6
  have HR6 := Lib.hid hr6
  have HFZ := Lib.hid (fair_zero (s := s) (x := x))
  have HFV := Lib.hid (codeS_vals s.nodes s.loads x (firstD s))
  have HT0 := Lib.hid T0
  generalize walkD s x l = z at *
  clear h hn6 hr6 T0
  generalize x.preempts = x1 at *
  generalize x.shifts = x2 at *
  go_enter Tryz.func7, Tryz.ntmps7
  go_wp2_with fail
  refine HFAIR.out.mono ?_
  rintro e w1 ⟨u, rfl, hu, hb1⟩
  have T1 := HT0.out.keep hb1
  have HT1 := Lib.hid T1
  obtain ⟨a0, a1, a2, a3⟩ := T1.one.cells3
  obtain ⟨d0, d1, d2, d3⟩ := T1.three.cells3
  have z0 := T1.three.frozen 0
  have z1 := T1.three.frozen 1
  have z2 := T1.three.frozen 2
  by_cases h0 : (fair s x).1 = 0
  · have hn := hu.nil (by rw [HFZ.out h0]; rfl)
    subst hn
    have HF0 := Lib.hid h0
    have HFF := Lib.hid (HFI.out w1 T1.below)
    clear h0 hu hb1 T1 HT0 H1 HFZ HFAIR
    go_wp2_with fail
    refine HFF.out.mono ?_
    rintro e w2 ⟨A4, c4, rfl, ho, hfr, hb2⟩
    have k2 : Below w2.heap.size w2 (w2.alloc (.cells #[.slice A4 s.pods.length c4, .int .i64 0, .int .i64 0] 34)) := (Below.refl _ w2).alloc (Nat.le_refl _) _
    have T2 := (HT1.out.keep hb2).keep k2
    have B2 : Bf (w2.alloc (.cells #[.slice A4 s.pods.length c4, .int .i64 0, .int .i64 0] 34)) w2.heap.size [.slice A4 s.pods.length c4, .int .i64 0, .int .i64 0] := Bf.new w2 [.slice A4 s.pods.length c4, .int .i64 0, .int .i64 0] 34 rfl
    have hg2 : w.heap.size + 3 ≤ w2.heap.size := (HT1.out.keep hb2).three.lt
    have hA4 : ∀ a, A4 = some a → w.heap.size + 3 ≤ a.block ∧ a.block ≠ w2.heap.size := fun a ha => by have h1 := hfr a ha; have h2 := HT1.out.three.lt; omega
    have ho2 := ho.later k2
    have HFT : Hid (Calls Tryz.prog 16 #[.agg #[.slice A1 n1 c1, .slice A2 n2 c2, .slice A3 s.pods.length c3], .agg #[.slice A5 n5 c5, .int .i64 x1, .int .i64 x2], .agg #[.slice A4 s.pods.length c4, .int .i64 0, .int .i64 0]] (w2.alloc (.cells #[.slice A4 s.pods.length c4, .int .i64 0, .int .i64 0] 34))
        fun e w' => e = .returned (codeV (codeS s.nodes s.loads x (firstD s))) ∧ Below (w2.alloc (.cells #[.slice A4 s.pods.length c4, .int .i64 0, .int .i64 0] 34)).heap.size (w2.alloc (.cells #[.slice A4 s.pods.length c4, .int .i64 0, .int .i64 0] 34)) w') :=
      HFA.out (firstD s) _ A4 c4 T2.below ho2 HP0.out rfl
    have HT2 := Lib.hid T2
    have HB2 := Lib.hid B2
    have HO2 := Lib.hid ho2
    have HA4 := Lib.hid hA4
    have HG2 := Lib.hid hg2
    clear a0 a1 a2 a3 d0 d1 d2 d3 z0 z1 z2
    obtain ⟨a0, a1, a2, a3⟩ := T2.one.cells3
    obtain ⟨b0, b1, b2, b3⟩ := T2.two.cells3
    clear ho hfr hb2 k2 T2 B2 hA4 ho2 HT1 HFI HFA HFF hg2
    go_wp2_with fail
    refine HFT.out.mono ?_
    rintro e w3 ⟨rfl, hb3⟩
    have T3' := HT2.out.keep hb3
    have B3 := HB2.out.below hb3 HB2.out.lt
    have HO3 := Lib.hid (HO2.out.later hb3)
    have HT3 := Lib.hid T3'
    have HB3 := Lib.hid B3
    generalize hgg : w2.heap.size = g at *
    clear hb3 HT2 HB2 HO2 HFT a0 a1 a2 a3 b0 b1 b2 b3 hgg
    by_cases hs : codeS s.nodes s.loads x (firstD s) = 0
    · have HE := Lib.hid (H3.out HF0.out hs)
      have HK0 : Hid (walkK s.nodes s.loads x (l.drop 0) 0 (firstD s) = walkK s.nodes s.loads x l 0 (firstD s)) := by rw [List.drop_zero]; exact Lib.hid rfl
      rw [hs, codeV_zero]
      generalize walkK s.nodes s.loads x l 0 (firstD s) = zz at *
      clear T3' B3 hs HFV H2 H3 HF0
      go_wp2
      go_loopw [35] (WalkRel s.nodes s.loads x l zz [.slice A1 n1 c1, .slice A2 n2 c2, .slice A3 s.pods.length c3] [.slice A5 n5 c5, .int .i64 x1, .int .i64 x2] g s.pods.length w) (fun i _ => n6 - (intOf i).toNat)
      case atStart => exact ⟨0, firstD s, A4, c4, by omega, rfl, HK0.out, HT3.out, HB3.out, HO3.out, HA4.out, HP0.out, rfl⟩
      case round =>
        clear HT3 HB3 HO3 HA4 HK0
        obtain ⟨k, t, A, c, hk, rfl, hw, hT, hB, hO, hA, hP, hL⟩ := hrel
        have HW := Lib.hid hw
        have HT := Lib.hid hT
        have HB := Lib.hid hB
        have HO := Lib.hid hO
        have HA := Lib.hid hA
        have HPP := Lib.hid hP
        have HL := Lib.hid hL
        obtain ⟨d0, d1, d2, d3⟩ := hT.three.cells3
        have z0 := hT.three.frozen 0
        have z1 := hT.three.frozen 1
        have z2 := hT.three.frozen 2
        obtain ⟨f0, f1, f2, f3⟩ := hB.cells3
        by_cases hlt : k < n6
        · have hkl : k < l.length := by have := HN6.out; omega
          obtain ⟨b, o, rfl, hb, he⟩ := HR6.out.at hkl
          generalize hx : l[k] = m at *
          have HWA := Lib.hid (walk_at hkl hx HW.out)
          have kwr := hT.below
          have e0 : wr.cell? ⟨b, o + k * 4, none⟩ = some (.int .i64 m.kind) := (kwr.cell (p := ⟨b, o + k * 4, none⟩) hb).trans (he 0 _ rfl)
          have e1 : wr.cell? ⟨b, o + k * 4 + 1, none⟩ = some (.int .i64 m.pod) := (kwr.cell (p := ⟨b, o + k * 4 + 1, none⟩) hb).trans (he 1 _ rfl)
          have e2 : wr.cell? ⟨b, o + k * 4 + 2, none⟩ = some (.int .i64 m.node) := (kwr.cell (p := ⟨b, o + k * 4 + 2, none⟩) hb).trans (he 2 _ rfl)
          have e3 : wr.cell? ⟨b, o + k * 4 + 3, none⟩ = some (.int .i64 m.over) := (kwr.cell (p := ⟨b, o + k * 4 + 3, none⟩) hb).trans (he 3 _ rfl)
          have hbw : b < wr.heap.size := by have := kwr.size; omega
          have ka : Below wr.heap.size wr (wr.alloc (.cells #[.int .i64 m.kind, .int .i64 m.pod, .int .i64 m.node, .int .i64 m.over] 59)) := (Below.refl _ wr).alloc (Nat.le_refl _) _
          have HTa := Lib.hid (hT.keep ka)
          have HBa := Lib.hid (hB.below ka hB.lt)
          have HOa := Lib.hid (hO.later ka)
          have HD := Lib.hid (HDO.out t m _ A c (hT.keep ka).below (hO.later ka) hP hL)
          have HDV' := Lib.hid (HDV.out t m)
          have HDK' := Lib.hid (HDOK.out t m hP)
          obtain ⟨a0, a1, a2, a3⟩ := (hT.keep ka).one.cells3
          obtain ⟨b0, b1, b2, b3⟩ := (hT.keep ka).two.cells3
          clear d0 d1 d2 d3 z0 z1 z2 f0 f1 f2 f3
          obtain ⟨f0, f1, f2, f3⟩ := (hB.below ka hB.lt).cells3
          generalize doD s.nodes s.loads x t m = r at *
          clear hw hT hB hO hA hP hL hb he hx ka HT HB HO HDOK HDV HDO
          go_wp2_with fail
          refine HD.out.mono ?_
          rintro e w5 ⟨_, rfl, A7, c7, rfl, ho7, hfr7, hb5⟩
          have k7 : Below w5.heap.size w5 (w5.alloc (.cells #[.slice A7 r.1.pods.length c7, .int .i64 r.1.preempts, .int .i64 r.1.shifts] 34)) := (Below.refl _ w5).alloc (Nat.le_refl _) _
          have T7 := (HTa.out.keep hb5).keep k7
          have B7 := (HBa.out.below hb5 HBa.out.lt).below k7 (HBa.out.below hb5 HBa.out.lt).lt
          have hO7 := (HOa.out.later hb5).later k7
          have ho8 := ho7.later k7
          have hA7 : ∀ a, A7 = some a → w.heap.size + 3 ≤ a.block ∧ a.block ≠ g := fun a ha => by have h1 := hfr7 a ha; have h2 := HTa.out.three.lt; have h3 := HBa.out.lt; omega
          have hgn : w5.heap.size ≠ g := by have h3 := (HBa.out.below hb5 HBa.out.lt).lt; omega
          have hgw : w5.heap.size ≠ w.heap.size + 2 := by have h3 := (HTa.out.keep hb5).three.lt; omega
          have HT7 := Lib.hid T7
          have HB7 := Lib.hid B7
          have HO7 := Lib.hid hO7
          have HO8 := Lib.hid ho8
          have HA7 := Lib.hid hA7
          clear a0 a1 a2 a3 b0 b1 b2 b3 f0 f1 f2 f3 e0 e1 e2 e3
          obtain ⟨d0, d1, d2, d3⟩ := T7.three.cells3
          have z0 := T7.three.frozen 0
          have z1 := T7.three.frozen 1
          have z2 := T7.three.frozen 2
          obtain ⟨f0, f1, f2, f3⟩ := B7.cells3
          have y0 := B7.frozen 0
          have y1 := B7.frozen 1
          have y2 := B7.frozen 2
          clear HD HTa HBa HOa ho7 hfr7 hb5 k7 T7 B7 hO7 ho8 hA7
          by_cases hr : r.2 = 0
          · have HWN := Lib.hid (HWA.out.2 hr)
            have HDN := Lib.hid (HDK'.out hr)
            rw [hr, codeV_zero]
            clear hr HWA HDK' HDV' hgw
            go_wp2
            go_roundw
            case rel =>
              refine ⟨k + 1, r.1, A7, c7, by omega, by go_num, HWN.out, ((HT7.out.past (by show _ ≤ g; exact HG2.out) _).past (by show _ ≤ g; exact HG2.out) _).past (by show _ ≤ g; exact HG2.out) _, ?_, ?_, HA7.out, HDN.out.1, HDN.out.2.trans HL.out⟩
              · exact ((HB7.out.set 0 _).set 1 _).set 2 _
              · exact ((HO8.out.set (p := ⟨g, 0, none⟩) (fun a ha => (HA7.out a ha).2) _).set (p := ⟨g, 1, none⟩) (fun a ha => (HA7.out a ha).2) _).set (p := ⟨g, 2, none⟩) (fun a ha => (HA7.out a ha).2) _
            case measure => simp [intOf]; omega
          · have HWN := Lib.hid (HWA.out.1 hr)
            have HCV := Lib.hid (show 1 ≤ r.2 ∧ r.2 ≤ 17 by have := HDV'.out; omega)
            rw [codeV_pos hr]
            clear hr HWA HDK' HDV'
            go_wp2
            refine bodyPost_ret (v := .tuple #[stateV A t.pods.length c t.preempts t.shifts, .int .i64 k, .iface 54 (.int .i64 r.2)]) ?_ rfl ⟨A, c, _, by rw [HE.out, HWN.out], ?_, (fun a ha => by have := HA.out a ha; omega), ?_, ?_⟩
            · simp [results, Tryz.results7, go_sem, *]
            · rw [HE.out, HWN.out]
              exact ((HO7.out.set (p := ⟨w.heap.size + 2, 0, none⟩) (fun a ha => by have := HA.out a ha; show a.block ≠ w.heap.size + 2; omega) _).set (p := ⟨w.heap.size + 2, 1, none⟩) (fun a ha => by have := HA.out a ha; show a.block ≠ w.heap.size + 2; omega) _).set (p := ⟨w.heap.size + 2, 2, none⟩) (fun a ha => by have := HA.out a ha; show a.block ≠ w.heap.size + 2; omega) _
            · rw [HE.out, HWN.out]
              exact .inr (.inl ⟨rfl, HCV.out.1, HCV.out.2, rfl⟩)
            · exact ((HT7.out.below.setCell (by show w.heap.size ≤ w.heap.size + 2; omega) _).setCell (by show w.heap.size ≤ w.heap.size + 2; omega) _).setCell (by show w.heap.size ≤ w.heap.size + 2; omega) _
        · have HWN := Lib.hid (walk_end (by have := HN6.out; omega) HW.out)
          have hkn : k = n6 := by have := HN6.out; omega
          clear hw hT hB hO hA hP hL
          go_wp2
          refine bodyPost_ret (v := .tuple #[stateV A t.pods.length c t.preempts t.shifts, .int .i64 n6, .nilIface]) ?_ rfl ⟨A, c, _, by rw [HE.out, HWN.out, hkn], ?_, (fun a ha => by have := HA.out a ha; omega), ?_, ?_⟩
          · simp [results, Tryz.results7, go_sem, *]
          · rw [HE.out, HWN.out]
            exact ((HO.out.set (p := ⟨w.heap.size + 2, 0, none⟩) (fun a ha => by have := HA.out a ha; show a.block ≠ w.heap.size + 2; omega) _).set (p := ⟨w.heap.size + 2, 1, none⟩) (fun a ha => by have := HA.out a ha; show a.block ≠ w.heap.size + 2; omega) _).set (p := ⟨w.heap.size + 2, 2, none⟩) (fun a ha => by have := HA.out a ha; show a.block ≠ w.heap.size + 2; omega) _
          · rw [HE.out, HWN.out]
            exact .inl ⟨rfl, rfl⟩
          · exact ((HT.out.below.setCell (by show w.heap.size ≤ w.heap.size + 2; omega) _).setCell (by show w.heap.size ≤ w.heap.size + 2; omega) _).setCell (by show w.heap.size ≤ w.heap.size + 2; omega) _
    · have HE := Lib.hid (H2.out HF0.out hs)
      have HCV := Lib.hid (show 1 ≤ codeS s.nodes s.loads x (firstD s) ∧ codeS s.nodes s.loads x (firstD s) ≤ 17 by have := HFV.out; omega)
      rw [codeV_pos hs]
      generalize codeS s.nodes s.loads x (firstD s) = cs at *
      obtain ⟨d0, d1, d2, d3⟩ := T3'.three.cells3
      have z0 := T3'.three.frozen 0
      have z1 := T3'.three.frozen 1
      have z2 := T3'.three.frozen 2
      clear T3' B3 hs
      go_wp2
      refine bodyPost_ret (v := .tuple #[stateV none 0 0 0 0, .int .i64 0, .iface 54 (.int .i64 cs)]) ?_ rfl ⟨none, 0, _, by rw [HE.out]; rfl, ?_, (fun a ha => by cases ha), ?_, ?_⟩
      · simp [results, Tryz.results7, go_sem, *]
      · rw [HE.out]; exact Out.nil rfl
      · rw [HE.out]; exact .inr (.inl ⟨rfl, HCV.out.1, HCV.out.2, rfl⟩)
      · exact ((HT3.out.below.setCell (by show w.heap.size ≤ w.heap.size + 2; omega) _).setCell (by show w.heap.size ≤ w.heap.size + 2; omega) _).setCell (by show w.heap.size ≤ w.heap.size + 2; omega) _
  · have hok : okP (fair s x) = false := by simp [okP, h0]
    obtain ⟨ty, v, rfl⟩ := errIs_iface hu hok
    have HE := Lib.hid (H1.out h0)
    have HU := Lib.hid hu
    have HTL := Lib.hid (show w.heap.size + 3 ≤ (((w.alloc (.cells #[.slice A1 n1 c1, .slice A2 n2 c2, .slice A3 s.pods.length c3] 26)).alloc (.cells #[.slice A5 n5 c5, .int .i64 x1, .int .i64 x2] 29)).alloc (.cells #[.slice none 0 0, .int .i64 0, .int .i64 0] 34)).heap.size from HT0.out.three.lt)
    clear h0 hu hok hb1 T1 HT0 HFAIR HFI
    go_wp2
    refine bodyPost_ret (v := .tuple #[stateV none 0 0 0 0, .int .i64 0, .iface ty v]) ?_ rfl ⟨none, 0, _, by rw [HE.out]; rfl, ?_, (fun a ha => by cases ha), ?_, ?_⟩
    · simp [results, Tryz.results7, go_sem, *]
    · rw [HE.out]; exact Out.nil rfl
    · rw [HE.out]
      exact (((HU.out.put (by have := HTL.out; show w.heap.size + 2 < _; omega) _).put (by have := HTL.out; show w.heap.size + 2 < _; omega) _).put (by have := HTL.out; show w.heap.size + 2 < _; omega) _).base (by have := HTL.out; omega)
    · exact ((HT1.out.below.setCell (by show w.heap.size ≤ w.heap.size + 2; omega) _).setCell (by show w.heap.size ≤ w.heap.size + 2; omega) _).setCell (by show w.heap.size ≤ w.heap.size + 2; omega) _
end Go.Proofs.YtiinnoahopnkcaaGreatDoor

namespace Go.Proofs.YtiinnoahopnkcaaGreatDoor
set_option linter.unusedSimpArgs false
open Go.RowKit
set_option linter.unusedVariables false

def RSizeRel (load : Int) (l : List PodD) (n i : Value) : Prop := ∃ k : Nat, k ≤ l.length ∧ n = .int .i64 (sizeD load (l.take k) : Nat) ∧ i = .int .i64 k

set_option maxHeartbeats 6400000 in
set_option maxRecDepth 100000 in
theorem rSize07_any (l : List PodD) (load : Int) (A : Option Addr) (n c : Nat) (v1 v2 : Value) (w : World) (hn : n = l.length) (hl : n ≤ 1000) (hr : Recs 8 cellsP w w.heap.size A l) :
    Calls Tryz.prog 77 #[.agg #[.slice A n c, v1, v2], .int .i64 load] w fun e w' => e = .returned (.int .i64 (sizeD load l : Nat)) ∧ Below w.heap.size w w' := by
  have HR := Lib.hid hr
  have HN := Lib.hid hn
  clear hr hn
  go_enter Tryz.func77, Tryz.ntmps77
  go_wp2
  go_loop [5, 6] (RSizeRel load l) (fun _ i => n - (intOf i).toNat)
  case atStart => exact ⟨0, by omega, by simp [sizeD], rfl⟩
  case round =>
    obtain ⟨k, hk, rfl, rfl⟩ := hrel
    by_cases hlt : k < n
    · have hkl : k < l.length := by have := HN.out; omega
      obtain ⟨b, o, rfl, hb, he⟩ := HR.out.at hkl
      have hq : sizeD load (l.take k) ≤ 1000 := by have := size_le9 load (l.take k); simp at this; omega
      have HI := Lib.hid (fun h1 h2 => size_in9 (load := load) hkl rfl h1 h2)
      have HO := Lib.hid (fun h1 => size_out9 (load := load) hkl rfl h1)
      generalize l[k] = p at *
      generalize sizeD load (l.take k) = q at *
      have e1 : w.cell? ⟨b, o + k * 8 + 1, none⟩ = some (.int .i64 p.load) := he 1 _ rfl
      have e7 : w.cell? ⟨b, o + k * 8 + 7, none⟩ = some (.int .i64 p.node) := he 7 _ rfl
      clear he
      by_cases h1 : p.load = load
      · have d1 : (p.load == load) = true := by simp [h1]
        by_cases h2 : p.node = 0
        · have d2 : (p.node != 0) = false := by simp [h2]
          have HE := Lib.hid (HO.out (fun _ => h2))
          clear h1 h2
          go_wp2
          go_round
          case rel => exact ⟨k + 1, by omega, by rw [HE.out], by go_num⟩
          case measure => simp [intOf]; omega
        · have d2 : (p.node != 0) = true := by simp [h2]
          have HE := Lib.hid (HI.out h1 h2)
          clear h1 h2
          go_wp2
          go_round
          case rel => exact ⟨k + 1, by omega, by rw [HE.out]; exact congrArg (Value.int IntKind.i64) (by omega), by go_num⟩
          case measure => simp [intOf]; omega
      · have d1 : (p.load == load) = false := by simp [h1]
        have HE := Lib.hid (HO.out (fun e => absurd e h1))
        clear h1
        go_wp2
        go_round
        case rel => exact ⟨k + 1, by omega, by rw [HE.out], by go_num⟩
        case measure => simp [intOf]; omega
    · have HE := Lib.hid (size_end9 (load := load) (l := l) (k := k) (by have := HN.out; omega))
      go_wp2
      go_ret
      exact ⟨ret_int (by rw [HE.out]), (Below.refl _ _).alloc (Nat.le_refl _) _⟩

set_option maxHeartbeats 3200000 in
theorem rUsed07_any (A4 A5 : Option Addr) (n4 c4 n5 c5 : Nat) (x1 x2 t1 t2 : Int) (w : World) :
    Calls Tryz.prog 46 #[.agg #[.slice A5 n5 c5, .int .i64 x1, .int .i64 x2], .agg #[.slice A4 n4 c4, .int .i64 t1, .int .i64 t2]] w fun e w' => e = .returned (.bool (usedD x1 x2 t1 t2)) ∧ Below w.heap.size w w' := by
  have b00 := below_two w (.cells #[.slice A5 n5 c5, .int .i64 x1, .int .i64 x2] 29) (.cells #[.slice A4 n4 c4, .int .i64 t1, .int .i64 t2] 34)
  by_cases h1 : x1 < t1
  · have HE := Lib.hid (show usedD x1 x2 t1 t2 = true by simp [usedD, h1])
    have d1 : decide (x1 < t1) = true := decide_eq_true h1
    clear h1
    go_enter Tryz.func46, Tryz.ntmps46
    go_wp2
    go_ret
    exact ⟨ret_bool HE.out.symm, b00⟩
  · have d1 : decide (x1 < t1) = false := decide_eq_false h1
    have HE := Lib.hid (show usedD x1 x2 t1 t2 = decide (x2 < t2) by simp [usedD, h1])
    clear h1
    go_enter Tryz.func46, Tryz.ntmps46
    go_wp2
    go_ret
    exact ⟨ret_bool HE.out.symm, b00⟩

theorem ret_pair9 {p : Int × Int} {a b : Int} (h : p = (a, b)) : Ending.returned (.tuple #[.int .i64 a, .int .i64 b]) = .returned (.tuple #[.int .i64 p.1, .int .i64 p.2]) := by rw [h]
def RBudgetRel (ls : List LoadD) (l : List PodD) (a b : List Value) (w : World) (v : Value) (wr : World) : Prop := ∃ k : Nat, k ≤ ls.length ∧ v = .int .i64 k ∧ budgetFrom l (ls.drop k) k = budgetOf ls l ∧ T2 a b w wr

set_option maxHeartbeats 6400000 in
set_option maxRecDepth 100000 in
theorem rBudget07_any (ls : List LoadD) (l : List PodD) (A1 A2 A4 : Option Addr) (n1 c1 n2 c2 n4 c4 : Nat) (s3 v1 v2 : Value) (w : World)
    (hn2 : n2 = ls.length) (hl2 : n2 ≤ 400) (hr2 : Recs 5 cellsL w w.heap.size A2 ls) (hn4 : n4 = l.length) (hl4 : n4 ≤ 400) (hr4 : Recs 8 cellsP w w.heap.size A4 l) :
    Calls Tryz.prog 45 #[.agg #[.slice A1 n1 c1, .slice A2 n2 c2, s3], .agg #[.slice A4 n4 c4, v1, v2]] w fun e w' => e = .returned (.tuple #[.int .i64 (budgetOf ls l).1, .int .i64 (budgetOf ls l).2]) ∧ Below w.heap.size w w' := by
  have T0 := T2.new w [.slice A1 n1 c1, .slice A2 n2 c2, s3] [.slice A4 n4 c4, v1, v2] 26 34
  have HN2 := Lib.hid hn2
  have HR2 := Lib.hid hr2
  have HC := Lib.hid (fun (V : World) (hV : Below w.heap.size w V) (id : Int) => rSize07_any l id A4 n4 c4 v1 v2 V hn4 (by omega) ((hr4.below hV (Nat.le_refl _)).more hV.size))
  have HQ := Lib.hid (fun (id : Int) => (show sizeD id l ≤ 400 by have := size_le9 id l; omega))
  have HT0 := Lib.hid T0
  clear hr2 hn2 hr4 hn4 T0
  go_enter Tryz.func45, Tryz.ntmps45
  go_wp2
  go_loopw [6] (RBudgetRel ls l [.slice A1 n1 c1, .slice A2 n2 c2, s3] [.slice A4 n4 c4, v1, v2] w) (fun v _ => n2 - (intOf v).toNat)
  case atStart => exact ⟨0, by omega, rfl, rfl, HT0.out⟩
  case round =>
    obtain ⟨k, hk, rfl, hp, T1⟩ := hrel
    have HP := Lib.hid hp
    have HT1 := Lib.hid T1
    obtain ⟨a0, a1, a2, a3⟩ := T1.one.cells3
    obtain ⟨b0, b1, b2, b3⟩ := T1.two.cells3
    have kwr := T1.below
    clear hp
    by_cases hlt : k < n2
    · have hkl : k < ls.length := by have := HN2.out; omega
      obtain ⟨b, o, rfl, hb, he⟩ := HR2.out.at hkl
      generalize hx : ls[k] = x at *
      have HX := Lib.hid (budgetFrom_at hkl hx HP.out)
      clear hx
      have e0 : wr.cell? ⟨b, o + k * 5, none⟩ = some (.int .i64 x.id) := (kwr.cell (p := ⟨b, o + k * 5, none⟩) hb).trans (he 0 _ rfl)
      have hbw : b < wr.heap.size := Nat.lt_of_lt_of_le hb kwr.size
      have HE3 : Hid (∀ V, Below wr.heap.size wr V → V.cell? ⟨b, o + k * 5 + 3, none⟩ = some (.int .i64 x.min) ∧ V.cell? ⟨b, o + k * 5 + 4, none⟩ = some (.int .i64 x.max)) := fun V hV => ⟨(hV.cell (p := ⟨b, o + k * 5 + 3, none⟩) hbw).trans ((kwr.cell (p := ⟨b, o + k * 5 + 3, none⟩) hb).trans (he 3 _ rfl)), (hV.cell (p := ⟨b, o + k * 5 + 4, none⟩) hbw).trans ((kwr.cell (p := ⟨b, o + k * 5 + 4, none⟩) hb).trans (he 4 _ rfl))⟩
      have HCW : Hid (∀ V : World, Keeps wr V → Calls Tryz.prog 77 #[.agg #[.slice A4 n4 c4, v1, v2], .int .i64 x.id] V fun e w' => e = .returned (.int .i64 (sizeD x.id l : Nat)) ∧ Below V.heap.size V w') := fun V hV => HC.out V (HT1.out.below.trans (hV.2.mono HT1.out.below.size)) x.id
      have hq := HQ.out x.id
      generalize sizeD x.id l = z at *
      clear he T1 kwr
      go_wp2_with fail
      go_region_held3 (fun w' => (∀ b o, b < wr.heap.size → w'.cell? ⟨b, o, none⟩ = wr.cell? ⟨b, o, none⟩) ∧ Below wr.heap.size wr w')
        (first | (with_reducible assumption) | (show Keeps wr _; with_reducible (repeat (first | exact Keeps.refl _ | assumption | refine Keeps.drew ?_ | refine Keeps.alloc ?_ _ | refine Keeps.step ?_ (by assumption)))))
        (first | (go_at_call 77; refine (HCW.out _ (by assumption)).mono ?_; rintro e w' ⟨rfl, hb⟩))
      rename_i hK
      have TV := HT1.out.keep hK.2
      have HTV := Lib.hid TV
      have kV := TV.below
      obtain ⟨e3, e4⟩ := HE3.out _ hK.2
      have hbV : b < w'.heap.size := Nat.lt_of_lt_of_le hbw hK.2.size
      clear hK a0 a1 a2 a3 b0 b1 b2 b3 HCW e0 hbw
      obtain ⟨a0, a1, a2, a3⟩ := TV.one.cells3
      clear TV
      by_cases h1 : (z : Int) < x.min
      · have d1 : decide ((z : Int) < x.min) = true := decide_eq_true h1
        have HN := Lib.hid (HX.out.1 (by rw [fault9_few h1]; decide))
        rw [fault9_few h1] at HN
        clear h1
        go_wp2
        go_ret2
        exact ⟨ret_pair9 HN.out, kV⟩
      · have d1 : decide ((z : Int) < x.min) = false := decide_eq_false h1
        by_cases h2 : x.max < (z : Int)
        · have d2 : decide (x.max < (z : Int)) = true := decide_eq_true h2
          have HN := Lib.hid (HX.out.1 (by rw [fault9_many h1 h2]; decide))
          rw [fault9_many h1 h2] at HN
          clear h1 h2
          go_wp2
          go_ret2
          exact ⟨ret_pair9 HN.out, kV⟩
        · have d2 : decide (x.max < (z : Int)) = false := decide_eq_false h2
          have HN := Lib.hid (HX.out.2 (fault9_none h1 h2))
          clear h1 h2
          go_wp2
          go_roundw
          case rel => exact ⟨k + 1, by omega, by go_num, HN.out, HTV.out⟩
          case measure => simp [intOf]; omega
    · have HE := Lib.hid (budgetFrom_end (by have := HN2.out; omega) HP.out)
      clear T1
      go_wp2
      go_ret2
      exact ⟨ret_pair9 HE.out, kwr⟩
end Go.Proofs.YtiinnoahopnkcaaGreatDoor
