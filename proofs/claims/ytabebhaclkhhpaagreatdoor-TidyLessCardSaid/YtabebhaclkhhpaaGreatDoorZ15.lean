/- Joined texts, part 15: DJ XC QG UK BP QH XD XE. -/
import Derived.Test.YtabebhaclkhhpaaGreatDoorZ14
import Derived.Test.YtabebhaclkhhpaaGreatDoorZ12
import Derived.Test.YtabebhaclkhhpaaGreatDoorZ02
import Derived.Test.YtabebhaclkhhpaaGreatDoorZ13
import Derived.Deep.CutRange
import Derived.Deep.RegionHeld3
import Derived.Deep.QuietTactic
import Derived.BigQuiet
import Derived.Test.YtabebhaclkhhpaaGreatDoorZ07
import Derived.Test.YtabebhaclkhhpaaGreatDoorZ10
import Derived.Test.YtabebhaclkhhpaaGreatDoorZ01

/- The program's Fair: what is amiss first with a spec. -/
namespace Go.Proofs.YtabebhaclkhhpaaGreatDoor
set_option linter.unusedSimpArgs false
open Go.RowKit
set_option linter.unusedVariables false

theorem ErrIs.more {p : Int × Int} {B B' : Nat} {w : World} {u : Value} (h : ErrIs p B w u) (hB : B' ≤ B) : ErrIs p B' w u := by
  rcases h with h | h | ⟨k, g, h1, h2, h3, h4⟩
  · exact .inl h
  · exact .inr (.inl h)
  · exact .inr (.inr ⟨k, g, h1, h2, Nat.le_trans hB h3, h4⟩)
theorem want_key {s : SnapD} {l : List WantD} {k : Nat} {fst : Bool} {la : Int} {y : WantD} (hk : k < l.length) (hy : l[k] = y) (h0 : k = 0 → fst = true) (h1 : ∀ j (hj : j < l.length), k = j + 1 → fst = false ∧ la = l[j].pod) :
    wantBad s fst la y = orI (ordAt WantD.pod l k) (wantF s.pods y) := by
  cases k with
  | zero =>
    obtain rfl := h0 rfl
    simp [wantBad, ordAt, orI, wantF]
  | succ j =>
    obtain ⟨rfl, rfl⟩ := h1 j (by omega) rfl
    rw [ordAt_next hk, hy]
    unfold wantBad ordI orI wantF
    by_cases e1 : y.pod = l[j].pod
    · simp [e1]
    · by_cases e2 : y.pod < l[j].pod
      · simp [e1, e2]
      · simp [e1, e2]

theorem fair_end {w W v : World} {f : Int × Int} {b b' : Int} {m g : Nat} (kW : Below w.heap.size w W) (h : Keeps W v) (hF : f = (b', (m : Int))) (hb : b' = b) (hg : g = v.heap.size) :
    ErrTo f w (.returned (.iface 92 (.pointer (some ⟨g, 0, none⟩)))) (v.alloc (.cells #[.int .i64 (m : Int), .int .i64 b] 94)) := by
  have kv : Below w.heap.size w v := kW.trans (h.2.mono kW.size)
  subst hg hb
  exact errTo_each hF (kv.alloc kv.size _) kv.size (each_new v _)
theorem firstWant_end {s : SnapD} {l : List WantD} {fst : Bool} {la : Int} {k m : Nat} {F : Option (Int × Nat)} (h : l.length ≤ k) (hf : firstWant s fst la m (l.drop k) = F) : F = none := by
  rw [List.drop_of_length_le h, firstWant] at hf
  exact hf.symm
set_option maxHeartbeats 6400000 in
set_option maxRecDepth 100000 in
theorem fair_holds : FairHolds := by
  intro s x A1 A2 A3 A4 n1 c1 n2 c2 n3 c3 n4 c4 B w hok hwo hi1 hi2 hn1 hn2 hn3 hn4 hl1 hl2 hl3 hl4 p1 p2 p3 p4 q1 q2 q3 q4 hB hr1 hr2 hr3 hr4
  have b00 := below_two w (.cells #[.slice A1 n1 c1, .slice A2 n2 c2, .slice A3 n3 c3] 26) (.cells #[.slice A4 n4 c4, .int .i64 x.preempts, .int .i64 x.shifts] 29)
  have HN3 := Lib.hid hn3
  have HN4 := Lib.hid hn4
  have HR3 := Lib.hid (hr3.more hB)
  have HR4 := Lib.hid (hr4.more hB)
  have HCH := Lib.hid (check_holds s A1 A2 A3 n1 c1 n2 c2 n3 c3 B ((w.alloc (.cells #[.slice A1 n1 c1, .slice A2 n2 c2, .slice A3 n3 c3] 26)).alloc (.cells #[.slice A4 n4 c4, .int .i64 x.preempts, .int .i64 x.shifts] 29)) hok hn1 hn2 hn3 hl1 hl2 hl3 p1 p2 p3 q1 q2 q3 (Nat.le_trans hB b00.size) (hr1.below b00 hB) (hr2.below b00 hB) (hr3.below b00 hB))
  clear hok hwo hi1 hi2 hn1 hn2 hn3 hn4 hr1 hr2 hr3 hr4 q1 q2 q3 q4 p1 p2 p3 p4 hB
  go_enter Tryz.func6, Tryz.ntmps6
  go_wp2_with fail
  refine HCH.out.mono ?_
  rintro e w1 ⟨u, rfl, hu, hb1⟩
  have k1 : Below (w.heap.size + 2) ((w.alloc (.cells #[.slice A1 n1 c1, .slice A2 n2 c2, .slice A3 n3 c3] 26)).alloc (.cells #[.slice A4 n4 c4, .int .i64 x.preempts, .int .i64 x.shifts] 29)) w1 := hb1.mono (by simp)
  have kw1 : Below w.heap.size w w1 := b00.trans (k1.mono (by omega))
  obtain ⟨⟨a0, a1, a2⟩, a3, a4, a5⟩ := box2_cells k1
  by_cases hck : (check s).1 = 0
  · have hcz := check_zero hck
    obtain rfl := errIs_none hu hck (by rw [hcz])
    have HCK := Lib.hid hck
    clear hu hck hcz
    go_wp2_with fail
    refine (within_any _ _ _ _).mono ?_
    rintro e w' ⟨rfl, rfl⟩
    by_cases hp1 : inB x.preempts 0 40 = true
    · go_wp2_with fail
      refine (within_any _ _ _ _).mono ?_
      rintro e w' ⟨rfl, rfl⟩
      by_cases hp2 : inB x.shifts 0 40 = true
      · have HOK := Lib.hid (show ¬ (x.preempts < 0 ∨ 40 < x.preempts ∨ x.shifts < 0 ∨ 40 < x.shifts) by have := inB_iff.1 hp1; have := inB_iff.1 hp2; omega)
        go_wp2
        go_loopw [28] (FairRel s x ((w.alloc (.cells #[.slice A1 n1 c1, .slice A2 n2 c2, .slice A3 n3 c3] 26)).alloc (.cells #[.slice A4 n4 c4, .int .i64 x.preempts, .int .i64 x.shifts] 29)) (w.heap.size + 2)) (fun i _ => n4 - (intOf i).toNat)
        case atStart => exact ⟨0, true, 0, by omega, rfl, fun _ => rfl, fun j hj h => by omega, rfl, k1⟩
        case round =>
          clear a0 a1 a2 a3 a4 a5
          obtain ⟨k, fst, la, hk, rfl, hfs, hfl, hfb, hbr⟩ := hrel
          have HFS := Lib.hid hfs
          have HFL := Lib.hid hfl
          have HFB := Lib.hid hfb
          clear hfs hfl hfb
          have hzr : w.heap.size + 2 ≤ wr.heap.size := by have := hbr.size; simpa using this
          have kwr : Below w.heap.size w wr := b00.trans (hbr.mono (by omega))
          by_cases hlt : k < n4
          · have hkl : k < x.wants.length := by have := HN4.out; omega
            have HOF := Lib.hid (fun (v : World) (hv : Below w.heap.size w v) => orderW_any x.wants k A4 n4 c4 v HN4.out (by omega) hkl ((HR4.out.below hv (Nat.le_refl _)).more hv.size))
            obtain ⟨b, o, rfl, hb, he⟩ := HR4.out.at hkl
            generalize hx : x.wants[k] = y at *
            have HX := Lib.hid hx
            clear hx
            have e0 : wr.cell? ⟨b, o + k * 6, none⟩ = some (.int .i64 y.pod) := (kwr.cell (p := ⟨b, o + k * 6, none⟩) hb).trans (he 0 _ rfl)
            have e1 : wr.cell? ⟨b, o + k * 6 + 1, none⟩ = some (.int .u64 y.req.a) := (kwr.cell (p := ⟨b, o + k * 6 + 1, none⟩) hb).trans (he 1 _ rfl)
            have e2 : wr.cell? ⟨b, o + k * 6 + 2, none⟩ = some (.int .u64 y.req.b) := (kwr.cell (p := ⟨b, o + k * 6 + 2, none⟩) hb).trans (he 2 _ rfl)
            have e3 : wr.cell? ⟨b, o + k * 6 + 3, none⟩ = some (.int .u64 y.req.c) := (kwr.cell (p := ⟨b, o + k * 6 + 3, none⟩) hb).trans (he 3 _ rfl)
            have e4 : wr.cell? ⟨b, o + k * 6 + 4, none⟩ = some (.int .u64 y.req.d) := (kwr.cell (p := ⟨b, o + k * 6 + 4, none⟩) hb).trans (he 4 _ rfl)
            have e5 : wr.cell? ⟨b, o + k * 6 + 5, none⟩ = some (.bool y.stay) := (kwr.cell (p := ⟨b, o + k * 6 + 5, none⟩) hb).trans (he 5 _ rfl)
            have hbw : b < wr.heap.size := by omega
            clear he
            obtain ⟨⟨a0, a1, a2⟩, a3, a4, a5⟩ := box2_cells hbr
            go_wp2
            generalize hW : wr.alloc (.cells #[.int .i64 y.pod, .int .u64 y.req.a, .int .u64 y.req.b, .int .u64 y.req.c, .int .u64 y.req.d, .bool y.stay] 62) = W at *
            have kW : Below w.heap.size w W := by rw [← hW]; exact kwr.alloc kwr.size _
            have kW2 : Below (w.heap.size + 2) ((w.alloc (.cells #[.slice A1 n1 c1, .slice A2 n2 c2, .slice A3 n3 c3] 26)).alloc (.cells #[.slice (some ⟨b, o, none⟩) n4 c4, .int .i64 x.preempts, .int .i64 x.shifts] 29)) W := by rw [← hW]; exact hbr.alloc hzr _
            have hgW : wr.heap.size < W.heap.size := by rw [← hW]; simp
            have hgW0 : w.heap.size < W.heap.size := by omega
            have hgW1 : w.heap.size + 1 < W.heap.size := by omega
            have f0 : W.cell? ⟨wr.heap.size, 0, none⟩ = some (.int .i64 y.pod) := by rw [← hW]; simp
            have f1 : W.cell? ⟨wr.heap.size, 1, none⟩ = some (.int .u64 y.req.a) := by rw [← hW]; simp
            have f2 : W.cell? ⟨wr.heap.size, 2, none⟩ = some (.int .u64 y.req.b) := by rw [← hW]; simp
            have f3 : W.cell? ⟨wr.heap.size, 3, none⟩ = some (.int .u64 y.req.c) := by rw [← hW]; simp
            have f4 : W.cell? ⟨wr.heap.size, 4, none⟩ = some (.int .u64 y.req.d) := by rw [← hW]; simp
            have f5 : W.cell? ⟨wr.heap.size, 5, none⟩ = some (.bool y.stay) := by rw [← hW]; simp
            clear hW a0 a1 a2 a3 a4 a5
            obtain ⟨⟨a0, a1, a2⟩, a3, a4, a5⟩ := box2_cells kW2
            generalize hq : ordAt WantD.pod x.wants k = q at *
            generalize ht : wantF s.pods y = t
            have HQ := Lib.hid hq
            have HT := Lib.hid ht
            clear hq ht
            have HIF2 : Hid (∀ v : World, ((∀ b o, b < W.heap.size → v.cell? ⟨b, o, none⟩ = W.cell? ⟨b, o, none⟩) ∧ Below W.heap.size W v) → Calls Tryz.prog 17 #[.slice (some ⟨b, o, none⟩) n4 c4, .int .i64 (k : Int), .func (.func 18) #[] #[]] v fun e w' => e = .returned (.int .i64 q) ∧ Below v.heap.size v w') := fun v hv => HOF.out v (kW.trans (hv.2.mono kW.size))
            have HOT2 : Hid (∀ v : World, ((∀ b o, b < W.heap.size → v.cell? ⟨b, o, none⟩ = W.cell? ⟨b, o, none⟩) ∧ Below W.heap.size W v) → Calls Tryz.prog 19 #[.agg #[.slice A1 n1 c1, .slice A2 n2 c2, .slice A3 n3 c3], aggW y] v fun e w' => e = .returned (.int .i64 t) ∧ Below v.heap.size v w') := by
              have := HT.out
              subst this
              exact fun v hv => wantFault_any s.pods y A1 A2 A3 n1 c1 n2 c2 n3 c3 v HN3.out (by omega) ((HR3.out.below (kW.trans (hv.2.mono kW.size)) (Nat.le_refl _)).more (kW.trans (hv.2.mono kW.size)).size)
            go_region_held3 (fun w' => (∀ b o, b < W.heap.size → w'.cell? ⟨b, o, none⟩ = W.cell? ⟨b, o, none⟩) ∧ Below W.heap.size W w')
              (first | (with_reducible assumption) | exact Keeps.of (Below.drew (Below.refl _ _)) | exact Keeps.step (by assumption) (by assumption) | exact Keeps.alloc (by assumption) _)
              (first
                | (go_at_call 17; refine (HIF2.out _ (by assumption)).mono ?_; rintro e w' ⟨rfl, hb⟩)
                | (go_at_call 19; refine (HOT2.out _ (by assumption)).mono ?_; rintro e w' ⟨rfl, hb⟩)
                | (go_at_call 16; refine (or_any q t _ _ (by simp) (by simp)).mono ?_; rintro e w' ⟨rfl, rfl⟩))
            have HV := Lib.hid (show wantBad s fst la y = orI q t by rw [want_key hkl HX.out HFS.out HFL.out, HT.out, HQ.out])
            have HFA := Lib.hid (firstWant_at hkl HX.out HFB.out)
            by_cases h0 : orI q t = 0
            · have hz : (orI q t != 0) = false := by simp [h0]
              have HE := Lib.hid (HFA.out.2 (by rw [HV.out]; exact h0))
              clear h0
              go_wp2
              go_roundw
              case rel => exact fairRel_next hkl HX.out HE.out (kW2.trans ((by assumption : Keeps W _).2.mono (by omega)))
              case measure => simp [intOf]; omega
            · have hz : (orI q t != 0) = true := by simpa using h0
              have HE := Lib.hid (fair_some HCK.out HOK.out (HFA.out.1 (by rw [HV.out]; exact h0)))
              clear h0
              go_wp2_with fail
              refine (spot_any _ _ _).mono ?_
              rintro e w2 ⟨rfl, rfl⟩
              go_wp2
              go_ret
              refine fair_end kW ?_ HE.out HV.out ?_
              · assumption
              · simp
          · have HE := Lib.hid (fair_fine HCK.out HOK.out (firstWant_end (by have := HN4.out; omega) HFB.out))
            go_wp2
            go_ret
            exact ⟨_, rfl, .inl ⟨HE.out, rfl⟩, kwr⟩
      · have hp2' : inB x.shifts 0 40 = false := by simpa using hp2
        have HE := Lib.hid (fair_large (x := x) HCK.out (by have := mt inB_iff.2 (by rw [hp2']; decide : ¬ inB x.shifts 0 40 = true); omega))
        clear hp2
        go_wp2
        go_ret
        exact ⟨_, rfl, .inr (.inl ⟨by rw [HE.out], by rw [HE.out]; decide, by rw [HE.out]; decide, by rw [HE.out]; rfl⟩), kw1⟩
    · have hp1' : inB x.preempts 0 40 = false := by simpa using hp1
      have HE := Lib.hid (fair_large (x := x) HCK.out (by have := mt inB_iff.2 (by rw [hp1']; decide : ¬ inB x.preempts 0 40 = true); omega))
      clear hp1
      go_wp2
      go_ret
      exact ⟨_, rfl, .inr (.inl ⟨by rw [HE.out], by rw [HE.out]; decide, by rw [HE.out]; decide, by rw [HE.out]; rfl⟩), kw1⟩
  · obtain ⟨t, v, rfl⟩ := errIs_some hu hck
    have HU := Lib.hid hu
    have HE := Lib.hid (fair_bad (x := x) hck)
    clear hu hck
    go_wp2
    go_ret
    exact ⟨_, rfl, by rw [HE.out]; exact HU.out.more b00.size, kw1⟩
end Go.Proofs.YtabebhaclkhhpaaGreatDoor

/- The program's Walk of layer 12. -/
namespace Go.Proofs.YtabebhaclkhhpaaGreatDoor
set_option linter.unusedSimpArgs false
open Go.RowKit
set_option linter.unusedVariables false

theorem ErrIs.put {p : Int × Int} {B : Nat} {w : World} {u : Value} (h : ErrIs p B w u) {q : Addr} (hq : q.block < B) (v : Value) : ErrIs p B (w.setCell q v) u := by
  rcases h with h | h | ⟨k, g, h1, h2, h3, h4⟩
  · exact .inl h
  · exact .inr (.inl h)
  · exact .inr (.inr ⟨k, g, h1, h2, h3, (Below.heap_setCell w q v g (by omega)).trans h4⟩)
theorem T3.past {a b c : List Value} {w V : World} (h : T3 a b c w V) {p : Addr} (hp : w.heap.size + 3 ≤ p.block) (v : Value) : T3 a b c w (V.setCell p v) :=
  ⟨h.one.other (by omega) v, h.two.other (by omega) v, h.three.other (by omega) v, h.below.setCell (by omega) v⟩
theorem OwnAt.from {B : Nat} {l : List PodD} {w : World} {A : Option Addr} {c : Nat} (h : OwnAt B l w A c) : ∀ a, A = some a → B ≤ a.block ∧ a.block < w.heap.size := by
  intro a ha
  rcases h.2 with ⟨h0, _⟩ | ⟨g, cap, cur, hv, hb, hg, _⟩
  · injection h0 with h0 _ _
    rw [h0] at ha; cases ha
  · injection hv with h0 _ _
    rw [h0] at ha
    injection ha with ha
    rw [← ha]
    exact ⟨hb, (Array.getElem?_eq_some_iff.1 hg).1⟩
/-- What is handed in to a walk. -/
structure WalkArgs (s : SnapD) (x : SpecD) (A1 A2 A3 A5 : Option Addr) (n1 c1 n2 c2 n3 c3 n5 c5 : Nat) (w : World) : Prop where
  g : Laid w
  ok : s.Ok
  wo : ∀ a ∈ x.wants, a.Ok
  i1 : I64 x.preempts
  i2 : I64 x.shifts
  s1 : n1 = s.nodes.length ∧ n1 ≤ 40 ∧ n1 ≤ c1 ∧ c1 ≤ maxLen
  s2 : n2 = s.loads.length ∧ n2 ≤ 40 ∧ n2 ≤ c2 ∧ c2 ≤ maxLen
  s3 : n3 = s.pods.length ∧ n3 ≤ 40 ∧ n3 ≤ c3 ∧ c3 ≤ maxLen ∧ (A3 = none → c3 = 0)
  s5 : n5 = x.wants.length ∧ n5 ≤ 40 ∧ n5 ≤ c5 ∧ c5 ≤ maxLen
  r1 : Recs 10 cellsN w w.heap.size A1 s.nodes
  r2 : Recs 5 cellsL w w.heap.size A2 s.loads
  r3 : Recs 8 cellsP w w.heap.size A3 s.pods
  r5 : Recs 6 cellsW w w.heap.size A5 x.wants
theorem WalkArgs.at {s : SnapD} {x : SpecD} {A1 A2 A3 A5 : Option Addr} {n1 c1 n2 c2 n3 c3 n5 c5 : Nat} {w V : World} (h : WalkArgs s x A1 A2 A3 A5 n1 c1 n2 c2 n3 c3 n5 c5 w) (hV : Below w.heap.size w V) : WalkArgs s x A1 A2 A3 A5 n1 c1 n2 c2 n3 c3 n5 c5 V :=
  ⟨Laid.below h.g hV (Nat.le_refl _), h.ok, h.wo, h.i1, h.i2, h.s1, h.s2, h.s3, h.s5, (h.r1.below hV (Nat.le_refl _)).more hV.size, (h.r2.below hV (Nat.le_refl _)).more hV.size, (h.r3.below hV (Nat.le_refl _)).more hV.size, (h.r5.below hV (Nat.le_refl _)).more hV.size⟩
theorem WalkArgs.fair {s : SnapD} {x : SpecD} {A1 A2 A3 A5 : Option Addr} {n1 c1 n2 c2 n3 c3 n5 c5 : Nat} {w : World} (h : WalkArgs s x A1 A2 A3 A5 n1 c1 n2 c2 n3 c3 n5 c5 w) :
    Calls Tryz.prog 6 #[.agg #[.slice A1 n1 c1, .slice A2 n2 c2, .slice A3 n3 c3], .agg #[.slice A5 n5 c5, .int .i64 x.preempts, .int .i64 x.shifts]] w (ErrTo (fair s x) w) :=
  fair_holds s x A1 A2 A3 A5 n1 c1 n2 c2 n3 c3 n5 c5 w.heap.size w h.ok h.wo h.i1 h.i2 h.s1.1 h.s2.1 h.s3.1 h.s5.1 h.s1.2.1 h.s2.2.1 h.s3.2.1 h.s5.2.1 h.s1.2.2.1 h.s2.2.2.1 h.s3.2.2.1 h.s5.2.2.1 h.s1.2.2.2 h.s2.2.2.2 h.s3.2.2.2.1 h.s5.2.2.2 (Nat.le_refl _) h.r1 h.r2 h.r3 h.r5
end Go.Proofs.YtabebhaclkhhpaaGreatDoor

/- The first proposal done, again and again: the program's Tidy of layer 16. -/
namespace Go.Proofs.YtabebhaclkhhpaaGreatDoor
set_option linter.unusedSimpArgs false
open Go.RowKit Go.Shelf
set_option linter.unusedVariables false

theorem own_asideQ {w : World} {base n size : Nat} {e : TypeId} {v : Value} {xs : List Value} (h : w.ownsRow base e size v n xs) {p : Addr} (hp : p.block < base) (u : Value) : (w.setCell p u).ownsRow base e size v n xs :=
  own_but h (.set (O := fun k => k = p.block) p u rfl) fun k hk e => by have := (h.lt k hk).1; omega
theorem own_drewQ {V : World} {B e size n : Nat} {v : Value} {xs : List Value} (h : V.ownsRow B e size v n xs) : V.drew.ownsRow B e size v n xs := h
/-- What is turned as a move and its state are taken over: the state's box, and the moves' row. -/
def OTd (g : Nat) (v : Value) (k : Nat) : Prop := k = g + 2 ∨ v.ownBlock = some k
def OWd (v : Value) (k : Nat) : Prop := v.ownBlock = some k
theorem But.grownW {v : Value} {A B C : World} (hg : B.grownBy C v.ownBlock) (h : But (OWd v) A B) : But (OWd v) A C := h.trans (But.grown (O := OWd v) hg fun k e => e) fun _ _ h => h
theorem But.allocO {O : Nat → Prop} {A B : World} (h : But O A B) (o : Obj) : But O A (B.alloc o) := h.trans (But.of (O := O) ((Below.refl _ B).alloc (Nat.le_refl _) o)) fun _ _ h => h
theorem But.wide {g : Nat} {v : Value} {A B : World} (h : But (OWd v) A B) : But (OTd g v) A B := h.imp fun k _ e => .inr e
theorem keepA {W V : World} {g g5 : Nat} {v : Value} (h1 : ¬ OTd g v g5) (h2 : ¬ OTd g v (g5 + 1)) (l5 : g5 + 1 < W.heap.size) (l3 : g + 2 < W.heap.size) (hn : v.ownBlock ≠ some (g + 2)) (hb : But (OWd v) W V) :
    (∀ o, V.cell? ⟨g5, o, none⟩ = W.cell? ⟨g5, o, none⟩) ∧ (∀ o, V.cell? ⟨g5 + 1, o, none⟩ = W.cell? ⟨g5 + 1, o, none⟩) ∧ (∀ o, V.frozen? ⟨g + 2, o, none⟩ = W.frozen? ⟨g + 2, o, none⟩) ∧ But (OTd g v) W V :=
  ⟨fun o => hb.wide.cell (p := ⟨g5, o, none⟩) (by show g5 < _; omega) h1, fun o => hb.wide.cell (p := ⟨g5 + 1, o, none⟩) l5 h2, fun o => hb.frozen (p := ⟨g + 2, o, none⟩) l3 hn, hb.wide⟩
theorem keepB {W V : World} {g g5 : Nat} {v : Value} (h1 : ¬ OTd g v g5) (h2 : ¬ OTd g v (g5 + 1)) (l5 : g5 + 1 < W.heap.size) (l3 : g + 2 < W.heap.size) (hn : v.ownBlock ≠ some (g + 2)) (hb : But (OWd v) W V) (x y z : Value) :
    (∀ o, (((V.setCell ⟨g + 2, 0, none⟩ x).setCell ⟨g + 2, 1, none⟩ y).setCell ⟨g + 2, 2, none⟩ z).cell? ⟨g5, o, none⟩ = W.cell? ⟨g5, o, none⟩) ∧ (∀ o, (((V.setCell ⟨g + 2, 0, none⟩ x).setCell ⟨g + 2, 1, none⟩ y).setCell ⟨g + 2, 2, none⟩ z).cell? ⟨g5 + 1, o, none⟩ = W.cell? ⟨g5 + 1, o, none⟩) ∧
      (∀ o, (((V.setCell ⟨g + 2, 0, none⟩ x).setCell ⟨g + 2, 1, none⟩ y).setCell ⟨g + 2, 2, none⟩ z).frozen? ⟨g + 2, o, none⟩ = W.frozen? ⟨g + 2, o, none⟩) ∧ But (OTd g v) W (((V.setCell ⟨g + 2, 0, none⟩ x).setCell ⟨g + 2, 1, none⟩ y).setCell ⟨g + 2, 2, none⟩ z) := by
  have o2 : OTd g v (g + 2) := .inl rfl
  have hw : But (OTd g v) W (((V.setCell ⟨g + 2, 0, none⟩ x).setCell ⟨g + 2, 1, none⟩ y).setCell ⟨g + 2, 2, none⟩ z) := ((hb.wide.setO (p := ⟨g + 2, 0, none⟩) o2 x).setO (p := ⟨g + 2, 1, none⟩) o2 y).setO (p := ⟨g + 2, 2, none⟩) o2 z
  exact ⟨fun o => hw.cell (p := ⟨g5, o, none⟩) (by show g5 < _; omega) h1, fun o => hw.cell (p := ⟨g5 + 1, o, none⟩) l5 h2, fun o => by rw [World.frozen?_setCell, World.frozen?_setCell, World.frozen?_setCell]; exact hb.frozen (p := ⟨g + 2, o, none⟩) l3 hn, hw⟩
/-- What Tidy tells. -/
def TidyTo (z : StateD × List MoveD) (w : World) (e : Ending) (w' : World) : Prop :=
  ∃ A c Am cm, e = .returned (.tuple #[stateV A z.1.pods.length c z.1.preempts z.1.shifts, .slice Am z.2.length cm]) ∧ Out 8 cellsP w' z.1.pods A c ∧ Out 4 cellsM w' z.2 Am cm ∧ Below w.heap.size w w'
/-- The pods don't lie where the moves lie. -/
def OffQ (l : List PodD) (A : Option Addr) (v : Value) : Prop := l = [] ∨ ∀ a, A = some a → v.ownBlock ≠ some a.block
theorem OffQ.of {W : World} {A : Option Addr} {c g : Nat} {v : Value} {l : List PodD} (h : Out 8 cellsP W l A c) (hA : ∀ p, A = some p → ∀ k, v.ownBlock = some k → k < p.block) (hg : v.ownBlock = some g ∨ W.heap.size ≤ g) (n cap : Nat) : OffQ l A (.slice (some ⟨g, 0, none⟩) n cap) := by
  rcases h.recs with h0 | ⟨b, o, h1, h2, _⟩
  · exact .inl h0
  · refine .inr fun p hp e => ?_
    have e1 : g = p.block := by simpa [Value.ownBlock] using e
    rw [h1] at hp
    injection hp with hp
    subst hp
    rcases hg with hg | hg
    · have := hA _ h1 g hg; simp at this e1; omega
    · simp at e1; omega
structure TdS (a b : List Value) (w : World) (u : StateD) (ms : List MoveD) (A : Option Addr) (c : Nat) (v : Value) (V : World) : Prop where
  box : T3 a b [.slice A u.pods.length c, .int .i64 u.preempts, .int .i64 u.shifts] w V
  res : Bf V (w.heap.size + 3) [.slice none 0 0, .int .i64 0, .int .i64 0]
  out : Out 8 cellsP V u.pods A c
  new : ∀ p, A = some p → w.heap.size + 4 ≤ p.block
  row : V.ownsRow (w.heap.size + 4) 49 4 v ms.length (ms.flatMap cellsM)
  off : OffQ u.pods A v
def TdRel (ns : List NodeD) (ls : List LoadD) (x : SpecD) (z : StateD × List MoveD) (N len : Nat) (a b : List Value) (w : World) (v i : Value) (wr : World) : Prop :=
  ∃ (k : Nat) (u : StateD) (ms : List MoveD) (A : Option Addr) (c : Nat), k ≤ N ∧ i = .int .i64 k ∧ ms.length = k ∧ ((tidyD ns ls x (N - k) u).1, ms ++ (tidyD ns ls x (N - k) u).2) = z ∧ TdS a b w u ms A c v wr ∧ (∀ p ∈ u.pods, p.Ok) ∧ u.pods.length = len
theorem TdS.keep {a b : List Value} {w V V' : World} {u : StateD} {ms : List MoveD} {A : Option Addr} {c : Nat} {v : Value} (h : TdS a b w u ms A c v V) (hb : Below V.heap.size V V') : TdS a b w u ms A c v V' :=
  ⟨h.box.keep hb, h.res.below hb h.res.lt, h.out.later hb, h.new, own_belowS h.row hb (Nat.le_refl _), h.off⟩
theorem TdS.told {a b : List Value} {w V : World} {u : StateD} {ms : List MoveD} {A : Option Addr} {c : Nat} {v : Value} (h : TdS a b w u ms A c v V) :
    ∃ Am cm, v = .slice Am ms.length cm ∧ Out 8 cellsP (((V.setCell ⟨w.heap.size + 3, 0, none⟩ (.slice A u.pods.length c)).setCell ⟨w.heap.size + 3, 1, none⟩ (.int .i64 u.preempts)).setCell ⟨w.heap.size + 3, 2, none⟩ (.int .i64 u.shifts)) u.pods A c ∧
      Out 4 cellsM (((V.setCell ⟨w.heap.size + 3, 0, none⟩ (.slice A u.pods.length c)).setCell ⟨w.heap.size + 3, 1, none⟩ (.int .i64 u.preempts)).setCell ⟨w.heap.size + 3, 2, none⟩ (.int .i64 u.shifts)) ms Am cm ∧
      Below w.heap.size w (((V.setCell ⟨w.heap.size + 3, 0, none⟩ (.slice A u.pods.length c)).setCell ⟨w.heap.size + 3, 1, none⟩ (.int .i64 u.preempts)).setCell ⟨w.heap.size + 3, 2, none⟩ (.int .i64 u.shifts)) := by
  have kb : But (fun k => k = w.heap.size + 3) V (((V.setCell ⟨w.heap.size + 3, 0, none⟩ (.slice A u.pods.length c)).setCell ⟨w.heap.size + 3, 1, none⟩ (.int .i64 u.preempts)).setCell ⟨w.heap.size + 3, 2, none⟩ (.int .i64 u.shifts)) :=
    (((But.refl (fun k => k = w.heap.size + 3) V).setO (p := ⟨w.heap.size + 3, 0, none⟩) rfl _).setO (p := ⟨w.heap.size + 3, 1, none⟩) rfl _).setO (p := ⟨w.heap.size + 3, 2, none⟩) rfl _
  have hrow := own_but h.row kb (fun k hk e => by have := (h.row.lt k hk).1; omega)
  have hbl := h.box.below.trans (kb.below h.box.below.size fun k hk => by omega)
  have hout := h.out.but kb (fun p hp e => by have := h.new p hp; omega)
  generalize (((V.setCell ⟨w.heap.size + 3, 0, none⟩ (.slice A u.pods.length c)).setCell ⟨w.heap.size + 3, 1, none⟩ (.int .i64 u.preempts)).setCell ⟨w.heap.size + 3, 2, none⟩ (.int .i64 u.shifts)) = Z at *
  obtain ⟨Am, cm, rfl, h1, h2, h3, h4⟩ := recs_of_own (cells := cellsM) (size := 4) (fun _ => rfl) rfl hrow
  exact ⟨Am, cm, rfl, hout, ⟨h1, h2, h3, h4⟩, hbl⟩
theorem TdS.args {ns : List NodeD} {ls : List LoadD} {x : SpecD} {t : StateD} {A1 A2 A4 A5 : Option Addr} {n1 n2 n4 c4 n5 : Nat} {a b : List Value} {w V : World} {u : StateD} {ms : List MoveD} {A : Option Addr} {c : Nat} {v : Value} (h : TdS a b w u ms A c v V)
    (k : TidyArgs ns ls x t A1 A2 A4 A5 n1 n2 n4 c4 n5 w) (ho : ∀ p ∈ u.pods, p.Ok) (hl : u.pods.length = t.pods.length) : TidyArgs ns ls x u A1 A2 A A5 n1 n2 u.pods.length c n5 V := by
  have k0 := k.at h.box.below
  exact ⟨⟨k0.a.g, k0.a.no, ho, k0.a.e1, k0.a.l1, k0.a.r1, k0.a.e2, k0.a.l2, k0.a.r2, rfl, by rw [hl, ← k0.a.e4]; exact k0.a.l4, h.out.1, h.out.recs⟩, h.out.2.2.1, k0.e5, k0.l5, k0.r5, k0.xo⟩

set_option maxHeartbeats 12800000 in
set_option maxRecDepth 100000 in
theorem tidy_any (ns : List NodeD) (ls : List LoadD) (x : SpecD) (t : StateD) (most : Int) (hm : most ≤ 60) (A1 A2 A3 A4 A5 : Option Addr) (n1 c1 n2 c2 n3 c3 n4 c4 n5 c5 : Nat) (w : World) (h : TidyArgs ns ls x t A1 A2 A4 A5 n1 n2 n4 c4 n5 w) :
    Calls Tryz.prog 7 #[.agg #[.slice A1 n1 c1, .slice A2 n2 c2, .slice A3 n3 c3], .agg #[.slice A5 n5 c5, .int .i64 x.preempts, .int .i64 x.shifts], .agg #[.slice A4 n4 c4, .int .i64 t.preempts, .int .i64 t.shifts], .int .i64 most] w (TidyTo (tidyD ns ls x (min most 8).toNat t) w) := by
  have T0 := T3.new w [.slice A1 n1 c1, .slice A2 n2 c2, .slice A3 n3 c3] [.slice A5 n5 c5, .int .i64 x.preempts, .int .i64 x.shifts] [.slice A4 n4 c4, .int .i64 t.preempts, .int .i64 t.shifts] 26 29 31
  have T1 := T0.alloc (.cells #[.slice none 0 0, .int .i64 0, .int .i64 0] 31)
  have R1 := Bf.new _ [.slice none 0 0, .int .i64 0, .int .i64 0] 31 (b := w.heap.size + 3) (by simp : w.heap.size + 3 = (((w.alloc (.cells #[.slice A1 n1 c1, .slice A2 n2 c2, .slice A3 n3 c3] 26)).alloc (.cells #[.slice A5 n5 c5, .int .i64 x.preempts, .int .i64 x.shifts] 29)).alloc (.cells #[.slice A4 n4 c4, .int .i64 t.preempts, .int .i64 t.shifts] 31)).heap.size)
  have hcl := cloneQ_any t.pods A4 n4 c4 _ h.a.e4 (by have := h.a.l4; omega) h.h04 (h.at T1.below).a.r4
  have HA := Lib.hid h
  have HN4 := Lib.hid h.a.e4
  clear T0
  go_enter Tryz.func7, Tryz.ntmps7
  go_wp2_with fail
  refine hcl.mono ?_
  rintro e w1 ⟨A', c', rfl, hown, hb⟩
  have T2' := T1.keep hb
  have R2 := R1.below hb R1.lt
  have O2 := out_of_own (cells := cellsP) (fun _ => rfl) HN4.out hown
  have hfr : ∀ p, A' = some p → w.heap.size + 4 ≤ p.block := fun p hp => by
    subst hp
    rcases hown.2 with ⟨h1, _⟩ | ⟨g, cap, cur, h1, h2, _⟩
    · injection h1 with h1; cases h1
    · injection h1 with h1; injection h1 with h1; subst h1
      simpa using h2
  clear hown hb T1 R1 hcl h
  have z0 := T2'.three.frozen 0
  obtain ⟨d0, d1, d2, d3⟩ := T2'.three.cells3
  go_wp2
  simp only [Nat.add_assoc, Nat.reduceAdd]
  have HS2 : Hid (TdS [.slice A1 n1 c1, .slice A2 n2 c2, .slice A3 n3 c3] [.slice A5 n5 c5, .int .i64 x.preempts, .int .i64 x.shifts] w t [] A' c' (.slice none 0 0) (w1.setCell ⟨w.heap.size + 2, 0, none⟩ (.slice A' n4 c'))) := by
    have kb : But (fun k => k = w.heap.size + 2) w1 (w1.setCell ⟨w.heap.size + 2, 0, none⟩ (.slice A' n4 c')) := .set ⟨w.heap.size + 2, 0, none⟩ _ rfl
    refine ⟨?_, R2.but kb (by omega), O2.but kb (fun p hp e => by have := hfr p hp; omega), hfr, World.ownsRow_nil _ _ _ _, .inr fun p hp e => by simp [Value.ownBlock] at e⟩
    rw [← HN4.out]
    exact ⟨T2'.one.but kb (by omega), T2'.two.but kb (by omega), T2'.three.set 0 _, T2'.below.setCell (p := ⟨w.heap.size + 2, 0, none⟩) (by show w.heap.size ≤ w.heap.size + 2; omega) _⟩
  clear T2' R2 O2 hfr z0 d0 d1 d2 d3
  obtain ⟨mm, hmm⟩ : ∃ mm, min most 8 = mm := ⟨_, rfl⟩
  rw [hmm]
  obtain ⟨N, hN⟩ : ∃ N, mm.toNat = N := ⟨_, rfl⟩
  have hN8 : N ≤ 8 := by omega
  rw [hN]
  have HZ : Hid (∃ z, tidyD ns ls x N t = z) := ⟨_, rfl⟩
  obtain ⟨z, hz⟩ := HZ.out
  rw [hz]
  have HZE := Lib.hid hz
  have HN := Lib.hid hN
  have HE : Hid (tidyD ns ls x (min most 8).toNat t = z) := by show _ = _; rw [hmm, hN]; exact hz
  clear hmm hN hz HZ hm
  go_loopw [10, 20] (TdRel ns ls x z N t.pods.length [.slice A1 n1 c1, .slice A2 n2 c2, .slice A3 n3 c3] [.slice A5 n5 c5, .int .i64 x.preempts, .int .i64 x.shifts] w) (fun _ i _ => N - (intOf i).toNat)
  case atStart => exact ⟨0, t, [], A', c', Nat.zero_le _, rfl, rfl, HZE.out, HS2.out, HA.out.a.lo, rfl⟩
  case round =>
    obtain ⟨k, u, ms, A, c, hk, rfl, hml, hzz, hS, hok, hlen⟩ := hrel
    have HZZ := Lib.hid hzz
    have HS := Lib.hid hS
    have HOK := Lib.hid (And.intro hok hlen)
    have HML := Lib.hid hml
    clear hzz hok hlen hml HS2
    obtain ⟨d0, d1, d2, d3⟩ := hS.box.three.cells3
    have z0 := hS.res.frozen 0
    have z1 := hS.res.frozen 1
    have z2 := hS.res.frozen 2
    obtain ⟨y0, y1, y2, y3⟩ := hS.res.cells3
    by_cases hlt : k < N
    · have hltm : (k : Int) < mm := by have := HN.out; omega
      have HFI := Lib.hid (first_any16 ns ls x u A1 A2 A3 A A5 n1 c1 n2 c2 n3 c3 u.pods.length c n5 c5 wr (hS.args HA.out HOK.out.1 HOK.out.2))
      obtain ⟨a0, a1, a2, a3⟩ := hS.box.one.cells3
      obtain ⟨b0, b1, b2, b3⟩ := hS.box.two.cells3
      clear hS
      go_wp2_with fail
      refine HFI.out.mono ?_
      rintro e w5 (⟨m, u', A7, c7, hf, rfl, ho7, hfr7, hb7⟩ | ⟨hf, rfl, hb7⟩)
      · clear a0 a1 a2 a3 b0 b1 b2 b3 d0 d1 d2 d3 z0 z1 z2 y0 y1 y2 y3
        have S5 := HS.out.keep hb7
        have hkk : Below w5.heap.size w5 ((w5.alloc (.cells #[.int .i64 m.kind, .int .i64 m.pod, .int .i64 m.node, .int .i64 m.over] 49)).alloc (.cells #[.slice A7 u'.pods.length c7, .int .i64 u'.preempts, .int .i64 u'.shifts] 31)) := ((Below.refl _ w5).alloc (Nat.le_refl _) _).alloc (by simp) _
        have S7 := S5.keep hkk
        have O7 := ho7.later hkk
        have BM : Bf ((w5.alloc (.cells #[.int .i64 m.kind, .int .i64 m.pod, .int .i64 m.node, .int .i64 m.over] 49)).alloc (.cells #[.slice A7 u'.pods.length c7, .int .i64 u'.preempts, .int .i64 u'.shifts] 31)) w5.heap.size (cellsM m) := (Bf.new w5 (cellsM m) 49 rfl).alloc (.cells #[.slice A7 u'.pods.length c7, .int .i64 u'.preempts, .int .i64 u'.shifts] 31)
        have BS := Bf.new (w5.alloc (.cells #[.int .i64 m.kind, .int .i64 m.pod, .int .i64 m.node, .int .i64 m.over] 49)) [.slice A7 u'.pods.length c7, .int .i64 u'.preempts, .int .i64 u'.shifts] 31 (b := w5.heap.size + 1) (by simp)
        have hfr' : ∀ p, A7 = some p → w.heap.size + 4 ≤ p.block ∧ ∀ g, u10.ownBlock = some g → g < p.block := fun p hp => by
          have h1 := hfr7 p hp
          have h2 := HS.out.res.lt
          exact ⟨by omega, fun g hg => by have := (HS.out.row.lt g hg).2; omega⟩
        have HF := Lib.hid hf
        have q1 : ¬ OTd w.heap.size u10 w5.heap.size := fun e => by
          rcases e with e | e
          · have := S5.res.lt; omega
          · have := (S5.row.lt _ e).2; omega
        have q2 : ¬ OTd w.heap.size u10 (w5.heap.size + 1) := fun e => by
          rcases e with e | e
          · have := S5.res.lt; omega
          · have := (S5.row.lt _ e).2; omega
        have q3 := BS.lt
        have q4 := S7.box.three.lt
        have q5 : u10.ownBlock ≠ some (w.heap.size + 2) := fun e => by have := (S7.row.lt _ e).1; omega
        have HQ := Lib.hid (And.intro q1 (And.intro q2 (And.intro q3 (And.intro q4 q5))))
        clear hf ho7 hfr7 hb7 S5 hkk HS HFI q1 q2 q3 q4 q5
        go_upto_region 7 with fail
        generalize ((w5.alloc (.cells #[.int .i64 m.kind, .int .i64 m.pod, .int .i64 m.node, .int .i64 m.over] 49)).alloc (.cells #[.slice A7 u'.pods.length c7, .int .i64 u'.preempts, .int .i64 u'.shifts] 31)) = W7 at *
        have hs1 := BM.lt
        generalize w5.heap.size = g5 at *
        have HS7 := Lib.hid S7
        have HO7 := Lib.hid O7
        have HBM := Lib.hid BM
        have HFR := Lib.hid hfr'
        obtain ⟨⟨m0, m1⟩, m2, m3, m4⟩ := BM.cells4q
        obtain ⟨s0, s1, s2, s3⟩ := BS.cells3
        have z0 := S7.box.three.frozen 0
        have z1 := S7.box.three.frozen 1
        have z2 := S7.box.three.frozen 2
        obtain ⟨d0, d1, d2, d3⟩ := S7.box.three.cells3
        clear S7 O7 BM BS hfr'
        go_region_held3 (fun w' => (∀ o, w'.cell? ⟨g5, o, none⟩ = W7.cell? ⟨g5, o, none⟩) ∧ (∀ o, w'.cell? ⟨g5 + 1, o, none⟩ = W7.cell? ⟨g5 + 1, o, none⟩) ∧ (∀ o, w'.frozen? ⟨w.heap.size + 2, o, none⟩ = W7.frozen? ⟨w.heap.size + 2, o, none⟩) ∧ But (OTd w.heap.size u10) W7 w')
          (first | (with_reducible assumption) | (with_reducible exact keepB HQ.out.1 HQ.out.2.1 HQ.out.2.2.1 HQ.out.2.2.2.1 HQ.out.2.2.2.2 (by with_reducible (repeat (first | exact But.refl _ _ | assumption | refine But.drewO ?_ | refine But.allocO ?_ _))) _ _ _) | (exact keepA HQ.out.1 HQ.out.2.1 HQ.out.2.2.1 HQ.out.2.2.2.1 HQ.out.2.2.2.2 (by with_reducible (repeat (first | exact But.refl _ _ | assumption | refine But.drewO ?_ | refine But.allocO ?_ _)))))
          (first | (refine step_moveQ rfl (.tmp 33) (.tmp 35) rfl (w.heap.size + 4) u10 ms.length (ms.flatMap cellsM) (by with_reducible (repeat (first | exact HS7.out.row | refine own_drewQ ?_ | refine World.ownsRow.alloc ?_ _))) rfl _ rfl m (by exact (Bf.new _ (cellsM m) 49 rfl).cell) (by have h9 := HS7.out.res.lt; simp; omega) (by have := HML.out; omega) ?_; intro g cap w8 hown8 hgr8 hwh8; have hk8 : But (OWd u10) W7 w8 := But.grownW hgr8 (by with_reducible (repeat (first | exact But.refl _ _ | refine But.drewO ?_ | refine But.allocO ?_ _))); obtain ⟨x0, x1, x2, x3⟩ := (HS7.out.box.three.but hk8 HQ.out.2.2.2.2).cells3))
        have kb := keepB HQ.out.1 HQ.out.2.1 HQ.out.2.2.1 HQ.out.2.2.2.1 HQ.out.2.2.2.2 hk8 (.slice A7 u'.pods.length c7) (.int .i64 u'.preempts) (.int .i64 u'.shifts)
        have kO := kb.2.2.2
        have HNEW : Hid (TdS [.slice A1 n1 c1, .slice A2 n2 c2, .slice A3 n3 c3] [.slice A5 n5 c5, .int .i64 x.preempts, .int .i64 x.shifts] w u' (ms ++ [m]) A7 c7 (.slice (some ⟨g, 0, none⟩) (ms.length + 1) cap) (((w8.setCell ⟨w.heap.size + 2, 0, none⟩ (.slice A7 u'.pods.length c7)).setCell ⟨w.heap.size + 2, 1, none⟩ (.int .i64 u'.preempts)).setCell ⟨w.heap.size + 2, 2, none⟩ (.int .i64 u'.shifts))) := by
          have n0 : ¬ OTd w.heap.size u10 w.heap.size := fun e => by
            rcases e with e | e
            · omega
            · have := (HS7.out.row.lt _ e).1; omega
          have n1' : ¬ OTd w.heap.size u10 (w.heap.size + 1) := fun e => by
            rcases e with e | e
            · omega
            · have := (HS7.out.row.lt _ e).1; omega
          have n3' : ¬ OTd w.heap.size u10 (w.heap.size + 3) := fun e => by
            rcases e with e | e
            · omega
            · have := (HS7.out.row.lt _ e).1; omega
          refine ⟨⟨HS7.out.box.one.but kO n0, HS7.out.box.two.but kO n1', (((HS7.out.box.three.but hk8 HQ.out.2.2.2.2).set 0 _).set 1 _).set 2 _, HS7.out.box.below.trans (kO.below HS7.out.box.below.size fun k hk => ?_)⟩, HS7.out.res.but kO n3', HO7.out.but kO (fun p hp e => ?_), fun p hp => (HFR.out p hp).1, ?_, OffQ.of HO7.out (fun p hp => (HFR.out p hp).2) ?_ _ _⟩
          · rcases hk with e | e
            · omega
            · have := (HS7.out.row.lt _ e).1; omega
          · rcases e with e | e
            · have := (HFR.out p hp).1; omega
            · have := (HFR.out p hp).2 _ e; omega
          · rw [List.length_append, List.flatMap_append, List.flatMap_singleton]
            exact own_asideQ (own_asideQ (own_asideQ hown8 (by show w.heap.size + 2 < w.heap.size + 4; omega) _) (by show w.heap.size + 2 < w.heap.size + 4; omega) _) (by show w.heap.size + 2 < w.heap.size + 4; omega) _
          · rcases hwh8 with e | e
            · exact .inl e
            · exact .inr (by simp at e; omega)
        have HLN : Hid (tidyD ns ls x (N - k) u = ((tidyD ns ls x (N - (k + 1)) u').1, m :: (tidyD ns ls x (N - (k + 1)) u').2)) := by
          show _ = _
          rw [show N - k = N - (k + 1) + 1 by omega]
          exact tidy_some HF.out _
        have HFO := Lib.hid (first_ok HA.out.a.no HA.out.xo HOK.out.1 HF.out)
        clear kb kO hk8 hown8 hgr8 hwh8 x0 x1 x2 x3 m0 m1 m2 m3 m4 s0 s1 s2 s3 z0 z1 z2 d0 d1 d2 d3
        go_wp2
        go_roundw
        case rel =>
          refine ⟨k + 1, u', ms ++ [m], A7, c7, by omega, by go_num, by rw [List.length_append, HML.out]; rfl, ?_, HNEW.out, HFO.out.1, HFO.out.2.1.trans HOK.out.2⟩
          rw [← HZZ.out, HLN.out, List.append_assoc]; rfl
        case measure => simp [intOf]; omega
      · have S7 := HS.out.keep hb7
        have hkk : Below w5.heap.size w5 ((w5.alloc (.cells #[.int .i64 0, .int .i64 0, .int .i64 0, .int .i64 0] 49)).alloc (.cells #[.slice none 0 0, .int .i64 0, .int .i64 0] 31)) := ((Below.refl _ w5).alloc (Nat.le_refl _) _).alloc (by simp) _
        have S8 := S7.keep hkk
        have HSV := Lib.hid S8
        have HU : Hid ((u, ms) = z) := by show _ = _; rw [← HZZ.out, tidy_none hf, List.append_nil]
        clear hf hb7 S7 hkk a0 a1 a2 a3 b0 b1 b2 b3 d0 d1 d2 d3 z0 z1 z2 y0 y1 y2 y3 HS HFI
        obtain ⟨d0, d1, d2, d3⟩ := S8.box.three.cells3
        have z0 := S8.res.frozen 0
        have z1 := S8.res.frozen 1
        have z2 := S8.res.frozen 2
        obtain ⟨y0, y1, y2, y3⟩ := S8.res.cells3
        clear S8
        obtain ⟨Am, cm, rfl, hO1, hO2, hB⟩ := HSV.out.told
        have HT := Lib.hid (And.intro hO1 (And.intro hO2 hB))
        clear hO1 hO2 hB
        go_wp2
        refine bodyPost_ret (v := .tuple #[stateV A u.pods.length c u.preempts u.shifts, .slice Am ms.length cm]) ?_ rfl ?_
        · simp [results, Tryz.results7, go_sem, *]
        · rw [HE.out, ← HU.out]
          exact ⟨A, c, Am, cm, rfl, HT.out.1, HT.out.2.1, HT.out.2.2⟩
    · have hkN : k = N := by omega
      have hltm : mm ≤ (k : Int) := by have := HN.out; omega
      have HU : Hid ((u, ms) = z) := by show _ = _; rw [← HZZ.out, hkN, Nat.sub_self]; simp [tidyD]
      obtain ⟨Am, cm, rfl, hO1, hO2, hB⟩ := HS.out.told
      have HT := Lib.hid (And.intro hO1 (And.intro hO2 hB))
      clear hO1 hO2 hB hS HS
      go_wp2
      refine bodyPost_ret (v := .tuple #[stateV A u.pods.length c u.preempts u.shifts, .slice Am ms.length cm]) ?_ rfl ?_
      · simp [results, Tryz.results7, go_sem, *]
      · rw [HE.out, ← HU.out]
        exact ⟨A, c, Am, cm, rfl, HT.out.1, HT.out.2.1, HT.out.2.2⟩
end Go.Proofs.YtabebhaclkhhpaaGreatDoor

/- The heads of layer 5's laws: few of all, and the document's examples. -/
namespace Go.Proofs.YtabebhaclkhhpaaGreatDoor
set_option linter.unusedSimpArgs false
open Go.RowKit
set_option linter.unusedVariables false

def few05 (n1 n2 n3 nx nt : Nat) : Bool := decide (n1 ≤ 40 ∧ n2 ≤ 40 ∧ n3 ≤ 40) && (decide (nx ≤ 40) && decide (nt ≤ 40))
set_option maxHeartbeats 1600000 in
theorem few05_any (A1 A2 A3 A4 A5 : Option Addr) (n1 c1 n2 c2 n3 c3 n4 c4 n5 c5 : Nat) (v1 v2 u1 u2 : Value) (w : World) :
    Calls Tryz.prog 5 #[.agg #[.slice A1 n1 c1, .slice A2 n2 c2, .slice A3 n3 c3], .agg #[.slice A4 n4 c4, v1, v2], .agg #[.slice A5 n5 c5, u1, u2]] w fun e w' => e = .returned (.bool (few05 n1 n2 n3 n4 n5)) ∧ Below w.heap.size w w' := by
  have b00 := below_three w (.cells #[.slice A1 n1 c1, .slice A2 n2 c2, .slice A3 n3 c3] 26) (.cells #[.slice A4 n4 c4, v1, v2] 29) (.cells #[.slice A5 n5 c5, u1, u2] 31)
  go_enter Tryz.func5, Tryz.ntmps5
  go_wp2_with fail
  refine (few_any _ _ _ _ _ _ _ _ _ _).mono ?_
  rintro e w1 ⟨rfl, hb1⟩
  have k1 : Below (w.heap.size + 3) _ w1 := hb1.mono (by simp)
  have kw1 := b00.trans (k1.mono (by omega))
  have a3 : w1.cell? ⟨w.heap.size + 1, 0, none⟩ = some (.slice A4 n4 c4) := (k1.cell (p := ⟨w.heap.size + 1, 0, none⟩) (by simp)).trans (by rw [World.cell?_alloc_lt _ _ _ (by simp)]; simp)
  have a4 : w1.cell? ⟨w.heap.size + 2, 0, none⟩ = some (.slice A5 n5 c5) := (k1.cell (p := ⟨w.heap.size + 2, 0, none⟩) (by simp)).trans (by rw [World.cell?_alloc_at _ _ _ _ (by simp)]; simp)
  cases hf : decide (n1 ≤ 40 ∧ n2 ≤ 40 ∧ n3 ≤ 40) with
  | false =>
    have HE := Lib.hid (show few05 n1 n2 n3 n4 n5 = false by unfold few05; rw [hf]; rfl)
    clear hf
    go_wp2
    go_ret
    exact ⟨ret_bool HE.out.symm, kw1⟩
  | true =>
    by_cases h4 : n4 ≤ 40
    · have d4 : decide ((n4 : Int) ≤ 40) = true := decide_eq_true (by omega)
      by_cases h5 : n5 ≤ 40
      · have d5 : decide ((n5 : Int) ≤ 40) = true := decide_eq_true (by omega)
        have HE := Lib.hid (show few05 n1 n2 n3 n4 n5 = true by unfold few05; rw [hf]; simp [h4, h5])
        clear hf
        go_wp2
        go_ret
        exact ⟨ret_bool HE.out.symm, kw1⟩
      · have d5 : decide ((n5 : Int) ≤ 40) = false := decide_eq_false (by omega)
        have HE := Lib.hid (show few05 n1 n2 n3 n4 n5 = false by unfold few05; rw [hf]; simp [h5])
        clear hf
        go_wp2
        go_ret
        exact ⟨ret_bool HE.out.symm, kw1⟩
    · have d4 : decide ((n4 : Int) ≤ 40) = false := decide_eq_false (by omega)
      have HE := Lib.hid (show few05 n1 n2 n3 n4 n5 = false by unfold few05; rw [hf]; simp [h4])
      clear hf
      go_wp2
      go_ret
      exact ⟨ret_bool HE.out.symm, kw1⟩
theorem Out.alloc {α : Type} {size : Nat} {cells : α → List Value} {w : World} {xs : List α} {A : Option Addr} {c : Nat} (h : Out size cells w xs A c) (o : Obj) : Out size cells (w.alloc o) xs A c :=
  ⟨h.1, h.2.1, h.2.2.1, (h.2.2.2.below ((Below.refl _ w).alloc (Nat.le_refl _) o) (Nat.le_refl _)).more (by simp)⟩
end Go.Proofs.YtabebhaclkhhpaaGreatDoor

/- The head of layer 7's laws: the document's example, and two pods that clash. -/
namespace Go.Proofs.YtabebhaclkhhpaaGreatDoor
set_option linter.unusedSimpArgs false
open Go.RowKit
set_option linter.unusedVariables false

end Go.Proofs.YtabebhaclkhhpaaGreatDoor

/- The head of layer 16's laws: two pods at two nodes, one each, with room enough. -/
namespace Go.Proofs.YtabebhaclkhhpaaGreatDoor
set_option linter.unusedSimpArgs false
open Go.RowKit
set_option linter.unusedVariables false

def upN16 : List NodeD := [⟨3, 1, ⟨5, 0, 0, 0⟩, ⟨0, 0, 0, 0⟩⟩, ⟨4, 1, ⟨5, 0, 0, 0⟩, ⟨0, 0, 0, 0⟩⟩]
def upL16 : List LoadD := [⟨1, false, 0, 0, 9⟩]
def upP16 : List PodD := [⟨1, 1, 0, ⟨0, 0, 0, 0⟩, 3⟩, ⟨2, 1, 0, ⟨0, 0, 0, 0⟩, 4⟩]
def upQ16 : List PodD := [⟨1, 1, 0, ⟨0, 0, 0, 0⟩, 4⟩, ⟨2, 1, 0, ⟨0, 0, 0, 0⟩, 4⟩]
def upX16 : SpecD := ⟨[], 0, 1⟩
theorem up16_used : usedN upN16 upP16 = [3, 4] := by
  refine rising_eq (used_rising _ _) ⟨by simp, by simp [Rising]⟩ fun y => ?_
  rw [used_mem]
  constructor
  · rintro ⟨p, hp, rfl, _⟩
    simp only [upP16, List.mem_cons, List.not_mem_nil, or_false] at hp
    rcases hp with rfl | rfl <;> simp
  · intro h
    simp only [List.mem_cons, List.not_mem_nil, or_false] at h
    rcases h with rfl | rfl
    · exact ⟨⟨1, 1, 0, ⟨0, 0, 0, 0⟩, 3⟩, by simp [upP16], rfl, by decide⟩
    · exact ⟨⟨2, 1, 0, ⟨0, 0, 0, 0⟩, 4⟩, by simp [upP16], rfl, by decide⟩
theorem up16_less : usedN upN16 upQ16 = [4] := by
  refine rising_eq (used_rising _ _) ⟨by simp, by simp [Rising]⟩ fun y => ?_
  rw [used_mem]
  constructor
  · rintro ⟨p, hp, rfl, _⟩
    simp only [upQ16, List.mem_cons, List.not_mem_nil, or_false] at hp
    rcases hp with rfl | rfl <;> simp
  · intro h
    simp only [List.mem_cons, List.not_mem_nil, or_false] at h
    subst h
    exact ⟨⟨2, 1, 0, ⟨0, 0, 0, 0⟩, 4⟩, by simp [upQ16], rfl, by decide⟩
theorem up16_props : props upN16 upL16 upX16 ⟨upP16, 0, 0⟩ = [(⟨3, 1, 4, 0⟩, ⟨upQ16, 0, 1⟩), (⟨3, 2, 3, 0⟩, ⟨[⟨1, 1, 0, ⟨0, 0, 0, 0⟩, 3⟩, ⟨2, 1, 0, ⟨0, 0, 0, 0⟩, 3⟩], 0, 1⟩)] := by
  unfold props
  rw [show (⟨upP16, 0, 0⟩ : StateD).pods = upP16 from rfl, up16_used]
  kernel_rfl
theorem up16_none : firstT upN16 upL16 upX16 ⟨upQ16, 0, 1⟩ = none := by
  unfold firstT props
  rw [show (⟨upQ16, 0, 1⟩ : StateD).pods = upQ16 from rfl, up16_less]
  kernel_rfl
theorem up16_tidy : tidyD upN16 upL16 upX16 (min (5 : Int) 8).toNat ⟨upP16, 0, 0⟩ = (⟨upQ16, 0, 1⟩, [⟨3, 1, 4, 0⟩]) := by
  have h : firstT upN16 upL16 upX16 ⟨upP16, 0, 0⟩ = some (⟨3, 1, 4, 0⟩, ⟨upQ16, 0, 1⟩) := by unfold firstT; rw [up16_props]; rfl
  rw [show (min (5 : Int) 8).toNat = 4 + 1 by decide, tidy_some h, tidy_none up16_none]
theorem upN16_ok : ∀ x ∈ upN16, x.Ok := by
  intro x hx
  simp only [upN16, List.mem_cons, List.not_mem_nil, or_false] at hx
  rcases hx with rfl | rfl
  all_goals exact ⟨⟨by decide, by decide⟩, ⟨by decide, by decide⟩, ⟨⟨by decide, by decide⟩, ⟨by decide, by decide⟩, ⟨by decide, by decide⟩, ⟨by decide, by decide⟩⟩, ⟨⟨by decide, by decide⟩, ⟨by decide, by decide⟩, ⟨by decide, by decide⟩, ⟨by decide, by decide⟩⟩⟩
theorem upP16_ok : ∀ x ∈ upP16, x.Ok := by
  intro x hx
  simp only [upP16, List.mem_cons, List.not_mem_nil, or_false] at hx
  rcases hx with rfl | rfl
  all_goals exact ⟨⟨by decide, by decide⟩, ⟨by decide, by decide⟩, ⟨by decide, by decide⟩, ⟨⟨by decide, by decide⟩, ⟨by decide, by decide⟩, ⟨by decide, by decide⟩, ⟨by decide, by decide⟩⟩, ⟨by decide, by decide⟩⟩
theorem recsNewQ {α : Type} {size : Nat} {cells : α → List Value} (hc : ∀ x, (cells x).length = size) (w : World) (t : TypeId) (xs : List α) (cs : Array Value) (hcs : cs = (xs.flatMap cells).toArray) {g : Nat} (hg : g = w.heap.size) : Recs size cells (w.alloc (.cells cs t)) (g + 1) (some ⟨g, 0, none⟩) xs := by
  subst hcs hg
  refine .inr ⟨w.heap.size, 0, rfl, by omega, fun i hi j u hu => ?_⟩
  have hj : j < size := by have := (List.getElem?_eq_some_iff.1 hu).1; rwa [hc] at this
  have h2 := flatMap_get (size := size) hc hi hj
  rw [hu] at h2
  simpa using h2

set_option maxHeartbeats 6400000 in
set_option maxRecDepth 100000 in
theorem up16_any (w : World) (hg : Laid w) : Calls Tryz.prog 4 #[] w fun e w' => e = .returned (.bool true) ∧ Below w.heap.size w w' := by
  have k1 : Below w.heap.size w (w.alloc (.cells #[.int .i64 3, .int .i64 1, .int .u64 5, .int .u64 0, .int .u64 0, .int .u64 0, .int .u64 0, .int .u64 0, .int .u64 0, .int .u64 0, .int .i64 4, .int .i64 1, .int .u64 5, .int .u64 0, .int .u64 0, .int .u64 0, .int .u64 0, .int .u64 0, .int .u64 0, .int .u64 0] 53)) := (Below.refl _ w).alloc (Nat.le_refl _) _
  have z1 : (w.alloc (.cells #[.int .i64 3, .int .i64 1, .int .u64 5, .int .u64 0, .int .u64 0, .int .u64 0, .int .u64 0, .int .u64 0, .int .u64 0, .int .u64 0, .int .i64 4, .int .i64 1, .int .u64 5, .int .u64 0, .int .u64 0, .int .u64 0, .int .u64 0, .int .u64 0, .int .u64 0, .int .u64 0] 53)).heap.size = w.heap.size + 1 := by simp
  have r1 := recsNewQ (cells := cellsN) (size := 10) (fun _ => rfl) w 53 upN16 #[.int .i64 3, .int .i64 1, .int .u64 5, .int .u64 0, .int .u64 0, .int .u64 0, .int .u64 0, .int .u64 0, .int .u64 0, .int .u64 0, .int .i64 4, .int .i64 1, .int .u64 5, .int .u64 0, .int .u64 0, .int .u64 0, .int .u64 0, .int .u64 0, .int .u64 0, .int .u64 0] rfl (g := w.heap.size) rfl
  generalize hW1 : (w.alloc (.cells #[.int .i64 3, .int .i64 1, .int .u64 5, .int .u64 0, .int .u64 0, .int .u64 0, .int .u64 0, .int .u64 0, .int .u64 0, .int .u64 0, .int .i64 4, .int .i64 1, .int .u64 5, .int .u64 0, .int .u64 0, .int .u64 0, .int .u64 0, .int .u64 0, .int .u64 0, .int .u64 0] 53)) = W1 at *
  have k2 : Below W1.heap.size W1 (W1.alloc (.cells #[.int .i64 1, .bool false, .int .i64 0, .int .i64 0, .int .i64 9] 55)) := (Below.refl _ _).alloc (Nat.le_refl _) _
  have z2 : (W1.alloc (.cells #[.int .i64 1, .bool false, .int .i64 0, .int .i64 0, .int .i64 9] 55)).heap.size = w.heap.size + 2 := by simp [z1]
  have r2 := recsNewQ (cells := cellsL) (size := 5) (fun _ => rfl) W1 55 upL16 #[.int .i64 1, .bool false, .int .i64 0, .int .i64 0, .int .i64 9] rfl (g := w.heap.size + 1) z1.symm
  generalize hW2 : (W1.alloc (.cells #[.int .i64 1, .bool false, .int .i64 0, .int .i64 0, .int .i64 9] 55)) = W2 at *
  have k3 : Below W2.heap.size W2 (W2.alloc (.cells #[.int .i64 1, .int .i64 1, .int .i64 0, .int .u64 0, .int .u64 0, .int .u64 0, .int .u64 0, .int .i64 3, .int .i64 2, .int .i64 1, .int .i64 0, .int .u64 0, .int .u64 0, .int .u64 0, .int .u64 0, .int .i64 4] 41)) := (Below.refl _ _).alloc (Nat.le_refl _) _
  have z3 : (W2.alloc (.cells #[.int .i64 1, .int .i64 1, .int .i64 0, .int .u64 0, .int .u64 0, .int .u64 0, .int .u64 0, .int .i64 3, .int .i64 2, .int .i64 1, .int .i64 0, .int .u64 0, .int .u64 0, .int .u64 0, .int .u64 0, .int .i64 4] 41)).heap.size = w.heap.size + 3 := by simp [z2]
  have r3 := recsNewQ (cells := cellsP) (size := 8) (fun _ => rfl) W2 41 upP16 #[.int .i64 1, .int .i64 1, .int .i64 0, .int .u64 0, .int .u64 0, .int .u64 0, .int .u64 0, .int .i64 3, .int .i64 2, .int .i64 1, .int .i64 0, .int .u64 0, .int .u64 0, .int .u64 0, .int .u64 0, .int .i64 4] rfl (g := w.heap.size + 2) z2.symm
  generalize hW3 : (W2.alloc (.cells #[.int .i64 1, .int .i64 1, .int .i64 0, .int .u64 0, .int .u64 0, .int .u64 0, .int .u64 0, .int .i64 3, .int .i64 2, .int .i64 1, .int .i64 0, .int .u64 0, .int .u64 0, .int .u64 0, .int .u64 0, .int .i64 4] 41)) = W3 at *
  have T0 := T3.new W3 [.slice (some ⟨w.heap.size, 0, none⟩) 2 2, .slice (some ⟨w.heap.size + 1, 0, none⟩) 1 1, .slice (some ⟨w.heap.size + 2, 0, none⟩) 2 2] [.slice none 0 0, .int .i64 0, .int .i64 1] [.slice (some ⟨w.heap.size + 2, 0, none⟩) 2 2, .int .i64 0, .int .i64 0] 26 29 31
  go_enter Tryz.func4, Tryz.ntmps4
  go_upto_region 4 with fail
  simp only [Nat.add_assoc, Nat.reduceAdd, hW1, hW2, hW3]
  generalize (((W3.alloc (.cells #[.slice (some ⟨w.heap.size, 0, none⟩) 2 2, .slice (some ⟨w.heap.size + 1, 0, none⟩) 1 1, .slice (some ⟨w.heap.size + 2, 0, none⟩) 2 2] 26)).alloc (.cells #[.slice none 0 0, .int .i64 0, .int .i64 1] 29)).alloc (.cells #[.slice (some ⟨w.heap.size + 2, 0, none⟩) 2 2, .int .i64 0, .int .i64 0] 31)) = W at *
  have kW : Below w.heap.size w W := ((k1.trans (k2.mono (by omega))).trans (k3.mono (by omega))).trans (T0.below.mono (by omega))
  have HAR : Hid (∀ V, Below W.heap.size W V → TidyArgs upN16 upL16 upX16 ⟨upP16, 0, 0⟩ (some ⟨w.heap.size, 0, none⟩) (some ⟨w.heap.size + 1, 0, none⟩) (some ⟨w.heap.size + 2, 0, none⟩) none 2 1 2 2 0 V) := fun V hV => by
    have b3 : Below W3.heap.size W3 V := T0.below.trans (hV.mono T0.below.size)
    have b2 : Below W2.heap.size W2 V := k3.trans (b3.mono k3.size)
    have b1 : Below W1.heap.size W1 V := k2.trans (b2.mono k2.size)
    exact ⟨⟨Laid.below hg (kW.trans (hV.mono kW.size)) (Nat.le_refl _), upN16_ok, upP16_ok, rfl, by decide, (r1.below b1 (by omega)).more (by have := b1.size; omega), rfl, by decide, (r2.below b2 (by omega)).more (by have := b2.size; omega), rfl, by decide, by decide, (r3.below b3 (by omega)).more (by have := b3.size; omega)⟩, (fun h => by cases h), rfl, by decide, Recs.nil, (fun _ h => by simp [upX16] at h)⟩
  have S0 : Bf W (w.heap.size + 3) [.slice (some ⟨w.heap.size, 0, none⟩) 2 2, .slice (some ⟨w.heap.size + 1, 0, none⟩) 1 1, .slice (some ⟨w.heap.size + 2, 0, none⟩) 2 2] := by have := T0.one; rwa [z3] at this
  have X0 : Bf W (w.heap.size + 4) [.slice none 0 0, .int .i64 0, .int .i64 1] := by have := T0.two; rwa [z3] at this
  have U0 : Bf W (w.heap.size + 5) [.slice (some ⟨w.heap.size + 2, 0, none⟩) 2 2, .int .i64 0, .int .i64 0] := by have := T0.three; rwa [z3] at this
  have HB := Lib.hid (And.intro S0 (And.intro X0 U0))
  have HK := Lib.hid kW
  have hti := (fun (V : World) (hV : Below W.heap.size W V) => tidy_any upN16 upL16 upX16 ⟨upP16, 0, 0⟩ 5 (by decide) (some ⟨w.heap.size, 0, none⟩) (some ⟨w.heap.size + 1, 0, none⟩) (some ⟨w.heap.size + 2, 0, none⟩) (some ⟨w.heap.size + 2, 0, none⟩) none 2 2 1 1 2 2 2 2 0 0 V (HAR.out V hV))
  rw [up16_tidy] at hti
  have HTI : Hid (∀ V, Below W.heap.size W V → Calls Tryz.prog 7 #[.agg #[.slice (some ⟨w.heap.size, 0, none⟩) 2 2, .slice (some ⟨w.heap.size + 1, 0, none⟩) 1 1, .slice (some ⟨w.heap.size + 2, 0, none⟩) 2 2], .agg #[.slice none 0 0, .int .i64 0, .int .i64 1], .agg #[.slice (some ⟨w.heap.size + 2, 0, none⟩) 2 2, .int .i64 0, .int .i64 0], .int .i64 5] V fun e w' => ∃ A c Am cm, e = .returned (.tuple #[.agg #[.slice A 2 c, .int .i64 0, .int .i64 1], .slice Am 1 cm]) ∧ Out 8 cellsP w' upQ16 A c ∧ Below V.heap.size V w') := fun V hV =>
    (hti V hV).mono fun e w' ⟨A, c, Am, cm, he, ho, _, hb⟩ => ⟨A, c, Am, cm, he, ho, hb⟩
  clear hti
  have hpr := (fun (V : World) (hV : Below W.heap.size W V) => propose_any upN16 upL16 upX16 ⟨upP16, 0, 0⟩ (some ⟨w.heap.size, 0, none⟩) (some ⟨w.heap.size + 1, 0, none⟩) (some ⟨w.heap.size + 2, 0, none⟩) (some ⟨w.heap.size + 2, 0, none⟩) none 2 2 1 1 2 2 2 2 0 0 V (HAR.out V hV))
  rw [up16_props] at hpr
  have HPR : Hid (∀ V, Below W.heap.size W V → Calls Tryz.prog 12 #[.agg #[.slice (some ⟨w.heap.size, 0, none⟩) 2 2, .slice (some ⟨w.heap.size + 1, 0, none⟩) 1 1, .slice (some ⟨w.heap.size + 2, 0, none⟩) 2 2], .agg #[.slice none 0 0, .int .i64 0, .int .i64 1], .agg #[.slice (some ⟨w.heap.size + 2, 0, none⟩) 2 2, .int .i64 0, .int .i64 0]] V fun e w' => ∃ A c, e = .returned (.slice A 2 c) ∧ Below V.heap.size V w') := hpr
  clear hpr
  have HUS : Hid (∀ (l : List PodD) (A : Option Addr) (n c : Nat) (v2 v3 : Value) (V : World), Below W.heap.size W V → n = l.length → n ≤ 400 → Recs 8 cellsP V V.heap.size A l → Calls Tryz.prog 8 #[.agg #[.slice (some ⟨w.heap.size, 0, none⟩) 2 2, .slice (some ⟨w.heap.size + 1, 0, none⟩) 1 1, .slice (some ⟨w.heap.size + 2, 0, none⟩) 2 2], .agg #[.slice A n c, v2, v3]] V fun e w' => e = .returned (.int .i64 ((usedN upN16 l).length : Nat)) ∧ Below V.heap.size V w') := fun l A n c v2 v3 V hV hn hl hr =>
    tidyUsed_any upN16 l (some ⟨w.heap.size, 0, none⟩) A 2 2 n c _ _ v2 v3 V rfl (by decide) (HAR.out V hV).a.r1 hn hl hr
  have HP0 := Lib.hid (fun (V : World) (hV : Below W.heap.size W V) => (HAR.out V hV).a.r4)
  obtain ⟨a0, a1, a2, a3⟩ := S0.cells3
  obtain ⟨b0, b1, b2, b3⟩ := X0.cells3
  obtain ⟨d0, d1, d2, d3⟩ := U0.cells3
  clear k1 z1 r1 hW1 k2 z2 r2 hW2 k3 z3 r3 hW3 T0 kW S0 X0 U0 HAR hg
  go_wp2_with fail
  refine (HTI.out _ (Below.refl _ _)).mono ?_
  rintro e w7 ⟨A, c, Am, cm, rfl, ho, hb7⟩
  have k8 : Below w7.heap.size w7 (w7.alloc (.cells #[.slice A 2 c, .int .i64 0, .int .i64 1] 31)) := (Below.refl _ _).alloc (Nat.le_refl _) _
  have hb8 := hb7.trans (k8.mono hb7.size)
  have HO8 := Lib.hid (ho.later k8)
  have HV8 := Lib.hid (Bf.new w7 [.slice A 2 c, .int .i64 0, .int .i64 1] 31 rfl)
  have HU1 := Lib.hid (HUS.out upP16 (some ⟨w.heap.size + 2, 0, none⟩) 2 2 (.int .i64 0) (.int .i64 0) _ hb8 rfl (by decide) (HP0.out _ hb8))
  rw [up16_used] at HU1
  have HU1 : Hid (Calls Tryz.prog 8 #[.agg #[.slice (some ⟨w.heap.size, 0, none⟩) 2 2, .slice (some ⟨w.heap.size + 1, 0, none⟩) 1 1, .slice (some ⟨w.heap.size + 2, 0, none⟩) 2 2], .agg #[.slice (some ⟨w.heap.size + 2, 0, none⟩) 2 2, .int .i64 0, .int .i64 0]] (w7.alloc (.cells #[.slice A 2 c, .int .i64 0, .int .i64 1] 31)) fun e w' => e = .returned (.int .i64 2) ∧ Below (w7.alloc (.cells #[.slice A 2 c, .int .i64 0, .int .i64 1] 31)).heap.size (w7.alloc (.cells #[.slice A 2 c, .int .i64 0, .int .i64 1] 31)) w') := HU1
  have HB8 := Lib.hid hb8
  clear a0 a1 a2 a3 b0 b1 b2 b3 d0 d1 d2 d3 ho hb7 k8 hb8 HTI
  obtain ⟨a0, a1, a2, a3⟩ := (HB.out.1.below HB8.out HB.out.1.lt).cells3
  obtain ⟨b0, b1, b2, b3⟩ := (HB.out.2.1.below HB8.out HB.out.2.1.lt).cells3
  obtain ⟨d0, d1, d2, d3⟩ := (HB.out.2.2.below HB8.out HB.out.2.2.lt).cells3
  go_wp2_with fail
  refine HU1.out.mono ?_
  rintro e w9 ⟨rfl, hb9⟩
  have HB9 := Lib.hid (HB8.out.trans (hb9.mono HB8.out.size))
  have HO9 := Lib.hid (HO8.out.later hb9)
  have HV9 := Lib.hid (HV8.out.below hb9 HV8.out.lt)
  have HPP := Lib.hid (HPR.out _ HB9.out)
  clear a0 a1 a2 a3 b0 b1 b2 b3 d0 d1 d2 d3 hb9 HPR HU1 HO8 HV8 HB8
  obtain ⟨a0, a1, a2, a3⟩ := (HB.out.1.below HB9.out HB.out.1.lt).cells3
  obtain ⟨b0, b1, b2, b3⟩ := (HB.out.2.1.below HB9.out HB.out.2.1.lt).cells3
  obtain ⟨d0, d1, d2, d3⟩ := (HB.out.2.2.below HB9.out HB.out.2.2.lt).cells3
  go_wp2_with fail
  refine HPP.out.mono ?_
  rintro e w10 ⟨Ap, cp, rfl, hb10⟩
  have HB10 := Lib.hid (HB9.out.trans (hb10.mono HB9.out.size))
  have HO10 := Lib.hid (HO9.out.later hb10)
  have HV10 := Lib.hid (HV9.out.below hb10 HV9.out.lt)
  have HU2 := Lib.hid (HUS.out upQ16 A 2 c (.int .i64 0) (.int .i64 1) _ HB10.out rfl (by decide) HO10.out.recs)
  rw [up16_less] at HU2
  have HU2 : Hid (Calls Tryz.prog 8 #[.agg #[.slice (some ⟨w.heap.size, 0, none⟩) 2 2, .slice (some ⟨w.heap.size + 1, 0, none⟩) 1 1, .slice (some ⟨w.heap.size + 2, 0, none⟩) 2 2], .agg #[.slice A 2 c, .int .i64 0, .int .i64 1]] w10 fun e w' => e = .returned (.int .i64 1) ∧ Below w10.heap.size w10 w') := HU2
  clear a0 a1 a2 a3 b0 b1 b2 b3 d0 d1 d2 d3 hb10 HPP HO9 HV9 HB9
  obtain ⟨a0, a1, a2, a3⟩ := (HB.out.1.below HB10.out HB.out.1.lt).cells3
  obtain ⟨e0, e1, e2, e3⟩ := HV10.out.cells3
  go_wp2_with fail
  refine HU2.out.mono ?_
  rintro e w11 ⟨rfl, hb11⟩
  have kw := HK.out.trans ((HB10.out.trans (hb11.mono HB10.out.size)).mono HK.out.size)
  clear a0 a1 a2 a3 e0 e1 e2 e3 hb11 HU2
  go_wp2
  go_ret
  exact ⟨rfl, kw⟩
end Go.Proofs.YtabebhaclkhhpaaGreatDoor

/- The head of layer 12's laws: no moves are the first state; an empty snapshot may not be. -/
namespace Go.Proofs.YtabebhaclkhhpaaGreatDoor
set_option linter.unusedSimpArgs false
open Go.RowKit
set_option linter.unusedVariables false

end Go.Proofs.YtabebhaclkhhpaaGreatDoor

namespace Go.Proofs.YtabebhaclkhhpaaGreatDoor
set_option linter.unusedSimpArgs false
open Go.RowKit
set_option linter.unusedVariables false

theorem Bf.laterS {W v w' : World} (h0 : Bf v W.heap.size [.slice none 0 0, .int .i64 0, .int .i64 0]) (hb : Below v.heap.size v w') {x y z : Value} :
    Bf (((w'.setCell ⟨W.heap.size, 0, none⟩ x).setCell ⟨W.heap.size, 1, none⟩ y).setCell ⟨W.heap.size, 2, none⟩ z) W.heap.size [x, y, z] :=
  ((((h0.below hb h0.lt).set 0 x).set 1 y).set 2 z)
theorem Out.put3 {l : List PodD} {w : World} {A : Option Addr} {c g : Nat} (h : Out 8 cellsP w l A c) (hp : ∀ a, A = some a → a.block ≠ g) {x y z : Value} : Out 8 cellsP (((w.setCell ⟨g, 0, none⟩ x).setCell ⟨g, 1, none⟩ y).setCell ⟨g, 2, none⟩ z) l A c :=
  ((h.set (p := ⟨g, 0, none⟩) hp x).set (p := ⟨g, 1, none⟩) hp y).set (p := ⟨g, 2, none⟩) hp z
theorem ErrIs.put3 {p : Int × Int} {B g : Nat} {w : World} {u : Value} (h : ErrIs p B w u) (hq : g < B) {x y z : Value} : ErrIs p B (((w.setCell ⟨g, 0, none⟩ x).setCell ⟨g, 1, none⟩ y).setCell ⟨g, 2, none⟩ z) u :=
  ((h.put (q := ⟨g, 0, none⟩) hq x).put (q := ⟨g, 1, none⟩) hq y).put (q := ⟨g, 2, none⟩) hq z
theorem code_ok {ns : List NodeD} {ls : List LoadD} {x : SpecD} {t : StateD} (h : codeS ns ls x t = 0) : okP (whyP (fiveP ns ls t.pods x.preempts x.shifts t.preempts t.shifts)) = true := by
  rw [told8_ok (told8_why _ _ _ _ _ _ _)]
  have h2 : (whyP (fiveP ns ls t.pods x.preempts x.shifts t.preempts t.shifts)).1 = 0 := h
  rw [h2]; rfl

end Go.Proofs.YtabebhaclkhhpaaGreatDoor
