/- Joined texts, part 22: V4. -/
import Derived.Test.YtpfjeoldgcepnaaGreatDoorZ20
import Derived.Test.YtpfjeoldgcepnaaGreatDoorZ09
import Derived.RegionTactic

namespace Go.Proofs.YtpfjeoldgcepnaaGreatDoor
set_option linter.unusedSimpArgs false
open Go.RowKit
set_option linter.unusedVariables false

set_option maxHeartbeats 12800000 in
set_option maxRecDepth 100000 in
theorem keepDo_any {K : KAddr} {s : SnapD} {x : SpecD} {t : StateD} {ds : List DeedD} {N : Nat} (m : MoveD) (w : World) (h : Kp K s x t ds N w) (hF : FineK s x) (hN : N + 2000 < maxLen) (hds : ds.length ≤ 1000) :
    Calls Tryz.prog 15 #[.pointer (some ⟨K.kb, 0, none⟩), .agg #[.int .i64 m.kind, .int .i64 m.pod, .int .i64 m.node, .int .i64 m.over]] w (KDoTo K s x t m ds N w) := by
  have HMK : Hid (∀ V, Below w.heap.size w V → Calls Tryz.prog 45 #[.agg #[.slice K.a1 s.nodes.length K.c1, .slice K.a2 s.loads.length K.c2, .slice K.a3 s.pods.length K.c3], .agg #[.slice K.a5 x.wants.length K.c5, .int .i64 x.preempts, .int .i64 x.shifts], .agg #[.slice K.a4 t.pods.length K.c4, .int .i64 t.preempts, .int .i64 t.shifts], .agg #[.int .i64 m.kind, .int .i64 m.pod, .int .i64 m.node, .int .i64 m.over]] V
      fun e w' => ∃ v, e = .returned (.tuple #[v, codeV (makeD s.nodes x.wants t m).2]) ∧ StateTo (makeD s.nodes x.wants t m).1 V v w') := fun V hV => by
    have k := (h.below hV).k
    exact make_any s.nodes x.wants t m K.a1 K.a2 K.a3 K.a5 K.a4 _ K.c1 _ K.c2 _ K.c3 _ K.c5 _ K.c4 (.int .i64 x.preempts) (.int .i64 x.shifts) V rfl (by have := hF.n40; omega) k.r1 rfl (by have := hF.x40; omega) k.r5 rfl (by have := h.fine.len; omega) k.pods.out.2.2.1 k.pods.out.2.2.2
  have HPR : Hid (∀ V, Below w.heap.size w V → Calls Tryz.prog 46 #[.agg #[.slice K.a4 t.pods.length K.c4, .int .i64 t.preempts, .int .i64 t.shifts], .agg #[.int .i64 m.kind, .int .i64 m.pod, .int .i64 m.node, .int .i64 m.over]] V fun e w' => e = .returned (prioV (prioD t.pods m)) ∧ Below V.heap.size V w') := fun V hV => by
    have k := (h.below hV).k
    exact priorCheck_any t.pods m K.a4 _ K.c4 (.int .i64 t.preempts) (.int .i64 t.shifts) V rfl (by have := h.fine.len; omega) k.pods.out.2.2.2
  have H1 := Lib.hid (do_no1 (ns := s.nodes) (ls := s.loads) (x := x) (t := t) (m := m))
  have H2 := Lib.hid (do_no2 (ns := s.nodes) (ls := s.loads) (x := x) (t := t) (m := m))
  have H3 := Lib.hid (do_no3 (ns := s.nodes) (ls := s.loads) (x := x) (t := t) (m := m))
  have H4 := Lib.hid (do_yes (ns := s.nodes) (ls := s.loads) (x := x) (t := t) (m := m))
  have HDK := Lib.hid (do_K (m := m) hF.n hF.l hF.wo h.fine h.safe)
  have HPS := Lib.hid (part_some (ns := s.nodes) (x := x.wants) (t := t) (m := m))
  have HP := Lib.hid h
  have HFF := Lib.hid hF
  have HNN := Lib.hid hN
  have HDS := Lib.hid hds
  have B0 : Bf (w.alloc (.cells #[.int .i64 m.kind, .int .i64 m.pod, .int .i64 m.node, .int .i64 m.over] 48)) w.heap.size (cellsM m) := Bf.new w (cellsM m) 48 rfl
  have k0 : Below w.heap.size w (w.alloc (.cells #[.int .i64 m.kind, .int .i64 m.pod, .int .i64 m.node, .int .i64 m.over] 48)) := (Below.refl _ w).alloc (Nat.le_refl _) _
  generalize hmk : makeD s.nodes x.wants t m = mk at *
  have HMM := Lib.hid hmk
  obtain ⟨u, mc⟩ := mk
  dsimp only at HMK HDK H1 H2 H3 H4 HPS
  generalize prioD t.pods m = pr at *
  clear h hF hN hds hmk
  have HB0 := Lib.hid B0
  have HK0 := Lib.hid k0
  have HP0 := Lib.hid (HP.out.below k0)
  obtain ⟨⟨r1, r2, r3⟩, ⟨x1, x2, x3⟩, ⟨t0, t1, t2⟩, -, -, hkb⟩ := HP0.out.k.facts
  have m0 := B0.cell 0 _ rfl
  have m1 := B0.cell 1 _ rfl
  have m2 := B0.cell 2 _ rfl
  have m3 := B0.cell 3 _ rfl
  have hlt0 := B0.lt
  clear B0 k0
  go_enter Tryz.func15, Tryz.ntmps15
  go_upto_region 1 with fail
  generalize (w.alloc (.cells #[.int .i64 m.kind, .int .i64 m.pod, .int .i64 m.node, .int .i64 m.over] 48)) = W at *
  go_cut [5, 6] from 14 to 30 (fun v5 v6 wx => ∃ g5, v5 = .pointer (some ⟨g5, 0, none⟩) ∧ v6 = codeV mc ∧ MadeB K s x t ds N m u w g5 wx)
  case first =>
    have hbz : Bf (W.alloc (.cells #[.slice none 0 0, .int .i64 0, .int .i64 0] 42)).drew W.heap.size [.slice none 0 0, .int .i64 0, .int .i64 0] := (Bf.new W [.slice none 0 0, .int .i64 0, .int .i64 0] 42 rfl).drew
    have HBZ := Lib.hid hbz
    clear hbz
    go_region_held3 (fun w' => w'.cell? ⟨K.kb, 0, none⟩ = some (.slice K.a1 s.nodes.length K.c1) ∧ w'.cell? ⟨K.kb, 1, none⟩ = some (.slice K.a2 s.loads.length K.c2) ∧ w'.cell? ⟨K.kb, 2, none⟩ = some (.slice K.a3 s.pods.length K.c3) ∧ w'.cell? ⟨K.kb, 3, none⟩ = some (.slice K.a5 x.wants.length K.c5) ∧ w'.cell? ⟨K.kb, 4, none⟩ = some (.int .i64 x.preempts) ∧ w'.cell? ⟨K.kb, 5, none⟩ = some (.int .i64 x.shifts) ∧ w'.cell? ⟨K.kb, 6, none⟩ = some (.slice K.a4 t.pods.length K.c4) ∧ w'.cell? ⟨K.kb, 7, none⟩ = some (.int .i64 t.preempts) ∧ w'.cell? ⟨K.kb, 8, none⟩ = some (.int .i64 t.shifts) ∧ w'.cell? ⟨w.heap.size, 0, none⟩ = some (.int .i64 m.kind) ∧ w'.cell? ⟨w.heap.size, 1, none⟩ = some (.int .i64 m.pod) ∧ w'.cell? ⟨w.heap.size, 2, none⟩ = some (.int .i64 m.node) ∧ w'.cell? ⟨w.heap.size, 3, none⟩ = some (.int .i64 m.over))
      (first | with_reducible assumption | ((repeat' apply And.intro) <;> with_reducible assumption) | (simp only [cell_off3 hnk, cell_off3 hnw]; with_reducible assumption) | go_keep)
      (first
        | (go_at_call 45; have hbV : Below W.heap.size W (W.alloc (.cells #[.slice none 0 0, .int .i64 0, .int .i64 0] 42)).drew := ((Below.refl _ W).alloc (Nat.le_refl _) _).drew; have HPV := Lib.hid (HP0.out.below hbV); have HBV := Lib.hid (HB0.out.below hbV HB0.out.lt); have HKV := Lib.hid (HK0.out.trans (hbV.mono HK0.out.size)); clear hbV; refine (HMK.out _ HKV.out).mono ?_; rintro e w1 ⟨_, rfl, A5, c5, rfl, ho5, hf5, hb1⟩; have HP1 := Lib.hid (HPV.out.below hb1); have HB1 := Lib.hid (HBV.out.below hb1 HBV.out.lt); have HK1 := Lib.hid (HKV.out.trans (hb1.mono HKV.out.size)); have k1 : w1.cell? ⟨K.kb, 0, none⟩ = some (.slice K.a1 s.nodes.length K.c1) ∧ w1.cell? ⟨K.kb, 1, none⟩ = some (.slice K.a2 s.loads.length K.c2) ∧ w1.cell? ⟨K.kb, 2, none⟩ = some (.slice K.a3 s.pods.length K.c3) ∧ w1.cell? ⟨K.kb, 3, none⟩ = some (.slice K.a5 x.wants.length K.c5) ∧ w1.cell? ⟨K.kb, 4, none⟩ = some (.int .i64 x.preempts) ∧ w1.cell? ⟨K.kb, 5, none⟩ = some (.int .i64 x.shifts) ∧ w1.cell? ⟨K.kb, 6, none⟩ = some (.slice K.a4 t.pods.length K.c4) ∧ w1.cell? ⟨K.kb, 7, none⟩ = some (.int .i64 t.preempts) ∧ w1.cell? ⟨K.kb, 8, none⟩ = some (.int .i64 t.shifts) ∧ w1.cell? ⟨w.heap.size, 0, none⟩ = some (.int .i64 m.kind) ∧ w1.cell? ⟨w.heap.size, 1, none⟩ = some (.int .i64 m.pod) ∧ w1.cell? ⟨w.heap.size, 2, none⟩ = some (.int .i64 m.node) ∧ w1.cell? ⟨w.heap.size, 3, none⟩ = some (.int .i64 m.over) := (by obtain ⟨⟨r1, r2, r3⟩, ⟨x1, x2, x3⟩, ⟨t0, t1, t2⟩, -, -, -⟩ := HP1.out.k.facts; exact ⟨r1, r2, r3, x1, x2, x3, t0, t1, t2, HB1.out.cell 0 _ rfl, HB1.out.cell 1 _ rfl, HB1.out.cell 2 _ rfl, HB1.out.cell 3 _ rfl⟩); have HO5 := Lib.hid ho5; have HF5 := Lib.hid hf5; have hs1 := HB1.out.lt; have HBW := Lib.hid (HBZ.out.below hb1 HBZ.out.lt); have y0 := HBW.out.cell 0 _ rfl; have y1 := HBW.out.cell 1 _ rfl; have y2 := HBW.out.cell 2 _ rfl; have z0 := HBW.out.frozen 0; have z1 := HBW.out.frozen 1; have z2 := HBW.out.frozen 2; have hnk : K.kb ≠ W.heap.size := (by have := HP0.out.k.box.lt; omega); have hnw : w.heap.size ≠ W.heap.size := (by omega))
        | (go_at_call 45; have hbV : Below W.heap.size W W.drew := (Below.refl _ W).drew; have HPV := Lib.hid (HP0.out.below hbV); have HBV := Lib.hid (HB0.out.below hbV HB0.out.lt); have HKV := Lib.hid (HK0.out.trans (hbV.mono HK0.out.size)); clear hbV; refine (HMK.out _ HKV.out).mono ?_; rintro e w1 ⟨_, rfl, A5, c5, rfl, ho5, hf5, hb1⟩; have HP1 := Lib.hid (HPV.out.below hb1); have HB1 := Lib.hid (HBV.out.below hb1 HBV.out.lt); have HK1 := Lib.hid (HKV.out.trans (hb1.mono HKV.out.size)); have k1 : w1.cell? ⟨K.kb, 0, none⟩ = some (.slice K.a1 s.nodes.length K.c1) ∧ w1.cell? ⟨K.kb, 1, none⟩ = some (.slice K.a2 s.loads.length K.c2) ∧ w1.cell? ⟨K.kb, 2, none⟩ = some (.slice K.a3 s.pods.length K.c3) ∧ w1.cell? ⟨K.kb, 3, none⟩ = some (.slice K.a5 x.wants.length K.c5) ∧ w1.cell? ⟨K.kb, 4, none⟩ = some (.int .i64 x.preempts) ∧ w1.cell? ⟨K.kb, 5, none⟩ = some (.int .i64 x.shifts) ∧ w1.cell? ⟨K.kb, 6, none⟩ = some (.slice K.a4 t.pods.length K.c4) ∧ w1.cell? ⟨K.kb, 7, none⟩ = some (.int .i64 t.preempts) ∧ w1.cell? ⟨K.kb, 8, none⟩ = some (.int .i64 t.shifts) ∧ w1.cell? ⟨w.heap.size, 0, none⟩ = some (.int .i64 m.kind) ∧ w1.cell? ⟨w.heap.size, 1, none⟩ = some (.int .i64 m.pod) ∧ w1.cell? ⟨w.heap.size, 2, none⟩ = some (.int .i64 m.node) ∧ w1.cell? ⟨w.heap.size, 3, none⟩ = some (.int .i64 m.over) := (by obtain ⟨⟨r1, r2, r3⟩, ⟨x1, x2, x3⟩, ⟨t0, t1, t2⟩, -, -, -⟩ := HP1.out.k.facts; exact ⟨r1, r2, r3, x1, x2, x3, t0, t1, t2, HB1.out.cell 0 _ rfl, HB1.out.cell 1 _ rfl, HB1.out.cell 2 _ rfl, HB1.out.cell 3 _ rfl⟩); have HO5 := Lib.hid ho5; have HF5 := Lib.hid hf5; have hs1 := HB1.out.lt))
    all_goals
      go_wp2_with fail
      go_meet
      first
        | (have hbl := ((HK1.out.setCell (p := ⟨W.heap.size, 0, none⟩) (by show w.heap.size ≤ W.heap.size; omega) (.slice A5 u.pods.length c5)).setCell (p := ⟨W.heap.size, 1, none⟩) (by show w.heap.size ≤ W.heap.size; omega) (.int .i64 u.preempts)).setCell (p := ⟨W.heap.size, 2, none⟩) (by show w.heap.size ≤ W.heap.size; omega) (.int .i64 u.shifts)
           have hA : ∀ a, A5 = some a → a.block ≠ W.heap.size := fun a ha => by have h1 := HF5.out a ha; simp at h1; omega
           exact ⟨W.heap.size, rfl, rfl, ⟨HP.out.below hbl, ((HB1.out.other (by first | exact hnw | exact hnw.symm) _).other (by first | exact hnw | exact hnw.symm) _).other (by first | exact hnw | exact hnw.symm) _, hbl, ⟨A5, c5, ((HBW.out.set 0 _).set 1 _).set 2 _, ((HO5.out.set hA _).set hA _).set hA _⟩, by omega⟩⟩)
        | (have hbl := HK1.out.alloc HK1.out.size (.cells #[.slice A5 u.pods.length c5, .int .i64 u.preempts, .int .i64 u.shifts] 42)
           exact ⟨w1.heap.size, rfl, rfl, ⟨HP.out.below hbl, HB1.out.alloc _, hbl, ⟨A5, c5, Bf.new w1 [.slice A5 u.pods.length c5, .int .i64 u.preempts, .int .i64 u.shifts] 42 rfl, HO5.out.alloc _⟩, hs1⟩⟩)
  case rest =>
  obtain ⟨g5, rfl, rfl, hmb⟩ := hcut
  have HMB := Lib.hid hmb
  clear hmb r1 r2 r3 x1 x2 x3 t0 t1 t2 m0 m1 m2 m3
  by_cases hc : mc = 0
  case neg =>
    have HE := Lib.hid (H1.out hc)
    have hcv := codeV_pos hc
    have HCV := Lib.hid hcv
    rw [hcv]
    have HC := Lib.hid hc
    clear hc hcv
    go_wp2
    go_ret
    exact kdo_no HE.out HC.out HMB.out.kp HMB.out.bel (by rw [HCV.out]; rfl)
  subst hc
  rw [codeV_zero]
  have HPRW := Lib.hid (HPR.out wc.drew HMB.out.bel.drew)
  have k4 : wc.drew.cell? ⟨K.kb, 6, none⟩ = some (.slice K.a4 t.pods.length K.c4) ∧ wc.drew.cell? ⟨K.kb, 7, none⟩ = some (.int .i64 t.preempts) ∧ wc.drew.cell? ⟨K.kb, 8, none⟩ = some (.int .i64 t.shifts) ∧ wc.drew.cell? ⟨w.heap.size, 0, none⟩ = some (.int .i64 m.kind) ∧ wc.drew.cell? ⟨w.heap.size, 1, none⟩ = some (.int .i64 m.pod) ∧ wc.drew.cell? ⟨w.heap.size, 2, none⟩ = some (.int .i64 m.node) ∧ wc.drew.cell? ⟨w.heap.size, 3, none⟩ = some (.int .i64 m.over) := (by obtain ⟨-, -, ⟨t0, t1, t2⟩, -, -, -⟩ := (HMB.out.below (Below.refl _ wc).drew).kp.k.facts; exact ⟨t0, t1, t2, (HMB.out.below (Below.refl _ wc).drew).bm.cell 0 _ rfl, (HMB.out.below (Below.refl _ wc).drew).bm.cell 1 _ rfl, (HMB.out.below (Below.refl _ wc).drew).bm.cell 2 _ rfl, (HMB.out.below (Below.refl _ wc).drew).bm.cell 3 _ rfl⟩)
  clear HPR
  go_upto_region 4 with fail
  go_region_held3 (fun w' => w'.cell? ⟨K.kb, 6, none⟩ = some (.slice K.a4 t.pods.length K.c4) ∧ w'.cell? ⟨K.kb, 7, none⟩ = some (.int .i64 t.preempts) ∧ w'.cell? ⟨K.kb, 8, none⟩ = some (.int .i64 t.shifts) ∧ w'.cell? ⟨w.heap.size, 0, none⟩ = some (.int .i64 m.kind) ∧ w'.cell? ⟨w.heap.size, 1, none⟩ = some (.int .i64 m.pod) ∧ w'.cell? ⟨w.heap.size, 2, none⟩ = some (.int .i64 m.node) ∧ w'.cell? ⟨w.heap.size, 3, none⟩ = some (.int .i64 m.over))
    (first | with_reducible assumption | ((repeat' apply And.intro) <;> with_reducible assumption) | go_keep)
    (first
      | (go_at_call 46; refine HPRW.out.mono ?_; rintro e w2 ⟨rfl, hb2⟩; have HM2 := Lib.hid (HMB.out.below ((Below.refl _ wc).drew.trans hb2)); have k5 : w2.cell? ⟨K.kb, 6, none⟩ = some (.slice K.a4 t.pods.length K.c4) ∧ w2.cell? ⟨K.kb, 7, none⟩ = some (.int .i64 t.preempts) ∧ w2.cell? ⟨K.kb, 8, none⟩ = some (.int .i64 t.shifts) ∧ w2.cell? ⟨w.heap.size, 0, none⟩ = some (.int .i64 m.kind) ∧ w2.cell? ⟨w.heap.size, 1, none⟩ = some (.int .i64 m.pod) ∧ w2.cell? ⟨w.heap.size, 2, none⟩ = some (.int .i64 m.node) ∧ w2.cell? ⟨w.heap.size, 3, none⟩ = some (.int .i64 m.over) := (by obtain ⟨-, -, ⟨t0, t1, t2⟩, -, -, -⟩ := HM2.out.kp.k.facts; exact ⟨t0, t1, t2, HM2.out.bm.cell 0 _ rfl, HM2.out.bm.cell 1 _ rfl, HM2.out.bm.cell 2 _ rfl, HM2.out.bm.cell 3 _ rfl⟩)))
  clear k4 HPRW HMB
  cases pr with
  | true =>
    have HE := Lib.hid (H2.out (by trivial) (by trivial))
    rw [show prioV true = .iface 98 (.int .i64 14) from rfl]
    clear k5
    go_wp2
    go_ret
    exact kdo_no HE.out (by decide) HM2.out.kp HM2.out.bel rfl
  | false =>
    rw [show prioV false = .nilIface from rfl]
    obtain ⟨A5, c5, hb5, ho5⟩ := HM2.out.box
    have HBX := Lib.hid hb5
    have HOX := Lib.hid ho5
    have hbl2 : Below w2.heap.size w2 w2 := Below.refl _ _
    have hk2 : K.kb < w2.heap.size := HM2.out.kp.k.box.lt
    have hw2 : w.heap.size < w2.heap.size := HM2.out.bm.lt
    have hg2 : g5 < w2.heap.size := HBX.out.lt
    have m00 : w2.heap.size ≠ K.kb := by omega
    have o00 : K.kb ≠ w2.heap.size := by omega
    have m01 : w2.heap.size ≠ w.heap.size := by omega
    have o01 : w.heap.size ≠ w2.heap.size := by omega
    have m02 : w2.heap.size ≠ g5 := by omega
    have o02 : g5 ≠ w2.heap.size := by omega
    have m10 : w2.heap.size + 1 ≠ K.kb := by omega
    have o10 : K.kb ≠ w2.heap.size + 1 := by omega
    have m11 : w2.heap.size + 1 ≠ w.heap.size := by omega
    have o11 : w.heap.size ≠ w2.heap.size + 1 := by omega
    have m12 : w2.heap.size + 1 ≠ g5 := by omega
    have o12 : g5 ≠ w2.heap.size + 1 := by omega
    have HPA1 : Hid (∀ V, Below w2.heap.size w2 V → Calls Tryz.prog 42 #[.agg #[.slice K.a4 t.pods.length K.c4, .int .i64 t.preempts, .int .i64 t.shifts], .agg #[.int .i64 m.kind, .int .i64 m.pod, .int .i64 m.node, .int .i64 m.over]] V fun e w' => ∃ v, e = .returned v ∧ StateTo ⟨partD t.pods m, t.preempts, t.shifts⟩ V v w') := fun V hV => by
      have k := (HM2.out.kp.below hV)
      exact part_any t.pods m K.a4 t.pods.length K.c4 t.preempts t.shifts V rfl (by have := k.fine.len; omega) k.k.pods.out.2.2.2
    have HPA2 : Hid (∀ V, Below w2.heap.size w2 V → Calls Tryz.prog 42 #[.agg #[.slice A5 u.pods.length c5, .int .i64 u.preempts, .int .i64 u.shifts], .agg #[.int .i64 m.kind, .int .i64 m.pod, .int .i64 m.node, .int .i64 m.over]] V fun e w' => ∃ v, e = .returned v ∧ StateTo ⟨partD u.pods m, u.preempts, u.shifts⟩ V v w') := fun V hV =>
      part_any u.pods m A5 u.pods.length c5 u.preempts u.shifts V rfl (by have := (HDK.out (by trivial)).1.fine.len; omega) (HOX.out.later hV).2.2.2
    have k6 : w2.drew.cell? ⟨K.kb, 6, none⟩ = some (.slice K.a4 t.pods.length K.c4) ∧ w2.drew.cell? ⟨K.kb, 7, none⟩ = some (.int .i64 t.preempts) ∧ w2.drew.cell? ⟨K.kb, 8, none⟩ = some (.int .i64 t.shifts) ∧ w2.drew.cell? ⟨w.heap.size, 0, none⟩ = some (.int .i64 m.kind) ∧ w2.drew.cell? ⟨w.heap.size, 1, none⟩ = some (.int .i64 m.pod) ∧ w2.drew.cell? ⟨w.heap.size, 2, none⟩ = some (.int .i64 m.node) ∧ w2.drew.cell? ⟨w.heap.size, 3, none⟩ = some (.int .i64 m.over) ∧ w2.drew.cell? ⟨g5, 0, none⟩ = some (.slice A5 u.pods.length c5) ∧ w2.drew.cell? ⟨g5, 1, none⟩ = some (.int .i64 u.preempts) ∧ w2.drew.cell? ⟨g5, 2, none⟩ = some (.int .i64 u.shifts) := (by obtain ⟨-, -, ⟨t0, t1, t2⟩, -, -, -⟩ := (HM2.out.below (Below.refl _ w2).drew).kp.k.facts; exact ⟨t0, t1, t2, (HM2.out.below (Below.refl _ w2).drew).bm.cell 0 _ rfl, (HM2.out.below (Below.refl _ w2).drew).bm.cell 1 _ rfl, (HM2.out.below (Below.refl _ w2).drew).bm.cell 2 _ rfl, (HM2.out.below (Below.refl _ w2).drew).bm.cell 3 _ rfl, hb5.drew.cell 0 _ rfl, hb5.drew.cell 1 _ rfl, hb5.drew.cell 2 _ rfl⟩)
    have l6 : w2.cell? ⟨K.kb, 6, none⟩ = some (.slice K.a4 t.pods.length K.c4) ∧ w2.cell? ⟨K.kb, 7, none⟩ = some (.int .i64 t.preempts) ∧ w2.cell? ⟨K.kb, 8, none⟩ = some (.int .i64 t.shifts) ∧ w2.cell? ⟨w.heap.size, 0, none⟩ = some (.int .i64 m.kind) ∧ w2.cell? ⟨w.heap.size, 1, none⟩ = some (.int .i64 m.pod) ∧ w2.cell? ⟨w.heap.size, 2, none⟩ = some (.int .i64 m.node) ∧ w2.cell? ⟨w.heap.size, 3, none⟩ = some (.int .i64 m.over) ∧ w2.cell? ⟨g5, 0, none⟩ = some (.slice A5 u.pods.length c5) ∧ w2.cell? ⟨g5, 1, none⟩ = some (.int .i64 u.preempts) ∧ w2.cell? ⟨g5, 2, none⟩ = some (.int .i64 u.shifts) := k6
    clear hb5 ho5 k5
    go_upto_region 7 with fail
    go_cut [8, 9] from 43 to 51 (fun v8 v9 wx => ∃ g8 g9, v8 = .pointer (some ⟨g8, 0, none⟩) ∧ v9 = .pointer (some ⟨g9, 0, none⟩) ∧ PartsB K s x t ds N m u w g8 g9 wx)
    case first =>
      go_region_held3 (fun w' => w'.cell? ⟨K.kb, 6, none⟩ = some (.slice K.a4 t.pods.length K.c4) ∧ w'.cell? ⟨K.kb, 7, none⟩ = some (.int .i64 t.preempts) ∧ w'.cell? ⟨K.kb, 8, none⟩ = some (.int .i64 t.shifts) ∧ w'.cell? ⟨w.heap.size, 0, none⟩ = some (.int .i64 m.kind) ∧ w'.cell? ⟨w.heap.size, 1, none⟩ = some (.int .i64 m.pod) ∧ w'.cell? ⟨w.heap.size, 2, none⟩ = some (.int .i64 m.node) ∧ w'.cell? ⟨w.heap.size, 3, none⟩ = some (.int .i64 m.over) ∧ w'.cell? ⟨g5, 0, none⟩ = some (.slice A5 u.pods.length c5) ∧ w'.cell? ⟨g5, 1, none⟩ = some (.int .i64 u.preempts) ∧ w'.cell? ⟨g5, 2, none⟩ = some (.int .i64 u.shifts))
        (first | with_reducible assumption | ((repeat' apply And.intro) <;> with_reducible assumption) | go_keep)
        (first
          | (go_at_call 42; (with_reducible refine (HPA1.out _ ?_).mono ?_); ((first | assumption | (refine Below.drew ?_; assumption) | (refine below_allocK ?_ _; assumption) | (refine Below.drew (below_allocK ?_ _); assumption) | (refine below_allocK (below_allocK ?_ _) _; assumption) | (refine Below.drew (below_allocK (below_allocK ?_ _) _); assumption))); rintro e w5 ⟨v8, hv8, A8, c8, hA8, ho8, hf8, hb8⟩; subst hv8; subst hA8; have hbl5 : Below w2.heap.size w2 w5 := below_thenK (by first | assumption | (refine Below.drew ?_; assumption) | (refine below_allocK ?_ _; assumption) | (refine Below.drew (below_allocK ?_ _); assumption) | (refine below_allocK (below_allocK ?_ _) _; assumption) | (refine Below.drew (below_allocK (below_allocK ?_ _) _); assumption)) hb8; have HM5 := Lib.hid (HM2.out.below hbl5); have k7 : w5.cell? ⟨K.kb, 6, none⟩ = some (.slice K.a4 t.pods.length K.c4) ∧ w5.cell? ⟨K.kb, 7, none⟩ = some (.int .i64 t.preempts) ∧ w5.cell? ⟨K.kb, 8, none⟩ = some (.int .i64 t.shifts) ∧ w5.cell? ⟨w.heap.size, 0, none⟩ = some (.int .i64 m.kind) ∧ w5.cell? ⟨w.heap.size, 1, none⟩ = some (.int .i64 m.pod) ∧ w5.cell? ⟨w.heap.size, 2, none⟩ = some (.int .i64 m.node) ∧ w5.cell? ⟨w.heap.size, 3, none⟩ = some (.int .i64 m.over) ∧ w5.cell? ⟨g5, 0, none⟩ = some (.slice A5 u.pods.length c5) ∧ w5.cell? ⟨g5, 1, none⟩ = some (.int .i64 u.preempts) ∧ w5.cell? ⟨g5, 2, none⟩ = some (.int .i64 u.shifts) := (by obtain ⟨-, -, ⟨t0, t1, t2⟩, -, -, -⟩ := HM5.out.kp.k.facts; exact ⟨t0, t1, t2, HM5.out.bm.cell 0 _ rfl, HM5.out.bm.cell 1 _ rfl, HM5.out.bm.cell 2 _ rfl, HM5.out.bm.cell 3 _ rfl, (HBX.out.below hbl5 HBX.out.lt).cell 0 _ rfl, (HBX.out.below hbl5 HBX.out.lt).cell 1 _ rfl, (HBX.out.below hbl5 HBX.out.lt).cell 2 _ rfl⟩); have HO8 := Lib.hid ho8; have HF8 := Lib.hid hf8; have hs5 : w2.heap.size ≤ w5.heap.size := hbl5.size; (try (have qab : Bf w5 (w2.heap.size) [.slice none 0 0, .int .i64 0, .int .i64 0] := (by first | exact Bf.below (Bf.new w2 [.slice none 0 0, .int .i64 0, .int .i64 0] 42 rfl).drew hb8 (by simp <;> omega) | with_reducible exact Bf.below ((Bf.new w2 [.slice none 0 0, .int .i64 0, .int .i64 0] 42 rfl).alloc _).drew hb8 (by simp <;> omega)); have QA := Lib.hid qab; have qa0 := qab.cell 0 _ rfl; have qa1 := qab.cell 1 _ rfl; have qa2 := qab.cell 2 _ rfl; have qa3 := qab.frozen 0; have qa4 := qab.frozen 1; have qa5 := qab.frozen 2; have qa6 := qab.lt; clear qab)); (try (have qbb : Bf w5 (w2.heap.size + 1) [.slice none 0 0, .int .i64 0, .int .i64 0] := (by first | exact Bf.below (Bf.new (w2.alloc (.cells #[.slice none 0 0, .int .i64 0, .int .i64 0] 42)) [.slice none 0 0, .int .i64 0, .int .i64 0] 42 (b := w2.heap.size + 1) (by simp)).drew hb8 (by simp <;> omega)); have QB := Lib.hid qbb; have qb0 := qbb.cell 0 _ rfl; have qb1 := qbb.cell 1 _ rfl; have qb2 := qbb.cell 2 _ rfl; have qb3 := qbb.frozen 0; have qb4 := qbb.frozen 1; have qb5 := qbb.frozen 2; have qb6 := qbb.lt; clear qbb)))
          | (go_at_call 42; (with_reducible refine (HPA2.out _ ?_).mono ?_); ((first | assumption | (refine Below.drew ?_; assumption) | (refine below_allocK ?_ _; assumption) | (refine Below.drew (below_allocK ?_ _); assumption) | (refine below_allocK (below_allocK ?_ _) _; assumption) | (refine Below.drew (below_allocK (below_allocK ?_ _) _); assumption))); rintro e w6 ⟨v9, hv9, A9, c9, hA9, ho9, hf9, hb9⟩; subst hv9; subst hA9; have hbl6 : Below w2.heap.size w2 w6 := below_thenK (by first | assumption | (refine Below.drew ?_; assumption) | (refine below_allocK ?_ _; assumption) | (refine Below.drew (below_allocK ?_ _); assumption) | (refine below_allocK (below_allocK ?_ _) _; assumption) | (refine Below.drew (below_allocK (below_allocK ?_ _) _); assumption)) hb9; have HM6 := Lib.hid (HM2.out.below hbl6); have k8 : w6.cell? ⟨K.kb, 6, none⟩ = some (.slice K.a4 t.pods.length K.c4) ∧ w6.cell? ⟨K.kb, 7, none⟩ = some (.int .i64 t.preempts) ∧ w6.cell? ⟨K.kb, 8, none⟩ = some (.int .i64 t.shifts) ∧ w6.cell? ⟨w.heap.size, 0, none⟩ = some (.int .i64 m.kind) ∧ w6.cell? ⟨w.heap.size, 1, none⟩ = some (.int .i64 m.pod) ∧ w6.cell? ⟨w.heap.size, 2, none⟩ = some (.int .i64 m.node) ∧ w6.cell? ⟨w.heap.size, 3, none⟩ = some (.int .i64 m.over) ∧ w6.cell? ⟨g5, 0, none⟩ = some (.slice A5 u.pods.length c5) ∧ w6.cell? ⟨g5, 1, none⟩ = some (.int .i64 u.preempts) ∧ w6.cell? ⟨g5, 2, none⟩ = some (.int .i64 u.shifts) := (by obtain ⟨-, -, ⟨t0, t1, t2⟩, -, -, -⟩ := HM6.out.kp.k.facts; exact ⟨t0, t1, t2, HM6.out.bm.cell 0 _ rfl, HM6.out.bm.cell 1 _ rfl, HM6.out.bm.cell 2 _ rfl, HM6.out.bm.cell 3 _ rfl, (HBX.out.below hbl6 HBX.out.lt).cell 0 _ rfl, (HBX.out.below hbl6 HBX.out.lt).cell 1 _ rfl, (HBX.out.below hbl6 HBX.out.lt).cell 2 _ rfl⟩); have HO9 := Lib.hid ho9; have HF9 := Lib.hid hf9; have hs6 : w2.heap.size ≤ w6.heap.size := hbl6.size; have HB56 := Lib.hid (show Below w5.heap.size w5 w6 from below_thenK (by first | exact Below.refl _ _ | exact below_allocK (Below.refl _ _) _ | exact below_allocK (below_allocK (Below.refl _ _) _) _) hb9); (try (have rab : Bf w6 (w2.heap.size) [.slice none 0 0, .int .i64 0, .int .i64 0] := (by first | exact Bf.below QA.out hb9 QA.out.lt | exact Bf.below (QA.out.alloc _) hb9 (QA.out.alloc _).lt); have RA := Lib.hid rab; have ra0 := rab.cell 0 _ rfl; have ra1 := rab.cell 1 _ rfl; have ra2 := rab.cell 2 _ rfl; have ra3 := rab.frozen 0; have ra4 := rab.frozen 1; have ra5 := rab.frozen 2; have ra6 := rab.lt; clear rab)); (try (have rbb : Bf w6 (w2.heap.size + 1) [.slice none 0 0, .int .i64 0, .int .i64 0] := (by first | exact Bf.below QB.out hb9 QB.out.lt); have RB := Lib.hid rbb; have rb0 := rbb.cell 0 _ rfl; have rb1 := rbb.cell 1 _ rfl; have rb2 := rbb.cell 2 _ rfl; have rb3 := rbb.frozen 0; have rb4 := rbb.frozen 1; have rb5 := rbb.frozen 2; have rb6 := rbb.lt; clear rbb)); (try (have rcb : Bf w6 (w5.heap.size) [.slice none 0 0, .int .i64 0, .int .i64 0] := (by first | exact Bf.below (Bf.new w5 [.slice none 0 0, .int .i64 0, .int .i64 0] 42 rfl) hb9 (by simp <;> omega) | exact Bf.below ((Bf.new w5 [.slice none 0 0, .int .i64 0, .int .i64 0] 42 rfl).alloc _) hb9 (by simp <;> omega)); have RC := Lib.hid rcb; have rc0 := rcb.cell 0 _ rfl; have rc1 := rcb.cell 1 _ rfl; have rc2 := rcb.cell 2 _ rfl; have rc3 := rcb.frozen 0; have rc4 := rcb.frozen 1; have rc5 := rcb.frozen 2; have rc6 := rcb.lt; clear rcb)); (try (have rdb : Bf w6 (w5.heap.size + 1) [.slice none 0 0, .int .i64 0, .int .i64 0] := (by first | exact Bf.below (Bf.new (w5.alloc (.cells #[.slice none 0 0, .int .i64 0, .int .i64 0] 42)) [.slice none 0 0, .int .i64 0, .int .i64 0] 42 (b := w5.heap.size + 1) (by simp)) hb9 (by simp <;> omega)); have RD := Lib.hid rdb; have rd0 := rdb.cell 0 _ rfl; have rd1 := rdb.cell 1 _ rfl; have rd2 := rdb.cell 2 _ rfl; have rd3 := rdb.frozen 0; have rd4 := rdb.frozen 1; have rd5 := rdb.frozen 2; have rd6 := rdb.lt; clear rdb)); have n20 : w5.heap.size ≠ K.kb := (by omega); have p20 : K.kb ≠ w5.heap.size := (by omega); have n21 : w5.heap.size ≠ w.heap.size := (by omega); have p21 : w.heap.size ≠ w5.heap.size := (by omega); have n22 : w5.heap.size ≠ g5 := (by omega); have p22 : g5 ≠ w5.heap.size := (by omega); have n30 : w5.heap.size + 1 ≠ K.kb := (by omega); have p30 : K.kb ≠ w5.heap.size + 1 := (by omega); have n31 : w5.heap.size + 1 ≠ w.heap.size := (by omega); have p31 : w.heap.size ≠ w5.heap.size + 1 := (by omega); have n32 : w5.heap.size + 1 ≠ g5 := (by omega); have p32 : g5 ≠ w5.heap.size + 1 := (by omega)))
      all_goals
        go_wp2_with fail
        go_meet
        refine ⟨_, _, rfl, rfl, ?_⟩
        clear m00 o00 m01 o01 m02 o02 m10 o10 m11 o11 m12 o12 n20 p20 n21 p21 n22 p22 n30 p30 n31 p31 n32 p32
        have r8 : Recs 8 cellsP w6 w6.heap.size A8 (partD t.pods m) := (HO8.out.later HB56.out).2.2.2
        have r9 : Recs 8 cellsP w6 w6.heap.size A9 (partD u.pods m) := HO9.out.2.2.2
        have k8 : ∀ a, A8 = some a → partD t.pods m ≠ [] → a.block < w5.heap.size := fun a ha hl => recs_ltK HO8.out.2.2.2 hl ha
        have f8 := HF8.out
        have f9 := HF9.out
        have hs56 : w5.heap.size ≤ w6.heap.size := HB56.out.size
        have g8 : ∀ a, A8 = some a → w.heap.size ≤ a.block := fun a ha => by have := f8 a ha; simp at this; omega
        have g9 : ∀ a, A9 = some a → w.heap.size ≤ a.block := fun a ha => by have := f9 a ha; (try simp at this); omega
      · exact parts_none8 HP.out HM6.out r8 r9 g8 g9
      · exact parts_none9 HP.out HM6.out r8 r9 g8 g9
      · exact parts_one8 HP.out HM6.out RC.out (by omega) r8 r9 (fun a ha hl => by have e1 := k8 a ha hl; have e2 := f8 a ha; (try simp at e2); omega) (fun a ha hl => by have e2 := f9 a ha; (try simp at e2); omega) g8 g9
      · exact parts_two HP.out HM6.out RC.out RD.out (by omega) ⟨by omega, by omega⟩ r8 r9 (fun a ha hl => by have e1 := k8 a ha hl; have e2 := f8 a ha; (try simp at e2); omega) (fun a ha hl => by have e2 := f9 a ha; (try simp at e2); omega) g8 g9
      · exact parts_one9 HP.out HM6.out RC.out (by omega) r8 r9 (fun a ha hl => by have e1 := k8 a ha hl; have e2 := f8 a ha; (try simp at e2); omega) (fun a ha hl => by have e2 := f9 a ha; (try simp at e2); omega) g8 g9
      · exact parts_two HP.out HM6.out RD.out RC.out (by omega) ⟨by omega, by omega⟩ r8 r9 (fun a ha hl => by have e1 := k8 a ha hl; have e2 := f8 a ha; (try simp at e2); omega) (fun a ha hl => by have e2 := f9 a ha; (try simp at e2); omega) g8 g9
      · exact parts_one8 HP.out HM6.out RA.out (by omega) r8 r9 (fun a ha hl => by have e1 := k8 a ha hl; have e2 := f8 a ha; (try simp at e2); omega) (fun a ha hl => by have e2 := f9 a ha; (try simp at e2); omega) g8 g9
      · exact parts_two HP.out HM6.out RA.out RC.out (by omega) ⟨by omega, by omega⟩ r8 r9 (fun a ha hl => by have e1 := k8 a ha hl; have e2 := f8 a ha; (try simp at e2); omega) (fun a ha hl => by have e2 := f9 a ha; (try simp at e2); omega) g8 g9
      · exact parts_two HP.out HM6.out RA.out RB.out (by omega) ⟨by omega, by omega⟩ r8 r9 (fun a ha hl => by have e1 := k8 a ha hl; have e2 := f8 a ha; (try simp at e2); omega) (fun a ha hl => by have e2 := f9 a ha; (try simp at e2); omega) g8 g9
      · exact parts_one9 HP.out HM6.out RA.out (by omega) r8 r9 (fun a ha hl => by have e1 := k8 a ha hl; have e2 := f8 a ha; (try simp at e2); omega) (fun a ha hl => by have e2 := f9 a ha; (try simp at e2); omega) g8 g9
      · exact parts_two HP.out HM6.out RC.out RA.out (by omega) ⟨by omega, by omega⟩ r8 r9 (fun a ha hl => by have e1 := k8 a ha hl; have e2 := f8 a ha; (try simp at e2); omega) (fun a ha hl => by have e2 := f9 a ha; (try simp at e2); omega) g8 g9
      · exact parts_two HP.out HM6.out RB.out RA.out (by omega) ⟨by omega, by omega⟩ r8 r9 (fun a ha hl => by have e1 := k8 a ha hl; have e2 := f8 a ha; (try simp at e2); omega) (fun a ha hl => by have e2 := f9 a ha; (try simp at e2); omega) g8 g9
    case rest =>
      obtain ⟨g8, g9, rfl, rfl, hpb⟩ := hcut
      obtain ⟨A8, c8, A9, c9, hdb⟩ := hpb.aside
      have HPB := Lib.hid hpb.kp
      have HBE := Lib.hid hpb.bel
      have HDB := Lib.hid hdb
      obtain ⟨nd, nb, hnd, hno⟩ := nodeHere_any s m.node HFF.out.n40
      have HND := Lib.hid hnd
      have HNO : Hid (∀ V, Below wc.heap.size wc V → Calls Tryz.prog 47 #[.agg #[.slice K.a1 s.nodes.length K.c1, .slice K.a2 s.loads.length K.c2, .slice K.a3 s.pods.length K.c3], .int .i64 m.node] V fun e w' => e = .returned (.tuple #[aggN nd, .bool nb]) ∧ Below V.heap.size V w') := fun V hV => hno V _ _ _ _ (HPB.out.below hV).k.r1
      have hkw : K.kb < wc.heap.size := HPB.out.k.box.lt
      have hww : w.heap.size < wc.heap.size := HDB.out.bm.lt
      have hnk : K.kb ≠ wc.heap.size := by omega
      have hnw : w.heap.size ≠ wc.heap.size := by omega
      clear hpb hdb hnd hno l6 k6 hbl2 hk2 hw2 hg2 m00 o00 m01 o01 m02 o02 m10 o10 m11 o11 m12 o12 HPA1 HPA2 HBX HOX HM2
      have k9 : wc.drew.cell? ⟨K.kb, 0, none⟩ = some (.slice K.a1 s.nodes.length K.c1) ∧ wc.drew.cell? ⟨K.kb, 1, none⟩ = some (.slice K.a2 s.loads.length K.c2) ∧ wc.drew.cell? ⟨K.kb, 2, none⟩ = some (.slice K.a3 s.pods.length K.c3) ∧ wc.drew.cell? ⟨w.heap.size, 2, none⟩ = some (.int .i64 m.node) := (by obtain ⟨⟨r1, r2, r3⟩, -, -, -, -, -⟩ := HPB.out.k.facts; exact ⟨r1, r2, r3, HDB.out.bm.cell 2 _ rfl⟩)
      have l9 : wc.cell? ⟨K.kb, 0, none⟩ = some (.slice K.a1 s.nodes.length K.c1) ∧ wc.cell? ⟨K.kb, 1, none⟩ = some (.slice K.a2 s.loads.length K.c2) ∧ wc.cell? ⟨K.kb, 2, none⟩ = some (.slice K.a3 s.pods.length K.c3) ∧ wc.cell? ⟨w.heap.size, 2, none⟩ = some (.int .i64 m.node) := k9
      go_upto_region 8 with fail
      go_cut [10, 11] from 52 to 61 (fun v10 v11 wx => ∃ g10, v10 = .pointer (some ⟨g10, 0, none⟩) ∧ v11 = .bool nb ∧ Bf wx g10 (cellsN nd) ∧ Below wc.heap.size wc wx)
      case first =>
        have hbz : Bf (wc.alloc (.cells #[.int .i64 0, .int .i64 0, .int .u64 0, .int .u64 0, .int .u64 0, .int .u64 0, .int .u64 0, .int .u64 0, .int .u64 0, .int .u64 0] 63)).drew wc.heap.size [.int .i64 0, .int .i64 0, .int .u64 0, .int .u64 0, .int .u64 0, .int .u64 0, .int .u64 0, .int .u64 0, .int .u64 0, .int .u64 0] := (Bf.new wc [.int .i64 0, .int .i64 0, .int .u64 0, .int .u64 0, .int .u64 0, .int .u64 0, .int .u64 0, .int .u64 0, .int .u64 0, .int .u64 0] 63 rfl).drew
        have hb0 : Below wc.heap.size wc (wc.alloc (.cells #[.int .i64 0, .int .i64 0, .int .u64 0, .int .u64 0, .int .u64 0, .int .u64 0, .int .u64 0, .int .u64 0, .int .u64 0, .int .u64 0] 63)).drew := ((Below.refl _ wc).alloc (Nat.le_refl _) _).drew
        have HBZ := Lib.hid hbz
        have HB0Z := Lib.hid hb0
        clear hbz hb0
        go_region_held3 (fun w' => w'.cell? ⟨K.kb, 0, none⟩ = some (.slice K.a1 s.nodes.length K.c1) ∧ w'.cell? ⟨K.kb, 1, none⟩ = some (.slice K.a2 s.loads.length K.c2) ∧ w'.cell? ⟨K.kb, 2, none⟩ = some (.slice K.a3 s.pods.length K.c3) ∧ w'.cell? ⟨w.heap.size, 2, none⟩ = some (.int .i64 m.node))
          (first | with_reducible assumption | ((repeat' apply And.intro) <;> with_reducible assumption) | (simp only [cell_off10 hnk, cell_off10 hnw]; with_reducible assumption) | go_keep)
          (first
            | (go_at_call 47; have hbV : Below wc.heap.size wc (wc.alloc (.cells #[.int .i64 0, .int .i64 0, .int .u64 0, .int .u64 0, .int .u64 0, .int .u64 0, .int .u64 0, .int .u64 0, .int .u64 0, .int .u64 0] 63)).drew := HB0Z.out; refine (HNO.out _ hbV).mono ?_; rintro e w1 ⟨rfl, hb1⟩; have HW1 := Lib.hid (hbV.trans (hb1.mono hbV.size)); clear hbV; have k1 : w1.cell? ⟨K.kb, 0, none⟩ = some (.slice K.a1 s.nodes.length K.c1) ∧ w1.cell? ⟨K.kb, 1, none⟩ = some (.slice K.a2 s.loads.length K.c2) ∧ w1.cell? ⟨K.kb, 2, none⟩ = some (.slice K.a3 s.pods.length K.c3) ∧ w1.cell? ⟨w.heap.size, 2, none⟩ = some (.int .i64 m.node) := (by obtain ⟨⟨r1, r2, r3⟩, -, -, -, -, -⟩ := (HPB.out.below HW1.out).k.facts; exact ⟨r1, r2, r3, (HDB.out.below HW1.out).bm.cell 2 _ rfl⟩); have HBW := Lib.hid (HBZ.out.below hb1 HBZ.out.lt); have hlb := HBW.out.lt; have y0 := HBW.out.cell 0 _ rfl; have z0 := HBW.out.frozen 0; have y1 := HBW.out.cell 1 _ rfl; have z1 := HBW.out.frozen 1; have y2 := HBW.out.cell 2 _ rfl; have z2 := HBW.out.frozen 2; have y3 := HBW.out.cell 3 _ rfl; have z3 := HBW.out.frozen 3; have y4 := HBW.out.cell 4 _ rfl; have z4 := HBW.out.frozen 4; have y5 := HBW.out.cell 5 _ rfl; have z5 := HBW.out.frozen 5; have y6 := HBW.out.cell 6 _ rfl; have z6 := HBW.out.frozen 6; have y7 := HBW.out.cell 7 _ rfl; have z7 := HBW.out.frozen 7; have y8 := HBW.out.cell 8 _ rfl; have z8 := HBW.out.frozen 8; have y9 := HBW.out.cell 9 _ rfl; have z9 := HBW.out.frozen 9)
            | (go_at_call 47; have hbV : Below wc.heap.size wc wc.drew := (Below.refl _ wc).drew; refine (HNO.out _ hbV).mono ?_; rintro e w1 ⟨rfl, hb1⟩; have HW1 := Lib.hid (hbV.trans (hb1.mono hbV.size)); clear hbV; have k1 : w1.cell? ⟨K.kb, 0, none⟩ = some (.slice K.a1 s.nodes.length K.c1) ∧ w1.cell? ⟨K.kb, 1, none⟩ = some (.slice K.a2 s.loads.length K.c2) ∧ w1.cell? ⟨K.kb, 2, none⟩ = some (.slice K.a3 s.pods.length K.c3) ∧ w1.cell? ⟨w.heap.size, 2, none⟩ = some (.int .i64 m.node) := (by obtain ⟨⟨r1, r2, r3⟩, -, -, -, -, -⟩ := (HPB.out.below HW1.out).k.facts; exact ⟨r1, r2, r3, (HDB.out.below HW1.out).bm.cell 2 _ rfl⟩)))
        all_goals
          go_wp2_with fail
          go_meet
        · exact ⟨w1.heap.size, rfl, rfl, Bf.new w1 [.int .i64 nd.id, .int .i64 nd.zone, .int .u64 nd.cap.a, .int .u64 nd.cap.b, .int .u64 nd.cap.c, .int .u64 nd.cap.d, .int .u64 nd.held.a, .int .u64 nd.held.b, .int .u64 nd.held.c, .int .u64 nd.held.d] 63 rfl, HW1.out.alloc HW1.out.size _⟩
        · exact ⟨wc.heap.size, rfl, rfl, bf_set10 HBW.out, below_off10 HW1.out (Nat.le_refl _)⟩
      case rest =>

      obtain ⟨g10, rfl, rfl, hbn, hbw⟩ := hcut
      have HPC := Lib.hid (HPB.out.below hbw)
      have HDC := Lib.hid (HDB.out.below hbw)
      have HBC := Lib.hid (HBE.out.trans (hbw.mono HBE.out.size))
      have HBN := Lib.hid hbn
      obtain ⟨hT, hno, hyes⟩ := HDK.out (by trivial)
      have HT := Lib.hid hT
      have HN1 := Lib.hid hno
      have HY := Lib.hid hyes
      have hmu : ∀ i ∈ K.muts, i < w.heap.size := HP.out.k.muts_lt
      have HMU := Lib.hid hmu
      clear hbn hbw hT hno hyes HDK HPB HDB HBE k9 l9 HNO hkw hww hnk hnw hmu
      rcases HND.out with ⟨hb, hn⟩ | ⟨hb, hn⟩
      case' inl =>
        subst hb
        have h0 := roomAt_none (C := cntOf (zmOf s.nodes) t.pods) (a := partD t.pods m) (b := partD u.pods m) hn
        have HM := Lib.hid (DoM.of HFF.out HP.out.fine (HP.out.room HFF.out) HT.out h0 (HY.out h0))
        clear h0 hn
        go_upto_region 13 with fail
        have HP13 := HPC
        have HD13 := HDC
        have HB13 := HBC
        clear HPC HDC HBC HBN
        generalize wc = W13 at *
      case' inr =>
        subst hb
        have hz0 := fun h => Lib.hid (DoM.of HFF.out HP.out.fine (HP.out.room HFF.out) HT.out h (HY.out h))
        have HZ0 := Lib.hid hz0
        have HRM := Lib.hid (doRoom_any HFF.out HP.out.fine HT.out (HP.out.room HFF.out) hn HPC.out.k.drew (HDC.out.below (Below.refl _ wc).drew))
        have HN2 := HN1
        clear hz0 hn
        generalize roomAt s.nodes (cntOf (zmOf s.nodes) t.pods) m.node (partD t.pods m) (partD u.pods m) = rz at HRM HZ0 HN2
        clear HN1 HY
        have k10 : wc.drew.cell? ⟨K.kb, 10, none⟩ = some (.map (some K.M.z)) ∧ wc.drew.cell? ⟨K.kb, 11, none⟩ = some (.map (some K.M.u)) ∧ wc.drew.cell? ⟨K.kb, 12, none⟩ = some (.map (some K.M.a)) ∧ wc.drew.cell? ⟨K.kb, 13, none⟩ = some (.map (some K.M.i)) ∧ wc.drew.cell? ⟨K.kb, 14, none⟩ = some (.map (some K.M.s)) ∧ wc.drew.cell? ⟨g10, 0, none⟩ = some (.int .i64 nd.id) ∧ wc.drew.cell? ⟨g10, 1, none⟩ = some (.int .i64 nd.zone) ∧ wc.drew.cell? ⟨g10, 2, none⟩ = some (.int .u64 nd.cap.a) ∧ wc.drew.cell? ⟨g10, 3, none⟩ = some (.int .u64 nd.cap.b) ∧ wc.drew.cell? ⟨g10, 4, none⟩ = some (.int .u64 nd.cap.c) ∧ wc.drew.cell? ⟨g10, 5, none⟩ = some (.int .u64 nd.cap.d) ∧ wc.drew.cell? ⟨g10, 6, none⟩ = some (.int .u64 nd.held.a) ∧ wc.drew.cell? ⟨g10, 7, none⟩ = some (.int .u64 nd.held.b) ∧ wc.drew.cell? ⟨g10, 8, none⟩ = some (.int .u64 nd.held.c) ∧ wc.drew.cell? ⟨g10, 9, none⟩ = some (.int .u64 nd.held.d) ∧ wc.drew.cell? ⟨g8, 0, none⟩ = some (.slice A8 (partD t.pods m).length c8) ∧ wc.drew.cell? ⟨g9, 0, none⟩ = some (.slice A9 (partD u.pods m).length c9) := (by obtain ⟨-, -, -, -, ⟨q0, q1, q2, q3, q4⟩, -⟩ := HPC.out.k.facts; obtain ⟨⟨b0, b1, b2, b3, b4, b5⟩, b6, b7, b8, b9, b10⟩ := HBN.out.cells10; obtain ⟨⟨a0, -, -⟩, ⟨a1, -, -⟩, -⟩ := HDC.out.cells; exact ⟨q0, q1, q2, q3, q4, b0, b1, b2, b3, b4, b5, b6, b7, b8, b9, a0, a1⟩)
        go_upto_region 10 with fail
        go_region_held3 (fun w' => w'.cell? ⟨K.kb, 10, none⟩ = some (.map (some K.M.z)) ∧ w'.cell? ⟨K.kb, 11, none⟩ = some (.map (some K.M.u)) ∧ w'.cell? ⟨K.kb, 12, none⟩ = some (.map (some K.M.a)) ∧ w'.cell? ⟨K.kb, 13, none⟩ = some (.map (some K.M.i)) ∧ w'.cell? ⟨K.kb, 14, none⟩ = some (.map (some K.M.s)) ∧ w'.cell? ⟨g10, 0, none⟩ = some (.int .i64 nd.id) ∧ w'.cell? ⟨g10, 1, none⟩ = some (.int .i64 nd.zone) ∧ w'.cell? ⟨g10, 2, none⟩ = some (.int .u64 nd.cap.a) ∧ w'.cell? ⟨g10, 3, none⟩ = some (.int .u64 nd.cap.b) ∧ w'.cell? ⟨g10, 4, none⟩ = some (.int .u64 nd.cap.c) ∧ w'.cell? ⟨g10, 5, none⟩ = some (.int .u64 nd.cap.d) ∧ w'.cell? ⟨g10, 6, none⟩ = some (.int .u64 nd.held.a) ∧ w'.cell? ⟨g10, 7, none⟩ = some (.int .u64 nd.held.b) ∧ w'.cell? ⟨g10, 8, none⟩ = some (.int .u64 nd.held.c) ∧ w'.cell? ⟨g10, 9, none⟩ = some (.int .u64 nd.held.d) ∧ w'.cell? ⟨g8, 0, none⟩ = some (.slice A8 (partD t.pods m).length c8) ∧ w'.cell? ⟨g9, 0, none⟩ = some (.slice A9 (partD u.pods m).length c9))
          (first | with_reducible assumption | ((repeat' apply And.intro) <;> with_reducible assumption) | go_keep)
          (first
            | (go_at_call 30; refine HRM.out.mono ?_; rintro e w11 ⟨rfl, hb11⟩; have hb12 := (Below.refl _ wc).drew.trans hb11; have HP13 := Lib.hid (HPC.out.below hb12); have HD13 := Lib.hid (HDC.out.below hb12); have HB13 := Lib.hid (HBC.out.trans (hb12.mono HBC.out.size)); have k11 : w11.cell? ⟨K.kb, 10, none⟩ = some (.map (some K.M.z)) ∧ w11.cell? ⟨K.kb, 11, none⟩ = some (.map (some K.M.u)) ∧ w11.cell? ⟨K.kb, 12, none⟩ = some (.map (some K.M.a)) ∧ w11.cell? ⟨K.kb, 13, none⟩ = some (.map (some K.M.i)) ∧ w11.cell? ⟨K.kb, 14, none⟩ = some (.map (some K.M.s)) ∧ w11.cell? ⟨g10, 0, none⟩ = some (.int .i64 nd.id) ∧ w11.cell? ⟨g10, 1, none⟩ = some (.int .i64 nd.zone) ∧ w11.cell? ⟨g10, 2, none⟩ = some (.int .u64 nd.cap.a) ∧ w11.cell? ⟨g10, 3, none⟩ = some (.int .u64 nd.cap.b) ∧ w11.cell? ⟨g10, 4, none⟩ = some (.int .u64 nd.cap.c) ∧ w11.cell? ⟨g10, 5, none⟩ = some (.int .u64 nd.cap.d) ∧ w11.cell? ⟨g10, 6, none⟩ = some (.int .u64 nd.held.a) ∧ w11.cell? ⟨g10, 7, none⟩ = some (.int .u64 nd.held.b) ∧ w11.cell? ⟨g10, 8, none⟩ = some (.int .u64 nd.held.c) ∧ w11.cell? ⟨g10, 9, none⟩ = some (.int .u64 nd.held.d) ∧ w11.cell? ⟨g8, 0, none⟩ = some (.slice A8 (partD t.pods m).length c8) ∧ w11.cell? ⟨g9, 0, none⟩ = some (.slice A9 (partD u.pods m).length c9) := (by obtain ⟨-, -, -, -, ⟨q0, q1, q2, q3, q4⟩, -⟩ := HP13.out.k.facts; obtain ⟨⟨b0, b1, b2, b3, b4, b5⟩, b6, b7, b8, b9, b10⟩ := (HBN.out.below hb12 HBN.out.lt).cells10; obtain ⟨⟨a0, -, -⟩, ⟨a1, -, -⟩, -⟩ := HD13.out.cells; exact ⟨q0, q1, q2, q3, q4, b0, b1, b2, b3, b4, b5, b6, b7, b8, b9, a0, a1⟩); clear hb12))
        clear k10 HRM HPC HDC HBC HBN
        by_cases hc : rz = 0
        case neg =>
          have hcs := HN2.out hc
          have HE : Hid (doD s.nodes s.loads x t m = (noState, rz)) := Lib.hid ((H3.out (by trivial) (by trivial) (by rw [hcs]; exact hc)).trans (by rw [hcs]))
          have hcv := codeV_pos hc
          have HCV := Lib.hid hcv
          rw [hcv]
          have HC := Lib.hid hc
          clear hc hcv hcs
          go_wp2
          go_ret
          exact kdo_no HE.out HC.out HP13.out HB13.out (by rw [HCV.out]; rfl)
        have HM := HZ0.out hc
        rw [hc, codeV_zero]
        clear HZ0 HN2 hc
        go_upto_region 13 with fail
        generalize w11 = W13 at *
      all_goals
        have HTU := Lib.hid (doTurn_any HFF.out HM.out HMU.out HD13.out HP13.out.k (by have := HNN.out; omega))
        obtain ⟨⟨a0, a1, a2⟩, ⟨e0, e1, e2⟩, -⟩ := HD13.out.cells
        go_wp2_with fail
        refine HTU.out.mono ?_
        rintro e w13 ⟨rfl, hk13, ho13, hd13⟩
        have HK := Lib.hid hk13
        have HD := Lib.hid hd13
        have HO := Lib.hid ((Only.of_below (S := K.muts) HB13.out (fun i h1 h2 => by omega)).trans ho13)
        clear hk13 ho13 hd13 a0 a1 a2 e0 e1 e2 HTU HP13 HD13 HB13
        have HLO : Hid (∀ V, Below w13.heap.size w13 V → Calls Tryz.prog 48 #[.agg #[.slice K.a1 s.nodes.length K.c1, .slice K.a2 s.loads.length K.c2, .slice K.a3 s.pods.length K.c3], .slice A9 (partD u.pods m).length c9] V fun e w' => ∃ A' c', e = .returned (.slice A' (loadsD s.loads (partD u.pods m)).length c') ∧ Out 5 cellsL w' (loadsD s.loads (partD u.pods m)) A' c' ∧ (∀ a, A' = some a → V.heap.size ≤ a.block) ∧ Below V.heap.size V w') := fun V hV => doLoads_any (HK.out.below hV) (by have := HFF.out.l.len; omega) (HD.out.below hV)
        have HFA : Hid (∀ V A' c', Below w13.heap.size w13 V → Recs 5 cellsL V V.heap.size A' (loadsD s.loads (partD u.pods m)) → Calls Tryz.prog 32 #[.pointer (some ⟨K.kb, 0, none⟩), .slice A' (loadsD s.loads (partD u.pods m)).length c'] V fun e w' => e = .returned (codeV (codeS s.nodes s.loads x u)) ∧ Below V.heap.size V w') := fun V A' c' hV hr => doFault_any HFF.out HM.out (HK.out.below hV) A' c' (by have := HFF.out.l.len; omega) hr
        generalize hcz : codeS s.nodes s.loads x u = cz at *
        have HCZ := Lib.hid hcz
        clear hcz
        have k13 : w13.drew.cell? ⟨K.kb, 0, none⟩ = some (.slice K.a1 s.nodes.length K.c1) ∧ w13.drew.cell? ⟨K.kb, 1, none⟩ = some (.slice K.a2 s.loads.length K.c2) ∧ w13.drew.cell? ⟨K.kb, 2, none⟩ = some (.slice K.a3 s.pods.length K.c3) ∧ w13.drew.cell? ⟨g9, 0, none⟩ = some (.slice A9 (partD u.pods m).length c9) := (by obtain ⟨⟨r1, r2, r3⟩, -, -, -, -, -⟩ := HK.out.facts; obtain ⟨-, ⟨a1, -, -⟩, -⟩ := HD.out.cells; exact ⟨r1, r2, r3, a1⟩)
        go_upto_region 14 with fail
        go_region_held3 (fun w' => w'.cell? ⟨K.kb, 0, none⟩ = some (.slice K.a1 s.nodes.length K.c1) ∧ w'.cell? ⟨K.kb, 1, none⟩ = some (.slice K.a2 s.loads.length K.c2) ∧ w'.cell? ⟨K.kb, 2, none⟩ = some (.slice K.a3 s.pods.length K.c3) ∧ w'.cell? ⟨g9, 0, none⟩ = some (.slice A9 (partD u.pods m).length c9))
          (first | with_reducible assumption | ((repeat' apply And.intro) <;> with_reducible assumption) | go_keep)
          (first
            | (go_at_call 48; refine (HLO.out _ (Below.refl _ w13).drew).mono ?_; rintro e w14 ⟨A', c', rfl, hoA, hfA, hb14⟩; have HB14 : Hid (Below w13.heap.size w13 w14) := Lib.hid ((Below.refl _ w13).drew.trans hb14); have HRA := Lib.hid hoA.2.2.2; have k14 : w14.cell? ⟨K.kb, 0, none⟩ = some (.slice K.a1 s.nodes.length K.c1) ∧ w14.cell? ⟨K.kb, 1, none⟩ = some (.slice K.a2 s.loads.length K.c2) ∧ w14.cell? ⟨K.kb, 2, none⟩ = some (.slice K.a3 s.pods.length K.c3) ∧ w14.cell? ⟨g9, 0, none⟩ = some (.slice A9 (partD u.pods m).length c9) := (by obtain ⟨⟨r1, r2, r3⟩, -, -, -, -, -⟩ := (HK.out.below HB14.out).facts; obtain ⟨-, ⟨a1, -, -⟩, -⟩ := (HD.out.below HB14.out).cells; exact ⟨r1, r2, r3, a1⟩); clear hoA hfA hb14)
            | (go_at_call 32; refine (HFA.out _ _ _ HB14.out HRA.out).mono ?_; rintro e w15 ⟨rfl, hb15⟩; have HB15 : Hid (Below w13.heap.size w13 w15) := Lib.hid (HB14.out.trans (hb15.mono HB14.out.size)); have k15 : w15.cell? ⟨K.kb, 0, none⟩ = some (.slice K.a1 s.nodes.length K.c1) ∧ w15.cell? ⟨K.kb, 1, none⟩ = some (.slice K.a2 s.loads.length K.c2) ∧ w15.cell? ⟨K.kb, 2, none⟩ = some (.slice K.a3 s.pods.length K.c3) ∧ w15.cell? ⟨g9, 0, none⟩ = some (.slice A9 (partD u.pods m).length c9) := (by obtain ⟨⟨r1, r2, r3⟩, -, -, -, -, -⟩ := (HK.out.below HB15.out).facts; obtain ⟨-, ⟨a1, -, -⟩, -⟩ := (HD.out.below HB15.out).cells; exact ⟨r1, r2, r3, a1⟩); clear hb15))
        have HK5 := Lib.hid (HK.out.below HB15.out)
        have HD5 := Lib.hid (HD.out.below HB15.out)
        have HO5 := Lib.hid (HO.out.trans (Only.of_below (S := K.muts) HB15.out (fun i h1 h2 => by omega)))
        clear HLO HFA k13 k14 k15 HB14 HB15 HRA HK HD HO
        by_cases hc : cz = 0
        case neg =>
          have HE : Hid (doD s.nodes s.loads x t m = (noState, cz)) := Lib.hid (H3.out (by trivial) (by trivial) hc)
          have hcv := codeV_pos hc
          have HCV := Lib.hid hcv
          rw [hcv]
          have HC := Lib.hid hc
          have HTB := Lib.hid (doBack_any HFF.out HM.out HMU.out HD5.out HK5.out (by have := HNN.out; omega))
          obtain ⟨⟨a0, a1, a2⟩, ⟨e0, e1, e2⟩, -⟩ := HD5.out.cells
          clear hc hcv
          go_wp2_with fail
          refine HTB.out.mono ?_
          rintro e w16 ⟨rfl, hk16, ho16⟩
          have HK6 := Lib.hid hk16
          have HO6 := Lib.hid (HO5.out.trans ho16)
          clear hk16 ho16 a0 a1 a2 e0 e1 e2 HTB
          go_wp2
          go_ret
          exact kdo_back HP.out HE.out HC.out HK6.out HO6.out (by rw [HCV.out]; rfl)
        subst hc
        rw [codeV_zero]
      · have HAD : Hid (∀ i ∈ blk K.ad, i < w.heap.size) := fun i hi => HP.out.all_lt i (by simp only [blk, List.mem_map, Option.mem_toList] at hi; exact mem_all.2 (.inr (.inr (.inl hi))))
        have hrow := (HP.out.rest.only HP.out.k.sep HO5.out).row
        have HK6 := Lib.hid (HK5.out.below ((Below.refl _ w15).drew.alloc (Nat.le_refl _) (.cells #[.int .i64 m.kind, .int .i64 m.pod, .int .i64 m.node, .int .i64 m.over, .slice A8 (partD t.pods m).length c8, .int .i64 t.preempts, .int .i64 t.shifts] 103)))
        have HD6 := Lib.hid (HD5.out.below ((Below.refl _ w15).drew.alloc (Nat.le_refl _) (.cells #[.int .i64 m.kind, .int .i64 m.pod, .int .i64 m.node, .int .i64 m.over, .slice A8 (partD t.pods m).length c8, .int .i64 t.preempts, .int .i64 t.shifts] 103)))
        have HW6 : Hid (Below w15.heap.size w15 (w15.drew.alloc (.cells #[.int .i64 m.kind, .int .i64 m.pod, .int .i64 m.node, .int .i64 m.over, .slice A8 (partD t.pods m).length c8, .int .i64 t.preempts, .int .i64 t.shifts] 103))) := Lib.hid ((Below.refl _ w15).drew.alloc (Nat.le_refl _) (.cells #[.int .i64 m.kind, .int .i64 m.pod, .int .i64 m.node, .int .i64 m.over, .slice A8 (partD t.pods m).length c8, .int .i64 t.preempts, .int .i64 t.shifts] 103))
        have HR6 := Lib.hid (hrow.below HW6.out)
        obtain ⟨-, -, -, d9, -, -⟩ := HK5.out.facts
        have d8 : w15.drew.cell? ⟨K.kb, 9, none⟩ = some (.slice K.ad ds.length K.cd) := d9
        have d7 : (w15.drew.alloc (.cells #[.int .i64 m.kind, .int .i64 m.pod, .int .i64 m.node, .int .i64 m.over, .slice A8 (partD t.pods m).length c8, .int .i64 t.preempts, .int .i64 t.shifts] 103)).cell? ⟨K.kb, 9, none⟩ = some (.slice K.ad ds.length K.cd) := HK6.out.facts.2.2.2.1
        have d6 : (w15.alloc (.cells #[.int .i64 m.kind, .int .i64 m.pod, .int .i64 m.node, .int .i64 m.over, .slice A8 (partD t.pods m).length c8, .int .i64 t.preempts, .int .i64 t.shifts] 103)).cell? ⟨K.kb, 9, none⟩ = some (.slice K.ad ds.length K.cd) := d7
        have HL6 : Hid (∀ j u, [.int .i64 m.kind, .int .i64 m.pod, .int .i64 m.node, .int .i64 m.over, .slice A8 (partD t.pods m).length c8, .int .i64 t.preempts, .int .i64 t.shifts][j]? = some u → (w15.drew.alloc (.cells #[.int .i64 m.kind, .int .i64 m.pod, .int .i64 m.node, .int .i64 m.over, .slice A8 (partD t.pods m).length c8, .int .i64 t.preempts, .int .i64 t.shifts] 103)).cell? ⟨w15.heap.size, j, none⟩ = some u) := lit_cells w15.drew [.int .i64 m.kind, .int .i64 m.pod, .int .i64 m.node, .int .i64 m.over, .slice A8 (partD t.pods m).length c8, .int .i64 t.preempts, .int .i64 t.shifts] 103
        have k18 : w15.drew.cell? ⟨w.heap.size, 0, none⟩ = some (.int .i64 m.kind) ∧ w15.drew.cell? ⟨w.heap.size, 1, none⟩ = some (.int .i64 m.pod) ∧ w15.drew.cell? ⟨w.heap.size, 2, none⟩ = some (.int .i64 m.node) ∧ w15.drew.cell? ⟨w.heap.size, 3, none⟩ = some (.int .i64 m.over) ∧ w15.drew.cell? ⟨g8, 0, none⟩ = some (.slice A8 (partD t.pods m).length c8) ∧ w15.drew.cell? ⟨g8, 1, none⟩ = some (.int .i64 t.preempts) ∧ w15.drew.cell? ⟨g8, 2, none⟩ = some (.int .i64 t.shifts) := (by obtain ⟨⟨a0, a1, a2⟩, -, b0, b1, b2, b3⟩ := HD5.out.cells; exact ⟨b0, b1, b2, b3, a0, a1, a2⟩)
        have k19 : (w15.drew.alloc (.cells #[.int .i64 m.kind, .int .i64 m.pod, .int .i64 m.node, .int .i64 m.over, .slice A8 (partD t.pods m).length c8, .int .i64 t.preempts, .int .i64 t.shifts] 103)).cell? ⟨w.heap.size, 0, none⟩ = some (.int .i64 m.kind) ∧ (w15.drew.alloc (.cells #[.int .i64 m.kind, .int .i64 m.pod, .int .i64 m.node, .int .i64 m.over, .slice A8 (partD t.pods m).length c8, .int .i64 t.preempts, .int .i64 t.shifts] 103)).cell? ⟨w.heap.size, 1, none⟩ = some (.int .i64 m.pod) ∧ (w15.drew.alloc (.cells #[.int .i64 m.kind, .int .i64 m.pod, .int .i64 m.node, .int .i64 m.over, .slice A8 (partD t.pods m).length c8, .int .i64 t.preempts, .int .i64 t.shifts] 103)).cell? ⟨w.heap.size, 2, none⟩ = some (.int .i64 m.node) ∧ (w15.drew.alloc (.cells #[.int .i64 m.kind, .int .i64 m.pod, .int .i64 m.node, .int .i64 m.over, .slice A8 (partD t.pods m).length c8, .int .i64 t.preempts, .int .i64 t.shifts] 103)).cell? ⟨w.heap.size, 3, none⟩ = some (.int .i64 m.over) ∧ (w15.drew.alloc (.cells #[.int .i64 m.kind, .int .i64 m.pod, .int .i64 m.node, .int .i64 m.over, .slice A8 (partD t.pods m).length c8, .int .i64 t.preempts, .int .i64 t.shifts] 103)).cell? ⟨g8, 0, none⟩ = some (.slice A8 (partD t.pods m).length c8) ∧ (w15.drew.alloc (.cells #[.int .i64 m.kind, .int .i64 m.pod, .int .i64 m.node, .int .i64 m.over, .slice A8 (partD t.pods m).length c8, .int .i64 t.preempts, .int .i64 t.shifts] 103)).cell? ⟨g8, 1, none⟩ = some (.int .i64 t.preempts) ∧ (w15.drew.alloc (.cells #[.int .i64 m.kind, .int .i64 m.pod, .int .i64 m.node, .int .i64 m.over, .slice A8 (partD t.pods m).length c8, .int .i64 t.preempts, .int .i64 t.shifts] 103)).cell? ⟨g8, 2, none⟩ = some (.int .i64 t.shifts) := (by obtain ⟨⟨a0, a1, a2⟩, -, b0, b1, b2, b3⟩ := HD6.out.cells; exact ⟨b0, b1, b2, b3, a0, a1, a2⟩)
        clear hrow d9
        go_upto_region 18 with fail
        refine wp_region_held_drew (S := fun w' => w'.cell? ⟨w.heap.size, 0, none⟩ = some (.int .i64 m.kind) ∧ w'.cell? ⟨w.heap.size, 1, none⟩ = some (.int .i64 m.pod) ∧ w'.cell? ⟨w.heap.size, 2, none⟩ = some (.int .i64 m.node) ∧ w'.cell? ⟨w.heap.size, 3, none⟩ = some (.int .i64 m.over) ∧ w'.cell? ⟨g8, 0, none⟩ = some (.slice A8 (partD t.pods m).length c8) ∧ w'.cell? ⟨g8, 1, none⟩ = some (.int .i64 t.preempts) ∧ w'.cell? ⟨g8, 2, none⟩ = some (.int .i64 t.shifts)) (by kernel_rfl) (by exact k18) (fun hHeld => ?_)
        refine wpAnyH_take (i := 0) (v := ?v1_0) rfl (by kernel_rfl) (by kernel_rfl) (by kernel_rfl) (fun _ _ _ h => h) (Or.inl ⟨by rfl, ?y1_0⟩) (by assumption) ?r1_0
        case y1_0 => (intro w hSw; (try dsimp only at hSw); go_simp; try with_reducible rfl)
        try simp only [Act.put, List.setIfInBounds_toArray, List.set_cons_zero, List.set_cons_succ]
        refine wpAnyH_take (i := 1) (v := ?v2_1) rfl (by kernel_rfl) (by kernel_rfl) (by kernel_rfl) (fun _ _ _ h => h) (Or.inl ⟨by rfl, ?y2_1⟩) (by assumption) ?r2_1
        case y2_1 => (intro w hSw; (try dsimp only at hSw); go_simp; try with_reducible rfl)
        try simp only [Act.put, List.setIfInBounds_toArray, List.set_cons_zero, List.set_cons_succ]
        refine wpAnyH_take (i := 2) (v := ?v3_2) rfl (by kernel_rfl) (by kernel_rfl) (by kernel_rfl) (fun _ _ _ h => h) (Or.inl ⟨by rfl, ?y3_2⟩) (by assumption) ?r3_2
        case y3_2 => (intro w hSw; (try dsimp only at hSw); go_simp; try with_reducible rfl)
        try simp only [Act.put, List.setIfInBounds_toArray, List.set_cons_zero, List.set_cons_succ]
        refine wpAnyH_take (i := 3) (v := ?v4_3) rfl (by kernel_rfl) (by kernel_rfl) (by kernel_rfl) (fun _ _ _ h => h) (Or.inl ⟨by rfl, ?y4_3⟩) (by assumption) ?r4_3
        case y4_3 => (intro w hSw; (try dsimp only at hSw); go_simp; try with_reducible rfl)
        try simp only [Act.put, List.setIfInBounds_toArray, List.set_cons_zero, List.set_cons_succ]
        refine wpAnyH_take (i := 5) (v := ?v5_5) rfl (by kernel_rfl) (by kernel_rfl) (by kernel_rfl) (fun _ _ _ h => h) (Or.inl ⟨by rfl, ?y5_5⟩) (by assumption) ?r5_5
        case y5_5 => (intro w hSw; (try dsimp only at hSw); go_simp; try with_reducible rfl)
        try simp only [Act.put, List.setIfInBounds_toArray, List.set_cons_zero, List.set_cons_succ]
        refine wpAnyH_take (i := 6) (v := ?v6_6) rfl (by kernel_rfl) (by kernel_rfl) (by kernel_rfl) (fun _ _ _ h => h) (Or.inl ⟨by rfl, ?y6_6⟩) (by assumption) ?r6_6
        case y6_6 => (intro w hSw; (try dsimp only at hSw); go_simp; try with_reducible rfl)
        try simp only [Act.put, List.setIfInBounds_toArray, List.set_cons_zero, List.set_cons_succ]
        refine wpAnyH_take (i := 7) (v := ?v7_7) rfl (by kernel_rfl) (by kernel_rfl) (by kernel_rfl) (fun _ _ _ h => h) (Or.inl ⟨by rfl, ?y7_7⟩) (by assumption) ?r7_7
        case y7_7 => (intro w hSw; (try dsimp only at hSw); go_simp; try with_reducible rfl)
        try simp only [Act.put, List.setIfInBounds_toArray, List.set_cons_zero, List.set_cons_succ]
        refine wpAnyH_ready (rs := [4, 8]) (by kernel_rfl) (by simp) ?_
        refine AllReadyH.cons rfl (fun K' hK' => ?wayA1) (AllReadyH.cons rfl (fun K' hK' => ?wayB1) AllReadyH.nil)
        case wayA1 =>
          go_simp
          refine hK'.out _ _ (by exact k18) (fun hHeld1 => ?_)
          clear hK' K'
          try simp only [Act.put, List.setIfInBounds_toArray, List.set_cons_zero, List.set_cons_succ]
          refine wpAnyH_ready (rs := [8]) (by kernel_rfl) (by simp) ?_
          refine AllReadyH.cons rfl (fun K' hK' => ?_) AllReadyH.nil
          go_simp
          refine hK'.out _ _ (by exact k19) (fun hHeld2 => ?_)
          clear hK' K'
          try simp only [Act.put, List.setIfInBounds_toArray, List.set_cons_zero, List.set_cons_succ]
          refine wpAnyH_ready (rs := [9]) (by kernel_rfl) (by simp) ?_
          refine AllReadyH.cons rfl (fun K' hK' => ?_) AllReadyH.nil
          refine step_deed rfl (.tmp 100) (.tmp 104) rfl HR6.out HDS.out rfl (g0 := w15.heap.size) rfl [.int .i64 m.kind, .int .i64 m.pod, .int .i64 m.node, .int .i64 m.over, .slice A8 (partD t.pods m).length c8, .int .i64 t.preempts, .int .i64 t.shifts] (by intro u hu; simp only [List.mem_cons, List.not_mem_nil, or_false] at hu; rcases hu with rfl | rfl | rfl | rfl | rfl | rfl | rfl <;> rfl) rfl HL6.out ?_
          intro g cap w17 hown17 hgr17 hat17 hlt17
          have HD7 := Lib.hid (HD6.out.only (Only.grownS (S := blk K.ad) hgr17 (fun b e => by obtain ⟨a, ha, e⟩ := ownBlockD e; simp only [blk, List.mem_map, Option.mem_toList]; exact ⟨a, ha, e⟩)) HAD.out)
          have HOW := Lib.hid hown17
          have HGR := Lib.hid hgr17
          have HAT := Lib.hid hat17
          have k20 : w17.cell? ⟨w.heap.size, 0, none⟩ = some (.int .i64 m.kind) ∧ w17.cell? ⟨w.heap.size, 1, none⟩ = some (.int .i64 m.pod) ∧ w17.cell? ⟨w.heap.size, 2, none⟩ = some (.int .i64 m.node) ∧ w17.cell? ⟨w.heap.size, 3, none⟩ = some (.int .i64 m.over) ∧ w17.cell? ⟨g8, 0, none⟩ = some (.slice A8 (partD t.pods m).length c8) ∧ w17.cell? ⟨g8, 1, none⟩ = some (.int .i64 t.preempts) ∧ w17.cell? ⟨g8, 2, none⟩ = some (.int .i64 t.shifts) := (by obtain ⟨⟨a0, a1, a2⟩, -, b0, b1, b2, b3⟩ := HD7.out.cells; exact ⟨b0, b1, b2, b3, a0, a1, a2⟩)
          refine hK'.out _ _ (by exact k20) (fun hHeld3 => ?_)
          clear hK' K'
          try simp only [Act.put, List.setIfInBounds_toArray, List.set_cons_zero, List.set_cons_succ]
          have HBX := Lib.hid ((HK6.out.box).only (Only.grownS (S := blk K.ad) hgr17 (fun b e => by obtain ⟨a, ha, e⟩ := ownBlockD e; simp only [blk, List.mem_map, Option.mem_toList]; exact ⟨a, ha, e⟩)) (kb_ad HP.out.k.sep))
          have c9 := HBX.out.cell 9 _ rfl
          have z9 := HBX.out.frozen 9
          have k21 : (w17.setCell ⟨K.kb, 9, none⟩ (.slice (some ⟨g, 0, none⟩) (ds.length + 1) cap)).cell? ⟨w.heap.size, 0, none⟩ = some (.int .i64 m.kind) ∧ (w17.setCell ⟨K.kb, 9, none⟩ (.slice (some ⟨g, 0, none⟩) (ds.length + 1) cap)).cell? ⟨w.heap.size, 1, none⟩ = some (.int .i64 m.pod) ∧ (w17.setCell ⟨K.kb, 9, none⟩ (.slice (some ⟨g, 0, none⟩) (ds.length + 1) cap)).cell? ⟨w.heap.size, 2, none⟩ = some (.int .i64 m.node) ∧ (w17.setCell ⟨K.kb, 9, none⟩ (.slice (some ⟨g, 0, none⟩) (ds.length + 1) cap)).cell? ⟨w.heap.size, 3, none⟩ = some (.int .i64 m.over) ∧ (w17.setCell ⟨K.kb, 9, none⟩ (.slice (some ⟨g, 0, none⟩) (ds.length + 1) cap)).cell? ⟨g8, 0, none⟩ = some (.slice A8 (partD t.pods m).length c8) ∧ (w17.setCell ⟨K.kb, 9, none⟩ (.slice (some ⟨g, 0, none⟩) (ds.length + 1) cap)).cell? ⟨g8, 1, none⟩ = some (.int .i64 t.preempts) ∧ (w17.setCell ⟨K.kb, 9, none⟩ (.slice (some ⟨g, 0, none⟩) (ds.length + 1) cap)).cell? ⟨g8, 2, none⟩ = some (.int .i64 t.shifts) := (by obtain ⟨⟨a0, a1, a2⟩, -, b0, b1, b2, b3⟩ := (HD7.out.only ((Only.refl [K.kb] w17).setCell (p := ⟨K.kb, 9, none⟩) (List.mem_singleton.2 rfl) (.slice (some ⟨g, 0, none⟩) (ds.length + 1) cap)) (fun i hi => by rw [List.mem_singleton.1 hi]; exact HP.out.k.box.lt)).cells; exact ⟨b0, b1, b2, b3, a0, a1, a2⟩)
          clear hown17 hgr17 hat17
          refine wpAnyH_take (i := 10) (v := ?v8_10) rfl (by kernel_rfl) (by kernel_rfl) (by kernel_rfl) (fun _ _ _ h => h) (Or.inl ⟨by rfl, ?y8_10⟩) (by assumption) ?r8_10
          case y8_10 => (intro w hSw; (try dsimp only at hSw); go_simp; try with_reducible rfl)
          try simp only [Act.put, List.setIfInBounds_toArray, List.set_cons_zero, List.set_cons_succ]
          refine wpAnyH_take (i := 11) (v := ?v9_11) rfl (by kernel_rfl) (by kernel_rfl) (by kernel_rfl) (fun _ _ _ h => h) (Or.inl ⟨by rfl, ?y9_11⟩) (by assumption) ?r9_11
          case y9_11 => (intro w hSw; (try dsimp only at hSw); go_simp; try with_reducible rfl)
          try simp only [Act.put, List.setIfInBounds_toArray, List.set_cons_zero, List.set_cons_succ]
          refine wpAnyH_ready (rs := [12]) (by kernel_rfl) (by simp) ?_
          refine AllReadyH.cons rfl (fun K' hK' => ?_) AllReadyH.nil
          go_simp
          refine hK'.out _ _ (by exact k21) (fun hHeld4 => ?_)
          clear hK' K'
          try simp only [Act.put, List.setIfInBounds_toArray, List.set_cons_zero, List.set_cons_succ]
          refine wpAnyH_done (by kernel_rfl) ?_ _
          clear k18 k19 k20 k21 c9 z9 hHeld hHeld1 hHeld2 hHeld3 hHeld4
          go_wp2
          go_ret
          exact kdo_done HP.out HM.out (HPS.out (by trivial)) (H4.out (by trivial) (by trivial) (by trivial)) HCZ.out HK5.out HO5.out HD5.out HW6.out HOW.out HGR.out HAT.out rfl

        case wayB1 =>
          go_simp
          refine hK'.out _ _ (by exact k19) (fun hHeld1 => ?_)
          clear hK' K'
          try simp only [Act.put, List.setIfInBounds_toArray, List.set_cons_zero, List.set_cons_succ]
          refine wpAnyH_ready (rs := [4]) (by kernel_rfl) (by simp) ?_
          refine AllReadyH.cons rfl (fun K' hK' => ?_) AllReadyH.nil
          go_simp
          refine hK'.out _ _ (by exact k19) (fun hHeld2 => ?_)
          clear hK' K'
          try simp only [Act.put, List.setIfInBounds_toArray, List.set_cons_zero, List.set_cons_succ]
          refine wpAnyH_ready (rs := [9]) (by kernel_rfl) (by simp) ?_
          refine AllReadyH.cons rfl (fun K' hK' => ?_) AllReadyH.nil
          refine step_deed rfl (.tmp 100) (.tmp 104) rfl HR6.out HDS.out rfl (g0 := w15.heap.size) rfl [.int .i64 m.kind, .int .i64 m.pod, .int .i64 m.node, .int .i64 m.over, .slice A8 (partD t.pods m).length c8, .int .i64 t.preempts, .int .i64 t.shifts] (by intro u hu; simp only [List.mem_cons, List.not_mem_nil, or_false] at hu; rcases hu with rfl | rfl | rfl | rfl | rfl | rfl | rfl <;> rfl) rfl HL6.out ?_
          intro g cap w17 hown17 hgr17 hat17 hlt17
          have HD7 := Lib.hid (HD6.out.only (Only.grownS (S := blk K.ad) hgr17 (fun b e => by obtain ⟨a, ha, e⟩ := ownBlockD e; simp only [blk, List.mem_map, Option.mem_toList]; exact ⟨a, ha, e⟩)) HAD.out)
          have HOW := Lib.hid hown17
          have HGR := Lib.hid hgr17
          have HAT := Lib.hid hat17
          have k20 : w17.cell? ⟨w.heap.size, 0, none⟩ = some (.int .i64 m.kind) ∧ w17.cell? ⟨w.heap.size, 1, none⟩ = some (.int .i64 m.pod) ∧ w17.cell? ⟨w.heap.size, 2, none⟩ = some (.int .i64 m.node) ∧ w17.cell? ⟨w.heap.size, 3, none⟩ = some (.int .i64 m.over) ∧ w17.cell? ⟨g8, 0, none⟩ = some (.slice A8 (partD t.pods m).length c8) ∧ w17.cell? ⟨g8, 1, none⟩ = some (.int .i64 t.preempts) ∧ w17.cell? ⟨g8, 2, none⟩ = some (.int .i64 t.shifts) := (by obtain ⟨⟨a0, a1, a2⟩, -, b0, b1, b2, b3⟩ := HD7.out.cells; exact ⟨b0, b1, b2, b3, a0, a1, a2⟩)
          refine hK'.out _ _ (by exact k20) (fun hHeld3 => ?_)
          clear hK' K'
          try simp only [Act.put, List.setIfInBounds_toArray, List.set_cons_zero, List.set_cons_succ]
          have HBX := Lib.hid ((HK6.out.box).only (Only.grownS (S := blk K.ad) hgr17 (fun b e => by obtain ⟨a, ha, e⟩ := ownBlockD e; simp only [blk, List.mem_map, Option.mem_toList]; exact ⟨a, ha, e⟩)) (kb_ad HP.out.k.sep))
          have c9 := HBX.out.cell 9 _ rfl
          have z9 := HBX.out.frozen 9
          have k21 : (w17.setCell ⟨K.kb, 9, none⟩ (.slice (some ⟨g, 0, none⟩) (ds.length + 1) cap)).cell? ⟨w.heap.size, 0, none⟩ = some (.int .i64 m.kind) ∧ (w17.setCell ⟨K.kb, 9, none⟩ (.slice (some ⟨g, 0, none⟩) (ds.length + 1) cap)).cell? ⟨w.heap.size, 1, none⟩ = some (.int .i64 m.pod) ∧ (w17.setCell ⟨K.kb, 9, none⟩ (.slice (some ⟨g, 0, none⟩) (ds.length + 1) cap)).cell? ⟨w.heap.size, 2, none⟩ = some (.int .i64 m.node) ∧ (w17.setCell ⟨K.kb, 9, none⟩ (.slice (some ⟨g, 0, none⟩) (ds.length + 1) cap)).cell? ⟨w.heap.size, 3, none⟩ = some (.int .i64 m.over) ∧ (w17.setCell ⟨K.kb, 9, none⟩ (.slice (some ⟨g, 0, none⟩) (ds.length + 1) cap)).cell? ⟨g8, 0, none⟩ = some (.slice A8 (partD t.pods m).length c8) ∧ (w17.setCell ⟨K.kb, 9, none⟩ (.slice (some ⟨g, 0, none⟩) (ds.length + 1) cap)).cell? ⟨g8, 1, none⟩ = some (.int .i64 t.preempts) ∧ (w17.setCell ⟨K.kb, 9, none⟩ (.slice (some ⟨g, 0, none⟩) (ds.length + 1) cap)).cell? ⟨g8, 2, none⟩ = some (.int .i64 t.shifts) := (by obtain ⟨⟨a0, a1, a2⟩, -, b0, b1, b2, b3⟩ := (HD7.out.only ((Only.refl [K.kb] w17).setCell (p := ⟨K.kb, 9, none⟩) (List.mem_singleton.2 rfl) (.slice (some ⟨g, 0, none⟩) (ds.length + 1) cap)) (fun i hi => by rw [List.mem_singleton.1 hi]; exact HP.out.k.box.lt)).cells; exact ⟨b0, b1, b2, b3, a0, a1, a2⟩)
          clear hown17 hgr17 hat17
          refine wpAnyH_take (i := 10) (v := ?v10_10) rfl (by kernel_rfl) (by kernel_rfl) (by kernel_rfl) (fun _ _ _ h => h) (Or.inl ⟨by rfl, ?y10_10⟩) (by assumption) ?r10_10
          case y10_10 => (intro w hSw; (try dsimp only at hSw); go_simp; try with_reducible rfl)
          try simp only [Act.put, List.setIfInBounds_toArray, List.set_cons_zero, List.set_cons_succ]
          refine wpAnyH_take (i := 11) (v := ?v11_11) rfl (by kernel_rfl) (by kernel_rfl) (by kernel_rfl) (fun _ _ _ h => h) (Or.inl ⟨by rfl, ?y11_11⟩) (by assumption) ?r11_11
          case y11_11 => (intro w hSw; (try dsimp only at hSw); go_simp; try with_reducible rfl)
          try simp only [Act.put, List.setIfInBounds_toArray, List.set_cons_zero, List.set_cons_succ]
          refine wpAnyH_ready (rs := [12]) (by kernel_rfl) (by simp) ?_
          refine AllReadyH.cons rfl (fun K' hK' => ?_) AllReadyH.nil
          go_simp
          refine hK'.out _ _ (by exact k21) (fun hHeld4 => ?_)
          clear hK' K'
          try simp only [Act.put, List.setIfInBounds_toArray, List.set_cons_zero, List.set_cons_succ]
          refine wpAnyH_done (by kernel_rfl) ?_ _
          clear k18 k19 k20 k21 c9 z9 hHeld hHeld1 hHeld2 hHeld3 hHeld4
          go_wp2
          go_ret
          exact kdo_done HP.out HM.out (HPS.out (by trivial)) (H4.out (by trivial) (by trivial) (by trivial)) HCZ.out HK5.out HO5.out HD5.out HW6.out HOW.out HGR.out HAT.out rfl

      · have HAD : Hid (∀ i ∈ blk K.ad, i < w.heap.size) := fun i hi => HP.out.all_lt i (by simp only [blk, List.mem_map, Option.mem_toList] at hi; exact mem_all.2 (.inr (.inr (.inl hi))))
        have hrow := (HP.out.rest.only HP.out.k.sep HO5.out).row
        have HK6 := Lib.hid (HK5.out.below ((Below.refl _ w15).drew.alloc (Nat.le_refl _) (.cells #[.int .i64 m.kind, .int .i64 m.pod, .int .i64 m.node, .int .i64 m.over, .slice A8 (partD t.pods m).length c8, .int .i64 t.preempts, .int .i64 t.shifts] 103)))
        have HD6 := Lib.hid (HD5.out.below ((Below.refl _ w15).drew.alloc (Nat.le_refl _) (.cells #[.int .i64 m.kind, .int .i64 m.pod, .int .i64 m.node, .int .i64 m.over, .slice A8 (partD t.pods m).length c8, .int .i64 t.preempts, .int .i64 t.shifts] 103)))
        have HW6 : Hid (Below w15.heap.size w15 (w15.drew.alloc (.cells #[.int .i64 m.kind, .int .i64 m.pod, .int .i64 m.node, .int .i64 m.over, .slice A8 (partD t.pods m).length c8, .int .i64 t.preempts, .int .i64 t.shifts] 103))) := Lib.hid ((Below.refl _ w15).drew.alloc (Nat.le_refl _) (.cells #[.int .i64 m.kind, .int .i64 m.pod, .int .i64 m.node, .int .i64 m.over, .slice A8 (partD t.pods m).length c8, .int .i64 t.preempts, .int .i64 t.shifts] 103))
        have HR6 := Lib.hid (hrow.below HW6.out)
        obtain ⟨-, -, -, d9, -, -⟩ := HK5.out.facts
        have d8 : w15.drew.cell? ⟨K.kb, 9, none⟩ = some (.slice K.ad ds.length K.cd) := d9
        have d7 : (w15.drew.alloc (.cells #[.int .i64 m.kind, .int .i64 m.pod, .int .i64 m.node, .int .i64 m.over, .slice A8 (partD t.pods m).length c8, .int .i64 t.preempts, .int .i64 t.shifts] 103)).cell? ⟨K.kb, 9, none⟩ = some (.slice K.ad ds.length K.cd) := HK6.out.facts.2.2.2.1
        have d6 : (w15.alloc (.cells #[.int .i64 m.kind, .int .i64 m.pod, .int .i64 m.node, .int .i64 m.over, .slice A8 (partD t.pods m).length c8, .int .i64 t.preempts, .int .i64 t.shifts] 103)).cell? ⟨K.kb, 9, none⟩ = some (.slice K.ad ds.length K.cd) := d7
        have HL6 : Hid (∀ j u, [.int .i64 m.kind, .int .i64 m.pod, .int .i64 m.node, .int .i64 m.over, .slice A8 (partD t.pods m).length c8, .int .i64 t.preempts, .int .i64 t.shifts][j]? = some u → (w15.drew.alloc (.cells #[.int .i64 m.kind, .int .i64 m.pod, .int .i64 m.node, .int .i64 m.over, .slice A8 (partD t.pods m).length c8, .int .i64 t.preempts, .int .i64 t.shifts] 103)).cell? ⟨w15.heap.size, j, none⟩ = some u) := lit_cells w15.drew [.int .i64 m.kind, .int .i64 m.pod, .int .i64 m.node, .int .i64 m.over, .slice A8 (partD t.pods m).length c8, .int .i64 t.preempts, .int .i64 t.shifts] 103
        have k18 : w15.drew.cell? ⟨w.heap.size, 0, none⟩ = some (.int .i64 m.kind) ∧ w15.drew.cell? ⟨w.heap.size, 1, none⟩ = some (.int .i64 m.pod) ∧ w15.drew.cell? ⟨w.heap.size, 2, none⟩ = some (.int .i64 m.node) ∧ w15.drew.cell? ⟨w.heap.size, 3, none⟩ = some (.int .i64 m.over) ∧ w15.drew.cell? ⟨g8, 0, none⟩ = some (.slice A8 (partD t.pods m).length c8) ∧ w15.drew.cell? ⟨g8, 1, none⟩ = some (.int .i64 t.preempts) ∧ w15.drew.cell? ⟨g8, 2, none⟩ = some (.int .i64 t.shifts) := (by obtain ⟨⟨a0, a1, a2⟩, -, b0, b1, b2, b3⟩ := HD5.out.cells; exact ⟨b0, b1, b2, b3, a0, a1, a2⟩)
        have k19 : (w15.drew.alloc (.cells #[.int .i64 m.kind, .int .i64 m.pod, .int .i64 m.node, .int .i64 m.over, .slice A8 (partD t.pods m).length c8, .int .i64 t.preempts, .int .i64 t.shifts] 103)).cell? ⟨w.heap.size, 0, none⟩ = some (.int .i64 m.kind) ∧ (w15.drew.alloc (.cells #[.int .i64 m.kind, .int .i64 m.pod, .int .i64 m.node, .int .i64 m.over, .slice A8 (partD t.pods m).length c8, .int .i64 t.preempts, .int .i64 t.shifts] 103)).cell? ⟨w.heap.size, 1, none⟩ = some (.int .i64 m.pod) ∧ (w15.drew.alloc (.cells #[.int .i64 m.kind, .int .i64 m.pod, .int .i64 m.node, .int .i64 m.over, .slice A8 (partD t.pods m).length c8, .int .i64 t.preempts, .int .i64 t.shifts] 103)).cell? ⟨w.heap.size, 2, none⟩ = some (.int .i64 m.node) ∧ (w15.drew.alloc (.cells #[.int .i64 m.kind, .int .i64 m.pod, .int .i64 m.node, .int .i64 m.over, .slice A8 (partD t.pods m).length c8, .int .i64 t.preempts, .int .i64 t.shifts] 103)).cell? ⟨w.heap.size, 3, none⟩ = some (.int .i64 m.over) ∧ (w15.drew.alloc (.cells #[.int .i64 m.kind, .int .i64 m.pod, .int .i64 m.node, .int .i64 m.over, .slice A8 (partD t.pods m).length c8, .int .i64 t.preempts, .int .i64 t.shifts] 103)).cell? ⟨g8, 0, none⟩ = some (.slice A8 (partD t.pods m).length c8) ∧ (w15.drew.alloc (.cells #[.int .i64 m.kind, .int .i64 m.pod, .int .i64 m.node, .int .i64 m.over, .slice A8 (partD t.pods m).length c8, .int .i64 t.preempts, .int .i64 t.shifts] 103)).cell? ⟨g8, 1, none⟩ = some (.int .i64 t.preempts) ∧ (w15.drew.alloc (.cells #[.int .i64 m.kind, .int .i64 m.pod, .int .i64 m.node, .int .i64 m.over, .slice A8 (partD t.pods m).length c8, .int .i64 t.preempts, .int .i64 t.shifts] 103)).cell? ⟨g8, 2, none⟩ = some (.int .i64 t.shifts) := (by obtain ⟨⟨a0, a1, a2⟩, -, b0, b1, b2, b3⟩ := HD6.out.cells; exact ⟨b0, b1, b2, b3, a0, a1, a2⟩)
        clear hrow d9
        go_upto_region 18 with fail
        refine wp_region_held_drew (S := fun w' => w'.cell? ⟨w.heap.size, 0, none⟩ = some (.int .i64 m.kind) ∧ w'.cell? ⟨w.heap.size, 1, none⟩ = some (.int .i64 m.pod) ∧ w'.cell? ⟨w.heap.size, 2, none⟩ = some (.int .i64 m.node) ∧ w'.cell? ⟨w.heap.size, 3, none⟩ = some (.int .i64 m.over) ∧ w'.cell? ⟨g8, 0, none⟩ = some (.slice A8 (partD t.pods m).length c8) ∧ w'.cell? ⟨g8, 1, none⟩ = some (.int .i64 t.preempts) ∧ w'.cell? ⟨g8, 2, none⟩ = some (.int .i64 t.shifts)) (by kernel_rfl) (by exact k18) (fun hHeld => ?_)
        refine wpAnyH_take (i := 0) (v := ?v12_0) rfl (by kernel_rfl) (by kernel_rfl) (by kernel_rfl) (fun _ _ _ h => h) (Or.inl ⟨by rfl, ?y12_0⟩) (by assumption) ?r12_0
        case y12_0 => (intro w hSw; (try dsimp only at hSw); go_simp; try with_reducible rfl)
        try simp only [Act.put, List.setIfInBounds_toArray, List.set_cons_zero, List.set_cons_succ]
        refine wpAnyH_take (i := 1) (v := ?v13_1) rfl (by kernel_rfl) (by kernel_rfl) (by kernel_rfl) (fun _ _ _ h => h) (Or.inl ⟨by rfl, ?y13_1⟩) (by assumption) ?r13_1
        case y13_1 => (intro w hSw; (try dsimp only at hSw); go_simp; try with_reducible rfl)
        try simp only [Act.put, List.setIfInBounds_toArray, List.set_cons_zero, List.set_cons_succ]
        refine wpAnyH_take (i := 2) (v := ?v14_2) rfl (by kernel_rfl) (by kernel_rfl) (by kernel_rfl) (fun _ _ _ h => h) (Or.inl ⟨by rfl, ?y14_2⟩) (by assumption) ?r14_2
        case y14_2 => (intro w hSw; (try dsimp only at hSw); go_simp; try with_reducible rfl)
        try simp only [Act.put, List.setIfInBounds_toArray, List.set_cons_zero, List.set_cons_succ]
        refine wpAnyH_take (i := 3) (v := ?v15_3) rfl (by kernel_rfl) (by kernel_rfl) (by kernel_rfl) (fun _ _ _ h => h) (Or.inl ⟨by rfl, ?y15_3⟩) (by assumption) ?r15_3
        case y15_3 => (intro w hSw; (try dsimp only at hSw); go_simp; try with_reducible rfl)
        try simp only [Act.put, List.setIfInBounds_toArray, List.set_cons_zero, List.set_cons_succ]
        refine wpAnyH_take (i := 5) (v := ?v16_5) rfl (by kernel_rfl) (by kernel_rfl) (by kernel_rfl) (fun _ _ _ h => h) (Or.inl ⟨by rfl, ?y16_5⟩) (by assumption) ?r16_5
        case y16_5 => (intro w hSw; (try dsimp only at hSw); go_simp; try with_reducible rfl)
        try simp only [Act.put, List.setIfInBounds_toArray, List.set_cons_zero, List.set_cons_succ]
        refine wpAnyH_take (i := 6) (v := ?v17_6) rfl (by kernel_rfl) (by kernel_rfl) (by kernel_rfl) (fun _ _ _ h => h) (Or.inl ⟨by rfl, ?y17_6⟩) (by assumption) ?r17_6
        case y17_6 => (intro w hSw; (try dsimp only at hSw); go_simp; try with_reducible rfl)
        try simp only [Act.put, List.setIfInBounds_toArray, List.set_cons_zero, List.set_cons_succ]
        refine wpAnyH_take (i := 7) (v := ?v18_7) rfl (by kernel_rfl) (by kernel_rfl) (by kernel_rfl) (fun _ _ _ h => h) (Or.inl ⟨by rfl, ?y18_7⟩) (by assumption) ?r18_7
        case y18_7 => (intro w hSw; (try dsimp only at hSw); go_simp; try with_reducible rfl)
        try simp only [Act.put, List.setIfInBounds_toArray, List.set_cons_zero, List.set_cons_succ]
        refine wpAnyH_ready (rs := [4, 8]) (by kernel_rfl) (by simp) ?_
        refine AllReadyH.cons rfl (fun K' hK' => ?wayA2) (AllReadyH.cons rfl (fun K' hK' => ?wayB2) AllReadyH.nil)
        case wayA2 =>
          go_simp
          refine hK'.out _ _ (by exact k18) (fun hHeld1 => ?_)
          clear hK' K'
          try simp only [Act.put, List.setIfInBounds_toArray, List.set_cons_zero, List.set_cons_succ]
          refine wpAnyH_ready (rs := [8]) (by kernel_rfl) (by simp) ?_
          refine AllReadyH.cons rfl (fun K' hK' => ?_) AllReadyH.nil
          go_simp
          refine hK'.out _ _ (by exact k19) (fun hHeld2 => ?_)
          clear hK' K'
          try simp only [Act.put, List.setIfInBounds_toArray, List.set_cons_zero, List.set_cons_succ]
          refine wpAnyH_ready (rs := [9]) (by kernel_rfl) (by simp) ?_
          refine AllReadyH.cons rfl (fun K' hK' => ?_) AllReadyH.nil
          refine step_deed rfl (.tmp 100) (.tmp 104) rfl HR6.out HDS.out rfl (g0 := w15.heap.size) rfl [.int .i64 m.kind, .int .i64 m.pod, .int .i64 m.node, .int .i64 m.over, .slice A8 (partD t.pods m).length c8, .int .i64 t.preempts, .int .i64 t.shifts] (by intro u hu; simp only [List.mem_cons, List.not_mem_nil, or_false] at hu; rcases hu with rfl | rfl | rfl | rfl | rfl | rfl | rfl <;> rfl) rfl HL6.out ?_
          intro g cap w17 hown17 hgr17 hat17 hlt17
          have HD7 := Lib.hid (HD6.out.only (Only.grownS (S := blk K.ad) hgr17 (fun b e => by obtain ⟨a, ha, e⟩ := ownBlockD e; simp only [blk, List.mem_map, Option.mem_toList]; exact ⟨a, ha, e⟩)) HAD.out)
          have HOW := Lib.hid hown17
          have HGR := Lib.hid hgr17
          have HAT := Lib.hid hat17
          have k20 : w17.cell? ⟨w.heap.size, 0, none⟩ = some (.int .i64 m.kind) ∧ w17.cell? ⟨w.heap.size, 1, none⟩ = some (.int .i64 m.pod) ∧ w17.cell? ⟨w.heap.size, 2, none⟩ = some (.int .i64 m.node) ∧ w17.cell? ⟨w.heap.size, 3, none⟩ = some (.int .i64 m.over) ∧ w17.cell? ⟨g8, 0, none⟩ = some (.slice A8 (partD t.pods m).length c8) ∧ w17.cell? ⟨g8, 1, none⟩ = some (.int .i64 t.preempts) ∧ w17.cell? ⟨g8, 2, none⟩ = some (.int .i64 t.shifts) := (by obtain ⟨⟨a0, a1, a2⟩, -, b0, b1, b2, b3⟩ := HD7.out.cells; exact ⟨b0, b1, b2, b3, a0, a1, a2⟩)
          refine hK'.out _ _ (by exact k20) (fun hHeld3 => ?_)
          clear hK' K'
          try simp only [Act.put, List.setIfInBounds_toArray, List.set_cons_zero, List.set_cons_succ]
          have HBX := Lib.hid ((HK6.out.box).only (Only.grownS (S := blk K.ad) hgr17 (fun b e => by obtain ⟨a, ha, e⟩ := ownBlockD e; simp only [blk, List.mem_map, Option.mem_toList]; exact ⟨a, ha, e⟩)) (kb_ad HP.out.k.sep))
          have c9 := HBX.out.cell 9 _ rfl
          have z9 := HBX.out.frozen 9
          have k21 : (w17.setCell ⟨K.kb, 9, none⟩ (.slice (some ⟨g, 0, none⟩) (ds.length + 1) cap)).cell? ⟨w.heap.size, 0, none⟩ = some (.int .i64 m.kind) ∧ (w17.setCell ⟨K.kb, 9, none⟩ (.slice (some ⟨g, 0, none⟩) (ds.length + 1) cap)).cell? ⟨w.heap.size, 1, none⟩ = some (.int .i64 m.pod) ∧ (w17.setCell ⟨K.kb, 9, none⟩ (.slice (some ⟨g, 0, none⟩) (ds.length + 1) cap)).cell? ⟨w.heap.size, 2, none⟩ = some (.int .i64 m.node) ∧ (w17.setCell ⟨K.kb, 9, none⟩ (.slice (some ⟨g, 0, none⟩) (ds.length + 1) cap)).cell? ⟨w.heap.size, 3, none⟩ = some (.int .i64 m.over) ∧ (w17.setCell ⟨K.kb, 9, none⟩ (.slice (some ⟨g, 0, none⟩) (ds.length + 1) cap)).cell? ⟨g8, 0, none⟩ = some (.slice A8 (partD t.pods m).length c8) ∧ (w17.setCell ⟨K.kb, 9, none⟩ (.slice (some ⟨g, 0, none⟩) (ds.length + 1) cap)).cell? ⟨g8, 1, none⟩ = some (.int .i64 t.preempts) ∧ (w17.setCell ⟨K.kb, 9, none⟩ (.slice (some ⟨g, 0, none⟩) (ds.length + 1) cap)).cell? ⟨g8, 2, none⟩ = some (.int .i64 t.shifts) := (by obtain ⟨⟨a0, a1, a2⟩, -, b0, b1, b2, b3⟩ := (HD7.out.only ((Only.refl [K.kb] w17).setCell (p := ⟨K.kb, 9, none⟩) (List.mem_singleton.2 rfl) (.slice (some ⟨g, 0, none⟩) (ds.length + 1) cap)) (fun i hi => by rw [List.mem_singleton.1 hi]; exact HP.out.k.box.lt)).cells; exact ⟨b0, b1, b2, b3, a0, a1, a2⟩)
          clear hown17 hgr17 hat17
          refine wpAnyH_take (i := 10) (v := ?v19_10) rfl (by kernel_rfl) (by kernel_rfl) (by kernel_rfl) (fun _ _ _ h => h) (Or.inl ⟨by rfl, ?y19_10⟩) (by assumption) ?r19_10
          case y19_10 => (intro w hSw; (try dsimp only at hSw); go_simp; try with_reducible rfl)
          try simp only [Act.put, List.setIfInBounds_toArray, List.set_cons_zero, List.set_cons_succ]
          refine wpAnyH_take (i := 11) (v := ?v20_11) rfl (by kernel_rfl) (by kernel_rfl) (by kernel_rfl) (fun _ _ _ h => h) (Or.inl ⟨by rfl, ?y20_11⟩) (by assumption) ?r20_11
          case y20_11 => (intro w hSw; (try dsimp only at hSw); go_simp; try with_reducible rfl)
          try simp only [Act.put, List.setIfInBounds_toArray, List.set_cons_zero, List.set_cons_succ]
          refine wpAnyH_ready (rs := [12]) (by kernel_rfl) (by simp) ?_
          refine AllReadyH.cons rfl (fun K' hK' => ?_) AllReadyH.nil
          go_simp
          refine hK'.out _ _ (by exact k21) (fun hHeld4 => ?_)
          clear hK' K'
          try simp only [Act.put, List.setIfInBounds_toArray, List.set_cons_zero, List.set_cons_succ]
          refine wpAnyH_done (by kernel_rfl) ?_ _
          clear k18 k19 k20 k21 c9 z9 hHeld hHeld1 hHeld2 hHeld3 hHeld4
          go_wp2
          go_ret
          exact kdo_done HP.out HM.out (HPS.out (by trivial)) (H4.out (by trivial) (by trivial) (by trivial)) HCZ.out HK5.out HO5.out HD5.out HW6.out HOW.out HGR.out HAT.out rfl

        case wayB2 =>
          go_simp
          refine hK'.out _ _ (by exact k19) (fun hHeld1 => ?_)
          clear hK' K'
          try simp only [Act.put, List.setIfInBounds_toArray, List.set_cons_zero, List.set_cons_succ]
          refine wpAnyH_ready (rs := [4]) (by kernel_rfl) (by simp) ?_
          refine AllReadyH.cons rfl (fun K' hK' => ?_) AllReadyH.nil
          go_simp
          refine hK'.out _ _ (by exact k19) (fun hHeld2 => ?_)
          clear hK' K'
          try simp only [Act.put, List.setIfInBounds_toArray, List.set_cons_zero, List.set_cons_succ]
          refine wpAnyH_ready (rs := [9]) (by kernel_rfl) (by simp) ?_
          refine AllReadyH.cons rfl (fun K' hK' => ?_) AllReadyH.nil
          refine step_deed rfl (.tmp 100) (.tmp 104) rfl HR6.out HDS.out rfl (g0 := w15.heap.size) rfl [.int .i64 m.kind, .int .i64 m.pod, .int .i64 m.node, .int .i64 m.over, .slice A8 (partD t.pods m).length c8, .int .i64 t.preempts, .int .i64 t.shifts] (by intro u hu; simp only [List.mem_cons, List.not_mem_nil, or_false] at hu; rcases hu with rfl | rfl | rfl | rfl | rfl | rfl | rfl <;> rfl) rfl HL6.out ?_
          intro g cap w17 hown17 hgr17 hat17 hlt17
          have HD7 := Lib.hid (HD6.out.only (Only.grownS (S := blk K.ad) hgr17 (fun b e => by obtain ⟨a, ha, e⟩ := ownBlockD e; simp only [blk, List.mem_map, Option.mem_toList]; exact ⟨a, ha, e⟩)) HAD.out)
          have HOW := Lib.hid hown17
          have HGR := Lib.hid hgr17
          have HAT := Lib.hid hat17
          have k20 : w17.cell? ⟨w.heap.size, 0, none⟩ = some (.int .i64 m.kind) ∧ w17.cell? ⟨w.heap.size, 1, none⟩ = some (.int .i64 m.pod) ∧ w17.cell? ⟨w.heap.size, 2, none⟩ = some (.int .i64 m.node) ∧ w17.cell? ⟨w.heap.size, 3, none⟩ = some (.int .i64 m.over) ∧ w17.cell? ⟨g8, 0, none⟩ = some (.slice A8 (partD t.pods m).length c8) ∧ w17.cell? ⟨g8, 1, none⟩ = some (.int .i64 t.preempts) ∧ w17.cell? ⟨g8, 2, none⟩ = some (.int .i64 t.shifts) := (by obtain ⟨⟨a0, a1, a2⟩, -, b0, b1, b2, b3⟩ := HD7.out.cells; exact ⟨b0, b1, b2, b3, a0, a1, a2⟩)
          refine hK'.out _ _ (by exact k20) (fun hHeld3 => ?_)
          clear hK' K'
          try simp only [Act.put, List.setIfInBounds_toArray, List.set_cons_zero, List.set_cons_succ]
          have HBX := Lib.hid ((HK6.out.box).only (Only.grownS (S := blk K.ad) hgr17 (fun b e => by obtain ⟨a, ha, e⟩ := ownBlockD e; simp only [blk, List.mem_map, Option.mem_toList]; exact ⟨a, ha, e⟩)) (kb_ad HP.out.k.sep))
          have c9 := HBX.out.cell 9 _ rfl
          have z9 := HBX.out.frozen 9
          have k21 : (w17.setCell ⟨K.kb, 9, none⟩ (.slice (some ⟨g, 0, none⟩) (ds.length + 1) cap)).cell? ⟨w.heap.size, 0, none⟩ = some (.int .i64 m.kind) ∧ (w17.setCell ⟨K.kb, 9, none⟩ (.slice (some ⟨g, 0, none⟩) (ds.length + 1) cap)).cell? ⟨w.heap.size, 1, none⟩ = some (.int .i64 m.pod) ∧ (w17.setCell ⟨K.kb, 9, none⟩ (.slice (some ⟨g, 0, none⟩) (ds.length + 1) cap)).cell? ⟨w.heap.size, 2, none⟩ = some (.int .i64 m.node) ∧ (w17.setCell ⟨K.kb, 9, none⟩ (.slice (some ⟨g, 0, none⟩) (ds.length + 1) cap)).cell? ⟨w.heap.size, 3, none⟩ = some (.int .i64 m.over) ∧ (w17.setCell ⟨K.kb, 9, none⟩ (.slice (some ⟨g, 0, none⟩) (ds.length + 1) cap)).cell? ⟨g8, 0, none⟩ = some (.slice A8 (partD t.pods m).length c8) ∧ (w17.setCell ⟨K.kb, 9, none⟩ (.slice (some ⟨g, 0, none⟩) (ds.length + 1) cap)).cell? ⟨g8, 1, none⟩ = some (.int .i64 t.preempts) ∧ (w17.setCell ⟨K.kb, 9, none⟩ (.slice (some ⟨g, 0, none⟩) (ds.length + 1) cap)).cell? ⟨g8, 2, none⟩ = some (.int .i64 t.shifts) := (by obtain ⟨⟨a0, a1, a2⟩, -, b0, b1, b2, b3⟩ := (HD7.out.only ((Only.refl [K.kb] w17).setCell (p := ⟨K.kb, 9, none⟩) (List.mem_singleton.2 rfl) (.slice (some ⟨g, 0, none⟩) (ds.length + 1) cap)) (fun i hi => by rw [List.mem_singleton.1 hi]; exact HP.out.k.box.lt)).cells; exact ⟨b0, b1, b2, b3, a0, a1, a2⟩)
          clear hown17 hgr17 hat17
          refine wpAnyH_take (i := 10) (v := ?v21_10) rfl (by kernel_rfl) (by kernel_rfl) (by kernel_rfl) (fun _ _ _ h => h) (Or.inl ⟨by rfl, ?y21_10⟩) (by assumption) ?r21_10
          case y21_10 => (intro w hSw; (try dsimp only at hSw); go_simp; try with_reducible rfl)
          try simp only [Act.put, List.setIfInBounds_toArray, List.set_cons_zero, List.set_cons_succ]
          refine wpAnyH_take (i := 11) (v := ?v22_11) rfl (by kernel_rfl) (by kernel_rfl) (by kernel_rfl) (fun _ _ _ h => h) (Or.inl ⟨by rfl, ?y22_11⟩) (by assumption) ?r22_11
          case y22_11 => (intro w hSw; (try dsimp only at hSw); go_simp; try with_reducible rfl)
          try simp only [Act.put, List.setIfInBounds_toArray, List.set_cons_zero, List.set_cons_succ]
          refine wpAnyH_ready (rs := [12]) (by kernel_rfl) (by simp) ?_
          refine AllReadyH.cons rfl (fun K' hK' => ?_) AllReadyH.nil
          go_simp
          refine hK'.out _ _ (by exact k21) (fun hHeld4 => ?_)
          clear hK' K'
          try simp only [Act.put, List.setIfInBounds_toArray, List.set_cons_zero, List.set_cons_succ]
          refine wpAnyH_done (by kernel_rfl) ?_ _
          clear k18 k19 k20 k21 c9 z9 hHeld hHeld1 hHeld2 hHeld3 hHeld4
          go_wp2
          go_ret
          exact kdo_done HP.out HM.out (HPS.out (by trivial)) (H4.out (by trivial) (by trivial) (by trivial)) HCZ.out HK5.out HO5.out HD5.out HW6.out HOW.out HGR.out HAT.out rfl
end Go.Proofs.YtpfjeoldgcepnaaGreatDoor
