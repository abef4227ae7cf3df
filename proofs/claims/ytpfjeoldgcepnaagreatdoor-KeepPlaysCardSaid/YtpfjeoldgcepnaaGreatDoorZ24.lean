/- Joined texts, part 24: XK1 XK2. -/
import Derived.Test.YtpfjeoldgcepnaaGreatDoorZ23
import Derived.BigQuiet
import Derived.Deep.RegionHeld3

/- The reference's Make of layer 5, at kind 1. -/
namespace Go.Proofs.YtpfjeoldgcepnaaGreatDoor
set_option linter.unusedSimpArgs false
open Go.RowKit
set_option linter.unusedVariables false

set_option maxHeartbeats 25600000 in
set_option maxRecDepth 100000 in
theorem rMake05_1 (ns : List NodeD) (x : List WantD) (t : StateD) (pod node over : Int) (A1 A2 A3 A A4 : Option Addr) (n1 c1 n2 c2 n3 c3 n c n4 c4 : Nat) (v1 v2 : Value) (w : World)
    (hn1 : n1 = ns.length) (hl1 : n1 ≤ 400) (hr1 : Recs 10 cellsN w w.heap.size A1 ns) (hn : n = x.length) (hl : n ≤ 400) (hr : Recs 6 cellsW w w.heap.size A x) (hn4 : n4 = t.pods.length) (hl4 : n4 ≤ 400) (hc4 : n4 ≤ c4) (hr4 : Recs 8 cellsP w w.heap.size A4 t.pods) :
    Calls Tryz.prog 43 #[.agg #[.slice A1 n1 c1, .slice A2 n2 c2, .slice A3 n3 c3], .agg #[.slice A n c, v1, v2], .agg #[.slice A4 n4 c4, .int .i64 t.preempts, .int .i64 t.shifts], .agg #[.int .i64 1, .int .i64 pod, .int .i64 node, .int .i64 over]] w (RMakeTo (makeD ns x t ⟨1, pod, node, over⟩) w) := by
  have M0 := Mk.new w [.slice A1 n1 c1, .slice A2 n2 c2, .slice A3 n3 c3] [.slice A n c, v1, v2] [.slice A4 n4 c4, .int .i64 t.preempts, .int .i64 t.shifts] [.int .i64 1, .int .i64 pod, .int .i64 node, .int .i64 over] 26 29 42 48 42
  have HRP := Lib.hid (fun (V : World) (hV : Below w.heap.size w V) => (hr4.below hV (Nat.le_refl _)).more hV.size)
  have HRW := Lib.hid (fun (V : World) (hV : Below w.heap.size w V) => (hr.below hV (Nat.le_refl _)).more hV.size)
  have HPL := Lib.hid (fun (V : World) (hV : Below w.heap.size w V) (id : Int) => rPlace05_any t.pods id A4 n4 c4 V.heap.size (.int .i64 t.preempts) (.int .i64 t.shifts) V hn4 (by omega) (Nat.le_refl _) (HRP.out V hV))
  have HNO := Lib.hid (fun (V : World) (hV : Below w.heap.size w V) (id : Int) => rNode_any ns id A1 n1 c1 V.heap.size (.slice A2 n2 c2) (.slice A3 n3 c3) V hn1 (by omega) (Nat.le_refl _) ((hr1.below hV (Nat.le_refl _)).more hV.size))
  have HWA := Lib.hid (fun (V : World) (hV : Below w.heap.size w V) (id : Int) => rWant_any x id A n c V.heap.size v1 v2 V hn (by omega) (Nat.le_refl _) (HRW.out V hV))
  have HN4 := Lib.hid hn4
  have HN := Lib.hid hn
  have HM0 := Lib.hid M0
  have E1 := Lib.hid (makeD_1 (ns := ns) (x := x) (t := t) (m := ⟨1, pod, node, over⟩))
  have E4 := Lib.hid (makeD_4 (ns := ns) (x := x) (t := t) (m := ⟨1, pod, node, over⟩))
  have E7 := Lib.hid (makeD_7 (ns := ns) (x := x) (t := t) (m := ⟨1, pod, node, over⟩))
  have E0 := Lib.hid (makeD_0 (ns := ns) (x := x) (t := t) (m := ⟨1, pod, node, over⟩))
  generalize makeD ns x t ⟨1, pod, node, over⟩ = r at *
  clear hr1 hn1 hr hn hr4 hn4 M0
  go_enter Tryz.func43, Tryz.ntmps43
  go_upto_region 1 with fail
  generalize ((((w.alloc (.cells #[.slice A1 n1 c1, .slice A2 n2 c2, .slice A3 n3 c3] 26)).alloc (.cells #[.slice A n c, v1, v2] 29)).alloc (.cells #[.slice A4 n4 c4, .int .i64 t.preempts, .int .i64 t.shifts] 42)).alloc (.cells #[.int .i64 1, .int .i64 pod, .int .i64 node, .int .i64 over] 48)).alloc (.cells #[.slice none 0 0, .int .i64 0, .int .i64 0] 42) = W0 at *
  obtain ⟨⟨a0, a1, a2⟩, ⟨a3, a4, a5⟩, ⟨a6, a7, a8⟩, a9, a10, a11, a12⟩ := HM0.out.facts
  by_cases hov : over = 0
  case neg =>
    have HE := Lib.hid (E1.out (by simp [wellD, hov]))
    have hd : (over != 0) = true := by simp [hov]
    clear hov
    obtain ⟨⟨r0, r1, r2⟩, ⟨z0, z1, z2⟩, hz⟩ := HM0.out.facts2
    go_wp2
    refine bodyPost_ret (v := .tuple #[stateV none 0 0 0 0, .int .i64 1]) ?_ rfl ⟨_, by rw [HE.out], ?_⟩
    · simp [results, Tryz.results43, go_sem, *]
    · rw [HE.out]; first | exact HM0.out.no | exact HM0.out.no0
  subst hov
  have HWL : Hid (wellD ⟨1, pod, node, 0⟩ = true) := rfl
  have HP1 := Lib.hid (HPL.out _ HM0.out.below pod)
  have HP2 := Lib.hid (fun V hV => HPL.out V hV 0)
  have G1 := Lib.hid (place_ge (f := PodD.id) (id := pod) (l := t.pods) (k := 0) (by omega))
  have G2 := Lib.hid (place_ge (f := PodD.id) (id := 0) (l := t.pods) (k := 0) (by omega))
  generalize hpi : place PodD.id pod t.pods 0 = pi at *
  generalize hpk : place PodD.id 0 t.pods 0 = pk at *
  have HPI := Lib.hid hpi
  have HPK := Lib.hid hpk
  clear hpi hpk HPL
  go_wp2_with fail
  refine HP1.out.mono ?_
  rintro e w1 ⟨rfl, hb1⟩
  have M1 := HM0.out.keep hb1
  have HM1 := Lib.hid M1
  clear hb1 HM0 HP1 a0 a1 a2 a3 a4 a5 a6 a7 a8 a9 a10 a11 a12
  obtain ⟨⟨a0, a1, a2⟩, ⟨a3, a4, a5⟩, ⟨a6, a7, a8⟩, a9, a10, a11, a12⟩ := M1.facts
  clear M1
  go_wp2_with fail
  refine (HP2.out _ HM1.out.below).mono ?_
  rintro e w2 ⟨rfl, hb2⟩
  have M2 := HM1.out.keep hb2
  have HM2 := Lib.hid M2
  clear hb2 HM1 HP2 a0 a1 a2 a3 a4 a5 a6 a7 a8 a9 a10 a11 a12
  obtain ⟨⟨a0, a1, a2⟩, ⟨a3, a4, a5⟩, ⟨a6, a7, a8⟩, a9, a10, a11, a12⟩ := M2.facts
  clear M2
  by_cases hp : pi < 0
  · have HE := Lib.hid (E4.out HWL.out (by simp [hereD, HPI.out, hp]))
    have hd : decide (pi < 0) = true := decide_eq_true hp
    clear hp
    obtain ⟨⟨r0, r1, r2⟩, ⟨z0, z1, z2⟩, hz⟩ := HM2.out.facts2
    go_wp2
    refine bodyPost_ret (v := .tuple #[stateV none 0 0 0 0, .int .i64 4]) ?_ rfl ⟨_, by rw [HE.out], ?_⟩
    · simp [results, Tryz.results43, go_sem, *]
    · rw [HE.out]; first | exact HM2.out.no | exact HM2.out.no0
  have hpd : decide (pi < 0) = false := decide_eq_false hp
  have HNN := Lib.hid (HNO.out _ HM2.out.below node)
  generalize hpn : place NodeD.id node ns 0 = pn at *
  have HPN := Lib.hid hpn
  clear hpn HNO
  by_cases hn0 : pn < 0
  · have HE := Lib.hid (E4.out HWL.out (by simp [hereD, HPI.out, HPN.out, hp, hn0]))
    have hd : decide (pn < 0) = true := decide_eq_true hn0
    clear hn0 hp
    go_wp2_with fail
    refine HNN.out.mono ?_
    rintro e w3 ⟨rfl, hb3⟩
    have HM3 := Lib.hid (HM2.out.keep hb3)
    clear hb3
    obtain ⟨⟨r0, r1, r2⟩, ⟨z0, z1, z2⟩, hz⟩ := HM3.out.facts2
    go_wp2
    refine bodyPost_ret (v := .tuple #[stateV none 0 0 0 0, .int .i64 4]) ?_ rfl ⟨_, by rw [HE.out], ?_⟩
    · simp [results, Tryz.results43, go_sem, *]
    · rw [HE.out]; first | exact HM3.out.no | exact HM3.out.no0
  have hnd : decide (pn < 0) = false := decide_eq_false hn0
  have HHE := Lib.hid (show hereD ns t.pods ⟨1, pod, node, 0⟩ = true by simp [hereD, HPI.out, HPN.out, hp, hn0])
  obtain ⟨i, rfl⟩ : ∃ i : Nat, pi = i := ⟨pi.toNat, by omega⟩
  have hi : i < t.pods.length := by have := G1.out; omega
  clear hp hn0
  go_wp2_with fail
  refine HNN.out.mono ?_
  rintro e w3 ⟨rfl, hb3⟩
  have M3 := HM2.out.keep hb3
  clear hb3 HNN a0 a1 a2 a3 a4 a5 a6 a7 a8 a9 a10 a11 a12
  have HM3 := Lib.hid M3
  obtain ⟨b, o, rfl, hb, _⟩ := (HRP.out w (Below.refl _ _)).at hi
  obtain ⟨b', o', hA', hbl, he⟩ := (HRP.out w3 M3.below).at hi
  injection hA' with hA'
  injection hA' with q1 q2 _
  subst q1 q2
  generalize hx : t.pods[i] = p at *
  have HX := Lib.hid hx
  have e0 : w3.cell? ⟨b, o + i * 8, none⟩ = some (.int .i64 p.id) := he 0 _ rfl
  have e1 : w3.cell? ⟨b, o + i * 8 + 1, none⟩ = some (.int .i64 p.load) := he 1 _ rfl
  have e2 : w3.cell? ⟨b, o + i * 8 + 2, none⟩ = some (.int .i64 p.prio) := he 2 _ rfl
  have e3 : w3.cell? ⟨b, o + i * 8 + 3, none⟩ = some (.int .u64 p.req.a) := he 3 _ rfl
  have e4 : w3.cell? ⟨b, o + i * 8 + 4, none⟩ = some (.int .u64 p.req.b) := he 4 _ rfl
  have e5 : w3.cell? ⟨b, o + i * 8 + 5, none⟩ = some (.int .u64 p.req.c) := he 5 _ rfl
  have e6 : w3.cell? ⟨b, o + i * 8 + 6, none⟩ = some (.int .u64 p.req.d) := he 6 _ rfl
  have e7 : w3.cell? ⟨b, o + i * 8 + 7, none⟩ = some (.int .i64 p.node) := he 7 _ rfl
  have ka : Below w3.heap.size w3 (w3.alloc (.cells #[.int .i64 p.id, .int .i64 p.load, .int .i64 p.prio, .int .u64 p.req.a, .int .u64 p.req.b, .int .u64 p.req.c, .int .u64 p.req.d, .int .i64 p.node] 79)) := (Below.refl _ w3).alloc (Nat.le_refl _) _
  have M4 := M3.keep ka
  have B4 : Bf (w3.alloc (.cells #[.int .i64 p.id, .int .i64 p.load, .int .i64 p.prio, .int .u64 p.req.a, .int .u64 p.req.b, .int .u64 p.req.c, .int .u64 p.req.d, .int .i64 p.node] 79)) w3.heap.size (cellsP p) := Bf.new w3 (cellsP p) 79 rfl
  have hz3 : w.heap.size + 5 ≤ w3.heap.size := M3.res.lt
  have hi0 : (0 : Int) ≤ (i : Int) := by omega
  have hi1 : (i : Int) < (n4 : Int) := by have := HN4.out; omega
  obtain ⟨⟨a0, a1, a2⟩, ⟨a3, a4, a5⟩, ⟨a6, a7, a8⟩, a9, a10, a11, a12⟩ := M3.facts
  clear he hx hbl M3
  go_upto_region 8 with fail
  generalize hW : w3.alloc (.cells #[.int .i64 p.id, .int .i64 p.load, .int .i64 p.prio, .int .u64 p.req.a, .int .u64 p.req.b, .int .u64 p.req.c, .int .u64 p.req.d, .int .i64 p.node] 79) = W at *
  generalize hpb : w3.heap.size = pb at *
  have hzW : pb < W.heap.size := by rw [← hW, ← hpb]; simp
  have hzS : w.heap.size + 2 < W.heap.size := M4.state.lt
  have hzM : w.heap.size + 3 < W.heap.size := M4.move.lt
  clear a0 a1 a2 a3 a4 a5 a6 a7 a8 a9 a10 a11 a12 e0 e1 e2 e3 e4 e5 e6 e7 hW ka
  have HM4 := Lib.hid M4
  have HB4 := Lib.hid B4
  obtain ⟨⟨a0, a1, a2⟩, ⟨a3, a4, a5⟩, ⟨a6, a7, a8⟩, a9, a10, a11, a12⟩ := M4.facts
  have HRR : Hid (∀ V, Keeps W V → Recs 8 cellsP V V.heap.size (some ⟨b, o, none⟩) t.pods) := fun V hV => HRP.out V (HM4.out.below.trans (hV.2.mono HM4.out.below.size))
  clear M4 B4
  go_region_held3 (fun w' => (∀ b o, b < W.heap.size → w'.cell? ⟨b, o, none⟩ = W.cell? ⟨b, o, none⟩) ∧ Below W.heap.size W w')
    (first | (with_reducible assumption) | (show Keeps W _; with_reducible (repeat (first | exact Keeps.refl _ | assumption | refine Keeps.drew ?_ | refine Keeps.set ?_ (by first | (simp; done) | (simp; omega) | omega) _ | refine Keeps.alloc ?_ _ | refine Keeps.step ?_ (by assumption)))))
    (first
      | (refine step_recsA 24 79 (.agg #[.int .i64 0, .int .i64 0, .int .i64 0, .int .u64 0, .int .u64 0, .int .u64 0, .int .u64 0, .int .i64 0]) 8 64 underPods infoPod rfl (by decide) (by decide) (fun _ => rfl) onePod rfl (.tmp 82) (.tmp 84) rfl W.heap.size _ _ _ 0 _ [] t.pods ⟨b, o, none⟩ _ (by with_reducible (repeat (first | exact own_emptyR _ _ _ _ (by first | (simp; done) | (simp; omega)) (by first | (simp; done) | (simp; omega)) | refine own_drew ?_ | refine World.ownsRow.alloc ?_ _))) (HRR.out _ (by assumption)) (by first | (simp; done) | (simp; omega)) (by omega) rfl rfl HN4.out ?_; intro g1 k1 w4 hown4 hb4 hat4 hlt4 hbx4 hsz4; simp only [Nat.zero_add, List.nil_append] at hown4; obtain ⟨hcx4, hfx4⟩ := far_cells hbx4; clear hbx4; (try simp only [World.size_alloc, World.size_drew] at hat4); (try simp only [World.size_alloc, World.size_drew] at hsz4); have hk4 : Keeps W w4 := Keeps.grow (by assumption) hb4 (Nat.le_refl _)))
  rename_i hK
  obtain ⟨L4, hnc, hmx, hgg⟩ := Lst.own HN4.out hown4
  have BV := Bf.new w4 [.slice (some ⟨g1, 0, none⟩) n4 k1, .int .i64 t.preempts, .int .i64 t.shifts] 42 rfl
  have NX := Lib.hid (show Nx _ _ _ _ p pb (w4.heap.size) g1 n4 k1 t.preempts t.shifts t.pods w (w4.alloc (.cells #[.slice (some ⟨g1, 0, none⟩) n4 k1, .int .i64 t.preempts, .int .i64 t.shifts] 42)) from ⟨HM4.out.keep hK.2, HB4.out.below hK.2 hzW, BV, L4.alloc _, hz3, by omega, by omega, by omega, by omega, by omega⟩)
  generalize hV : (w4.alloc (.cells #[.slice (some ⟨g1, 0, none⟩) n4 k1, .int .i64 t.preempts, .int .i64 t.shifts] 42)) = V at *
  generalize hh : (w4.heap.size) = h at NX ⊢
  clear hK hV hh hcx4 hfx4 hat4 hlt4 hown4 hb4 hk4 hsz4 L4 hgg BV
  rotate_left
  rename_i hK
  obtain ⟨L4, hnc, hmx, hgg⟩ := Lst.own HN4.out hown4
  have hne : W.heap.size + 1 ≠ g1 := by omega
  have B5 : Bf w4 (W.heap.size + 1) [.slice none 0 0, .int .i64 0, .int .i64 0] := Bf.far (by with_reducible (repeat (first | exact Bf.new _ _ _ (by first | rfl | (simp; done)) | refine Bf.drew ?_ | refine Bf.alloc ?_ _))) (by omega) hcx4 hfx4 (by first | (simp; done) | (simp; omega))
  have BV : Bf (((w4.setCell ⟨W.heap.size + 1, 0, none⟩ (.slice (some ⟨g1, 0, none⟩) n4 k1)).setCell ⟨W.heap.size + 1, 1, none⟩ (.int .i64 t.preempts)).setCell ⟨W.heap.size + 1, 2, none⟩ (.int .i64 t.shifts)) (W.heap.size + 1) [.slice (some ⟨g1, 0, none⟩) n4 k1, .int .i64 t.preempts, .int .i64 t.shifts] := ((B5.set 0 (.slice (some ⟨g1, 0, none⟩) n4 k1)).set 1 (.int .i64 t.preempts)).set 2 (.int .i64 t.shifts)
  have NX := Lib.hid (show Nx _ _ _ _ p pb (W.heap.size + 1) g1 n4 k1 t.preempts t.shifts t.pods w (((w4.setCell ⟨W.heap.size + 1, 0, none⟩ (.slice (some ⟨g1, 0, none⟩) n4 k1)).setCell ⟨W.heap.size + 1, 1, none⟩ (.int .i64 t.preempts)).setCell ⟨W.heap.size + 1, 2, none⟩ (.int .i64 t.shifts)) from ⟨HM4.out.keep hK.2, HB4.out.below hK.2 hzW, BV, ((L4.other (p := ⟨W.heap.size + 1, 0, none⟩) hne _).other (p := ⟨W.heap.size + 1, 1, none⟩) hne _).other (p := ⟨W.heap.size + 1, 2, none⟩) hne _, hz3, by omega, by omega, by omega, by omega, by omega⟩)
  generalize hV : (((w4.setCell ⟨W.heap.size + 1, 0, none⟩ (.slice (some ⟨g1, 0, none⟩) n4 k1)).setCell ⟨W.heap.size + 1, 1, none⟩ (.int .i64 t.preempts)).setCell ⟨W.heap.size + 1, 2, none⟩ (.int .i64 t.shifts)) = V at *
  generalize hh : (W.heap.size + 1) = h at NX ⊢
  clear hK hV hh hcx4 hfx4 hat4 hlt4 hown4 hb4 hk4 hsz4 L4 hgg hne B5 BV
  rotate_left
  rename_i hK
  obtain ⟨L4, hnc, hmx, hgg⟩ := Lst.own HN4.out hown4
  have hne : W.heap.size ≠ g1 := by omega
  have B5 : Bf w4 (W.heap.size) [.slice none 0 0, .int .i64 0, .int .i64 0] := Bf.far (by with_reducible (repeat (first | exact Bf.new _ _ _ (by first | rfl | (simp; done)) | refine Bf.drew ?_ | refine Bf.alloc ?_ _))) (by omega) hcx4 hfx4 (by first | (simp; done) | (simp; omega))
  have BV : Bf (((w4.setCell ⟨W.heap.size, 0, none⟩ (.slice (some ⟨g1, 0, none⟩) n4 k1)).setCell ⟨W.heap.size, 1, none⟩ (.int .i64 t.preempts)).setCell ⟨W.heap.size, 2, none⟩ (.int .i64 t.shifts)) (W.heap.size) [.slice (some ⟨g1, 0, none⟩) n4 k1, .int .i64 t.preempts, .int .i64 t.shifts] := ((B5.set 0 (.slice (some ⟨g1, 0, none⟩) n4 k1)).set 1 (.int .i64 t.preempts)).set 2 (.int .i64 t.shifts)
  have NX := Lib.hid (show Nx _ _ _ _ p pb (W.heap.size) g1 n4 k1 t.preempts t.shifts t.pods w (((w4.setCell ⟨W.heap.size, 0, none⟩ (.slice (some ⟨g1, 0, none⟩) n4 k1)).setCell ⟨W.heap.size, 1, none⟩ (.int .i64 t.preempts)).setCell ⟨W.heap.size, 2, none⟩ (.int .i64 t.shifts)) from ⟨HM4.out.keep hK.2, HB4.out.below hK.2 hzW, BV, ((L4.other (p := ⟨W.heap.size, 0, none⟩) hne _).other (p := ⟨W.heap.size, 1, none⟩) hne _).other (p := ⟨W.heap.size, 2, none⟩) hne _, hz3, by omega, by omega, by omega, by omega, by omega⟩)
  generalize hV : (((w4.setCell ⟨W.heap.size, 0, none⟩ (.slice (some ⟨g1, 0, none⟩) n4 k1)).setCell ⟨W.heap.size, 1, none⟩ (.int .i64 t.preempts)).setCell ⟨W.heap.size, 2, none⟩ (.int .i64 t.shifts)) = V at *
  generalize hh : (W.heap.size) = h at NX ⊢
  clear hK hV hh hcx4 hfx4 hat4 hlt4 hown4 hb4 hk4 hsz4 L4 hgg hne B5 BV
  rotate_left
  all_goals
    have HPZ := Lib.hid ((podZ_some hi HPI.out).trans HX.out)
    have NV := Lib.hid NX.out.bx
    obtain ⟨⟨p7, hpz⟩, ⟨x0, x1, x2, hxz⟩, ⟨f1, f2⟩, hgz⟩ := NX.out.facts
    obtain ⟨⟨a0, a1, a2⟩, ⟨a3, a4, a5⟩, ⟨a6, a7, a8⟩, a9, a10, a11, a12⟩ := NX.out.bx.facts
    by_cases hc : p.node = 0
    case neg =>
      have HE := Lib.hid (E7.out HWL.out HHE.out (by simp [canD, HPZ.out, hc]))
      have hd : (p.node == 0) = false := by simp [hc]
      have hd2 : (p.node != 0) = true := by simp [hc]
      clear hc
      obtain ⟨⟨r0, r1, r2⟩, ⟨z0, z1, z2⟩, hz⟩ := NV.out.facts2
      go_wp2
      refine bodyPost_ret (v := .tuple #[stateV none 0 0 0 0, .int .i64 7]) ?_ rfl ⟨_, by rw [HE.out], ?_⟩
      · simp [results, Tryz.results43, go_sem, *]
      · rw [HE.out]; first | exact NV.out.no | exact NV.out.no0
    have HE := Lib.hid (E0.out HWL.out HHE.out (by simp [canD, HPZ.out, hc]))
    have hd : (p.node == 0) = true := by simp [hc]
    have hd2 : (p.node != 0) = false := by simp [hc]
    have hil := Lib.hid hi
    have HLI := HX
    clear hc
    obtain ⟨y7, z7⟩ := NX.out.cells7 hil.out HLI.out
    go_upto_region 25 with fail
    have NY := Lib.hid (NX.out.node hil.out HLI.out node)
    generalize (V.setCell ⟨g1, i * 8 + 7, none⟩ (.int .i64 node)) = V5 at *
    have HWV := HWA.out V5 NY.out.bx.below pod
    clear y7 z7 NX HWA a0 a1 a2 a3 a4 a5 a6 a7 a8 a9 a10 a11 a12 p7 hpz x0 x1 x2 hxz f1 f2 hgz
    obtain ⟨⟨p7, hpz⟩, ⟨x0, x1, x2, hxz⟩, ⟨f1, f2⟩, hgz⟩ := NY.out.facts
    obtain ⟨⟨a0, a1, a2⟩, ⟨a3, a4, a5⟩, ⟨a6, a7, a8⟩, a9, a10, a11, a12⟩ := NY.out.bx.facts
    go_wp2_with fail
    refine HWV.mono ?_
    rintro e w6 ⟨rfl, hb6⟩
    have NZ := Lib.hid (NY.out.keep hb6)
    clear HWV hb6 NY a0 a1 a2 a3 a4 a5 a6 a7 a8 a9 a10 a11 a12 p7 hpz x0 x1 x2 hxz f1 f2 hgz
    obtain ⟨⟨p7, hpz⟩, ⟨x0, x1, x2, hxz⟩, ⟨f1, f2⟩, hgz⟩ := NZ.out.facts
    obtain ⟨⟨a0, a1, a2⟩, ⟨a3, a4, a5⟩, ⟨a6, a7, a8⟩, a9, a10, a11, a12⟩ := NZ.out.bx.facts
    generalize hpw : place WantD.pod pod x 0 = pw at *
    have HPW := Lib.hid hpw
    have GW := Lib.hid (place_ge (f := WantD.pod) (id := pod) (l := x) (k := 0) (by omega))
    have HID := Lib.hid (show p.id = pod from by rw [← HX.out]; exact place_is hi HPI.out)
    clear hpw
    by_cases hw : pw < 0
    · have hge : decide (0 ≤ pw) = false := decide_eq_false (by omega)
      have hge2 : decide (pw ≥ 0) = false := hge
      have HC := Lib.hid (come_none (x := x) (node := node) (p := p) (by rw [HID.out, HPW.out]; exact hw))
      have HBH := Lib.hid (show behindD x t ⟨1, pod, node, 0⟩ = ⟨t.pods.set i ⟨p.id, p.load, p.prio, p.req, node⟩, t.preempts, t.shifts⟩ from by simp [behindD, idxD_at HPI.out, HPZ.out]; rw [HC.out])
      clear hw
      obtain ⟨⟨r0, r1, r2⟩, ⟨z0, z1, z2⟩, hz⟩ := NZ.out.bx.facts2
      go_wp2
      refine bodyPost_ret (v := .tuple #[stateV (some ⟨g1, 0, none⟩) n4 k1 t.preempts t.shifts, .int .i64 0]) ?_ rfl ⟨_, by rw [HE.out], ?_⟩
      · simp [results, Tryz.results43, go_sem, *]
      · rw [HE.out]
        show StateTo (behindD _ _ _) _ _ _
        rw [HBH.out]
        exact NZ.out.done (by simp; exact HN4.out) hnc hmx
    have hge : decide (0 ≤ pw) = true := decide_eq_true (by omega)
    have hge2 : decide (pw ≥ 0) = true := hge
    obtain ⟨j, rfl⟩ : ∃ j : Nat, pw = j := ⟨pw.toNat, by omega⟩
    have hj : j < x.length := by have := GW.out; rw [HPW.out] at this; omega
    have hj0 : (0 : Int) ≤ (j : Int) := by omega
    have hj1 : (j : Int) < (n : Int) := by have := HN.out; omega
    have HC := Lib.hid (come_some (x := x) (node := node) (p := p) hj (by rw [HID.out, HPW.out]))
    obtain ⟨b2, o2, rfl, hb2, he2⟩ := (HRW.out w6 NZ.out.bx.below).at hj
    generalize hxj : x[j] = y at *
    have u1 : w6.cell? ⟨b2, o2 + j * 6 + 1, none⟩ = some (.int .u64 y.req.a) := he2 1 _ rfl
    have u2 : w6.cell? ⟨b2, o2 + j * 6 + 2, none⟩ = some (.int .u64 y.req.b) := he2 2 _ rfl
    have u3 : w6.cell? ⟨b2, o2 + j * 6 + 3, none⟩ = some (.int .u64 y.req.c) := he2 3 _ rfl
    have u4 : w6.cell? ⟨b2, o2 + j * 6 + 4, none⟩ = some (.int .u64 y.req.d) := he2 4 _ rfl
    have u5 : w6.cell? ⟨b2, o2 + j * 6 + 5, none⟩ = some (.bool y.stay) := he2 5 _ rfl
    clear he2 hxj hw
    by_cases hs : y.stay = true
    case neg =>
      have hs : y.stay = false := by simpa using hs
      rw [hs] at u5
      have HBH := Lib.hid (show behindD x t ⟨1, pod, node, 0⟩ = ⟨t.pods.set i ⟨p.id, p.load, p.prio, p.req, node⟩, t.preempts, t.shifts⟩ from by simp [behindD, idxD_at HPI.out, HPZ.out]; rw [HC.out]; simp [hs])
      clear hs
      obtain ⟨⟨r0, r1, r2⟩, ⟨z0, z1, z2⟩, hz⟩ := NZ.out.bx.facts2
      go_wp2
      refine bodyPost_ret (v := .tuple #[stateV (some ⟨g1, 0, none⟩) n4 k1 t.preempts t.shifts, .int .i64 0]) ?_ rfl ⟨_, by rw [HE.out], ?_⟩
      · simp [results, Tryz.results43, go_sem, *]
      · rw [HE.out]
        show StateTo (behindD _ _ _) _ _ _
        rw [HBH.out]
        exact NZ.out.done (by simp; exact HN4.out) hnc hmx
    rw [hs] at u5
    have HBH := Lib.hid (show behindD x t ⟨1, pod, node, 0⟩ = ⟨t.pods.set i ⟨p.id, p.load, p.prio, y.req, node⟩, t.preempts, t.shifts⟩ from by simp [behindD, idxD_at HPI.out, HPZ.out]; rw [HC.out]; simp [hs])
    clear hs
    have hil2 : i < (t.pods.set i ⟨p.id, p.load, p.prio, p.req, node⟩).length := by simpa using hil.out
    have HLZ : (t.pods.set i ⟨p.id, p.load, p.prio, p.req, node⟩)[i] = ⟨p.id, p.load, p.prio, p.req, node⟩ := by simp
    obtain ⟨⟨y3, y4, y5, y6⟩, z3, z4, z5, z6⟩ := NZ.out.cells4 hil2 HLZ
    have N4 := NZ.out.req hil2 HLZ y.req
    rw [List.set_set] at N4
    have N4 := Lib.hid (N4.keep ((Below.refl _ _).drew))
    clear HLZ
    go_upto_region 28 with fail
    go_big_region
    go_upto_region 29 with fail
    generalize ((((w6.setCell ⟨g1, i * 8 + 3, none⟩ (.int .u64 y.req.a)).setCell ⟨g1, i * 8 + 4, none⟩ (.int .u64 y.req.b)).setCell ⟨g1, i * 8 + 5, none⟩ (.int .u64 y.req.c)).setCell ⟨g1, i * 8 + 6, none⟩ (.int .u64 y.req.d)).drew = V8 at *
    clear NZ a0 a1 a2 a3 a4 a5 a6 a7 a8 a9 a10 a11 a12 p7 hpz x0 x1 x2 hxz f1 f2 hgz u1 u2 u3 u4 u5 y3 y4 y5 y6 z3 z4 z5 z6
    obtain ⟨⟨p7, hpz⟩, ⟨x0, x1, x2, hxz⟩, ⟨f1, f2⟩, hgz⟩ := N4.out.facts
    obtain ⟨⟨a0, a1, a2⟩, ⟨a3, a4, a5⟩, ⟨a6, a7, a8⟩, a9, a10, a11, a12⟩ := N4.out.bx.facts
    obtain ⟨⟨r0, r1, r2⟩, ⟨z0, z1, z2⟩, hz⟩ := N4.out.bx.facts2
    go_wp2
    refine bodyPost_ret (v := .tuple #[stateV (some ⟨g1, 0, none⟩) n4 k1 t.preempts t.shifts, .int .i64 0]) ?_ rfl ⟨_, by rw [HE.out], ?_⟩
    · simp [results, Tryz.results43, go_sem, *]
    · rw [HE.out]
      show StateTo (behindD _ _ _) _ _ _
      rw [HBH.out]
      exact N4.out.done (by simp; exact HN4.out) hnc hmx
end Go.Proofs.YtpfjeoldgcepnaaGreatDoor

namespace Go.Proofs.YtpfjeoldgcepnaaGreatDoor
set_option linter.unusedSimpArgs false
open Go.RowKit
set_option linter.unusedVariables false

set_option maxHeartbeats 25600000 in
set_option maxRecDepth 100000 in
theorem rMake05_2 (ns : List NodeD) (x : List WantD) (t : StateD) (pod node over : Int) (A1 A2 A3 A A4 : Option Addr) (n1 c1 n2 c2 n3 c3 n c n4 c4 : Nat) (v1 v2 : Value) (w : World)
    (hn1 : n1 = ns.length) (hl1 : n1 ≤ 400) (hr1 : Recs 10 cellsN w w.heap.size A1 ns) (hn : n = x.length) (hl : n ≤ 400) (hr : Recs 6 cellsW w w.heap.size A x) (hn4 : n4 = t.pods.length) (hl4 : n4 ≤ 400) (hc4 : n4 ≤ c4) (hr4 : Recs 8 cellsP w w.heap.size A4 t.pods) :
    Calls Tryz.prog 43 #[.agg #[.slice A1 n1 c1, .slice A2 n2 c2, .slice A3 n3 c3], .agg #[.slice A n c, v1, v2], .agg #[.slice A4 n4 c4, .int .i64 t.preempts, .int .i64 t.shifts], .agg #[.int .i64 2, .int .i64 pod, .int .i64 node, .int .i64 over]] w (RMakeTo (makeD ns x t ⟨2, pod, node, over⟩) w) := by
  have M0 := Mk.new w [.slice A1 n1 c1, .slice A2 n2 c2, .slice A3 n3 c3] [.slice A n c, v1, v2] [.slice A4 n4 c4, .int .i64 t.preempts, .int .i64 t.shifts] [.int .i64 2, .int .i64 pod, .int .i64 node, .int .i64 over] 26 29 42 48 42
  have HRP := Lib.hid (fun (V : World) (hV : Below w.heap.size w V) => (hr4.below hV (Nat.le_refl _)).more hV.size)
  have HRW := Lib.hid (fun (V : World) (hV : Below w.heap.size w V) => (hr.below hV (Nat.le_refl _)).more hV.size)
  have HPL := Lib.hid (fun (V : World) (hV : Below w.heap.size w V) (id : Int) => rPlace05_any t.pods id A4 n4 c4 V.heap.size (.int .i64 t.preempts) (.int .i64 t.shifts) V hn4 (by omega) (Nat.le_refl _) (HRP.out V hV))
  have HNO := Lib.hid (fun (V : World) (hV : Below w.heap.size w V) (id : Int) => rNode_any ns id A1 n1 c1 V.heap.size (.slice A2 n2 c2) (.slice A3 n3 c3) V hn1 (by omega) (Nat.le_refl _) ((hr1.below hV (Nat.le_refl _)).more hV.size))
  have HWA := Lib.hid (fun (V : World) (hV : Below w.heap.size w V) (id : Int) => rWant_any x id A n c V.heap.size v1 v2 V hn (by omega) (Nat.le_refl _) (HRW.out V hV))
  have HN4 := Lib.hid hn4
  have HN := Lib.hid hn
  have HM0 := Lib.hid M0
  have E1 := Lib.hid (makeD_1 (ns := ns) (x := x) (t := t) (m := ⟨2, pod, node, over⟩))
  have E4 := Lib.hid (makeD_4 (ns := ns) (x := x) (t := t) (m := ⟨2, pod, node, over⟩))
  have E7 := Lib.hid (makeD_7 (ns := ns) (x := x) (t := t) (m := ⟨2, pod, node, over⟩))
  have E0 := Lib.hid (makeD_0 (ns := ns) (x := x) (t := t) (m := ⟨2, pod, node, over⟩))
  generalize makeD ns x t ⟨2, pod, node, over⟩ = r at *
  clear hr1 hn1 hr hn hr4 hn4 M0
  go_enter Tryz.func43, Tryz.ntmps43
  go_upto_region 1 with fail
  generalize ((((w.alloc (.cells #[.slice A1 n1 c1, .slice A2 n2 c2, .slice A3 n3 c3] 26)).alloc (.cells #[.slice A n c, v1, v2] 29)).alloc (.cells #[.slice A4 n4 c4, .int .i64 t.preempts, .int .i64 t.shifts] 42)).alloc (.cells #[.int .i64 2, .int .i64 pod, .int .i64 node, .int .i64 over] 48)).alloc (.cells #[.slice none 0 0, .int .i64 0, .int .i64 0] 42) = W0 at *
  obtain ⟨⟨a0, a1, a2⟩, ⟨a3, a4, a5⟩, ⟨a6, a7, a8⟩, a9, a10, a11, a12⟩ := HM0.out.facts
  by_cases hov : over = 0
  case neg =>
    have HE := Lib.hid (E1.out (by simp [wellD, hov]))
    have hd : (over != 0) = true := by simp [hov]
    clear hov
    obtain ⟨⟨r0, r1, r2⟩, ⟨z0, z1, z2⟩, hz⟩ := HM0.out.facts2
    go_wp2
    refine bodyPost_ret (v := .tuple #[stateV none 0 0 0 0, .int .i64 1]) ?_ rfl ⟨_, by rw [HE.out], ?_⟩
    · simp [results, Tryz.results43, go_sem, *]
    · rw [HE.out]; first | exact HM0.out.no | exact HM0.out.no0
  subst hov
  by_cases hnd : node = 0
  case neg =>
    have HE := Lib.hid (E1.out (by simp [wellD, hnd]))
    have hd : (node != 0) = true := by simp [hnd]
    clear hnd
    obtain ⟨⟨r0, r1, r2⟩, ⟨z0, z1, z2⟩, hz⟩ := HM0.out.facts2
    go_wp2
    refine bodyPost_ret (v := .tuple #[stateV none 0 0 0 0, .int .i64 1]) ?_ rfl ⟨_, by rw [HE.out], ?_⟩
    · simp [results, Tryz.results43, go_sem, *]
    · rw [HE.out]; first | exact HM0.out.no | exact HM0.out.no0
  subst hnd
  have HWL : Hid (wellD ⟨2, pod, 0, 0⟩ = true) := rfl
  have HP1 := Lib.hid (HPL.out _ HM0.out.below pod)
  have HP2 := Lib.hid (fun V hV => HPL.out V hV 0)
  have G1 := Lib.hid (place_ge (f := PodD.id) (id := pod) (l := t.pods) (k := 0) (by omega))
  have G2 := Lib.hid (place_ge (f := PodD.id) (id := 0) (l := t.pods) (k := 0) (by omega))
  generalize hpi : place PodD.id pod t.pods 0 = pi at *
  generalize hpk : place PodD.id 0 t.pods 0 = pk at *
  have HPI := Lib.hid hpi
  have HPK := Lib.hid hpk
  clear hpi hpk HPL
  go_wp2_with fail
  refine HP1.out.mono ?_
  rintro e w1 ⟨rfl, hb1⟩
  have M1 := HM0.out.keep hb1
  have HM1 := Lib.hid M1
  clear hb1 HM0 HP1 a0 a1 a2 a3 a4 a5 a6 a7 a8 a9 a10 a11 a12
  obtain ⟨⟨a0, a1, a2⟩, ⟨a3, a4, a5⟩, ⟨a6, a7, a8⟩, a9, a10, a11, a12⟩ := M1.facts
  clear M1
  go_wp2_with fail
  refine (HP2.out _ HM1.out.below).mono ?_
  rintro e w2 ⟨rfl, hb2⟩
  have M2 := HM1.out.keep hb2
  have HM2 := Lib.hid M2
  clear hb2 HM1 HP2 a0 a1 a2 a3 a4 a5 a6 a7 a8 a9 a10 a11 a12
  obtain ⟨⟨a0, a1, a2⟩, ⟨a3, a4, a5⟩, ⟨a6, a7, a8⟩, a9, a10, a11, a12⟩ := M2.facts
  clear M2
  by_cases hp : pi < 0
  · have HE := Lib.hid (E4.out HWL.out (by simp [hereD, HPI.out, hp]))
    have hd : decide (pi < 0) = true := decide_eq_true hp
    clear hp
    obtain ⟨⟨r0, r1, r2⟩, ⟨z0, z1, z2⟩, hz⟩ := HM2.out.facts2
    go_wp2
    refine bodyPost_ret (v := .tuple #[stateV none 0 0 0 0, .int .i64 4]) ?_ rfl ⟨_, by rw [HE.out], ?_⟩
    · simp [results, Tryz.results43, go_sem, *]
    · rw [HE.out]; first | exact HM2.out.no | exact HM2.out.no0
  have hpd : decide (pi < 0) = false := decide_eq_false hp
  have HHE := Lib.hid (show hereD ns t.pods ⟨2, pod, 0, 0⟩ = true by simp [hereD, HPI.out, hp])
  obtain ⟨i, rfl⟩ : ∃ i : Nat, pi = i := ⟨pi.toNat, by omega⟩
  have hi : i < t.pods.length := by have := G1.out; omega
  clear hp
  obtain ⟨w3, hw3⟩ : ∃ w3, w3 = w2 := ⟨_, rfl⟩
  subst hw3
  have M3 := HM2.out
  clear a0 a1 a2 a3 a4 a5 a6 a7 a8 a9 a10 a11 a12
  have HM3 := Lib.hid M3
  obtain ⟨b, o, rfl, hb, _⟩ := (HRP.out w (Below.refl _ _)).at hi
  obtain ⟨b', o', hA', hbl, he⟩ := (HRP.out w3 M3.below).at hi
  injection hA' with hA'
  injection hA' with q1 q2 _
  subst q1 q2
  generalize hx : t.pods[i] = p at *
  have HX := Lib.hid hx
  have e0 : w3.cell? ⟨b, o + i * 8, none⟩ = some (.int .i64 p.id) := he 0 _ rfl
  have e1 : w3.cell? ⟨b, o + i * 8 + 1, none⟩ = some (.int .i64 p.load) := he 1 _ rfl
  have e2 : w3.cell? ⟨b, o + i * 8 + 2, none⟩ = some (.int .i64 p.prio) := he 2 _ rfl
  have e3 : w3.cell? ⟨b, o + i * 8 + 3, none⟩ = some (.int .u64 p.req.a) := he 3 _ rfl
  have e4 : w3.cell? ⟨b, o + i * 8 + 4, none⟩ = some (.int .u64 p.req.b) := he 4 _ rfl
  have e5 : w3.cell? ⟨b, o + i * 8 + 5, none⟩ = some (.int .u64 p.req.c) := he 5 _ rfl
  have e6 : w3.cell? ⟨b, o + i * 8 + 6, none⟩ = some (.int .u64 p.req.d) := he 6 _ rfl
  have e7 : w3.cell? ⟨b, o + i * 8 + 7, none⟩ = some (.int .i64 p.node) := he 7 _ rfl
  have ka : Below w3.heap.size w3 (w3.alloc (.cells #[.int .i64 p.id, .int .i64 p.load, .int .i64 p.prio, .int .u64 p.req.a, .int .u64 p.req.b, .int .u64 p.req.c, .int .u64 p.req.d, .int .i64 p.node] 79)) := (Below.refl _ w3).alloc (Nat.le_refl _) _
  have M4 := M3.keep ka
  have B4 : Bf (w3.alloc (.cells #[.int .i64 p.id, .int .i64 p.load, .int .i64 p.prio, .int .u64 p.req.a, .int .u64 p.req.b, .int .u64 p.req.c, .int .u64 p.req.d, .int .i64 p.node] 79)) w3.heap.size (cellsP p) := Bf.new w3 (cellsP p) 79 rfl
  have hz3 : w.heap.size + 5 ≤ w3.heap.size := M3.res.lt
  have hi0 : (0 : Int) ≤ (i : Int) := by omega
  have hi1 : (i : Int) < (n4 : Int) := by have := HN4.out; omega
  obtain ⟨⟨a0, a1, a2⟩, ⟨a3, a4, a5⟩, ⟨a6, a7, a8⟩, a9, a10, a11, a12⟩ := M3.facts
  clear he hx hbl M3
  go_upto_region 8 with fail
  generalize hW : w3.alloc (.cells #[.int .i64 p.id, .int .i64 p.load, .int .i64 p.prio, .int .u64 p.req.a, .int .u64 p.req.b, .int .u64 p.req.c, .int .u64 p.req.d, .int .i64 p.node] 79) = W at *
  generalize hpb : w3.heap.size = pb at *
  have hzW : pb < W.heap.size := by rw [← hW, ← hpb]; simp
  have hzS : w.heap.size + 2 < W.heap.size := M4.state.lt
  have hzM : w.heap.size + 3 < W.heap.size := M4.move.lt
  clear a0 a1 a2 a3 a4 a5 a6 a7 a8 a9 a10 a11 a12 e0 e1 e2 e3 e4 e5 e6 e7 hW ka
  have HM4 := Lib.hid M4
  have HB4 := Lib.hid B4
  obtain ⟨⟨a0, a1, a2⟩, ⟨a3, a4, a5⟩, ⟨a6, a7, a8⟩, a9, a10, a11, a12⟩ := M4.facts
  have HRR : Hid (∀ V, Keeps W V → Recs 8 cellsP V V.heap.size (some ⟨b, o, none⟩) t.pods) := fun V hV => HRP.out V (HM4.out.below.trans (hV.2.mono HM4.out.below.size))
  clear M4 B4
  go_region_held3 (fun w' => (∀ b o, b < W.heap.size → w'.cell? ⟨b, o, none⟩ = W.cell? ⟨b, o, none⟩) ∧ Below W.heap.size W w')
    (first | (with_reducible assumption) | (show Keeps W _; with_reducible (repeat (first | exact Keeps.refl _ | assumption | refine Keeps.drew ?_ | refine Keeps.set ?_ (by first | (simp; done) | (simp; omega) | omega) _ | refine Keeps.alloc ?_ _ | refine Keeps.step ?_ (by assumption)))))
    (first
      | (refine step_recsA 24 79 (.agg #[.int .i64 0, .int .i64 0, .int .i64 0, .int .u64 0, .int .u64 0, .int .u64 0, .int .u64 0, .int .i64 0]) 8 64 underPods infoPod rfl (by decide) (by decide) (fun _ => rfl) onePod rfl (.tmp 82) (.tmp 84) rfl W.heap.size _ _ _ 0 _ [] t.pods ⟨b, o, none⟩ _ (by with_reducible (repeat (first | exact own_emptyR _ _ _ _ (by first | (simp; done) | (simp; omega)) (by first | (simp; done) | (simp; omega)) | refine own_drew ?_ | refine World.ownsRow.alloc ?_ _))) (HRR.out _ (by assumption)) (by first | (simp; done) | (simp; omega)) (by omega) rfl rfl HN4.out ?_; intro g1 k1 w4 hown4 hb4 hat4 hlt4 hbx4 hsz4; simp only [Nat.zero_add, List.nil_append] at hown4; obtain ⟨hcx4, hfx4⟩ := far_cells hbx4; clear hbx4; (try simp only [World.size_alloc, World.size_drew] at hat4); (try simp only [World.size_alloc, World.size_drew] at hsz4); have hk4 : Keeps W w4 := Keeps.grow (by assumption) hb4 (Nat.le_refl _)))
  rename_i hK
  obtain ⟨L4, hnc, hmx, hgg⟩ := Lst.own HN4.out hown4
  have BV := Bf.new w4 [.slice (some ⟨g1, 0, none⟩) n4 k1, .int .i64 t.preempts, .int .i64 t.shifts] 42 rfl
  have NX := Lib.hid (show Nx _ _ _ _ p pb (w4.heap.size) g1 n4 k1 t.preempts t.shifts t.pods w (w4.alloc (.cells #[.slice (some ⟨g1, 0, none⟩) n4 k1, .int .i64 t.preempts, .int .i64 t.shifts] 42)) from ⟨HM4.out.keep hK.2, HB4.out.below hK.2 hzW, BV, L4.alloc _, hz3, by omega, by omega, by omega, by omega, by omega⟩)
  generalize hV : (w4.alloc (.cells #[.slice (some ⟨g1, 0, none⟩) n4 k1, .int .i64 t.preempts, .int .i64 t.shifts] 42)) = V at *
  generalize hh : (w4.heap.size) = h at NX ⊢
  clear hK hV hh hcx4 hfx4 hat4 hlt4 hown4 hb4 hk4 hsz4 L4 hgg BV
  rotate_left
  rename_i hK
  obtain ⟨L4, hnc, hmx, hgg⟩ := Lst.own HN4.out hown4
  have hne : W.heap.size + 1 ≠ g1 := by omega
  have B5 : Bf w4 (W.heap.size + 1) [.slice none 0 0, .int .i64 0, .int .i64 0] := Bf.far (by with_reducible (repeat (first | exact Bf.new _ _ _ (by first | rfl | (simp; done)) | refine Bf.drew ?_ | refine Bf.alloc ?_ _))) (by omega) hcx4 hfx4 (by first | (simp; done) | (simp; omega))
  have BV : Bf (((w4.setCell ⟨W.heap.size + 1, 0, none⟩ (.slice (some ⟨g1, 0, none⟩) n4 k1)).setCell ⟨W.heap.size + 1, 1, none⟩ (.int .i64 t.preempts)).setCell ⟨W.heap.size + 1, 2, none⟩ (.int .i64 t.shifts)) (W.heap.size + 1) [.slice (some ⟨g1, 0, none⟩) n4 k1, .int .i64 t.preempts, .int .i64 t.shifts] := ((B5.set 0 (.slice (some ⟨g1, 0, none⟩) n4 k1)).set 1 (.int .i64 t.preempts)).set 2 (.int .i64 t.shifts)
  have NX := Lib.hid (show Nx _ _ _ _ p pb (W.heap.size + 1) g1 n4 k1 t.preempts t.shifts t.pods w (((w4.setCell ⟨W.heap.size + 1, 0, none⟩ (.slice (some ⟨g1, 0, none⟩) n4 k1)).setCell ⟨W.heap.size + 1, 1, none⟩ (.int .i64 t.preempts)).setCell ⟨W.heap.size + 1, 2, none⟩ (.int .i64 t.shifts)) from ⟨HM4.out.keep hK.2, HB4.out.below hK.2 hzW, BV, ((L4.other (p := ⟨W.heap.size + 1, 0, none⟩) hne _).other (p := ⟨W.heap.size + 1, 1, none⟩) hne _).other (p := ⟨W.heap.size + 1, 2, none⟩) hne _, hz3, by omega, by omega, by omega, by omega, by omega⟩)
  generalize hV : (((w4.setCell ⟨W.heap.size + 1, 0, none⟩ (.slice (some ⟨g1, 0, none⟩) n4 k1)).setCell ⟨W.heap.size + 1, 1, none⟩ (.int .i64 t.preempts)).setCell ⟨W.heap.size + 1, 2, none⟩ (.int .i64 t.shifts)) = V at *
  generalize hh : (W.heap.size + 1) = h at NX ⊢
  clear hK hV hh hcx4 hfx4 hat4 hlt4 hown4 hb4 hk4 hsz4 L4 hgg hne B5 BV
  rotate_left
  rename_i hK
  obtain ⟨L4, hnc, hmx, hgg⟩ := Lst.own HN4.out hown4
  have hne : W.heap.size ≠ g1 := by omega
  have B5 : Bf w4 (W.heap.size) [.slice none 0 0, .int .i64 0, .int .i64 0] := Bf.far (by with_reducible (repeat (first | exact Bf.new _ _ _ (by first | rfl | (simp; done)) | refine Bf.drew ?_ | refine Bf.alloc ?_ _))) (by omega) hcx4 hfx4 (by first | (simp; done) | (simp; omega))
  have BV : Bf (((w4.setCell ⟨W.heap.size, 0, none⟩ (.slice (some ⟨g1, 0, none⟩) n4 k1)).setCell ⟨W.heap.size, 1, none⟩ (.int .i64 t.preempts)).setCell ⟨W.heap.size, 2, none⟩ (.int .i64 t.shifts)) (W.heap.size) [.slice (some ⟨g1, 0, none⟩) n4 k1, .int .i64 t.preempts, .int .i64 t.shifts] := ((B5.set 0 (.slice (some ⟨g1, 0, none⟩) n4 k1)).set 1 (.int .i64 t.preempts)).set 2 (.int .i64 t.shifts)
  have NX := Lib.hid (show Nx _ _ _ _ p pb (W.heap.size) g1 n4 k1 t.preempts t.shifts t.pods w (((w4.setCell ⟨W.heap.size, 0, none⟩ (.slice (some ⟨g1, 0, none⟩) n4 k1)).setCell ⟨W.heap.size, 1, none⟩ (.int .i64 t.preempts)).setCell ⟨W.heap.size, 2, none⟩ (.int .i64 t.shifts)) from ⟨HM4.out.keep hK.2, HB4.out.below hK.2 hzW, BV, ((L4.other (p := ⟨W.heap.size, 0, none⟩) hne _).other (p := ⟨W.heap.size, 1, none⟩) hne _).other (p := ⟨W.heap.size, 2, none⟩) hne _, hz3, by omega, by omega, by omega, by omega, by omega⟩)
  generalize hV : (((w4.setCell ⟨W.heap.size, 0, none⟩ (.slice (some ⟨g1, 0, none⟩) n4 k1)).setCell ⟨W.heap.size, 1, none⟩ (.int .i64 t.preempts)).setCell ⟨W.heap.size, 2, none⟩ (.int .i64 t.shifts)) = V at *
  generalize hh : (W.heap.size) = h at NX ⊢
  clear hK hV hh hcx4 hfx4 hat4 hlt4 hown4 hb4 hk4 hsz4 L4 hgg hne B5 BV
  rotate_left
  all_goals
    have HPZ := Lib.hid ((podZ_some hi HPI.out).trans HX.out)
    have NV := Lib.hid NX.out.bx
    obtain ⟨⟨p7, hpz⟩, ⟨x0, x1, x2, hxz⟩, ⟨f1, f2⟩, hgz⟩ := NX.out.facts
    obtain ⟨⟨a0, a1, a2⟩, ⟨a3, a4, a5⟩, ⟨a6, a7, a8⟩, a9, a10, a11, a12⟩ := NX.out.bx.facts
    by_cases hc : p.node = 0
    case pos =>
      have HE := Lib.hid (E7.out HWL.out HHE.out (by simp [canD, HPZ.out, hc]))
      have hd : (p.node == 0) = true := by simp [hc]
      have hd2 : (p.node != 0) = false := by simp [hc]
      clear hc
      obtain ⟨⟨r0, r1, r2⟩, ⟨z0, z1, z2⟩, hz⟩ := NV.out.facts2
      go_wp2
      refine bodyPost_ret (v := .tuple #[stateV none 0 0 0 0, .int .i64 7]) ?_ rfl ⟨_, by rw [HE.out], ?_⟩
      · simp [results, Tryz.results43, go_sem, *]
      · rw [HE.out]; first | exact NV.out.no | exact NV.out.no0
    have HE := Lib.hid (E0.out HWL.out HHE.out (by simp [canD, HPZ.out, hc]))
    have hd : (p.node == 0) = false := by simp [hc]
    have hd2 : (p.node != 0) = true := by simp [hc]
    have hil := Lib.hid hi
    have HLI := HX
    clear hc
    obtain ⟨y7, z7⟩ := NX.out.cells7 hil.out HLI.out
    go_upto_region 25 with fail
    have NY := Lib.hid (NX.out.node hil.out HLI.out 0)
    generalize (V.setCell ⟨g1, i * 8 + 7, none⟩ (.int .i64 0)) = V5 at *
    have HWV := HWA.out V5 NY.out.bx.below pod
    clear y7 z7 NX HWA a0 a1 a2 a3 a4 a5 a6 a7 a8 a9 a10 a11 a12 p7 hpz x0 x1 x2 hxz f1 f2 hgz
    obtain ⟨⟨p7, hpz⟩, ⟨x0, x1, x2, hxz⟩, ⟨f1, f2⟩, hgz⟩ := NY.out.facts
    obtain ⟨⟨a0, a1, a2⟩, ⟨a3, a4, a5⟩, ⟨a6, a7, a8⟩, a9, a10, a11, a12⟩ := NY.out.bx.facts
    go_wp2_with fail
    refine HWV.mono ?_
    rintro e w6 ⟨rfl, hb6⟩
    have NZ := Lib.hid (NY.out.keep hb6)
    clear HWV hb6 NY a0 a1 a2 a3 a4 a5 a6 a7 a8 a9 a10 a11 a12 p7 hpz x0 x1 x2 hxz f1 f2 hgz
    obtain ⟨⟨p7, hpz⟩, ⟨x0, x1, x2, hxz⟩, ⟨f1, f2⟩, hgz⟩ := NZ.out.facts
    obtain ⟨⟨a0, a1, a2⟩, ⟨a3, a4, a5⟩, ⟨a6, a7, a8⟩, a9, a10, a11, a12⟩ := NZ.out.bx.facts
    have HBH := Lib.hid (show behindD x t ⟨2, pod, 0, 0⟩ = ⟨t.pods.set i (goD p), t.preempts, t.shifts⟩ from by simp [behindD, idxD_at HPI.out, HPZ.out])
    obtain ⟨⟨r0, r1, r2⟩, ⟨z0, z1, z2⟩, hz⟩ := NZ.out.bx.facts2
    go_wp2
    refine bodyPost_ret (v := .tuple #[stateV (some ⟨g1, 0, none⟩) n4 k1 t.preempts t.shifts, .int .i64 0]) ?_ rfl ⟨_, by rw [HE.out], ?_⟩
    · simp [results, Tryz.results43, go_sem, *]
    · rw [HE.out]
      show StateTo (behindD _ _ _) _ _ _
      rw [HBH.out]
      exact NZ.out.done (by simp; exact HN4.out) hnc hmx
end Go.Proofs.YtpfjeoldgcepnaaGreatDoor
