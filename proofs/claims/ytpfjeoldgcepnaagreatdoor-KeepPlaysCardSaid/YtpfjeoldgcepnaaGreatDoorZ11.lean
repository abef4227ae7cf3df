/- Joined texts, part 11: VI OA OB OC OD BC BD ZB ZD OE PA PB. -/
import Derived.Test.YtpfjeoldgcepnaaGreatDoorZ10
import Derived.Test.YtpfjeoldgcepnaaGreatDoorZ09
import Derived.Deep.RegionHeldLaw
import Derived.Test.YtpfjeoldgcepnaaGreatDoorZ03
import Derived.Test.YtpfjeoldgcepnaaGreatDoorZ06
import Derived.Test.YtpfjeoldgcepnaaGreatDoorZ04
import Derived.Test.YtpfjeoldgcepnaaGreatDoorZ07
import Derived.BigQuiet
import Derived.Deep.CutRange
import Derived.Deep.RegionHeld3

/- One pod counted: the program's count of layer 13. -/
namespace Go.Proofs.YtpfjeoldgcepnaaGreatDoor
set_option linter.unusedSimpArgs false
open Go.RowKit
set_option linter.unusedVariables false

theorem Bf.cells8v {V : World} {b : Nat} {p : PodD} (h : Bf V b (cellsP p)) : (V.cell? ⟨b, 0, none⟩ = some (.int .i64 p.id) ∧ V.cell? ⟨b, 1, none⟩ = some (.int .i64 p.load) ∧ V.cell? ⟨b, 2, none⟩ = some (.int .i64 p.prio) ∧ V.cell? ⟨b, 3, none⟩ = some (.int .u64 p.req.a)) ∧
    V.cell? ⟨b, 4, none⟩ = some (.int .u64 p.req.b) ∧ V.cell? ⟨b, 5, none⟩ = some (.int .u64 p.req.c) ∧ V.cell? ⟨b, 6, none⟩ = some (.int .u64 p.req.d) ∧ V.cell? ⟨b, 7, none⟩ = some (.int .i64 p.node) ∧ b < V.heap.size :=
  ⟨⟨h.cell 0 _ rfl, h.cell 1 _ rfl, h.cell 2 _ rfl, h.cell 3 _ rfl⟩, h.cell 4 _ rfl, h.cell 5 _ rfl, h.cell 6 _ rfl, h.cell 7 _ rfl, h.lt⟩
theorem ats_run {M : MapsB} {n : Nat} {C : CntD} {V : World} (h : CntIs M n C V) {a b : Int} (ha : I64 a) (hb : I64 b) : (Instr.lookup 85 (.map (some M.a)) (.agg #[.int .i64 a, .int .i64 b]) false).run Tryz.prog V = .ok (.int .i64 (C.ats a b)) V := by
  obtain ⟨kl, hk⟩ := key_site ha hb
  exact h.ats.lookup (Go.Maps.Keyed.of_law siteLaw) Tryz.underlying85 (zeroInt _) hk
theorem inz_run {M : MapsB} {n : Nat} {C : CntD} {V : World} (h : CntIs M n C V) {a b : Int} (ha : I64 a) (hb : I64 b) : (Instr.lookup 86 (.map (some M.i)) (.agg #[.int .i64 a, .int .i64 b]) false).run Tryz.prog V = .ok (.int .i64 (C.inz a b)) V := by
  obtain ⟨kl, hk⟩ := key_area ha hb
  exact h.inz.lookup (Go.Maps.Keyed.of_law areaLaw) Tryz.underlying86 (zeroInt _) hk
theorem size_run {M : MapsB} {n : Nat} {C : CntD} {V : World} (h : CntIs M n C V) {a : Int} (ha : I64 a) : (Instr.lookup 83 (.map (some M.s)) (.int .i64 a) false).run Tryz.prog V = .ok (.int .i64 (C.size a)) V :=
  h.size.lookup intLaw Tryz.underlying83 (zeroInt _) (key_int ha)
theorem wrap_64 (x : Int) : IntKind.i64.wrap x = wrap64 x := by
  rw [IntKind.wrap_i64]
  unfold wrap64
  omega
theorem Only.of_drew {S : List Nat} {W w : World} (h : Only S W.drew w) : Only S W w := ⟨h.os, h.tape, h.output, h.size, h.block⟩
theorem ZoneIs.lookup_q {b : Nat} {zm : Int → Option Int} {w : World} (h : ZoneIs b zm w) {i q : Int} (hi : I64 i) (hq : zoneZ zm i = q) : (Instr.lookup 83 (.map (some b)) (.int .i64 i) false).run Tryz.prog w = .ok (.int .i64 q) w := by
  rw [← hq]; exact h.lookup hi
/-- Two boxes that a store into a map leaves. -/
theorem Bf.only {V V' : World} {b : Nat} {cs : List Value} {S : List Nat} (h : Bf V b cs) (hg : Only S V V') (hb : b ∉ S) : Bf V' b cs :=
  ⟨Nat.lt_of_lt_of_le h.lt hg.size, fun j u hu => (hg.cell (p := ⟨b, j, none⟩) h.lt hb).trans (h.cell j u hu), fun o => (hg.frozen (p := ⟨b, o, none⟩) h.lt hb).trans (h.frozen o)⟩

set_option maxHeartbeats 6400000 in
set_option maxRecDepth 100000 in
theorem countK_any {M : MapsB} {n : Nat} {C : CntD} {zm : Int → Option Int} {p : PodD} {d : Int} (hM : M.Apart) (hp : p.Ok) (hzm : ∀ i z, zm i = some z → I64 z) (hn : n + 1 < maxLen) (w : World) (h : CntIs M n C w) (hz : ZoneIs M.z zm w) :
    Calls Tryz.prog 65 #[M.val, aggP p, .int .i64 d] w fun e w' => e = .returned (.tuple #[]) ∧ CntIs M (n + 1) (countC zm C p d) w' ∧ Only [M.a, M.i, M.s] w w' := by
  have T0 : T2 M.cells (cellsP p) w ((w.alloc (.cells #[.map (some M.z), .map (some M.u), .map (some M.a), .map (some M.i), .map (some M.s)] 88)).alloc (.cells #[.int .i64 p.id, .int .i64 p.load, .int .i64 p.prio, .int .u64 p.req.a, .int .u64 p.req.b, .int .u64 p.req.c, .int .u64 p.req.d, .int .i64 p.node] 79)) := T2.new w M.cells (cellsP p) 88 79
  obtain ⟨a0, a1, a2, a3, a4, a5⟩ := T0.one.cells5v
  obtain ⟨⟨b0, b1, b2, b3⟩, b4, b5, b6, b7, b8⟩ := T0.two.cells8v
  have HM := Lib.hid hM
  have HT := Lib.hid T0
  have hC0 := h.below T0.below
  have hZ0 := hz.below T0.below
  have hlts := And.intro h.use.lt (And.intro h.ats.lt (And.intro h.inz.lt (And.intro h.size.lt hz.lt)))
  have HLT := Lib.hid hlts
  go_enter Tryz.func65, Tryz.ntmps65
  go_upto_region 1 with fail
  generalize hW : ((w.alloc (.cells #[.map (some M.z), .map (some M.u), .map (some M.a), .map (some M.i), .map (some M.s)] 88)).alloc (.cells #[.int .i64 p.id, .int .i64 p.load, .int .i64 p.prio, .int .u64 p.req.a, .int .u64 p.req.b, .int .u64 p.req.c, .int .u64 p.req.d, .int .i64 p.node] 79)) = W at *
  have HKW := Lib.hid T0.below
  -- the first map
  obtain ⟨kl1, hk1⟩ := key_site hp.2.1 hp.2.2.2.2
  obtain ⟨st1, w1, r1, t1, g1, hst1⟩ := Tells.entry (w := W.drew) hC0.ats siteLaw Tryz.underlying85 zeroInt (Nat.lt_of_succ_lt hn) hk1
  obtain ⟨w2, r2, t2, g2⟩ := hst1 (.int .i64 (wrap64 (C.ats p.load p.node + d))) (fTwo (upd2 C.ats p.load p.node (wrap64 (C.ats p.load p.node + d)))) fTwo_upd.1 fTwo_upd.2
  have l0 : (Instr.lookup 85 (.map (some M.a)) (.agg #[.int .i64 p.load, .int .i64 p.node]) false).run Tryz.prog W.drew = .ok (.int .i64 (C.ats p.load p.node)) W.drew := ats_run (V := W.drew) ⟨hC0.use, hC0.ats, hC0.inz, hC0.size⟩ hp.2.1 hp.2.2.2.2
  have l1 : (Instr.lookup 85 (.map (some M.a)) (.agg #[.int .i64 p.load, .int .i64 p.node]) false).run Tryz.prog w1 = .ok (.int .i64 (C.ats p.load p.node)) w1 := t1.lookup (Go.Maps.Keyed.of_law siteLaw) Tryz.underlying85 (zeroInt _) hk1
  have e1 : fTwo C.ats (.agg #[.int .i64 p.load, .int .i64 p.node]) = .int .i64 (C.ats p.load p.node) := rfl
  rw [e1] at r1
  rw [← wrap_64] at r2
  have o1 : Only [M.a] W w1 := Only.of_drew (Only.grown g1 (List.mem_singleton.2 rfl))
  have o2 : Only [M.a] W w2 := Only.of_drew (Only.grown g2 (List.mem_singleton.2 rfl))
  have hna : w.heap.size ∉ [M.a] ∧ w.heap.size + 1 ∉ [M.a] := ⟨fun e => by have := List.mem_singleton.1 e; omega, fun e => by have := List.mem_singleton.1 e; omega⟩
  have s1 : Bf w1 w.heap.size M.cells ∧ Bf w1 (w.heap.size + 1) (cellsP p) := ⟨T0.one.only o1 hna.1, T0.two.only o1 hna.2⟩
  have s2 : Bf w2 w.heap.size M.cells ∧ Bf w2 (w.heap.size + 1) (cellsP p) := ⟨T0.one.only o2 hna.1, T0.two.only o2 hna.2⟩
  have HU2 := Lib.hid (hC0.use.kept o2 (fun e => by have h1 := List.mem_singleton.1 e; exact hM.ua h1))
  have HA2 := Lib.hid t2
  have HI2 := Lib.hid (hC0.inz.kept o2 (fun e => by have h1 := List.mem_singleton.1 e; exact hM.ai.symm h1))
  have HSZ2 := Lib.hid (hC0.size.kept o2 (fun e => by have h1 := List.mem_singleton.1 e; exact hM.aS.symm h1))
  have HZ2 := Lib.hid (hZ0.kept o2 (fun e => by have h1 := List.mem_singleton.1 e; exact hM.za h1))
  have HO2 := Lib.hid o2
  have HS2 := Lib.hid s2
  have k0 : W.drew.cell? ⟨w.heap.size, 2, none⟩ = some (.map (some M.a)) ∧ W.drew.cell? ⟨w.heap.size + 1, 1, none⟩ = some (.int .i64 p.load) ∧ W.drew.cell? ⟨w.heap.size + 1, 7, none⟩ = some (.int .i64 p.node) := ⟨a2, b1, b7⟩
  have k1 : w1.cell? ⟨w.heap.size, 2, none⟩ = some (.map (some M.a)) ∧ w1.cell? ⟨w.heap.size + 1, 1, none⟩ = some (.int .i64 p.load) ∧ w1.cell? ⟨w.heap.size + 1, 7, none⟩ = some (.int .i64 p.node) := ⟨s1.1.cell 2 _ rfl, s1.2.cell 1 _ rfl, s1.2.cell 7 _ rfl⟩
  have k2 : w2.cell? ⟨w.heap.size, 2, none⟩ = some (.map (some M.a)) ∧ w2.cell? ⟨w.heap.size + 1, 1, none⟩ = some (.int .i64 p.load) ∧ w2.cell? ⟨w.heap.size + 1, 7, none⟩ = some (.int .i64 p.node) := ⟨s2.1.cell 2 _ rfl, s2.2.cell 1 _ rfl, s2.2.cell 7 _ rfl⟩
  clear t1 t2 g1 g2 hst1 o1 o2 s1 s2 hC0 hZ0 hna e1 T0 hk1 hlts hW
  clear a0 a1 a2 a3 a4 a5 b0 b1 b2 b3 b4 b5 b6 b7 b8 h hz
  refine wp_region_noPanic ?_
  refine wp_region_held_drew (S := fun w' => w'.cell? ⟨w.heap.size, 2, none⟩ = some (.map (some M.a)) ∧ w'.cell? ⟨w.heap.size + 1, 1, none⟩ = some (.int .i64 p.load) ∧ w'.cell? ⟨w.heap.size + 1, 7, none⟩ = some (.int .i64 p.node)) (by kernel_rfl) (by exact k0) (fun hHeld => ?_)
  refine wpAnyH_take (i := 0) (v := ?v1_0) rfl (by kernel_rfl) (by kernel_rfl) (by kernel_rfl) (fun _ _ _ h => h) (Or.inl ⟨by rfl, ?y1_0⟩) (by assumption) ?r1_0
  case y1_0 => (intro w hSw; (try dsimp only at hSw); go_simp; try with_reducible rfl)
  try simp only [Act.put, List.setIfInBounds_toArray, List.set_cons_zero, List.set_cons_succ]
  refine wpAnyH_take (i := 1) (v := ?v2_1) rfl (by kernel_rfl) (by kernel_rfl) (by kernel_rfl) (fun _ _ _ h => h) (Or.inl ⟨by rfl, ?y2_1⟩) (by assumption) ?r2_1
  case y2_1 => (intro w hSw; (try dsimp only at hSw); go_simp; try with_reducible rfl)
  try simp only [Act.put, List.setIfInBounds_toArray, List.set_cons_zero, List.set_cons_succ]
  refine wpAnyH_take (i := 2) (v := ?v3_2) rfl (by kernel_rfl) (by kernel_rfl) (by kernel_rfl) (fun _ _ _ h => h) (Or.inl ⟨by rfl, ?y3_2⟩) (by assumption) ?r3_2
  case y3_2 => (intro w hSw; (try dsimp only at hSw); go_simp; try with_reducible rfl)
  try simp only [Act.put, List.setIfInBounds_toArray, List.set_cons_zero, List.set_cons_succ]
  refine wpAnyH_take (i := 3) (v := ?v4_3) rfl (by kernel_rfl) (by kernel_rfl) (by kernel_rfl) (fun _ _ _ h => h) (Or.inl ⟨by rfl, ?y4_3⟩) (by assumption) ?r4_3
  case y4_3 => (intro w hSw; (try dsimp only at hSw); go_simp; try with_reducible rfl)
  try simp only [Act.put, List.setIfInBounds_toArray, List.set_cons_zero, List.set_cons_succ]
  refine wpAnyH_take (i := 4) (v := ?v5_4) rfl (by kernel_rfl) (by kernel_rfl) (by kernel_rfl) (fun _ _ _ h => h) (Or.inl ⟨by rfl, ?y5_4⟩) (by assumption) ?r5_4
  case y5_4 => (intro w hSw; (try dsimp only at hSw); go_simp; try with_reducible rfl)
  try simp only [Act.put, List.setIfInBounds_toArray, List.set_cons_zero, List.set_cons_succ]
  refine wpAnyH_take (i := 5) (v := ?v6_5) rfl (by kernel_rfl) (by kernel_rfl) (by kernel_rfl) (fun _ _ _ h => h) (Or.inl ⟨by rfl, ?y6_5⟩) (by assumption) ?r6_5
  case y6_5 => (intro w hSw; (try dsimp only at hSw); go_simp; try with_reducible rfl)
  try simp only [Act.put, List.setIfInBounds_toArray, List.set_cons_zero, List.set_cons_succ]
  refine wpAnyH_take (i := 6) (v := ?v7_6) rfl (by kernel_rfl) (by kernel_rfl) (by kernel_rfl) (fun _ _ _ h => h) (Or.inl ⟨by rfl, ?y7_6⟩) (by assumption) ?r7_6
  case y7_6 => (intro w hSw; (try dsimp only at hSw); go_simp; try with_reducible rfl)
  try simp only [Act.put, List.setIfInBounds_toArray, List.set_cons_zero, List.set_cons_succ]
  refine wpAnyH_take (i := 8) (v := ?v8_8) rfl (by kernel_rfl) (by kernel_rfl) (by kernel_rfl) (fun _ _ _ h => h) (Or.inl ⟨by rfl, ?y8_8⟩) (by assumption) ?r8_8
  case y8_8 => (intro w hSw; (try dsimp only at hSw); go_simp; try with_reducible rfl)
  try simp only [Act.put, List.setIfInBounds_toArray, List.set_cons_zero, List.set_cons_succ]
  refine wpAnyH_ready (rs := [7, 10]) (by kernel_rfl) (by simp) ?_
  refine AllReadyH.cons rfl (fun K hK => ?wayA9) (AllReadyH.cons rfl (fun K hK => ?wayB9) AllReadyH.nil)
  case' wayA9 =>
    go_simp
    refine hK.out _ _ (by exact k0) (fun hHeld1 => ?_)
    clear hK K
    try simp only [Act.put, List.setIfInBounds_toArray, List.set_cons_zero, List.set_cons_succ]
    refine wpAnyH_take (i := 9) (v := ?v10_9) rfl (by kernel_rfl) (by kernel_rfl) (by kernel_rfl) (fun _ _ _ h => h) (Or.inl ⟨by rfl, ?y10_9⟩) (by assumption) ?r10_9
    case y10_9 => (intro w hSw; (try dsimp only at hSw); go_simp; try with_reducible rfl)
    try simp only [Act.put, List.setIfInBounds_toArray, List.set_cons_zero, List.set_cons_succ]
    refine wpAnyH_ready (rs := [10]) (by kernel_rfl) (by simp) ?_
    refine AllReadyH.cons rfl (fun K hK => ?_) AllReadyH.nil
    go_simp
    refine hK.out _ _ (by exact k1) (fun hHeld2 => ?_)
    clear hK K
    try simp only [Act.put, List.setIfInBounds_toArray, List.set_cons_zero, List.set_cons_succ]
    refine wpAnyH_take (i := 11) (v := ?v11_11) rfl (by kernel_rfl) (by kernel_rfl) (by kernel_rfl) (fun _ _ _ h => h) (Or.inl ⟨by rfl, ?y11_11⟩) (by assumption) ?r11_11
    case y11_11 => (intro w hSw; (try dsimp only at hSw); go_simp; try with_reducible rfl)
    try simp only [Act.put, List.setIfInBounds_toArray, List.set_cons_zero, List.set_cons_succ]
    refine wpAnyH_ready (rs := [12]) (by kernel_rfl) (by simp) ?_
    refine AllReadyH.cons rfl (fun K hK => ?_) AllReadyH.nil
    go_simp
    refine hK.out _ _ (by exact k2) (fun hHeld3 => ?_)
    clear hK K
    try simp only [Act.put, List.setIfInBounds_toArray, List.set_cons_zero, List.set_cons_succ]
    refine wpAnyH_done (by kernel_rfl) ?_ _
    refine NoPanic.normal ?_
    clear hHeld hHeld1 hHeld2 hHeld3
  case' wayB9 =>
    go_simp
    refine hK.out _ _ (by exact k1) (fun hHeld1 => ?_)
    clear hK K
    try simp only [Act.put, List.setIfInBounds_toArray, List.set_cons_zero, List.set_cons_succ]
    refine wpAnyH_take (i := 11) (v := ?v12_11) rfl (by kernel_rfl) (by kernel_rfl) (by kernel_rfl) (fun _ _ _ h => h) (Or.inl ⟨by rfl, ?y12_11⟩) (by assumption) ?r12_11
    case y12_11 => (intro w hSw; (try dsimp only at hSw); go_simp; try with_reducible rfl)
    try simp only [Act.put, List.setIfInBounds_toArray, List.set_cons_zero, List.set_cons_succ]
    refine wpAnyH_ready (rs := [7]) (by kernel_rfl) (by simp) ?_
    refine AllReadyH.cons rfl (fun K hK => ?_) AllReadyH.nil
    go_simp
    refine hK.out _ _ (by exact k1) (fun hHeld2 => ?_)
    clear hK K
    try simp only [Act.put, List.setIfInBounds_toArray, List.set_cons_zero, List.set_cons_succ]
    refine wpAnyH_take (i := 9) (v := ?v13_9) rfl (by kernel_rfl) (by kernel_rfl) (by kernel_rfl) (fun _ _ _ h => h) (Or.inl ⟨by rfl, ?y13_9⟩) (by assumption) ?r13_9
    case y13_9 => (intro w hSw; (try dsimp only at hSw); go_simp; try with_reducible rfl)
    try simp only [Act.put, List.setIfInBounds_toArray, List.set_cons_zero, List.set_cons_succ]
    refine wpAnyH_ready (rs := [12]) (by kernel_rfl) (by simp) ?_
    refine AllReadyH.cons rfl (fun K hK => ?_) AllReadyH.nil
    go_simp
    refine hK.out _ _ (by exact k2) (fun hHeld3 => ?_)
    clear hK K
    try simp only [Act.put, List.setIfInBounds_toArray, List.set_cons_zero, List.set_cons_succ]
    refine wpAnyH_done (by kernel_rfl) ?_ _
    refine NoPanic.normal ?_
    clear hHeld hHeld1 hHeld2 hHeld3
  ·
    go_upto_region 2 with fail
    clear k0 k1 k2 r1 r2 l0 l1
    have hlts := HLT.out
    have hM := HM.out
    have hzl := HZ2.out.lookup (i := p.node) hp.2.2.2.2
    obtain ⟨kl2, hk2⟩ := key_area hp.2.1 (zoneZ_64 hzm p.node)
    generalize hq : zoneZ zm p.node = q at *
    obtain ⟨st2, w3, r3, t3, g3, hst3⟩ := Tells.entry (w := w2.drew) HI2.out areaLaw Tryz.underlying86 zeroInt (Nat.lt_of_succ_lt hn) hk2
    obtain ⟨w4, r4, t4, g4⟩ := hst3 (.int .i64 (wrap64 (C.inz p.load q + d))) (fTwo (upd2 C.inz p.load q (wrap64 (C.inz p.load q + d)))) fTwo_upd.1 fTwo_upd.2
    have l2 : (Instr.lookup 86 (.map (some M.i)) (.agg #[.int .i64 p.load, .int .i64 q]) false).run Tryz.prog w2.drew = .ok (.int .i64 (C.inz p.load q)) w2.drew := Tells.lookup (w := w2.drew) HI2.out (Go.Maps.Keyed.of_law areaLaw) Tryz.underlying86 (zeroInt _) hk2
    have l3 : (Instr.lookup 86 (.map (some M.i)) (.agg #[.int .i64 p.load, .int .i64 q]) false).run Tryz.prog w3 = .ok (.int .i64 (C.inz p.load q)) w3 := t3.lookup (Go.Maps.Keyed.of_law areaLaw) Tryz.underlying86 (zeroInt _) hk2
    have l4 : (Instr.lookup 83 (.map (some M.z)) (.int .i64 p.node) false).run Tryz.prog w2.drew = .ok (.int .i64 q) w2.drew := ZoneIs.lookup_q (w := w2.drew) HZ2.out hp.2.2.2.2 hq
    have e3 : fTwo C.inz (.agg #[.int .i64 p.load, .int .i64 q]) = .int .i64 (C.inz p.load q) := rfl
    rw [e3] at r3
    rw [← wrap_64] at r4
    have o3 : Only [M.i] w2 w3 := Only.of_drew (Only.grown g3 (List.mem_singleton.2 rfl))
    have o4 : Only [M.i] w2 w4 := Only.of_drew (Only.grown g4 (List.mem_singleton.2 rfl))
    have hlw := HKW.out.size
    have hna : w.heap.size ∉ [M.i] ∧ w.heap.size + 1 ∉ [M.i] := ⟨fun e => by have := List.mem_singleton.1 e; omega, fun e => by have := List.mem_singleton.1 e; omega⟩
    have l5 : (Instr.lookup 83 (.map (some M.z)) (.int .i64 p.node) false).run Tryz.prog w3 = .ok (.int .i64 q) w3 := ZoneIs.lookup_q (HZ2.out.kept o3 (fun e => by have h1 := List.mem_singleton.1 e; exact hM.zi h1)) hp.2.2.2.2 hq
    have l6 : (Instr.lookup 83 (.map (some M.z)) (.int .i64 p.node) false).run Tryz.prog w4 = .ok (.int .i64 q) w4 := ZoneIs.lookup_q (HZ2.out.kept o4 (fun e => by have h1 := List.mem_singleton.1 e; exact hM.zi h1)) hp.2.2.2.2 hq
    have s3 : Bf w3 w.heap.size M.cells ∧ Bf w3 (w.heap.size + 1) (cellsP p) := ⟨HS2.out.1.only o3 hna.1, HS2.out.2.only o3 hna.2⟩
    have s4 : Bf w4 w.heap.size M.cells ∧ Bf w4 (w.heap.size + 1) (cellsP p) := ⟨HS2.out.1.only o4 hna.1, HS2.out.2.only o4 hna.2⟩
    have HS4 := Lib.hid s4
    have HU4 := Lib.hid (HU2.out.kept o4 (fun e => by have h1 := List.mem_singleton.1 e; exact hM.ui h1))
    have HA4 := Lib.hid (HA2.out.kept o4 (fun e => by have h1 := List.mem_singleton.1 e; exact hM.ai h1))
    have HI4 := Lib.hid t4
    have HSZ4 := Lib.hid (HSZ2.out.kept o4 (fun e => by have h1 := List.mem_singleton.1 e; exact hM.iS.symm h1))
    have HO4 := Lib.hid o4
    have k3 : w2.drew.cell? ⟨w.heap.size, 3, none⟩ = some (.map (some M.i)) ∧ w2.drew.cell? ⟨w.heap.size, 0, none⟩ = some (.map (some M.z)) ∧ w2.drew.cell? ⟨w.heap.size + 1, 1, none⟩ = some (.int .i64 p.load) ∧ w2.drew.cell? ⟨w.heap.size + 1, 7, none⟩ = some (.int .i64 p.node) ∧ (Instr.lookup 83 (.map (some M.z)) (.int .i64 p.node) false).run Tryz.prog w2.drew = .ok (.int .i64 q) w2.drew := ⟨HS2.out.1.cell 3 _ rfl, HS2.out.1.cell 0 _ rfl, HS2.out.2.cell 1 _ rfl, HS2.out.2.cell 7 _ rfl, l4⟩
    have k4 : w3.cell? ⟨w.heap.size, 3, none⟩ = some (.map (some M.i)) ∧ w3.cell? ⟨w.heap.size, 0, none⟩ = some (.map (some M.z)) ∧ w3.cell? ⟨w.heap.size + 1, 1, none⟩ = some (.int .i64 p.load) ∧ w3.cell? ⟨w.heap.size + 1, 7, none⟩ = some (.int .i64 p.node) ∧ (Instr.lookup 83 (.map (some M.z)) (.int .i64 p.node) false).run Tryz.prog w3 = .ok (.int .i64 q) w3 := ⟨s3.1.cell 3 _ rfl, s3.1.cell 0 _ rfl, s3.2.cell 1 _ rfl, s3.2.cell 7 _ rfl, l5⟩
    have k5 : w4.cell? ⟨w.heap.size, 3, none⟩ = some (.map (some M.i)) ∧ w4.cell? ⟨w.heap.size, 0, none⟩ = some (.map (some M.z)) ∧ w4.cell? ⟨w.heap.size + 1, 1, none⟩ = some (.int .i64 p.load) ∧ w4.cell? ⟨w.heap.size + 1, 7, none⟩ = some (.int .i64 p.node) ∧ (Instr.lookup 83 (.map (some M.z)) (.int .i64 p.node) false).run Tryz.prog w4 = .ok (.int .i64 q) w4 := ⟨s4.1.cell 3 _ rfl, s4.1.cell 0 _ rfl, s4.2.cell 1 _ rfl, s4.2.cell 7 _ rfl, l6⟩
    clear t3 t4 g3 g4 hst3 o3 o4 s3 s4 hna e3 hk2 hlts hzl l4 l5 l6
    refine wp_region_noPanic ?_
    refine wp_region_held_drew (S := fun w' => w'.cell? ⟨w.heap.size, 3, none⟩ = some (.map (some M.i)) ∧ w'.cell? ⟨w.heap.size, 0, none⟩ = some (.map (some M.z)) ∧ w'.cell? ⟨w.heap.size + 1, 1, none⟩ = some (.int .i64 p.load) ∧ w'.cell? ⟨w.heap.size + 1, 7, none⟩ = some (.int .i64 p.node) ∧ (Instr.lookup 83 (.map (some M.z)) (.int .i64 p.node) false).run Tryz.prog w' = .ok (.int .i64 q) w') (by kernel_rfl) (by exact k3) (fun hHeld => ?_)
    refine wpAnyH_take (i := 0) (v := ?v14_0) rfl (by kernel_rfl) (by kernel_rfl) (by kernel_rfl) (fun _ _ _ h => h) (Or.inl ⟨by rfl, ?y14_0⟩) (by assumption) ?r14_0
    case y14_0 => (intro w hSw; (try dsimp only at hSw); go_simp; try with_reducible rfl)
    try simp only [Act.put, List.setIfInBounds_toArray, List.set_cons_zero, List.set_cons_succ]
    refine wpAnyH_take (i := 1) (v := ?v15_1) rfl (by kernel_rfl) (by kernel_rfl) (by kernel_rfl) (fun _ _ _ h => h) (Or.inl ⟨by rfl, ?y15_1⟩) (by assumption) ?r15_1
    case y15_1 => (intro w hSw; (try dsimp only at hSw); go_simp; try with_reducible rfl)
    try simp only [Act.put, List.setIfInBounds_toArray, List.set_cons_zero, List.set_cons_succ]
    refine wpAnyH_take (i := 2) (v := ?v16_2) rfl (by kernel_rfl) (by kernel_rfl) (by kernel_rfl) (fun _ _ _ h => h) (Or.inl ⟨by rfl, ?y16_2⟩) (by assumption) ?r16_2
    case y16_2 => (intro w hSw; (try dsimp only at hSw); go_simp; try with_reducible rfl)
    try simp only [Act.put, List.setIfInBounds_toArray, List.set_cons_zero, List.set_cons_succ]
    refine wpAnyH_take (i := 3) (v := ?v17_3) rfl (by kernel_rfl) (by kernel_rfl) (by kernel_rfl) (fun _ _ _ h => h) (Or.inl ⟨by rfl, ?y17_3⟩) (by assumption) ?r17_3
    case y17_3 => (intro w hSw; (try dsimp only at hSw); go_simp; try with_reducible rfl)
    try simp only [Act.put, List.setIfInBounds_toArray, List.set_cons_zero, List.set_cons_succ]
    refine wpAnyH_take (i := 4) (v := ?v18_4) rfl (by kernel_rfl) (by kernel_rfl) (by kernel_rfl) (fun _ _ _ h => h) (Or.inl ⟨by rfl, ?y18_4⟩) (by assumption) ?r18_4
    case y18_4 => (intro w hSw; (try dsimp only at hSw); go_simp; try with_reducible rfl)
    try simp only [Act.put, List.setIfInBounds_toArray, List.set_cons_zero, List.set_cons_succ]
    refine wpAnyH_take (i := 5) (v := ?v19_5) rfl (by kernel_rfl) (by kernel_rfl) (by kernel_rfl) (fun _ _ _ h => h) (Or.inl ⟨by rfl, ?y19_5⟩) (by assumption) ?r19_5
    case y19_5 => (intro w hSw; (try dsimp only at hSw); go_simp; try with_reducible rfl)
    try simp only [Act.put, List.setIfInBounds_toArray, List.set_cons_zero, List.set_cons_succ]
    refine wpAnyH_take (i := 6) (v := ?v20_6) rfl (by kernel_rfl) (by kernel_rfl) (by kernel_rfl) (fun _ _ _ h => h) (Or.inl ⟨by rfl, ?y20_6⟩) (by assumption) ?r20_6
    case y20_6 => (intro w hSw; (try dsimp only at hSw); go_simp; try with_reducible rfl)
    try simp only [Act.put, List.setIfInBounds_toArray, List.set_cons_zero, List.set_cons_succ]
    refine wpAnyH_take (i := 7) (v := ?v21_7) rfl (by kernel_rfl) (by kernel_rfl) (by kernel_rfl) (fun _ _ _ h => h) (Or.inl ⟨by rfl, ?y21_7⟩) (by assumption) ?r21_7
    case y21_7 => (intro w hSw; (try dsimp only at hSw); go_simp; try with_reducible rfl)
    try simp only [Act.put, List.setIfInBounds_toArray, List.set_cons_zero, List.set_cons_succ]
    refine wpAnyH_take (i := 8) (v := ?v22_8) rfl (by kernel_rfl) (by kernel_rfl) (by kernel_rfl) (fun _ _ _ h => h) (Or.inl ⟨by rfl, ?y22_8⟩) (by assumption) ?r22_8
    case y22_8 => (intro w hSw; (try dsimp only at hSw); go_simp; try with_reducible rfl)
    try simp only [Act.put, List.setIfInBounds_toArray, List.set_cons_zero, List.set_cons_succ]
    refine wpAnyH_take (i := 9) (v := ?v23_9) rfl (by kernel_rfl) (by kernel_rfl) (by kernel_rfl) (fun _ _ _ h => h) (Or.inl ⟨by rfl, ?y23_9⟩) (by assumption) ?r23_9
    case y23_9 => (intro w hSw; (try dsimp only at hSw); go_simp; try with_reducible rfl)
    try simp only [Act.put, List.setIfInBounds_toArray, List.set_cons_zero, List.set_cons_succ]
    refine wpAnyH_take (i := 11) (v := ?v24_11) rfl (by kernel_rfl) (by kernel_rfl) (by kernel_rfl) (fun _ _ _ h => h) (Or.inl ⟨by rfl, ?y24_11⟩) (by assumption) ?r24_11
    case y24_11 => (intro w hSw; (try dsimp only at hSw); go_simp; try with_reducible rfl)
    try simp only [Act.put, List.setIfInBounds_toArray, List.set_cons_zero, List.set_cons_succ]
    refine wpAnyH_ready (rs := [10, 13]) (by kernel_rfl) (by simp) ?_
    refine AllReadyH.cons rfl (fun K hK => ?wayA25) (AllReadyH.cons rfl (fun K hK => ?wayB25) AllReadyH.nil)
    case' wayA25 =>
      go_simp
      refine hK.out _ _ (by exact k3) (fun hHeld1 => ?_)
      clear hK K
      try simp only [Act.put, List.setIfInBounds_toArray, List.set_cons_zero, List.set_cons_succ]
      refine wpAnyH_take (i := 12) (v := ?v26_12) rfl (by kernel_rfl) (by kernel_rfl) (by kernel_rfl) (fun _ _ _ h => h) (Or.inl ⟨by rfl, ?y26_12⟩) (by assumption) ?r26_12
      case y26_12 => (intro w hSw; (try dsimp only at hSw); go_simp; try with_reducible rfl)
      try simp only [Act.put, List.setIfInBounds_toArray, List.set_cons_zero, List.set_cons_succ]
      refine wpAnyH_ready (rs := [13]) (by kernel_rfl) (by simp) ?_
      refine AllReadyH.cons rfl (fun K hK => ?_) AllReadyH.nil
      go_simp
      refine hK.out _ _ (by exact k4) (fun hHeld2 => ?_)
      clear hK K
      try simp only [Act.put, List.setIfInBounds_toArray, List.set_cons_zero, List.set_cons_succ]
      refine wpAnyH_take (i := 14) (v := ?v27_14) rfl (by kernel_rfl) (by kernel_rfl) (by kernel_rfl) (fun _ _ _ h => h) (Or.inl ⟨by rfl, ?y27_14⟩) (by assumption) ?r27_14
      case y27_14 => (intro w hSw; (try dsimp only at hSw); go_simp; try with_reducible rfl)
      try simp only [Act.put, List.setIfInBounds_toArray, List.set_cons_zero, List.set_cons_succ]
      refine wpAnyH_ready (rs := [15]) (by kernel_rfl) (by simp) ?_
      refine AllReadyH.cons rfl (fun K hK => ?_) AllReadyH.nil
      go_simp
      refine hK.out _ _ (by exact k5) (fun hHeld3 => ?_)
      clear hK K
      try simp only [Act.put, List.setIfInBounds_toArray, List.set_cons_zero, List.set_cons_succ]
      refine wpAnyH_done (by kernel_rfl) ?_ _
      refine NoPanic.normal ?_
      clear hHeld hHeld1 hHeld2 hHeld3
    case' wayB25 =>
      go_simp
      refine hK.out _ _ (by exact k4) (fun hHeld1 => ?_)
      clear hK K
      try simp only [Act.put, List.setIfInBounds_toArray, List.set_cons_zero, List.set_cons_succ]
      refine wpAnyH_take (i := 14) (v := ?v28_14) rfl (by kernel_rfl) (by kernel_rfl) (by kernel_rfl) (fun _ _ _ h => h) (Or.inl ⟨by rfl, ?y28_14⟩) (by assumption) ?r28_14
      case y28_14 => (intro w hSw; (try dsimp only at hSw); go_simp; try with_reducible rfl)
      try simp only [Act.put, List.setIfInBounds_toArray, List.set_cons_zero, List.set_cons_succ]
      refine wpAnyH_ready (rs := [10]) (by kernel_rfl) (by simp) ?_
      refine AllReadyH.cons rfl (fun K hK => ?_) AllReadyH.nil
      go_simp
      refine hK.out _ _ (by exact k4) (fun hHeld2 => ?_)
      clear hK K
      try simp only [Act.put, List.setIfInBounds_toArray, List.set_cons_zero, List.set_cons_succ]
      refine wpAnyH_take (i := 12) (v := ?v29_12) rfl (by kernel_rfl) (by kernel_rfl) (by kernel_rfl) (fun _ _ _ h => h) (Or.inl ⟨by rfl, ?y29_12⟩) (by assumption) ?r29_12
      case y29_12 => (intro w hSw; (try dsimp only at hSw); go_simp; try with_reducible rfl)
      try simp only [Act.put, List.setIfInBounds_toArray, List.set_cons_zero, List.set_cons_succ]
      refine wpAnyH_ready (rs := [15]) (by kernel_rfl) (by simp) ?_
      refine AllReadyH.cons rfl (fun K hK => ?_) AllReadyH.nil
      go_simp
      refine hK.out _ _ (by exact k5) (fun hHeld3 => ?_)
      clear hK K
      try simp only [Act.put, List.setIfInBounds_toArray, List.set_cons_zero, List.set_cons_succ]
      refine wpAnyH_done (by kernel_rfl) ?_ _
      refine NoPanic.normal ?_
      clear hHeld hHeld1 hHeld2 hHeld3
    all_goals
      go_upto_region 3 with fail
      have l7 : (Instr.lookup 83 (.map (some M.s)) (.int .i64 p.load) false).run Tryz.prog w4 = .ok (.int .i64 (C.size p.load)) w4 := HSZ4.out.lookup intLaw Tryz.underlying83 (zeroInt _) (key_int hp.2.1)
      have c4 := HS4.out.1.cell 4 _ rfl
      have c1 := HS4.out.2.cell 1 _ rfl
      clear k3 k4 k5 r3 r4 l2 l3
      go_wp2_with (at_mapUpdate; refine wpList_update_tells _ rfl _ _ _ 83 rfl 3 3 intLaw Tryz.underlying83 (.int .i64 0) M.s n _ rfl HSZ4.out (Nat.lt_of_succ_lt hn) _ _ _ rfl rfl (key_int hp.2.1) (fOne (.int .i64 0) fun i => .int .i64 (upd1 C.size p.load (wrap64 (C.size p.load + d)) i)) (by first | exact (fOne_upd (g := Value.int .i64)).1 | (rw [wrap_64]; exact (fOne_upd (g := Value.int .i64)).1)) (fOne_upd (g := Value.int .i64)).2 ?_; intro w5 t5 g5)
      go_end0
      have o5 : Only [M.s] w4 w5 := Only.grown g5 (List.mem_singleton.2 rfl)
      have hM := HM.out
      refine ⟨rfl, ?_, ?_⟩
      · have hcc : countC zm C p d = ⟨C.use, upd2 C.ats p.load p.node (wrap64 (C.ats p.load p.node + d)), upd2 C.inz p.load q (wrap64 (C.inz p.load q + d)), upd1 C.size p.load (wrap64 (C.size p.load + d))⟩ := by unfold countC; rw [hq]
        rw [hcc]
        exact ⟨(HU4.out.kept o5 (fun e => by have h1 := List.mem_singleton.1 e; exact hM.us h1)).mono (Nat.le_succ _), HA4.out.kept o5 (fun e => by have h1 := List.mem_singleton.1 e; exact hM.aS h1), HI4.out.kept o5 (fun e => by have h1 := List.mem_singleton.1 e; exact hM.iS h1), t5⟩
      · exact (((Only.of_below (S := [M.a, M.i, M.s]) HKW.out (fun i h1 h2 => by omega)).trans (HO2.out.mono (by simp))).trans (HO4.out.mono (by simp))).trans (o5.mono (by simp))
  ·
    go_upto_region 2 with fail
    clear k0 k1 k2 r1 r2 l0 l1
    have hlts := HLT.out
    have hM := HM.out
    have hzl := HZ2.out.lookup (i := p.node) hp.2.2.2.2
    obtain ⟨kl2, hk2⟩ := key_area hp.2.1 (zoneZ_64 hzm p.node)
    generalize hq : zoneZ zm p.node = q at *
    obtain ⟨st2, w3, r3, t3, g3, hst3⟩ := Tells.entry (w := w2.drew) HI2.out areaLaw Tryz.underlying86 zeroInt (Nat.lt_of_succ_lt hn) hk2
    obtain ⟨w4, r4, t4, g4⟩ := hst3 (.int .i64 (wrap64 (C.inz p.load q + d))) (fTwo (upd2 C.inz p.load q (wrap64 (C.inz p.load q + d)))) fTwo_upd.1 fTwo_upd.2
    have l2 : (Instr.lookup 86 (.map (some M.i)) (.agg #[.int .i64 p.load, .int .i64 q]) false).run Tryz.prog w2.drew = .ok (.int .i64 (C.inz p.load q)) w2.drew := Tells.lookup (w := w2.drew) HI2.out (Go.Maps.Keyed.of_law areaLaw) Tryz.underlying86 (zeroInt _) hk2
    have l3 : (Instr.lookup 86 (.map (some M.i)) (.agg #[.int .i64 p.load, .int .i64 q]) false).run Tryz.prog w3 = .ok (.int .i64 (C.inz p.load q)) w3 := t3.lookup (Go.Maps.Keyed.of_law areaLaw) Tryz.underlying86 (zeroInt _) hk2
    have l4 : (Instr.lookup 83 (.map (some M.z)) (.int .i64 p.node) false).run Tryz.prog w2.drew = .ok (.int .i64 q) w2.drew := ZoneIs.lookup_q (w := w2.drew) HZ2.out hp.2.2.2.2 hq
    have e3 : fTwo C.inz (.agg #[.int .i64 p.load, .int .i64 q]) = .int .i64 (C.inz p.load q) := rfl
    rw [e3] at r3
    rw [← wrap_64] at r4
    have o3 : Only [M.i] w2 w3 := Only.of_drew (Only.grown g3 (List.mem_singleton.2 rfl))
    have o4 : Only [M.i] w2 w4 := Only.of_drew (Only.grown g4 (List.mem_singleton.2 rfl))
    have hlw := HKW.out.size
    have hna : w.heap.size ∉ [M.i] ∧ w.heap.size + 1 ∉ [M.i] := ⟨fun e => by have := List.mem_singleton.1 e; omega, fun e => by have := List.mem_singleton.1 e; omega⟩
    have l5 : (Instr.lookup 83 (.map (some M.z)) (.int .i64 p.node) false).run Tryz.prog w3 = .ok (.int .i64 q) w3 := ZoneIs.lookup_q (HZ2.out.kept o3 (fun e => by have h1 := List.mem_singleton.1 e; exact hM.zi h1)) hp.2.2.2.2 hq
    have l6 : (Instr.lookup 83 (.map (some M.z)) (.int .i64 p.node) false).run Tryz.prog w4 = .ok (.int .i64 q) w4 := ZoneIs.lookup_q (HZ2.out.kept o4 (fun e => by have h1 := List.mem_singleton.1 e; exact hM.zi h1)) hp.2.2.2.2 hq
    have s3 : Bf w3 w.heap.size M.cells ∧ Bf w3 (w.heap.size + 1) (cellsP p) := ⟨HS2.out.1.only o3 hna.1, HS2.out.2.only o3 hna.2⟩
    have s4 : Bf w4 w.heap.size M.cells ∧ Bf w4 (w.heap.size + 1) (cellsP p) := ⟨HS2.out.1.only o4 hna.1, HS2.out.2.only o4 hna.2⟩
    have HS4 := Lib.hid s4
    have HU4 := Lib.hid (HU2.out.kept o4 (fun e => by have h1 := List.mem_singleton.1 e; exact hM.ui h1))
    have HA4 := Lib.hid (HA2.out.kept o4 (fun e => by have h1 := List.mem_singleton.1 e; exact hM.ai h1))
    have HI4 := Lib.hid t4
    have HSZ4 := Lib.hid (HSZ2.out.kept o4 (fun e => by have h1 := List.mem_singleton.1 e; exact hM.iS.symm h1))
    have HO4 := Lib.hid o4
    have k3 : w2.drew.cell? ⟨w.heap.size, 3, none⟩ = some (.map (some M.i)) ∧ w2.drew.cell? ⟨w.heap.size, 0, none⟩ = some (.map (some M.z)) ∧ w2.drew.cell? ⟨w.heap.size + 1, 1, none⟩ = some (.int .i64 p.load) ∧ w2.drew.cell? ⟨w.heap.size + 1, 7, none⟩ = some (.int .i64 p.node) ∧ (Instr.lookup 83 (.map (some M.z)) (.int .i64 p.node) false).run Tryz.prog w2.drew = .ok (.int .i64 q) w2.drew := ⟨HS2.out.1.cell 3 _ rfl, HS2.out.1.cell 0 _ rfl, HS2.out.2.cell 1 _ rfl, HS2.out.2.cell 7 _ rfl, l4⟩
    have k4 : w3.cell? ⟨w.heap.size, 3, none⟩ = some (.map (some M.i)) ∧ w3.cell? ⟨w.heap.size, 0, none⟩ = some (.map (some M.z)) ∧ w3.cell? ⟨w.heap.size + 1, 1, none⟩ = some (.int .i64 p.load) ∧ w3.cell? ⟨w.heap.size + 1, 7, none⟩ = some (.int .i64 p.node) ∧ (Instr.lookup 83 (.map (some M.z)) (.int .i64 p.node) false).run Tryz.prog w3 = .ok (.int .i64 q) w3 := ⟨s3.1.cell 3 _ rfl, s3.1.cell 0 _ rfl, s3.2.cell 1 _ rfl, s3.2.cell 7 _ rfl, l5⟩
    have k5 : w4.cell? ⟨w.heap.size, 3, none⟩ = some (.map (some M.i)) ∧ w4.cell? ⟨w.heap.size, 0, none⟩ = some (.map (some M.z)) ∧ w4.cell? ⟨w.heap.size + 1, 1, none⟩ = some (.int .i64 p.load) ∧ w4.cell? ⟨w.heap.size + 1, 7, none⟩ = some (.int .i64 p.node) ∧ (Instr.lookup 83 (.map (some M.z)) (.int .i64 p.node) false).run Tryz.prog w4 = .ok (.int .i64 q) w4 := ⟨s4.1.cell 3 _ rfl, s4.1.cell 0 _ rfl, s4.2.cell 1 _ rfl, s4.2.cell 7 _ rfl, l6⟩
    clear t3 t4 g3 g4 hst3 o3 o4 s3 s4 hna e3 hk2 hlts hzl l4 l5 l6
    refine wp_region_noPanic ?_
    refine wp_region_held_drew (S := fun w' => w'.cell? ⟨w.heap.size, 3, none⟩ = some (.map (some M.i)) ∧ w'.cell? ⟨w.heap.size, 0, none⟩ = some (.map (some M.z)) ∧ w'.cell? ⟨w.heap.size + 1, 1, none⟩ = some (.int .i64 p.load) ∧ w'.cell? ⟨w.heap.size + 1, 7, none⟩ = some (.int .i64 p.node) ∧ (Instr.lookup 83 (.map (some M.z)) (.int .i64 p.node) false).run Tryz.prog w' = .ok (.int .i64 q) w') (by kernel_rfl) (by exact k3) (fun hHeld => ?_)
    refine wpAnyH_take (i := 0) (v := ?v30_0) rfl (by kernel_rfl) (by kernel_rfl) (by kernel_rfl) (fun _ _ _ h => h) (Or.inl ⟨by rfl, ?y30_0⟩) (by assumption) ?r30_0
    case y30_0 => (intro w hSw; (try dsimp only at hSw); go_simp; try with_reducible rfl)
    try simp only [Act.put, List.setIfInBounds_toArray, List.set_cons_zero, List.set_cons_succ]
    refine wpAnyH_take (i := 1) (v := ?v31_1) rfl (by kernel_rfl) (by kernel_rfl) (by kernel_rfl) (fun _ _ _ h => h) (Or.inl ⟨by rfl, ?y31_1⟩) (by assumption) ?r31_1
    case y31_1 => (intro w hSw; (try dsimp only at hSw); go_simp; try with_reducible rfl)
    try simp only [Act.put, List.setIfInBounds_toArray, List.set_cons_zero, List.set_cons_succ]
    refine wpAnyH_take (i := 2) (v := ?v32_2) rfl (by kernel_rfl) (by kernel_rfl) (by kernel_rfl) (fun _ _ _ h => h) (Or.inl ⟨by rfl, ?y32_2⟩) (by assumption) ?r32_2
    case y32_2 => (intro w hSw; (try dsimp only at hSw); go_simp; try with_reducible rfl)
    try simp only [Act.put, List.setIfInBounds_toArray, List.set_cons_zero, List.set_cons_succ]
    refine wpAnyH_take (i := 3) (v := ?v33_3) rfl (by kernel_rfl) (by kernel_rfl) (by kernel_rfl) (fun _ _ _ h => h) (Or.inl ⟨by rfl, ?y33_3⟩) (by assumption) ?r33_3
    case y33_3 => (intro w hSw; (try dsimp only at hSw); go_simp; try with_reducible rfl)
    try simp only [Act.put, List.setIfInBounds_toArray, List.set_cons_zero, List.set_cons_succ]
    refine wpAnyH_take (i := 4) (v := ?v34_4) rfl (by kernel_rfl) (by kernel_rfl) (by kernel_rfl) (fun _ _ _ h => h) (Or.inl ⟨by rfl, ?y34_4⟩) (by assumption) ?r34_4
    case y34_4 => (intro w hSw; (try dsimp only at hSw); go_simp; try with_reducible rfl)
    try simp only [Act.put, List.setIfInBounds_toArray, List.set_cons_zero, List.set_cons_succ]
    refine wpAnyH_take (i := 5) (v := ?v35_5) rfl (by kernel_rfl) (by kernel_rfl) (by kernel_rfl) (fun _ _ _ h => h) (Or.inl ⟨by rfl, ?y35_5⟩) (by assumption) ?r35_5
    case y35_5 => (intro w hSw; (try dsimp only at hSw); go_simp; try with_reducible rfl)
    try simp only [Act.put, List.setIfInBounds_toArray, List.set_cons_zero, List.set_cons_succ]
    refine wpAnyH_take (i := 6) (v := ?v36_6) rfl (by kernel_rfl) (by kernel_rfl) (by kernel_rfl) (fun _ _ _ h => h) (Or.inl ⟨by rfl, ?y36_6⟩) (by assumption) ?r36_6
    case y36_6 => (intro w hSw; (try dsimp only at hSw); go_simp; try with_reducible rfl)
    try simp only [Act.put, List.setIfInBounds_toArray, List.set_cons_zero, List.set_cons_succ]
    refine wpAnyH_take (i := 7) (v := ?v37_7) rfl (by kernel_rfl) (by kernel_rfl) (by kernel_rfl) (fun _ _ _ h => h) (Or.inl ⟨by rfl, ?y37_7⟩) (by assumption) ?r37_7
    case y37_7 => (intro w hSw; (try dsimp only at hSw); go_simp; try with_reducible rfl)
    try simp only [Act.put, List.setIfInBounds_toArray, List.set_cons_zero, List.set_cons_succ]
    refine wpAnyH_take (i := 8) (v := ?v38_8) rfl (by kernel_rfl) (by kernel_rfl) (by kernel_rfl) (fun _ _ _ h => h) (Or.inl ⟨by rfl, ?y38_8⟩) (by assumption) ?r38_8
    case y38_8 => (intro w hSw; (try dsimp only at hSw); go_simp; try with_reducible rfl)
    try simp only [Act.put, List.setIfInBounds_toArray, List.set_cons_zero, List.set_cons_succ]
    refine wpAnyH_take (i := 9) (v := ?v39_9) rfl (by kernel_rfl) (by kernel_rfl) (by kernel_rfl) (fun _ _ _ h => h) (Or.inl ⟨by rfl, ?y39_9⟩) (by assumption) ?r39_9
    case y39_9 => (intro w hSw; (try dsimp only at hSw); go_simp; try with_reducible rfl)
    try simp only [Act.put, List.setIfInBounds_toArray, List.set_cons_zero, List.set_cons_succ]
    refine wpAnyH_take (i := 11) (v := ?v40_11) rfl (by kernel_rfl) (by kernel_rfl) (by kernel_rfl) (fun _ _ _ h => h) (Or.inl ⟨by rfl, ?y40_11⟩) (by assumption) ?r40_11
    case y40_11 => (intro w hSw; (try dsimp only at hSw); go_simp; try with_reducible rfl)
    try simp only [Act.put, List.setIfInBounds_toArray, List.set_cons_zero, List.set_cons_succ]
    refine wpAnyH_ready (rs := [10, 13]) (by kernel_rfl) (by simp) ?_
    refine AllReadyH.cons rfl (fun K hK => ?wayA41) (AllReadyH.cons rfl (fun K hK => ?wayB41) AllReadyH.nil)
    case' wayA41 =>
      go_simp
      refine hK.out _ _ (by exact k3) (fun hHeld1 => ?_)
      clear hK K
      try simp only [Act.put, List.setIfInBounds_toArray, List.set_cons_zero, List.set_cons_succ]
      refine wpAnyH_take (i := 12) (v := ?v42_12) rfl (by kernel_rfl) (by kernel_rfl) (by kernel_rfl) (fun _ _ _ h => h) (Or.inl ⟨by rfl, ?y42_12⟩) (by assumption) ?r42_12
      case y42_12 => (intro w hSw; (try dsimp only at hSw); go_simp; try with_reducible rfl)
      try simp only [Act.put, List.setIfInBounds_toArray, List.set_cons_zero, List.set_cons_succ]
      refine wpAnyH_ready (rs := [13]) (by kernel_rfl) (by simp) ?_
      refine AllReadyH.cons rfl (fun K hK => ?_) AllReadyH.nil
      go_simp
      refine hK.out _ _ (by exact k4) (fun hHeld2 => ?_)
      clear hK K
      try simp only [Act.put, List.setIfInBounds_toArray, List.set_cons_zero, List.set_cons_succ]
      refine wpAnyH_take (i := 14) (v := ?v43_14) rfl (by kernel_rfl) (by kernel_rfl) (by kernel_rfl) (fun _ _ _ h => h) (Or.inl ⟨by rfl, ?y43_14⟩) (by assumption) ?r43_14
      case y43_14 => (intro w hSw; (try dsimp only at hSw); go_simp; try with_reducible rfl)
      try simp only [Act.put, List.setIfInBounds_toArray, List.set_cons_zero, List.set_cons_succ]
      refine wpAnyH_ready (rs := [15]) (by kernel_rfl) (by simp) ?_
      refine AllReadyH.cons rfl (fun K hK => ?_) AllReadyH.nil
      go_simp
      refine hK.out _ _ (by exact k5) (fun hHeld3 => ?_)
      clear hK K
      try simp only [Act.put, List.setIfInBounds_toArray, List.set_cons_zero, List.set_cons_succ]
      refine wpAnyH_done (by kernel_rfl) ?_ _
      refine NoPanic.normal ?_
      clear hHeld hHeld1 hHeld2 hHeld3
    case' wayB41 =>
      go_simp
      refine hK.out _ _ (by exact k4) (fun hHeld1 => ?_)
      clear hK K
      try simp only [Act.put, List.setIfInBounds_toArray, List.set_cons_zero, List.set_cons_succ]
      refine wpAnyH_take (i := 14) (v := ?v44_14) rfl (by kernel_rfl) (by kernel_rfl) (by kernel_rfl) (fun _ _ _ h => h) (Or.inl ⟨by rfl, ?y44_14⟩) (by assumption) ?r44_14
      case y44_14 => (intro w hSw; (try dsimp only at hSw); go_simp; try with_reducible rfl)
      try simp only [Act.put, List.setIfInBounds_toArray, List.set_cons_zero, List.set_cons_succ]
      refine wpAnyH_ready (rs := [10]) (by kernel_rfl) (by simp) ?_
      refine AllReadyH.cons rfl (fun K hK => ?_) AllReadyH.nil
      go_simp
      refine hK.out _ _ (by exact k4) (fun hHeld2 => ?_)
      clear hK K
      try simp only [Act.put, List.setIfInBounds_toArray, List.set_cons_zero, List.set_cons_succ]
      refine wpAnyH_take (i := 12) (v := ?v45_12) rfl (by kernel_rfl) (by kernel_rfl) (by kernel_rfl) (fun _ _ _ h => h) (Or.inl ⟨by rfl, ?y45_12⟩) (by assumption) ?r45_12
      case y45_12 => (intro w hSw; (try dsimp only at hSw); go_simp; try with_reducible rfl)
      try simp only [Act.put, List.setIfInBounds_toArray, List.set_cons_zero, List.set_cons_succ]
      refine wpAnyH_ready (rs := [15]) (by kernel_rfl) (by simp) ?_
      refine AllReadyH.cons rfl (fun K hK => ?_) AllReadyH.nil
      go_simp
      refine hK.out _ _ (by exact k5) (fun hHeld3 => ?_)
      clear hK K
      try simp only [Act.put, List.setIfInBounds_toArray, List.set_cons_zero, List.set_cons_succ]
      refine wpAnyH_done (by kernel_rfl) ?_ _
      refine NoPanic.normal ?_
      clear hHeld hHeld1 hHeld2 hHeld3
    all_goals
      go_upto_region 3 with fail
      have l7 : (Instr.lookup 83 (.map (some M.s)) (.int .i64 p.load) false).run Tryz.prog w4 = .ok (.int .i64 (C.size p.load)) w4 := HSZ4.out.lookup intLaw Tryz.underlying83 (zeroInt _) (key_int hp.2.1)
      have c4 := HS4.out.1.cell 4 _ rfl
      have c1 := HS4.out.2.cell 1 _ rfl
      clear k3 k4 k5 r3 r4 l2 l3
      go_wp2_with (at_mapUpdate; refine wpList_update_tells _ rfl _ _ _ 83 rfl 3 3 intLaw Tryz.underlying83 (.int .i64 0) M.s n _ rfl HSZ4.out (Nat.lt_of_succ_lt hn) _ _ _ rfl rfl (key_int hp.2.1) (fOne (.int .i64 0) fun i => .int .i64 (upd1 C.size p.load (wrap64 (C.size p.load + d)) i)) (by first | exact (fOne_upd (g := Value.int .i64)).1 | (rw [wrap_64]; exact (fOne_upd (g := Value.int .i64)).1)) (fOne_upd (g := Value.int .i64)).2 ?_; intro w5 t5 g5)
      go_end0
      have o5 : Only [M.s] w4 w5 := Only.grown g5 (List.mem_singleton.2 rfl)
      have hM := HM.out
      refine ⟨rfl, ?_, ?_⟩
      · have hcc : countC zm C p d = ⟨C.use, upd2 C.ats p.load p.node (wrap64 (C.ats p.load p.node + d)), upd2 C.inz p.load q (wrap64 (C.inz p.load q + d)), upd1 C.size p.load (wrap64 (C.size p.load + d))⟩ := by unfold countC; rw [hq]
        rw [hcc]
        exact ⟨(HU4.out.kept o5 (fun e => by have h1 := List.mem_singleton.1 e; exact hM.us h1)).mono (Nat.le_succ _), HA4.out.kept o5 (fun e => by have h1 := List.mem_singleton.1 e; exact hM.aS h1), HI4.out.kept o5 (fun e => by have h1 := List.mem_singleton.1 e; exact hM.iS h1), t5⟩
      · exact (((Only.of_below (S := [M.a, M.i, M.s]) HKW.out (fun i h1 h2 => by omega)).trans (HO2.out.mono (by simp))).trans (HO4.out.mono (by simp))).trans (o5.mono (by simp))
end Go.Proofs.YtpfjeoldgcepnaaGreatDoor

/- The five checks of a state, as numbers and places; an error that is none; a row of errors of the call's own. -/
namespace Go.Proofs.YtpfjeoldgcepnaaGreatDoor
set_option linter.unusedSimpArgs false
open Go.RowKit
set_option linter.unusedVariables false

/-- No error. -/
def okP (p : Int × Int) : Bool := p.1 == 0 && p.2 == -1
theorem okP_true {p : Int × Int} (h : okP p = true) : p = (0, -1) := by
  obtain ⟨a, b⟩ := p
  simp only [okP, Bool.and_eq_true, beq_iff_eq] at h
  rw [h.1, h.2]
/-- The budgets: told, or not. -/
def usedP (x1 x2 t1 t2 : Int) : Int × Int := if usedD x1 x2 t1 t2 = true then (15, -1) else (0, -1)
/-- What the five checks tell, in their order. -/
def fiveP (ns : List NodeD) (ls : List LoadD) (l : List PodD) (x1 x2 t1 t2 : Int) : List (Int × Int) := [roomOf ns l, apartOf ls l, spreadOf ns ls l, budgetOf ls l, usedP x1 x2 t1 t2]
/-- The ones at fault, the first k alone. -/
def badK (ps : List (Int × Int)) (most k : Nat) : List (Int × Int) := ((ps.take k).filter fun p => !okP p).take most
/-- Errors, one for each of these. -/
def ErrsIs (ps : List (Int × Int)) (B : Nat) (w : World) (us : List Value) : Prop := us.length = ps.length ∧ ∀ (i : Nat) (p : Int × Int) (u : Value), ps[i]? = some p → us[i]? = some u → ErrIs p B w u
theorem ErrsIs.below {ps : List (Int × Int)} {B : Nat} {w w' : World} {us : List Value} (h : ErrsIs ps B w us) (hb : Below w.heap.size w w') : ErrsIs ps B w' us := ⟨h.1, fun i p u hp hu => (h.2 i p u hp hu).below hb⟩
/-- What lies in memory as Spots stays. -/
def SpotsStay (w w' : World) : Prop := ∀ (g : Nat) (x : Array Value) (f : Nat × Nat), w.heap[g]? = some (Obj.cells x 134 f) → w'.heap[g]? = some (Obj.cells x 134 f)
theorem ErrIs.stay {p : Int × Int} {B : Nat} {w w' : World} {u : Value} (h : ErrIs p B w u) (hs : SpotsStay w w') : ErrIs p B w' u := by
  rcases h with h | h | ⟨k, g, h1, h2, h3, h4⟩
  · exact .inl h
  · exact .inr (.inl h)
  · exact .inr (.inr ⟨k, g, h1, h2, h3, hs g _ _ h4⟩)
theorem ErrsIs.stay {ps : List (Int × Int)} {B : Nat} {w w' : World} {us : List Value} (h : ErrsIs ps B w us) (hs : SpotsStay w w') : ErrsIs ps B w' us := ⟨h.1, fun i p u hp hu => (h.2 i p u hp hu).stay hs⟩
theorem ErrIs.base {p : Int × Int} {B B' : Nat} {w : World} {u : Value} (h : ErrIs p B w u) (hB : B' ≤ B) : ErrIs p B' w u := by
  rcases h with h | h | ⟨k, g, h1, h2, h3, h4⟩
  · exact .inl h
  · exact .inr (.inl h)
  · exact .inr (.inr ⟨k, g, h1, h2, by omega, h4⟩)
theorem ErrIs.nil {p : Int × Int} {B : Nat} {w : World} {u : Value} (h : ErrIs p B w u) (hp : okP p = true) : u = .nilIface := by
  have e := okP_true hp
  subst e
  rcases h with h | ⟨_, h, _⟩ | ⟨k, g, h1, _⟩
  · exact h.2
  · exact absurd h (by decide)
  · have h1 : (-1 : Int) = k := h1
    omega
theorem errIs_iface {p : Int × Int} {B : Nat} {w : World} {u : Value} (h : ErrIs p B w u) (hp : okP p = false) : ∃ t v, u = .iface t v := by
  rcases h with h | ⟨_, _, _, h⟩ | ⟨k, g, _, h, _⟩
  · rw [h.1] at hp; exact absurd hp (by decide)
  · exact ⟨_, _, h⟩
  · exact ⟨_, _, h⟩
section
variable {ops : Array Oper} {rest : List Oper} {o : Oper} {a : Act} {Q : Exit → Act → World → Prop} {wr : World}
end
end Go.Proofs.YtpfjeoldgcepnaaGreatDoor

/- errors.As of a Spot into a variable of type Code, and of a Code itself into one of type *Spot. -/
namespace Go.Proofs.YtpfjeoldgcepnaaGreatDoor
set_option linter.unusedSimpArgs false
open Go.RowKit Go.Extern.Stop Go.Stop Go.Extern
set_option linter.unusedVariables false

end Go.Proofs.YtpfjeoldgcepnaaGreatDoor

/- The program's code, and dunnagelaw00.Of, of any error that a check tells. -/
namespace Go.Proofs.YtpfjeoldgcepnaaGreatDoor
set_option linter.unusedSimpArgs false
open Go.RowKit
set_option linter.unusedVariables false

end Go.Proofs.YtpfjeoldgcepnaaGreatDoor

/- The five closures of the program's faults, and faults. -/
namespace Go.Proofs.YtpfjeoldgcepnaaGreatDoor
set_option linter.unusedSimpArgs false
open Go.RowKit
set_option linter.unusedVariables false

end Go.Proofs.YtpfjeoldgcepnaaGreatDoor

/- The program's Clash of layer 7. -/
namespace Go.Proofs.YtpfjeoldgcepnaaGreatDoor
set_option linter.unusedSimpArgs false
open Go.RowKit
set_option linter.unusedVariables false

end Go.Proofs.YtpfjeoldgcepnaaGreatDoor

/- The program's Check of layer 7. -/
namespace Go.Proofs.YtpfjeoldgcepnaaGreatDoor
set_option linter.unusedSimpArgs false
open Go.RowKit
set_option linter.unusedVariables false

end Go.Proofs.YtpfjeoldgcepnaaGreatDoor

/- How many of a load are somewhere: the program's Size of layer 9. -/
namespace Go.Proofs.YtpfjeoldgcepnaaGreatDoor
set_option linter.unusedSimpArgs false
open Go.RowKit
set_option linter.unusedVariables false

end Go.Proofs.YtpfjeoldgcepnaaGreatDoor

/- Which load is at fault, and whether a budget is used up: the program's sizeFault, Used and Check of layer 9. -/
namespace Go.Proofs.YtpfjeoldgcepnaaGreatDoor
set_option linter.unusedSimpArgs false
open Go.RowKit
set_option linter.unusedVariables false

end Go.Proofs.YtpfjeoldgcepnaaGreatDoor

/- The program's Why, Is and All. -/
namespace Go.Proofs.YtpfjeoldgcepnaaGreatDoor
set_option linter.unusedSimpArgs false
open Go.RowKit
set_option linter.unusedVariables false

/-- What is handed in lies in memory, and isn't too much. -/
structure SafeArgs (ns : List NodeD) (ls : List LoadD) (l : List PodD) (A1 A2 A4 : Option Addr) (n1 n2 n4 c4 : Nat) (w : World) : Prop where
  g : Laid w
  no : ∀ x ∈ ns, x.Ok
  lo : ∀ p ∈ l, p.Ok
  e1 : n1 = ns.length
  l1 : n1 ≤ 400
  r1 : Recs 10 cellsN w w.heap.size A1 ns
  e2 : n2 = ls.length
  l2 : n2 ≤ 400
  r2 : Recs 5 cellsL w w.heap.size A2 ls
  e4 : n4 = l.length
  l4 : n4 ≤ 400
  k4 : n4 ≤ c4
  r4 : Recs 8 cellsP w w.heap.size A4 l
theorem SafeArgs.at {ns : List NodeD} {ls : List LoadD} {l : List PodD} {A1 A2 A4 : Option Addr} {n1 n2 n4 c4 : Nat} {w V : World} (h : SafeArgs ns ls l A1 A2 A4 n1 n2 n4 c4 w) (hV : Below w.heap.size w V) : SafeArgs ns ls l A1 A2 A4 n1 n2 n4 c4 V :=
  ⟨Laid.below h.g hV (Nat.le_refl _), h.no, h.lo, h.e1, h.l1, (h.r1.below hV (Nat.le_refl _)).more hV.size, h.e2, h.l2, (h.r2.below hV (Nat.le_refl _)).more hV.size, h.e4, h.l4, h.k4, (h.r4.below hV (Nat.le_refl _)).more hV.size⟩

/-- The first error, or none. -/
def whyP (ps : List (Int × Int)) : Int × Int := (badK ps 1 5).headD (0, -1)
end Go.Proofs.YtpfjeoldgcepnaaGreatDoor

/- Plain mathematics of who may go for whom. -/
namespace Go.Proofs.YtpfjeoldgcepnaaGreatDoor
set_option linter.unusedSimpArgs false
open Go.RowKit
set_option linter.unusedVariables false

/-- May the first one go for the second one? -/
def goV (o p : PodD) : Bool := decide (o.prio < p.prio)
def hasP (id : Int) (l : List PodD) : Bool := decide (0 ≤ place PodD.id id l 0)
def mayD (pod over : Int) (l : List PodD) : Bool := (hasP pod l && hasP over l) && goV (podZ over l) (podZ pod l)
theorem has_none {id : Int} {l : List PodD} (h : place PodD.id id l 0 < 0) : hasP id l = false := by simp [hasP]; exact h
theorem has_some {id : Int} {l : List PodD} {i : Nat} (h : place PodD.id id l 0 = i) : hasP id l = true := by simp [hasP, h]
theorem may_none1 {a b : Int} {l : List PodD} (h : place PodD.id a l 0 < 0) : mayD a b l = false := by simp [mayD, has_none h]
theorem may_none2 {a b : Int} {l : List PodD} (h : place PodD.id b l 0 < 0) : mayD a b l = false := by simp [mayD, has_none h]
theorem may_some {a b : Int} {l : List PodD} {i j : Nat} (hi : i < l.length) (h : place PodD.id a l 0 = i) (hj : j < l.length) (k : place PodD.id b l 0 = j) : mayD a b l = goV l[j] l[i] := by
  simp [mayD, has_some h, has_some k, podZ_some hi h, podZ_some hj k]

/-- Is it at that node, and may go for this one? -/
def isV (node : Int) (p q : PodD) : Bool := q.node == node && goV q p
def vicD (node : Int) (p : PodD) (l : List PodD) : List PodD := l.filter (isV node p)
theorem vic_len (node : Int) (p : PodD) (l : List PodD) : (vicD node p l).length ≤ l.length := List.length_filter_le _ _
def ltV (a b : PodD) : Prop := a.prio < b.prio ∨ (a.prio = b.prio ∧ a.id < b.id)
instance (a b : PodD) : Decidable (ltV a b) := by unfold ltV; infer_instance
/-- The Ids of those that may go, in their order. -/
def VicIs (node pod : Int) (l : List PodD) (zs : List Int) : Prop :=
  ((hasP pod l = true ∧ node ≠ 0) ∧ ∃ vs : List PodD, vs.Perm (vicD node (podZ pod l) l) ∧ (vs.Pairwise fun x y => ¬ ltV y x) ∧ zs = vs.map PodD.id) ∨ ((hasP pod l = false ∨ node = 0) ∧ zs = [])
theorem VicIs.len {node pod : Int} {l : List PodD} {zs : List Int} (h : VicIs node pod l zs) : zs.length ≤ l.length := by
  rcases h with ⟨_, vs, h1, _, rfl⟩ | ⟨_, rfl⟩
  · rw [List.length_map, h1.length_eq]; exact vic_len _ _ _
  · exact Nat.zero_le _

end Go.Proofs.YtpfjeoldgcepnaaGreatDoor

namespace Go.Proofs.YtpfjeoldgcepnaaGreatDoor
set_option linter.unusedSimpArgs false
open Go.RowKit
set_option linter.unusedVariables false

section
variable {V : World}
theorem Bf.cells8p {b : Nat} {x : PodD} (h : Bf V b (cellsP x)) : (V.cell? ⟨b, 0, none⟩ = some (.int .i64 x.id) ∧ V.cell? ⟨b, 1, none⟩ = some (.int .i64 x.load) ∧ V.cell? ⟨b, 2, none⟩ = some (.int .i64 x.prio) ∧ V.cell? ⟨b, 3, none⟩ = some (.int .u64 x.req.a)) ∧
    V.cell? ⟨b, 4, none⟩ = some (.int .u64 x.req.b) ∧ V.cell? ⟨b, 5, none⟩ = some (.int .u64 x.req.c) ∧ V.cell? ⟨b, 6, none⟩ = some (.int .u64 x.req.d) ∧ V.cell? ⟨b, 7, none⟩ = some (.int .i64 x.node) ∧ b < V.heap.size :=
  ⟨⟨h.cell 0 _ rfl, h.cell 1 _ rfl, h.cell 2 _ rfl, h.cell 3 _ rfl⟩, h.cell 4 _ rfl, h.cell 5 _ rfl, h.cell 6 _ rfl, h.cell 7 _ rfl, h.lt⟩
end
theorem mayGo_any (x y : PodD) (w : World) : Calls Tryz.prog 121 #[aggP x, aggP y] w fun e w' => e = .returned (.bool (goV x y)) ∧ Below w.heap.size w w' := by
  by_cases h : x.prio < y.prio
  · have HE := Lib.hid (show goV x y = true from decide_eq_true h)
    have hd : decide (x.prio < y.prio) = true := decide_eq_true h
    clear h
    go_enter Tryz.func121, Tryz.ntmps121
    go_wp2
    go_ret
    exact ⟨ret_bool HE.out.symm, below_two _ _ _⟩
  · have HE := Lib.hid (show goV x y = false from decide_eq_false h)
    have hd : decide (x.prio < y.prio) = false := decide_eq_false h
    clear h
    go_enter Tryz.func121, Tryz.ntmps121
    go_wp2
    go_ret
    exact ⟨ret_bool HE.out.symm, below_two _ _ _⟩
/-- state.Pod, as one answer. -/
theorem podOf_any (l : List PodD) (id : Int) (A : Option Addr) (n c : Nat) (v1 v2 : Value) (w : World) (hn : n = l.length) (hl : n ≤ 1000) (hr : Recs 8 cellsP w w.heap.size A l) :
    Calls Tryz.prog 79 #[.agg #[.slice A n c, v1, v2], .int .i64 id] w fun e w' => e = .returned (.tuple #[aggP (podZ id l), .bool (hasP id l)]) ∧ Below w.heap.size w w' :=
  (statePod_any l id A n c v1 v2 w hn hl hr).mono fun e w' ⟨h, hb⟩ => by
    rcases h with ⟨hp, rfl⟩ | ⟨i, hi, hp, rfl⟩
    · rw [podZ_none hp, has_none hp]; exact ⟨rfl, hb⟩
    · rw [podZ_some hi hp, has_some hp]; exact ⟨rfl, hb⟩

set_option maxHeartbeats 3200000 in
set_option maxRecDepth 100000 in
theorem priorMay_any (l : List PodD) (a b : Int) (A : Option Addr) (n c : Nat) (v1 v2 : Value) (w : World) (hn : n = l.length) (hl : n ≤ 1000) (hr : Recs 8 cellsP w w.heap.size A l) :
    Calls Tryz.prog 86 #[.agg #[.slice A n c, v1, v2], .int .i64 a, .int .i64 b] w fun e w' => e = .returned (.bool (mayD a b l)) ∧ Below w.heap.size w w' := by
  have B0 : Bf (w.alloc (.cells #[.slice A n c, v1, v2] 42)) w.heap.size [.slice A n c, v1, v2] := Bf.new w [.slice A n c, v1, v2] 42 rfl
  have k0 : Below w.heap.size w (w.alloc (.cells #[.slice A n c, v1, v2] 42)) := (Below.refl _ _).alloc (Nat.le_refl _) _
  have HC := Lib.hid (fun (id : Int) (V : World) (hV : Below w.heap.size w V) => podOf_any l id A n c v1 v2 V hn hl ((hr.below hV (Nat.le_refl _)).more hV.size))
  have HC1 := Lib.hid (HC.out a _ k0)
  have HC2 := Lib.hid (fun V hV => HC.out b V hV)
  have HE := Lib.hid (show mayD a b l = ((hasP a l && hasP b l) && goV (podZ b l) (podZ a l)) from rfl)
  clear hn hr HC
  generalize mayD a b l = r at *
  generalize podZ a l = x at *
  generalize podZ b l = y at *
  generalize hasP a l = s at *
  generalize hasP b l = t at *
  go_enter Tryz.func86, Tryz.ntmps86
  go_wp2_with fail
  refine HC1.out.mono ?_
  rintro e w1 ⟨rfl, hb1⟩
  have k1 := k0.trans (hb1.mono k0.size)
  have B1 := B0.below hb1 B0.lt
  obtain ⟨a0, a1, a2, a3⟩ := B1.cells3
  have X1 : Bf (w1.alloc (.cells #[.int .i64 x.id, .int .i64 x.load, .int .i64 x.prio, .int .u64 x.req.a, .int .u64 x.req.b, .int .u64 x.req.c, .int .u64 x.req.d, .int .i64 x.node] 79)) w1.heap.size (cellsP x) := Bf.new w1 (cellsP x) 79 rfl
  have k1a : Below w.heap.size w (w1.alloc (.cells #[.int .i64 x.id, .int .i64 x.load, .int .i64 x.prio, .int .u64 x.req.a, .int .u64 x.req.b, .int .u64 x.req.c, .int .u64 x.req.d, .int .i64 x.node] 79)) := k1.alloc k1.size _
  have HC3 := Lib.hid (HC2.out _ k1a)
  clear hb1 B0 k0
  go_wp2_with fail
  refine HC3.out.mono ?_
  rintro e w2 ⟨rfl, hb2⟩
  have k2 := k1a.trans (hb2.mono k1a.size)
  obtain ⟨⟨x0, x1, x2, x3⟩, x4, x5, x6, x7, x8⟩ := (X1.below hb2 X1.lt).cells8p
  have hne : w1.heap.size ≠ w2.heap.size := by omega
  clear hb2 a0 a1 a2 a3 B1 X1
  have k3 : Below w.heap.size w (w2.alloc (.cells #[.int .i64 y.id, .int .i64 y.load, .int .i64 y.prio, .int .u64 y.req.a, .int .u64 y.req.b, .int .u64 y.req.c, .int .u64 y.req.d, .int .i64 y.node] 79)) := k2.alloc k2.size _
  cases s with
  | false =>
    go_wp2
    go_ret
    exact ⟨ret_bool (by rw [HE.out]; rfl), k3⟩
  | true =>
    cases t with
    | false =>
      go_wp2
      go_ret
      exact ⟨ret_bool (by rw [HE.out]; rfl), k3⟩
    | true =>
      go_wp2_with fail
      refine (mayGo_any y x _).mono ?_
      rintro e w3 ⟨rfl, hb3⟩
      go_wp2
      go_ret
      exact ⟨ret_bool (by rw [HE.out]; rfl), k3.trans (hb3.mono k3.size)⟩

/-- What layer 10's Check tells of a move. -/
def prioV (b : Bool) : Value := if b = true then .iface 98 (.int .i64 14) else .nilIface
def prioD (t : List PodD) (m : MoveD) : Bool := m.kind == 4 && !mayD m.pod m.over t
set_option maxHeartbeats 3200000 in
set_option maxRecDepth 100000 in
theorem priorCheck_any (l : List PodD) (m : MoveD) (A : Option Addr) (n c : Nat) (v1 v2 : Value) (w : World) (hn : n = l.length) (hl : n ≤ 1000) (hr : Recs 8 cellsP w w.heap.size A l) :
    Calls Tryz.prog 46 #[.agg #[.slice A n c, v1, v2], .agg #[.int .i64 m.kind, .int .i64 m.pod, .int .i64 m.node, .int .i64 m.over]] w fun e w' => e = .returned (prioV (prioD l m)) ∧ Below w.heap.size w w' := by
  have k0 := below_two w (.cells #[.slice A n c, v1, v2] 42) (.cells #[.int .i64 m.kind, .int .i64 m.pod, .int .i64 m.node, .int .i64 m.over] 48)
  have HC := Lib.hid (priorMay_any l m.pod m.over A n c v1 v2 _ hn hl ((hr.below k0 (Nat.le_refl _)).more k0.size))
  have HD : Hid (prioD l m = (m.kind == 4 && !mayD m.pod m.over l)) := rfl
  clear hn hr
  generalize mayD m.pod m.over l = r at *
  generalize prioD l m = z at *
  by_cases hk : m.kind = 4
  · have hkd : (m.kind == 4) = true := by simp [hk]
    have HE := Lib.hid (show z = !r by rw [HD.out, hkd]; rfl)
    clear hk
    go_enter Tryz.func46, Tryz.ntmps46
    go_wp2_with fail
    refine HC.out.mono ?_
    rintro e w1 ⟨rfl, hb1⟩
    have k1 := k0.trans (hb1.mono k0.size)
    clear hb1
    cases r with
    | false =>
      go_wp2
      go_ret
      exact ⟨by rw [HE.out]; rfl, k1⟩
    | true =>
      go_wp2
      go_ret
      exact ⟨by rw [HE.out]; rfl, k1⟩
  · have hkd : (m.kind == 4) = false := by simp [hk]
    have HE := Lib.hid (show z = false by rw [HD.out, hkd]; rfl)
    clear hk
    go_enter Tryz.func46, Tryz.ntmps46
    go_wp2
    go_ret
    exact ⟨by rw [HE.out]; rfl, k0⟩
end Go.Proofs.YtpfjeoldgcepnaaGreatDoor
