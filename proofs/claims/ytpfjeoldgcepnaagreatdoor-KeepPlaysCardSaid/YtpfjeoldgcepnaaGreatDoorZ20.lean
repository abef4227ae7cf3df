/- Joined texts, part 20: VL V5 V6. -/
import Derived.Test.YtpfjeoldgcepnaaGreatDoorZ18
import Derived.Test.YtpfjeoldgcepnaaGreatDoorZ04
import Derived.Test.YtpfjeoldgcepnaaGreatDoorZ19

/- Room asked for ahead of counting: the program's roomFault of layer 13. -/
namespace Go.Proofs.YtpfjeoldgcepnaaGreatDoor
set_option linter.unusedSimpArgs false
open Go.RowKit
set_option linter.unusedVariables false

theorem leftK_take {id : Int} {u : V4} {l : List PodD} {k : Nat} (h : k < l.length) {p : PodD} (hp : l[k] = p) : leftK id u (l.take (k + 1)) = if p.node = id then lessV (leftK id u (l.take k)) p.req else leftK id u (l.take k) := by
  unfold leftK
  rw [List.take_succ_eq_append_getElem h, List.foldl_append, hp]
  rfl
theorem leftK_ok {id : Int} : ∀ {l : List PodD} {u : V4}, u.Ok → (∀ p ∈ l, p.Ok) → (leftK id u l).Ok
  | [], u, h, _ => h
  | p :: r, u, h, hl => by
    show (leftK id (if p.node = id then lessV u p.req else u) r).Ok
    refine leftK_ok ?_ (fun q hq => hl q (by simp [hq]))
    split
    · exact less_okV h (hl p (by simp)).2.2.2.1
    · exact h
theorem cameK_at {id : Int} {u : V4} {l : List PodD} {k : Nat} {z : Option V4} (h : k < l.length) {p : PodD} (hp : l[k] = p) (hz : cameK id u (l.drop k) = z) :
    (p.node ≠ id → cameK id u (l.drop (k + 1)) = z) ∧ (p.node = id → (addV u p.req = none → z = none) ∧ ∀ v, addV u p.req = some v → cameK id v (l.drop (k + 1)) = z) := by
  rw [List.drop_eq_getElem_cons h, hp, cameK] at hz
  refine ⟨fun e => by rw [if_neg e] at hz; exact hz, fun e => ?_⟩
  rw [if_pos e] at hz
  exact ⟨fun h0 => by rw [h0] at hz; exact hz.symm, fun v h0 => by rw [h0] at hz; exact hz⟩
theorem cameK_end {id : Int} {u : V4} {l : List PodD} {k : Nat} {z : Option V4} (h : l.length ≤ k) (hz : cameK id u (l.drop k) = z) : z = some u := by
  rw [List.drop_of_length_le h] at hz
  exact hz.symm
def roomZ (f : V4) (z : Option V4) : Int := match z with
  | none => 8
  | some v => if v.le f = true then 0 else 9
def LeftRel (M : MapsB) (n : NodeD) (u : V4) (l : List PodD) (m : Nat) (w : World) (v : Value) (wr : World) : Prop :=
  ∃ k : Nat, k ≤ m ∧ v = .int .i64 k ∧ T3 M.cells (cellsN n) (cellsV (leftK n.id u (l.take k))) w wr
def CameRel (M : MapsB) (n : NodeD) (z : Option V4) (l : List PodD) (m : Nat) (w : World) (v : Value) (wr : World) : Prop :=
  ∃ (k : Nat) (u : V4), k ≤ m ∧ v = .int .i64 k ∧ u.Ok ∧ cameK n.id u (l.drop k) = z ∧ T3 M.cells (cellsN n) (cellsV u) w wr
/-- A record of a row of the caller's. -/
theorem recs_atV {l : List PodD} {w wr : World} {A : Option Addr} (hr : Recs 8 cellsP w w.heap.size A l) (hg : Below w.heap.size w wr) {k : Nat} (hk : k < l.length) {p : PodD} (hp : l[k] = p) :
    ∃ b o, A = some ⟨b, o, none⟩ ∧ b < w.heap.size ∧ ∀ j u, (cellsP p)[j]? = some u → wr.cell? ⟨b, o + k * 8 + j, none⟩ = some u := by
  obtain ⟨b, o, rfl, hb, he⟩ := hr.at hk
  exact ⟨b, o, rfl, hb, fun j u hu => (hg.cell (p := ⟨b, o + k * 8 + j, none⟩) hb).trans (he j u (by rw [hp]; exact hu))⟩
theorem T3.put3 {a b c : List Value} {w V : World} (h : T3 a b c w V) (i : Nat) (v : Value) : T3 a b (c.set i v) w (V.setCell ⟨w.heap.size + 2, i, none⟩ v) :=
  ⟨h.one.other (by simp) v, h.two.other (by simp) v, h.three.set i v, h.below.setCell (by simp) v⟩

set_option maxHeartbeats 6400000 in
set_option maxRecDepth 100000 in
theorem roomFault_any {M : MapsB} {nn : Nat} {C : CntD} {n : NodeD} {la lb : List PodD} (hn : n.Ok) (hu : (C.use n.id).Ok) (hla : ∀ p ∈ la, p.Ok) (hlb : ∀ p ∈ lb, p.Ok) (A1 A2 : Option Addr) (m1 c1 m2 c2 : Nat) (hm1 : m1 = la.length) (hl1 : m1 ≤ 400) (hm2 : m2 = lb.length) (hl2 : m2 ≤ 400) (w : World) (h : CntIs M nn C w)
    (hr1 : Recs 8 cellsP w w.heap.size A1 la) (hr2 : Recs 8 cellsP w w.heap.size A2 lb) :
    Calls Tryz.prog 30 #[M.val, aggN n, .slice A1 m1 c1, .slice A2 m2 c2] w fun e w' => e = .returned (codeV (roomK (lessV n.cap n.held) n.id (C.use n.id) la lb)) ∧ Below w.heap.size w w' := by
  have T0 : T2 M.cells (cellsN n) w ((w.alloc (.cells #[.map (some M.z), .map (some M.u), .map (some M.a), .map (some M.i), .map (some M.s)] 88)).alloc (.cells #[.int .i64 n.id, .int .i64 n.zone, .int .u64 n.cap.a, .int .u64 n.cap.b, .int .u64 n.cap.c, .int .u64 n.cap.d, .int .u64 n.held.a, .int .u64 n.held.b, .int .u64 n.held.c, .int .u64 n.held.d] 63)) := T2.new w M.cells (cellsN n) 88 63
  have hlk := use_run (h.below T0.below) hn.1
  have T1 : T3 M.cells (cellsN n) (cellsV (C.use n.id)) w (((w.alloc (.cells #[.map (some M.z), .map (some M.u), .map (some M.a), .map (some M.i), .map (some M.s)] 88)).alloc (.cells #[.int .i64 n.id, .int .i64 n.zone, .int .u64 n.cap.a, .int .u64 n.cap.b, .int .u64 n.cap.c, .int .u64 n.cap.d, .int .u64 n.held.a, .int .u64 n.held.b, .int .u64 n.held.c, .int .u64 n.held.d] 63)).alloc (.cells #[.int .u64 (C.use n.id).a, .int .u64 (C.use n.id).b, .int .u64 (C.use n.id).c, .int .u64 (C.use n.id).d] 59)) := T3.new w M.cells (cellsN n) (cellsV (C.use n.id)) 88 63 59
  have HFR := Lib.hid (fun w => free_any hn w)
  have HU := Lib.hid hu
  have HLA := Lib.hid hla
  have HLB := Lib.hid hlb
  have HN1 := Lib.hid hm1
  have HN2 := Lib.hid hm2
  have HR1 := Lib.hid hr1
  have HR2 := Lib.hid hr2
  have HRZ : Hid (roomK (lessV n.cap n.held) n.id (C.use n.id) la lb = roomZ (lessV n.cap n.held) (cameK n.id (leftK n.id (C.use n.id) la) lb)) := Lib.hid rfl
  have HT1 := Lib.hid T1
  generalize roomK (lessV n.cap n.held) n.id (C.use n.id) la lb = rz at *
  generalize lessV n.cap n.held = f at *
  generalize C.use n.id = u0 at *
  clear hn hu hla hlb hm1 hm2 hr1 hr2 h
  obtain ⟨q0, q1, q2, q3, q4, q5⟩ := T0.one.cells5v
  obtain ⟨⟨b0, b1, b2, b3, b4, b5⟩, b6, b7, b8, b9, b10⟩ := T0.two.cells10
  clear T0 T1
  go_enter Tryz.func30, Tryz.ntmps30
  go_wp2
  clear hlk q0 q1 q2 q3 q4 q5 b0 b1 b2 b3 b4 b5 b6 b7 b8 b9 b10
  go_loopw [23] (LeftRel M n u0 la m1 w) (fun v _ => m1 - (intOf v).toNat)
  case atStart => exact ⟨0, Nat.zero_le _, rfl, HT1.out⟩
  case round =>
    clear HT1
    obtain ⟨k, hk, rfl, hT⟩ := hrel
    have HT := Lib.hid hT
    by_cases hlt : k < m1
    · have hkl : k < la.length := by have := HN1.out; omega
      have hpk := HLA.out _ (List.getElem_mem hkl)
      generalize hp : la[k] = p at *
      obtain ⟨b, o, rfl, hbw, he⟩ := recs_atV HR1.out hT.below hkl hp
      have e0 := he 0 _ rfl
      have e1 := he 1 _ rfl
      have e2 := he 2 _ rfl
      have e3 := he 3 _ rfl
      have e4 := he 4 _ rfl
      have e5 := he 5 _ rfl
      have e6 := he 6 _ rfl
      have e7 := he 7 _ rfl
      rw [Nat.add_zero] at e0
      have HST := Lib.hid (leftK_take (id := n.id) (u := u0) hkl hp)
      have HP := Lib.hid hpk
      have HUO := Lib.hid (leftK_ok (id := n.id) (l := la.take k) HU.out (fun q hq => HLA.out q (List.mem_of_mem_take hq)))
      generalize hcn : leftK n.id u0 (la.take (k + 1)) = un at *
      have HCN := Lib.hid hcn
      generalize leftK n.id u0 (la.take k) = uk at *
      have T2 := hT.alloc (.cells #[.int .i64 p.id, .int .i64 p.load, .int .i64 p.prio, .int .u64 p.req.a, .int .u64 p.req.b, .int .u64 p.req.c, .int .u64 p.req.d, .int .i64 p.node] 79)
      have BP : Bf (wr.alloc (.cells #[.int .i64 p.id, .int .i64 p.load, .int .i64 p.prio, .int .u64 p.req.a, .int .u64 p.req.b, .int .u64 p.req.c, .int .u64 p.req.d, .int .i64 p.node] 79)) wr.heap.size (cellsP p) := Bf.new wr (cellsP p) 79 rfl
      have hwr : w.heap.size + 2 < wr.heap.size := hT.three.lt
      clear he hp hpk hcn hT
      go_upto_region 5 with fail
      generalize (wr.alloc (.cells #[.int .i64 p.id, .int .i64 p.load, .int .i64 p.prio, .int .u64 p.req.a, .int .u64 p.req.b, .int .u64 p.req.c, .int .u64 p.req.d, .int .i64 p.node] 79)) = V at *
      generalize wr.heap.size = g at *
      clear e0 e1 e2 e3 e4 e5 e6 e7 HT
      have i0 := T2.two.cell 0 _ rfl
      obtain ⟨u0', u1, u2, u3, u4⟩ := T2.three.cells4
      obtain ⟨⟨p0, p1, p2, p3⟩, p4, p5, p6, p7, p8⟩ := BP.cells8v
      have HT2 := Lib.hid T2
      clear T2 BP
      by_cases h0 : p.node = n.id
      · have hd : (p.node == n.id) = true := by simp [h0]
        have HS : Hid (un = lessV uk p.req) := by rw [HST.out, if_pos h0]; exact Lib.hid rfl
        have HLS := Lib.hid (fun w => less_any HUO.out HP.out.2.2.2.1 w)
        rw [← HS.out] at HLS
        clear h0 HST
        go_wp2_with fail
        refine (HLS.out _).mono ?_
        rintro e V1 ⟨rfl, hb1⟩
        have T3' := HT2.out.keep hb1
        have HT3 := Lib.hid T3'
        clear u0' u1 u2 u3 u4 p0 p1 p2 p3 p4 p5 p6 p7 p8 i0 hb1 HT2
        obtain ⟨u0', u1, u2, u3, u4⟩ := T3'.three.cells4
        obtain ⟨f0, f1, f2, f3⟩ := T3'.three.free4
        clear T3'
        go_wp2
        go_roundw
        case rel => exact ⟨k + 1, by omega, by go_num, by rw [HCN.out]; exact (((HT3.out.put3 0 _).put3 1 _).put3 2 _).put3 3 _⟩
        case measure => simp [intOf]; omega
      · have hd : (p.node == n.id) = false := by simp [h0]
        have HS : Hid (un = uk) := by rw [HST.out, if_neg h0]; exact Lib.hid rfl
        clear h0 HST
        go_wp2
        go_roundw
        case rel => exact ⟨k + 1, by omega, by go_num, by rw [HCN.out, HS.out]; exact HT2.out⟩
        case measure => simp [intOf]; omega
    · have hkm : k = m1 := by omega
      subst hkm
      have HE : Hid (leftK n.id u0 (la.take k) = leftK n.id u0 la) := by rw [List.take_of_length_le (by have := HN1.out; omega)]; exact Lib.hid rfl
      clear hT
      have HUO : Hid ((leftK n.id u0 la).Ok) := leftK_ok HU.out HLA.out
      have HT' : Hid (T3 M.cells (cellsN n) (cellsV (leftK n.id u0 la)) w wr) := by rw [← HE.out]; exact HT
      generalize hz : cameK n.id (leftK n.id u0 la) lb = z at *
      have HZ0 : Hid (cameK n.id (leftK n.id u0 la) (lb.drop 0) = z) := by rw [List.drop_zero]; exact Lib.hid hz
      clear hz HT HE
      generalize leftK n.id u0 la = ul at *
      go_wp2
      go_loopw [39] (CameRel M n z lb m2 w) (fun v _ => m2 - (intOf v).toNat)
      case atStart => exact ⟨0, ul, Nat.zero_le _, rfl, HUO.out, HZ0.out, HT'.out⟩
      case round =>
        clear HT' HZ0 HUO
        obtain ⟨k2, u, hk2, rfl, huo, hz, hT⟩ := hrel
        have HT := Lib.hid hT
        have HUO := Lib.hid huo
        have HZ := Lib.hid hz
        clear huo hz
        by_cases hlt2 : k2 < m2
        · have hkl : k2 < lb.length := by have := HN2.out; omega
          have hpk := HLB.out _ (List.getElem_mem hkl)
          generalize hp : lb[k2] = p at *
          obtain ⟨b, o, rfl, hbw, he⟩ := recs_atV HR2.out hT.below hkl hp
          have e0 := he 0 _ rfl
          have e1 := he 1 _ rfl
          have e2 := he 2 _ rfl
          have e3 := he 3 _ rfl
          have e4 := he 4 _ rfl
          have e5 := he 5 _ rfl
          have e6 := he 6 _ rfl
          have e7 := he 7 _ rfl
          rw [Nat.add_zero] at e0
          have HST := Lib.hid (cameK_at hkl hp HZ.out)
          have HP := Lib.hid hpk
          have T2 := hT.alloc (.cells #[.int .i64 p.id, .int .i64 p.load, .int .i64 p.prio, .int .u64 p.req.a, .int .u64 p.req.b, .int .u64 p.req.c, .int .u64 p.req.d, .int .i64 p.node] 79)
          have BP : Bf (wr.alloc (.cells #[.int .i64 p.id, .int .i64 p.load, .int .i64 p.prio, .int .u64 p.req.a, .int .u64 p.req.b, .int .u64 p.req.c, .int .u64 p.req.d, .int .i64 p.node] 79)) wr.heap.size (cellsP p) := Bf.new wr (cellsP p) 79 rfl
          have hwr : w.heap.size + 2 < wr.heap.size := hT.three.lt
          clear he hp hpk hT HT HZ
          go_upto_region 11 with fail
          generalize (wr.alloc (.cells #[.int .i64 p.id, .int .i64 p.load, .int .i64 p.prio, .int .u64 p.req.a, .int .u64 p.req.b, .int .u64 p.req.c, .int .u64 p.req.d, .int .i64 p.node] 79)) = V at *
          generalize wr.heap.size = g at *
          clear e0 e1 e2 e3 e4 e5 e6 e7
          have i0 := T2.two.cell 0 _ rfl
          obtain ⟨u0', u1, u2, u3, u4⟩ := T2.three.cells4
          obtain ⟨⟨p0, p1, p2, p3⟩, p4, p5, p6, p7, p8⟩ := BP.cells8v
          have HT2 := Lib.hid T2
          clear T2 BP
          by_cases h0 : p.node = n.id
          · have hd : (p.node == n.id) = true := by simp [h0]
            have HS := Lib.hid (HST.out.2 h0)
            have HAD := Lib.hid (fun w => vAdd_any HUO.out HP.out.2.2.2.1 w)
            have HMO := Lib.hid (more_okV HUO.out HP.out.2.2.2.1)
            have HMV : Hid (∀ v, addV u p.req = some v → moreV u p.req = v) := fun v h => by unfold moreV; rw [h]; rfl
            clear h0 HST
            generalize moreV u p.req = mv at *
            cases hadd : addV u p.req with
            | none =>
              rw [hadd] at HAD HS
              have hz := HS.out.1 rfl
              have HRE : Hid (rz = 8) := by rw [HRZ.out, hz]; exact Lib.hid rfl
              have HAD' : Hid (∀ w, Calls Tryz.prog 62 #[aggV u, aggV p.req] w fun e w' => e = .returned (.tuple #[aggV mv, .iface 98 (.int .i64 8)]) ∧ Below w.heap.size w w') := HAD
              clear hadd HS HAD hz HMV HRZ
              go_wp2_with fail
              refine (HAD'.out _).mono ?_
              rintro e V1 ⟨rfl, hb1⟩
              have kb := HT2.out.below.trans (hb1.mono HT2.out.below.size)
              have kz := Nat.le_trans HT2.out.below.size hb1.size
              clear hb1
              go_wp2
              go_ret
              exact ⟨by rw [HRE.out]; rfl, kb.alloc kz _⟩
            | some v =>
              rw [hadd] at HAD HS
              obtain rfl := HMV.out v hadd
              have HAD' : Hid (∀ w, Calls Tryz.prog 62 #[aggV u, aggV p.req] w fun e w' => e = .returned (.tuple #[aggV mv, .nilIface]) ∧ Below w.heap.size w w') := HAD
              have HNX := Lib.hid (HS.out.2 mv rfl)
              clear hadd HS HAD HMV
              go_wp2_with fail
              refine (HAD'.out _).mono ?_
              rintro e V1 ⟨rfl, hb1⟩
              have T3' := (HT2.out.keep hb1).alloc (.cells #[.int .u64 mv.a, .int .u64 mv.b, .int .u64 mv.c, .int .u64 mv.d] 59)
              have BM : Bf (V1.alloc (.cells #[.int .u64 mv.a, .int .u64 mv.b, .int .u64 mv.c, .int .u64 mv.d] 59)) V1.heap.size (cellsV mv) := Bf.new V1 (cellsV mv) 59 rfl
              have hv1 : w.heap.size + 2 < V1.heap.size := (HT2.out.keep hb1).three.lt
              have HT3 := Lib.hid T3'
              clear u0' u1 u2 u3 u4 p0 p1 p2 p3 p4 p5 p6 p7 p8 i0 hb1 HT2
              obtain ⟨m0, m1', m2', m3, m4⟩ := BM.cells4
              obtain ⟨u0', u1, u2, u3, u4⟩ := T3'.three.cells4
              obtain ⟨f0, f1, f2, f3⟩ := T3'.three.free4
              clear T3' BM
              go_upto_region 15 with fail
              generalize (V1.alloc (.cells #[.int .u64 mv.a, .int .u64 mv.b, .int .u64 mv.c, .int .u64 mv.d] 59)) = V2 at *
              generalize V1.heap.size = g1 at *
              go_wp2
              go_roundw
              case rel => exact ⟨k2 + 1, mv, by omega, by go_num, HMO.out, HNX.out, (((HT3.out.put3 0 _).put3 1 _).put3 2 _).put3 3 _⟩
              case measure => simp [intOf]; omega
          · have hd : (p.node == n.id) = false := by simp [h0]
            have HS := Lib.hid (HST.out.1 h0)
            clear h0 HST
            go_wp2
            go_roundw
            case rel => exact ⟨k2 + 1, u, by omega, by go_num, HUO.out, HS.out, HT2.out⟩
            case measure => simp [intOf]; omega
        · have hz := cameK_end (by have := HN2.out; omega) HZ.out
          have HRE : Hid (rz = roomZ f (some u)) := by rw [HRZ.out, hz]; exact Lib.hid rfl
          obtain ⟨⟨b0, b1, b2, b3, b4, b5⟩, b6, b7, b8, b9, b10⟩ := hT.two.cells10
          obtain ⟨u0', u1, u2, u3, u4⟩ := hT.three.cells4
          have kb := hT.below
          clear hz hT HZ HRZ
          go_upto_region 17 with fail
          generalize hW : wr = W at *
          clear hW
          have HKB := Lib.hid kb
          clear kb
          go_region_held3 (fun w' => (∀ b o, b < W.heap.size → w'.cell? ⟨b, o, none⟩ = W.cell? ⟨b, o, none⟩) ∧ Below W.heap.size W w')
            (first | (with_reducible assumption) | (show Keeps W _; with_reducible (repeat (first | exact Keeps.refl _ | refine Keeps.drew ?_ | refine Keeps.set ?_ (by simp) _ | refine Keeps.alloc ?_ _ | refine Keeps.step ?_ (by assumption)))))
            (first
              | (go_at_call 64; refine (HFR.out _).mono ?_; rintro e w' ⟨rfl, hb⟩; obtain ⟨hcx, hfx⟩ := old_cells hb)
              | (go_at_call 63; refine (fits_any _ _ _).mono ?_; rintro e w' ⟨rfl, hb⟩; obtain ⟨hcx, hfx⟩ := old_cells hb))
          rename_i hK
          have hwW : w.heap.size ≤ W.heap.size := HKB.out.size
          have HKV := Lib.hid (HKB.out.trans (hK.2.mono hwW))
          clear hK hcx hfx hb u0' u1 u2 u3 u4 b0 b1 b2 b3 b4 b5 b6 b7 b8 b9 b10
          cases hle : u.le f with
          | true =>
            have HR : Hid (rz = 0) := by
              have h1 := HRE.out
              simp only [roomZ, hle, if_true] at h1
              exact h1
            clear hle HRE
            go_wp2
            go_ret
            exact ⟨by rw [HR.out]; rfl, HKV.out⟩
          | false =>
            have HR : Hid (rz = 9) := by
              have h1 := HRE.out
              simp only [roomZ, hle, Bool.false_eq_true, if_false] at h1
              exact h1
            clear hle HRE
            go_wp2
            go_ret
            exact ⟨by rw [HR.out]; rfl, HKV.out⟩
end Go.Proofs.YtpfjeoldgcepnaaGreatDoor

/- What stands aside while a keeper does a move; its calls there. -/
namespace Go.Proofs.YtpfjeoldgcepnaaGreatDoor
set_option linter.unusedSimpArgs false
open Go.RowKit
set_option linter.unusedVariables false

/-- A part of a state in a box, with its row's address. -/
structure PartAt (V w : World) (g : Nat) (A : Option Addr) (c : Nat) (l : List PodD) (p1 p2 : Int) : Prop where
  box : Bf V g [.slice A l.length c, .int .i64 p1, .int .i64 p2]
  row : Recs 8 cellsP V V.heap.size A l
  far : ∀ a, A = some a → w.heap.size ≤ a.block
  gt : w.heap.size < g
section
variable {V V' w : World} {g : Nat} {A : Option Addr} {c : Nat} {l : List PodD} {p1 p2 : Int}
theorem PartAt.below (h : PartAt V w g A c l p1 p2) (hb : Below V.heap.size V V') : PartAt V' w g A c l p1 p2 := ⟨h.box.below hb h.box.lt, (h.row.below hb (Nat.le_refl _)).more hb.size, h.far, h.gt⟩
theorem PartAt.only {S : List Nat} (h : PartAt V w g A c l p1 p2) (ho : Only S V V') (hS : ∀ i ∈ S, i < w.heap.size) : PartAt V' w g A c l p1 p2 :=
  ⟨h.box.only ho (fun e => by have := hS _ e; have := h.gt; omega), recs_only h.row ho (fun a ha e => by have := hS _ e; have := h.far a ha; omega), h.far, h.gt⟩
end
/-- The move, and the two parts of states, in boxes. -/
structure DoB (t u : StateD) (m : MoveD) (w : World) (g8 g9 : Nat) (A8 A9 : Option Addr) (c8 c9 : Nat) (V : World) : Prop where
  bm : Bf V w.heap.size (cellsM m)
  one : PartAt V w g8 A8 c8 (partD t.pods m) t.preempts t.shifts
  two : PartAt V w g9 A9 c9 (partD u.pods m) u.preempts u.shifts
section
variable {t u : StateD} {m : MoveD} {w V V' : World} {g8 g9 : Nat} {A8 A9 : Option Addr} {c8 c9 : Nat}
theorem DoB.below (h : DoB t u m w g8 g9 A8 A9 c8 c9 V) (hb : Below V.heap.size V V') : DoB t u m w g8 g9 A8 A9 c8 c9 V' := ⟨h.bm.below hb h.bm.lt, h.one.below hb, h.two.below hb⟩
theorem DoB.only {S : List Nat} (h : DoB t u m w g8 g9 A8 A9 c8 c9 V) (ho : Only S V V') (hS : ∀ i ∈ S, i < w.heap.size) : DoB t u m w g8 g9 A8 A9 c8 c9 V' :=
  ⟨h.bm.only ho (fun e => by have := hS _ e; omega), h.one.only ho hS, h.two.only ho hS⟩
theorem DoB.cells (h : DoB t u m w g8 g9 A8 A9 c8 c9 V) : (V.cell? ⟨g8, 0, none⟩ = some (.slice A8 (partD t.pods m).length c8) ∧ V.cell? ⟨g8, 1, none⟩ = some (.int .i64 t.preempts) ∧ V.cell? ⟨g8, 2, none⟩ = some (.int .i64 t.shifts)) ∧
    (V.cell? ⟨g9, 0, none⟩ = some (.slice A9 (partD u.pods m).length c9) ∧ V.cell? ⟨g9, 1, none⟩ = some (.int .i64 u.preempts) ∧ V.cell? ⟨g9, 2, none⟩ = some (.int .i64 u.shifts)) ∧
    (V.cell? ⟨w.heap.size, 0, none⟩ = some (.int .i64 m.kind) ∧ V.cell? ⟨w.heap.size, 1, none⟩ = some (.int .i64 m.pod) ∧ V.cell? ⟨w.heap.size, 2, none⟩ = some (.int .i64 m.node) ∧ V.cell? ⟨w.heap.size, 3, none⟩ = some (.int .i64 m.over)) :=
  ⟨⟨h.one.box.cell 0 _ rfl, h.one.box.cell 1 _ rfl, h.one.box.cell 2 _ rfl⟩, ⟨h.two.box.cell 0 _ rfl, h.two.box.cell 1 _ rfl, h.two.box.cell 2 _ rfl⟩, h.bm.cell 0 _ rfl, h.bm.cell 1 _ rfl, h.bm.cell 2 _ rfl, h.bm.cell 3 _ rfl⟩
end
section
variable {K : KAddr} {s : SnapD} {x : SpecD} {t u : StateD} {ds : List DeedD} {N nd : Nat} {m : MoveD} {w V : World} {g8 g9 : Nat} {A8 A9 : Option Addr} {c8 c9 : Nat}
theorem PartsB.aside (h : PartsB K s x t ds N m u w g8 g9 V) : ∃ A8 c8 A9 c9, DoB t u m w g8 g9 A8 A9 c8 c9 V := by
  obtain ⟨A8, c8, b8, r8, f8⟩ := h.one
  obtain ⟨A9, c9, b9, r9, f9⟩ := h.two
  exact ⟨A8, c8, A9, c9, h.bm, ⟨b8, r8, f8, h.gt.1⟩, ⟨b9, r9, f9, h.gt.2⟩⟩
/-- The first node with an Id, or a zero one. -/
theorem nodeHere_any (s : SnapD) (id : Int) (hn : s.nodes.length ≤ 40) : ∃ (n : NodeD) (b : Bool), ((b = false ∧ nodeAt id s.nodes = none) ∨ (b = true ∧ nodeAt id s.nodes = some n)) ∧
    ∀ V A c v2 v3, Recs 10 cellsN V V.heap.size A s.nodes → Calls Tryz.prog 47 #[.agg #[.slice A s.nodes.length c, v2, v3], .int .i64 id] V fun e w' => e = .returned (.tuple #[aggN n, .bool b]) ∧ Below V.heap.size V w' := by
  by_cases hp : place NodeD.id id s.nodes 0 < 0
  · refine ⟨⟨0, 0, .zer, .zer⟩, false, .inl ⟨rfl, nodeAt_no (Int.le_refl _) hp⟩, fun V A c v2 v3 hr => ?_⟩
    refine (node_any s.nodes id A _ c v2 v3 V rfl (by omega) hr).mono ?_
    rintro e w' ⟨⟨_, rfl⟩ | ⟨i, hi, h1, _⟩, hb⟩
    · exact ⟨rfl, hb⟩
    · omega
  · have h0 := place_or (f := NodeD.id) (id := id) s.nodes 0 (by omega)
    have h1 := place_ge (f := NodeD.id) (id := id) (l := s.nodes) (k := 0) (by omega)
    have hi : (place NodeD.id id s.nodes 0).toNat < s.nodes.length := by omega
    refine ⟨s.nodes[(place NodeD.id id s.nodes 0).toNat], true, .inr ⟨rfl, nodeAt_yes (k := 0) hi (Int.le_refl _) (by omega)⟩, fun V A c v2 v3 hr => ?_⟩
    refine (node_any s.nodes id A _ c v2 v3 V rfl (by omega) hr).mono ?_
    rintro e w' ⟨⟨h2, _⟩ | ⟨i, hi', h2, rfl⟩, hb⟩
    · omega
    · refine ⟨?_, hb⟩
      have : (place NodeD.id id s.nodes 0).toNat = i := by omega
      subst this
      rfl
theorem cell_off10 {V : World} {b g j : Nat} {x0 x1 x2 x3 x4 x5 x6 x7 x8 x9 : Value} (h : b ≠ g) : ((((((((((V.setCell ⟨g, 0, none⟩ x0).setCell ⟨g, 1, none⟩ x1).setCell ⟨g, 2, none⟩ x2).setCell ⟨g, 3, none⟩ x3).setCell ⟨g, 4, none⟩ x4).setCell ⟨g, 5, none⟩ x5).setCell ⟨g, 6, none⟩ x6).setCell ⟨g, 7, none⟩ x7).setCell ⟨g, 8, none⟩ x8).setCell ⟨g, 9, none⟩ x9).cell? ⟨b, j, none⟩ = V.cell? ⟨b, j, none⟩ := by
  have k : ∀ (W : World) (i : Nat) (x : Value), (W.setCell ⟨g, i, none⟩ x).cell? ⟨b, j, none⟩ = W.cell? ⟨b, j, none⟩ := fun W i x => World.cell?_setCell_other _ _ _ _ (by intro e; apply h; have e1 := congrArg Addr.block e; first | exact e1 | exact e1.symm)
  rw [k, k, k, k, k, k, k, k, k, k]
theorem bf_set10 {V : World} {g : Nat} {a0 a1 a2 a3 a4 a5 a6 a7 a8 a9 x0 x1 x2 x3 x4 x5 x6 x7 x8 x9 : Value} (h : Bf V g [a0, a1, a2, a3, a4, a5, a6, a7, a8, a9]) : Bf ((((((((((V.setCell ⟨g, 0, none⟩ x0).setCell ⟨g, 1, none⟩ x1).setCell ⟨g, 2, none⟩ x2).setCell ⟨g, 3, none⟩ x3).setCell ⟨g, 4, none⟩ x4).setCell ⟨g, 5, none⟩ x5).setCell ⟨g, 6, none⟩ x6).setCell ⟨g, 7, none⟩ x7).setCell ⟨g, 8, none⟩ x8).setCell ⟨g, 9, none⟩ x9) g [x0, x1, x2, x3, x4, x5, x6, x7, x8, x9] := by
  have h0 : Bf (V.setCell ⟨g, 0, none⟩ x0) g [x0, a1, a2, a3, a4, a5, a6, a7, a8, a9] := h.set 0 x0
  have h1 : Bf ((V.setCell ⟨g, 0, none⟩ x0).setCell ⟨g, 1, none⟩ x1) g [x0, x1, a2, a3, a4, a5, a6, a7, a8, a9] := h0.set 1 x1
  have h2 : Bf (((V.setCell ⟨g, 0, none⟩ x0).setCell ⟨g, 1, none⟩ x1).setCell ⟨g, 2, none⟩ x2) g [x0, x1, x2, a3, a4, a5, a6, a7, a8, a9] := h1.set 2 x2
  have h3 : Bf ((((V.setCell ⟨g, 0, none⟩ x0).setCell ⟨g, 1, none⟩ x1).setCell ⟨g, 2, none⟩ x2).setCell ⟨g, 3, none⟩ x3) g [x0, x1, x2, x3, a4, a5, a6, a7, a8, a9] := h2.set 3 x3
  have h4 : Bf (((((V.setCell ⟨g, 0, none⟩ x0).setCell ⟨g, 1, none⟩ x1).setCell ⟨g, 2, none⟩ x2).setCell ⟨g, 3, none⟩ x3).setCell ⟨g, 4, none⟩ x4) g [x0, x1, x2, x3, x4, a5, a6, a7, a8, a9] := h3.set 4 x4
  have h5 : Bf ((((((V.setCell ⟨g, 0, none⟩ x0).setCell ⟨g, 1, none⟩ x1).setCell ⟨g, 2, none⟩ x2).setCell ⟨g, 3, none⟩ x3).setCell ⟨g, 4, none⟩ x4).setCell ⟨g, 5, none⟩ x5) g [x0, x1, x2, x3, x4, x5, a6, a7, a8, a9] := h4.set 5 x5
  have h6 : Bf (((((((V.setCell ⟨g, 0, none⟩ x0).setCell ⟨g, 1, none⟩ x1).setCell ⟨g, 2, none⟩ x2).setCell ⟨g, 3, none⟩ x3).setCell ⟨g, 4, none⟩ x4).setCell ⟨g, 5, none⟩ x5).setCell ⟨g, 6, none⟩ x6) g [x0, x1, x2, x3, x4, x5, x6, a7, a8, a9] := h5.set 6 x6
  have h7 : Bf ((((((((V.setCell ⟨g, 0, none⟩ x0).setCell ⟨g, 1, none⟩ x1).setCell ⟨g, 2, none⟩ x2).setCell ⟨g, 3, none⟩ x3).setCell ⟨g, 4, none⟩ x4).setCell ⟨g, 5, none⟩ x5).setCell ⟨g, 6, none⟩ x6).setCell ⟨g, 7, none⟩ x7) g [x0, x1, x2, x3, x4, x5, x6, x7, a8, a9] := h6.set 7 x7
  have h8 : Bf (((((((((V.setCell ⟨g, 0, none⟩ x0).setCell ⟨g, 1, none⟩ x1).setCell ⟨g, 2, none⟩ x2).setCell ⟨g, 3, none⟩ x3).setCell ⟨g, 4, none⟩ x4).setCell ⟨g, 5, none⟩ x5).setCell ⟨g, 6, none⟩ x6).setCell ⟨g, 7, none⟩ x7).setCell ⟨g, 8, none⟩ x8) g [x0, x1, x2, x3, x4, x5, x6, x7, x8, a9] := h7.set 8 x8
  have h9 : Bf ((((((((((V.setCell ⟨g, 0, none⟩ x0).setCell ⟨g, 1, none⟩ x1).setCell ⟨g, 2, none⟩ x2).setCell ⟨g, 3, none⟩ x3).setCell ⟨g, 4, none⟩ x4).setCell ⟨g, 5, none⟩ x5).setCell ⟨g, 6, none⟩ x6).setCell ⟨g, 7, none⟩ x7).setCell ⟨g, 8, none⟩ x8).setCell ⟨g, 9, none⟩ x9) g [x0, x1, x2, x3, x4, x5, x6, x7, x8, x9] := h8.set 9 x9
  exact h9
theorem below_off10 {w V : World} {g : Nat} {x0 x1 x2 x3 x4 x5 x6 x7 x8 x9 : Value} (h : Below w.heap.size w V) (hg : w.heap.size ≤ g) : Below w.heap.size w ((((((((((V.setCell ⟨g, 0, none⟩ x0).setCell ⟨g, 1, none⟩ x1).setCell ⟨g, 2, none⟩ x2).setCell ⟨g, 3, none⟩ x3).setCell ⟨g, 4, none⟩ x4).setCell ⟨g, 5, none⟩ x5).setCell ⟨g, 6, none⟩ x6).setCell ⟨g, 7, none⟩ x7).setCell ⟨g, 8, none⟩ x8).setCell ⟨g, 9, none⟩ x9) :=
  ((((((((((h.setCell (p := ⟨g, 0, none⟩) hg _).setCell (p := ⟨g, 1, none⟩) hg _).setCell (p := ⟨g, 2, none⟩) hg _).setCell (p := ⟨g, 3, none⟩) hg _).setCell (p := ⟨g, 4, none⟩) hg _).setCell (p := ⟨g, 5, none⟩) hg _).setCell (p := ⟨g, 6, none⟩) hg _).setCell (p := ⟨g, 7, none⟩) hg _).setCell (p := ⟨g, 8, none⟩) hg _).setCell (p := ⟨g, 9, none⟩) hg _)
theorem roomAt_none {ns : List NodeD} {C : CntD} {id : Int} {a b : List PodD} (h : nodeAt id ns = none) : roomAt ns C id a b = 0 := by unfold roomAt; rw [h]
theorem roomAt_some {ns : List NodeD} {C : CntD} {id : Int} {a b : List PodD} {n : NodeD} (h : nodeAt id ns = some n) : roomAt ns C id a b = roomK (lessV n.cap n.held) n.id (C.use n.id) a b := by unfold roomAt; rw [h]
/-- What is known of a move that can be made, and that there is room for. -/
structure DoM (s : SnapD) (x : SpecD) (t u : StateD) (m : MoveD) : Prop where
  turned : Turned s.nodes t.pods u.pods m
  pt : FineP s.nodes t.pods
  rt : (roomOf s.nodes t.pods).1 = 0
  ru : (roomOf s.nodes u.pods).1 = 0
  forth : comesC (zmOf s.nodes) (leavesC (zmOf s.nodes) (cntOf (zmOf s.nodes) t.pods) (partD t.pods m)) (partD u.pods m) = cntOf (zmOf s.nodes) u.pods
  back : comesC (zmOf s.nodes) (leavesC (zmOf s.nodes) (cntOf (zmOf s.nodes) u.pods) (partD u.pods m)) (partD t.pods m) = cntOf (zmOf s.nodes) t.pods
  code : codeS s.nodes s.loads x u = faultK s.nodes (cntOf (zmOf s.nodes) u.pods) (loadsD s.loads (partD u.pods m)) x u.preempts u.shifts
theorem DoM.of (hF : FineK s x) (hP : FineP s.nodes t.pods) (hr : (roomOf s.nodes t.pods).1 = 0) (hT : Turned s.nodes t.pods u.pods m) (h0 : roomAt s.nodes (cntOf (zmOf s.nodes) t.pods) m.node (partD t.pods m) (partD u.pods m) = 0)
    (h : comesC (zmOf s.nodes) (leavesC (zmOf s.nodes) (cntOf (zmOf s.nodes) t.pods) (partD t.pods m)) (partD u.pods m) = cntOf (zmOf s.nodes) u.pods ∧ comesC (zmOf s.nodes) (leavesC (zmOf s.nodes) (cntOf (zmOf s.nodes) u.pods) (partD u.pods m)) (partD t.pods m) = cntOf (zmOf s.nodes) t.pods ∧ codeS s.nodes s.loads x u = faultK s.nodes (cntOf (zmOf s.nodes) u.pods) (loadsD s.loads (partD u.pods m)) x u.preempts u.shifts) : DoM s x t u m :=
  ⟨hT, hP, hr, (room_made hF.n hP hr hT).trans h0, h.1, h.2.1, h.2.2⟩
/-- To the state behind the move. -/
theorem doTurn_any (hF : FineK s x) (hM : DoM s x t u m) (hm : ∀ i ∈ K.muts, i < w.heap.size) (hB : DoB t u m w g8 g9 A8 A9 c8 c9 V) (hk : Kc K s x t.pods t.preempts t.shifts (cntOf (zmOf s.nodes) t.pods) N nd V) (hN : N + 1000 < maxLen) :
    Calls Tryz.prog 41 #[.pointer (some ⟨K.kb, 0, none⟩), .agg #[.slice A8 (partD t.pods m).length c8, .int .i64 t.preempts, .int .i64 t.shifts], .agg #[.slice A9 (partD u.pods m).length c9, .int .i64 u.preempts, .int .i64 u.shifts]] V
      fun e w' => e = .returned (.tuple #[]) ∧ Kc K s x u.pods u.preempts u.shifts (cntOf (zmOf s.nodes) u.pods) (N + 8) nd w' ∧ Only K.muts V w' ∧ DoB t u m w g8 g9 A8 A9 c8 c9 w' := by
  have hfar : ∀ {A : Option Addr}, (∀ a, A = some a → w.heap.size ≤ a.block) → ∀ a, A = some a → a.block ∉ K.muts := fun hf a ha e => by have := hm _ e; have := hf a ha; omega
  refine (turnK_any V hk hF hM.pt hM.turned.fine hM.rt A8 A9 c8 c9 _ _ hB.one.row (hfar hB.one.far) hB.two.row (hfar hB.two.far) hM.turned.ins.1 hM.turned.there hM.forth hN).mono ?_
  rintro e w' ⟨rfl, hk', ho⟩
  exact ⟨rfl, hk', ho, hB.only ho hm⟩
/-- And back. -/
theorem doBack_any (hF : FineK s x) (hM : DoM s x t u m) (hm : ∀ i ∈ K.muts, i < w.heap.size) (hB : DoB t u m w g8 g9 A8 A9 c8 c9 V) (hk : Kc K s x u.pods u.preempts u.shifts (cntOf (zmOf s.nodes) u.pods) N nd V) (hN : N + 1000 < maxLen) :
    Calls Tryz.prog 41 #[.pointer (some ⟨K.kb, 0, none⟩), .agg #[.slice A9 (partD u.pods m).length c9, .int .i64 u.preempts, .int .i64 u.shifts], .agg #[.slice A8 (partD t.pods m).length c8, .int .i64 t.preempts, .int .i64 t.shifts]] V
      fun e w' => e = .returned (.tuple #[]) ∧ Kc K s x t.pods t.preempts t.shifts (cntOf (zmOf s.nodes) t.pods) (N + 8) nd w' ∧ Only K.muts V w' := by
  have hfar : ∀ {A : Option Addr}, (∀ a, A = some a → w.heap.size ≤ a.block) → ∀ a, A = some a → a.block ∉ K.muts := fun hf a ha e => by have := hm _ e; have := hf a ha; omega
  exact turnK_any V hk hF hM.turned.fine hM.pt hM.ru A9 A8 c9 c8 _ _ hB.two.row (hfar hB.two.far) hB.one.row (hfar hB.one.far) hM.turned.ins.2 hM.turned.back hM.back hN
theorem loadsD_mem {ls : List LoadD} {b : List PodD} {y : LoadD} (h : y ∈ loadsD ls b) : y ∈ ls := (List.mem_filter.1 h).1
/-- What is amiss behind the move. -/
theorem doFault_any (hF : FineK s x) (hM : DoM s x t u m) (hk : Kc K s x u.pods u.preempts u.shifts (cntOf (zmOf s.nodes) u.pods) N nd V) (A : Option Addr) (c : Nat) (hl : s.loads.length ≤ 400) (hr : Recs 5 cellsL V V.heap.size A (loadsD s.loads (partD u.pods m))) :
    Calls Tryz.prog 32 #[.pointer (some ⟨K.kb, 0, none⟩), .slice A (loadsD s.loads (partD u.pods m)).length c] V fun e w' => e = .returned (codeV (codeS s.nodes s.loads x u)) ∧ Below V.heap.size V w' := by
  rw [hM.code]
  exact fault_any _ A _ c V hk hF.n (cntOk_of hF.n hM.turned.fine hM.ru) (fun y hy => hF.lo y (loadsD_mem hy)) rfl (Nat.le_trans (List.length_filter_le _ _) hl) hr
/-- The loads that a move touches. -/
theorem doLoads_any (hk : Kc K s x u.pods u.preempts u.shifts (cntOf (zmOf s.nodes) u.pods) N nd V) (hl : s.loads.length ≤ 400) (hB : DoB t u m w g8 g9 A8 A9 c8 c9 V) :
    Calls Tryz.prog 48 #[.agg #[.slice K.a1 s.nodes.length K.c1, .slice K.a2 s.loads.length K.c2, .slice K.a3 s.pods.length K.c3], .slice A9 (partD u.pods m).length c9] V fun e w' => ∃ A' c', e = .returned (.slice A' (loadsD s.loads (partD u.pods m)).length c') ∧ Out 5 cellsL w' (loadsD s.loads (partD u.pods m)) A' c' ∧ (∀ a, A' = some a → V.heap.size ≤ a.block) ∧ Below V.heap.size V w' :=
  loadsOf_any s.loads (partD u.pods m) K.a1 K.a2 K.a3 A9 _ K.c1 _ K.c2 _ K.c3 _ c9 V rfl hl hk.r2 rfl (by have := part_len u.pods m; omega) hB.two.row
/-- Whether there is room at the move's node. -/
theorem doRoom_any {n : NodeD} (hF : FineK s x) (hP : FineP s.nodes t.pods) (hT : Turned s.nodes t.pods u.pods m) (hr : (roomOf s.nodes t.pods).1 = 0) (hn : nodeAt m.node s.nodes = some n) (hk : Kc K s x t.pods t.preempts t.shifts (cntOf (zmOf s.nodes) t.pods) N nd V) (hB : DoB t u m w g8 g9 A8 A9 c8 c9 V) :
    Calls Tryz.prog 30 #[K.M.val, aggN n, .slice A8 (partD t.pods m).length c8, .slice A9 (partD u.pods m).length c9] V fun e w' => e = .returned (codeV (roomAt s.nodes (cntOf (zmOf s.nodes) t.pods) m.node (partD t.pods m) (partD u.pods m))) ∧ Below V.heap.size V w' := by
  rw [roomAt_some hn]
  obtain ⟨hmem, _⟩ := nodeAt_mem hn
  exact roomFault_any (hF.n.ok n hmem) ((cntOk_of hF.n hP hr).use _) (fun p hp => hP.ok p (part_mem hp)) (fun p hp => hT.fine.ok p (part_mem hp)) A8 A9 _ c8 _ c9 rfl (by have := part_len t.pods m; omega) rfl (by have := part_len u.pods m; omega) V hk.cnt hB.one.row hB.two.row
end
/-- What was taken back is told. -/
theorem kdo_back {K : KAddr} {s : SnapD} {x : SpecD} {t : StateD} {m : MoveD} {ds : List DeedD} {N : Nat} {w V : World} {e : Ending} {c : Int} (h : Kp K s x t ds N w) (hd : doD s.nodes s.loads x t m = (noState, c)) (hc : c ≠ 0) (hk : Kc K s x t.pods t.preempts t.shifts (cntOf (zmOf s.nodes) t.pods) (N + 16) ds.length V) (ho : Only K.muts w V) (he : e = .returned (codeV c)) : KDoTo K s x t m ds N w e V := by
  unfold KDoTo
  rw [hd]
  have hr := h.rest.only h.k.sep ho
  exact ⟨he, ho.mono (fun i hi => muts_all hi), .inl ⟨hc, hk, hr.row, hr.parts, h.fine, h.safe, h.chain, hr.low⟩⟩
end Go.Proofs.YtpfjeoldgcepnaaGreatDoor

namespace Go.Proofs.YtpfjeoldgcepnaaGreatDoor
set_option linter.unusedSimpArgs false
open Go.RowKit
set_option linter.unusedVariables false

theorem Only.grownS {S : List Nat} {r : Option Nat} {w w' : World} (h : w.grownBy w' r) (hS : ∀ b, r = some b → b ∈ S) : Only S w w' :=
  ⟨h.os, h.tape, h.output, h.size, fun i hi hn => h.block i hi (fun e => hn (hS i e.symm))⟩
theorem DeedRow.at_lt {A : Option Addr} {c : Nat} {ds : List DeedD} {w : World} (h : DeedRow A c ds w) : ∀ a, A = some a → a.block < w.heap.size := fun a ha => by
  rcases h.2 with ⟨hv, _⟩ | ⟨g, cap, cur, hv, _, hg, _⟩
  · injection hv with e _ _; rw [ha] at e; cases e
  · injection hv with e _ _; rw [ha] at e; injection e with e; rw [e]; exact (Array.getElem?_eq_some_iff.1 hg).1
theorem ownBlockD {A : Option Addr} {n c b : Nat} (h : (Value.slice A n c).ownBlock = some b) : ∃ a, A = some a ∧ a.block = b := by
  cases A with
  | none => cases h
  | some a => exact ⟨a, rfl, by injection h⟩
theorem mem_all {K : KAddr} {i : Nat} : i ∈ K.all ↔ i = K.kb ∨ (∃ a, K.a4 = some a ∧ a.block = i) ∨ (∃ a, K.ad = some a ∧ a.block = i) ∨ i ∈ K.M.four := by
  simp only [KAddr.all, blk, List.mem_cons, List.mem_append, List.mem_map, Option.mem_toList]
theorem Kp.all_lt {K : KAddr} {s : SnapD} {x : SpecD} {t : StateD} {ds : List DeedD} {N : Nat} {w : World} (h : Kp K s x t ds N w) : ∀ i ∈ K.all, i < w.heap.size := fun i hi => by
  have hm := h.k.muts_lt
  rcases mem_all.1 hi with e | ⟨a, ha, e⟩ | ⟨a, ha, e⟩ | e
  · exact hm i (by rw [e]; exact (lookK_muts h.k.sep).2.2.2)
  · exact hm i (by rw [← e]; exact (lookK_muts h.k.sep).2.2.1 a ha)
  · rw [← e]; exact h.row.at_lt a ha
  · exact hm i ((lookK_muts h.k.sep).2.1 i e)
abbrev KAddr.more (K : KAddr) (g cap : Nat) : KAddr := { K with ad := some ⟨g, 0, none⟩, cd := cap }
theorem mem_more {K : KAddr} {g cap i : Nat} : i ∈ (K.more g cap).all ↔ i = K.kb ∨ (∃ a, K.a4 = some a ∧ a.block = i) ∨ i = g ∨ i ∈ K.M.four := by
  rw [mem_all]
  constructor
  · rintro (e | e | ⟨a, ha, e⟩ | e)
    · exact .inl e
    · exact .inr (.inl e)
    · injection ha with ha; exact .inr (.inr (.inl (by rw [← e, ← ha])))
    · exact .inr (.inr (.inr e))
  · rintro (e | e | e | e)
    · exact .inl e
    · exact .inr (.inl e)
    · exact .inr (.inr (.inl ⟨_, rfl, e.symm⟩))
    · exact .inr (.inr (.inr e))
theorem all_more {K : KAddr} {g cap i : Nat} (h : i ∈ (K.more g cap).all) : i ∈ K.all ∨ i = g := by
  rcases mem_more.1 h with e | e | e | e
  · exact .inl (mem_all.2 (.inl e))
  · exact .inl (mem_all.2 (.inr (.inl e)))
  · exact .inr e
  · exact .inl (mem_all.2 (.inr (.inr (.inr e))))
/-- The row of moves: the old one, or a new block. -/
def Lies (K : KAddr) (g B : Nat) : Prop := (∃ a, K.ad = some a ∧ a.block = g) ∨ B ≤ g
theorem sep_more {K : KAddr} {s : SnapD} {x : SpecD} {t : StateD} {ds : List DeedD} {N : Nat} {w : World} {g cap : Nat} (h : Kp K s x t ds N w) (hg : Lies K g w.heap.size) : KSep (K.more g cap) := by
  have hs := h.k.sep
  have hlt := h.all_lt
  have hz : K.M.z < w.heap.size := h.k.zone.lt
  have far : ∀ {A : Option Addr}, (∀ a, A = some a → a.block ∉ K.all) → (∀ a, A = some a → a.block < w.heap.size) → ∀ a, A = some a → a.block ∉ (K.more g cap).all := fun h1 h2 a ha e => by
    rcases all_more e with e | e
    · exact h1 a ha e
    · rcases hg with ⟨b, hb, e2⟩ | h3
      · exact h1 a ha (mem_all.2 (.inr (.inr (.inl ⟨b, hb, e2.trans e.symm⟩))))
      · have := h2 a ha; omega
  refine ⟨hs.m, hs.kb, hs.g, fun a ha => ?_, far hs.r1 (fun a ha => h.low a (.inl ha)), far hs.r2 (fun a ha => h.low a (.inr (.inl ha))), far hs.r3 (fun a ha => h.low a (.inr (.inr (.inl ha)))), far hs.r5 (fun a ha => h.low a (.inr (.inr (.inr (.inl ha)))))⟩
  have ea : a.block = g := by injection ha with ha; rw [← ha]
  rw [ea]
  rcases hg with ⟨b, hb, e⟩ | h3
  · have := hs.d b hb
    rw [e] at this
    exact this
  · refine ⟨fun e => by have e : g = K.kb := e; have := hlt K.kb (mem_all.2 (.inl rfl)); omega, fun e => ?_, fun b hb e => by have := hlt b.block (mem_all.2 (.inr (.inl ⟨b, hb, rfl⟩))); omega⟩
    rcases List.mem_cons.1 e with e | e
    · have e : g = K.M.z := e; omega
    · have := hlt g (mem_all.2 (.inr (.inr (.inr e)))); omega
theorem Kc.row {K : KAddr} {s : SnapD} {x : SpecD} {l : List PodD} {p1 p2 : Int} {C : CntD} {N nd nd' g cap : Nat} {w w' : World} (h : Kc K s x l p1 p2 C N nd w) (hs' : KSep (K.more g cap)) (hb : Bf w' K.kb (kcells (K.more g cap) s x l.length p1 p2 nd')) (ho : Only (K.kb :: blk K.ad) w w') : Kc (K.more g cap) s x l p1 p2 C N nd' w' := by
  have hs := h.sep
  have hne : ∀ i, i ≠ K.kb → (∀ a, K.ad = some a → a.block ≠ i) → i ∉ K.kb :: blk K.ad := fun i h1 h2 e => by
    rcases List.mem_cons.1 e with e | e
    · exact h1 e
    · simp only [blk, List.mem_map, Option.mem_toList] at e
      obtain ⟨a, ha, e⟩ := e
      exact h2 a ha e
  have hng : ∀ i, i ∈ K.M.z :: K.M.four → i ∉ K.kb :: blk K.ad := fun i hi => hne i (fun e => hs.kb (by rw [← e]; exact hi)) (fun a ha e => (hs.d a ha).2.1 (by rw [e]; exact hi))
  have hall : ∀ i ∈ K.kb :: blk K.ad, i ∈ K.all := fun i e => by
    rcases List.mem_cons.1 e with e | e
    · exact mem_all.2 (.inl e)
    · simp only [blk, List.mem_map, Option.mem_toList] at e
      exact mem_all.2 (.inr (.inr (.inl e)))
  have hr : ∀ {A : Option Addr}, (∀ a, A = some a → a.block ∉ K.all) → ∀ a, A = some a → a.block ∉ K.kb :: blk K.ad := fun h1 a ha e => h1 a ha (hall _ e)
  exact ⟨hs', hb, h.pods.kept ho (fun a ha => hne _ (hs.g a ha).1 (fun b hb e => (hs.d b hb).2.2 a ha e)), h.cnt.kept ho (hng _ (by simp)) (hng _ (by simp)) (hng _ (by simp)) (hng _ (by simp)), h.zone.kept ho (hng _ (by simp)), recs_only h.r1 ho (hr hs.r1), recs_only h.r2 ho (hr hs.r2), recs_only h.r3 ho (hr hs.r3), recs_only h.r5 ho (hr hs.r5)⟩

theorem kb_ad {K : KAddr} (hs : KSep K) : K.kb ∉ blk K.ad := fun e => by
  simp only [blk, List.mem_map, Option.mem_toList] at e
  obtain ⟨a, ha, e⟩ := e
  exact (hs.d a ha).1 e
theorem kdo_done {K : KAddr} {s : SnapD} {x : SpecD} {t u : StateD} {ds : List DeedD} {N : Nat} {m : MoveD} {w V W1 w2 : World} {g8 g9 : Nat} {A8 A9 : Option Addr} {c8 c9 g cap : Nat} {e : Ending} (h : Kp K s x t ds N w) (hM : DoM s x t u m) (hp : partD t.pods m ≠ []) (hd : doD s.nodes s.loads x t m = (u, 0)) (hcu : codeS s.nodes s.loads x u = 0)
    (hk : Kc K s x u.pods u.preempts u.shifts (cntOf (zmOf s.nodes) u.pods) (N + 8) ds.length V) (ho : Only K.muts w V) (hB : DoB t u m w g8 g9 A8 A9 c8 c9 V) (hb : Below V.heap.size V W1)
    (hown : w2.ownsRow 0 103 7 (.slice (some ⟨g, 0, none⟩) (ds.length + 1) cap) (ds.length + 1) (ds.flatMap cellsDd ++ [.int .i64 m.kind, .int .i64 m.pod, .int .i64 m.node, .int .i64 m.over, .slice A8 (partD t.pods m).length c8, .int .i64 t.preempts, .int .i64 t.shifts]))
    (hgr : W1.grownBy w2 (Value.slice K.ad ds.length K.cd).ownBlock) (hat : (Value.slice K.ad ds.length K.cd).ownBlock = some g ∨ g = W1.heap.size) (he : e = .returned .nilIface) :
    KDoTo K s x t m ds N w e (w2.setCell ⟨K.kb, 9, none⟩ (.slice (some ⟨g, 0, none⟩) (ds.length + 1) cap)) := by
  have hs := h.k.sep
  have hl0 := h.all_lt
  have hVw : w.heap.size ≤ V.heap.size := ho.size
  have hW1 : V.heap.size ≤ W1.heap.size := hb.size
  have hlg : Lies K g W1.heap.size := by
    rcases hat with e | e
    · exact .inl (ownBlockD e)
    · exact .inr (by omega)
  have hlg0 : Lies K g w.heap.size := hlg.imp id (fun e => by omega)
  have o2 : Only (blk K.ad) W1 w2 := Only.grownS hgr (fun b e => by
    obtain ⟨a, ha, e⟩ := ownBlockD e
    simp only [blk, List.mem_map, Option.mem_toList]
    exact ⟨a, ha, e⟩)
  have o3 : Only (K.kb :: blk K.ad) W1 (w2.setCell ⟨K.kb, 9, none⟩ (.slice (some ⟨g, 0, none⟩) (ds.length + 1) cap)) := (o2.mono (fun i hi => List.mem_cons_of_mem _ hi)).setCell (p := ⟨K.kb, 9, none⟩) (List.mem_cons.2 (.inl rfl)) _
  have hall : ∀ i ∈ K.kb :: blk K.ad, i ∈ K.all := fun i e => by
    rcases List.mem_cons.1 e with e | e
    · exact mem_all.2 (.inl e)
    · simp only [blk, List.mem_map, Option.mem_toList] at e
      exact mem_all.2 (.inr (.inr (.inl e)))
  have oV : Only (K.kb :: blk K.ad) V (w2.setCell ⟨K.kb, 9, none⟩ (.slice (some ⟨g, 0, none⟩) (ds.length + 1) cap)) := (Only.of_below (S := K.kb :: blk K.ad) hb (fun i h1 h2 => by omega)).trans o3
  have oall : Only K.all w (w2.setCell ⟨K.kb, 9, none⟩ (.slice (some ⟨g, 0, none⟩) (ds.length + 1) cap)) := (ho.mono (fun i hi => muts_all hi)).trans (oV.mono hall)
  have hkad : K.kb ∉ blk K.ad := fun e => by
    simp only [blk, List.mem_map, Option.mem_toList] at e
    obtain ⟨a, ha, e⟩ := e
    exact (hs.d a ha).1 e
  have hbox : Bf (w2.setCell ⟨K.kb, 9, none⟩ (.slice (some ⟨g, 0, none⟩) (ds.length + 1) cap)) K.kb (kcells (K.more g cap) s x u.pods.length u.preempts u.shifts (ds.length + 1)) := ((hk.box.below hb hk.box.lt).only o2 hkad).set 9 _
  have hsep : KSep (K.more g cap) := sep_more h hlg0
  have hA8 : ∀ a, A8 = some a → a.block < V.heap.size := fun a ha => recs_ltK hB.one.row hp ha
  have hgk : g ≠ K.kb := fun e => by
    rcases hlg0 with ⟨a, ha, e2⟩ | h3
    · exact (hs.d a ha).1 (e2.trans e)
    · have := hl0 K.kb (mem_all.2 (.inl rfl)); omega
  have far : ∀ {A : Option Addr}, (∀ a, A = some a → a.block ∉ K.all) → (∀ a, A = some a → a.block < W1.heap.size) → ∀ a, A = some a → a.block ∉ (K.more g cap).all := fun h1 h2 a ha e => by
    rcases all_more e with e | e
    · exact h1 a ha e
    · rcases hlg with ⟨b, hb, e2⟩ | h3
      · exact h1 a ha (mem_all.2 (.inr (.inr (.inl ⟨b, hb, e2.trans e.symm⟩))))
      · have := h2 a ha; omega
  have hlow : ∀ a, (K.a1 = some a ∨ K.a2 = some a ∨ K.a3 = some a ∨ K.a5 = some a ∨ ∃ d ∈ ds, d.A = some a) → a.block < w.heap.size := h.low
  unfold KDoTo
  rw [hd]
  refine ⟨he, oall, .inr ⟨rfl, K.more g cap, ⟨m, t, A8, c8⟩, rfl, rfl, ?_, rfl, fun i hi => ?_, fun i hi => ?_⟩⟩
  · refine ⟨?_, ?_, ?_, hM.turned.fine, hcu, ?_, ?_⟩
    · have := (hk.row (nd' := ds.length + 1) hsep hbox oV).mono (show N + 8 ≤ N + 16 by omega)
      rw [List.length_append]
      exact this
    · have hown' : DeedRow (some ⟨g, 0, none⟩) cap (ds ++ [⟨m, t, A8, c8⟩]) w2 := by
        unfold DeedRow
        rw [List.flatMap_append, List.length_append]
        exact hown
      exact hown'.kept ((Only.refl [K.kb] w2).setCell (List.mem_singleton.2 rfl) _) (fun a ha e => by
        injection ha with ha
        have := List.mem_singleton.1 e
        rw [← ha] at this
        exact hgk this)
    · intro d hdm
      rcases List.mem_append.1 hdm with hdm | hdm
      · exact ⟨recs_only (h.parts d hdm).1 oall (h.parts d hdm).2, far (h.parts d hdm).2 (fun a ha => by have := hlow a (.inr (.inr (.inr (.inr ⟨d, hdm, ha⟩)))); omega)⟩
      · rw [List.mem_singleton.1 hdm]
        have hout : ∀ a, A8 = some a → a.block ∉ K.all := fun a ha e => by have := hl0 _ e; have := hB.one.far a ha; omega
        exact ⟨recs_only hB.one.row oV (fun a ha e => hout a ha (hall _ e)), far hout (fun a ha => by have := hA8 a ha; omega)⟩
    · rw [List.reverse_append]
      exact ⟨hd, h.fine, h.safe, h.chain⟩
    · intro a ha
      have hsz : V.heap.size ≤ (w2.setCell ⟨K.kb, 9, none⟩ (.slice (some ⟨g, 0, none⟩) (ds.length + 1) cap)).heap.size := oV.size
      rcases ha with ha | ha | ha | ha | ⟨d, hdm, ha⟩
      · have := hlow a (.inl ha); omega
      · have := hlow a (.inr (.inl ha)); omega
      · have := hlow a (.inr (.inr (.inl ha))); omega
      · have := hlow a (.inr (.inr (.inr (.inl ha)))); omega
      · rcases List.mem_append.1 hdm with hdm | hdm
        · have := hlow a (.inr (.inr (.inr (.inr ⟨d, hdm, ha⟩)))); omega
        · rw [List.mem_singleton.1 hdm] at ha
          have := hA8 a ha; omega
  · rcases all_more hi with e | e
    · exact .inl e
    · rcases hlg0 with ⟨a, ha, e2⟩ | h3
      · exact .inl (mem_all.2 (.inr (.inr (.inl ⟨a, ha, e2.trans e.symm⟩))))
      · exact .inr (by omega)
  · rcases hi with hi | hi | ⟨a, ha, e⟩
    · rcases all_more hi with e | e
      · exact .inl (.inl e)
      · rcases hlg0 with ⟨a, ha, e2⟩ | h3
        · exact .inl (.inl (mem_all.2 (.inr (.inr (.inl ⟨a, ha, e2.trans e.symm⟩)))))
        · exact .inr (by omega)
    · exact .inl (.inr (.inl hi))
    · rcases ha with ha | ha | ha | ha | ⟨d, hdm, ha⟩
      · exact .inl (.inr (.inr ⟨a, .inl ha, e⟩))
      · exact .inl (.inr (.inr ⟨a, .inr (.inl ha), e⟩))
      · exact .inl (.inr (.inr ⟨a, .inr (.inr (.inl ha)), e⟩))
      · exact .inl (.inr (.inr ⟨a, .inr (.inr (.inr (.inl ha))), e⟩))
      · rcases List.mem_append.1 hdm with hdm | hdm
        · exact .inl (.inr (.inr ⟨a, .inr (.inr (.inr (.inr ⟨d, hdm, ha⟩))), e⟩))
        · rw [List.mem_singleton.1 hdm] at ha
          have := hB.one.far a ha
          exact .inr (by omega)

section
variable {o : Oper} {a : Act} {Q : Exit → Act → World → Prop} {ops : Array Oper} {wr : World}
/-- append of one deed, at a step of a region that draws its order. -/
theorem step_deed {K : Act → World → Prop} {E : Prop} (hgd : o.guard = none) (s x : Operand) (ho : o.op = .call { callee := .builtin .append, args := #[s, x], argTypes := #[90, 90] })
    {A : Option Addr} {c : Nat} {ds : List DeedD} (hrow : DeedRow A c ds wr) (hds : ds.length ≤ 1000) (hs : a.eval s = .slice A ds.length c) {g0 : Nat} (hx : a.eval x = .slice (some ⟨g0, 0, none⟩) 1 1) (ys : List Value) (hu : ∀ u ∈ ys, u.oneCell' = true) (hn : ys.length = 7) (hc : ∀ j u, ys[j]? = some u → wr.cell? ⟨g0, j, none⟩ = some u)
    (h : ∀ g cap w', w'.ownsRow 0 103 7 (.slice (some ⟨g, 0, none⟩) (ds.length + 1) cap) (ds.length + 1) (ds.flatMap cellsDd ++ ys) → wr.grownBy w' (Value.slice A ds.length c).ownBlock → ((Value.slice A ds.length c).ownBlock = some g ∨ g = wr.heap.size) → g < w'.heap.size → K (a.put o.dst (.slice (some ⟨g, 0, none⟩) (ds.length + 1) cap)) w') :
    if Region.wanted o (yielded ops a.tmps) = true then Oper.wp Tryz.prog o a wr K Q else E := by
  have hinfo : (Tryz.prog.info? 103).map (fun i => (i.zero, i.size, i.bytes)) = some (some (.agg #[.int .i64 0, .int .i64 0, .int .i64 0, .int .i64 0, .slice none 0 0, .int .i64 0, .int .i64 0]), 7, 72) := by kernel_rfl
  obtain ⟨i0, hi, hz0, hz1, hz2⟩ : ∃ i, Tryz.prog.info? 103 = some i ∧ i.zero = some (.agg #[.int .i64 0, .int .i64 0, .int .i64 0, .int .i64 0, .slice none 0 0, .int .i64 0, .int .i64 0]) ∧ i.size = 7 ∧ i.bytes = 72 := by
    cases hi : Tryz.prog.info? 103 with
    | none => rw [hi] at hinfo; cases hinfo
    | some i =>
      rw [hi] at hinfo
      have h := Option.some.inj hinfo
      simp only [Prod.mk.injEq] at h
      exact ⟨i, rfl, h.1, h.2.1, h.2.2⟩
  refine step_append_lies wr hgd s x 90 ho 0 103 i0 _ 7 72 Tryz.underlying90 hi hz0 hz1 hz2 rfl (by decide) (.slice A ds.length c) ds.length (ds.flatMap cellsDd) hs hrow ⟨g0, 0, none⟩ 1 1 ys hx (by rw [hn]) ?_ hu (by decide) (by unfold maxLen; omega) (by omega) (Nat.zero_le _) _ rfl h
  intro j u hj
  have e : Addr.add ⟨g0, 0, none⟩ j = ⟨g0, j, none⟩ := by
    simp only [Addr.add, Nat.zero_add]
    split
    · rename_i e; rw [e]
    · rfl
  rw [e]
  exact hc j u hj
end
end Go.Proofs.YtpfjeoldgcepnaaGreatDoor
