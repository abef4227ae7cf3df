/- Joined texts, part 18: VK VN VV VH. -/
import Derived.Test.YtpfjeoldgcepnaaGreatDoorZ17
import Derived.Deep.RegionHeld3
import Derived.Test.YtpfjeoldgcepnaaGreatDoorZ16
import Derived.Test.YtpfjeoldgcepnaaGreatDoorZ12
import Derived.Test.YtpfjeoldgcepnaaGreatDoorZ13
import Derived.Test.YtpfjeoldgcepnaaGreatDoorZ11
import Derived.Test.YtpfjeoldgcepnaaGreatDoorZ10
import Derived.Test.YtpfjeoldgcepnaaGreatDoorZ09

/- Pods that leave: the program's leave of layer 13. -/
namespace Go.Proofs.YtpfjeoldgcepnaaGreatDoor
set_option linter.unusedSimpArgs false
open Go.RowKit
set_option linter.unusedVariables false

set_option maxHeartbeats 6400000 in
set_option maxRecDepth 100000 in
theorem leave_walk {M : MapsB} {n : Nat} {C : CntD} {zm : Int → Option Int} {l : List PodD} (hM : M.Apart) (hl : ∀ p ∈ l, p.Ok) (hC : ∀ k, (C.use k).Ok) (hzm : ∀ i z, zm i = some z → I64 z) (A : Option Addr) (m c : Nat) (hm : m = l.length) (hl4 : m ≤ 400) (hn : n + 2 * m + 2 < maxLen) (w : World) (h : CntIs M n C w) (hz : ZoneIs M.z zm w)
    (hr : Recs 8 cellsP w w.heap.size A l) (hA : ∀ a, A = some a → a.block ∉ M.four) :
    Calls Tryz.prog 76 #[M.val, .slice A m c] w fun e w' => e = .returned (.tuple #[]) ∧ CntIs M (n + 2 * m) (leavesC zm C l) w' ∧ Only M.four w w' := by
  have B0 : Bf (w.alloc (.cells #[.map (some M.z), .map (some M.u), .map (some M.a), .map (some M.i), .map (some M.s)] 88)) w.heap.size M.cells := Bf.new w M.cells 88 rfl
  have k0 : Below w.heap.size w (w.alloc (.cells #[.map (some M.z), .map (some M.u), .map (some M.a), .map (some M.i), .map (some M.s)] 88)) := (Below.refl _ w).alloc (Nat.le_refl _) _
  have HM := Lib.hid hM
  have HL := Lib.hid hl
  have HC := Lib.hid hC
  have HZM := Lib.hid hzm
  have HN := Lib.hid hm
  have HR := Lib.hid hr
  have HA := Lib.hid hA
  have HNM := Lib.hid hn
  have HLT := Lib.hid (And.intro h.use.lt (And.intro h.ats.lt (And.intro h.inz.lt h.size.lt)))
  have HAT : Hid (ComeRel M n (fun k => leavesC zm C (l.take k)) zm m w (.int .i64 0) (w.alloc (.cells #[.map (some M.z), .map (some M.u), .map (some M.a), .map (some M.i), .map (some M.s)] 88))) :=
    ⟨0, Nat.zero_le _, rfl, h.below k0, hz.below k0, B0, Only.of_below k0 (fun i h1 h2 => by omega)⟩
  clear hM hl hC hzm hm hr hA hn h hz B0 k0
  go_enter Tryz.func76, Tryz.ntmps76
  go_wp2
  go_loopw [8] (ComeRel M n (fun k => leavesC zm C (l.take k)) zm m w) (fun v _ => m - (intOf v).toNat)
  case atStart => exact HAT.out
  case round =>
    obtain ⟨k, hk, rfl, hcn, hzn, hb, ho⟩ := hrel
    change CntIs M (n + 2 * k) (leavesC zm C (l.take k)) wr at hcn
    have HCN := Lib.hid hcn
    have HZN := Lib.hid hzn
    have HB := Lib.hid hb
    have HO := Lib.hid ho
    clear HAT
    by_cases hlt : k < m
    · have hkl : k < l.length := by have := HN.out; omega
      have hpk := HL.out _ (List.getElem_mem hkl)
      generalize hp : l[k] = p at *
      obtain ⟨b, o, rfl, hbw, he⟩ := only_at HR.out HA.out ho hkl hp
      have e0 := he 0 _ rfl
      have e1 := he 1 _ rfl
      have e2 := he 2 _ rfl
      have e3 := he 3 _ rfl
      have e4 := he 4 _ rfl
      have e5 := he 5 _ rfl
      have e6 := he 6 _ rfl
      have e7 := he 7 _ rfl
      rw [Nat.add_zero] at e0
      have HST := Lib.hid (leaves_take (zm := zm) (C := C) hkl hp)
      have HP := Lib.hid hpk
      have HOK : Hid (∀ i, ((leavesC zm C (l.take k)).use i).Ok) := leaves_okC HC.out (fun q hq => HL.out q (List.mem_of_mem_take hq))
      clear hcn hzn hb ho he hp hpk
      have ka : Below wr.heap.size wr (wr.alloc (.cells #[.int .i64 p.id, .int .i64 p.load, .int .i64 p.prio, .int .u64 p.req.a, .int .u64 p.req.b, .int .u64 p.req.c, .int .u64 p.req.d, .int .i64 p.node] 79)) := (Below.refl _ wr).alloc (Nat.le_refl _) _
      have hbp : Bf (wr.alloc (.cells #[.int .i64 p.id, .int .i64 p.load, .int .i64 p.prio, .int .u64 p.req.a, .int .u64 p.req.b, .int .u64 p.req.c, .int .u64 p.req.d, .int .i64 p.node] 79)) wr.heap.size (cellsP p) := Bf.new wr (cellsP p) 79 rfl
      have hbc := HB.out.below ka HB.out.lt
      have hcV := HCN.out.below ka
      have hzV := HZN.out.below ka
      have hoV := HO.out.trans (Only.of_below (S := M.four) ka (fun i h1 h2 => by omega))
      have hww : w.heap.size < wr.heap.size := HB.out.lt
      obtain ⟨q0, q1, q2, q3, q4, q5⟩ := hbc.cells5v
      obtain ⟨⟨b0, b1, b2, b3⟩, b4, b5, b6, b7, b8⟩ := hbp.cells8v
      go_upto_region 4 with fail
      generalize hV : (wr.alloc (.cells #[.int .i64 p.id, .int .i64 p.load, .int .i64 p.prio, .int .u64 p.req.a, .int .u64 p.req.b, .int .u64 p.req.c, .int .u64 p.req.d, .int .i64 p.node] 79)) = V at *
      generalize hg : wr.heap.size = g at *
      have HCV := Lib.hid hcV
      have HZV := Lib.hid hzV
      have HOV := Lib.hid hoV
      have HBP := Lib.hid hbp
      have HBC := Lib.hid hbc
      clear ka hbp hbc hcV hzV hoV hV e0 e1 e2 e3 e4 e5 e6 e7 HCN HZN HB HO
      have HGG := Lib.hid hg
      clear hg
      by_cases h0 : p.node = 0
      · have HST0 : Hid (leavesC zm C (l.take (k + 1)) = leavesC zm C (l.take k)) := by rw [HST.out, leave_zero h0]; exact Lib.hid rfl
        have hd : (p.node != 0) = false := by simp [h0]
        clear h0
        go_wp2
        go_roundw
        case rel => exact ⟨k + 1, by omega, by go_num, by show CntIs M _ (leavesC zm C (l.take (k + 1))) V; rw [HST0.out]; exact HCV.out.mono (by omega), HZV.out, HBC.out, HOV.out⟩
        case measure => simp [intOf]; omega
      · have HST0 : Hid (leavesC zm C (l.take (k + 1)) = countC zm ⟨upd1 (leavesC zm C (l.take k)).use p.node (lessV ((leavesC zm C (l.take k)).use p.node) p.req), (leavesC zm C (l.take k)).ats, (leavesC zm C (l.take k)).inz, (leavesC zm C (l.take k)).size⟩ p (-1)) := by rw [HST.out, leave_node h0]; exact Lib.hid rfl
        have hd : (p.node != 0) = true := by simp [h0]
        have HNX := Lib.hid (show (n + 2 * k + 1) + 1 < maxLen by have := HNM.out; omega)
        generalize hcn : leavesC zm C (l.take (k + 1)) = Cn at *
        have HCN := Lib.hid hcn
        clear hcn
        generalize leavesC zm C (l.take k) = Ck at *
        have hl0 : (Instr.lookup 84 (.map (some M.u)) (.int .i64 p.node) false).run Tryz.prog V.drew = .ok (aggV (Ck.use p.node)) V.drew := use_run (V := V.drew) ⟨HCV.out.use, HCV.out.ats, HCV.out.inz, HCV.out.size⟩ HP.out.2.2.2.2
        have HAD := Lib.hid (fun w => less_any (HOK.out p.node) HP.out.2.2.2.1 w)
        generalize Ck.use p.node = u at *
        generalize lessV u p.req = mv at *
        have k0 : V.drew.cell? ⟨w.heap.size, 1, none⟩ = some (.map (some M.u)) ∧ V.drew.cell? ⟨g, 7, none⟩ = some (.int .i64 p.node) ∧ V.drew.cell? ⟨g, 3, none⟩ = some (.int .u64 p.req.a) ∧ V.drew.cell? ⟨g, 4, none⟩ = some (.int .u64 p.req.b) ∧ V.drew.cell? ⟨g, 5, none⟩ = some (.int .u64 p.req.c) ∧ V.drew.cell? ⟨g, 6, none⟩ = some (.int .u64 p.req.d) := ⟨q1, b7, b3, b4, b5, b6⟩
        have HST1 : Hid (∀ V1, Below V.drew.heap.size V.drew V1 → ∃ V3, (Instr.mapUpdate 84 (.map (some M.u)) (.int .i64 p.node) (aggV mv)).run Tryz.prog V1 = .ok () V3 ∧ (V1.cell? ⟨w.heap.size, 1, none⟩ = some (.map (some M.u)) ∧ V1.cell? ⟨g, 7, none⟩ = some (.int .i64 p.node) ∧ V1.cell? ⟨g, 3, none⟩ = some (.int .u64 p.req.a) ∧ V1.cell? ⟨g, 4, none⟩ = some (.int .u64 p.req.b) ∧ V1.cell? ⟨g, 5, none⟩ = some (.int .u64 p.req.c) ∧ V1.cell? ⟨g, 6, none⟩ = some (.int .u64 p.req.d)) ∧
            (V3.cell? ⟨w.heap.size, 1, none⟩ = some (.map (some M.u)) ∧ V3.cell? ⟨g, 7, none⟩ = some (.int .i64 p.node) ∧ V3.cell? ⟨g, 3, none⟩ = some (.int .u64 p.req.a) ∧ V3.cell? ⟨g, 4, none⟩ = some (.int .u64 p.req.b) ∧ V3.cell? ⟨g, 5, none⟩ = some (.int .u64 p.req.c) ∧ V3.cell? ⟨g, 6, none⟩ = some (.int .u64 p.req.d)) ∧
            Hid (CntIs M (n + 2 * k + 1) ⟨upd1 Ck.use p.node mv, Ck.ats, Ck.inz, Ck.size⟩ V3 ∧ ZoneIs M.z zm V3 ∧ Bf V3 g (cellsP p) ∧ Bf V3 w.heap.size M.cells ∧ Only M.four w V3)) := fun V1 hb1 => by
          have hb1 : Below V.heap.size V V1 := (Below.drew (Below.refl _ V)).trans hb1
          have hM := HM.out
          have hc := HCV.out.below hb1
          obtain ⟨V3, r3, t3, g3⟩ := hc.use.store (t := 84) intLaw Tryz.underlying84 (by have := HNX.out; omega) (aggV mv) (key_int HP.out.2.2.2.2) (g := fOne zV fun i => aggV (upd1 Ck.use p.node mv i)) (fOne_upd (g := aggV)).1 (fOne_upd (g := aggV)).2
          have o3 : Only [M.u] V1 V3 := Only.grown g3 (List.mem_singleton.2 rfl)
          have hlt1 := HLT.out.1
          have hbp1 := HBP.out.below hb1 HBP.out.lt
          have hbc1 := HBC.out.below hb1 HBC.out.lt
          have hbp := hbp1.only o3 (fun e => by have h1 := List.mem_singleton.1 e; omega)
          have hbc := hbc1.only o3 (fun e => by have h1 := List.mem_singleton.1 e; omega)
          exact ⟨V3, r3, ⟨hbc1.cell 1 _ rfl, hbp1.cell 7 _ rfl, hbp1.cell 3 _ rfl, hbp1.cell 4 _ rfl, hbp1.cell 5 _ rfl, hbp1.cell 6 _ rfl⟩, ⟨hbc.cell 1 _ rfl, hbp.cell 7 _ rfl, hbp.cell 3 _ rfl, hbp.cell 4 _ rfl, hbp.cell 5 _ rfl, hbp.cell 6 _ rfl⟩, Lib.hid
            ⟨⟨t3, (hc.ats.kept o3 (fun e => by have h1 := List.mem_singleton.1 e; exact hM.ua h1.symm)).mono (Nat.le_succ _), (hc.inz.kept o3 (fun e => by have h1 := List.mem_singleton.1 e; exact hM.ui h1.symm)).mono (Nat.le_succ _), (hc.size.kept o3 (fun e => by have h1 := List.mem_singleton.1 e; exact hM.us h1.symm)).mono (Nat.le_succ _)⟩,
             (HZV.out.below hb1).kept o3 (fun e => by have h1 := List.mem_singleton.1 e; exact hM.zu h1), hbp, hbc,
             (HOV.out.trans (Only.of_below (S := M.four) hb1 (fun i h1 h2 => by omega))).trans (o3.mono (by simp))⟩⟩
        go_upto_region 5 with fail
        clear h0 HST HCV HZV HOV HBP HBC q0 q1 q2 q3 q4 q5 b0 b1 b2 b3 b4 b5 b6 b7 b8
        go_region_held3 (fun w' => w'.cell? ⟨w.heap.size, 1, none⟩ = some (.map (some M.u)) ∧ w'.cell? ⟨g, 7, none⟩ = some (.int .i64 p.node) ∧ w'.cell? ⟨g, 3, none⟩ = some (.int .u64 p.req.a) ∧ w'.cell? ⟨g, 4, none⟩ = some (.int .u64 p.req.b) ∧ w'.cell? ⟨g, 5, none⟩ = some (.int .u64 p.req.c) ∧ w'.cell? ⟨g, 6, none⟩ = some (.int .u64 p.req.d))
          (with_reducible assumption)
          (first
            | (go_at_call 61; refine (HAD.out _).mono ?_; rintro e V1 ⟨rfl, hb1⟩; obtain ⟨V3, r3, k1, k3, HV3⟩ := HST1.out V1 hb1))
        have hM := HM.out
        have HCT := Lib.hid (countK_any (zm := zm) (d := -1) hM HP.out HZM.out HNX.out V3 HV3.out.1 HV3.out.2.1)
        have HZ3 := Lib.hid HV3.out.2.1
        have HO3 := Lib.hid HV3.out.2.2.2.2
        have HBC3 := Lib.hid HV3.out.2.2.2.1
        obtain ⟨q0, q1, q2, q3, q4, q5⟩ := HV3.out.2.2.2.1.cells5v
        obtain ⟨⟨b0, b1, b2, b3⟩, b4, b5, b6, b7, b8⟩ := HV3.out.2.2.1.cells8v
        clear hl0 k0 k1 k3 r3 hb1 HV3 HST1 HAD
        go_wp2_with fail
        refine HCT.out.mono ?_
        rintro e V4 ⟨rfl, hc4, ho4⟩
        have hz4 := HZ3.out.kept ho4 (fun e => by
          simp only [List.mem_cons, List.not_mem_nil, or_false] at e
          have hM := HM.out
          rcases e with e | e | e
          · exact hM.za e
          · exact hM.zi e
          · exact hM.zs e)
        have hb4 := HBC3.out.only ho4 (fun e => by
          simp only [List.mem_cons, List.not_mem_nil, or_false] at e
          have h1 := HLT.out
          omega)
        have HR4 : Hid (CntIs M (n + 2 * (k + 1)) Cn V4 ∧ ZoneIs M.z zm V4 ∧ Bf V4 w.heap.size M.cells ∧ Only M.four w V4) := ⟨by rw [HST0.out]; exact hc4.mono (by omega), hz4, hb4, HO3.out.trans (ho4.mono (by simp))⟩
        clear hc4 hz4 hb4 ho4 q0 q1 q2 q3 q4 q5 b0 b1 b2 b3 b4 b5 b6 b7 b8
        go_wp2
        go_roundw
        case rel => exact ⟨k + 1, by omega, by go_num, by show CntIs M _ (leavesC zm C (l.take (k + 1))) V4; rw [HCN.out]; exact HR4.out.1, HR4.out.2⟩
        case measure => simp [intOf]; omega
    · have hkm : k = m := by omega
      subst hkm
      have HE : Hid (leavesC zm C (l.take k) = leavesC zm C l) := by rw [List.take_of_length_le (by have := HN.out; omega)]; exact Lib.hid rfl
      clear hcn hzn hb ho
      go_wp2
      go_end0
      exact ⟨rfl, by rw [← HE.out]; exact HCN.out, HO.out⟩
end Go.Proofs.YtpfjeoldgcepnaaGreatDoor

/- What a move may change of a state: the program's part of layer 13. -/
namespace Go.Proofs.YtpfjeoldgcepnaaGreatDoor
set_option linter.unusedSimpArgs false
open Go.RowKit
set_option linter.unusedVariables false

def oneP (l : List PodD) (id : Int) : List PodD := if hasP id l = true then [podZ id l] else []
theorem oneP_is (l : List PodD) (id : Int) : oneP l id = (podAt id l).toList := by
  unfold oneP hasP podZ
  have h := podAt_none (id := id) (l := l) (k := 0) (by omega)
  cases hp : podAt id l with
  | none =>
    have h1 := h.1 hp
    have : decide (0 ≤ place PodD.id id l 0) = false := decide_eq_false (by omega)
    rw [this]; rfl
  | some p =>
    have h1 : ¬ place PodD.id id l 0 < 0 := fun e => by rw [h.2 e] at hp; cases hp
    have : decide (0 ≤ place PodD.id id l 0) = true := decide_eq_true (by omega)
    rw [this]; rfl
theorem partD_is (l : List PodD) (m : MoveD) : partD l m = [m.pod, m.over].flatMap (oneP l) := by
  simp [partD, oneP_is]
def partF (l : List PodD) (m : MoveD) (k : Nat) : List PodD := ([m.pod, m.over].take k).flatMap (oneP l)
theorem partF_next {l : List PodD} {m : MoveD} {k : Nat} (h : k < 2) {id : Int} (hi : [m.pod, m.over][k]? = some id) : partF l m (k + 1) = partF l m k ++ oneP l id := by
  unfold partF
  have hk : k < [m.pod, m.over].length := h
  rw [List.take_succ_eq_append_getElem hk, List.flatMap_append]
  have : [m.pod, m.over][k] = id := by rw [List.getElem?_eq_getElem hk] at hi; exact Option.some.inj hi
  rw [this]; simp
theorem partF_len (l : List PodD) (m : MoveD) (k : Nat) (h : k ≤ 2) : (partF l m k).length ≤ 2 := by
  have h1 : ∀ id, (oneP l id).length ≤ 1 := fun id => by unfold oneP; split <;> simp
  have a := h1 m.pod
  have b := h1 m.over
  unfold partF
  match k, h with
  | 0, _ => simp
  | 1, _ => simp; omega
  | 2, _ => simp; omega
/-- The boxes of part. -/
structure PartB (A : Option Addr) (n c : Nat) (p s : Int) (m : MoveD) (w V : World) : Prop where
  state : Bf V w.heap.size [.slice A n c, .int .i64 p, .int .i64 s]
  move : Bf V (w.heap.size + 1) [.int .i64 m.kind, .int .i64 m.pod, .int .i64 m.node, .int .i64 m.over]
  res : Bf V (w.heap.size + 2) [.slice none 0 0, .int .i64 0, .int .i64 0]
  ids : Bf V (w.heap.size + 4) [.int .i64 m.pod, .int .i64 m.over]
  below : Below w.heap.size w V
theorem PartB.keep {A : Option Addr} {n c : Nat} {p s : Int} {m : MoveD} {w V V' : World} (h : PartB A n c p s m w V) (hb : Below V.heap.size V V') : PartB A n c p s m w V' :=
  ⟨h.state.below hb h.state.lt, h.move.below hb h.move.lt, h.res.below hb h.res.lt, h.ids.below hb h.ids.lt, h.below.trans (hb.mono h.below.size)⟩
theorem PartB.far {A : Option Addr} {n c : Nat} {p s : Int} {m : MoveD} {w V V' : World} (h : PartB A n c p s m w V) (hb : Below (w.heap.size + 5) V V') : PartB A n c p s m w V' :=
  ⟨h.state.below hb (by omega), h.move.below hb (by omega), h.res.below hb (by omega), h.ids.below hb (by omega), h.below.trans (hb.mono (by omega))⟩
theorem PartB.put {A : Option Addr} {n c : Nat} {p s : Int} {m : MoveD} {w V : World} (h : PartB A n c p s m w V) (v : Value) : PartB A n c p s m w (V.setCell ⟨w.heap.size + 3, 0, none⟩ v) :=
  ⟨h.state.other (by simp) v, h.move.other (by simp) v, h.res.other (by simp) v, h.ids.other (by simp) v, h.below.setCell (by simp) v⟩
theorem five_new (w : World) (a b c d e : List Value) (t1 t2 t3 t4 t5 : TypeId) : Bf (((((w.alloc (.cells a.toArray t1)).alloc (.cells b.toArray t2)).alloc (.cells c.toArray t3)).alloc (.cells d.toArray t4)).alloc (.cells e.toArray t5)) w.heap.size a ∧
    Bf (((((w.alloc (.cells a.toArray t1)).alloc (.cells b.toArray t2)).alloc (.cells c.toArray t3)).alloc (.cells d.toArray t4)).alloc (.cells e.toArray t5)) (w.heap.size + 1) b ∧ Bf (((((w.alloc (.cells a.toArray t1)).alloc (.cells b.toArray t2)).alloc (.cells c.toArray t3)).alloc (.cells d.toArray t4)).alloc (.cells e.toArray t5)) (w.heap.size + 2) c ∧
    Bf (((((w.alloc (.cells a.toArray t1)).alloc (.cells b.toArray t2)).alloc (.cells c.toArray t3)).alloc (.cells d.toArray t4)).alloc (.cells e.toArray t5)) (w.heap.size + 3) d ∧ Bf (((((w.alloc (.cells a.toArray t1)).alloc (.cells b.toArray t2)).alloc (.cells c.toArray t3)).alloc (.cells d.toArray t4)).alloc (.cells e.toArray t5)) (w.heap.size + 4) e ∧
    Below w.heap.size w (((((w.alloc (.cells a.toArray t1)).alloc (.cells b.toArray t2)).alloc (.cells c.toArray t3)).alloc (.cells d.toArray t4)).alloc (.cells e.toArray t5)) :=
  ⟨((((Bf.new w a t1 rfl).alloc _).alloc _).alloc _).alloc _, (((Bf.new _ b t2 (by simp)).alloc _).alloc _).alloc _, ((Bf.new _ c t3 (by simp)).alloc _).alloc _, (Bf.new _ d t4 (by simp)).alloc _, Bf.new _ e t5 (by simp),
    (((((Below.refl _ w).alloc (Nat.le_refl _) _).alloc (by simp) _).alloc (by simp; omega) _).alloc (by simp; omega) _).alloc (by simp; omega) _⟩
def PartRel (l : List PodD) (A : Option Addr) (n c : Nat) (p s : Int) (m : MoveD) (w : World) (v : Value) (wr : World) : Prop :=
  ∃ (k : Nat) (A' : Option Addr) (c' : Nat), k ≤ 2 ∧ v = .int .i64 k ∧ PartB A n c p s m w wr ∧ Bf wr (w.heap.size + 3) [.slice A' (partF l m k).length c', .int .i64 p, .int .i64 s] ∧ OwnAt (w.heap.size + 5) (partF l m k) wr A' c'

set_option maxHeartbeats 6400000 in
set_option maxRecDepth 100000 in
theorem part_any (l : List PodD) (m : MoveD) (A : Option Addr) (n c : Nat) (p s : Int) (w : World) (hn : n = l.length) (hl : n ≤ 1000) (hr : Recs 8 cellsP w w.heap.size A l) :
    Calls Tryz.prog 42 #[.agg #[.slice A n c, .int .i64 p, .int .i64 s], .agg #[.int .i64 m.kind, .int .i64 m.pod, .int .i64 m.node, .int .i64 m.over]] w fun e w' => ∃ v, e = .returned v ∧ StateTo ⟨partD l m, p, s⟩ w v w' := by
  have HPO : Hid (∀ (id : Int) V, Below w.heap.size w V → Calls Tryz.prog 79 #[.agg #[.slice A n c, .int .i64 p, .int .i64 s], .int .i64 id] V fun e w' => e = .returned (.tuple #[aggP (podZ id l), .bool (hasP id l)]) ∧ Below V.heap.size V w') :=
    fun id V hV => podOf_any l id A n c _ _ V hn hl ((hr.below hV (Nat.le_refl _)).more hV.size)
  have HPD := Lib.hid (partD_is l m)
  clear hr hn
  go_enter Tryz.func42, Tryz.ntmps42
  go_wp2
  go_loopw [21] (PartRel l A n c p s m w) (fun v _ => 2 - (intOf v).toNat)
  case atStart =>
    obtain ⟨h0, h1, h2, h3, h4, h5⟩ := five_new w [.slice A n c, .int .i64 p, .int .i64 s] [.int .i64 m.kind, .int .i64 m.pod, .int .i64 m.node, .int .i64 m.over] [.slice none 0 0, .int .i64 0, .int .i64 0] [.slice none 0 0, .int .i64 p, .int .i64 s] [.int .i64 m.pod, .int .i64 m.over] 42 48 42 42 3
    exact ⟨0, none, 0, by omega, rfl, ⟨h0, h1, h2, h4, h5⟩, h3, ⟨by simp [partF], .inl ⟨rfl, rfl⟩⟩⟩
  case round =>
    obtain ⟨k, A', c', hk, rfl, hB, hof, hown⟩ := hrel
    have HB := Lib.hid hB
    have HOF := Lib.hid hof
    have HOW := Lib.hid hown
    obtain ⟨b0, b1, b2, b3⟩ := hB.state.cells3
    have i0 := hB.ids.cell 0 _ rfl
    have i1 := hB.ids.cell 1 _ rfl
    have il := hB.ids.lt
    by_cases hlt : k < 2
    · obtain ⟨id, hid, hic⟩ : ∃ id, [m.pod, m.over][k]? = some id ∧ wr.cell? ⟨w.heap.size + 4, k, none⟩ = some (.int .i64 id) := by
        match k, hlt with
        | 0, _ => exact ⟨_, rfl, i0⟩
        | 1, _ => exact ⟨_, rfl, i1⟩
      have HNX := Lib.hid (partF_next (l := l) hlt hid)
      have HLE := Lib.hid (partF_len l m k hk)
      have HPO' := Lib.hid (HPO.out id wr hB.below)
      have HON : Hid (oneP l id = if hasP id l = true then [podZ id l] else []) := Lib.hid rfl
      generalize podZ id l = z at *
      generalize hasP id l = ok at *
      clear hB hof hown hid i0 i1
      go_wp2_with fail
      refine HPO'.out.mono ?_
      rintro e w1 ⟨rfl, hb1⟩
      have ka : Below w1.heap.size w1 (w1.alloc (.cells #[.int .i64 z.id, .int .i64 z.load, .int .i64 z.prio, .int .u64 z.req.a, .int .u64 z.req.b, .int .u64 z.req.c, .int .u64 z.req.d, .int .i64 z.node] 79)) := (Below.refl _ w1).alloc (Nat.le_refl _) _
      have kc := hb1.trans (ka.mono hb1.size)
      have hB1 := HB.out.keep kc
      have hof1 := HOF.out.below kc HOF.out.lt
      have hown1 : OwnAt (w.heap.size + 5) (partF l m k) (w1.alloc (.cells #[.int .i64 z.id, .int .i64 z.load, .int .i64 z.prio, .int .u64 z.req.a, .int .u64 z.req.b, .int .u64 z.req.c, .int .u64 z.req.d, .int .i64 z.node] 79)) A' c' := own_below8 HOW.out kc (Nat.le_refl _)
      have bz : Bf (w1.alloc (.cells #[.int .i64 z.id, .int .i64 z.load, .int .i64 z.prio, .int .u64 z.req.a, .int .u64 z.req.b, .int .u64 z.req.c, .int .u64 z.req.d, .int .i64 z.node] 79)) w1.heap.size (cellsP z) := Bf.new w1 (cellsP z) 79 rfl
      have hg1 : w.heap.size + 4 < w1.heap.size := Nat.lt_of_lt_of_le HB.out.ids.lt hb1.size
      clear ka kc hb1 b0 b1 b2 b3 il hic HB HOF HOW HPO'
      go_upto_region 6 with fail
      generalize (w1.alloc (.cells #[.int .i64 z.id, .int .i64 z.load, .int .i64 z.prio, .int .u64 z.req.a, .int .u64 z.req.b, .int .u64 z.req.c, .int .u64 z.req.d, .int .i64 z.node] 79)) = V at *
      generalize w1.heap.size = g at *
      have HB := Lib.hid hB1
      have HOF := Lib.hid hof1
      have HOW := Lib.hid hown1
      obtain ⟨o0, o1, o2, o3⟩ := hof1.cells3
      obtain ⟨⟨z0, z1, z2, z3⟩, z4, z5, z6, z7, z8⟩ := bz.cells8v
      have of0 := hof1.frozen 0
      clear hB1 hof1 hown1 bz
      cases ok with
      | false =>
        have HE : Hid (partF l m (k + 1) = partF l m k) := Lib.hid (by rw [HNX.out, HON.out]; simp)
        clear z0 z1 z2 z3 z4 z5 z6 z7 z8
        go_wp2
        go_roundw
        case rel => exact ⟨k + 1, A', c', by omega, by go_num, HB.out, by rw [HE.out]; exact HOF.out, by rw [HE.out]; exact HOW.out⟩
        case measure => simp [intOf]; omega
      | true =>
        have HE : Hid (partF l m (k + 1) = partF l m k ++ [z]) := by rw [HNX.out, HON.out]; exact Lib.hid rfl
        have HZ5 : Hid (w.heap.size + 5 ≤ V.heap.size) := HB.out.ids.lt
        generalize hpf : partF l m k = xs at *
        have HXN := Lib.hid hpf
        clear hpf
        generalize hxn : xs.length = xn at *
        have HXL := Lib.hid hxn
        clear hxn
        go_wp2_with (at_builtin; refine wpList_pushR 24 79 (.agg #[.int .i64 0, .int .i64 0, .int .i64 0, .int .u64 0, .int .u64 0, .int .u64 0, .int .u64 0, .int .i64 0]) 8 64 underPods infoPod rfl (by decide) (by decide) rfl (.tmp 33) (.tmp 35) rfl (w.heap.size + 5) _ xn _ (cellsP z) rfl (onePod _) (by have h := HOW.out; unfold OwnAt at h; rw [HXL.out] at h; exact h) HZ5.out (by have := HLE.out; omega) rfl rfl ?_; intro v' w4 hown4 hb4 hB4; obtain ⟨A4, c4, rfl, hc1, hc2, hc3⟩ := own_form3 hown4; have HB4 := Lib.hid (HB.out.far (hb4)); have HO4 := Lib.hid hown4; have hof4 := HOF.out.below hb4 (by omega); have HOF4 := Lib.hid hof4; have q0 := hof4.cell 0 _ rfl; have q1 := hof4.frozen 0; have q2 := hof4.lt; clear hof4 hown4 hb4)
        go_roundw
        case rel =>
          refine ⟨k + 1, A4, c4, by omega, by go_num, HB4.out.put _, ?_, ?_⟩
          · rw [HE.out]
            have h := HOF4.out.set 0 (.slice A4 (xn + 1) c4)
            have e : (xs ++ [z]).length = xn + 1 := by rw [List.length_append, HXL.out]; rfl
            rw [e]
            exact h
          · rw [HE.out]
            have e : (xs ++ [z]).length = xn + 1 := by rw [List.length_append, HXL.out]; rfl
            refine OwnAt.set ?_ (by simp) _
            unfold OwnAt
            rw [e, List.flatMap_append]
            simpa using HO4.out
        case measure => simp [intOf]; omega
    · have hk2 : k = 2 := by omega
      subst hk2
      have HE : Hid (partF l m 2 = partD l m) := by rw [HPD.out]; exact Lib.hid rfl
      obtain ⟨o0, o1, o2, o3⟩ := hof.cells3
      obtain ⟨r0, r1, r2, r3⟩ := hB.res.cells3
      have f0 := hB.res.frozen 0
      have f1 := hB.res.frozen 1
      have f2 := hB.res.frozen 2
      clear hB hof hown b0 b1 b2 b3 i0 i1 il
      go_wp2
      refine bodyPost_ret (v := stateV A' (partF l m 2).length c' p s) ?_ rfl ?_
      · simp [results, Tryz.results42, go_sem, *]
      · rw [← HE.out]
        refine ⟨_, rfl, A', c', rfl, (((HOW.out.set (p := ⟨w.heap.size + 2, 0, none⟩) (by simp) _).set (p := ⟨w.heap.size + 2, 1, none⟩) (by simp) _).set (p := ⟨w.heap.size + 2, 2, none⟩) (by simp) _).out, fun a ha => by have := (HOW.out.from a ha).1; omega, ((HB.out.below.setCell (by show w.heap.size ≤ w.heap.size + 2; omega) _).setCell (by show w.heap.size ≤ w.heap.size + 2; omega) _).setCell (by show w.heap.size ≤ w.heap.size + 2; omega) _⟩
end Go.Proofs.YtpfjeoldgcepnaaGreatDoor

/- A part of a keeper's state turned into another one: the program's turn of layer 13. -/
namespace Go.Proofs.YtpfjeoldgcepnaaGreatDoor
set_option linter.unusedSimpArgs false
open Go.RowKit
set_option linter.unusedVariables false

/-- A record of a row written whole. -/
theorem Lst.put8 {g : Nat} {l : List PodD} {w : World} (h : Lst g l w) {i : Nat} (hi : i < l.length) (p : PodD) :
    Lst g (l.set i p) ((((((((w.setCell ⟨g, i * 8, none⟩ (.int .i64 p.id)).setCell ⟨g, i * 8 + 1, none⟩ (.int .i64 p.load)).setCell ⟨g, i * 8 + 2, none⟩ (.int .i64 p.prio)).setCell ⟨g, i * 8 + 3, none⟩ (.int .u64 p.req.a)).setCell ⟨g, i * 8 + 4, none⟩ (.int .u64 p.req.b)).setCell ⟨g, i * 8 + 5, none⟩ (.int .u64 p.req.c)).setCell ⟨g, i * 8 + 6, none⟩ (.int .u64 p.req.d)).setCell ⟨g, i * 8 + 7, none⟩ (.int .i64 p.node)) := by
  have h0 := h.put hi (j := 0) (by omega) (.int .i64 p.id) ⟨p.id, l[i].load, l[i].prio, l[i].req, l[i].node⟩ rfl
  have h1 := h0.put (i := i) (j := 1) (by simpa using hi) (by omega) (.int .i64 p.load) ⟨p.id, p.load, l[i].prio, l[i].req, l[i].node⟩ (by simp [cellsP])
  have h2 := h1.put (i := i) (j := 2) (by simpa using hi) (by omega) (.int .i64 p.prio) ⟨p.id, p.load, p.prio, l[i].req, l[i].node⟩ (by simp [cellsP])
  have h3 := h2.put (i := i) (j := 3) (by simpa using hi) (by omega) (.int .u64 p.req.a) ⟨p.id, p.load, p.prio, ⟨p.req.a, l[i].req.b, l[i].req.c, l[i].req.d⟩, l[i].node⟩ (by simp [cellsP])
  have h4 := h3.put (i := i) (j := 4) (by simpa using hi) (by omega) (.int .u64 p.req.b) ⟨p.id, p.load, p.prio, ⟨p.req.a, p.req.b, l[i].req.c, l[i].req.d⟩, l[i].node⟩ (by simp [cellsP])
  have h5 := h4.put (i := i) (j := 5) (by simpa using hi) (by omega) (.int .u64 p.req.c) ⟨p.id, p.load, p.prio, ⟨p.req.a, p.req.b, p.req.c, l[i].req.d⟩, l[i].node⟩ (by simp [cellsP])
  have h6 := h5.put (i := i) (j := 6) (by simpa using hi) (by omega) (.int .u64 p.req.d) ⟨p.id, p.load, p.prio, p.req, l[i].node⟩ (by simp [cellsP])
  have h7 := h6.put (i := i) (j := 7) (by simpa using hi) (by omega) (.int .i64 p.node) p (by simp [cellsP])
  simp only [List.set_set] at h7
  exact h7
theorem turnP_take {l b : List PodD} {k : Nat} (h : k < b.length) {p : PodD} (hp : b[k] = p) : turnP l (b.take (k + 1)) = (turnP l (b.take k)).set (idxD p.id (turnP l (b.take k))) p := by
  unfold turnP
  rw [List.take_succ_eq_append_getElem h, List.foldl_append, hp]
  rfl
theorem turnP_len : ∀ {b l : List PodD}, (turnP l b).length = l.length
  | [], l => rfl
  | p :: r, l => by
    show (turnP (l.set (idxD p.id l) p) r).length = _
    rw [turnP_len (b := r)]
    simp
/-- Every pod of this list is there, by its Id. -/
def AllIn (l b : List PodD) : Prop := ∀ p ∈ b, ¬ place PodD.id p.id l 0 < 0
theorem allIn_set {l b : List PodD} {i : Nat} {q : PodD} (h : AllIn l b) (hi : i < l.length) (hq : q.id = l[i].id) : AllIn (l.set i q) b := fun p hp => by
  rw [place_set hi hq]; exact h p hp
theorem allIn_take {l b : List PodD} (h : AllIn l b) : ∀ k, AllIn (turnP l (b.take k)) b
  | 0 => h
  | k + 1 => by
    by_cases hk : k < b.length
    · have ih := allIn_take h k
      rw [turnP_take hk rfl]
      obtain ⟨i, hi, hp⟩ := place_hit (ih b[k] (List.getElem_mem hk))
      rw [idx_place hp]
      exact allIn_set ih hi (place_is hi hp).symm
    · rw [List.take_of_length_le (by omega)]
      have := allIn_take h k
      rwa [List.take_of_length_le (by omega)] at this
/-- The boxes of turn. -/
structure TurnB (a b : List Value) (w V : World) : Prop where
  one : Bf V w.heap.size a
  two : Bf V (w.heap.size + 1) b
theorem TurnB.below {a b : List Value} {w V V' : World} (h : TurnB a b w V) (hb : Below V.heap.size V V') : TurnB a b w V' := ⟨h.one.below hb h.one.lt, h.two.below hb h.two.lt⟩
def TurnRel (K : KAddr) (s : SnapD) (x : SpecD) (l b : List PodD) (p1 p2 : Int) (C : CntD) (N nd : Nat) (fa fb : List Value) (n : Nat) (w : World) (v : Value) (wr : World) : Prop :=
  ∃ k : Nat, k ≤ n ∧ v = .int .i64 k ∧ Kc K s x (turnP l (b.take k)) p1 p2 C N nd wr ∧ TurnB fa fb w wr ∧ Only K.muts w wr

theorem lookK_muts {K : KAddr} (hs : KSep K) : K.M.z ∉ K.muts ∧ (∀ i ∈ K.M.four, i ∈ K.muts) ∧ (∀ a, K.a4 = some a → a.block ∈ K.muts) ∧ K.kb ∈ K.muts := by
  refine ⟨fun e => ?_, fun i hi => ?_, fun a ha => ?_, ?_⟩
  · simp only [KAddr.muts, blk, List.mem_cons, List.mem_append, List.mem_map, Option.mem_toList] at e
    rcases e with e | ⟨a, ha, e⟩ | e
    · exact hs.kb (by rw [e]; simp)
    · exact (hs.g a ha).2 (by rw [e]; simp)
    · exact z_four hs.m (by simpa [MapsB.four] using e)
  · unfold KAddr.muts; exact List.mem_cons_of_mem _ (List.mem_append.2 (.inr hi))
  · simp only [KAddr.muts, blk, List.mem_cons, List.mem_append, List.mem_map, Option.mem_toList]
    exact .inr (.inl ⟨a, ha, rfl⟩)
  · simp [KAddr.muts]
/-- Behind a change of the four maps. -/
theorem Kc.maps {K : KAddr} {s : SnapD} {x : SpecD} {l : List PodD} {p1 p2 : Int} {C C' : CntD} {N N' nd : Nat} {w w' : World} (h : Kc K s x l p1 p2 C N nd w) (hc : CntIs K.M N' C' w') (ho : Only K.M.four w w') : Kc K s x l p1 p2 C' N' nd w' := by
  have hs := h.sep
  have hall : ∀ i ∈ K.M.four, i ∈ K.all := fun i hi => muts_all ((lookK_muts hs).2.1 i hi)
  exact ⟨hs, h.box.only ho (fun e => hs.kb (List.mem_cons_of_mem _ e)), h.pods.kept ho (fun a ha e => (hs.g a ha).2 (List.mem_cons_of_mem _ e)), hc, h.zone.kept ho (z_four hs.m), recs_only h.r1 ho (fun a ha e => hs.r1 a ha (hall _ e)), recs_only h.r2 ho (fun a ha e => hs.r2 a ha (hall _ e)), recs_only h.r3 ho (fun a ha e => hs.r3 a ha (hall _ e)), recs_only h.r5 ho (fun a ha e => hs.r5 a ha (hall _ e))⟩
/-- Behind a change of a pod. -/
theorem Kc.pod {K : KAddr} {s : SnapD} {x : SpecD} {l : List PodD} {p1 p2 : Int} {C : CntD} {N nd : Nat} {w w' : World} {g : Nat} (h : Kc K s x l p1 p2 C N nd w) (hg : K.a4 = some ⟨g, 0, none⟩) {l' : List PodD} (hl : l'.length = l.length) (hL : Lst g l' w') (ho : Only [g] w w') : Kc K s x l' p1 p2 C N nd w' := by
  have hs := h.sep
  have hgg := hs.g _ hg
  have hne : ∀ i, i ≠ g → i ∉ [g] := fun i hi e => hi (List.mem_singleton.1 e)
  have hng : ∀ i, i ∈ K.M.z :: K.M.four → i ≠ g := fun i hi e => hgg.2 (by rw [← e]; exact hi)
  have hall : g ∈ K.all := muts_all ((lookK_muts hs).2.2.1 _ hg)
  have hr : ∀ {A : Option Addr}, (∀ a, A = some a → a.block ∉ K.all) → ∀ a, A = some a → a.block ∉ [g] := fun h1 a ha e => h1 a ha (by rw [List.mem_singleton.1 e]; exact hall)
  have hp := h.pods
  refine ⟨hs, by rw [hl]; exact h.box.only ho (hne _ (fun e => hgg.1 e.symm)), ?_, h.cnt.kept ho (hne _ (hng _ (by simp))) (hne _ (hng _ (by simp))) (hne _ (hng _ (by simp))) (hne _ (hng _ (by simp))), h.zone.kept ho (hne _ (hng _ (by simp))), recs_only h.r1 ho (hr hs.r1), recs_only h.r2 ho (hr hs.r2), recs_only h.r3 ho (hr hs.r3), recs_only h.r5 ho (hr hs.r5)⟩
  rcases hp with ⟨_, e, _⟩ | ⟨g', e, h1, h2, _⟩
  · rw [hg] at e; cases e
  · exact .inr ⟨g, hg, by rw [hl]; exact h1, h2, hL⟩
/-- Behind a change of what was used of the budgets. -/
theorem Kc.used {K : KAddr} {s : SnapD} {x : SpecD} {l : List PodD} {p1 p2 : Int} {C : CntD} {N nd : Nat} {w w' : World} (h : Kc K s x l p1 p2 C N nd w) {n' nd' : Nat} {q1 q2 : Int} (hb : Bf w' K.kb (kcells K s x l.length q1 q2 nd')) (ho : Only [K.kb] w w') : Kc K s x l q1 q2 C N nd' w' := by
  have hs := h.sep
  have hne : ∀ i, i ≠ K.kb → i ∉ [K.kb] := fun i hi e => hi (List.mem_singleton.1 e)
  have hng : ∀ i, i ∈ K.M.z :: K.M.four → i ≠ K.kb := fun i hi e => hs.kb (by rw [← e]; exact hi)
  have hall : K.kb ∈ K.all := muts_all (lookK_muts hs).2.2.2
  have hr : ∀ {A : Option Addr}, (∀ a, A = some a → a.block ∉ K.all) → ∀ a, A = some a → a.block ∉ [K.kb] := fun h1 a ha e => h1 a ha (by rw [List.mem_singleton.1 e]; exact hall)
  exact ⟨hs, hb, h.pods.kept ho (fun a ha => hne _ (hs.g a ha).1), h.cnt.kept ho (hne _ (hng _ (by simp))) (hne _ (hng _ (by simp))) (hne _ (hng _ (by simp))) (hne _ (hng _ (by simp))), h.zone.kept ho (hne _ (hng _ (by simp))), recs_only h.r1 ho (hr hs.r1), recs_only h.r2 ho (hr hs.r2), recs_only h.r3 ho (hr hs.r3), recs_only h.r5 ho (hr hs.r5)⟩

set_option maxHeartbeats 12800000 in
set_option maxRecDepth 100000 in
theorem turn_any {K : KAddr} {s : SnapD} {x : SpecD} {l la lb : List PodD} {p1 p2 p3 p4 : Int} {C : CntD} {N nd : Nat} (A1 A2 : Option Addr) (m1 c1 m2 c2 : Nat) (v1 v2 : Value) (w : World) (h : Kc K s x l p1 p2 C N nd w) (hN : FineN s.nodes) (hu : ∀ i, (C.use i).Ok) (hll : l.length ≤ 400)
    (hm1 : m1 = la.length) (hl1 : m1 ≤ 40) (hr1 : Recs 8 cellsP w w.heap.size A1 la) (hA1 : ∀ a, A1 = some a → a.block ∉ K.muts) (ho1 : ∀ p ∈ la, p.Ok) (hm2 : m2 = lb.length) (hl2 : m2 ≤ 40) (hr2 : Recs 8 cellsP w w.heap.size A2 lb) (hA2 : ∀ a, A2 = some a → a.block ∉ K.muts) (ho2 : ∀ p ∈ lb, p.Ok) (hin : AllIn l lb) (hNm : N + 1000 < maxLen) :
    Calls Tryz.prog 41 #[.pointer (some ⟨K.kb, 0, none⟩), .agg #[.slice A1 m1 c1, v1, v2], .agg #[.slice A2 m2 c2, .int .i64 p3, .int .i64 p4]] w fun e w' => e = .returned (.tuple #[]) ∧ Kc K s x (turnP l lb) p3 p4 (comesC (zmOf s.nodes) (leavesC (zmOf s.nodes) C la) lb) (N + 2 * m1 + 2 * m2) nd w' ∧ Only K.muts w w' := by
  have T0 : T2 [.slice A1 m1 c1, v1, v2] [.slice A2 m2 c2, .int .i64 p3, .int .i64 p4] w ((w.alloc (.cells #[.slice A1 m1 c1, v1, v2] 42)).alloc (.cells #[.slice A2 m2 c2, .int .i64 p3, .int .i64 p4] 42)) := T2.new w [.slice A1 m1 c1, v1, v2] [.slice A2 m2 c2, .int .i64 p3, .int .i64 p4] 42 42
  have hs := h.sep
  have hlts := And.intro h.box.lt (And.intro h.cnt.use.lt (And.intro h.cnt.ats.lt (And.intro h.cnt.inz.lt (And.intro h.cnt.size.lt h.zone.lt))))
  have hglt : ∀ a, K.a4 = some a → a.block < w.heap.size := fun a ha => by
    rcases h.pods with ⟨_, e, _⟩ | ⟨g, e, _, _, hL⟩
    · rw [ha] at e; cases e
    · rw [ha] at e; injection e with e; rw [e]; exact hL.lt
  have hmlt : ∀ i ∈ K.muts, i < w.heap.size := fun i hi => by
    simp only [KAddr.muts, blk, List.mem_cons, List.mem_append, List.mem_map, Option.mem_toList] at hi
    rcases hi with e | ⟨a, ha, e⟩ | e
    · rw [e]; exact hlts.1
    · rw [← e]; exact hglt a ha
    · simp only [MapsB.four, List.mem_cons, List.not_mem_nil, or_false] at e
      omega
  have hzm : ∀ i z, zmOf s.nodes i = some z → I64 z := fun i z hz => by
    obtain ⟨n, hn, _, rfl⟩ := (zm_is hN i z).1 hz
    exact (hN.ok n hn).2.1
  have h0 := (h.below T0.below).drew
  have hfour : ∀ i ∈ K.M.four, i < w.heap.size := fun i hi => hmlt i ((lookK_muts hs).2.1 i hi)
  have hno : w.heap.size ∉ K.M.four ∧ w.heap.size + 1 ∉ K.M.four := ⟨fun e => by have := hfour _ e; omega, fun e => by have := hfour _ e; omega⟩
  have hf1 : ∀ a, A1 = some a → a.block ∉ K.M.four := fun a ha e => hA1 a ha ((lookK_muts hs).2.1 _ e)
  have hf2 : ∀ a, A2 = some a → a.block ∉ K.M.four := fun a ha e => hA2 a ha ((lookK_muts hs).2.1 _ e)
  have hr1' : Recs 8 cellsP ((w.alloc (.cells #[.slice A1 m1 c1, v1, v2] 42)).alloc (.cells #[.slice A2 m2 c2, .int .i64 p3, .int .i64 p4] 42)).drew ((w.alloc (.cells #[.slice A1 m1 c1, v1, v2] 42)).alloc (.cells #[.slice A2 m2 c2, .int .i64 p3, .int .i64 p4] 42)).drew.heap.size A1 la := (hr1.below T0.below (Nat.le_refl _)).more T0.below.size
  have hr2' : Recs 8 cellsP ((w.alloc (.cells #[.slice A1 m1 c1, v1, v2] 42)).alloc (.cells #[.slice A2 m2 c2, .int .i64 p3, .int .i64 p4] 42)) ((w.alloc (.cells #[.slice A1 m1 c1, v1, v2] 42)).alloc (.cells #[.slice A2 m2 c2, .int .i64 p3, .int .i64 p4] 42)).heap.size A2 lb := (hr2.below T0.below (Nat.le_refl _)).more T0.below.size
  have HLV := Lib.hid (leave_walk (M := K.M) hs.m ho1 hu hzm A1 m1 c1 hm1 (by omega) (by omega) _ h0.cnt h0.zone hr1' hf1)
  have HS := Lib.hid hs
  have HNO := Lib.hid hno
  have HML := Lib.hid hmlt
  have HT0 := Lib.hid T0
  have HK0 := Lib.hid (h.below T0.below)
  have HIN := Lib.hid hin
  have HN2 := Lib.hid hm2
  have HLL := Lib.hid hll
  have HO2 := Lib.hid ho2
  have HA2 := Lib.hid hA2
  have HCM : Hid (∀ V, CntIs K.M (N + 2 * m1) (leavesC (zmOf s.nodes) C la) V → ZoneIs K.M.z (zmOf s.nodes) V → Recs 8 cellsP V V.heap.size A2 lb → Calls Tryz.prog 31 #[K.M.val, .slice A2 m2 c2] V fun e w' => e = .returned (.tuple #[]) ∧ CntIs K.M (N + 2 * m1 + 2 * m2) (comesC (zmOf s.nodes) (leavesC (zmOf s.nodes) C la) lb) w' ∧ Only K.M.four V w') :=
    fun V hc hz hr => come_walk (M := K.M) hs.m ho2 (leaves_okC hu ho1) hzm A2 m2 c2 hm2 (by omega) (by omega) V hc hz hr hf2
  have k0 : ((w.alloc (.cells #[.slice A1 m1 c1, v1, v2] 42)).alloc (.cells #[.slice A2 m2 c2, .int .i64 p3, .int .i64 p4] 42)).drew.cell? ⟨K.kb, 10, none⟩ = some (.map (some K.M.z)) ∧ ((w.alloc (.cells #[.slice A1 m1 c1, v1, v2] 42)).alloc (.cells #[.slice A2 m2 c2, .int .i64 p3, .int .i64 p4] 42)).drew.cell? ⟨K.kb, 11, none⟩ = some (.map (some K.M.u)) ∧ ((w.alloc (.cells #[.slice A1 m1 c1, v1, v2] 42)).alloc (.cells #[.slice A2 m2 c2, .int .i64 p3, .int .i64 p4] 42)).drew.cell? ⟨K.kb, 12, none⟩ = some (.map (some K.M.a)) ∧ ((w.alloc (.cells #[.slice A1 m1 c1, v1, v2] 42)).alloc (.cells #[.slice A2 m2 c2, .int .i64 p3, .int .i64 p4] 42)).drew.cell? ⟨K.kb, 13, none⟩ = some (.map (some K.M.i)) ∧ ((w.alloc (.cells #[.slice A1 m1 c1, v1, v2] 42)).alloc (.cells #[.slice A2 m2 c2, .int .i64 p3, .int .i64 p4] 42)).drew.cell? ⟨K.kb, 14, none⟩ = some (.map (some K.M.s)) ∧ ((w.alloc (.cells #[.slice A1 m1 c1, v1, v2] 42)).alloc (.cells #[.slice A2 m2 c2, .int .i64 p3, .int .i64 p4] 42)).drew.cell? ⟨w.heap.size, 0, none⟩ = some (.slice A1 m1 c1) := by
    obtain ⟨-, -, -, -, ⟨q0, q1, q2, q3, q4⟩, -⟩ := h0.facts
    exact ⟨q0, q1, q2, q3, q4, T0.one.cell 0 _ rfl⟩
  have HF2 := Lib.hid hf2
  have HONW := Lib.hid (Only.of_below (S := K.muts) HT0.out.below (fun i h1 h2 => by omega))
  have HR2 := Lib.hid hr2'
  have HRW := Lib.hid hr2
  have hww : w.heap.size + 1 < ((w.alloc (.cells #[.slice A1 m1 c1, v1, v2] 42)).alloc (.cells #[.slice A2 m2 c2, .int .i64 p3, .int .i64 p4] 42)).heap.size := T0.two.lt
  clear h hN hu hll hm1 hr1 hA1 ho1 hm2 hr2 hA2 ho2 hin hs hglt hmlt hzm hfour hno hf1 hf2 hr1' hr2' hlts
  obtain ⟨-, -, -, -, ⟨q0, q1, q2, q3, q4⟩, q5⟩ := HK0.out.facts
  have c0 := T0.one.cell 0 _ rfl
  clear T0 h0
  generalize comesC (zmOf s.nodes) (leavesC (zmOf s.nodes) C la) lb = C2 at *
  generalize leavesC (zmOf s.nodes) C la = C1 at *
  go_enter Tryz.func41, Tryz.ntmps41
  go_upto_region 1 with fail
  generalize ((w.alloc (.cells #[.slice A1 m1 c1, v1, v2] 42)).alloc (.cells #[.slice A2 m2 c2, .int .i64 p3, .int .i64 p4] 42)) = W at *
  clear q0 q1 q2 q3 q4 c0
  go_region_held3 (fun w' => w'.cell? ⟨K.kb, 10, none⟩ = some (.map (some K.M.z)) ∧ w'.cell? ⟨K.kb, 11, none⟩ = some (.map (some K.M.u)) ∧ w'.cell? ⟨K.kb, 12, none⟩ = some (.map (some K.M.a)) ∧ w'.cell? ⟨K.kb, 13, none⟩ = some (.map (some K.M.i)) ∧ w'.cell? ⟨K.kb, 14, none⟩ = some (.map (some K.M.s)) ∧ w'.cell? ⟨w.heap.size, 0, none⟩ = some (.slice A1 m1 c1))
    (with_reducible assumption)
    (first
      | (go_at_call 76; refine HLV.out.mono ?_; rintro e w1 ⟨rfl, hc1, ho1⟩; have ho1' := Only.of_drew ho1; have hK1 := HK0.out.maps hc1 ho1'; have hB1 := HT0.out.one.only ho1' HNO.out.1; have hB2 := HT0.out.two.only ho1' HNO.out.2; have k1 : w1.cell? ⟨K.kb, 10, none⟩ = some (.map (some K.M.z)) ∧ w1.cell? ⟨K.kb, 11, none⟩ = some (.map (some K.M.u)) ∧ w1.cell? ⟨K.kb, 12, none⟩ = some (.map (some K.M.a)) ∧ w1.cell? ⟨K.kb, 13, none⟩ = some (.map (some K.M.i)) ∧ w1.cell? ⟨K.kb, 14, none⟩ = some (.map (some K.M.s)) ∧ w1.cell? ⟨w.heap.size, 0, none⟩ = some (.slice A1 m1 c1) := (by obtain ⟨-, -, -, -, ⟨q0, q1, q2, q3, q4⟩, -⟩ := hK1.facts; exact ⟨q0, q1, q2, q3, q4, hB1.cell 0 _ rfl⟩)))
  have hr2 := recs_only HR2.out ho1' HF2.out
  have HO1 := Lib.hid ho1'
  have HK1 := Lib.hid hK1
  have HB1 := Lib.hid hB1
  have HB2 := Lib.hid hB2
  have k2 : w1.drew.cell? ⟨K.kb, 10, none⟩ = some (.map (some K.M.z)) ∧ w1.drew.cell? ⟨K.kb, 11, none⟩ = some (.map (some K.M.u)) ∧ w1.drew.cell? ⟨K.kb, 12, none⟩ = some (.map (some K.M.a)) ∧ w1.drew.cell? ⟨K.kb, 13, none⟩ = some (.map (some K.M.i)) ∧ w1.drew.cell? ⟨K.kb, 14, none⟩ = some (.map (some K.M.s)) ∧ w1.drew.cell? ⟨w.heap.size + 1, 0, none⟩ = some (.slice A2 m2 c2) := by
    obtain ⟨-, -, -, -, ⟨q0, q1, q2, q3, q4⟩, -⟩ := hK1.facts
    exact ⟨q0, q1, q2, q3, q4, hB2.cell 0 _ rfl⟩
  have HCC := Lib.hid (HCM.out w1.drew hK1.drew.cnt hK1.drew.zone hr2)
  clear k0 k1 hc1 ho1 ho1' hK1 hB1 hB2 hr2 HK0 HLV HCM HT0 HR2
  go_upto_region 2 with fail
  go_region_held3 (fun w' => w'.cell? ⟨K.kb, 10, none⟩ = some (.map (some K.M.z)) ∧ w'.cell? ⟨K.kb, 11, none⟩ = some (.map (some K.M.u)) ∧ w'.cell? ⟨K.kb, 12, none⟩ = some (.map (some K.M.a)) ∧ w'.cell? ⟨K.kb, 13, none⟩ = some (.map (some K.M.i)) ∧ w'.cell? ⟨K.kb, 14, none⟩ = some (.map (some K.M.s)) ∧ w'.cell? ⟨w.heap.size + 1, 0, none⟩ = some (.slice A2 m2 c2))
    (with_reducible assumption)
    (first
      | (go_at_call 31; refine HCC.out.mono ?_; rintro e w2 ⟨rfl, hc2, ho2⟩; have ho2' := Only.of_drew ho2; have hK2 := HK1.out.maps hc2 ho2'; have hB3 := HB1.out.only ho2' HNO.out.1; have hB4 := HB2.out.only ho2' HNO.out.2; have k3 : w2.cell? ⟨K.kb, 10, none⟩ = some (.map (some K.M.z)) ∧ w2.cell? ⟨K.kb, 11, none⟩ = some (.map (some K.M.u)) ∧ w2.cell? ⟨K.kb, 12, none⟩ = some (.map (some K.M.a)) ∧ w2.cell? ⟨K.kb, 13, none⟩ = some (.map (some K.M.i)) ∧ w2.cell? ⟨K.kb, 14, none⟩ = some (.map (some K.M.s)) ∧ w2.cell? ⟨w.heap.size + 1, 0, none⟩ = some (.slice A2 m2 c2) := (by obtain ⟨-, -, -, -, ⟨q0, q1, q2, q3, q4⟩, -⟩ := hK2.facts; exact ⟨q0, q1, q2, q3, q4, hB4.cell 0 _ rfl⟩)))
  have HK2 := Lib.hid hK2
  have HAT : Hid (TurnRel K s x l lb p1 p2 C2 (N + 2 * m1 + 2 * m2) nd [.slice A1 m1 c1, v1, v2] [.slice A2 m2 c2, .int .i64 p3, .int .i64 p4] m2 w (.int .i64 0) w2) :=
    ⟨0, Nat.zero_le _, rfl, hK2, ⟨hB3, hB4⟩, HONW.out.trans ((HO1.out.mono (lookK_muts HS.out).2.1).trans (ho2'.mono (lookK_muts HS.out).2.1))⟩
  have c0 := hB4.cell 0 _ rfl
  have c1' := hB4.lt
  clear k2 k3 hc2 ho2 ho2' hK2 hB3 hB4 HK1 HB1 HB2 HCC HO1 HK2 q5 hww
  go_wp2
  go_loopw [26] (TurnRel K s x l lb p1 p2 C2 (N + 2 * m1 + 2 * m2) nd [.slice A1 m1 c1, v1, v2] [.slice A2 m2 c2, .int .i64 p3, .int .i64 p4] m2 w) (fun v _ => m2 - (intOf v).toNat)
  case atStart => exact HAT.out
  case round =>
    clear HAT c0 c1'
    obtain ⟨k, hk, rfl, hK, hB, ho⟩ := hrel
    have HK := Lib.hid hK
    have HB := Lib.hid hB
    have HO := Lib.hid ho
    by_cases hlt : k < m2
    · have hkl : k < lb.length := by have := HN2.out; omega
      have hmem := List.getElem_mem hkl
      have hpl := allIn_take HIN.out k lb[k] hmem
      generalize hp : lb[k] = p at *
      obtain ⟨b, o, rfl, hbw, he⟩ := only_at HRW.out HA2.out ho hkl hp
      have HST := Lib.hid (turnP_take (l := l) hkl hp)
      obtain ⟨i, hi, hpi⟩ := place_hit hpl
      have hlen : (turnP l (lb.take k)).length = l.length := turnP_len
      have HIX := Lib.hid (idx_place hpi)
      generalize hln : turnP l (lb.take (k + 1)) = ln at *
      have HLNN := Lib.hid hln
      clear hln
      generalize turnP l (lb.take k) = lk at *
      have e0 := he 0 _ rfl
      have e1 := he 1 _ rfl
      have e2 := he 2 _ rfl
      have e3 := he 3 _ rfl
      have e4 := he 4 _ rfl
      have e5 := he 5 _ rfl
      have e6 := he 6 _ rfl
      have e7 := he 7 _ rfl
      rw [Nat.add_zero] at e0
      obtain ⟨gp, hgp, hgc, hgm, hgl⟩ : ∃ gp, K.a4 = some ⟨gp, 0, none⟩ ∧ lk.length ≤ K.c4 ∧ K.c4 ≤ maxLen ∧ True := by
        rcases hK.pods with ⟨e, _, _⟩ | ⟨gp, e, h1, h2, _⟩
        · rw [e] at hi; simp at hi
        · exact ⟨gp, e, h1, h2, trivial⟩
      have HGP := Lib.hid hgp
      have HI := Lib.hid hi
      have HLN := Lib.hid hlen
      have HPI := Lib.hid hpi
      have ka : Below wr.heap.size wr (wr.alloc (.cells #[.int .i64 p.id, .int .i64 p.load, .int .i64 p.prio, .int .u64 p.req.a, .int .u64 p.req.b, .int .u64 p.req.c, .int .u64 p.req.d, .int .i64 p.node] 79)) := (Below.refl _ wr).alloc (Nat.le_refl _) _
      have bp : Bf (wr.alloc (.cells #[.int .i64 p.id, .int .i64 p.load, .int .i64 p.prio, .int .u64 p.req.a, .int .u64 p.req.b, .int .u64 p.req.c, .int .u64 p.req.d, .int .i64 p.node] 79)) wr.heap.size (cellsP p) := Bf.new wr (cellsP p) 79 rfl
      have hKV := hK.below ka
      have hBV := hB.below ka
      have hoV := ho.trans (Only.of_below (S := K.muts) ka (fun i h1 h2 => by omega))
      have hkbg : K.kb < wr.heap.size := hK.box.lt
      have hgpg : gp < wr.heap.size := by
        rcases hK.pods with ⟨e, _, _⟩ | ⟨g', e, _, _, hL⟩
        · rw [e] at hi; simp at hi
        · rw [hgp] at e; injection e with e; injection e with e; rw [e]; exact hL.lt
      clear hK hB ho he hp hmem hpl HK HB HO ka hpi hi hlen hgc hgm hgl hgp
      go_upto_region 6 with fail
      generalize (wr.alloc (.cells #[.int .i64 p.id, .int .i64 p.load, .int .i64 p.prio, .int .u64 p.req.a, .int .u64 p.req.b, .int .u64 p.req.c, .int .u64 p.req.d, .int .i64 p.node] 79)) = V at *
      generalize wr.heap.size = g at *
      clear e0 e1 e2 e3 e4 e5 e6 e7
      have hrV := hKV.pods.out.2.2.2
      have HIXF := Lib.hid (turnIndex_any lk p.id g K.a4 lk.length K.c4 V rfl (by have := HLN.out; have := HLL.out; omega) hrV (bp.cell 0 _ rfl))
      obtain ⟨-, -, ⟨t0, t1, t2⟩, -, -, t3⟩ := hKV.facts
      have hmf : ∀ (fn : Fn) (first cap : Array Value) (w : World), (Instr.makeFunc fn first cap).run Tryz.prog w = .ok (.func fn first cap) w := fun _ _ _ _ => rfl
      have HKV := Lib.hid hKV
      have HBV := Lib.hid hBV
      have HOV := Lib.hid hoV
      have HBP := Lib.hid bp
      have hgV := bp.lt
      rw [HPI.out] at HIXF
      generalize hxn : lk.length = n4 at *
      have HXN := Lib.hid hxn
      clear hKV hBV hoV bp hrV hxn
      go_wp2_with fail
      go_at_call 77
      refine HIXF.out.mono ?_
      rintro e w3 ⟨rfl, hb3⟩
      have hK3 := HKV.out.below hb3
      have HB3 := Lib.hid (HBV.out.below hb3)
      have HO3 := Lib.hid (HOV.out.trans (Only.of_below (S := K.muts) hb3 (fun i h1 h2 => by omega)))
      have bp3 := HBP.out.below hb3 HBP.out.lt
      have hL3 : Lst gp lk w3 := by
        rcases hK3.pods with ⟨e, _, _⟩ | ⟨g', e, _, _, hL⟩
        · have h1 := HXN.out; have h2 := HI.out; rw [e] at h1; simp at h1; omega
        · rw [HGP.out] at e; injection e with e; injection e with e; rw [e]; exact hL
      have hil : i < lk.length := by have h1 := HXN.out; have h2 := HI.out; omega
      have HK3 := Lib.hid hK3
      have HL3 := Lib.hid hL3
      obtain ⟨-, -, ⟨r0, r1, r2⟩, -, -, r3⟩ := hK3.facts
      rw [HGP.out, HXN.out] at r0
      obtain ⟨⟨b0, b1, b2, b3⟩, b4, b5, b6, b7, b8⟩ := bp3.cells8v
      obtain ⟨y0, l0⟩ : ∃ u, w3.cell? ⟨gp, i * 8, none⟩ = some u := ⟨_, hL3.cell i hil 0 _ rfl⟩
      obtain ⟨y1, l1⟩ : ∃ u, w3.cell? ⟨gp, i * 8 + 1, none⟩ = some u := ⟨_, hL3.cell i hil 1 _ rfl⟩
      obtain ⟨y2, l2⟩ : ∃ u, w3.cell? ⟨gp, i * 8 + 2, none⟩ = some u := ⟨_, hL3.cell i hil 2 _ rfl⟩
      obtain ⟨y3, l3⟩ : ∃ u, w3.cell? ⟨gp, i * 8 + 3, none⟩ = some u := ⟨_, hL3.cell i hil 3 _ rfl⟩
      obtain ⟨y4, l4⟩ : ∃ u, w3.cell? ⟨gp, i * 8 + 4, none⟩ = some u := ⟨_, hL3.cell i hil 4 _ rfl⟩
      obtain ⟨y5, l5⟩ : ∃ u, w3.cell? ⟨gp, i * 8 + 5, none⟩ = some u := ⟨_, hL3.cell i hil 5 _ rfl⟩
      obtain ⟨y6, l6⟩ : ∃ u, w3.cell? ⟨gp, i * 8 + 6, none⟩ = some u := ⟨_, hL3.cell i hil 6 _ rfl⟩
      obtain ⟨y7, l7⟩ : ∃ u, w3.cell? ⟨gp, i * 8 + 7, none⟩ = some u := ⟨_, hL3.cell i hil 7 _ rfl⟩
      have z0 := hL3.frozen (i * 8)
      have z1 := hL3.frozen (i * 8 + 1)
      have z2 := hL3.frozen (i * 8 + 2)
      have z3 := hL3.frozen (i * 8 + 3)
      have z4 := hL3.frozen (i * 8 + 4)
      have z5 := hL3.frozen (i * 8 + 5)
      have z6 := hL3.frozen (i * 8 + 6)
      have z7 := hL3.frozen (i * 8 + 7)
      have hlt3 := hL3.lt
      have hin4 : i < n4 := by have := HI.out; have := HXN.out; omega
      have hin5 : (i : Int) < (n4 : Int) := by omega
      have hin6 : (0 : Int) ≤ (i : Int) := by omega
      have hne1 : gp ≠ K.kb := (HS.out.g _ HGP.out).1
      have hne2 : gp ≠ g := by omega
      clear hK3 bp3 hL3 hb3 HKV HBV HOV HBP HIXF t0 t1 t2 t3
      go_upto_region 7 with fail
      go_region_held3 (fun w' => w'.cell? ⟨K.kb, 6, none⟩ = some (.slice (some ⟨gp, 0, none⟩) n4 K.c4) ∧ w'.cell? ⟨g, 0, none⟩ = some (.int .i64 p.id) ∧ w'.cell? ⟨g, 1, none⟩ = some (.int .i64 p.load) ∧ w'.cell? ⟨g, 2, none⟩ = some (.int .i64 p.prio) ∧ w'.cell? ⟨g, 3, none⟩ = some (.int .u64 p.req.a) ∧ w'.cell? ⟨g, 4, none⟩ = some (.int .u64 p.req.b) ∧ w'.cell? ⟨g, 5, none⟩ = some (.int .u64 p.req.c) ∧ w'.cell? ⟨g, 6, none⟩ = some (.int .u64 p.req.d) ∧ w'.cell? ⟨g, 7, none⟩ = some (.int .i64 p.node))
        (go_keep)
        (fail)
      rename_i hh
      clear hh
      have hgw : gp < w.heap.size := HML.out gp ((lookK_muts HS.out).2.2.1 _ HGP.out)
      have hoc : Only [gp] w3 ((((((((w3.setCell ⟨gp, i * 8, none⟩ (.int .i64 p.id)).setCell ⟨gp, i * 8 + 1, none⟩ (.int .i64 p.load)).setCell ⟨gp, i * 8 + 2, none⟩ (.int .i64 p.prio)).setCell ⟨gp, i * 8 + 3, none⟩ (.int .u64 p.req.a)).setCell ⟨gp, i * 8 + 4, none⟩ (.int .u64 p.req.b)).setCell ⟨gp, i * 8 + 5, none⟩ (.int .u64 p.req.c)).setCell ⟨gp, i * 8 + 6, none⟩ (.int .u64 p.req.d)).setCell ⟨gp, i * 8 + 7, none⟩ (.int .i64 p.node)) := by
        have hm := List.mem_singleton.2 (rfl : gp = gp)
        exact ((((((((Only.refl [gp] w3).setCell hm _).setCell hm _).setCell hm _).setCell hm _).setCell hm _).setCell hm _).setCell hm _).setCell hm _
      have hLW := HL3.out.put8 hil p
      generalize ((((((((w3.setCell ⟨gp, i * 8, none⟩ (.int .i64 p.id)).setCell ⟨gp, i * 8 + 1, none⟩ (.int .i64 p.load)).setCell ⟨gp, i * 8 + 2, none⟩ (.int .i64 p.prio)).setCell ⟨gp, i * 8 + 3, none⟩ (.int .u64 p.req.a)).setCell ⟨gp, i * 8 + 4, none⟩ (.int .u64 p.req.b)).setCell ⟨gp, i * 8 + 5, none⟩ (.int .u64 p.req.c)).setCell ⟨gp, i * 8 + 6, none⟩ (.int .u64 p.req.d)).setCell ⟨gp, i * 8 + 7, none⟩ (.int .i64 p.node)) = w4 at *
      have HKN : Hid (Kc K s x ln p1 p2 C2 (N + 2 * m1 + 2 * m2) nd w4) := by
        rw [HST.out, HIX.out]
        exact HK3.out.pod HGP.out (by simp) hLW hoc
      have HBN : Hid (TurnB [.slice A1 m1 c1, v1, v2] [.slice (some ⟨b, o, none⟩) m2 c2, .int .i64 p3, .int .i64 p4] w w4) := ⟨HB3.out.one.only hoc (fun e => by have := List.mem_singleton.1 e; omega), HB3.out.two.only hoc (fun e => by have := List.mem_singleton.1 e; omega)⟩
      have HON := Lib.hid (HO3.out.trans (hoc.mono (fun j hj => by rw [List.mem_singleton.1 hj]; exact (lookK_muts HS.out).2.2.1 _ HGP.out)))
      clear hoc hLW HK3 HL3 HB3 HO3
      clear r0 r1 r2 r3 b0 b1 b2 b3 b4 b5 b6 b7 b8 l0 l1 l2 l3 l4 l5 l6 l7 z0 z1 z2 z3 z4 z5 z6 z7 hlt3 hin4 hin5 hin6 hne1 hne2 hil hgw
      go_wp2
      refine ⟨⟨k + 1, by omega, by go_num, by rw [HLNN.out]; exact HKN.out.drew, HBN.out.below ((Below.refl _ w4).drew), HON.out.drew⟩, ?_⟩
      simp only [intOf]; omega
    · have hk2 : k = m2 := by omega
      subst hk2
      have HE : Hid (turnP l (lb.take k) = turnP l lb) := by rw [List.take_of_length_le (by have := HN2.out; omega)]; exact Lib.hid rfl
      have hne : K.kb ≠ w.heap.size + 1 := by have := HML.out _ (lookK_muts HS.out).2.2.2; omega
      obtain ⟨-, -, ⟨t0, t1, t2⟩, -, -, t3⟩ := hK.facts
      have z1 := hK.box.frozen 7
      have z2 := hK.box.frozen 8
      have b1 := hB.two.cell 1 _ rfl
      have b2 := hB.two.cell 2 _ rfl
      have b3 := hB.two.lt
      clear hK hB ho
      go_upto_region 9 with fail
      go_region_held3 (fun w' => w'.cell? ⟨w.heap.size + 1, 1, none⟩ = some (.int .i64 p3) ∧ w'.cell? ⟨w.heap.size + 1, 2, none⟩ = some (.int .i64 p4))
        (go_keep)
        (fail)
      all_goals
        go_wp2
        go_end0
        refine ⟨rfl, ?_, ?_⟩
        · rw [← HE.out]
          first
            | exact HK.out.used (n' := 0) (((HK.out.box.drew).set 7 _).set 8 _) ((((Only.refl [K.kb] wr).drew).setCell (List.mem_singleton.2 rfl) _).setCell (List.mem_singleton.2 rfl) _)
            | exact HK.out.used (n' := 0) (((HK.out.box.drew).set 8 _).set 7 _) ((((Only.refl [K.kb] wr).drew).setCell (List.mem_singleton.2 rfl) _).setCell (List.mem_singleton.2 rfl) _)
        · exact (HO.out.drew.setCell (lookK_muts HS.out).2.2.2 _).setCell (lookK_muts HS.out).2.2.2 _
end Go.Proofs.YtpfjeoldgcepnaaGreatDoor

namespace Go.Proofs.YtpfjeoldgcepnaaGreatDoor
set_option linter.unusedSimpArgs false
open Go.RowKit
set_option linter.unusedVariables false

set_option maxHeartbeats 3200000 in
set_option maxRecDepth 100000 in
theorem restK_any {M : MapsB} {nn : Nat} {C : CntD} {n : NodeD} (hn : n.Ok) (hC : ∀ i, (C.use i).Ok) (w : World) (h : CntIs M nn C w) :
    Calls Tryz.prog 49 #[M.val, aggN n] w fun e w' => e = .returned (aggV (lessV (lessV n.cap n.held) (C.use n.id))) ∧ Below w.heap.size w w' := by
  have T0 : T3 M.cells (cellsN n) (cellsV .zer) w (((w.alloc (.cells #[.map (some M.z), .map (some M.u), .map (some M.a), .map (some M.i), .map (some M.s)] 88)).alloc (.cells #[.int .i64 n.id, .int .i64 n.zone, .int .u64 n.cap.a, .int .u64 n.cap.b, .int .u64 n.cap.c, .int .u64 n.cap.d, .int .u64 n.held.a, .int .u64 n.held.b, .int .u64 n.held.c, .int .u64 n.held.d] 63)).alloc (.cells #[.int .u64 0, .int .u64 0, .int .u64 0, .int .u64 0] 59)) := T3.new w M.cells (cellsN n) (cellsV .zer) 88 63 59
  have HFR := Lib.hid (fun w => free_any hn w)
  have HLE := Lib.hid (fun w => less_any (less_okV hn.2.2.1 hn.2.2.2) (hC n.id) w)
  have HLK : Hid (∀ V, Below w.heap.size w V → (Instr.lookup 84 (.map (some M.u)) (.int .i64 n.id) false).run Tryz.prog V = .ok (aggV (C.use n.id)) V) := fun V hV => use_run (h.below hV) hn.1
  generalize lessV (lessV n.cap n.held) (C.use n.id) = z at *
  generalize lessV n.cap n.held = y at *
  generalize C.use n.id = u at *
  clear hn hC h
  go_enter Tryz.func49, Tryz.ntmps49
  go_upto_region 1 with fail
  obtain ⟨a0, a1, a2, a3, a4, a5⟩ := T0.one.cells5v
  obtain ⟨⟨b0, b1, b2, b3, b4, b5⟩, b6, b7, b8, b9, b10⟩ := T0.two.cells10
  have z0 := HLK.out _ T0.below
  have HT0 := Lib.hid T0
  have kb := T0.below
  generalize hW : ((w.alloc (.cells #[.map (some M.z), .map (some M.u), .map (some M.a), .map (some M.i), .map (some M.s)] 88)).alloc (.cells #[.int .i64 n.id, .int .i64 n.zone, .int .u64 n.cap.a, .int .u64 n.cap.b, .int .u64 n.cap.c, .int .u64 n.cap.d, .int .u64 n.held.a, .int .u64 n.held.b, .int .u64 n.held.c, .int .u64 n.held.d] 63)).alloc (.cells #[.int .u64 0, .int .u64 0, .int .u64 0, .int .u64 0] 59) = W at *
  have z1 : (Instr.lookup 84 (.map (some M.u)) (.int .i64 n.id) false).run Tryz.prog W.drew = .ok (aggV u) W.drew := HLK.out _ (kb.drew)
  clear T0 z0 hW kb
  go_region_with (first
    | (go_at_call 64; refine (HFR.out _).mono ?_; rintro e w1 ⟨rfl, hb1⟩; have T1 := HT0.out.keep (Below.drew (Below.refl _ _) |>.trans hb1); have z2 := HLK.out _ T1.below; obtain ⟨a0', a1', a2', a3', a4', a5'⟩ := T1.one.cells5v; have b0' := T1.two.cell 0 _ rfl)
    | (go_at_call 61; refine (HLE.out _).mono ?_; rintro e w2 ⟨rfl, hb2⟩; have T2 := HT0.out.keep ((Below.drew (Below.refl _ _)).trans (hb1.trans (hb2.mono hb1.size))); obtain ⟨⟨g0, g1, g2, g3⟩, g4⟩ := T2.three.zero4; obtain ⟨f0, f1, f2, f3⟩ := T2.three.free4))
  all_goals
    have kw2 := T2.below
    clear T1 T2 hb1 hb2
    go_wp2
    refine bodyPost_ret (v := aggV z) ?_ rfl ?_
    · simp [results, Tryz.results49, go_sem, *]
    · refine ⟨rfl, ?_⟩
      repeat (first | with_reducible exact kw2 | with_reducible refine Below.setCell ?_ ?_ _ | with_reducible refine Below.alloc ?_ ?_ _)
      all_goals first | (show w.heap.size ≤ w.heap.size + 2; omega) | (simp; omega) | omega
end Go.Proofs.YtpfjeoldgcepnaaGreatDoor
