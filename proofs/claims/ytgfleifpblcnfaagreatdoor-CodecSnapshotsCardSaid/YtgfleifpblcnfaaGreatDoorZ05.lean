/- Joined texts, part 5: DHP CH DI P F G Q H. -/
import Derived.Test.YtgfleifpblcnfaaGreatDoorZ04
import Derived.Test.YtgfleifpblcnfaaGreatDoorZ03
import Derived.Test.YtgfleifpblcnfaaGreatDoorZ01

/- The program's checkEach, at one kind of record. -/
namespace Go.Proofs.YtgfleifpblcnfaaGreatDoor
set_option linter.unusedSimpArgs false
open Go.RowKit
set_option linter.unusedVariables false

set_option maxHeartbeats 6400000 in
set_option maxRecDepth 100000 in
theorem eachP_any (l : List PodD) (nodes : List NodeD) (loads : List LoadD) (g : Nat) (first : Nat) (A : Option Addr) (n c : Nat) (w : World) (hn : n = l.length) (hl : n ≤ 1000) (hfi : first ≤ 1000) (hr : Recs 8 cellsP w w.heap.size A l)
    (hot : ∀ (x : PodD) (v : World), Below w.heap.size w v → Calls Tryz.prog 71 #[aggP x, .pointer (some ⟨g, 0, none⟩)] v fun e w' => e = .returned (.int .i64 (podF nodes loads x)) ∧ Below v.heap.size v w') :
    Calls Tryz.prog 69 #[.slice A n c, .int .i64 (first : Int), .func (.func 70) #[] #[], .func (.func 71) #[] #[.pointer (some ⟨g, 0, none⟩)]] w (EachTo (firstBad (podBad nodes loads) PodD.id 0 first l) w) := by
  have HR := Lib.hid hr
  have HN := Lib.hid hn
  have HOTT := Lib.hid hot
  clear hr hn hot
  go_enter Tryz.func69, Tryz.ntmps69
  go_wp2
  go_loopw [14] (EachRel (podBad nodes loads) PodD.id l first w) (fun i _ => n - (intOf i).toNat)
  case atStart => exact ⟨0, first, 0, by omega, by omega, rfl, .inl ⟨rfl, rfl⟩, rfl, Below.refl _ _⟩
  case round =>
    obtain ⟨k, m, la, hk, hm, rfl, hla, hfb, hbr⟩ := hrel
    have HFB := Lib.hid hfb
    have HM := Lib.hid hm
    have HLA := Lib.hid hla
    have hzr := hbr.size
    clear hfb hm hla
    by_cases hlt : k < n
    · have hkl : k < l.length := by have := HN.out; omega
      have HIK := Lib.hid (id_key HLA.out hkl)
      have HIF := Lib.hid (fun (v : World) (hv : Below w.heap.size w v) => idFaultP_any l k A n c v HN.out hl hkl ((HR.out.below hv (Nat.le_refl _)).more hv.size))
      obtain ⟨b, o, rfl, hb, he⟩ := HR.out.at hkl
      generalize hx : l[k] = x at *
      have HX := Lib.hid hx
      clear hx
      have e0 : wr.cell? ⟨b, o + k * 8, none⟩ = some (.int .i64 x.id) := (hbr.cell (p := ⟨b, o + k * 8, none⟩) hb).trans (he 0 _ rfl)
      have e1 : wr.cell? ⟨b, o + k * 8 + 1, none⟩ = some (.int .i64 x.load) := (hbr.cell (p := ⟨b, o + k * 8 + 1, none⟩) hb).trans (he 1 _ rfl)
      have e2 : wr.cell? ⟨b, o + k * 8 + 2, none⟩ = some (.int .i64 x.prio) := (hbr.cell (p := ⟨b, o + k * 8 + 2, none⟩) hb).trans (he 2 _ rfl)
      have e3 : wr.cell? ⟨b, o + k * 8 + 3, none⟩ = some (.int .u64 x.req.a) := (hbr.cell (p := ⟨b, o + k * 8 + 3, none⟩) hb).trans (he 3 _ rfl)
      have e4 : wr.cell? ⟨b, o + k * 8 + 4, none⟩ = some (.int .u64 x.req.b) := (hbr.cell (p := ⟨b, o + k * 8 + 4, none⟩) hb).trans (he 4 _ rfl)
      have e5 : wr.cell? ⟨b, o + k * 8 + 5, none⟩ = some (.int .u64 x.req.c) := (hbr.cell (p := ⟨b, o + k * 8 + 5, none⟩) hb).trans (he 5 _ rfl)
      have e6 : wr.cell? ⟨b, o + k * 8 + 6, none⟩ = some (.int .u64 x.req.d) := (hbr.cell (p := ⟨b, o + k * 8 + 6, none⟩) hb).trans (he 6 _ rfl)
      have e7 : wr.cell? ⟨b, o + k * 8 + 7, none⟩ = some (.int .i64 x.node) := (hbr.cell (p := ⟨b, o + k * 8 + 7, none⟩) hb).trans (he 7 _ rfl)
      have hbw : b < wr.heap.size := by omega
      clear he
      go_wp2
      generalize hW : wr.alloc (.cells #[.int .i64 x.id, .int .i64 x.load, .int .i64 x.prio, .int .u64 x.req.a, .int .u64 x.req.b, .int .u64 x.req.c, .int .u64 x.req.d, .int .i64 x.node] 79) = W at *
      have kW : Below w.heap.size w W := by rw [← hW]; exact hbr.alloc hzr _
      have hgW : wr.heap.size < W.heap.size := by rw [← hW]; simp
      have f0 : W.cell? ⟨wr.heap.size, 0, none⟩ = some (.int .i64 x.id) := by rw [← hW]; simp
      have f1 : W.cell? ⟨wr.heap.size, 1, none⟩ = some (.int .i64 x.load) := by rw [← hW]; simp
      have f2 : W.cell? ⟨wr.heap.size, 2, none⟩ = some (.int .i64 x.prio) := by rw [← hW]; simp
      have f3 : W.cell? ⟨wr.heap.size, 3, none⟩ = some (.int .u64 x.req.a) := by rw [← hW]; simp
      have f4 : W.cell? ⟨wr.heap.size, 4, none⟩ = some (.int .u64 x.req.b) := by rw [← hW]; simp
      have f5 : W.cell? ⟨wr.heap.size, 5, none⟩ = some (.int .u64 x.req.c) := by rw [← hW]; simp
      have f6 : W.cell? ⟨wr.heap.size, 6, none⟩ = some (.int .u64 x.req.d) := by rw [← hW]; simp
      have f7 : W.cell? ⟨wr.heap.size, 7, none⟩ = some (.int .i64 x.node) := by rw [← hW]; simp
      clear hW
      generalize hq : idI (ordAt PodD.id l k) x.id = q at *
      generalize ht : podF nodes loads x = t
      have HQ := Lib.hid hq
      have HT := Lib.hid ht
      clear hq ht
      have HIF2 : Hid (∀ v : World, ((∀ b o, b < W.heap.size → v.cell? ⟨b, o, none⟩ = W.cell? ⟨b, o, none⟩) ∧ Below W.heap.size W v) → Calls Tryz.prog 90 #[.slice (some ⟨b, o, none⟩) n c, .int .i64 (k : Int), .func (.func 70) #[] #[]] v fun e w' => e = .returned (.int .i64 q) ∧ Below v.heap.size v w') := fun v hv => HIF.out v (kW.trans (hv.2.mono kW.size))
      have HOT2 : Hid (∀ v : World, ((∀ b o, b < W.heap.size → v.cell? ⟨b, o, none⟩ = W.cell? ⟨b, o, none⟩) ∧ Below W.heap.size W v) → Calls Tryz.prog 71 #[aggP x, .pointer (some ⟨g, 0, none⟩)] v fun e w' => e = .returned (.int .i64 t) ∧ Below v.heap.size v w') := by have := HT.out; subst this; exact (fun v hv => HOTT.out x v (kW.trans (hv.2.mono kW.size)))
      go_region_held3 (fun w' => (∀ b o, b < W.heap.size → w'.cell? ⟨b, o, none⟩ = W.cell? ⟨b, o, none⟩) ∧ Below W.heap.size W w')
        (first | (with_reducible assumption) | exact Keeps.of (Below.drew (Below.refl _ _)) | exact Keeps.step (by assumption) (by assumption) | exact Keeps.alloc (by assumption) _)
        (first
          | (go_at_call 90; refine (HIF2.out _ (by assumption)).mono ?_; rintro e w' ⟨rfl, hb⟩)
          | (go_at_call 71; refine (HOT2.out _ (by assumption)).mono ?_; rintro e w' ⟨rfl, hb⟩)
          | (go_at_call 84; refine (or_any q t _ _ (by simp) (by simp)).mono ?_; rintro e w' ⟨rfl, rfl⟩))
      have HV := Lib.hid (show (podBad nodes loads) la x = orI q t by rw [pod_key nodes loads, ← HIK.out, HT.out])
      have HFA := Lib.hid (firstBad_place hkl HX.out HFB.out HV.out)
      by_cases h0 : orI q t = 0
      · have hz : (orI q t != 0) = false := by simp [h0]
        have HL2 := Lib.hid (lastOk_next (f := PodD.id) hkl HX.out (by rw [← HIK.out]; exact orI_zero h0))
        have HE := Lib.hid (HFA.out.2 h0)
        clear h0
        go_wp2
        go_roundw
        case rel => exact ⟨k + 1, m + 1, x.id, by omega, by have := HM.out; omega, by go_num, HL2.out, HE.out, kW.trans ((by assumption : Keeps W _).2.mono kW.size)⟩
        case measure => simp [intOf]; omega
      · have hz : (orI q t != 0) = true := by simpa using h0
        have HE := Lib.hid (HFA.out.1 h0)
        clear h0
        go_wp2_with fail
        refine (spot_any _ _ _).mono ?_
        rintro e w2 ⟨rfl, rfl⟩
        go_wp2
        go_ret
        refine each_end kW ?_ HE.out ?_ ?_
        · assumption
        · have := HM.out; omega
        · simp
    · have HE := Lib.hid (firstBad_end (by have := HN.out; omega) HFB.out)
      go_wp2
      go_ret
      exact ⟨hbr, .inl ⟨HE.out, rfl⟩⟩
end Go.Proofs.YtgfleifpblcnfaaGreatDoor

/- The head of layer 3's statements, and the law ClusterFewer, walked, from what cluster.Check and cluster.Fair come to. -/
namespace Go.Proofs.YtgfleifpblcnfaaGreatDoor
set_option linter.unusedSimpArgs false
open Go.RowKit
set_option linter.unusedVariables false

def SnapD.Ok (s : SnapD) : Prop := (∀ a ∈ s.nodes, a.Ok) ∧ (∀ a ∈ s.loads, a.Ok) ∧ (∀ a ∈ s.pods, a.Ok)
/-- cluster.Check tells what is amiss first. -/
def CheckHolds : Prop := ∀ (s : SnapD) (A1 A2 A3 : Option Addr) (n1 c1 n2 c2 n3 c3 B : Nat) (w : World), s.Ok → n1 = s.nodes.length → n2 = s.loads.length → n3 = s.pods.length → n1 ≤ 40 → n2 ≤ 40 → n3 ≤ 40 → n1 ≤ c1 → n2 ≤ c2 → n3 ≤ c3 → c1 ≤ maxLen → c2 ≤ maxLen → c3 ≤ maxLen → B ≤ w.heap.size →
  Recs 10 cellsN w B A1 s.nodes → Recs 5 cellsL w B A2 s.loads → Recs 8 cellsP w B A3 s.pods → Calls Tryz.prog 22 #[snapV A1 A2 A3 n1 c1 n2 c2 n3 c3] w (ErrTo (check s) w)
theorem errIs_none {B : Nat} {w : World} {u : Value} {p : Int × Int} (h : ErrIs p B w u) (hp : p.1 = 0) (h2 : p.2 = -1) : u = .nilIface := by
  rcases h with ⟨_, h⟩ | ⟨_, h, _⟩ | ⟨k, g, h, _⟩
  · exact h
  · omega
  · omega
theorem errIs_self {B : Nat} {w : World} {u : Value} {p : Int × Int} (h : ErrIs p B w u) (hp : p.1 ≠ 0) (h2 : p.2 = -1) : u = .iface 52 (.int .i64 p.1) := by
  rcases h with ⟨h, _⟩ | ⟨_, _, _, h⟩ | ⟨k, g, h, _⟩
  · rw [h] at hp; simp at hp
  · exact h
  · omega
theorem errIs_spot {B : Nat} {w : World} {u : Value} {p : Int × Int} (h : ErrIs p B w u) {k : Nat} (h2 : p.2 = k) : ∃ g, u = .iface 131 (.pointer (some ⟨g, 0, none⟩)) ∧ w.heap[g]? = some (.cells #[.int .i64 (k : Int), .int .i64 p.1] 136 (0, 0)) := by
  rcases h with ⟨h, _⟩ | ⟨h, _⟩ | ⟨k', g, h, h3, _, h4⟩
  · rw [h] at h2; exact absurd h2 (by simp)
  · omega
  · obtain rfl : k = k' := by omega
    exact ⟨g, h3, h4⟩
theorem errIs_some {B : Nat} {w : World} {u : Value} {p : Int × Int} (h : ErrIs p B w u) (hp : p.1 ≠ 0) : ∃ t v, u = .iface t v := by
  rcases h with ⟨h, _⟩ | ⟨_, _, _, h⟩ | ⟨k, g, h, h3, _⟩
  · rw [h] at hp; simp at hp
  · exact ⟨_, _, h⟩
  · exact ⟨_, _, h3⟩

theorem flat_at : ∀ (xs : List NodeD) (i : Nat) (h : i < xs.length) (j : Nat) (u : Value), (cellsN xs[i])[j]? = some u → (xs.flatMap cellsN)[i * 10 + j]? = some u
  | [], i, h, _, _, _ => by simp at h
  | x :: r, 0, _, j, u, hu => by
    have hj : j < (cellsN x).length := (List.getElem?_eq_some_iff.1 hu).1
    simp only [List.flatMap_cons, Nat.zero_mul, Nat.zero_add]
    rw [List.getElem?_append_left hj]
    exact hu
  | x :: r, i + 1, h, j, u, hu => by
    have hl : (cellsN x).length = 10 := rfl
    simp only [List.flatMap_cons]
    rw [List.getElem?_append_right (by rw [hl]; omega), hl, show (i + 1) * 10 + j - 10 = i * 10 + j by omega]
    exact flat_at r i (by simpa using h) j u hu
theorem recs_new (w : World) (t : TypeId) (xs : List NodeD) (cs : Array Value) (hc : cs = (xs.flatMap cellsN).toArray) : Recs 10 cellsN (w.alloc (.cells cs t)) (w.heap.size + 1) (some ⟨w.heap.size, 0, none⟩) xs := by
  refine .inr ⟨w.heap.size, 0, rfl, by omega, fun i hi j u hu => ?_⟩
  have h1 := flat_at xs i hi j u hu
  rw [World.cell?_alloc_at _ _ _ _ rfl, hc]
  simpa using h1
def z4 : V4 := ⟨0, 0, 0, 0⟩
def nd3 : NodeD := ⟨3, 1, z4, z4⟩
theorem z4_ok : z4.Ok := ⟨⟨by decide, by decide⟩, ⟨by decide, by decide⟩, ⟨by decide, by decide⟩, ⟨by decide, by decide⟩⟩
theorem nd3_ok : nd3.Ok := ⟨⟨by decide, by decide⟩, ⟨by decide, by decide⟩, z4_ok, z4_ok⟩
theorem check_0 : check ⟨[], [], []⟩ = (3, -1) := by decide
theorem check_1 : check ⟨[nd3], [], []⟩ = (0, -1) := by decide
theorem check_2 : check ⟨[nd3, nd3], [], []⟩ = (5, 1) := by decide

/-- ClusterFewer: what may be has with fewer pods what may be. -/
theorem ok_fewer {s : SnapD} (h : s.Ok) (n : Nat) : SnapD.Ok { s with pods := s.pods.take n } := ⟨h.1, h.2.1, fun a ha => h.2.2 a (List.mem_of_mem_take ha)⟩
end Go.Proofs.YtgfleifpblcnfaaGreatDoor

/- The program's sizesMayBe and Check: what is amiss first with a snapshot. -/
namespace Go.Proofs.YtgfleifpblcnfaaGreatDoor
set_option linter.unusedSimpArgs false
open Go.RowKit
set_option linter.unusedVariables false

def fewB (n1 n2 n3 : Nat) : Bool := inB n1 1 8 && (decide (n2 ≤ 8) && decide (n3 ≤ 12))
set_option maxHeartbeats 1600000 in
theorem sizes_any (A1 A2 A3 : Option Addr) (n1 c1 n2 c2 n3 c3 : Nat) (w : World) :
    Calls Tryz.prog 62 #[snapV A1 A2 A3 n1 c1 n2 c2 n3 c3] w fun e w' => e = .returned (.bool (fewB n1 n2 n3)) ∧ Below w.heap.size w w' := by
  have b00 : Below w.heap.size w (w.alloc (.cells #[.slice A1 n1 c1, .slice A2 n2 c2, .slice A3 n3 c3] 26)) := (Below.refl _ _).alloc (Nat.le_refl _) _
  go_enter Tryz.func62, Tryz.ntmps62
  go_wp2_with fail
  refine (within_any _ _ _ _).mono ?_
  rintro e w' ⟨rfl, rfl⟩
  by_cases h1 : inB n1 1 8 = true
  · by_cases h2 : n2 ≤ 8
    · by_cases h3 : n3 ≤ 12
      · have HE := Lib.hid (show fewB n1 n2 n3 = true by simp [fewB, h1, h2, h3])
        have d2 : decide ((n2 : Int) ≤ 8) = true := decide_eq_true (by omega)
        have d3 : decide ((n3 : Int) ≤ 12) = true := decide_eq_true (by omega)
        go_wp2
        go_ret
        exact ⟨ret_bool HE.out.symm, b00⟩
      · have HE := Lib.hid (show fewB n1 n2 n3 = false by simp [fewB]; omega)
        have d2 : decide ((n2 : Int) ≤ 8) = true := decide_eq_true (by omega)
        have d3 : decide ((n3 : Int) ≤ 12) = false := decide_eq_false (by omega)
        go_wp2
        go_ret
        exact ⟨ret_bool HE.out.symm, b00⟩
    · have HE := Lib.hid (show fewB n1 n2 n3 = false by simp [fewB]; omega)
      have d2 : decide ((n2 : Int) ≤ 8) = false := decide_eq_false (by omega)
      go_wp2
      go_ret
      exact ⟨ret_bool HE.out.symm, b00⟩
  · have h1' : inB n1 1 8 = false := by simpa using h1
    have HE := Lib.hid (show fewB n1 n2 n3 = false by simp [fewB, h1'])
    clear h1
    go_wp2
    go_ret
    exact ⟨ret_bool HE.out.symm, b00⟩
theorem few_large (s : SnapD) : large s = !fewB s.nodes.length s.loads.length s.pods.length := by
  unfold large fewB inB
  generalize s.nodes.length = a
  generalize s.loads.length = b
  generalize s.pods.length = c
  rw [Bool.eq_iff_iff]
  simp
  omega
theorem errTo_each {p : Int × Int} {w w' : World} {b : Int} {k g : Nat} (hp : p = (b, (k : Int))) (hb : Below w.heap.size w w') (hg : w.heap.size ≤ g) (hc : w'.heap[g]? = some (.cells #[.int .i64 (k : Int), .int .i64 b] 136 (0, 0))) :
    ErrTo p w (.returned (.iface 131 (.pointer (some ⟨g, 0, none⟩)))) w' :=
  ⟨_, rfl, .inr (.inr ⟨k, g, by rw [hp], rfl, hg, by rw [hp]; exact hc⟩), hb⟩

set_option maxHeartbeats 3200000 in
set_option maxRecDepth 100000 in
theorem check_holds : CheckHolds := by
  intro s A1 A2 A3 n1 c1 n2 c2 n3 c3 B w hok hn1 hn2 hn3 hl1 hl2 hl3 p1 p2 p3 q1 q2 q3 hB hr1 hr2 hr3
  have b00 : Below w.heap.size w (w.alloc (.cells #[.slice A1 n1 c1, .slice A2 n2 c2, .slice A3 n3 c3] 26)) := (Below.refl _ _).alloc (Nat.le_refl _) _
  have HN1 := Lib.hid hn1
  have HN2 := Lib.hid hn2
  have HN3 := Lib.hid hn3
  have HR1 := Lib.hid (hr1.more hB)
  have HR2 := Lib.hid (hr2.more hB)
  have HR3 := Lib.hid (hr3.more hB)
  have HLG := Lib.hid (few_large s)
  clear hok hn1 hn2 hn3 hr1 hr2 hr3 q1 q2 q3 p1 p2 p3 hB
  have hmf : ∀ (fn : Fn) (first cap : Array Value) (w : World), (Instr.makeFunc fn first cap).run Tryz.prog w = .ok (.func fn first cap) w := fun _ _ _ _ => rfl
  go_enter Tryz.func22, Tryz.ntmps22
  go_wp2_with fail
  refine (sizes_any _ _ _ _ _ _ _ _ _ _).mono ?_
  rintro e w1 ⟨rfl, hb1⟩
  have k1 : Below (w.heap.size + 1) (w.alloc (.cells #[.slice A1 n1 c1, .slice A2 n2 c2, .slice A3 n3 c3] 26)) w1 := hb1.mono (by simp)
  have kw1 : Below w.heap.size w w1 := b00.trans (k1.mono (by omega))
  obtain ⟨a0, a1, a2⟩ := box_cells k1
  by_cases hf : fewB n1 n2 n3 = true
  · have HNL := Lib.hid (show ¬ large s = true by rw [HLG.out, ← HN1.out, ← HN2.out, ← HN3.out, hf]; decide)
    have HC1 : Hid (Calls Tryz.prog 63 #[.slice A1 n1 c1, .int .i64 0, .func (.func 64) #[] #[], .func (.func 65) #[] #[]] w1 (EachTo (firstBad nodeBad NodeD.id 0 0 s.nodes) w1)) :=
      eachN_any s.nodes 0 A1 n1 c1 w1 HN1.out (by omega) (by omega) ((HR1.out.below kw1 (Nat.le_refl _)).more kw1.size)
    go_wp2_with fail
    refine HC1.out.mono ?_
    rintro e w2 ⟨hb2, hh⟩
    have k2 : Below (w.heap.size + 1) (w.alloc (.cells #[.slice A1 n1 c1, .slice A2 n2 c2, .slice A3 n3 c3] 26)) w2 := k1.trans (hb2.mono (by have := k1.size; simpa using this))
    have kw2 : Below w.heap.size w w2 := b00.trans (k2.mono (by omega))
    obtain ⟨d0, d1, d2⟩ := box_cells k2
    clear a0 a1 a2
    rcases hh with ⟨hF1, rfl⟩ | ⟨b, k, g, hF1, rfl, hg, hcell⟩
    · have HF1 := Lib.hid hF1
      clear hF1
      have HC2 : Hid (Calls Tryz.prog 66 #[.slice A2 n2 c2, .int .i64 (n1 : Int), .func (.func 67) #[] #[], .func (.func 68) #[] #[]] w2 (EachTo (firstBad loadBad LoadD.id 0 n1 s.loads) w2)) :=
        eachL_any s.loads n1 A2 n2 c2 w2 HN2.out (by omega) (by omega) ((HR2.out.below kw2 (Nat.le_refl _)).more kw2.size)
      go_wp2_with fail
      refine HC2.out.mono ?_
      rintro e w3 ⟨hb3, hh⟩
      have k3 : Below (w.heap.size + 1) (w.alloc (.cells #[.slice A1 n1 c1, .slice A2 n2 c2, .slice A3 n3 c3] 26)) w3 := k2.trans (hb3.mono (by have := k2.size; simpa using this))
      have kw3 : Below w.heap.size w w3 := b00.trans (k3.mono (by omega))
      obtain ⟨f0, f1, f2⟩ := box_cells k3
      clear d0 d1 d2
      rcases hh with ⟨hF2, rfl⟩ | ⟨b, k, g, hF2, rfl, hg, hcell⟩
      · have HF2 := Lib.hid hF2
        clear hF2
        have HC3 : Hid (Calls Tryz.prog 69 #[.slice A3 n3 c3, .int .i64 ((n1 : Int) + (n2 : Int)), .func (.func 70) #[] #[], .func (.func 71) #[] #[.pointer (some ⟨w.heap.size, 0, none⟩)]] w3 (EachTo (firstBad (podBad s.nodes s.loads) PodD.id 0 (n1 + n2) s.pods) w3)) := by
          have := eachP_any s.pods s.nodes s.loads w.heap.size (n1 + n2) A3 n3 c3 w3 HN3.out (by omega) (by omega) ((HR3.out.below kw3 (Nat.le_refl _)).more kw3.size) (fun x v hv => by
            have k4 := k3.trans (hv.mono (by have := k3.size; simpa using this))
            have kw4 : Below w.heap.size w v := b00.trans (k4.mono (by omega))
            obtain ⟨z0, z1, z2⟩ := box_cells k4
            exact podClosure_any s.nodes s.loads x w.heap.size A1 A2 A3 n1 c1 n2 c2 n3 c3 v z0 z1 z2 HN1.out HN2.out (by omega) (by omega) ((HR1.out.below kw4 (Nat.le_refl _)).more kw4.size) ((HR2.out.below kw4 (Nat.le_refl _)).more kw4.size))
          simp only [Int.natCast_add] at this
          exact this
        go_wp2_with fail
        refine HC3.out.mono ?_
        rintro e w4 ⟨hb4, hh⟩
        have kw4 : Below w.heap.size w w4 := kw3.trans (hb4.mono kw3.size)
        rcases hh with ⟨hF3, rfl⟩ | ⟨b, k, g, hF3, rfl, hg, hcell⟩
        · have HE := Lib.hid (check_fine HNL.out HF1.out (by rw [← HN1.out]; exact HF2.out) (by rw [← HN1.out, ← HN2.out]; exact hF3))
          clear hF3
          go_wp2
          go_ret
          exact ⟨_, rfl, .inl ⟨HE.out, rfl⟩, kw4⟩
        · have HE := Lib.hid (check_pod HNL.out HF1.out (by rw [← HN1.out]; exact HF2.out) (by rw [← HN1.out, ← HN2.out]; exact hF3))
          have HCC := Lib.hid hcell
          have hg' : w.heap.size ≤ g := Nat.le_trans kw3.size hg
          clear hF3 hcell
          go_wp2
          go_ret
          exact errTo_each HE.out kw4 hg' HCC.out
      · have HE := Lib.hid (check_load HNL.out HF1.out (by rw [← HN1.out]; exact hF2))
        have HCC := Lib.hid hcell
        have hg' : w.heap.size ≤ g := Nat.le_trans kw2.size hg
        clear hF2 hcell
        go_wp2
        go_ret
        exact errTo_each HE.out kw3 hg' HCC.out
    · have HE := Lib.hid (check_node HNL.out hF1)
      have HCC := Lib.hid hcell
      have hg' : w.heap.size ≤ g := Nat.le_trans kw1.size hg
      clear hF1 hcell
      go_wp2
      go_ret
      exact errTo_each HE.out kw2 hg' HCC.out
  · have hf' : fewB n1 n2 n3 = false := by simpa using hf
    have HE := Lib.hid (check_large (s := s) (by rw [HLG.out, ← HN1.out, ← HN2.out, ← HN3.out, hf']; rfl))
    clear hf
    go_wp2
    go_ret
    exact ⟨_, rfl, .inr (.inl ⟨by rw [HE.out], by rw [HE.out]; decide, by rw [HE.out]; decide, by rw [HE.out]; rfl⟩), kw1⟩
end Go.Proofs.YtgfleifpblcnfaaGreatDoor

/- Contracts of the two functions that write one number: wire.put and dunnageref02.put. -/
namespace Go.Proofs.YtgfleifpblcnfaaGreatDoor
set_option linter.unusedSimpArgs false
open Go.RowKit
set_option linter.unusedVariables false

theorem enc_of_lt {n : Int} (h : n < 128) (xs : List Int) : xs ++ [n] = xs ++ enc n := by rw [enc_lt h]
theorem enc_of_ge {n : Int} (h : 128 ≤ n) (xs : List Int) : (xs ++ [n % 128 + 128]) ++ enc (n / 128) = xs ++ enc n := by rw [enc_ge (n := n) (by omega)]; simp

/-- What is told is a row of the caller's own that holds these bytes. -/
def PutTo (B : Nat) (l : List Int) (w : World) (e : Ending) (w' : World) : Prop :=
  ∃ v, e = .returned v ∧ w'.ownsRow B 5 1 v (u8s l).length (u8s l) ∧ Below B w w'

theorem own8 {B : Nat} {w1 : World} {v : Value} {xs ys : List Int} {c : Int} (h : w1.ownsRow B 5 1 v (u8s xs ++ [Value.int .u8 c]).length (u8s xs ++ [Value.int .u8 c])) (e : xs ++ [c] = ys) : w1.ownsRow B 5 1 v (u8s ys).length (u8s ys) := by
  subst e; simpa using h

def PutRel (B : Nat) (all : List Int) (w : World) (v m : Value) (wr : World) : Prop :=
  ∃ (ys : List Int) (k : Int), 0 ≤ k ∧ k < 18446744073709551616 ∧ m = .int .u64 k ∧ ys ++ enc k = all ∧ wr.ownsRow B 5 1 v (u8s ys).length (u8s ys) ∧ Below B w wr ∧ B ≤ wr.heap.size

set_option maxRecDepth 100000 in
theorem or128 (k : Int) (h : 0 ≤ k) : bits .or .u8 (k % 256) 128 = k % 128 + 128 := by
  have : k % 256 = (k % 256).toNat := by omega
  rw [this, show (128 : Int) = ((128 : Nat) : Int) from rfl, u8_or_nat _ _ (by omega) (by omega)]
  have hh : ∀ a : Nat, a < 256 → a ||| 128 = a % 128 + 128 := by decide
  rw [hh _ (by omega)]
  omega

set_option maxHeartbeats 800000 in
theorem put_any (B : Nat) (v : Value) (xs : List Int) (n : Int) (w : World) (hB : B ≤ w.heap.size) (hown : w.ownsRow B 5 1 v (u8s xs).length (u8s xs)) (h0 : 0 ≤ n) (h1 : n < 18446744073709551616) (hx : xs.length ≤ 1000000) :
    Calls Tryz.prog 73 #[v, .int .u64 n] w (PutTo B (xs ++ enc n) w) := by
  have hlen : (enc n).length ≤ 10 := enc_len_ten n h1
  have hall : (xs ++ enc n).length ≤ 1000010 := by simp; omega
  go_enter Tryz.func73, Tryz.ntmps73
  go_wp2
  go_loopw [0, 1] (PutRel B (xs ++ enc n) w) (fun _ m _ => (intOf m).toNat)
  case atStart => exact ⟨xs, n, h0, h1, rfl, rfl, hown, Below.refl _ _, hB⟩
  case round =>
    obtain ⟨ys, k, hk0, hk1, rfl, hall', hownr, hbr, hBr⟩ := hrel
    have hys : (u8s ys).length ≤ 2000000 := by rw [← hall'] at hall; simp at hall ⊢; omega
    have HA := Lib.hid hall'
    have HY := Lib.hid hys
    clear hall' hall hlen hys
    by_cases hlt : 128 ≤ k
    · have hor := or128 k hk0
      go_wp2_with (at_builtin; refine wpList_push 27 5 (.int .u8 0) 1 Tryz.underlying27 Tryz.info5 rfl (by decide) rfl (.tmp 7) (.tmp 11) rfl B _ (u8s ys) (.int .u8 (k % 128 + 128)) rfl hownr hBr HY.out rfl rfl ?_; intro v' w1 hown1 hb1 hB1)
      go_roundw
      case rel => exact ⟨ys ++ [k % 128 + 128], k / 128, by omega, by omega, rfl, (enc_of_ge hlt ys).trans HA.out, own8 hown1 rfl, hbr.trans hb1, hB1⟩
      case measure => simp [intOf]; omega
    · have hk : k < 128 := by omega
      have hm : k % 256 = k := by omega
      clear hk1
      go_wp2_with (at_builtin; refine wpList_push 27 5 (.int .u8 0) 1 Tryz.underlying27 Tryz.info5 rfl (by decide) rfl (.tmp 15) (.tmp 18) rfl B _ (u8s ys) (.int .u8 k) rfl hownr hBr HY.out rfl rfl ?_; intro v' w1 hown1 hb1 hB1)
      go_ret
      exact ⟨v', rfl, own8 hown1 ((enc_of_lt hk ys).trans HA.out), hbr.trans hb1⟩

def RputRel (B : Nat) (all : List Int) (w : World) (m v : Value) (wr : World) : Prop := PutRel B all w v m wr
set_option maxHeartbeats 800000 in
/-- dunnageref02.put: the number's bytes, in a row of its own. -/
theorem rput_any (n : Int) (w : World) (h0 : 0 ≤ n) (h1 : n < 18446744073709551616) :
    Calls Tryz.prog 39 #[.int .u64 n] w (PutTo w.heap.size (enc n) w) := by
  have hlen : (enc n).length ≤ 10 := enc_len_ten n h1
  go_enter Tryz.func39, Tryz.ntmps39
  go_wp2
  go_loopw [0, 3] (RputRel w.heap.size (enc n) w) (fun m _ _ => (intOf m).toNat)
  case atStart => exact ⟨[], n, h0, h1, rfl, rfl, World.ownsRow_nil _ _ _ _, Below.refl _ _, Nat.le_refl _⟩
  case round =>
    obtain ⟨ys, k, hk0, hk1, rfl, hall', hownr, hbr, hBr⟩ := hrel
    have hys : (u8s ys).length ≤ 2000000 := by rw [← hall'] at hlen; simp at hlen ⊢; omega
    have HA := Lib.hid hall'
    have HY := Lib.hid hys
    clear hall' hlen hys
    by_cases hlt : 128 ≤ k
    · have hm : k % 128 % 256 = k % 128 := by omega
      go_wp2_with (at_builtin; refine wpList_push 27 5 (.int .u8 0) 1 Tryz.underlying27 Tryz.info5 rfl (by decide) rfl (.tmp 6) (.tmp 11) rfl w.heap.size _ (u8s ys) (.int .u8 (k % 128 + 128)) rfl hownr hBr HY.out rfl rfl ?_; intro v' w1 hown1 hb1 hB1)
      go_roundw
      case rel => exact ⟨ys ++ [k % 128 + 128], k / 128, by omega, by omega, rfl, (enc_of_ge hlt ys).trans HA.out, own8 hown1 rfl, hbr.trans hb1, hB1⟩
      case measure => simp [intOf]; omega
    · have hk : k < 128 := by omega
      have hm : k % 256 = k := by omega
      clear hk1
      go_wp2_with (at_builtin; refine wpList_push 27 5 (.int .u8 0) 1 Tryz.underlying27 Tryz.info5 rfl (by decide) rfl (.tmp 15) (.tmp 18) rfl w.heap.size _ (u8s ys) (.int .u8 k) rfl hownr hBr HY.out rfl rfl ?_; intro v' w1 hown1 hb1 hB1)
      go_ret
      exact ⟨v', rfl, own8 hown1 ((enc_of_lt hk ys).trans HA.out), hbr.trans hb1⟩
end Go.Proofs.YtgfleifpblcnfaaGreatDoor

/- Contract of the function that reads one number: wire.first. -/
namespace Go.Proofs.YtgfleifpblcnfaaGreatDoor
set_option linter.unusedSimpArgs false
open Go.RowKit
set_option linter.unusedVariables false

set_option maxRecDepth 100000 in
theorem andNot128 (c : Int) (h0 : 0 ≤ c) (h1 : c < 256) : bits .andNot .u8 c 128 = c % 128 := by
  have : c = c.toNat := by omega
  rw [this, show (128 : Int) = ((128 : Nat) : Int) from rfl, u8_andNot_nat _ _ (by omega) (by omega)]
  have hh : ∀ a : Nat, a < 256 → a &&& (255 - 128) = a % 128 := by decide
  rw [hh _ (by omega)]
  omega

theorem pw_two (k : Nat) : (2 : Int) ^ (7 * k) = pw k := by
  unfold pw
  rw [Int.pow_mul]
  rfl
theorem pw_nat (k : Nat) : pw k = ((2 ^ (7 * k) : Nat) : Int) := by rw [← pw_two]; simp
theorem pw_fits (x : Int) (k : Nat) (hx0 : 0 ≤ x) (hx : x < 128) (hk : k ≤ 9) (h9 : k = 9 → x ≤ 1) : 0 ≤ x * pw k ∧ x * pw k + pw k ≤ 18446744073709551616 := by
  have hp := pw_pos k
  refine ⟨Int.mul_nonneg hx0 (by omega), ?_⟩
  by_cases e9 : k = 9
  · have := h9 e9; subst e9; rw [pw_9]; omega
  · have h8 := pw_le (show k ≤ 8 by omega)
    rw [pw_8] at h8
    have : (x + 1) * pw k ≤ 128 * pw k := Int.mul_le_mul_of_nonneg_right (by omega) (by omega)
    rw [Int.add_mul] at this
    omega
theorem shl_or (m x : Int) (k : Nat) (hm0 : 0 ≤ m) (hm1 : m < pw k) (hx0 : 0 ≤ x) (hx : x < 128) (hk : k ≤ 9) (h9 : k = 9 → x ≤ 1) :
    bits .or .u64 m (IntKind.u64.wrap (x * 2 ^ (7 * k))) = m + x * pw k := by
  obtain ⟨f0, f1⟩ := pw_fits x k hx0 hx hk h9
  have hp := pw_pos k
  rw [pw_two, show IntKind.u64.wrap (x * pw k) = x * pw k by rw [IntKind.wrap_u64]; omega]
  obtain ⟨a, rfl⟩ := Int.eq_ofNat_of_zero_le hm0
  obtain ⟨y, rfl⟩ := Int.eq_ofNat_of_zero_le hx0
  rw [pw_nat] at f1 hm1 ⊢
  rw [← Int.natCast_mul] at f1 ⊢
  rw [u64_or_nat _ _ (by omega) (by omega), Nat.or_comm, Nat.mul_comm, ← Nat.two_pow_add_eq_or_of_lt (by omega)]
  omega

theorem scan_at (bs : List Int) (k : Nat) (m : Int) (h : k < bs.length) : scan (bs.drop k) k m =
    if k = 9 ∧ 1 < bs[k] then (0, 0) else if 128 ≤ bs[k] then scan (bs.drop (k + 1)) (k + 1) (m + (bs[k] - 128) * pw k) else if bs[k] = 0 ∧ 0 < k then (0, 0) else (m + bs[k] * pw k, k + 1) := by
  rw [List.drop_eq_getElem_cons h, scan]

def FirstRel (bs : List Int) (n i : Value) : Prop :=
  ∃ (k : Nat) (m : Int), k ≤ bs.length ∧ k ≤ 9 ∧ i = .int .i64 k ∧ n = .int .u64 m ∧ 0 ≤ m ∧ m < pw k ∧ scan (bs.drop k) k m = scan bs 0 0
theorem firstRel_go {bs : List Int} {k : Nat} {m x : Int} {h : k < bs.length} (hx : bs[k] = x) (hb : 0 ≤ x ∧ x < 256) (hk : k ≤ 8) (h128 : 128 ≤ x) (hm0 : 0 ≤ m) (hm1 : m < pw k) (hs : scan (bs.drop k) k m = scan bs 0 0) :
    FirstRel bs (.int .u64 (bits .or .u64 m (IntKind.u64.wrap (x % 128 * 2 ^ (7 * k))))) (.int .i64 (↑k + 1)) := by
  have hp := pw_pos k
  have e1 : x % 128 = x - 128 := by omega
  rw [shl_or m (x % 128) k hm0 hm1 (by omega) (by omega) (by omega) (by omega), e1]
  have h1 : 0 ≤ (x - 128) * pw k := Int.mul_nonneg (by omega) (by omega)
  have h2 : (x - 128) * pw k ≤ 127 * pw k := Int.mul_le_mul_of_nonneg_right (by omega) (by omega)
  refine ⟨k + 1, m + (x - 128) * pw k, by omega, by omega, by simp, rfl, by omega, by rw [pw_succ]; omega, ?_⟩
  rw [← hs, scan_at bs k m h, hx, if_neg (by omega), if_pos h128]
theorem ret_first {bs : List Int} {a : Int} {s : Nat} (h : scan bs 0 0 = (a, s)) : Ending.returned (.tuple #[.int .u64 a, .int .i64 (s : Int)]) = .returned (.tuple #[.int .u64 (scan bs 0 0).1, .int .i64 (scan bs 0 0).2]) := by rw [h]
theorem scan_none {bs : List Int} {k : Nat} {m x : Int} {h : k < bs.length} (hx : bs[k] = x) (hs : scan (bs.drop k) k m = scan bs 0 0) (hh : k = 9 ∧ 1 < x ∨ x = 0 ∧ 0 < k) : scan bs 0 0 = (0, 0) := by
  rw [← hs, scan_at bs k m h, hx]
  rcases hh with hh | hh
  · rw [if_pos hh]
  · rw [if_neg (by omega), if_neg (by omega), if_pos hh]
theorem scan_some {bs : List Int} {k : Nat} {m x : Int} {h : k < bs.length} (hx : bs[k] = x) (hb : 0 ≤ x) (hm0 : 0 ≤ m) (hm1 : m < pw k) (hk : k ≤ 9) (hs : scan (bs.drop k) k m = scan bs 0 0) (h1 : ¬ (k = 9 ∧ 1 < x)) (h2 : ¬ 128 ≤ x) (h3 : ¬ (x = 0 ∧ 0 < k)) :
    scan bs 0 0 = (bits .or .u64 m (IntKind.u64.wrap (x % 128 * 2 ^ (7 * k))), k + 1) := by
  rw [show x % 128 = x by omega, shl_or m x k hm0 hm1 (by omega) (by omega) (by omega) (by omega), ← hs, scan_at bs k m h, hx, if_neg h1, if_neg h2, if_neg h3]

set_option maxHeartbeats 800000 in
theorem first_any (bs : List Int) (A : Option Addr) (c R : Nat) (w : World) (hl : bs.length ≤ 100000) (hb : Octs bs) (hr : Row w R A (u8s bs)) :
    Calls Tryz.prog 99 #[.slice A bs.length c] w fun e w' => e = .returned (.tuple #[.int .u64 (scan bs 0 0).1, .int .i64 (scan bs 0 0).2]) ∧ w = w' := by
  have HB := Lib.hid hb
  have HR := Lib.hid hr
  clear hb hr
  go_enter Tryz.func99, Tryz.ntmps99
  go_wp2
  go_loop [4, 9] (FirstRel bs) (fun _ i => bs.length - (intOf i).toNat)
  case atStart => exact ⟨0, 0, by omega, by omega, rfl, rfl, by omega, by rw [pw_zero]; omega, rfl⟩
  case round =>
    obtain ⟨k, m, hk, hk9, rfl, rfl, hm0, hm1, hsc⟩ := hrel
    have HS := Lib.hid hsc
    clear hsc
    by_cases hlt : k < bs.length
    · obtain ⟨b, o, rfl, hb, hcell⟩ := HR.out.at (k := k) (by simpa using hlt)
      have hc := hcell k (by simpa using hlt)
      simp only [List.getElem_map] at hc
      have hcb := HB.out bs[k] (List.getElem_mem hlt)
      clear hcell
      generalize hce : bs[k] = x at *
      have HX := Lib.hid hce
      clear hce
      have han := andNot128 x hcb.1 hcb.2
      by_cases h9 : k = 9 ∧ 1 < x
      · obtain ⟨rfl, hx1⟩ := h9
        clear hm1
        go_wp2
        go_ret2
        exact ⟨ret_first (scan_none HX.out HS.out (.inl ⟨rfl, hx1⟩)), rfl⟩
      · by_cases h128 : 128 ≤ x
        · have hk8 : k ≤ 8 := by omega
          go_wp2
          go_round
          case rel => exact firstRel_go HX.out hcb hk8 h128 hm0 hm1 HS.out
          case measure => simp [intOf]; omega
        · by_cases h0 : x = 0 ∧ 0 < k
          · obtain ⟨rfl, hk0⟩ := h0
            go_wp2
            all_goals
              go_ret2
              exact ⟨ret_first (scan_none HX.out HS.out (.inr ⟨rfl, hk0⟩)), rfl⟩
          · have HE := Lib.hid (scan_some HX.out hcb.1 hm0 hm1 hk9 HS.out h9 h128 h0)
            by_cases e9 : k = 9
            · obtain rfl := e9
              have h1 : ¬ x = 0 := by omega
              have hx1 : x ≤ 1 := by omega
              have HF : Hid (scan bs 0 0 = (bits .or .u64 m (x % 128 * 9223372036854775808), 10)) := by
                have := HE.out
                rw [pw_two, pw_9, show IntKind.u64.wrap (x % 128 * 9223372036854775808) = x % 128 * 9223372036854775808 by rw [IntKind.wrap_u64]; omega] at this
                exact this
              clear h9 h0 hm1
              go_wp2
              go_ret2
              exact ⟨ret_first HF.out, rfl⟩
            · by_cases e0 : x = 0
              · obtain rfl := e0
                have HF : Hid (scan bs 0 0 = (bits .or .u64 m (IntKind.u64.wrap 0), k + 1)) := by
                  have := HE.out
                  rw [Int.zero_emod, Int.zero_mul] at this
                  exact this
                go_wp2
                go_ret2
                exact ⟨ret_first HF.out, rfl⟩
              · go_wp2
                go_ret2
                exact ⟨ret_first HE.out, rfl⟩
    · have e : k = bs.length := by omega
      have HE : Hid (scan bs 0 0 = (0, 0)) := by
        have := HS.out
        rw [List.drop_of_length_le (by omega)] at this
        exact this.symm
      clear e
      go_wp2
      go_ret2
      exact ⟨ret_first HE.out, rfl⟩
end Go.Proofs.YtgfleifpblcnfaaGreatDoor

/- Contract of the reference's reader of one number: dunnageref02.one. -/
namespace Go.Proofs.YtgfleifpblcnfaaGreatDoor
set_option linter.unusedSimpArgs false
open Go.RowKit
set_option linter.unusedVariables false

def oneVal (pos : Nat) (s : Int × Nat) : Value := if s.2 = 0 then .tuple #[.int .u64 0, .int .i64 (-1)] else .tuple #[.int .u64 s.1, .int .i64 ((pos + s.2 : Nat) : Int)]
theorem ret_one_none {pos : Nat} {S : Int × Nat} (h : S = (0, 0)) : Ending.returned (.tuple #[.int .u64 0, .int .i64 (-1)]) = .returned (oneVal pos S) := by rw [h]; rfl
theorem ret_one_some {pos j : Nat} {S : Int × Nat} {n : Int} (hj : pos ≤ j) (h : S = (n, j - pos + 1)) : Ending.returned (.tuple #[.int .u64 n, .int .i64 ((j : Int) + 1)]) = .returned (oneVal pos S) := by
  rw [h]; unfold oneVal; rw [if_neg (by simp)]
  simp only
  rw [show ((pos + (j - pos + 1) : Nat) : Int) = (j : Int) + 1 by omega]

def OneRel (bs : List Int) (pos : Nat) (n p i : Value) : Prop :=
  ∃ (j : Nat) (m q : Int), pos ≤ j ∧ j ≤ bs.length ∧ j ≤ pos + 10 ∧ i = .int .i64 j ∧ n = .int .u64 m ∧ p = .int .u64 q ∧
    ((j ≤ pos + 9 ∧ 0 ≤ m ∧ m < pw (j - pos) ∧ q = pw (j - pos) ∧ scan (bs.drop j) (j - pos) m = scan (bs.drop pos) 0 0) ∨ (pos + 10 ≤ j ∧ scan (bs.drop pos) 0 0 = (0, 0)))

theorem scan_from (bs : List Int) (j k : Nat) (m : Int) (h : j < bs.length) : scan (bs.drop j) k m =
    if k = 9 ∧ 1 < bs[j] then (0, 0) else if 128 ≤ bs[j] then scan (bs.drop (j + 1)) (k + 1) (m + (bs[j] - 128) * pw k) else if bs[j] = 0 ∧ 0 < k then (0, 0) else (m + bs[j] * pw k, k + 1) := by
  rw [List.drop_eq_getElem_cons h, scan]


theorem one_len (m x : Int) (k : Nat) (hm0 : 0 ≤ m) (hm1 : m < pw k) (hx0 : 0 ≤ x) (hx1 : x < 128) : (x = 0 ∧ 0 < k → (enc (m + x * pw k)).length ≤ k) ∧ (¬ (x = 0 ∧ 0 < k) → (enc (m + x * pw k)).length = k + 1) := by
  have hp := pw_pos k
  have h1 : x * pw k ≤ 127 * pw k := Int.mul_le_mul_of_nonneg_right (by omega) (by omega)
  constructor
  · rintro ⟨rfl, hk⟩
    obtain ⟨k, rfl⟩ : ∃ i, k = i + 1 := ⟨k - 1, by omega⟩
    exact enc_len_le k _ (by omega)
  · intro hn
    have hle := enc_len_le k (m + x * pw k) (by rw [pw_succ]; omega)
    by_cases hk : k = 0
    · have := enc_len_pos (m + x * pw k); omega
    · have h2 : 1 * pw k ≤ x * pw k := Int.mul_le_mul_of_nonneg_right (by omega) (by omega)
      have := enc_len_ge k (m + x * pw k) (by omega)
      omega

set_option maxHeartbeats 1600000 in
theorem one_any (bs : List Int) (pos : Nat) (A : Option Addr) (c R : Nat) (w : World) (hl : bs.length ≤ 100000) (hat : pos ≤ bs.length) (hb : Octs bs) (hr : Row w R A (u8s bs)) :
    Calls Tryz.prog 82 #[.slice A bs.length c, .int .i64 pos] w fun e w' => e = .returned (oneVal pos (scan (bs.drop pos) 0 0)) ∧ Below w.heap.size w w' := by
  have HB := Lib.hid hb
  have HR := Lib.hid hr
  clear hb hr
  go_enter Tryz.func82, Tryz.ntmps82
  go_wp2
  go_loop [6, 7, 8] (OneRel bs pos) (fun _ _ i => bs.length - (intOf i).toNat)
  case atStart => exact ⟨pos, 0, 1, by omega, by omega, by omega, rfl, rfl, rfl, .inl ⟨by omega, by omega, by rw [Nat.sub_self, pw_zero]; omega, by rw [Nat.sub_self, pw_zero], by rw [Nat.sub_self]⟩⟩
  case round =>
    obtain ⟨j, m, q, hj0, hj1, hj10, rfl, rfl, rfl, ⟨hj9, hm0, hm1, hq, hsc⟩ | ⟨hj9, hsc⟩⟩ := hrel
    · have HS := Lib.hid hsc
      clear hsc
      by_cases hlt : j < bs.length
      · obtain ⟨b, o, rfl, hb, hcell⟩ := HR.out.at (k := j) (by simpa using hlt)
        have hc := hcell j (by simpa using hlt)
        simp only [List.getElem_map] at hc
        have hcb := HB.out bs[j] (List.getElem_mem hlt)
        clear hcell
        have hst := scan_from bs j (j - pos) m hlt
        have HT := Lib.hid (HS.out.symm.trans hst)
        clear hst HS
        generalize hce : bs[j] = x at *
        clear hce
        by_cases hy : pos + 9 ≤ j ∧ 1 < x % 128
        · obtain ⟨h9, h1⟩ := hy
          clear hq
          go_wp2
          go_ret2
          exact ⟨ret_one_none (HT.out.trans (if_pos (by omega))), Below.refl _ _⟩
        · obtain ⟨f0, f1⟩ := pw_fits (x % 128) (j - pos) (by omega) (by omega) (by omega) (by omega)
          have hone := one_len m x (j - pos) hm0 hm1 hcb.1
          have hp := pw_pos (j - pos)
          rw [← hq] at f0 f1 hm1 hone hp
          have hfit : m + x % 128 * q < 18446744073709551616 := by omega
          have hfit0 : 0 ≤ m + x % 128 * q := by omega
          have HQ := Lib.hid hq
          have HO := Lib.hid hone
          clear hq hone
          have hlen1 : ∀ (_ : x < 128) (_ : x = 0 ∧ pos < j), (enc (m + x * q)).length + pos < j + 1 := fun a b => by have := (HO.out a).1 (by omega); omega
          have hlen2 : ∀ (_ : x < 128) (_ : ¬ (x = 0 ∧ pos < j)), (enc (m + x * q)).length + pos = j + 1 := fun a b => by have := (HO.out a).2 (by omega); omega
          have HL1 := Lib.hid hlen1
          have HL2 := Lib.hid hlen2
          clear hlen1 hlen2 HO
          by_cases h9 : j = pos + 9
          · subst h9
            by_cases h128 : 128 ≤ x
            · have h1 : x % 128 ≤ 1 := by omega
              go_wp2
              go_round
              case rel => exact ⟨pos + 9 + 1, _, _, by omega, by omega, by omega, by go_num, rfl, rfl, .inr ⟨by omega, HT.out.trans (if_pos (by omega))⟩⟩
              case measure => simp [intOf]; omega
            · have hx : x % 128 = x := by omega
              rw [hx] at f0 f1 hfit hfit0 hy
              have hx1 : x ≤ 1 := by omega
              by_cases h0 : x = 0
              · have hlt' := HL1.out (by omega) (by omega)
                have HN : Hid (scan (bs.drop pos) 0 0 = (0, 0)) := HT.out.trans (by rw [if_neg (by omega), if_neg h128, if_pos (by omega)])
                clear HT HL1 HL2
                subst h0
                rw [Int.zero_mul, Int.add_zero] at hlt'
                go_wp2_with fail
                refine (rput_any m _ hm0 (by omega)).mono ?_
                rintro e w1 ⟨v, rfl, hown1, hb1⟩
                obtain ⟨A1, c1, rfl, _, _, _⟩ := own_form hown1
                clear hown1
                go_wp2
                go_ret2
                exact ⟨ret_one_none HN.out, hb1⟩
              · have hlt' := HL2.out (by omega) (by omega)
                have HN : Hid (scan (bs.drop pos) 0 0 = (m + x * q, pos + 9 - pos + 1)) := HT.out.trans (by rw [if_neg (by omega), if_neg h128, if_neg (by omega), HQ.out])
                clear HT HL1 HL2
                have hl1 : (enc (m + x * q)).length + pos ≤ pos + 9 + 1 := by omega
                have hl2 : pos + 9 + 1 ≤ (enc (m + x * q)).length + pos := by omega
                clear hlt'
                go_wp2_with fail
                refine (rput_any (m + x * q) _ hfit0 hfit).mono ?_
                rintro e w1 ⟨v, rfl, hown1, hb1⟩
                obtain ⟨A1, c1, rfl, _, _, _⟩ := own_form hown1
                clear hown1
                go_wp2
                go_ret2
                exact ⟨ret_one_some (by omega) HN.out, hb1⟩
          · by_cases h128 : 128 ≤ x
            · have h8 := pw_le (show j - pos ≤ 8 by omega)
              rw [pw_8, ← HQ.out] at h8
              have HR2 : Hid (m + x % 128 * q < pw (j + 1 - pos) ∧ q * 128 = pw (j + 1 - pos) ∧ scan (bs.drop (j + 1)) (j + 1 - pos) (m + x % 128 * q) = scan (bs.drop pos) 0 0) := by
                have hle : x % 128 * q ≤ 127 * q := Int.mul_le_mul_of_nonneg_right (by omega) (by omega)
                rw [show j + 1 - pos = (j - pos) + 1 by omega]
                refine ⟨by rw [pw_succ, ← HQ.out]; omega, by rw [pw_succ, ← HQ.out]; omega, ?_⟩
                rw [HT.out, if_neg (by omega), if_pos h128, show x % 128 = x - 128 by omega, HQ.out]
              go_wp2
              go_round
              case rel => exact ⟨j + 1, _, _, by omega, by omega, by omega, by go_num, rfl, rfl, .inl ⟨by omega, hfit0, HR2.out.1, HR2.out.2.1, HR2.out.2.2⟩⟩
              case measure => simp [intOf]; omega
            · have hx : x % 128 = x := by omega
              have hj8 : j < pos + 9 := by omega
              rw [hx] at f0 f1 hfit hfit0 hy
              by_cases h0 : x = 0 ∧ pos < j
              · have hlt' := HL1.out (by omega) h0
                have HN : Hid (scan (bs.drop pos) 0 0 = (0, 0)) := HT.out.trans (by rw [if_neg (by omega), if_neg h128, if_pos (by omega)])
                clear HT HL1 HL2
                obtain ⟨rfl, h0⟩ := h0
                rw [Int.zero_mul, Int.add_zero] at hlt'
                go_wp2_with fail
                refine (rput_any m _ hm0 (by omega)).mono ?_
                rintro e w1 ⟨v, rfl, hown1, hb1⟩
                obtain ⟨A1, c1, rfl, _, _, _⟩ := own_form hown1
                clear hown1
                go_wp2
                go_ret2
                exact ⟨ret_one_none HN.out, hb1⟩
              · have hlt' := HL2.out (by omega) h0
                have HN : Hid (scan (bs.drop pos) 0 0 = (m + x * q, j - pos + 1)) := HT.out.trans (by rw [if_neg (by omega), if_neg h128, if_neg (by omega), HQ.out])
                clear HT HL1 HL2
                have hl1 : (enc (m + x * q)).length + pos ≤ j + 1 := by omega
                have hl2 : j + 1 ≤ (enc (m + x * q)).length + pos := by omega
                clear hlt'
                go_wp2_with fail
                refine (rput_any (m + x * q) _ hfit0 hfit).mono ?_
                rintro e w1 ⟨v, rfl, hown1, hb1⟩
                obtain ⟨A1, c1, rfl, _, _, _⟩ := own_form hown1
                clear hown1
                go_wp2
                go_ret2
                exact ⟨ret_one_some (by omega) HN.out, hb1⟩
      · have HN : Hid (scan (bs.drop pos) 0 0 = (0, 0)) := by
          rw [← HS.out, List.drop_of_length_le (by omega)]; rfl
        go_wp2
        go_ret2
        exact ⟨ret_one_none HN.out, Below.refl _ _⟩
    · have HN := Lib.hid hsc
      clear hsc
      go_wp2
      all_goals
        go_ret2
        exact ⟨ret_one_none HN.out, Below.refl _ _⟩
end Go.Proofs.YtgfleifpblcnfaaGreatDoor

/- Contracts of the two functions that write numbers: wire.Put and dunnageref02.Put. -/
namespace Go.Proofs.YtgfleifpblcnfaaGreatDoor
set_option linter.unusedSimpArgs false
open Go.RowKit
set_option linter.unusedVariables false

theorem encs_take (l : List Int) (k : Nat) (h : k < l.length) : encs (l.take k) ++ enc l[k] = encs (l.take (k + 1)) := by
  rw [List.take_succ_eq_append_getElem h, encs_append, encs_one]
theorem encs_take_len (l : List Int) (hn : Nums l) (hl : l.length ≤ 5000) (k : Nat) : (encs (l.take k)).length ≤ 50000 := by
  have := encs_len_le (hn.take k)
  have := List.length_take_le' k l
  omega

def PutsRel (l : List Int) (w : World) (v i : Value) (wr : World) : Prop :=
  ∃ k : Nat, k ≤ l.length ∧ i = .int .i64 k ∧ wr.ownsRow w.heap.size 5 1 v (u8s (encs (l.take k))).length (u8s (encs (l.take k))) ∧ Below w.heap.size w wr

set_option maxHeartbeats 800000 in
theorem Put_any (l : List Int) (A : Option Addr) (c : Nat) (w : World) (hl : l.length ≤ 5000) (hn : Nums l) (hr : Row w w.heap.size A (u64s l)) :
    Calls Tryz.prog 23 #[.slice A l.length c] w (PutTo w.heap.size (encs l) w) := by
  have HN := Lib.hid hn
  have HR := Lib.hid hr
  clear hn hr
  go_enter Tryz.func23, Tryz.ntmps23
  go_wp2
  go_loopw [3, 8] (PutsRel l w) (fun _ i _ => l.length - (intOf i).toNat)
  case atStart => exact ⟨0, by omega, rfl, World.ownsRow_nil _ _ _ _, Below.refl _ _⟩
  case round =>
    obtain ⟨k, hk, rfl, hown, hbr⟩ := hrel
    by_cases hlt : k < l.length
    · obtain ⟨b, o, rfl, hb, hcell⟩ := HR.out.at (k := k) (by simpa using hlt)
      have hc := (hbr.cell (p := ⟨b, o + k, none⟩) hb).trans (hcell k (by simpa using hlt))
      simp only [List.getElem_map] at hc
      clear hcell
      have hz := hbr.size
      go_wp2_with fail
      refine (put_any w.heap.size _ (encs (l.take k)) l[k] _ hz hown (HN.out _ (List.getElem_mem hlt)).1 (HN.out _ (List.getElem_mem hlt)).2 (by have := encs_take_len l HN.out hl k; omega)).mono ?_
      rintro e w1 ⟨v, rfl, hown1, hb1⟩
      go_wp2
      go_roundw
      case rel => exact ⟨k + 1, by omega, by go_num, by rw [← encs_take l k hlt]; exact hown1, hbr.trans hb1⟩
      case measure => simp [intOf]; omega
    · have HK : Hid (l.take k = l) := List.take_of_length_le (by omega)
      go_wp2
      go_ret
      exact ⟨_, rfl, by rw [HK.out] at hown; exact hown, hbr⟩

set_option maxHeartbeats 800000 in
theorem rPut_any (l : List Int) (A : Option Addr) (c : Nat) (w : World) (hl : l.length ≤ 5000) (hn : Nums l) (hr : Row w w.heap.size A (u64s l)) :
    Calls Tryz.prog 10 #[.slice A l.length c] w (PutTo w.heap.size (encs l) w) := by
  have HN := Lib.hid hn
  have HR := Lib.hid hr
  clear hn hr
  go_enter Tryz.func10, Tryz.ntmps10
  go_wp2
  go_loopw [3, 4] (PutsRel l w) (fun _ i _ => l.length - (intOf i).toNat)
  case atStart => exact ⟨0, by omega, rfl, World.ownsRow_nil _ _ _ _, Below.refl _ _⟩
  case round =>
    obtain ⟨k, hk, rfl, hown, hbr⟩ := hrel
    by_cases hlt : k < l.length
    · obtain ⟨b, o, rfl, hb, hcell⟩ := HR.out.at (k := k) (by simpa using hlt)
      have hc := (hbr.cell (p := ⟨b, o + k, none⟩) hb).trans (hcell k (by simpa using hlt))
      simp only [List.getElem_map] at hc
      clear hcell
      have hz := hbr.size
      go_wp2_with fail
      refine (rput_any l[k] _ (HN.out _ (List.getElem_mem hlt)).1 (HN.out _ (List.getElem_mem hlt)).2).mono ?_
      rintro e w1 ⟨v, rfl, hown1, hb1⟩
      obtain ⟨A1, c1, rfl, _, _, hnil⟩ := own_form hown1
      have hrow := (Row.of_own hown1).1
      have hown0 := own_below hown hb1 (Nat.le_refl _)
      have hz1 := hb1.size
      have h10 := encs_take_len l HN.out hl k
      have h11 := enc_len_ten l[k] (HN.out _ (List.getElem_mem hlt)).2
      have HL : Hid ((u8s (encs (l.take k))).length + (u8s (enc l[k])).length ≤ 2000000) := by show _ ≤ _; simp only [List.length_map]; omega
      clear h10 h11
      go_wp2_with (at_builtin; refine wpList_cat 27 5 (.int .u8 0) 1 Tryz.underlying27 Tryz.info5 rfl (by decide) rfl (.tmp 11) (.tmp 16) rfl w.heap.size _ _ (u8s (encs (l.take k))) (u8s (enc l[k])) A1 c1 (one_u8s _) (fun h => (hnil h).2) hown0 hrow (by omega) HL.out rfl rfl (by simp) ?_; intro v' w2 hown2 hb2 hB2)
      go_roundw
      case rel => exact ⟨k + 1, by omega, by go_num, by rw [← encs_take l k hlt]; simpa using hown2, (hbr.trans (hb1.mono hz)).trans hb2⟩
      case measure => simp [intOf]; omega
    · have HK : Hid (l.take k = l) := List.take_of_length_le (by omega)
      go_wp2
      go_ret
      exact ⟨_, rfl, by rw [HK.out] at hown; exact hown, hbr⟩
end Go.Proofs.YtgfleifpblcnfaaGreatDoor

namespace Go.Proofs.YtgfleifpblcnfaaGreatDoor
set_option linter.unusedSimpArgs false
open Go.RowKit
set_option linter.unusedVariables false

/-- An error of package wire: a Spot of the call's own, at a place, ErrForm. -/
def Spotted (B p : Nat) (w' : World) (u : Value) : Prop :=
  ∃ g, u = .iface 131 (.pointer (some ⟨g, 0, none⟩)) ∧ B ≤ g ∧ w'.heap[g]? = some (.cells #[.int .i64 (p : Int), .int .i64 2] 136 (0, 0))

theorem misformed_any (p : Int) (w : World) : Calls Tryz.prog 100 #[.int .i64 p] w fun e w' => e = .returned (.iface 131 (.pointer (some ⟨w.heap.size, 0, none⟩))) ∧ w.alloc (.cells #[.int .i64 p, .int .i64 2] 136) = w' := by
  go_enter Tryz.func100, Tryz.ntmps100
  go_wp2
  go_ret
  exact ⟨rfl, rfl⟩

def AllRel (ns : List Int) (w : World) (v i : Value) (wr : World) : Prop :=
  ∃ k : Nat, k ≤ ns.length ∧ i = .int .i64 ((encs (ns.take k)).length : Nat) ∧ wr.ownsRow w.heap.size 65 1 v (u64s (ns.take k)).length (u64s (ns.take k)) ∧ Below w.heap.size w wr

def AllTo (ns rest : List Int) (w : World) (e : Ending) (w' : World) : Prop :=
  ((rest = [] ∧ ∃ v, e = .returned (.tuple #[v, .nilIface]) ∧ w'.ownsRow w.heap.size 65 1 v (u64s ns).length (u64s ns)) ∨
   (rest ≠ [] ∧ ∃ u, e = .returned (.tuple #[.slice none 0 0, u]) ∧ Spotted w.heap.size (encs ns).length w' u)) ∧ Below w.heap.size w w'

theorem Row.cut {w : World} {B : Nat} {A : Option Addr} {xs : List Value} (h : Row w B A xs) (p : Nat) : Row w B (A.map (·.add p)) (xs.drop p) := by
  rcases h with h | ⟨b, o, h1, h2, h3⟩
  · exact .inl (by simp [h])
  · refine .inr ⟨b, o + p, by rw [h1]; simp [Addr.add_lit], h2, fun j hj => ?_⟩
    rw [List.getElem_drop, Nat.add_assoc]
    exact h3 (p + j) (by simp at hj; omega)
theorem u8s_drop (l : List Int) (p : Nat) : u8s (l.drop p) = (u8s l).drop p := by simp
theorem first_hit (v : Int) (r : List Int) (A : Option Addr) (n c R : Nat) (w : World) (hn : n = (enc v ++ r).length) (hl : n ≤ 100000) (h0 : 0 ≤ v ∧ v < 18446744073709551616) (hb : Octs r) (hr : Row w R A (u8s (enc v ++ r))) :
    Calls Tryz.prog 99 #[.slice A n c] w fun e w' => e = .returned (.tuple #[.int .u64 v, .int .i64 ((enc v).length : Nat)]) ∧ w = w' := by
  subst hn
  have := first_any (enc v ++ r) A c R w hl (fun x hx => by rcases List.mem_append.1 hx with h | h; exact enc_bytes v h0.1 x h; exact hb x h) hr
  rw [scan_hit v r h0.1 h0.2] at this
  exact this
theorem first_miss (r : List Int) (A : Option Addr) (n c R : Nat) (w : World) (hn : n = r.length) (hl : n ≤ 100000) (hb : Octs r) (hm : Miss r) (hr : Row w R A (u8s r)) :
    Calls Tryz.prog 99 #[.slice A n c] w fun e w' => e = .returned (.tuple #[.int .u64 0, .int .i64 0]) ∧ w = w' := by
  subst hn
  have := first_any r A c R w hl hb hr
  rw [show scan r 0 0 = (0, 0) from hm] at this
  exact this

theorem drop_at (ns rest : List Int) (k : Nat) (h : k < ns.length) : (encs ns ++ rest).drop (encs (ns.take k)).length = enc ns[k] ++ (encs (ns.drop (k + 1)) ++ rest) := by
  have e : encs ns = encs (ns.take k) ++ (enc ns[k] ++ encs (ns.drop (k + 1))) := by
    have : ns = ns.take k ++ (ns[k] :: ns.drop (k + 1)) := by rw [← List.drop_eq_getElem_cons h, List.take_append_drop]
    conv => lhs; rw [this]
    rw [encs_append]; rfl
  rw [e, List.append_assoc, List.drop_left, List.append_assoc]
theorem len_at (ns rest : List Int) (k : Nat) (h : k < ns.length) : (encs (ns.take k)).length + (enc ns[k]).length ≤ (encs ns ++ rest).length := by
  have := congrArg List.length (drop_at ns rest k h)
  have h1 := enc_len_pos ns[k]
  simp only [List.length_drop, List.length_append] at this ⊢
  omega
theorem len_next (ns : List Int) (k : Nat) (h : k < ns.length) : (encs (ns.take (k + 1))).length = (encs (ns.take k)).length + (enc ns[k]).length := by
  rw [← encs_take ns k h, List.length_append]
theorem drop_end (ns rest : List Int) : (encs ns ++ rest).drop (encs ns).length = rest := List.drop_left
theorem octs_append {a b : List Int} (ha : Octs a) (hb : Octs b) : Octs (a ++ b) := fun x hx => by
  rcases List.mem_append.1 hx with h | h
  · exact ha x h
  · exact hb x h
theorem nums_drop {a : List Int} (ha : Nums a) (k : Nat) : Nums (a.drop k) := fun n hn => ha n (List.mem_of_mem_drop hn)
theorem own64 {B : Nat} {w1 : World} {v : Value} {xs ys : List Int} {c : Int} (h : w1.ownsRow B 65 1 v (u64s xs ++ [Value.int .u64 c]).length (u64s xs ++ [Value.int .u64 c])) (e : xs ++ [c] = ys) : w1.ownsRow B 65 1 v (u64s ys).length (u64s ys) := by
  subst e; simpa using h

set_option maxHeartbeats 800000 in
theorem All_any (ns rest : List Int) (A : Option Addr) (n c : Nat) (w : World) (hn : n = (encs ns ++ rest).length) (hl : n ≤ 100000) (hc : n ≤ c) (hc' : c ≤ maxLen) (hns : Nums ns) (hb : Octs rest) (hm : rest = [] ∨ (rest ≠ [] ∧ Miss rest)) (hr : Row w w.heap.size A (u8s (encs ns ++ rest))) :
    Calls Tryz.prog 78 #[.slice A n c] w (AllTo ns rest w) := by
  unfold maxLen at hc'
  have HN := Lib.hid hns
  have HB := Lib.hid hb
  have HR := Lib.hid hr
  have HM := Lib.hid hm
  have HL := Lib.hid hn
  clear hns hb hr hm hn
  go_enter Tryz.func78, Tryz.ntmps78
  go_wp2
  go_loopw [4, 5] (AllRel ns w) (fun _ i _ => n - (intOf i).toNat)
  case atStart => exact ⟨0, by omega, rfl, World.ownsRow_nil _ _ _ _, Below.refl _ _⟩
  case round =>
    obtain ⟨k, hk, rfl, hown, hbr⟩ := hrel
    have hz := hbr.size
    have hrow := HR.out.below hbr (Nat.le_refl _)
    by_cases hlt : k < ns.length
    · have hat := len_at ns rest k hlt
      have hnx := len_next ns k hlt
      have hcut := hrow.cut (encs (ns.take k)).length
      rw [← u8s_drop, drop_at ns rest k hlt] at hcut
      have hd := congrArg List.length (drop_at ns rest k hlt)
      rw [List.length_drop] at hd
      rw [← HL.out] at hat hd
      have hpos := enc_len_pos ns[k]
      have hv := HN.out _ (List.getElem_mem hlt)
      have ho : Octs (encs (ns.drop (k + 1)) ++ rest) := octs_append (encs_octs (nums_drop HN.out _)) HB.out
      have hul : (u64s (ns.take k)).length ≤ 2000000 := by
        have := encs_len_ge ns
        have h1 := HL.out
        simp at h1 ⊢; omega
      have htk : ns.take k ++ [ns[k]] = ns.take (k + 1) := (List.take_succ_eq_append_getElem hlt).symm
      generalize hpe : (encs (ns.take k)).length = p at *
      have HP := Lib.hid hpe
      have HX := Lib.hid hnx
      have HD := Lib.hid hd
      have HC := Lib.hid hcut
      have HT := Lib.hid htk
      have HU := Lib.hid hul
      have HO := Lib.hid ho
      clear hpe hnx hd hcut htk hul hrow ho
      have hlen10 := enc_len_ten ns[k] hv.2
      go_wp2_with fail
      refine (first_hit ns[k] (encs (ns.drop (k + 1)) ++ rest) _ _ _ _ _ HD.out (by omega) hv HO.out HC.out).mono ?_
      rintro e w1 ⟨rfl, rfl⟩
      generalize hqe : (enc ns[k]).length = q at *
      generalize hve : ns[k] = x at *
      clear HD HC
      have HQ := Lib.hid hqe
      clear hqe hve
      go_wp2_with (at_builtin; refine wpList_push 38 65 (.int .u64 0) 8 Tryz.underlying38 Tryz.info65 rfl (by decide) rfl (.tmp 23) (.tmp 25) rfl w.heap.size _ (u64s (ns.take k)) (.int .u64 x) rfl hown hz HU.out rfl rfl ?_; intro v' w1 hown1 hb1 hB1)
      go_roundw
      case rel => exact ⟨k + 1, by omega, by rw [HX.out]; go_num, own64 hown1 HT.out, hbr.trans hb1⟩
      case measure => simp [intOf]; omega
    · have htk : ns.take k = ns := List.take_of_length_le (by omega)
      rw [htk] at hown ⊢
      rcases HM.out with h0 | ⟨hne, hm⟩
      · subst h0
        have he : (encs ns).length = n := by rw [HL.out]; simp
        generalize hpe : (encs ns).length = p at *
        have hp : n ≤ p := by omega
        clear hpe he htk hrow
        go_wp2
        go_ret2
        exact ⟨.inl ⟨rfl, _, rfl, hown⟩, hbr⟩
      · have hcut := hrow.cut (encs ns).length
        rw [← u8s_drop, drop_end] at hcut
        have hd : n - (encs ns).length = rest.length := by rw [HL.out]; simp
        have hr0 : 0 < rest.length := List.length_pos_iff.2 hne
        have HNE := Lib.hid hne
        generalize hpe : (encs ns).length = p at *
        have hp : p < n := by omega
        have HP := Lib.hid hpe
        have HD := Lib.hid hd
        have HC := Lib.hid hcut
        have HM' := Lib.hid hm
        clear hpe hd hcut htk hrow hm hne
        go_wp2_with fail
        refine (first_miss rest _ _ _ _ _ HD.out (by omega) HB.out HM'.out HC.out).mono ?_
        rintro e w1 ⟨rfl, rfl⟩
        go_wp2_with fail
        refine (misformed_any _ _).mono ?_
        rintro e w1 ⟨rfl, rfl⟩
        go_wp2
        go_ret2
        refine ⟨.inr ⟨HNE.out, _, rfl, wr.heap.size, rfl, hz, ?_⟩, hbr.alloc hz _⟩
        rw [HP.out]
        exact heap_alloc_new _ _
end Go.Proofs.YtgfleifpblcnfaaGreatDoor
