/- Joined texts, part 27: V9. -/
import Derived.Test.YtpfjeoldgcepnaaGreatDoorZ23
import Derived.Test.YtpfjeoldgcepnaaGreatDoorZ02
import Derived.Test.YtpfjeoldgcepnaaGreatDoorZ03
import Derived.Test.YtpfjeoldgcepnaaGreatDoorZ26
import Derived.Test.YtpfjeoldgcepnaaGreatDoorZ15
import Derived.Test.YtpfjeoldgcepnaaGreatDoorZ09
import Derived.RegionTactic
import Derived.Deep.CutRange
import Derived.Deep.DeepCutAuto

namespace Go.Proofs.YtpfjeoldgcepnaaGreatDoor
set_option linter.unusedSimpArgs false
open Go.RowKit
set_option linter.unusedVariables false

/-- A move that is to be done, or one to be taken back. -/
structure PlayD where
  back : Bool
  m : MoveD
def cellsPl (d : PlayD) : List Value := [.bool d.back, .int .i64 d.m.kind, .int .i64 d.m.pod, .int .i64 d.m.node, .int .i64 d.m.over]
def PlayRel (s : SnapD) (x : SpecD) (len : Nat) (a b : List Value) (kb g : Nat) (w : World) (v16 v17 : Value) (wr : World) : Prop :=
  ∃ i : Nat, i ≤ len ∧ v17 = .int .i64 i ∧ PlaySt s x a b kb g i (100 + 24 * i) w v16 wr
theorem rest_place {s : SnapD} {x : SpecD} {l : List PodD} (hF : FineK s x) (hr : (roomOf s.nodes l).1 = 0) (id : Int) : decide ((restD s.nodes l id).2 = 0) = decide (0 ≤ place NodeD.id id s.nodes 0) := by
  by_cases hp : place NodeD.id id s.nodes 0 < 0
  · rw [rest_none (nodeAt_no (k := 0) (Int.le_refl _) hp), decide_eq_false (by decide), decide_eq_false (by omega)]
  · have h1 := place_ge (f := NodeD.id) (id := id) (l := s.nodes) (k := 0) (by omega)
    have hi : (place NodeD.id id s.nodes 0).toNat < s.nodes.length := by omega
    have h2 := nodeAt_yes (id := id) (k := 0) hi (Int.le_refl _) (by omega)
    obtain ⟨hm, he⟩ := nodeAt_mem h2
    have h3 := rest_K hF.n hr hm
    rw [he] at h3
    rw [h3, decide_eq_true rfl, decide_eq_true (by omega)]
def InRel (n : Nat) (W : World) (v : Value) (wr : World) : Prop := ∃ j : Nat, j ≤ n ∧ v = .int .i64 j ∧ Below W.heap.size W wr
theorem bf_set4 {V : World} {g : Nat} {a b c d x y z u : Value} (h : Bf V g [a, b, c, d]) : Bf ((((V.setCell ⟨g, 0, none⟩ x).setCell ⟨g, 1, none⟩ y).setCell ⟨g, 2, none⟩ z).setCell ⟨g, 3, none⟩ u) g [x, y, z, u] := (((h.set 0 _).set 1 _).set 2 _).set 3 _
theorem lit_cellsAt (w : World) (cs : List Value) (e : TypeId) {h : Nat} (hh : h = w.heap.size) : ∀ j u, cs[j]? = some u → (w.alloc (.cells cs.toArray e)).cell? ⟨h, j, none⟩ = some u := by subst hh; exact lit_cells w cs e
theorem aside_first {K : KAddr} {s : SnapD} {x : SpecD} {t : StateD} {N g : Nat} {A : Option Addr} {w V : World} (hk : Kp K s x t [] N V) (hf : ∀ i ∈ K.all, w.heap.size + 2 ≤ i) (hg : V.heap.size ≤ g) (hA : ∀ e, A = some e → V.heap.size ≤ e.block ∧ e.block < g) : AsideP K [] g t A none [] w := by
  have hp : ∀ i, PBlk t A none [] i → V.heap.size ≤ i ∧ i < g := fun i hi => by
    rcases hi with ⟨e, he, _, hi⟩ | ⟨e, he, _⟩ | ⟨d, hd, _⟩
    · rw [← hi]; exact hA e he
    · cases he
    · cases hd
  refine ⟨fun i hi => ⟨hf i hi, ?_, fun e => ?_⟩, fun e => ?_, fun e => ?_⟩
  · have := hk.all_lt i hi; omega
  · have := hk.all_lt i hi; have := (hp i e).1; omega
  · have := hk.blk_lt e; omega
  · have := (hp g e).2; omega

set_option maxHeartbeats 25600000 in
set_option maxRecDepth 100000 in
theorem keepPlays_in (s : SnapD) (x : SpecD) (l : List PlayD) (id : Int) (hs : s.Ok) (hx : ∀ a ∈ x.wants, a.Ok) (hi1 : I64 x.preempts) (hi2 : I64 x.shifts) (A1 A2 A3 A5 A6 : Option Addr) (n1 c1 n2 c2 n3 c3 n5 c5 n6 c6 : Nat) (w : World) (hg : Laid w)
    (h1 : n1 = s.nodes.length ∧ n1 ≤ c1 ∧ c1 ≤ maxLen ∧ (A1 = none → c1 = 0)) (h2 : n2 = s.loads.length ∧ n2 ≤ c2 ∧ c2 ≤ maxLen ∧ (A2 = none → c2 = 0)) (h3 : n3 = s.pods.length ∧ n3 ≤ c3 ∧ c3 ≤ maxLen ∧ (A3 = none → c3 = 0)) (h5 : n5 = x.wants.length ∧ n5 ≤ c5 ∧ c5 ≤ maxLen ∧ (A5 = none → c5 = 0)) (h6 : n6 = l.length ∧ n6 ≤ c6 ∧ c6 ≤ maxLen)
    (hr1 : Recs 10 cellsN w w.heap.size A1 s.nodes) (hr2 : Recs 5 cellsL w w.heap.size A2 s.loads) (hr3 : Recs 8 cellsP w w.heap.size A3 s.pods) (hr5 : Recs 6 cellsW w w.heap.size A5 x.wants) (hr6 : Recs 5 cellsPl w w.heap.size A6 l) :
    Calls Tryz.prog 3 #[.agg #[.slice A1 n1 c1, .slice A2 n2 c2, .slice A3 n3 c3], .agg #[.slice A5 n5 c5, .int .i64 x.preempts, .int .i64 x.shifts], .slice A6 n6 c6, .int .i64 id] w fun e w' => e = .returned (.bool true) ∧ Below w.heap.size w w' := by
  obtain ⟨rfl, h1b, h1c, z1⟩ := h1
  obtain ⟨rfl, h2b, h2c, z2⟩ := h2
  obtain ⟨rfl, h3b, h3c, z3⟩ := h3
  obtain ⟨rfl, h5b, h5c, z5⟩ := h5
  obtain ⟨rfl, h6b, h6c⟩ := h6
  have T0 := T2.new w [.slice A1 s.nodes.length c1, .slice A2 s.loads.length c2, .slice A3 s.pods.length c3] [.slice A5 x.wants.length c5, .int .i64 x.preempts, .int .i64 x.shifts] 26 29
  have HUP := Lib.hid (up13_any _ (Laid.below hg T0.below (Nat.le_refl _)))
  have HS : Hid (s.nodes.length ≤ 40 → s.loads.length ≤ 40 → s.pods.length ≤ 40 → x.wants.length ≤ 40 → WalkArgs s x A1 A2 A3 A5 s.nodes.length c1 s.loads.length c2 s.pods.length c3 x.wants.length c5 w) := fun l1 l2 l3 l5 =>
    ⟨hg, hs, hx, hi1, hi2, ⟨rfl, l1, h1b, h1c⟩, ⟨rfl, l2, h2b, h2c⟩, ⟨rfl, l3, h3b, h3c, z3⟩, ⟨rfl, l5, h5b, h5c⟩, hr1, hr2, hr3, hr5⟩
  have HZ := Lib.hid (And.intro z1 (And.intro z2 z5))
  have HR6 := Lib.hid hr6
  have HT0 := Lib.hid T0
  have hm6 : l.length ≤ maxLen := by omega
  clear hg hs hx hi1 hi2 h1b h1c z1 h2b h2c z2 h3b h3c z3 h5b h5c z5 h6b h6c hr1 hr2 hr3 hr5 hr6 T0
  go_enter Tryz.func3, Tryz.ntmps3
  go_wp2_with fail
  refine HUP.out.mono ?_
  rintro e w1 ⟨rfl, hb1⟩
  have T1 := HT0.out.keep hb1
  have HT1 := Lib.hid T1
  clear hb1 HT0 HUP
  obtain ⟨a0, a1, a2, a3⟩ := T1.one.cells3
  obtain ⟨b0, b1, b2, b3⟩ := T1.two.cells3
  clear T1
  go_wp2_with fail
  refine (few_any _ _ _ _ _ _ _ _ _ _).mono ?_
  rintro e w2 ⟨rfl, hb2⟩
  have T2' := HT1.out.keep hb2
  have HT2 := Lib.hid T2'
  clear hb2 HT1 a0 a1 a2 a3 b0 b1 b2 b3
  obtain ⟨a0, a1, a2, a3⟩ := T2'.one.cells3
  obtain ⟨b0, b1, b2, b3⟩ := T2'.two.cells3
  clear T2'
  by_cases hfw : s.nodes.length ≤ 40 ∧ s.loads.length ≤ 40 ∧ s.pods.length ≤ 40
  case neg =>
    have hfew : decide (s.nodes.length ≤ 40 ∧ s.loads.length ≤ 40 ∧ s.pods.length ≤ 40) = false := decide_eq_false hfw
    rw [hfew]
    clear hfew hfw
    go_wp2
    go_ret
    exact ⟨rfl, HT2.out.below⟩
  have hfew : decide (s.nodes.length ≤ 40 ∧ s.loads.length ≤ 40 ∧ s.pods.length ≤ 40) = true := decide_eq_true hfw
  rw [hfew]
  obtain ⟨hl1, hl2, hl3⟩ := hfw
  clear hfew
  by_cases q1 : (40 : Int) < (x.wants.length : Int)
  · have d1 : decide ((40 : Int) < (x.wants.length : Int)) = true := decide_eq_true q1
    clear q1
    go_wp2
    go_ret
    exact ⟨rfl, HT2.out.below⟩
  have e1 : decide ((40 : Int) < (x.wants.length : Int)) = false := decide_eq_false q1
  by_cases q2 : (60 : Int) < (l.length : Int)
  · have d2 : decide ((60 : Int) < (l.length : Int)) = true := decide_eq_true q2
    clear q1 q2
    go_wp2
    go_ret
    exact ⟨rfl, HT2.out.below⟩
  have e2 : decide ((60 : Int) < (l.length : Int)) = false := decide_eq_false q2
  have HA := Lib.hid (HS.out hl1 hl2 hl3 (by omega))
  have hl6 : l.length ≤ 60 := by omega
  have HNE := Lib.hid (keepNew_any s x A1 A2 A3 A5 _ c1 _ c2 _ c3 _ c5 w2 (HA.out.at HT2.out.below) HZ.out.1 HZ.out.2.1 HZ.out.2.2)
  have HFR : Hid (∀ V, Below w.heap.size w V → Calls Tryz.prog 8 #[.agg #[.slice A1 s.nodes.length c1, .slice A2 s.loads.length c2, .slice A3 s.pods.length c3], .agg #[.slice A5 x.wants.length c5, .int .i64 x.preempts, .int .i64 x.shifts]] V fun e w' => e = .returned (.tuple #[.int .i64 (fair s x).1, .int .i64 (fair s x).2]) ∧ Below V.heap.size V w') := fun V hV => by
    have k := HA.out.at hV
    exact rFair_any s x A1 A2 A3 A5 _ c1 _ c2 _ c3 _ c5 V.heap.size V rfl rfl rfl rfl k.s1.2.1 k.s2.2.1 k.s3.2.1 k.s5.2.1 (Nat.le_refl _) k.r1 k.r2 k.r3 k.r5
  clear q1 q2 hl1 hl2 hl3 HS
  go_wp2_with fail
  refine HNE.out.mono ?_
  rintro e w3 ⟨hb3, hnew⟩
  obtain ⟨kv, ev, rfl, hnx⟩ : ∃ kv ev, e = .returned (.tuple #[kv, ev]) ∧ (((fair s x).1 ≠ 0 ∧ kv = .pointer none ∧ ErrIs (fair s x) w2.heap.size w3 ev) ∨ ((fair s x).1 = 0 ∧ codeS s.nodes s.loads x (firstD s) ≠ 0 ∧ kv = .pointer none ∧ ev = codeV (codeS s.nodes s.loads x (firstD s))) ∨
      ((fair s x).1 = 0 ∧ codeS s.nodes s.loads x (firstD s) = 0 ∧ ev = .nilIface ∧ ∃ K : KAddr, kv = .pointer (some ⟨K.kb, 0, none⟩) ∧ Kp K s x (firstD s) [] 100 w3 ∧ (∀ i ∈ K.all, w2.heap.size ≤ i) ∧ FineK s x)) := by
    rcases hnew with ⟨h0, u, rfl, hu⟩ | ⟨h0, hc, rfl⟩ | ⟨h0, hc, K, rfl, h⟩
    · exact ⟨_, _, rfl, .inl ⟨h0, rfl, hu⟩⟩
    · exact ⟨_, _, rfl, .inr (.inl ⟨h0, hc, rfl, rfl⟩)⟩
    · exact ⟨_, _, rfl, .inr (.inr ⟨h0, hc, rfl, K, rfl, h⟩)⟩
  have HN := Lib.hid hnx
  have HT3 := Lib.hid (HT2.out.keep hb3)
  have HF3 := Lib.hid (HFR.out w3 HT3.out.below)
  have hsz2 : w.heap.size + 2 ≤ w2.heap.size := by have := HT2.out.two.lt; omega
  clear a0 a1 a2 a3 b0 b1 b2 b3 e1 e2 HNE hnew hnx hb3 HT2 HFR
  obtain ⟨a0, a1, a2, a3⟩ := HT3.out.one.cells3
  obtain ⟨b0, b1, b2, b3⟩ := HT3.out.two.cells3
  go_wp2_with fail
  refine HF3.out.mono ?_
  rintro e w4 ⟨rfl, hb4⟩
  have HT4 := Lib.hid (HT3.out.keep hb4)
  have HB4 := Lib.hid hb4
  clear a0 a1 a2 a3 b0 b1 b2 b3 HF3 HT3 hb4
  obtain ⟨a0, a1, a2, a3⟩ := HT4.out.one.cells3
  obtain ⟨b0, b1, b2, b3⟩ := HT4.out.two.cells3
  by_cases h0 : (fair s x).1 = 0
  case neg =>
    rcases HN.out with ⟨_, rfl, hu⟩ | ⟨h, _⟩ | ⟨h, _⟩
    case inr.inl => exact absurd h h0
    case inr.inr => exact absurd h h0
    have hd : ((fair s x).1 != 0) = true := by simp [h0]
    have HTO := Lib.hid (told_any (fair s x) _ ev w4 (HA.out.at HT4.out.below).g (hu.below HB4.out))
    clear h0 hu HN
    generalize (fair s x).1 = p1 at *
    generalize (fair s x).2 = p2 at *
    go_wp2_with fail
    refine HTO.out.mono ?_
    rintro e w5 ⟨rfl, hb5⟩
    have HT5 := Lib.hid (HT4.out.keep hb5)
    clear hb5 HTO HT4 a0 a1 a2 a3 b0 b1 b2 b3
    go_wp2
    go_ret
    exact ⟨rfl, HT5.out.below⟩
  have HFI := Lib.hid (rFirst05_new s.pods A3 s.pods.length c3 (.slice A1 s.nodes.length c1) (.slice A2 s.loads.length c2) w4 rfl (by have := HA.out.s3.2.1; omega) HA.out.s3.2.2.2.2 (HA.out.at HT4.out.below).r3)
  have HC := Lib.hid h0
  rw [h0]
  clear h0
  go_wp2_with fail
  refine HFI.out.mono ?_
  rintro e w5 ⟨A0, c0, rfl, ho5, hf5, hb5⟩
  have kb := below_new w5 (.cells #[.slice A0 s.pods.length c0, .int .i64 0, .int .i64 0] 42)
  have hbx : Bf (w5.alloc (.cells #[.slice A0 s.pods.length c0, .int .i64 0, .int .i64 0] 42)) w5.heap.size [.slice A0 s.pods.length c0, .int .i64 0, .int .i64 0] := Bf.new w5 [.slice A0 s.pods.length c0, .int .i64 0, .int .i64 0] 42 rfl
  have HT5 := Lib.hid ((HT4.out.keep hb5).keep kb)
  have HB5 := Lib.hid ((HB4.out.trans (hb5.mono HB4.out.size)).trans (kb.mono (HB4.out.trans (hb5.mono HB4.out.size)).size))
  have HO5 := Lib.hid (ho5.later kb)
  have HBX := Lib.hid hbx
  have HF5 : Hid (∀ e, A0 = some e → w3.heap.size ≤ e.block ∧ e.block < w5.heap.size) := Lib.hid (fun e he => by have h1 := hf5 e he; have h2 := HB4.out.size; omega)
  have HS5 : Hid (w3.heap.size ≤ w5.heap.size) := Lib.hid (Nat.le_trans HB4.out.size hb5.size)
  clear a0 a1 a2 a3 b0 b1 b2 b3 ho5 hf5 hb5 kb hbx HFI HT4 HB4
  go_upto_region 10 with fail
  generalize (w5.alloc (.cells #[.slice A0 s.pods.length c0, .int .i64 0, .int .i64 0] 42)) = W at *
  generalize w5.heap.size = g15 at *
  obtain ⟨a0, a1, a2, a3⟩ := HT5.out.one.cells3
  obtain ⟨b0, b1, b2, b3⟩ := HT5.out.two.cells3
  obtain ⟨d0, d1, d2, d3⟩ := HBX.out.cells3
  have HWH : Hid (Calls Tryz.prog 11 #[.agg #[.slice A1 s.nodes.length c1, .slice A2 s.loads.length c2, .slice A3 s.pods.length c3], .agg #[.slice A5 x.wants.length c5, .int .i64 x.preempts, .int .i64 x.shifts], .agg #[.slice A0 s.pods.length c0, .int .i64 0, .int .i64 0]] W fun e w' => ∃ z : Int, e = .returned (.tuple #[.int .i64 (codeS s.nodes s.loads x (firstD s)), .int .i64 z]) ∧ Below W.heap.size W w') := Lib.hid (by
    have k := HA.out.at HT5.out.below
    exact rWhy11_any s.nodes s.loads x (firstD s) A1 A2 A3 A0 A5 _ c1 _ c2 _ c3 _ c0 _ c5 W (k.safe HO5.out k.ok.2.2 rfl) k.s1.2.1)
  go_wp2_with fail
  refine HWH.out.mono ?_
  rintro e w6 ⟨z, rfl, hb6⟩
  have HT6 := Lib.hid (HT5.out.keep hb6)
  have HB6 := Lib.hid (HB5.out.trans (hb6.mono HB5.out.size))
  have HO6 := Lib.hid (HO5.out.later hb6)
  have HBX6 := Lib.hid (HBX.out.below hb6 HBX.out.lt)
  clear a0 a1 a2 a3 b0 b1 b2 b3 d0 d1 d2 d3 hb6 HWH HT5 HB5 HO5 HBX
  by_cases hc : codeS s.nodes s.loads x (firstD s) = 0
  case neg =>
    rcases HN.out with ⟨h, _⟩ | ⟨_, _, rfl, rfl⟩ | ⟨_, h, _⟩
    case inl => exact absurd HC.out h
    case inr.inr => exact absurd h hc
    have hd : ((codeS s.nodes s.loads x (firstD s)) != 0) = true := by simp [hc]
    have HV := codeS_vals s.nodes s.loads x (firstD s)
    have HCA := Lib.hid (fun V => code_any (codeS s.nodes s.loads x (firstD s)) (by omega) (by omega) V)
    rw [codeV_pos hc]
    clear hc HN HV
    generalize codeS s.nodes s.loads x (firstD s) = cz at *
    go_wp2_with fail
    refine (HCA.out _).mono ?_
    rintro e w7 ⟨rfl, rfl⟩
    go_wp2
    go_ret
    exact ⟨rfl, HT6.out.below⟩
  rw [hc]
  rcases HN.out with ⟨h, _⟩ | ⟨_, h, _⟩ | ⟨_, _, rfl, K, rfl, hk, hfar, hF⟩
  case inl => exact absurd HC.out h
  case inr.inl => exact absurd hc h
  have HF := Lib.hid hF
  have HAT : Hid (PlayRel s x l.length [.slice A1 s.nodes.length c1, .slice A2 s.loads.length c2, .slice A3 s.pods.length c3] [.slice A5 x.wants.length c5, .int .i64 x.preempts, .int .i64 x.shifts] K.kb g15 w (.slice none 0 0) (.int .i64 0) w6) := by
    have h15 : w.heap.size + 2 ≤ g15 := by have h1 := HS5.out; have h2 := hk.k.box.lt; have h3 := hfar K.kb (mem_all.2 (.inl rfl)); omega
    exact Lib.hid ⟨0, Nat.zero_le _, rfl, firstD s, [], K, A0, c0, none, 0, [], rfl, rfl, Nat.le_refl _, (hk.below HB6.out).same (by omega), aside_first hk (fun i hi => by have := hfar i hi; omega) HS5.out HF5.out, rfl, h15, ⟨HT6.out, HBX6.out, HO6.out, Out.nil rfl, fun d hd => by cases hd⟩⟩
  clear hk hfar hF HN hc HT6 HB6 HO6 HBX6 HF5 HS5 hsz2
  generalize K.kb = kb0 at *
  clear K
  go_wp2
  go_loopw [16, 17] (PlayRel s x l.length [.slice A1 s.nodes.length c1, .slice A2 s.loads.length c2, .slice A3 s.pods.length c3] [.slice A5 x.wants.length c5, .int .i64 x.preempts, .int .i64 x.shifts] kb0 g15 w) (fun _ v _ => l.length - (intOf v).toNat)
  case atStart => exact HAT.out
  case round =>
    obtain ⟨i, hi, rfl, t, ds, K, A, c, Ad, cd, tds, rfl, hmp, hdl, hk, has, hkb, h15, hpb⟩ := hrel
    subst hkb
    have HK := Lib.hid hk
    have HAS := Lib.hid has
    have HPB := Lib.hid hpb
    have HMP := Lib.hid hmp
    have HLT := Lib.hid hk.all_lt
    have hlen : tds.length = ds.length := by have h1 := congrArg List.length hmp; simpa using h1
    have HLE := Lib.hid hlen
    clear HAT hk has hpb hmp
    by_cases hlt : i < l.length
    · obtain ⟨b6, o6, rfl, hb6, he6⟩ := HR6.out.at hlt
      generalize l[i] = pm at *
      obtain ⟨bk, m⟩ := pm
      have HL6 : Hid (∀ V, Below w.heap.size w V → b6 < V.heap.size ∧ ∀ j u, (cellsPl ⟨bk, m⟩)[j]? = some u → V.cell? ⟨b6, o6 + i * 5 + j, none⟩ = some u) := Lib.hid (fun V hV => ⟨Nat.lt_of_lt_of_le hb6 hV.size, fun j u hu => (hV.cell (p := ⟨b6, o6 + i * 5 + j, none⟩) hb6).trans (he6 j u hu)⟩)
      have e0 := (HL6.out wr HPB.out.two.below).2 0 _ rfl
      have hb6r := (HL6.out wr HPB.out.two.below).1
      rw [Nat.add_zero] at e0
      clear hb6 he6 hlen
      go_upto_if 108 with fail
      go_cut [16, 18, 19, 20] from 98 to 213 (fun v16 v18 v19 v20 w' => PlaySt s x [.slice A1 s.nodes.length c1, .slice A2 s.loads.length c2, .slice A3 s.pods.length c3] [.slice A5 x.wants.length c5, .int .i64 x.preempts, .int .i64 x.shifts] K.kb g15 (i + 1) (100 + 24 * (i + 1)) w v16 w')
      case first =>
        cases bk with
        | true =>
          have HUN := Lib.hid (keepUndo_any wr HK.out HF.out (by unfold maxLen; omega))
          clear e0 hb6r
          go_wp2_with fail
          refine HUN.out.mono ?_
          rintro e w9 h
          rcases h with ⟨hds, rfl, hb9⟩ | ⟨ds', d, hds, rfl, hk9, ho9⟩
          · have ht0 : tds = [] := by have h1 := HLE.out; rw [hds] at h1; exact List.eq_nil_of_length_eq_zero h1
            subst hds
            subst ht0
            have HP9 : Hid (PlaySt s x [.slice A1 s.nodes.length c1, .slice A2 s.loads.length c2, .slice A3 s.pods.length c3] [.slice A5 x.wants.length c5, .int .i64 x.preempts, .int .i64 x.shifts] K.kb g15 (i + 1) (100 + 24 * (i + 1)) w (.slice Ad ([] : List TD).length cd) w9) := Lib.hid ⟨t, [], K, A, c, Ad, cd, [], rfl, rfl, Nat.zero_le _, (HK.out.below hb9).same (by omega), HAS.out, rfl, h15, HPB.out.keep hb9⟩
            clear hb9 HUN HK HAS HPB HLE HMP hdl
            go_wp2
            go_meet
            exact HP9.out
          · obtain ⟨tds', td, rfl, htd, hmp'⟩ := map_snoc (by have h1 := HMP.out; rw [hds] at h1; exact h1)
            subst hds
            have HK9 := Lib.hid hk9
            have HPB9 := Lib.hid (HPB.out.only HAS.out ho9)
            have HTD := Lib.hid htd
            have HMP' := Lib.hid hmp'
            have hle' : (tds' ++ [td]).length = tds'.length + 1 := by simp
            have hdl' : ds'.length + 1 ≤ i := by simpa using hdl
            obtain ⟨bd, od, had, hbd, hed⟩ := HPB9.out.row.2.2.2.at (show tds'.length < (tds' ++ [td]).length by simp)
            have hel : (tds' ++ [td])[tds'.length]'(by simp) = td := by simp
            rw [hel] at hed
            have f0 := hed 0 _ rfl
            have f1 := hed 1 _ rfl
            have f2 := hed 2 _ rfl
            rw [Nat.add_zero] at f0
            have hcd : tds'.length ≤ cd := by have h1 := HPB9.out.row.1; rw [hle'] at h1; omega
            have hcm : (cd : Int) ≤ 9223372036854775807 := by have h1 := HPB9.out.row.2.1; unfold maxLen at h1; omega
            have hds1 : tds'.length ≤ 1000 := by have h1 := congrArg List.length hmp'; simp at h1; omega
            obtain ⟨t0, t1, t2, t3⟩ := HPB9.out.box.cells3
            have z0 := HPB9.out.box.frozen 0
            have z1 := HPB9.out.box.frozen 1
            have z2 := HPB9.out.box.frozen 2
            rw [hle', had]
            have HAD := Lib.hid had
            clear hk9 ho9 htd hmp' hed hel had HUN HK HPB hdl HMP HLE hle'
            obtain ⟨nt, hnt⟩ : ∃ nt, tds'.length = nt := ⟨_, rfl⟩
            have HNT := Lib.hid hnt
            rw [hnt] at f0 f1 f2 hcd hds1 ⊢
            clear hnt
            have hw1 : IntKind.i64.wrap (((nt + 1 : Nat) : Int) - 1) = (nt : Int) := by rw [IntWalk.i64_in _ (by omega)]; omega
            have hgt : decide ((0 : Int) < ((nt + 1 : Nat) : Int)) = true := decide_eq_true (by omega)
            have hq1 : (nt : Int) < ((nt + 1 : Nat) : Int) := by omega
            have hq2 : (0 : Int) ≤ (nt : Int) := by omega
            have hq3 : (nt : Int) ≤ (cd : Int) := by omega
            go_wp2
            go_meet
            have ho : Only [g15] w9 (((w9.setCell ⟨g15, 0, none⟩ (.slice td.A td.t.pods.length td.c)).setCell ⟨g15, 1, none⟩ (.int .i64 td.t.preempts)).setCell ⟨g15, 2, none⟩ (.int .i64 td.t.shifts)) := (((Only.refl [g15] w9).setCell (p := ⟨g15, 0, none⟩) (List.mem_singleton.2 rfl) _).setCell (p := ⟨g15, 1, none⟩) (List.mem_singleton.2 rfl) _).setCell (p := ⟨g15, 2, none⟩) (List.mem_singleton.2 rfl) _
            have hfin := play_undo (i := i + 1) (N := 100 + 24 * (i + 1)) HAS.out HPB9.out (HK9.out.same (by omega)) HTD.out HMP'.out (by omega) rfl h15 ho (bf_set3 HPB9.out.box)
            rw [HNT.out, HAD.out] at hfin
            exact hfin
        | false =>
          have HDO : Hid (∀ V, Below wr.heap.size wr V → Calls Tryz.prog 14 #[.agg #[.slice A1 s.nodes.length c1, .slice A2 s.loads.length c2, .slice A3 s.pods.length c3], .agg #[.slice A5 x.wants.length c5, .int .i64 x.preempts, .int .i64 x.shifts], .agg #[.slice A t.pods.length c, .int .i64 t.preempts, .int .i64 t.shifts], .agg #[.int .i64 m.kind, .int .i64 m.pod, .int .i64 m.node, .int .i64 m.over]] V (RMakeTo (doD s.nodes s.loads x t m) V)) := Lib.hid (fun V hV => by
            have k := HA.out.at (HPB.out.two.below.trans (hV.mono HPB.out.two.below.size))
            have ho := HPB.out.out.later hV
            exact rDo11_any s.nodes s.loads x t m A1 A2 A3 A A5 _ c1 _ c2 _ c3 _ c _ c5 V ⟨k.g, k.ok.1, HK.out.fine.ok, rfl, by have := k.s1.2.1; omega, k.r1, rfl, by have := k.s2.2.1; omega, k.r2, rfl, by have := HK.out.fine.len; omega, ho.1, ho.2.2.2⟩ k.s1.2.1 rfl (by have := k.s5.2.1; omega) k.r5 k.wo)
          have HKD : Hid (∀ V, Below wr.heap.size wr V → Calls Tryz.prog 15 #[.pointer (some ⟨K.kb, 0, none⟩), .agg #[.int .i64 m.kind, .int .i64 m.pod, .int .i64 m.node, .int .i64 m.over]] V fun e w' => e = .returned (codeV (doD s.nodes s.loads x t m).2) ∧ Only K.all V w' ∧ (((doD s.nodes s.loads x t m).2 ≠ 0 ∧ Kp K s x t ds (100 + 24 * i + 16) w') ∨ ((doD s.nodes s.loads x t m).2 = 0 ∧ ∃ (K' : KAddr) (d : DeedD), d.t = t ∧ d.m = m ∧ Kp K' s x (doD s.nodes s.loads x t m).1 (ds ++ [d]) (100 + 24 * i + 16) w' ∧ K'.kb = K.kb ∧ (∀ i ∈ K'.all, i ∈ K.all ∨ V.heap.size ≤ i) ∧ ∀ i, KBlk K' (ds ++ [d]) i → KBlk K ds i ∨ V.heap.size ≤ i))) := Lib.hid (fun V hV => keepDo_any m V (HK.out.below hV) HF.out (by unfold maxLen; omega) (by omega))
          have HDV := Lib.hid (do_vals s.nodes s.loads x t m)
          have k25 : wr.drew.cell? ⟨w.heap.size, 0, none⟩ = some (.slice A1 s.nodes.length c1) ∧ wr.drew.cell? ⟨w.heap.size, 1, none⟩ = some (.slice A2 s.loads.length c2) ∧ wr.drew.cell? ⟨w.heap.size, 2, none⟩ = some (.slice A3 s.pods.length c3) ∧ wr.drew.cell? ⟨w.heap.size + 1, 0, none⟩ = some (.slice A5 x.wants.length c5) ∧ wr.drew.cell? ⟨w.heap.size + 1, 1, none⟩ = some (.int .i64 x.preempts) ∧ wr.drew.cell? ⟨w.heap.size + 1, 2, none⟩ = some (.int .i64 x.shifts) ∧ wr.drew.cell? ⟨g15, 0, none⟩ = some (.slice A t.pods.length c) ∧ wr.drew.cell? ⟨g15, 1, none⟩ = some (.int .i64 t.preempts) ∧ wr.drew.cell? ⟨g15, 2, none⟩ = some (.int .i64 t.shifts) ∧ wr.drew.cell? ⟨b6, o6 + i * 5 + 1, none⟩ = some (.int .i64 m.kind) ∧ wr.drew.cell? ⟨b6, o6 + i * 5 + 2, none⟩ = some (.int .i64 m.pod) ∧ wr.drew.cell? ⟨b6, o6 + i * 5 + 3, none⟩ = some (.int .i64 m.node) ∧ wr.drew.cell? ⟨b6, o6 + i * 5 + 4, none⟩ = some (.int .i64 m.over) := (by obtain ⟨a0, a1, a2, -⟩ := HPB.out.two.one.cells3; obtain ⟨d0, d1, d2, -⟩ := HPB.out.two.two.cells3; obtain ⟨t0, t1, t2, -⟩ := HPB.out.box.cells3; exact ⟨a0, a1, a2, d0, d1, d2, t0, t1, t2, (HL6.out wr HPB.out.two.below).2 1 _ rfl, (HL6.out wr HPB.out.two.below).2 2 _ rfl, (HL6.out wr HPB.out.two.below).2 3 _ rfl, (HL6.out wr HPB.out.two.below).2 4 _ rfl⟩)
          have l25 : wr.cell? ⟨w.heap.size, 0, none⟩ = some (.slice A1 s.nodes.length c1) ∧ wr.cell? ⟨w.heap.size, 1, none⟩ = some (.slice A2 s.loads.length c2) ∧ wr.cell? ⟨w.heap.size, 2, none⟩ = some (.slice A3 s.pods.length c3) ∧ wr.cell? ⟨w.heap.size + 1, 0, none⟩ = some (.slice A5 x.wants.length c5) ∧ wr.cell? ⟨w.heap.size + 1, 1, none⟩ = some (.int .i64 x.preempts) ∧ wr.cell? ⟨w.heap.size + 1, 2, none⟩ = some (.int .i64 x.shifts) ∧ wr.cell? ⟨g15, 0, none⟩ = some (.slice A t.pods.length c) ∧ wr.cell? ⟨g15, 1, none⟩ = some (.int .i64 t.preempts) ∧ wr.cell? ⟨g15, 2, none⟩ = some (.int .i64 t.shifts) ∧ wr.cell? ⟨b6, o6 + i * 5 + 1, none⟩ = some (.int .i64 m.kind) ∧ wr.cell? ⟨b6, o6 + i * 5 + 2, none⟩ = some (.int .i64 m.pod) ∧ wr.cell? ⟨b6, o6 + i * 5 + 3, none⟩ = some (.int .i64 m.node) ∧ wr.cell? ⟨b6, o6 + i * 5 + 4, none⟩ = some (.int .i64 m.over) := k25
          generalize doD s.nodes s.loads x t m = z at *
          have hgr : g15 < wr.heap.size := HPB.out.box.lt
          obtain ⟨hbw0, hbw1, hbw2⟩ : w.heap.size ≠ wr.heap.size ∧ w.heap.size + 1 ≠ wr.heap.size ∧ g15 ≠ wr.heap.size := by have h1 := HPB.out.two.two.lt; exact ⟨by omega, by omega, by omega⟩
          have hbw3 : b6 ≠ wr.heap.size := by omega
          clear e0 hb6r
          go_upto_region 25 with fail
          go_cut [18, 19] from 98 to 213 (fun v18 v19 wx => ∃ g18 A18 c18, v18 = .pointer (some ⟨g18, 0, none⟩) ∧ v19 = .int .i64 z.2 ∧ Bf wx g18 [.slice A18 z.1.pods.length c18, .int .i64 z.1.preempts, .int .i64 z.1.shifts] ∧ Out 8 cellsP wx z.1.pods A18 c18 ∧ (∀ e, A18 = some e → wr.heap.size ≤ e.block) ∧ wr.heap.size ≤ g18 ∧ Below wr.heap.size wr wx)
          case first =>
            have hbz : Bf (wr.alloc (.cells #[.slice none 0 0, .int .i64 0, .int .i64 0] 42)).drew wr.heap.size [.slice none 0 0, .int .i64 0, .int .i64 0] := (Bf.new wr [.slice none 0 0, .int .i64 0, .int .i64 0] 42 rfl).drew
            have hb0 : Below wr.heap.size wr (wr.alloc (.cells #[.slice none 0 0, .int .i64 0, .int .i64 0] 42)).drew := ((Below.refl _ wr).alloc (Nat.le_refl _) _).drew
            have HBZ := Lib.hid hbz
            have HB0Z := Lib.hid hb0
            clear hbz hb0
            go_region_held3 (fun w' => w'.cell? ⟨w.heap.size, 0, none⟩ = some (.slice A1 s.nodes.length c1) ∧ w'.cell? ⟨w.heap.size, 1, none⟩ = some (.slice A2 s.loads.length c2) ∧ w'.cell? ⟨w.heap.size, 2, none⟩ = some (.slice A3 s.pods.length c3) ∧ w'.cell? ⟨w.heap.size + 1, 0, none⟩ = some (.slice A5 x.wants.length c5) ∧ w'.cell? ⟨w.heap.size + 1, 1, none⟩ = some (.int .i64 x.preempts) ∧ w'.cell? ⟨w.heap.size + 1, 2, none⟩ = some (.int .i64 x.shifts) ∧ w'.cell? ⟨g15, 0, none⟩ = some (.slice A t.pods.length c) ∧ w'.cell? ⟨g15, 1, none⟩ = some (.int .i64 t.preempts) ∧ w'.cell? ⟨g15, 2, none⟩ = some (.int .i64 t.shifts) ∧ w'.cell? ⟨b6, o6 + i * 5 + 1, none⟩ = some (.int .i64 m.kind) ∧ w'.cell? ⟨b6, o6 + i * 5 + 2, none⟩ = some (.int .i64 m.pod) ∧ w'.cell? ⟨b6, o6 + i * 5 + 3, none⟩ = some (.int .i64 m.node) ∧ w'.cell? ⟨b6, o6 + i * 5 + 4, none⟩ = some (.int .i64 m.over))
              (first | with_reducible assumption | ((repeat' apply And.intro) <;> with_reducible assumption) | (simp only [cell_off3 hbw0, cell_off3 hbw1, cell_off3 hbw2, cell_off3 hbw3]; with_reducible assumption) | go_keep)
              (first
                | (go_at_call 14; have hbV : Below wr.heap.size wr (wr.alloc (.cells #[.slice none 0 0, .int .i64 0, .int .i64 0] 42)).drew := HB0Z.out; refine (HDO.out _ hbV).mono ?_; rintro e w6 ⟨_, rfl, A18, c18, rfl, ho6, hf6, hb6⟩; have HW6 := Lib.hid (hbV.trans (hb6.mono hbV.size)); clear hbV; have k26 : w6.cell? ⟨w.heap.size, 0, none⟩ = some (.slice A1 s.nodes.length c1) ∧ w6.cell? ⟨w.heap.size, 1, none⟩ = some (.slice A2 s.loads.length c2) ∧ w6.cell? ⟨w.heap.size, 2, none⟩ = some (.slice A3 s.pods.length c3) ∧ w6.cell? ⟨w.heap.size + 1, 0, none⟩ = some (.slice A5 x.wants.length c5) ∧ w6.cell? ⟨w.heap.size + 1, 1, none⟩ = some (.int .i64 x.preempts) ∧ w6.cell? ⟨w.heap.size + 1, 2, none⟩ = some (.int .i64 x.shifts) ∧ w6.cell? ⟨g15, 0, none⟩ = some (.slice A t.pods.length c) ∧ w6.cell? ⟨g15, 1, none⟩ = some (.int .i64 t.preempts) ∧ w6.cell? ⟨g15, 2, none⟩ = some (.int .i64 t.shifts) ∧ w6.cell? ⟨b6, o6 + i * 5 + 1, none⟩ = some (.int .i64 m.kind) ∧ w6.cell? ⟨b6, o6 + i * 5 + 2, none⟩ = some (.int .i64 m.pod) ∧ w6.cell? ⟨b6, o6 + i * 5 + 3, none⟩ = some (.int .i64 m.node) ∧ w6.cell? ⟨b6, o6 + i * 5 + 4, none⟩ = some (.int .i64 m.over) := (by obtain ⟨a0, a1, a2, -⟩ := (HPB.out.keep HW6.out).two.one.cells3; obtain ⟨d0, d1, d2, -⟩ := (HPB.out.keep HW6.out).two.two.cells3; obtain ⟨t0, t1, t2, -⟩ := (HPB.out.keep HW6.out).box.cells3; exact ⟨a0, a1, a2, d0, d1, d2, t0, t1, t2, (HL6.out w6 (HPB.out.keep HW6.out).two.below).2 1 _ rfl, (HL6.out w6 (HPB.out.keep HW6.out).two.below).2 2 _ rfl, (HL6.out w6 (HPB.out.keep HW6.out).two.below).2 3 _ rfl, (HL6.out w6 (HPB.out.keep HW6.out).two.below).2 4 _ rfl⟩); have HO6 := Lib.hid ho6; have HF6 := Lib.hid hf6; have HBX := Lib.hid (HBZ.out.below hb6 HBZ.out.lt); have y0 := HBX.out.cell 0 _ rfl; have y1 := HBX.out.cell 1 _ rfl; have y2 := HBX.out.cell 2 _ rfl; have z0 := HBX.out.frozen 0; have z1 := HBX.out.frozen 1; have z2 := HBX.out.frozen 2; have hlb := HBX.out.lt)
                | (go_at_call 14; have hbV : Below wr.heap.size wr wr.drew := (Below.refl _ wr).drew; refine (HDO.out _ hbV).mono ?_; rintro e w6 ⟨_, rfl, A18, c18, rfl, ho6, hf6, hb6⟩; have HW6 := Lib.hid (hbV.trans (hb6.mono hbV.size)); clear hbV; have k26 : w6.cell? ⟨w.heap.size, 0, none⟩ = some (.slice A1 s.nodes.length c1) ∧ w6.cell? ⟨w.heap.size, 1, none⟩ = some (.slice A2 s.loads.length c2) ∧ w6.cell? ⟨w.heap.size, 2, none⟩ = some (.slice A3 s.pods.length c3) ∧ w6.cell? ⟨w.heap.size + 1, 0, none⟩ = some (.slice A5 x.wants.length c5) ∧ w6.cell? ⟨w.heap.size + 1, 1, none⟩ = some (.int .i64 x.preempts) ∧ w6.cell? ⟨w.heap.size + 1, 2, none⟩ = some (.int .i64 x.shifts) ∧ w6.cell? ⟨g15, 0, none⟩ = some (.slice A t.pods.length c) ∧ w6.cell? ⟨g15, 1, none⟩ = some (.int .i64 t.preempts) ∧ w6.cell? ⟨g15, 2, none⟩ = some (.int .i64 t.shifts) ∧ w6.cell? ⟨b6, o6 + i * 5 + 1, none⟩ = some (.int .i64 m.kind) ∧ w6.cell? ⟨b6, o6 + i * 5 + 2, none⟩ = some (.int .i64 m.pod) ∧ w6.cell? ⟨b6, o6 + i * 5 + 3, none⟩ = some (.int .i64 m.node) ∧ w6.cell? ⟨b6, o6 + i * 5 + 4, none⟩ = some (.int .i64 m.over) := (by obtain ⟨a0, a1, a2, -⟩ := (HPB.out.keep HW6.out).two.one.cells3; obtain ⟨d0, d1, d2, -⟩ := (HPB.out.keep HW6.out).two.two.cells3; obtain ⟨t0, t1, t2, -⟩ := (HPB.out.keep HW6.out).box.cells3; exact ⟨a0, a1, a2, d0, d1, d2, t0, t1, t2, (HL6.out w6 (HPB.out.keep HW6.out).two.below).2 1 _ rfl, (HL6.out w6 (HPB.out.keep HW6.out).two.below).2 2 _ rfl, (HL6.out w6 (HPB.out.keep HW6.out).two.below).2 3 _ rfl, (HL6.out w6 (HPB.out.keep HW6.out).two.below).2 4 _ rfl⟩); have HO6 := Lib.hid ho6; have HF6 := Lib.hid hf6))
            all_goals
              go_wp2_with fail
              go_meet
            · exact ⟨w6.heap.size, A18, c18, rfl, rfl, Bf.new w6 [.slice A18 z.1.pods.length c18, .int .i64 z.1.preempts, .int .i64 z.1.shifts] 42 rfl, HO6.out.alloc _, HF6.out, HW6.out.size, HW6.out.alloc HW6.out.size _⟩
            · have hA : ∀ a, A18 = some a → a.block ≠ wr.heap.size := fun a ha => by have h1 := HF6.out a ha; simp at h1; omega
              exact ⟨wr.heap.size, A18, c18, rfl, rfl, bf_set3 HBX.out, ((HO6.out.set hA _).set hA _).set hA _, (fun a ha => by have h1 := HF6.out a ha; simp at h1; omega), Nat.le_refl _, ((HW6.out.setCell (p := ⟨wr.heap.size, 0, none⟩) (Nat.le_refl _) _).setCell (p := ⟨wr.heap.size, 1, none⟩) (Nat.le_refl _) _).setCell (p := ⟨wr.heap.size, 2, none⟩) (Nat.le_refl _) _⟩
          case rest =>
          obtain ⟨g18, A18, c18, rfl, rfl, hb18, ho18, hf18, hg18, hbW⟩ := hcut
          obtain ⟨u, cz⟩ := z
          dsimp only at HKD HDV hb18 ho18
          have HB18 := Lib.hid hb18
          have HO18 := Lib.hid ho18
          have HF18 := Lib.hid hf18
          have HBW := Lib.hid hbW
          have HPBc := Lib.hid (HPB.out.keep hbW)
          have he := (HL6.out wc HPBc.out.two.below).2
          have e1 := he 1 _ rfl
          have e2 := he 2 _ rfl
          have e3 := he 3 _ rfl
          have e4 := he 4 _ rfl
          have hb6c := (HL6.out wc HPBc.out.two.below).1
          clear hb18 ho18 hf18 hbW he k25 l25 HDO hbw0 hbw1 hbw2 hbw3
          go_wp2_with fail
          refine (HKD.out _ HBW.out).mono ?_
          rintro e w7 ⟨rfl, ho7, h7⟩
          have HO7 := Lib.hid ho7
          have hnot : ∀ j, wr.heap.size ≤ j → j ∉ K.all := fun j hj e => by have h1 := HLT.out j e; omega
          have HB187 := Lib.hid (HB18.out.only ho7 (hnot _ (by omega)))
          have hsz7 : wc.heap.size ≤ w7.heap.size := ho7.size
          clear ho7 hnot e1 e2 e3 e4 hb6c HKD HB18
          by_cases hc : cz = 0
          case neg =>
            rcases h7 with ⟨_, hk7⟩ | ⟨h, _⟩
            case inr => exact absurd h hc
            have HP9 : Hid (PlaySt s x [.slice A1 s.nodes.length c1, .slice A2 s.loads.length c2, .slice A3 s.pods.length c3] [.slice A5 x.wants.length c5, .int .i64 x.preempts, .int .i64 x.shifts] K.kb g15 (i + 1) (100 + 24 * (i + 1)) w (.slice Ad tds.length cd) w7) := Lib.hid ⟨t, ds, K, A, c, Ad, cd, tds, rfl, HMP.out, by omega, hk7.same (by omega), HAS.out, rfl, h15, HPBc.out.only HAS.out HO7.out⟩
            have HCA := Lib.hid (fun V => code_any cz (by have := HDV.out; omega) (by have := HDV.out; omega) V)
            have hd0 : (cz == 0) = false := by simp [hc]
            rw [codeV_pos hc]
            clear hk7 hc HDV HK HAS HPB HPBc HMP HLE HO7 HB187 HO18
            go_wp2_with fail
            refine (HCA.out _).mono ?_
            rintro e w8 ⟨rfl, rfl⟩
            go_wp2
            go_meet
            exact HP9.out
          rcases h7 with ⟨h, _⟩ | ⟨_, K', d, hdt, hdm, hk7, hkb', hall, hblk⟩
          · exact absurd hc h
          subst hc
          rw [codeV_zero]
          go_wp2_with fail
          refine (code_nil _).mono ?_
          rintro e w8 ⟨rfl, rfl⟩
          have HPB7 := Lib.hid (HPBc.out.only HAS.out HO7.out)
          have HX0 : Hid (Bf w7.drew g15 [.slice A t.pods.length c, .int .i64 t.preempts, .int .i64 t.shifts]) := Lib.hid HPB7.out.box.drew
          have HB0 : Hid (Below w7.heap.size w7 w7.drew) := Lib.hid (Below.refl _ w7).drew
          have HROW := Lib.hid HPB7.out.row
          have k30 : w7.drew.cell? ⟨g15, 0, none⟩ = some (.slice A t.pods.length c) ∧ w7.drew.cell? ⟨g15, 1, none⟩ = some (.int .i64 t.preempts) ∧ w7.drew.cell? ⟨g15, 2, none⟩ = some (.int .i64 t.shifts) := (by obtain ⟨t0, t1, t2, -⟩ := HX0.out.cells3; exact ⟨t0, t1, t2⟩)
          have hg7 : g15 < w7.heap.size := HPB7.out.box.lt
          have hts : tds.length ≤ 1000 := by have h1 := HLE.out; omega
          have HK7 := Lib.hid hk7
          have HAL := Lib.hid hall
          have HBK := Lib.hid hblk
          have HDT := Lib.hid hdt
          have HKB := Lib.hid hkb'
          clear hk7 hall hblk hdt hdm hkb' HDV HK
          go_upto_region 30 with fail
          go_cut [16] from 98 to 213 (fun v16 wx => ∃ g30 c30, v16 = .slice (some ⟨g30, 0, none⟩) (tds.length + 1) c30 ∧ wx.ownsRow w7.heap.size 42 3 (.slice (some ⟨g30, 0, none⟩) (tds.length + 1) c30) (tds.length + 1) ((tds ++ [TD.mk t A c]).flatMap cellsTD) ∧ Below w7.heap.size w7 wx)
          case first =>
            refine wp_region_held_drew (S := fun w' => w'.cell? ⟨g15, 0, none⟩ = some (.slice A t.pods.length c) ∧ w'.cell? ⟨g15, 1, none⟩ = some (.int .i64 t.preempts) ∧ w'.cell? ⟨g15, 2, none⟩ = some (.int .i64 t.shifts)) (by kernel_rfl) (by exact k30) (fun hHeld => ?_)
            refine wpAnyH_take (i := 1) (v := ?v1_1) rfl (by kernel_rfl) (by kernel_rfl) (by kernel_rfl) (fun _ _ _ h => h) (Or.inl ⟨by rfl, ?y1_1⟩) (by assumption) ?r1_1
            case y1_1 => (intro w hSw; (try dsimp only at hSw); go_simp; try with_reducible rfl)
            try simp only [Act.put, List.getElem_toArray, List.getElem_cons_succ, List.getElem_cons_zero, List.setIfInBounds_toArray, List.set_cons_zero, List.set_cons_succ]
            refine wpAnyH_take (i := 3) (v := ?v2_3) rfl (by kernel_rfl) (by kernel_rfl) (by kernel_rfl) (fun _ _ _ h => h) (Or.inl ⟨by rfl, ?y2_3⟩) (by assumption) ?r2_3
            case y2_3 => (intro w hSw; (try dsimp only at hSw); go_simp; try with_reducible rfl)
            try simp only [Act.put, List.getElem_toArray, List.getElem_cons_succ, List.getElem_cons_zero, List.setIfInBounds_toArray, List.set_cons_zero, List.set_cons_succ]
            refine wpAnyH_ready (rs := [0, 4]) (by kernel_rfl) (by simp) ?_
            refine AllReadyH.cons rfl (fun K' hK' => ?wayP1) (AllReadyH.cons rfl (fun K' hK' => ?wayQ1) AllReadyH.nil)
            case wayP1 =>
              have HO2 : Hid ((w7.drew.alloc (.cells #[] 42)).ownsRow w7.heap.size 42 3 (.slice (some ⟨w7.heap.size, 0, none⟩) 0 0) 0 []) := Lib.hid (own_emptyG (cells := cellsTD) 3 w7.drew w7.heap.size w7.heap.size 42 (by simp) HB0.out.size)
              have HB2 : Hid (Below w7.heap.size w7 (w7.drew.alloc (.cells #[] 42))) := Lib.hid (HB0.out.alloc HB0.out.size (.cells #[] 42))
              have HX2 : Hid (Bf (w7.drew.alloc (.cells #[] 42)) g15 [.slice A t.pods.length c, .int .i64 t.preempts, .int .i64 t.shifts]) := Lib.hid (HX0.out.alloc (.cells #[] 42))
              go_simp
              have k30_2 : (w7.drew.alloc (.cells #[] 42)).cell? ⟨g15, 0, none⟩ = some (.slice A t.pods.length c) ∧ (w7.drew.alloc (.cells #[] 42)).cell? ⟨g15, 1, none⟩ = some (.int .i64 t.preempts) ∧ (w7.drew.alloc (.cells #[] 42)).cell? ⟨g15, 2, none⟩ = some (.int .i64 t.shifts) := (by obtain ⟨t0, t1, t2, -⟩ := HX2.out.cells3; exact ⟨t0, t1, t2⟩)
              refine hK'.out _ _ (by exact k30_2) (fun hHeld2 => ?_)
              clear hK' K'
              try simp only [Act.put, List.getElem_toArray, List.getElem_cons_succ, List.getElem_cons_zero, List.setIfInBounds_toArray, List.set_cons_zero, List.set_cons_succ]
              refine wpAnyH_ready (rs := [2, 4]) (by kernel_rfl) (by simp) ?_
              refine AllReadyH.cons rfl (fun K' hK' => ?wayP3) (AllReadyH.cons rfl (fun K' hK' => ?wayQ3) AllReadyH.nil)
              case wayP3 =>
                refine step_copyT rfl (.tmp 154) (.tmp 155) rfl w7.heap.size (HROW.out.later HB2.out) (g0 := w7.heap.size) HO2.out rfl rfl HB2.out.size (by omega) ?_
                intro g20 c20 w20 hown20 hgr20
                have HR4 := Lib.hid hown20
                have HB4 : Hid (Below w7.heap.size w7 w20) := Lib.hid (HB2.out.grown hgr20 HB2.out.size (fun j hj => by injection hj with hj; omega))
                have HX4 : Hid (Bf w20 g15 [.slice A t.pods.length c, .int .i64 t.preempts, .int .i64 t.shifts]) := Lib.hid (HX2.out.only (Only.grownS (S := [w7.heap.size]) hgr20 (fun b e => by injection e with e; rw [← e]; exact List.mem_singleton.2 rfl)) (fun e => by have := List.mem_singleton.1 e; omega))
                have k30_4 : w20.cell? ⟨g15, 0, none⟩ = some (.slice A t.pods.length c) ∧ w20.cell? ⟨g15, 1, none⟩ = some (.int .i64 t.preempts) ∧ w20.cell? ⟨g15, 2, none⟩ = some (.int .i64 t.shifts) := (by obtain ⟨t0, t1, t2, -⟩ := HX4.out.cells3; exact ⟨t0, t1, t2⟩)
                refine hK'.out _ _ (by exact k30_4) (fun hHeld4 => ?_)
                clear hK' K'
                try simp only [Act.put, List.getElem_toArray, List.getElem_cons_succ, List.getElem_cons_zero, List.setIfInBounds_toArray, List.set_cons_zero, List.set_cons_succ]
                refine wpAnyH_ready (rs := [4]) (by kernel_rfl) (by simp) ?_
                refine AllReadyH.cons rfl (fun K' hK' => ?_) AllReadyH.nil
                have HL5 : Hid (∀ j u, [.slice A t.pods.length c, .int .i64 t.preempts, .int .i64 t.shifts][j]? = some u → (w20.alloc (.cells #[.slice A t.pods.length c, .int .i64 t.preempts, .int .i64 t.shifts] 42)).cell? ⟨w20.heap.size, j, none⟩ = some u) := Lib.hid (lit_cellsAt w20 [.slice A t.pods.length c, .int .i64 t.preempts, .int .i64 t.shifts] 42 (by simp))
                have HB5 : Hid (Below w7.heap.size w7 (w20.alloc (.cells #[.slice A t.pods.length c, .int .i64 t.preempts, .int .i64 t.shifts] 42))) := Lib.hid (HB4.out.alloc HB4.out.size (.cells #[.slice A t.pods.length c, .int .i64 t.preempts, .int .i64 t.shifts] 42))
                have HX5 : Hid (Bf (w20.alloc (.cells #[.slice A t.pods.length c, .int .i64 t.preempts, .int .i64 t.shifts] 42)) g15 [.slice A t.pods.length c, .int .i64 t.preempts, .int .i64 t.shifts]) := Lib.hid (HX4.out.alloc (.cells #[.slice A t.pods.length c, .int .i64 t.preempts, .int .i64 t.shifts] 42))
                have HR5 := Lib.hid (HR4.out.alloc (.cells #[.slice A t.pods.length c, .int .i64 t.preempts, .int .i64 t.shifts] 42))
                go_simp
                have k30_5 : (w20.alloc (.cells #[.slice A t.pods.length c, .int .i64 t.preempts, .int .i64 t.shifts] 42)).cell? ⟨g15, 0, none⟩ = some (.slice A t.pods.length c) ∧ (w20.alloc (.cells #[.slice A t.pods.length c, .int .i64 t.preempts, .int .i64 t.shifts] 42)).cell? ⟨g15, 1, none⟩ = some (.int .i64 t.preempts) ∧ (w20.alloc (.cells #[.slice A t.pods.length c, .int .i64 t.preempts, .int .i64 t.shifts] 42)).cell? ⟨g15, 2, none⟩ = some (.int .i64 t.shifts) := (by obtain ⟨t0, t1, t2, -⟩ := HX5.out.cells3; exact ⟨t0, t1, t2⟩)
                refine hK'.out _ _ (by exact k30_5) (fun hHeld5 => ?_)
                clear hK' K'
                try simp only [Act.put, List.getElem_toArray, List.getElem_cons_succ, List.getElem_cons_zero, List.setIfInBounds_toArray, List.set_cons_zero, List.set_cons_succ]
                refine wpAnyH_ready (rs := [5]) (by kernel_rfl) (by simp) ?_
                refine AllReadyH.cons rfl (fun K' hK' => ?_) AllReadyH.nil
                have hgl : w7.heap.size ≤ g20 := (hown20.lt g20 rfl).1
                refine step_moreT rfl (.tmp 156) (.tmp 158) rfl w7.heap.size HR5.out rfl (g0 := w20.heap.size) rfl [.slice A t.pods.length c, .int .i64 t.preempts, .int .i64 t.shifts] (oneTD (TD.mk t A c)) rfl HL5.out HB5.out.size (by omega) ?_
                intro g30 c30 w30 hown30 hgr30
                have HB6 : Hid (Below w7.heap.size w7 w30) := Lib.hid (HB5.out.grown hgr30 HB5.out.size (fun j hj => by injection hj with hj; omega))
                have HX6 : Hid (Bf w30 g15 [.slice A t.pods.length c, .int .i64 t.preempts, .int .i64 t.shifts]) := Lib.hid (HX5.out.only (Only.grownS (S := [g20]) hgr30 (fun b e => by injection e with e; rw [← e]; exact List.mem_singleton.2 rfl)) (fun e => by have := List.mem_singleton.1 e; omega))
                have k30_6 : w30.cell? ⟨g15, 0, none⟩ = some (.slice A t.pods.length c) ∧ w30.cell? ⟨g15, 1, none⟩ = some (.int .i64 t.preempts) ∧ w30.cell? ⟨g15, 2, none⟩ = some (.int .i64 t.shifts) := (by obtain ⟨t0, t1, t2, -⟩ := HX6.out.cells3; exact ⟨t0, t1, t2⟩)
                refine hK'.out _ _ (by exact k30_6) (fun hHeld6 => ?_)
                clear hK' K'
                try simp only [Act.put, List.getElem_toArray, List.getElem_cons_succ, List.getElem_cons_zero, List.setIfInBounds_toArray, List.set_cons_zero, List.set_cons_succ]
                refine wpAnyH_take (i := 6) (v := ?v3_6) rfl (by kernel_rfl) (by kernel_rfl) (by kernel_rfl) (fun _ _ _ h => h) (Or.inl ⟨by rfl, ?y3_6⟩) (by assumption) ?r3_6
                case y3_6 => (intro w hSw; (try dsimp only at hSw); go_simp; try with_reducible rfl)
                try simp only [Act.put, List.getElem_toArray, List.getElem_cons_succ, List.getElem_cons_zero, List.setIfInBounds_toArray, List.set_cons_zero, List.set_cons_succ]
                refine wpAnyH_done (by kernel_rfl) ?_ _
                go_wp2
                go_meet
                exact ⟨g30, c30, rfl, by rw [List.flatMap_append]; simpa [cellsTD] using hown30, HB6.out⟩
              case wayQ3 =>
                have HL7 : Hid (∀ j u, [.slice A t.pods.length c, .int .i64 t.preempts, .int .i64 t.shifts][j]? = some u → ((w7.drew.alloc (.cells #[] 42)).alloc (.cells #[.slice A t.pods.length c, .int .i64 t.preempts, .int .i64 t.shifts] 42)).cell? ⟨(w7.heap.size + 1), j, none⟩ = some u) := Lib.hid (lit_cellsAt (w7.drew.alloc (.cells #[] 42)) [.slice A t.pods.length c, .int .i64 t.preempts, .int .i64 t.shifts] 42 (by simp))
                have HB7 : Hid (Below w7.heap.size w7 ((w7.drew.alloc (.cells #[] 42)).alloc (.cells #[.slice A t.pods.length c, .int .i64 t.preempts, .int .i64 t.shifts] 42))) := Lib.hid (HB2.out.alloc HB2.out.size (.cells #[.slice A t.pods.length c, .int .i64 t.preempts, .int .i64 t.shifts] 42))
                have HX7 : Hid (Bf ((w7.drew.alloc (.cells #[] 42)).alloc (.cells #[.slice A t.pods.length c, .int .i64 t.preempts, .int .i64 t.shifts] 42)) g15 [.slice A t.pods.length c, .int .i64 t.preempts, .int .i64 t.shifts]) := Lib.hid (HX2.out.alloc (.cells #[.slice A t.pods.length c, .int .i64 t.preempts, .int .i64 t.shifts] 42))
                have HO7 := Lib.hid (HO2.out.alloc (.cells #[.slice A t.pods.length c, .int .i64 t.preempts, .int .i64 t.shifts] 42))
                go_simp
                have k30_7 : ((w7.drew.alloc (.cells #[] 42)).alloc (.cells #[.slice A t.pods.length c, .int .i64 t.preempts, .int .i64 t.shifts] 42)).cell? ⟨g15, 0, none⟩ = some (.slice A t.pods.length c) ∧ ((w7.drew.alloc (.cells #[] 42)).alloc (.cells #[.slice A t.pods.length c, .int .i64 t.preempts, .int .i64 t.shifts] 42)).cell? ⟨g15, 1, none⟩ = some (.int .i64 t.preempts) ∧ ((w7.drew.alloc (.cells #[] 42)).alloc (.cells #[.slice A t.pods.length c, .int .i64 t.preempts, .int .i64 t.shifts] 42)).cell? ⟨g15, 2, none⟩ = some (.int .i64 t.shifts) := (by obtain ⟨t0, t1, t2, -⟩ := HX7.out.cells3; exact ⟨t0, t1, t2⟩)
                refine hK'.out _ _ (by exact k30_7) (fun hHeld7 => ?_)
                clear hK' K'
                try simp only [Act.put, List.getElem_toArray, List.getElem_cons_succ, List.getElem_cons_zero, List.setIfInBounds_toArray, List.set_cons_zero, List.set_cons_succ]
                refine wpAnyH_ready (rs := [2]) (by kernel_rfl) (by simp) ?_
                refine AllReadyH.cons rfl (fun K' hK' => ?_) AllReadyH.nil
                refine step_copyT rfl (.tmp 154) (.tmp 155) rfl w7.heap.size (HROW.out.later HB7.out) (g0 := w7.heap.size) HO7.out rfl rfl HB7.out.size (by omega) ?_
                intro g20 c20 w20 hown20 hgr20
                have HR8 := Lib.hid hown20
                have HB8 : Hid (Below w7.heap.size w7 w20) := Lib.hid (HB7.out.grown hgr20 HB7.out.size (fun j hj => by injection hj with hj; omega))
                have HX8 : Hid (Bf w20 g15 [.slice A t.pods.length c, .int .i64 t.preempts, .int .i64 t.shifts]) := Lib.hid (HX7.out.only (Only.grownS (S := [w7.heap.size]) hgr20 (fun b e => by injection e with e; rw [← e]; exact List.mem_singleton.2 rfl)) (fun e => by have := List.mem_singleton.1 e; omega))
                have HL8 : Hid (∀ j u, [.slice A t.pods.length c, .int .i64 t.preempts, .int .i64 t.shifts][j]? = some u → w20.cell? ⟨(w7.heap.size + 1), j, none⟩ = some u) := Lib.hid (fun j u hu => (hgr20.cell_far ⟨(w7.heap.size + 1), j, none⟩ (by first | (simp; done) | (simp; omega) | omega) (by simp)).trans (HL7.out j u hu))
                have k30_8 : w20.cell? ⟨g15, 0, none⟩ = some (.slice A t.pods.length c) ∧ w20.cell? ⟨g15, 1, none⟩ = some (.int .i64 t.preempts) ∧ w20.cell? ⟨g15, 2, none⟩ = some (.int .i64 t.shifts) := (by obtain ⟨t0, t1, t2, -⟩ := HX8.out.cells3; exact ⟨t0, t1, t2⟩)
                refine hK'.out _ _ (by exact k30_8) (fun hHeld8 => ?_)
                clear hK' K'
                try simp only [Act.put, List.getElem_toArray, List.getElem_cons_succ, List.getElem_cons_zero, List.setIfInBounds_toArray, List.set_cons_zero, List.set_cons_succ]
                refine wpAnyH_ready (rs := [5]) (by kernel_rfl) (by simp) ?_
                refine AllReadyH.cons rfl (fun K' hK' => ?_) AllReadyH.nil
                have hgl : w7.heap.size ≤ g20 := (hown20.lt g20 rfl).1
                refine step_moreT rfl (.tmp 156) (.tmp 158) rfl w7.heap.size HR8.out rfl (g0 := (w7.heap.size + 1)) rfl [.slice A t.pods.length c, .int .i64 t.preempts, .int .i64 t.shifts] (oneTD (TD.mk t A c)) rfl HL8.out HB8.out.size (by omega) ?_
                intro g30 c30 w30 hown30 hgr30
                have HB9 : Hid (Below w7.heap.size w7 w30) := Lib.hid (HB8.out.grown hgr30 HB8.out.size (fun j hj => by injection hj with hj; omega))
                have HX9 : Hid (Bf w30 g15 [.slice A t.pods.length c, .int .i64 t.preempts, .int .i64 t.shifts]) := Lib.hid (HX8.out.only (Only.grownS (S := [g20]) hgr30 (fun b e => by injection e with e; rw [← e]; exact List.mem_singleton.2 rfl)) (fun e => by have := List.mem_singleton.1 e; omega))
                have k30_9 : w30.cell? ⟨g15, 0, none⟩ = some (.slice A t.pods.length c) ∧ w30.cell? ⟨g15, 1, none⟩ = some (.int .i64 t.preempts) ∧ w30.cell? ⟨g15, 2, none⟩ = some (.int .i64 t.shifts) := (by obtain ⟨t0, t1, t2, -⟩ := HX9.out.cells3; exact ⟨t0, t1, t2⟩)
                refine hK'.out _ _ (by exact k30_9) (fun hHeld9 => ?_)
                clear hK' K'
                try simp only [Act.put, List.getElem_toArray, List.getElem_cons_succ, List.getElem_cons_zero, List.setIfInBounds_toArray, List.set_cons_zero, List.set_cons_succ]
                refine wpAnyH_take (i := 6) (v := ?v4_6) rfl (by kernel_rfl) (by kernel_rfl) (by kernel_rfl) (fun _ _ _ h => h) (Or.inl ⟨by rfl, ?y4_6⟩) (by assumption) ?r4_6
                case y4_6 => (intro w hSw; (try dsimp only at hSw); go_simp; try with_reducible rfl)
                try simp only [Act.put, List.getElem_toArray, List.getElem_cons_succ, List.getElem_cons_zero, List.setIfInBounds_toArray, List.set_cons_zero, List.set_cons_succ]
                refine wpAnyH_done (by kernel_rfl) ?_ _
                go_wp2
                go_meet
                exact ⟨g30, c30, rfl, by rw [List.flatMap_append]; simpa [cellsTD] using hown30, HB9.out⟩
            case wayQ1 =>
              have HL10 : Hid (∀ j u, [.slice A t.pods.length c, .int .i64 t.preempts, .int .i64 t.shifts][j]? = some u → (w7.drew.alloc (.cells #[.slice A t.pods.length c, .int .i64 t.preempts, .int .i64 t.shifts] 42)).cell? ⟨w7.heap.size, j, none⟩ = some u) := Lib.hid (lit_cellsAt w7.drew [.slice A t.pods.length c, .int .i64 t.preempts, .int .i64 t.shifts] 42 (by simp))
              have HB10 : Hid (Below w7.heap.size w7 (w7.drew.alloc (.cells #[.slice A t.pods.length c, .int .i64 t.preempts, .int .i64 t.shifts] 42))) := Lib.hid (HB0.out.alloc HB0.out.size (.cells #[.slice A t.pods.length c, .int .i64 t.preempts, .int .i64 t.shifts] 42))
              have HX10 : Hid (Bf (w7.drew.alloc (.cells #[.slice A t.pods.length c, .int .i64 t.preempts, .int .i64 t.shifts] 42)) g15 [.slice A t.pods.length c, .int .i64 t.preempts, .int .i64 t.shifts]) := Lib.hid (HX0.out.alloc (.cells #[.slice A t.pods.length c, .int .i64 t.preempts, .int .i64 t.shifts] 42))
              go_simp
              have k30_10 : (w7.drew.alloc (.cells #[.slice A t.pods.length c, .int .i64 t.preempts, .int .i64 t.shifts] 42)).cell? ⟨g15, 0, none⟩ = some (.slice A t.pods.length c) ∧ (w7.drew.alloc (.cells #[.slice A t.pods.length c, .int .i64 t.preempts, .int .i64 t.shifts] 42)).cell? ⟨g15, 1, none⟩ = some (.int .i64 t.preempts) ∧ (w7.drew.alloc (.cells #[.slice A t.pods.length c, .int .i64 t.preempts, .int .i64 t.shifts] 42)).cell? ⟨g15, 2, none⟩ = some (.int .i64 t.shifts) := (by obtain ⟨t0, t1, t2, -⟩ := HX10.out.cells3; exact ⟨t0, t1, t2⟩)
              refine hK'.out _ _ (by exact k30_10) (fun hHeld10 => ?_)
              clear hK' K'
              try simp only [Act.put, List.getElem_toArray, List.getElem_cons_succ, List.getElem_cons_zero, List.setIfInBounds_toArray, List.set_cons_zero, List.set_cons_succ]
              refine wpAnyH_ready (rs := [0]) (by kernel_rfl) (by simp) ?_
              refine AllReadyH.cons rfl (fun K' hK' => ?_) AllReadyH.nil
              have HO11 : Hid (((w7.drew.alloc (.cells #[.slice A t.pods.length c, .int .i64 t.preempts, .int .i64 t.shifts] 42)).alloc (.cells #[] 42)).ownsRow w7.heap.size 42 3 (.slice (some ⟨(w7.heap.size + 1), 0, none⟩) 0 0) 0 []) := Lib.hid (own_emptyG (cells := cellsTD) 3 (w7.drew.alloc (.cells #[.slice A t.pods.length c, .int .i64 t.preempts, .int .i64 t.shifts] 42)) w7.heap.size (w7.heap.size + 1) 42 (by simp) HB10.out.size)
              have HB11 : Hid (Below w7.heap.size w7 ((w7.drew.alloc (.cells #[.slice A t.pods.length c, .int .i64 t.preempts, .int .i64 t.shifts] 42)).alloc (.cells #[] 42))) := Lib.hid (HB10.out.alloc HB10.out.size (.cells #[] 42))
              have HX11 : Hid (Bf ((w7.drew.alloc (.cells #[.slice A t.pods.length c, .int .i64 t.preempts, .int .i64 t.shifts] 42)).alloc (.cells #[] 42)) g15 [.slice A t.pods.length c, .int .i64 t.preempts, .int .i64 t.shifts]) := Lib.hid (HX10.out.alloc (.cells #[] 42))
              have HL11 : Hid (∀ j u, [.slice A t.pods.length c, .int .i64 t.preempts, .int .i64 t.shifts][j]? = some u → ((w7.drew.alloc (.cells #[.slice A t.pods.length c, .int .i64 t.preempts, .int .i64 t.shifts] 42)).alloc (.cells #[] 42)).cell? ⟨w7.heap.size, j, none⟩ = some u) := Lib.hid (fun j u hu => (((Below.refl _ _).alloc (Nat.le_refl _) (.cells #[] 42)).cell (p := ⟨w7.heap.size, j, none⟩) (by first | (simp; done) | (simp; omega) | omega)).trans (HL10.out j u hu))
              go_simp
              have k30_11 : ((w7.drew.alloc (.cells #[.slice A t.pods.length c, .int .i64 t.preempts, .int .i64 t.shifts] 42)).alloc (.cells #[] 42)).cell? ⟨g15, 0, none⟩ = some (.slice A t.pods.length c) ∧ ((w7.drew.alloc (.cells #[.slice A t.pods.length c, .int .i64 t.preempts, .int .i64 t.shifts] 42)).alloc (.cells #[] 42)).cell? ⟨g15, 1, none⟩ = some (.int .i64 t.preempts) ∧ ((w7.drew.alloc (.cells #[.slice A t.pods.length c, .int .i64 t.preempts, .int .i64 t.shifts] 42)).alloc (.cells #[] 42)).cell? ⟨g15, 2, none⟩ = some (.int .i64 t.shifts) := (by obtain ⟨t0, t1, t2, -⟩ := HX11.out.cells3; exact ⟨t0, t1, t2⟩)
              refine hK'.out _ _ (by exact k30_11) (fun hHeld11 => ?_)
              clear hK' K'
              try simp only [Act.put, List.getElem_toArray, List.getElem_cons_succ, List.getElem_cons_zero, List.setIfInBounds_toArray, List.set_cons_zero, List.set_cons_succ]
              refine wpAnyH_ready (rs := [2]) (by kernel_rfl) (by simp) ?_
              refine AllReadyH.cons rfl (fun K' hK' => ?_) AllReadyH.nil
              refine step_copyT rfl (.tmp 154) (.tmp 155) rfl w7.heap.size (HROW.out.later HB11.out) (g0 := (w7.heap.size + 1)) HO11.out rfl rfl HB11.out.size (by omega) ?_
              intro g20 c20 w20 hown20 hgr20
              have HR12 := Lib.hid hown20
              have HB12 : Hid (Below w7.heap.size w7 w20) := Lib.hid (HB11.out.grown hgr20 HB11.out.size (fun j hj => by injection hj with hj; omega))
              have HX12 : Hid (Bf w20 g15 [.slice A t.pods.length c, .int .i64 t.preempts, .int .i64 t.shifts]) := Lib.hid (HX11.out.only (Only.grownS (S := [(w7.heap.size + 1)]) hgr20 (fun b e => by injection e with e; rw [← e]; exact List.mem_singleton.2 rfl)) (fun e => by have := List.mem_singleton.1 e; omega))
              have HL12 : Hid (∀ j u, [.slice A t.pods.length c, .int .i64 t.preempts, .int .i64 t.shifts][j]? = some u → w20.cell? ⟨w7.heap.size, j, none⟩ = some u) := Lib.hid (fun j u hu => (hgr20.cell_far ⟨w7.heap.size, j, none⟩ (by first | (simp; done) | (simp; omega) | omega) (by simp)).trans (HL11.out j u hu))
              have k30_12 : w20.cell? ⟨g15, 0, none⟩ = some (.slice A t.pods.length c) ∧ w20.cell? ⟨g15, 1, none⟩ = some (.int .i64 t.preempts) ∧ w20.cell? ⟨g15, 2, none⟩ = some (.int .i64 t.shifts) := (by obtain ⟨t0, t1, t2, -⟩ := HX12.out.cells3; exact ⟨t0, t1, t2⟩)
              refine hK'.out _ _ (by exact k30_12) (fun hHeld12 => ?_)
              clear hK' K'
              try simp only [Act.put, List.getElem_toArray, List.getElem_cons_succ, List.getElem_cons_zero, List.setIfInBounds_toArray, List.set_cons_zero, List.set_cons_succ]
              refine wpAnyH_ready (rs := [5]) (by kernel_rfl) (by simp) ?_
              refine AllReadyH.cons rfl (fun K' hK' => ?_) AllReadyH.nil
              have hgl : w7.heap.size ≤ g20 := (hown20.lt g20 rfl).1
              refine step_moreT rfl (.tmp 156) (.tmp 158) rfl w7.heap.size HR12.out rfl (g0 := w7.heap.size) rfl [.slice A t.pods.length c, .int .i64 t.preempts, .int .i64 t.shifts] (oneTD (TD.mk t A c)) rfl HL12.out HB12.out.size (by omega) ?_
              intro g30 c30 w30 hown30 hgr30
              have HB13 : Hid (Below w7.heap.size w7 w30) := Lib.hid (HB12.out.grown hgr30 HB12.out.size (fun j hj => by injection hj with hj; omega))
              have HX13 : Hid (Bf w30 g15 [.slice A t.pods.length c, .int .i64 t.preempts, .int .i64 t.shifts]) := Lib.hid (HX12.out.only (Only.grownS (S := [g20]) hgr30 (fun b e => by injection e with e; rw [← e]; exact List.mem_singleton.2 rfl)) (fun e => by have := List.mem_singleton.1 e; omega))
              have k30_13 : w30.cell? ⟨g15, 0, none⟩ = some (.slice A t.pods.length c) ∧ w30.cell? ⟨g15, 1, none⟩ = some (.int .i64 t.preempts) ∧ w30.cell? ⟨g15, 2, none⟩ = some (.int .i64 t.shifts) := (by obtain ⟨t0, t1, t2, -⟩ := HX13.out.cells3; exact ⟨t0, t1, t2⟩)
              refine hK'.out _ _ (by exact k30_13) (fun hHeld13 => ?_)
              clear hK' K'
              try simp only [Act.put, List.getElem_toArray, List.getElem_cons_succ, List.getElem_cons_zero, List.setIfInBounds_toArray, List.set_cons_zero, List.set_cons_succ]
              refine wpAnyH_take (i := 6) (v := ?v5_6) rfl (by kernel_rfl) (by kernel_rfl) (by kernel_rfl) (fun _ _ _ h => h) (Or.inl ⟨by rfl, ?y5_6⟩) (by assumption) ?r5_6
              case y5_6 => (intro w hSw; (try dsimp only at hSw); go_simp; try with_reducible rfl)
              try simp only [Act.put, List.getElem_toArray, List.getElem_cons_succ, List.getElem_cons_zero, List.setIfInBounds_toArray, List.set_cons_zero, List.set_cons_succ]
              refine wpAnyH_done (by kernel_rfl) ?_ _
              go_wp2
              go_meet
              exact ⟨g30, c30, rfl, by rw [List.flatMap_append]; simpa [cellsTD] using hown30, HB13.out⟩
          case rest =>
          obtain ⟨g30, c30, rfl, hown30, hb30⟩ := hcut
          have HB30 := Lib.hid hb30
          have HOW := Lib.hid hown30
          have HB18c := Lib.hid (HB187.out.below hb30 HB187.out.lt)
          have HBXc := Lib.hid (HPB7.out.box.below hb30 HPB7.out.box.lt)
          obtain ⟨t0, t1, t2, t3⟩ := HBXc.out.cells3
          have z0 := HBXc.out.frozen 0
          have z1 := HBXc.out.frozen 1
          have z2 := HBXc.out.frozen 2
          obtain ⟨f0, f1, f2, f3⟩ := HB18c.out.cells3
          clear hb30 hown30 k30 HX0 HB0 HROW
          go_wp2
          go_meet
          have ho : Only [g15] wc (((wc.setCell ⟨g15, 0, none⟩ (.slice A18 u.pods.length c18)).setCell ⟨g15, 1, none⟩ (.int .i64 u.preempts)).setCell ⟨g15, 2, none⟩ (.int .i64 u.shifts)) := (((Only.refl [g15] wc).setCell (p := ⟨g15, 0, none⟩) (List.mem_singleton.2 rfl) _).setCell (p := ⟨g15, 1, none⟩) (List.mem_singleton.2 rfl) _).setCell (p := ⟨g15, 2, none⟩) (List.mem_singleton.2 rfl) _
          exact play_do (i := i + 1) (N := 100 + 24 * (i + 1)) HAS.out HPBc.out HDT.out HMP.out (by omega) HKB.out h15 hgr HLT.out HBW.out.size HO18.out HF18.out HO7.out (HK7.out.same (by omega)) HAL.out HBK.out HB30.out HOW.out ho (bf_set3 HBXc.out)
      case rest =>
      have HPS := Lib.hid hcut
      obtain ⟨t, ds, K2, A, c, Ad, cd, tds, rfl, hmp, hdl, hk, has, hkb, -, hpb⟩ := hcut
      have hlen : tds.length = ds.length := by have h1 := congrArg List.length hmp; simpa using h1
      have HK := Lib.hid hk
      have HPB := Lib.hid hpb
      have HBR : Hid (Below wc.heap.size wc wc.drew) := Lib.hid (Below.refl _ wc).drew
      have HDN : Hid (∀ V, Below wc.heap.size wc V → Calls Tryz.prog 16 #[.pointer (some ⟨K.kb, 0, none⟩)] V fun e w' => e = .returned (.int .i64 tds.length) ∧ Below V.heap.size V w') := Lib.hid (fun V hV => by
        have h1 := keepDone_any V (HK.out.below hV)
        rw [hkb, ← hlen] at h1
        exact h1)
      have HST : Hid (∀ V, Below wc.heap.size wc V → Calls Tryz.prog 18 #[.pointer (some ⟨K.kb, 0, none⟩)] V fun e w' => ∃ v, e = .returned v ∧ StateTo t V v w') := Lib.hid (fun V hV => by
        have h1 := keepState_any V (HK.out.below hV)
        rw [hkb] at h1
        exact h1)
      have HSM : Hid (∀ V A' c', Below wc.heap.size wc V → Recs 8 cellsP V V.heap.size A' t.pods → Calls Tryz.prog 17 #[stateV A' t.pods.length c' t.preempts t.shifts, .agg #[.slice A t.pods.length c, .int .i64 t.preempts, .int .i64 t.shifts]] V fun e w' => e = .returned (.bool true) ∧ Below V.heap.size V w') := Lib.hid (fun V A' c' hV hr => by
        have h1 := rSame05_any t t A' A _ c' _ c V rfl (by have := HK.out.fine.len; omega) rfl (by have := HK.out.fine.len; omega) hr (HPB.out.out.later hV).2.2.2
        rw [stateEq_self] at h1
        exact h1)
      have HRS : Hid (∀ n ∈ s.nodes, ∀ V, Below wc.heap.size wc V → Calls Tryz.prog 19 #[.pointer (some ⟨K.kb, 0, none⟩), .int .i64 n.id] V fun e w' => e = .returned (.tuple #[aggV (restD s.nodes t.pods n.id).1, .bool true]) ∧ Below V.heap.size V w') := Lib.hid (fun n hn V hV => by
        have h1 := keepRest_any n.id V (HK.out.below hV) HF.out
        have h2 : (restD s.nodes t.pods n.id).2 = 0 := by rw [rest_K HF.out.n (HK.out.room HF.out) hn]
        rw [hkb, decide_eq_true h2] at h1
        exact h1)
      have HRF : Hid (∀ n ∈ s.nodes, ∀ V, Below wc.heap.size wc V → Calls Tryz.prog 20 #[.agg #[.slice A1 s.nodes.length c1, .slice A2 s.loads.length c2, .slice A3 s.pods.length c3], .agg #[.slice A t.pods.length c, .int .i64 t.preempts, .int .i64 t.shifts], .int .i64 n.id] V fun e w' => e = .returned (.tuple #[aggV (restD s.nodes t.pods n.id).1, .int .i64 0]) ∧ Below V.heap.size V w') := Lib.hid (fun n hn V hV => by
        have k := HA.out.at (HPB.out.two.below.trans (hV.mono HPB.out.two.below.size))
        have h1 := refRest_any s.nodes t.pods n.id k.ok.1 HK.out.fine.ok A1 A _ c1 _ c (.slice A2 s.loads.length c2) (.slice A3 s.pods.length c3) (.int .i64 t.preempts) (.int .i64 t.shifts) V rfl (by have := k.s1.2.1; omega) k.r1 rfl (by have := HK.out.fine.len; omega) (HPB.out.out.later hV).2.2.2
        have h2 : (restD s.nodes t.pods n.id).2 = 0 := by rw [rest_K HF.out.n (HK.out.room HF.out) hn]
        rw [h2] at h1
        exact h1)
      have k32 : wc.drew.cell? ⟨g15, 0, none⟩ = some (.slice A t.pods.length c) ∧ wc.drew.cell? ⟨g15, 1, none⟩ = some (.int .i64 t.preempts) ∧ wc.drew.cell? ⟨g15, 2, none⟩ = some (.int .i64 t.shifts) := (by obtain ⟨t0, t1, t2, -⟩ := HPB.out.box.cells3; exact ⟨t0, t1, t2⟩)
      have hnn : ((tds.length : Int) != (tds.length : Int)) = false := by simp
      clear hmp hdl hk has hkb hpb hlen HK
      go_upto_region 32 with fail
      go_region_held3 (fun w' => w'.cell? ⟨g15, 0, none⟩ = some (.slice A t.pods.length c) ∧ w'.cell? ⟨g15, 1, none⟩ = some (.int .i64 t.preempts) ∧ w'.cell? ⟨g15, 2, none⟩ = some (.int .i64 t.shifts))
        (first | with_reducible assumption | ((repeat' apply And.intro) <;> with_reducible assumption) | go_keep)
        (first
          | (go_at_call 16; refine (HDN.out _ HBR.out).mono ?_; rintro e w12 ⟨rfl, hb⟩; have HBR := Lib.hid (HBR.out.trans (hb.mono HBR.out.size)); have k33 : w12.cell? ⟨g15, 0, none⟩ = some (.slice A t.pods.length c) ∧ w12.cell? ⟨g15, 1, none⟩ = some (.int .i64 t.preempts) ∧ w12.cell? ⟨g15, 2, none⟩ = some (.int .i64 t.shifts) := (by obtain ⟨t0, t1, t2, -⟩ := (HPB.out.keep HBR.out).box.cells3; exact ⟨t0, t1, t2⟩); clear hb)
          | (go_at_call 18; refine (HST.out _ HBR.out).mono ?_; rintro e w13 ⟨_, rfl, A', c', rfl, ho9, hf9, hb⟩; have HR9 := Lib.hid ho9.2.2.2; have HBR := Lib.hid (HBR.out.trans (hb.mono HBR.out.size)); have k34 : w13.cell? ⟨g15, 0, none⟩ = some (.slice A t.pods.length c) ∧ w13.cell? ⟨g15, 1, none⟩ = some (.int .i64 t.preempts) ∧ w13.cell? ⟨g15, 2, none⟩ = some (.int .i64 t.shifts) := (by obtain ⟨t0, t1, t2, -⟩ := (HPB.out.keep HBR.out).box.cells3; exact ⟨t0, t1, t2⟩); clear ho9 hf9 hb)
          | (go_at_call 17; refine (HSM.out _ _ _ HBR.out HR9.out).mono ?_; rintro e w14 ⟨rfl, hb⟩; have HBR := Lib.hid (HBR.out.trans (hb.mono HBR.out.size)); have k35 : w14.cell? ⟨g15, 0, none⟩ = some (.slice A t.pods.length c) ∧ w14.cell? ⟨g15, 1, none⟩ = some (.int .i64 t.preempts) ∧ w14.cell? ⟨g15, 2, none⟩ = some (.int .i64 t.shifts) := (by obtain ⟨t0, t1, t2, -⟩ := (HPB.out.keep HBR.out).box.cells3; exact ⟨t0, t1, t2⟩); clear hb))
      have HAT : Hid (InRel s.nodes.length wc (.int .i64 0) w14) := Lib.hid ⟨0, Nat.zero_le _, rfl, HBR.out⟩
      clear k32 k33 k34 k35 HBR HR9 HDN HST HSM
      have hn40 : s.nodes.length ≤ 40 := HA.out.s1.2.1
      go_wp2
      go_loopw [21] (InRel s.nodes.length wc) (fun v _ => s.nodes.length - (intOf v).toNat)
      case atStart => exact HAT.out
      case round =>
        obtain ⟨j, hj, rfl, hbj⟩ := hrel
        have HBJ := Lib.hid hbj
        clear HAT hbj
        obtain ⟨a0, a1, a2, a3⟩ := (HPB.out.keep HBJ.out).two.one.cells3
        by_cases hlt2 : j < s.nodes.length
        · have HME := Lib.hid (List.getElem_mem hlt2)
          obtain ⟨b1, o1, hA1, hb1, he1⟩ := (HA.out).r1.at hlt2
          generalize s.nodes[j] = n at *
          have HN1 : Hid (∀ V, Below wc.heap.size wc V → b1 < V.heap.size ∧ V.cell? ⟨b1, o1 + j * 10, none⟩ = some (.int .i64 n.id)) := Lib.hid (fun V hV => by
            have hV2 := HPB.out.two.below.trans (hV.mono HPB.out.two.below.size)
            have h1 := he1 0 _ rfl
            rw [Nat.add_zero] at h1
            exact ⟨Nat.lt_of_lt_of_le hb1 hV2.size, (hV2.cell (p := ⟨b1, o1 + j * 10, none⟩) hb1).trans h1⟩)
          have n0 := (HN1.out _ HBJ.out).2
          have hb1r := (HN1.out _ HBJ.out).1
          have HR1 := Lib.hid (HRS.out n HME.out wr HBJ.out)
          have HR2 := Lib.hid (HRF.out n HME.out)
          rw [hA1] at a0
          have HA1 := Lib.hid hA1
          clear he1 hb1 hA1
          generalize (restD s.nodes t.pods n.id).1 = r at *
          have hvn : ∀ w, (binOp .neq 59 (aggV r) (aggV r)).run Tryz.prog w = .ok (.bool false) w := fun w => by rw [vec_neq, vecEq_self]; rfl
          go_wp2_with fail
          refine HR1.out.mono ?_
          rintro e w21 ⟨rfl, hb21⟩
          have kb := below_new w21 (.cells #[.int .u64 r.a, .int .u64 r.b, .int .u64 r.c, .int .u64 r.d] 59)
          have hbv : Bf (w21.alloc (.cells #[.int .u64 r.a, .int .u64 r.b, .int .u64 r.c, .int .u64 r.d] 59)) w21.heap.size (cellsV r) := Bf.new w21 (cellsV r) 59 rfl
          have hall := hb21.trans (kb.mono hb21.size)
          have HB22 := Lib.hid (HBJ.out.trans (hall.mono HBJ.out.size))
          have HV22 := Lib.hid hbv
          have hgg : w21.heap.size < (w21.alloc (.cells #[.int .u64 r.a, .int .u64 r.b, .int .u64 r.c, .int .u64 r.d] 59)).heap.size := by simp
          clear a0 a1 a2 a3 n0 hb1r hb21 kb hbv hall HR1
          go_upto_region 38 with fail
          generalize (w21.alloc (.cells #[.int .u64 r.a, .int .u64 r.b, .int .u64 r.c, .int .u64 r.d] 59)) = W at *
          generalize w21.heap.size = g22 at *
          have k38 : W.drew.cell? ⟨w.heap.size, 0, none⟩ = some (.slice A1 s.nodes.length c1) ∧ W.drew.cell? ⟨w.heap.size, 1, none⟩ = some (.slice A2 s.loads.length c2) ∧ W.drew.cell? ⟨w.heap.size, 2, none⟩ = some (.slice A3 s.pods.length c3) ∧ W.drew.cell? ⟨g15, 0, none⟩ = some (.slice A t.pods.length c) ∧ W.drew.cell? ⟨g15, 1, none⟩ = some (.int .i64 t.preempts) ∧ W.drew.cell? ⟨g15, 2, none⟩ = some (.int .i64 t.shifts) ∧ W.drew.cell? ⟨b1, o1 + j * 10, none⟩ = some (.int .i64 n.id) := (by obtain ⟨a0, a1, a2, -⟩ := (HPB.out.keep HB22.out).two.one.cells3; obtain ⟨t0, t1, t2, -⟩ := (HPB.out.keep HB22.out).box.cells3; exact ⟨a0, a1, a2, t0, t1, t2, (HN1.out _ HB22.out).2⟩)
          have l38 : W.cell? ⟨w.heap.size, 0, none⟩ = some (.slice A1 s.nodes.length c1) ∧ W.cell? ⟨w.heap.size, 1, none⟩ = some (.slice A2 s.loads.length c2) ∧ W.cell? ⟨w.heap.size, 2, none⟩ = some (.slice A3 s.pods.length c3) ∧ W.cell? ⟨g15, 0, none⟩ = some (.slice A t.pods.length c) ∧ W.cell? ⟨g15, 1, none⟩ = some (.int .i64 t.preempts) ∧ W.cell? ⟨g15, 2, none⟩ = some (.int .i64 t.shifts) ∧ W.cell? ⟨b1, o1 + j * 10, none⟩ = some (.int .i64 n.id) := k38
          have hb1W := (HN1.out _ HB22.out).1
          rw [HA1.out] at k38 l38
          obtain ⟨hbw0, hbw1⟩ : w.heap.size ≠ W.heap.size ∧ g15 ≠ W.heap.size := by have h1 := (HPB.out.keep HB22.out).two.one.lt; have h2 := (HPB.out.keep HB22.out).box.lt; exact ⟨by omega, by omega⟩
          have hbw2 : b1 ≠ W.heap.size := by omega
          have HR3 : Hid (∀ V, Below W.heap.size W V → Calls Tryz.prog 20 #[.agg #[.slice (some ⟨b1, o1, none⟩) s.nodes.length c1, .slice A2 s.loads.length c2, .slice A3 s.pods.length c3], .agg #[.slice A t.pods.length c, .int .i64 t.preempts, .int .i64 t.shifts], .int .i64 n.id] V fun e w' => e = .returned (.tuple #[aggV r, .int .i64 0]) ∧ Below V.heap.size V w') := Lib.hid (fun V hV => by
            have h1 := HR2.out V (HB22.out.trans (hV.mono HB22.out.size))
            rw [HA1.out] at h1
            exact h1)
          clear HR2
          go_cut [24, 25] from 173 to 213 (fun v24 v25 wx => ∃ g24, v24 = .pointer (some ⟨g24, 0, none⟩) ∧ v25 = .int .i64 0 ∧ Bf wx g24 (cellsV r) ∧ Below W.heap.size W wx)
          case first =>
            have hbz : Bf (W.alloc (.cells #[.int .u64 0, .int .u64 0, .int .u64 0, .int .u64 0] 59)).drew W.heap.size [.int .u64 0, .int .u64 0, .int .u64 0, .int .u64 0] := (Bf.new W [.int .u64 0, .int .u64 0, .int .u64 0, .int .u64 0] 59 rfl).drew
            have hb0 : Below W.heap.size W (W.alloc (.cells #[.int .u64 0, .int .u64 0, .int .u64 0, .int .u64 0] 59)).drew := ((Below.refl _ W).alloc (Nat.le_refl _) _).drew
            have HBZ := Lib.hid hbz
            have HB0Z := Lib.hid hb0
            clear hbz hb0
            go_region_held3 (fun w' => w'.cell? ⟨w.heap.size, 0, none⟩ = some (.slice (some ⟨b1, o1, none⟩) s.nodes.length c1) ∧ w'.cell? ⟨w.heap.size, 1, none⟩ = some (.slice A2 s.loads.length c2) ∧ w'.cell? ⟨w.heap.size, 2, none⟩ = some (.slice A3 s.pods.length c3) ∧ w'.cell? ⟨g15, 0, none⟩ = some (.slice A t.pods.length c) ∧ w'.cell? ⟨g15, 1, none⟩ = some (.int .i64 t.preempts) ∧ w'.cell? ⟨g15, 2, none⟩ = some (.int .i64 t.shifts) ∧ w'.cell? ⟨b1, o1 + j * 10, none⟩ = some (.int .i64 n.id))
              (first | with_reducible assumption | ((repeat' apply And.intro) <;> with_reducible assumption) | (simp only [cell_off4 hbw0, cell_off4 hbw1, cell_off4 hbw2]; with_reducible assumption) | go_keep)
              (first
                | (go_at_call 20; have hbV : Below W.heap.size W (W.alloc (.cells #[.int .u64 0, .int .u64 0, .int .u64 0, .int .u64 0] 59)).drew := HB0Z.out; refine (HR3.out _ hbV).mono ?_; rintro e w23 ⟨rfl, hb23⟩; have HW3 := Lib.hid (hbV.trans (hb23.mono hbV.size)); clear hbV; have k39 : w23.cell? ⟨w.heap.size, 0, none⟩ = some (.slice (some ⟨b1, o1, none⟩) s.nodes.length c1) ∧ w23.cell? ⟨w.heap.size, 1, none⟩ = some (.slice A2 s.loads.length c2) ∧ w23.cell? ⟨w.heap.size, 2, none⟩ = some (.slice A3 s.pods.length c3) ∧ w23.cell? ⟨g15, 0, none⟩ = some (.slice A t.pods.length c) ∧ w23.cell? ⟨g15, 1, none⟩ = some (.int .i64 t.preempts) ∧ w23.cell? ⟨g15, 2, none⟩ = some (.int .i64 t.shifts) ∧ w23.cell? ⟨b1, o1 + j * 10, none⟩ = some (.int .i64 n.id) := (by have HQ := HB22.out.trans (HW3.out.mono HB22.out.size); obtain ⟨a0, a1, a2, -⟩ := (HPB.out.keep HQ).two.one.cells3; obtain ⟨t0, t1, t2, -⟩ := (HPB.out.keep HQ).box.cells3; rw [HA1.out] at a0; exact ⟨a0, a1, a2, t0, t1, t2, (HN1.out _ HQ).2⟩); have HBX := Lib.hid (HBZ.out.below hb23 HBZ.out.lt); have y0 := HBX.out.cell 0 _ rfl; have y1 := HBX.out.cell 1 _ rfl; have y2 := HBX.out.cell 2 _ rfl; have y3 := HBX.out.cell 3 _ rfl; have z0 := HBX.out.frozen 0; have z1 := HBX.out.frozen 1; have z2 := HBX.out.frozen 2; have z3 := HBX.out.frozen 3; have hlb := HBX.out.lt)
                | (go_at_call 20; have hbV : Below W.heap.size W W.drew := (Below.refl _ W).drew; refine (HR3.out _ hbV).mono ?_; rintro e w23 ⟨rfl, hb23⟩; have HW3 := Lib.hid (hbV.trans (hb23.mono hbV.size)); clear hbV; have k39 : w23.cell? ⟨w.heap.size, 0, none⟩ = some (.slice (some ⟨b1, o1, none⟩) s.nodes.length c1) ∧ w23.cell? ⟨w.heap.size, 1, none⟩ = some (.slice A2 s.loads.length c2) ∧ w23.cell? ⟨w.heap.size, 2, none⟩ = some (.slice A3 s.pods.length c3) ∧ w23.cell? ⟨g15, 0, none⟩ = some (.slice A t.pods.length c) ∧ w23.cell? ⟨g15, 1, none⟩ = some (.int .i64 t.preempts) ∧ w23.cell? ⟨g15, 2, none⟩ = some (.int .i64 t.shifts) ∧ w23.cell? ⟨b1, o1 + j * 10, none⟩ = some (.int .i64 n.id) := (by have HQ := HB22.out.trans (HW3.out.mono HB22.out.size); obtain ⟨a0, a1, a2, -⟩ := (HPB.out.keep HQ).two.one.cells3; obtain ⟨t0, t1, t2, -⟩ := (HPB.out.keep HQ).box.cells3; rw [HA1.out] at a0; exact ⟨a0, a1, a2, t0, t1, t2, (HN1.out _ HQ).2⟩)))
            all_goals
              go_wp2_with fail
              go_meet
            · exact ⟨w23.heap.size, rfl, rfl, Bf.new w23 [.int .u64 r.a, .int .u64 r.b, .int .u64 r.c, .int .u64 r.d] 59 rfl, HW3.out.alloc HW3.out.size _⟩
            · exact ⟨W.heap.size, rfl, rfl, bf_set4 HBX.out, (((HW3.out.setCell (p := ⟨W.heap.size, 0, none⟩) (Nat.le_refl _) _).setCell (p := ⟨W.heap.size, 1, none⟩) (Nat.le_refl _) _).setCell (p := ⟨W.heap.size, 2, none⟩) (Nat.le_refl _) _).setCell (p := ⟨W.heap.size, 3, none⟩) (Nat.le_refl _) _⟩
          case rest =>
          obtain ⟨g24, rfl, rfl, hb24, hbW⟩ := hcut
          obtain ⟨p0, p1, p2, p3, p4⟩ := (HV22.out.below hbW HV22.out.lt).cells4
          obtain ⟨r0, r1, r2, r3, r4⟩ := hb24.cells4
          have HB25 := Lib.hid (HB22.out.trans (hbW.mono HB22.out.size))
          clear hb24 hbW k38 l38 hbw0 hbw1 hbw2 HR3 hb1W
          go_wp2
          go_roundw
          case rel => exact ⟨j + 1, by omega, by go_num, HB25.out⟩
          case measure => simp [intOf]; omega
        · have HPE := Lib.hid (HPS.out.below HBJ.out)
          clear HPS
          go_wp2
          go_roundw
          case rel => exact ⟨i + 1, by omega, by go_num, HPE.out⟩
          case measure => simp [intOf]; omega
    · have HRE : Hid (Calls Tryz.prog 19 #[.pointer (some ⟨K.kb, 0, none⟩), .int .i64 id] wr fun e w' => e = .returned (.tuple #[aggV (restD s.nodes t.pods id).1, .bool (decide (0 ≤ place NodeD.id id s.nodes 0))]) ∧ Below wr.heap.size wr w') := Lib.hid (by
        have h1 := keepRest_any id wr HK.out HF.out
        rw [rest_place HF.out (HK.out.room HF.out)] at h1
        exact h1)
      have HNO : Hid (∀ V, Below w.heap.size w V → Calls Tryz.prog 21 #[.agg #[.slice A1 s.nodes.length c1, .slice A2 s.loads.length c2, .slice A3 s.pods.length c3], .int .i64 id] V fun e w' => e = .returned (.int .i64 (place NodeD.id id s.nodes 0)) ∧ Below V.heap.size V w') := Lib.hid (fun V hV => by
        have k := HA.out.at hV
        exact rNode_any s.nodes id A1 _ c1 V.heap.size (.slice A2 s.loads.length c2) (.slice A3 s.pods.length c3) V rfl (by have := k.s1.2.1; omega) (Nat.le_refl _) k.r1)
      clear HK HAS HMP HLT HLE hdl hlen
      generalize place NodeD.id id s.nodes 0 = pz at *
      generalize (restD s.nodes t.pods id).1 = r at *
      go_wp2_with fail
      refine HRE.out.mono ?_
      rintro e w41 ⟨rfl, hb41⟩
      have kb := below_new w41 (.cells #[.int .u64 r.a, .int .u64 r.b, .int .u64 r.c, .int .u64 r.d] 59)
      have HT41 := Lib.hid ((HPB.out.two.keep hb41).keep kb)
      clear hb41 kb HRE HPB
      by_cases hp : 0 ≤ pz
      · have dp : decide (0 ≤ pz) = true := decide_eq_true hp
        rw [dp]
        go_upto_region 42 with fail
        generalize (w41.alloc (.cells #[.int .u64 r.a, .int .u64 r.b, .int .u64 r.c, .int .u64 r.d] 59)) = W at *
        obtain ⟨a0, a1, a2, a3⟩ := HT41.out.one.cells3
        have HN42 := Lib.hid (HNO.out W HT41.out.below)
        clear HNO
        go_wp2_with fail
        refine HN42.out.mono ?_
        rintro e w42 ⟨rfl, hb42⟩
        have HT42 := Lib.hid (HT41.out.keep hb42)
        clear hb42 a0 a1 a2 a3 HT41 HN42
        go_wp2
        go_ret
        exact ⟨rfl, HT42.out.below⟩
      · have dp : decide (0 ≤ pz) = false := decide_eq_false hp
        rw [dp]
        go_upto_region 42 with fail
        generalize (w41.alloc (.cells #[.int .u64 r.a, .int .u64 r.b, .int .u64 r.c, .int .u64 r.d] 59)) = W at *
        obtain ⟨a0, a1, a2, a3⟩ := HT41.out.one.cells3
        have HN42 := Lib.hid (HNO.out W HT41.out.below)
        clear HNO
        go_wp2_with fail
        refine HN42.out.mono ?_
        rintro e w42 ⟨rfl, hb42⟩
        have HT42 := Lib.hid (HT41.out.keep hb42)
        clear hb42 a0 a1 a2 a3 HT41 HN42
        go_wp2
        go_ret
        exact ⟨rfl, HT42.out.below⟩
end Go.Proofs.YtpfjeoldgcepnaaGreatDoor
