/- Joined texts, part 8: IM UO KO. -/
import Derived.Test.YtedcmchdapfhhaaZ07
import Derived.Deep.RegionHeld3
import Derived.Deep.QuietTactic
import Derived.BigQuiet
import Derived.IntWalk
import Derived.Deep.CutRange
import Derived.Test.YtedcmchdapfhhaaZ03
import Derived.Test.YtedcmchdapfhhaaZ01
import Derived.ChangeSame
import Derived.ChangeVars
import Derived.JoinedOf
import Derived.RowKit
import Derived.RowKitTokens
import Derived.Carry
import Derived.ChangeSlices
import Derived.Test.YtedcmchdapfhhaaRows

/- The law VictimLeast. -/
namespace Go.Proofs.Ytedcmchdapfhhaa
set_option linter.unusedSimpArgs false
open Go.RowKit
set_option linter.unusedVariables false

theorem few15 {n1 n2 n3 n4 n5 : Nat} (h : few05 n1 n2 n3 n4 n5 = true) : n1 ≤ 40 ∧ n2 ≤ 40 ∧ n3 ≤ 40 ∧ n4 ≤ 40 ∧ n5 ≤ 40 := by
  simp [few05] at h
  omega
theorem T3.draws15 {a b c : List Value} {w V : World} (h : T3 a b c w V) (q : Nat) : T3 a b c w (V.drewN q) := h.keep (below_draws (Below.refl _ _) q)
theorem rises_one15 (l : List PodD) : RisesP (l.take 1) := by
  unfold RisesP
  cases l with
  | nil => simp
  | cons x r => simp
def RiseRel15 (l : List PodD) (a b c : List Value) (w : World) (i : Value) (wr : World) : Prop := ∃ k : Nat, 1 ≤ k ∧ (k ≤ l.length ∨ k = 1) ∧ i = .int .i64 k ∧ RisesP (l.take k) ∧ T3 a b c w wr
def LeastRel (R : List Int) (A : Option Addr) (cR : Nat) (a b c : List Value) (w : World) (i : Value) (wr : World) : Prop := ∃ k : Nat, k ≤ R.length ∧ i = .int .i64 k ∧ T3 a b c w wr ∧ SlI wr A cR R
theorem vic_may {node pod : Int} {l : List PodD} {zs R : List Int} (hr : RisesP l) (h : VicIs node pod l zs) (hs : R.Sublist zs) {i : Nat} (hi : i < R.length) : mayD pod R[i] l = true := by
  obtain ⟨j, hj, e⟩ := List.getElem_of_mem (hs.subset (List.getElem_mem hi))
  obtain ⟨_, _, _, _, hm⟩ := vic_at hr h hj
  rw [← e]; exact hm
theorem own_emptyJ (V : World) (B g : Nat) (e : TypeId) (hB : B ≤ V.heap.size) (hg : g = V.heap.size) : (V.alloc (.cells #[] e)).ownsRow B e 1 (.slice (some ⟨g, 0, none⟩) 0 0) 0 (([] : List Int).flatMap cellG) := by
  subst hg
  exact World.ownsRow_made V #[] 0 hB (by decide) rfl
theorem farJ_cells {wr w' : World} {gv : Nat} (h : ∀ b o', b ≠ gv → b < wr.heap.size → w'.cell? ⟨b, o', none⟩ = wr.cell? ⟨b, o', none⟩ ∧ w'.frozen? ⟨b, o', none⟩ = wr.frozen? ⟨b, o', none⟩) :
    (∀ b o', b ≠ gv → b < wr.heap.size → w'.cell? ⟨b, o', none⟩ = wr.cell? ⟨b, o', none⟩) ∧ (∀ b o', b ≠ gv → b < wr.heap.size → w'.frozen? ⟨b, o', none⟩ = wr.frozen? ⟨b, o', none⟩) :=
  ⟨fun b o' h1 h2 => (h b o' h1 h2).1, fun b o' h1 h2 => (h b o' h1 h2).2⟩
theorem ownJ_drew {V : World} {B e size n : Nat} {v : Value} {xs : List Value} (h : V.ownsRow B e size v n xs) : V.drew.ownsRow B e size v n xs := h
theorem underIntG : Try.prog.underlying 39 = some (.slice 3) := by kernel_rfl
theorem infoIntG : (Try.prog.info? 3).map (fun i => (i.zero, i.size, i.bytes)) = some (some (.int .i64 0), 1, 8) := by kernel_rfl
theorem oneG (x : Int) : ∀ u ∈ cellG x, u.oneCell' = true := by
  intro u hu
  rw [List.mem_singleton] at hu
  subst hu; rfl

set_option maxHeartbeats 25600000 in
set_option maxRecDepth 100000 in
theorem victimLeast_in (s : SnapD) (x : SpecD) (t : StateD) (pod node : Int) (hno : ∀ x ∈ s.nodes, x.Ok) (hlo : ∀ p ∈ t.pods, p.Ok) (A1 A2 A3 A4 A5 : Option Addr) (n1 c1 n2 c2 n3 c3 n4 c4 n5 c5 : Nat) (w : World)
    (hn1 : n1 = s.nodes.length) (hr1 : Recs 10 cellsN w w.heap.size A1 s.nodes) (hn4 : n4 = x.wants.length) (hr4 : Recs 6 cellsW w w.heap.size A4 x.wants)
    (hn5 : n5 = t.pods.length) (hc5 : n5 ≤ c5) (hm5 : c5 ≤ maxLen) (h05 : A5 = none → c5 = 0) (hr5 : Recs 8 cellsP w w.heap.size A5 t.pods) :
    Calls Try.prog 3 #[.agg #[.slice A1 n1 c1, .slice A2 n2 c2, .slice A3 n3 c3], .agg #[.slice A4 n4 c4, .int .i64 x.preempts, .int .i64 x.shifts], .agg #[.slice A5 n5 c5, .int .i64 t.preempts, .int .i64 t.shifts], .int .i64 pod, .int .i64 node] w fun e w' => e = .returned (.bool true) ∧ Below w.heap.size w w' := by
  have T0 := T3.new w [.slice A1 n1 c1, .slice A2 n2 c2, .slice A3 n3 c3] [.slice A4 n4 c4, .int .i64 x.preempts, .int .i64 x.shifts] [.slice A5 n5 c5, .int .i64 t.preempts, .int .i64 t.shifts] 26 29 31
  have HN := Lib.hid (And.intro hno hlo)
  have HN1 := Lib.hid hn1
  have HN4 := Lib.hid hn4
  have HN5 := Lib.hid hn5
  have H05 := Lib.hid h05
  have hl5 : n5 ≤ 9223372036854775807 := by unfold maxLen at hm5; omega
  have HR1 := Lib.hid (fun (V : World) (hV : Below w.heap.size w V) => (hr1.below hV (Nat.le_refl _)).more hV.size)
  have HR4 := Lib.hid (fun (V : World) (hV : Below w.heap.size w V) => (hr4.below hV (Nat.le_refl _)).more hV.size)
  have HR5 := Lib.hid hr5
  have HUP := Lib.hid up15_any
  clear hno hlo hn1 hn4 hn5 h05 hr1 hr4 hr5 hm5 hc5
  go_enter Try.func3, Try.ntmps3
  go_wp2_with fail
  refine (HUP.out _).mono ?_
  rintro e w1 ⟨rfl, hb1⟩
  have T1 := T0.keep hb1
  clear hb1 T0 HUP
  obtain ⟨a0, a1, a2, a3⟩ := T1.one.cells3
  obtain ⟨b0, b1, b2, b3⟩ := T1.two.cells3
  obtain ⟨d0, d1, d2, d3⟩ := T1.three.cells3
  go_wp2_with fail
  refine (few05_any _ _ _ _ _ _ _ _ _ _ _ _ _ _ _ _ _ _ _ _).mono ?_
  rintro e w2 ⟨rfl, hb2⟩
  have HT2 := Lib.hid (T1.keep hb2)
  clear hb2 T1 a0 a1 a2 a3 b0 b1 b2 b3 d0 d1 d2 d3
  obtain ⟨fw, hfw⟩ : ∃ fw, few05 n1 n2 n3 n4 n5 = fw := ⟨_, rfl⟩
  have HFW := Lib.hid hfw
  rw [hfw]
  clear hfw
  go_wp2
  go_loopw [13] (RiseRel15 t.pods [.slice A1 n1 c1, .slice A2 n2 c2, .slice A3 n3 c3] [.slice A4 n4 c4, .int .i64 x.preempts, .int .i64 x.shifts] [.slice A5 n5 c5, .int .i64 t.preempts, .int .i64 t.shifts] w) (fun i _ => n5 - (intOf i).toNat)
  case atStart => exact ⟨1, by omega, .inr rfl, rfl, rises_one15 _, HT2.out⟩
  case round =>
    obtain ⟨k, hk1, hk2, rfl, hri, T1⟩ := hrel
    have HT1 := Lib.hid T1
    have HRI := Lib.hid hri
    obtain ⟨d0, d1, d2, d3⟩ := T1.three.cells3
    clear hri HT2
    by_cases hlt : k < n5
    · have hkl : k < t.pods.length := by have := HN5.out; omega
      obtain ⟨b, o, rfl, hb, he⟩ := HR5.out.at hkl
      have kwr := T1.below
      generalize hx : t.pods[k] = x1 at *
      have HX := Lib.hid hx
      have e0 : wr.cell? ⟨b, o + k * 8, none⟩ = some (.int .i64 x1.id) := (kwr.cell (p := ⟨b, o + k * 8, none⟩) hb).trans (he 0 _ rfl)
      have hbw : b < wr.heap.size := Nat.lt_of_lt_of_le hb kwr.size
      clear he hx
      obtain ⟨j, rfl⟩ : ∃ j, k = j + 1 := ⟨k - 1, by omega⟩
      have hjl : j < t.pods.length := by omega
      obtain ⟨b', o', h1, _, hf⟩ := HR5.out.at hjl
      injection h1 with h1
      injection h1 with h1 h2 _
      subst h1 h2
      generalize hy : t.pods[j] = y at *
      have HY := Lib.hid hy
      have f0 : wr.cell? ⟨b, o + j * 8, none⟩ = some (.int .i64 y.id) := (kwr.cell (p := ⟨b, o + j * 8, none⟩) hb).trans (hf 0 _ rfl)
      have hj0 : (0 : Int) ≤ (j : Int) := by omega
      have hj1 : (0 : Int) ≤ (j : Int) + 1 := by omega
      have hjn : (j : Int) < (n5 : Int) := by omega
      have hjn1 : (j : Int) + 1 < (n5 : Int) := by omega
      have s1 : IntKind.i64.wrap ((j : Int) + 1 - 1) = (j : Int) := by rw [IntWalk.i64_in _ (by omega)]; omega
      have s2 : IntKind.i64.wrap (j : Int) = (j : Int) := IntWalk.i64_in _ (by omega)
      have s3 : ((j : Int) + 1).toNat = j + 1 := by omega
      have s4 : IntKind.i64.wrap ((j : Int) + 1 + 1) = (j : Int) + 1 + 1 := IntWalk.i64_in _ (by omega)
      clear hf hy T1 hk1 hk2
      by_cases h2 : x1.id ≤ y.id
      · have hd2 : decide (x1.id ≤ y.id) = true := decide_eq_true h2
        clear h2
        go_wp2
        go_quiet (fail)
        go_wp2
        go_ret
        exact ⟨rfl, below_draws kwr _⟩
      · have hd2 : decide (x1.id ≤ y.id) = false := decide_eq_false h2
        have HS : Hid (RisesP (t.pods.take (j + 1 + 1))) := rises_take HRI.out hkl (fun _ _ => by show t.pods[j].id < _; rw [HX.out, HY.out]; omega)
        clear h2
        go_wp2
        go_quiet (fail)
        go_wp2
        go_roundw
        case rel => exact ⟨j + 1 + 1, by omega, .inl (by have := HN5.out; omega), by go_num, HS.out, HT1.out.draws15 _⟩
        case measure => simp [intOf]; omega
    · have hlk : t.pods.length ≤ k := by have := HN5.out; omega
      have HRS : Hid (RisesP t.pods) := by
        have h := HRI.out
        rw [List.take_of_length_le hlk] at h
        exact h
      have kwr := T1.below
      clear hlk HRI hk1 hk2
      cases fw with
      | false =>
        clear T1
        go_wp2
        go_ret
        exact ⟨rfl, kwr⟩
      | true =>
        obtain ⟨hl1, hl2, hl3, hl4, hl5'⟩ := few15 HFW.out
        obtain ⟨a0, a1, a2, a3⟩ := T1.one.cells3
        obtain ⟨b0, b1, b2, b3⟩ := T1.two.cells3
        have HMK : Hid (∀ (ids : List Int) (A : Option Addr) (n c : Nat) (V : World), Below w.heap.size w V → n = ids.length → n ≤ 1000 → Recs 1 cellG V V.heap.size A ids → Calls Try.prog 7 #[.agg #[.slice A1 n1 c1, .slice A2 n2 c2, .slice A3 n3 c3], .agg #[.slice A4 n4 c4, .int .i64 x.preempts, .int .i64 x.shifts], .agg #[.slice A5 n5 c5, .int .i64 t.preempts, .int .i64 t.shifts], .int .i64 pod, .int .i64 node, .slice A n c] V fun e w' => e = .returned (.bool (makesD s.nodes x.wants t.pods pod node ids)) ∧ Below V.heap.size V w') := fun ids A n c V hV hn hl hr =>
          makes_any s.nodes x.wants t.pods pod node ids HN.out.1 HN.out.2 A1 A4 A5 A n1 c1 n4 c4 n5 c5 n c (.slice A2 n2 c2) (.slice A3 n3 c3) (.int .i64 x.preempts) (.int .i64 x.shifts) t.preempts t.shifts V HN1.out (by omega) (HR1.out V hV) HN4.out (by omega) (HR4.out V hV) HN5.out (by omega) H05.out ((HR5.out.below hV (Nat.le_refl _)).more hV.size) hn hl hr
        have HMY : Hid (∀ (z : Int) (V : World), Below w.heap.size w V → Calls Try.prog 8 #[.agg #[.slice A5 n5 c5, .int .i64 t.preempts, .int .i64 t.shifts], .int .i64 pod, .int .i64 z] V fun e w' => e = .returned (.bool (mayD pod z t.pods)) ∧ Below V.heap.size V w') := fun z V hV =>
          priorMay_any t.pods pod z A5 n5 c5 (.int .i64 t.preempts) (.int .i64 t.shifts) V HN5.out (by omega) ((HR5.out.below hV (Nat.le_refl _)).more hV.size)
        have HCH := Lib.hid (choose_any s.nodes x.wants t.pods pod node HN.out.1 HN.out.2 A1 A4 A5 n1 c1 n4 c4 n5 c5 (.slice A2 n2 c2) (.slice A3 n3 c3) (.int .i64 x.preempts) (.int .i64 x.shifts) t.preempts t.shifts wr HN1.out (by omega) (HR1.out wr kwr) HN4.out (by omega) (HR4.out wr kwr) HN5.out (by omega) H05.out ((HR5.out.below kwr (Nat.le_refl _)).more kwr.size))
        clear T1 kwr
        go_wp2_with fail
        refine HCH.out.mono ?_
        rintro e w3 ⟨hh, hb3⟩
        have HT3 := Lib.hid (HT1.out.keep hb3)
        clear hb3 HCH HT1 a0 a1 a2 a3 b0 b1 b2 b3 d0 d1 d2 d3
        rcases hh with ⟨_, rfl⟩ | ⟨_, zs, hvi, ⟨_, rfl⟩ | ⟨k1, R, A, c, hk1, hm, hR, rfl, hs⟩⟩
        · have kw := HT3.out.below
          go_wp2
          go_ret
          exact ⟨rfl, kw⟩
        · have kw := HT3.out.below
          clear hvi
          go_wp2
          go_ret
          exact ⟨rfl, kw⟩
        · have HCD : Hid (ChosenD (makesD s.nodes x.wants t.pods pod node) zs R) := by
            have h := chosen_of (fun a b hs hm => makes_more HN.out.2 hs hm) hm
            rw [List.length_take, Nat.min_eq_left hk1, hR] at h
            exact h
          have HSL := Lib.hid hs
          have HRL : Hid (R.length ≤ 40) := by
            have h1 := hvi.len
            have h2 := HN5.out
            have h3 := HCD.out.sub.length_le
            show _ ≤ _
            omega
          have HMAY : Hid (∀ i z, R[i]? = some z → mayD pod z t.pods = true) := fun i z hz => by
            obtain ⟨h, rfl⟩ := List.getElem?_eq_some_iff.1 hz
            exact vic_may HRS.out hvi HCD.out.sub h
          have HM1 := Lib.hid (HMK.out R A R.length c w3 HT3.out.below rfl (by have := HRL.out; omega) HSL.out.recs)
          rw [HCD.out.makes] at HM1
          clear hvi hk1 hm hR hs
          obtain ⟨a0, a1, a2, a3⟩ := HT3.out.one.cells3
          obtain ⟨b0, b1, b2, b3⟩ := HT3.out.two.cells3
          obtain ⟨d0, d1, d2, d3⟩ := HT3.out.three.cells3
          generalize hm : R.length = m at *
          have HM := Lib.hid hm
          clear hm
          go_wp2_with fail
          refine HM1.out.mono ?_
          rintro e w4 ⟨rfl, hb4⟩
          have HT4 := Lib.hid (HT3.out.keep hb4)
          have HS4 := Lib.hid (HSL.out.later hb4)
          clear hb4 HM1 HT3 HSL a0 a1 a2 a3 b0 b1 b2 b3 d0 d1 d2 d3
          go_wp2
          go_loopw [16] (LeastRel R A c [.slice A1 n1 c1, .slice A2 n2 c2, .slice A3 n3 c3] [.slice A4 n4 c4, .int .i64 x.preempts, .int .i64 x.shifts] [.slice A5 n5 c5, .int .i64 t.preempts, .int .i64 t.shifts] w) (fun i _ => m - (intOf i).toNat)
          case atStart => exact ⟨0, by omega, rfl, HT4.out, HS4.out⟩
          case round =>
            obtain ⟨q, hk, rfl, T5, hs5⟩ := hrel
            clear HT4 HS4
            by_cases hlt2 : q < m
            · have hkR : q < R.length := by have := HM.out; omega
              have HT5 := Lib.hid T5
              have HS5 := Lib.hid hs5
              have hm40 : m ≤ 40 := HRL.out
              have hmc : m ≤ c := by have h1 := hs5.le; have h2 := HM.out; omega
              have hcM : c ≤ 9223372036854775807 := by have := hs5.max; unfold maxLen at this; omega
              obtain ⟨b, o, rfl, hb, hcell⟩ := recsG_at hs5.recs hkR
              have HCE := Lib.hid hcell
              have HBL := Lib.hid hb
              have kwr5 := T5.below
              obtain ⟨z, hz⟩ : ∃ z, R[q]? = some z := ⟨_, List.getElem?_eq_getElem hkR⟩
              have HZ := Lib.hid hz
              have HRA : Hid (∀ V, Keeps wr V → Recs 1 cellG V V.heap.size (some ⟨b, o, none⟩) (R.take q)) := fun V hV => ((HS5.out.recs.below hV.2 (Nat.le_refl _)).more hV.2.size).take q
              obtain ⟨ad, had, hrb⟩ : ∃ ad : Addr, (if c = q + 1 then some ⟨b, o, none⟩ else some (⟨b, o + (q + 1), none⟩ : Addr)) = some ad ∧ ∀ V, Keeps wr V → Recs 1 cellG V V.heap.size (some ad) (R.drop (q + 1)) := by
                by_cases hcc : c = q + 1
                · exact ⟨⟨b, o, none⟩, by rw [if_pos hcc], fun V _ => .inl (List.drop_of_length_le (by have := HM.out; omega))⟩
                · exact ⟨⟨b, o + (q + 1), none⟩, by rw [if_neg hcc], fun V hV => by
                    have h := ((HS5.out.recs.below hV.2 (Nat.le_refl _)).more hV.2.size).drop (q + 1)
                    rwa [Nat.mul_one] at h⟩
              have HRB := Lib.hid hrb
              have hi0 : (0 : Int) ≤ (q : Int) := by omega
              have hic : (q : Int) ≤ (c : Int) := by omega
              have hic2 : (q : Int) + 1 ≤ (c : Int) := by omega
              have hin : (q : Int) + 1 ≤ (m : Int) := by omega
              have hi2 : (q : Int) ≤ (m : Int) := by omega
              have hwp : IntKind.i64.wrap ((q : Int) + 1) = (q : Int) + 1 := IntWalk.i64_in _ (by omega)
              have htn : ((q : Int) + 1).toNat = q + 1 := by omega
              have hi1 : (0 : Int) ≤ (q : Int) + 1 := by omega
              clear hrb hz hcell T5 hs5 hb hcM
              go_upto_region 18 with fail
              go_region_held3 (fun w' => (∀ b o, b < wr.heap.size → w'.cell? ⟨b, o, none⟩ = wr.cell? ⟨b, o, none⟩) ∧ Below wr.heap.size wr w')
                (first | (with_reducible assumption) | (show Keeps wr _; with_reducible (repeat (first | exact Keeps.refl _ | assumption | refine Keeps.drew ?_ | refine Keeps.set ?_ (by first | (simp; done) | (simp; omega) | omega) _ | refine Keeps.alloc ?_ _ | refine Keeps.step ?_ (by assumption)))))
                (first
                  | (refine step_recsA 39 3 (.int .i64 0) 1 8 underIntG infoIntG rfl (by decide) (by decide) (fun _ => rfl) oneG rfl (.tmp 79) (.tmp 82) rfl wr.heap.size _ _ _ 0 _ [] (R.take q) ⟨b, o, none⟩ _ (by with_reducible (repeat (first | exact own_emptyJ _ _ _ _ (by first | (simp; done) | (simp; omega)) (by first | (simp; done) | (simp; omega)) | refine ownJ_drew ?_ | refine World.ownsRow.alloc ?_ _))) (HRA.out _ (by assumption)) (by first | (simp; done) | (simp; omega)) (by omega) rfl rfl (by simp; have := HM.out; omega) ?_; intro g1 k1 w4 hown4 hb4 hat4 hlt4 hbx4 hsz4; have hown4s := hown4; simp only [Nat.zero_add, List.nil_append] at hown4s; have hown4t := hown4; simp only [List.nil_append] at hown4t; obtain ⟨hcx4, hfx4⟩ := farJ_cells hbx4; clear hbx4; (try simp only [World.size_alloc, World.size_drew] at hat4); (try simp only [World.size_alloc, World.size_drew] at hsz4); have hk4 : Keeps wr w4 := Keeps.grow (by assumption) hb4 (Nat.le_refl _))
                  | (refine step_recsA 39 3 (.int .i64 0) 1 8 underIntG infoIntG rfl (by decide) (by decide) (fun _ => rfl) oneG rfl (.tmp 83) (.tmp 87) rfl wr.heap.size _ _ _ _ _ (R.take q) (R.drop (q + 1)) ad _ (by with_reducible (repeat (first | exact hown4t | exact hown4s | refine ownJ_drew ?_ | refine World.ownsRow.alloc ?_ _))) (HRB.out _ (by assumption)) (by have hk5 := hk4.2.size; first | (simp; done) | (simp; omega) | omega) (by omega) rfl rfl (by simp; have := HM.out; omega) ?_; intro g2 k2 w5 hown5 hb5 hat5 hlt5 hbx5 hsz5; obtain ⟨hcx5, hfx5⟩ := farJ_cells hbx5; clear hbx5; (try simp only [World.size_alloc] at hat5); (try simp only [World.size_alloc] at hsz5); have hk5 : Keeps wr w5 := Keeps.grow (by assumption) hb5 (Nat.le_refl _); (try (have hq1 : wr.heap.size ≠ g1 := (by omega))); (try (have hq2 : wr.heap.size + 1 ≠ g1 := (by omega))); (try (have hq3 : w4.heap.size ≠ g1 := (by omega))); have hs1 : wr.heap.size < w4.heap.size := (by omega); (try (have hs2 : wr.heap.size + 1 < w4.heap.size := (by omega))); have hs3 : wr.heap.size < w5.heap.size := (by omega); (try (have hs4 : wr.heap.size + 1 < w5.heap.size := (by omega))); (try (have hs5 : w4.heap.size < w5.heap.size := (by omega)))))
              rename_i hK
              rw [Nat.zero_add] at hown5
              have R5 := (out_of_own (cells := cellG) (size := 1) (fun _ => rfl) (show q + (m - (q + 1)) = (R.take q ++ R.drop (q + 1)).length by rw [List.length_append, List.length_take, List.length_drop]; have := HM.out; omega) hown5).recs
              rw [← List.eraseIdx_eq_take_drop_succ] at R5
              have KV := hK.2
              clear hK hcx4 hfx4 hcx5 hfx5 hat4 hat5 hown4 hown4s hown4t hown5 hb4 hb5 hk4 hk5
              have kV := kwr5.trans (KV.mono kwr5.size)
              have TV := HT5.out.keep KV
              have HSV := Lib.hid (HS5.out.later KV)
              have HRV := Lib.hid R5
              have HTV := Lib.hid TV
              have HKV := Lib.hid kV
              have cz : w5.cell? ⟨b, o + q, none⟩ = some (.int .i64 z) := by
                have h1 := (KV.cell (p := ⟨b, o + q, none⟩) HBL.out).trans HCE.out
                have h2 := HZ.out
                rw [List.getElem?_eq_getElem hkR] at h2
                rw [h1, Option.some.inj h2]
              have cb : b < w5.heap.size := Nat.lt_of_lt_of_le HBL.out KV.size
              have HF1 : Hid (∀ W, ((∀ b o, b < w5.heap.size → W.cell? ⟨b, o, none⟩ = w5.cell? ⟨b, o, none⟩) ∧ Below w5.heap.size w5 W) → Calls Try.prog 7 #[.agg #[.slice A1 n1 c1, .slice A2 n2 c2, .slice A3 n3 c3], .agg #[.slice A4 n4 c4, .int .i64 x.preempts, .int .i64 x.shifts], .agg #[.slice A5 n5 c5, .int .i64 t.preempts, .int .i64 t.shifts], .int .i64 pod, .int .i64 node, .slice (some ⟨g2, 0, none⟩) (q + (m - (q + 1))) k2] W fun e w' => e = .returned (.bool false) ∧ Below W.heap.size W w') := fun W hW => by
                have h := HMK.out (R.eraseIdx q) (some ⟨g2, 0, none⟩) (q + (m - (q + 1))) k2 W (HKV.out.trans (hW.2.mono HKV.out.size)) (by rw [List.length_eraseIdx_of_lt hkR]; have := HM.out; omega) (by omega) ((HRV.out.below hW.2 (Nat.le_refl _)).more hW.2.size)
                rw [HCD.out.least q hkR] at h
                exact h
              have HF2 : Hid (∀ W, ((∀ b o, b < w5.heap.size → W.cell? ⟨b, o, none⟩ = w5.cell? ⟨b, o, none⟩) ∧ Below w5.heap.size w5 W) → Calls Try.prog 8 #[.agg #[.slice A5 n5 c5, .int .i64 t.preempts, .int .i64 t.shifts], .int .i64 pod, .int .i64 z] W fun e w' => e = .returned (.bool true) ∧ Below W.heap.size W w') := fun W hW => by
                have h := HMY.out z W (HKV.out.trans (hW.2.mono HKV.out.size))
                rw [HMAY.out q z HZ.out] at h
                exact h
              obtain ⟨a0, a1, a2, a3⟩ := TV.one.cells3
              obtain ⟨b0, b1, b2, b3⟩ := TV.two.cells3
              obtain ⟨d0, d1, d2, d3⟩ := TV.three.cells3
              clear KV kV TV R5 had hic hic2 hin hwp htn hi1
              have hqm : (q : Int) < (m : Int) := by omega
              go_upto_region 19 with fail
              go_region_held3 (fun w' => (∀ b o, b < w5.heap.size → w'.cell? ⟨b, o, none⟩ = w5.cell? ⟨b, o, none⟩) ∧ Below w5.heap.size w5 w')
                (first | (with_reducible assumption) | (show Keeps w5 _; with_reducible (repeat (first | exact Keeps.refl _ | assumption | refine Keeps.drew ?_ | refine Keeps.alloc ?_ _ | refine Keeps.step ?_ (by assumption)))))
                (first
                  | (go_at_call 7; (with_reducible refine (HF1.out _ (by assumption)).mono ?_); rintro e w6 ⟨rfl, hb6⟩)
                  | (go_at_call 8; (with_reducible refine (HF2.out _ (by assumption)).mono ?_); rintro e w7 ⟨rfl, hb7⟩))
              all_goals
                rename_i hK
                have HT6 := Lib.hid (HTV.out.keep hK.2)
                have HS6 := Lib.hid (HSV.out.later hK.2)
                clear hK
                go_wp2
                go_roundw
                case rel => exact ⟨q + 1, by have := HM.out; omega, by go_num, HT6.out, HS6.out⟩
                case measure => simp [intOf]; omega
            · have kw := T5.below
              clear T5 hs5
              go_wp2
              go_ret
              exact ⟨rfl, kw⟩
end Go.Proofs.Ytedcmchdapfhhaa

/- How a state is read as data; five arguments. -/
namespace Go.Proofs.Ytedcmchdapfhhaa
set_option linter.unusedSimpArgs false
open Go.ChangeShapes Go.WideShapes Go.ChangeAt Go.RowKit

theorem Try.cellsT : Try.prog.cellsOf 31 = 3 := by kernel_rfl
section
variable {H : Type} {enc : TypeId × Value → H} {w : World} {base : Nat} {sp : Nat → Bool} {held : Bool}
set_option maxRecDepth 100000 in
/-- A state by value. -/
theorem open_state {r : Reach} {b0 : Nat} {v : Value} {d : DataW H} {ps : List MemPlace} (hval : Value.okWide Try.prog w r b0 31 v) (h : DataW.Trod enc Try.prog w base sp held 31 v d ps) :
    ∃ (t : StateD) (A : Option Addr) (c : Nat), v = .agg #[.slice A t.pods.length c, .int .i64 t.preempts, .int .i64 t.shifts] ∧ I64 t.preempts ∧ I64 t.shifts ∧
      (t.pods.length ≤ c ∧ c ≤ maxLen ∧ (A = none → c = 0) ∧ Recs 8 cellsP w w.heap.size A t.pods ∧ ∀ a ∈ t.pods, a.Ok) := by
  obtain ⟨v0, v1, v2, y0, y1, y2, n, rfl, _, _, h0, h1, h2⟩ := Go.Joins.open_agg3 Try.underlying31 (by kernel_rfl) Try.cellsT hval h
  obtain ⟨A, c, l, rfl, p⟩ := open_recs (Ok := PodD.Ok) Try.underlying24 Try.cellsP (by decide) (fun _ _ _ hl h => pod_of hl h) h0
  obtain ⟨k1, rfl, i1⟩ := int_of rfl h1
  obtain ⟨k2, rfl, i2⟩ := int_of rfl h2
  exact ⟨⟨l, k1, k2⟩, A, c, rfl, i1, i2, p⟩
end
section
variable {H : Type} {enc : TypeId × Value → H} {P : Program} {w : World} {base : Nat} {spare : Nat → Bool} {held : Bool}
theorem trodAll_five {t0 t1 t2 t3 t4 : TypeId} {args : Array Value} {ds : List (DataW H)} {ps : List MemPlace} (h : DataW.TrodAll enc P w base spare held [t0, t1, t2, t3, t4] args.toList ds ps) :
    ∃ v0 v1 v2 v3 v4 d0 d1 d2 d3 d4 p0 p1 p2 p3 p4, args = #[v0, v1, v2, v3, v4] ∧ ds = [d0, d1, d2, d3, d4] ∧ ps = p0 ++ p1 ++ p2 ++ p3 ++ p4 ∧ DataW.Trod enc P w base spare held t0 v0 d0 p0 ∧ DataW.Trod enc P w base spare held t1 v1 d1 p1 ∧ DataW.Trod enc P w base spare held t2 v2 d2 p2 ∧ DataW.Trod enc P w base spare held t3 v3 d3 p3 ∧ DataW.Trod enc P w base spare held t4 v4 d4 p4 := by
  obtain ⟨v0, vs0, d0, ds0, p0, q0, hargs, rfl, rfl, hd0, hrest0⟩ := trodAll_cons h
  obtain ⟨v1, vs1, d1, ds1, p1, q1, rfl, rfl, rfl, hd1, hrest1⟩ := trodAll_cons hrest0
  obtain ⟨v2, vs2, d2, ds2, p2, q2, rfl, rfl, rfl, hd2, hrest2⟩ := trodAll_cons hrest1
  obtain ⟨v3, vs3, d3, ds3, p3, q3, rfl, rfl, rfl, hd3, hrest3⟩ := trodAll_cons hrest2
  obtain ⟨v4, vs4, d4, ds4, p4, q4, rfl, rfl, rfl, hd4, hrest4⟩ := trodAll_cons hrest3
  obtain ⟨rfl, rfl, rfl⟩ := trodAll_nil hrest4
  exact ⟨v0, v1, v2, v3, v4, d0, d1, d2, d3, d4, p0, p1, p2, p3, p4, by cases args; simp_all, rfl, by simp, hd0, hd1, hd2, hd3, hd4⟩
theorem trodAll_mk5 {t0 t1 t2 t3 t4 : TypeId} {v0 v1 v2 v3 v4 : Value} {d0 d1 d2 d3 d4 : DataW H} {p0 p1 p2 p3 p4 : List MemPlace} (h0 : DataW.Trod enc P w base spare held t0 v0 d0 p0) (h1 : DataW.Trod enc P w base spare held t1 v1 d1 p1)
    (h2 : DataW.Trod enc P w base spare held t2 v2 d2 p2) (h3 : DataW.Trod enc P w base spare held t3 v3 d3 p3) (h4 : DataW.Trod enc P w base spare held t4 v4 d4 p4) : DataW.TrodAll enc P w base spare held [t0, t1, t2, t3, t4] [v0, v1, v2, v3, v4] [d0, d1, d2, d3, d4] (p0 ++ (p1 ++ (p2 ++ (p3 ++ p4)))) :=
  ⟨p0, p1 ++ (p2 ++ (p3 ++ p4)), h0, trodAll_mk4 h1 h2 h3 h4, rfl⟩
end
end Go.Proofs.Ytedcmchdapfhhaa

namespace Go.Proofs.Ytedcmchdapfhhaa
set_option linter.unusedSimpArgs false
theorem Try.own : ownKnob Try.prog.godebug = none := by kernel_rfl
theorem Try.laidOut : laidOutB Try.prog = true := by kernel_rfl
end Go.Proofs.Ytedcmchdapfhhaa
