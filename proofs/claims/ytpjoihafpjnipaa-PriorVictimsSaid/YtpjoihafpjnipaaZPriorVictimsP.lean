/- The law PriorVictims: for every state, any Id of a pod and any of a node the call returns true, and each argument reads afterwards as it read before. There is no condition. -/
import Derived.Test.YtpjoihafpjnipaaZ02
import Derived.Test.YtpjoihafpjnipaaZ05
import Derived.Deep.RegionHeld3
import Derived.Deep.QuietTactic
import Derived.BigQuiet
import Derived.IntWalk
import Derived.Deep.CutRange
import Derived.Test.YtpjoihafpjnipaaZ06

/- The reference's Place and Goal of layer 5. -/
namespace Go.Proofs.Ytpjoihafpjnipaa
set_option linter.unusedSimpArgs false
open Go.RowKit
set_option linter.unusedVariables false

set_option maxHeartbeats 800000 in
/-- dunnageref05.Place. -/
theorem rPlace05_any (l : List PodD) (id : Int) (A : Option Addr) (n c B : Nat) (v1 v2 : Value) (w : World) (hn : n = l.length) (hl : n ≤ 1000) (hB : B ≤ w.heap.size) (hr : Recs 8 cellsP w B A l) :
    Calls Try.prog 8 #[.agg #[.slice A n c, v1, v2], .int .i64 id] w fun e w' => e = .returned (.int .i64 (place PodD.id id l 0)) ∧ Below w.heap.size w w' := by
  have HR := Lib.hid hr
  have HL := Lib.hid hn
  clear hr hn
  go_enter Try.func8, Try.ntmps8
  go_wp2
  go_loop [5] (FindRel PodD.id id l) (fun i => n - (intOf i).toNat)
  case atStart => exact ⟨0, by omega, rfl, rfl⟩
  case round =>
    obtain ⟨k, hk, rfl, hp⟩ := hrel
    have HP := Lib.hid hp
    clear hp
    by_cases hlt : k < n
    · have hkl : k < l.length := by have := HL.out; omega
      obtain ⟨b, o, rfl, hb, hcell⟩ := HR.out.at hkl
      have hc : w.cell? ⟨b, o + k * 8, none⟩ = some (.int .i64 l[k].id) := hcell 0 _ rfl
      have hbl : b < w.heap.size := by omega
      clear hcell
      by_cases he : l[k].id = id
      · have HE := Lib.hid (place_here hkl he HP.out)
        obtain rfl := he
        go_wp2
        go_ret
        exact ⟨ret_int HE.out.symm, (Below.refl _ _).alloc (Nat.le_refl _) _⟩
      · have HE := Lib.hid (place_step hkl he HP.out)
        go_wp2
        go_round
        case rel => exact ⟨k + 1, by omega, by go_num, HE.out⟩
        case measure => simp [intOf]; omega
    · have HE := Lib.hid (place_end (by have := HL.out; omega) HP.out)
      go_wp2
      go_ret
      exact ⟨ret_int HE.out.symm, (Below.refl _ _).alloc (Nat.le_refl _) _⟩
end Go.Proofs.Ytpjoihafpjnipaa

/- The law PriorVictims. -/
namespace Go.Proofs.Ytpjoihafpjnipaa
set_option linter.unusedSimpArgs false
open Go.RowKit
set_option linter.unusedVariables false

/-- One box of the call's own. -/
def One (a : List Value) (w V : World) : Prop := Bf V w.heap.size a ∧ Below w.heap.size w V
section
variable {a : List Value} {w V V' : World}
theorem One.keep (h : One a w V) (hb : Below V.heap.size V V') : One a w V' := ⟨h.1.below hb h.1.lt, h.2.trans (hb.mono h.2.size)⟩
theorem One.draws (h : One a w V) (q : Nat) : One a w (V.drewN q) := h.keep (below_drews (Below.refl _ _) q)
end
def RiseRel10 (l : List PodD) (a : List Value) (w : World) (i : Value) (wr : World) : Prop := ∃ k : Nat, 1 ≤ k ∧ (k ≤ l.length ∨ k = 1) ∧ i = .int .i64 k ∧ RisesP (l.take k) ∧ One a w wr
def VicLoop (m : Nat) (W : World) (i : Value) (wr : World) : Prop := ∃ k : Nat, k ≤ m ∧ i = .int .i64 k ∧ Below W.heap.size W wr
theorem rises_one (l : List PodD) : RisesP (l.take 1) := by
  unfold RisesP
  cases l with
  | nil => simp
  | cons x r => simp

set_option maxHeartbeats 12800000 in
set_option maxRecDepth 100000 in
theorem priorVictims_in (t : StateD) (pod node : Int) (A : Option Addr) (n c : Nat) (w : World) (hn : n = t.pods.length) (hr : Recs 8 cellsP w w.heap.size A t.pods) :
    Calls Try.prog 4 #[.agg #[.slice A n c, .int .i64 t.preempts, .int .i64 t.shifts], .int .i64 pod, .int .i64 node] w fun e w' => e = .returned (.bool true) ∧ Below w.heap.size w w' := by
  have O0 : One [.slice A n c, .int .i64 t.preempts, .int .i64 t.shifts] w (w.alloc (.cells #[.slice A n c, .int .i64 t.preempts, .int .i64 t.shifts] 24)) := ⟨Bf.new w [.slice A n c, .int .i64 t.preempts, .int .i64 t.shifts] 24 rfl, (Below.refl _ _).alloc (Nat.le_refl _) _⟩
  have HR := Lib.hid hr
  have HN := Lib.hid hn
  clear hr hn
  go_enter Try.func4, Try.ntmps4
  go_wp2_with fail
  refine (up10_any _).mono ?_
  rintro e w1 ⟨rfl, hb1⟩
  have O1 := O0.keep hb1
  clear hb1 O0
  have HO1 := Lib.hid O1
  obtain ⟨a0, a1, a2, a3⟩ := O1.1.cells3
  by_cases hl : n ≤ 40
  · have hd : decide ((n : Int) > 40) = false := decide_eq_false (by omega)
    have HL := Lib.hid hl
    clear O1
    go_wp2
    clear a0 a1 a2 a3
    go_loopw [8] (RiseRel10 t.pods [.slice A n c, .int .i64 t.preempts, .int .i64 t.shifts] w) (fun i _ => n - (intOf i).toNat)
    case atStart => exact ⟨1, by omega, .inr rfl, rfl, rises_one _, HO1.out⟩
    case round =>
      obtain ⟨k, hk1, hk2, rfl, hri, T1⟩ := hrel
      have HT1 := Lib.hid T1
      have HRI := Lib.hid hri
      obtain ⟨b0, b1, b2, b3⟩ := T1.1.cells3
      clear hri
      by_cases hlt : k < n
      · have hkl : k < t.pods.length := by have := HN.out; omega
        obtain ⟨b, o, rfl, hb, he⟩ := HR.out.at hkl
        have kwr := T1.2
        generalize hx : t.pods[k] = x at *
        have HX := Lib.hid hx
        have e0 : wr.cell? ⟨b, o + k * 8, none⟩ = some (.int .i64 x.id) := (kwr.cell (p := ⟨b, o + k * 8, none⟩) hb).trans (he 0 _ rfl)
        have hbw : b < wr.heap.size := Nat.lt_of_lt_of_le hb kwr.size
        clear he hx
        obtain ⟨j, rfl⟩ : ∃ j, k = j + 1 := ⟨k - 1, by omega⟩
        have hjl : j < t.pods.length := by omega
        obtain ⟨b', o', h1, _, hf⟩ := HR.out.at hjl
        injection h1 with h1
        injection h1 with h1 h2 _
        subst h1 h2
        generalize hy : t.pods[j] = y at *
        have HY := Lib.hid hy
        have f0 : wr.cell? ⟨b, o + j * 8, none⟩ = some (.int .i64 y.id) := (kwr.cell (p := ⟨b, o + j * 8, none⟩) hb).trans (hf 0 _ rfl)
        have hj0 : (0 : Int) ≤ (j : Int) := by omega
        have hj1 : (0 : Int) ≤ (j : Int) + 1 := by omega
        have hjn : (j : Int) < (n : Int) := by omega
        have hjn1 : (j : Int) + 1 < (n : Int) := by omega
        have s1 : IntKind.i64.wrap ((j : Int) + 1 - 1) = (j : Int) := by rw [IntWalk.i64_in _ (by omega)]; omega
        have s2 : IntKind.i64.wrap (j : Int) = (j : Int) := IntWalk.i64_in _ (by omega)
        have s3 : ((j : Int) + 1).toNat = j + 1 := by omega
        clear hf hy T1 hk1 hk2
        by_cases h2 : x.id ≤ y.id
        · have hd2 : decide (x.id ≤ y.id) = true := decide_eq_true h2
          clear h2
          go_wp2
          go_quiet (fail)
          go_wp2
          go_ret
          exact ⟨rfl, below_drews kwr _⟩
        · have hd2 : decide (x.id ≤ y.id) = false := decide_eq_false h2
          have HS : Hid (RisesP (t.pods.take (j + 1 + 1))) := rises_take HRI.out hkl (fun _ _ => by show t.pods[j].id < _; rw [HX.out, HY.out]; omega)
          clear h2
          go_wp2
          go_quiet (fail)
          go_wp2
          go_roundw
          case rel => exact ⟨j + 1 + 1, by omega, .inl (by have := HN.out; omega), by go_num, HS.out, HT1.out.draws _⟩
          case measure => simp [intOf]; omega
      · have hlk : t.pods.length ≤ k := by have := HN.out; omega
        have HRS : Hid (RisesP t.pods) := by
          have h := HRI.out
          rw [List.take_of_length_le hlk] at h
          exact h
        have HV := Lib.hid (priorVictims_any sortPods t.pods pod node A n c (.int .i64 t.preempts) (.int .i64 t.shifts) wr HN.out (by have := HL.out; omega) ((HR.out.below HT1.out.2 (Nat.le_refl _)).more HT1.out.2.size))
        clear T1 hlk
        go_wp2_with fail
        refine HV.out.mono ?_
        rintro e w3 ⟨v, zs, rfl, hv, hown, hb3⟩
        have O3 := HT1.out.keep hb3
        have HVI := Lib.hid hv
        obtain ⟨A2, c2, rfl, hc1, hc2, hc3⟩ := own_form hown
        have HRW := Lib.hid (Row.of_own hown).1
        have HZL : Hid (zs.length ≤ 40) := by
          have h1 := hv.len
          have h2 := HN.out
          have h3 := HL.out
          show _ ≤ _
          omega
        generalize hm : zs.length = m at *
        have HM := Lib.hid hm
        have HO3 := Lib.hid O3
        clear hv hown hc1 hc2 hc3 hb3 b0 b1 b2 b3 HV HRI HT1 O3 hm hlt hk1 hk2
        have HPL : Hid (∀ (z : Int) (V : World), Below w3.heap.size w3 V → Calls Try.prog 8 #[.agg #[.slice A n c, .int .i64 t.preempts, .int .i64 t.shifts], .int .i64 z] V fun e w' => e = .returned (.int .i64 (place PodD.id z t.pods 0)) ∧ Below V.heap.size V w') := fun z V hV =>
          rPlace05_any t.pods z A n c V.heap.size _ _ V HN.out (by have := HL.out; omega) (Nat.le_refl _) ((HR.out.below (HO3.out.keep hV).2 (Nat.le_refl _)).more (HO3.out.keep hV).2.size)
        have HMY : Hid (∀ (z : Int) (V : World), Below w3.heap.size w3 V → Calls Try.prog 6 #[.agg #[.slice A n c, .int .i64 t.preempts, .int .i64 t.shifts], .int .i64 pod, .int .i64 z] V fun e w' => e = .returned (.bool (mayD pod z t.pods)) ∧ Below V.heap.size V w') := fun z V hV =>
          priorMay_any t.pods pod z A n c _ _ V HN.out (by have := HL.out; omega) ((HR.out.below (HO3.out.keep hV).2 (Nat.le_refl _)).more (HO3.out.keep hV).2.size)
        go_wp2
        go_loopw [10] (VicLoop m w3) (fun i _ => m - (intOf i).toNat)
        case atStart => exact ⟨0, by omega, rfl, Below.refl _ _⟩
        case round =>
          obtain ⟨i, hi, rfl, hbr⟩ := hrel
          have HBR := Lib.hid hbr
          have O4 := HO3.out.keep hbr
          have HO4 := Lib.hid O4
          clear hbr
          by_cases hlt : i < m
          · have hiz : i < zs.length := by rw [HM.out]; exact hlt
            obtain ⟨q, hq, hp, hnd, hmay⟩ := vic_at HRS.out HVI.out hiz
            have HON := Lib.hid (fun j (hj : j < i) => vic_once HRS.out HVI.out hiz hj)
            obtain ⟨b2, o2, rfl, hb2, hz2⟩ := HRW.out.at (k := i) (by simpa using hiz)
            have HZ2 : Hid (∀ V, Below w3.heap.size w3 V → ∀ j (hj : j < zs.length), V.cell? ⟨b2, o2 + j, none⟩ = some (.int .i64 zs[j])) := fun V hV j hj => by
              have h := (hV.cell (p := ⟨b2, o2 + j, none⟩) hb2).trans (hz2 j (by simpa using hj))
              simpa using h
            have z0 := HZ2.out wr HBR.out i hiz
            have hb2w : b2 < wr.heap.size := Nat.lt_of_lt_of_le hb2 HBR.out.size
            generalize hz : zs[i] = z at *
            have HZ := Lib.hid hz
            have HP1 : Hid (∀ V : World, ((∀ b o, b < wr.heap.size → V.cell? ⟨b, o, none⟩ = wr.cell? ⟨b, o, none⟩) ∧ Below wr.heap.size wr V) → Calls Try.prog 8 #[.agg #[.slice A n c, .int .i64 t.preempts, .int .i64 t.shifts], .int .i64 z] V fun e w' => e = .returned (.int .i64 (q : Nat)) ∧ Below V.heap.size V w') := fun V hV => by
              have h := HPL.out z V (HBR.out.trans (hV.2.mono HBR.out.size))
              rw [hp] at h
              exact h
            have HQ := Lib.hid (show q < n by have := HN.out; omega)
            have HND := Lib.hid hnd
            have HMA := Lib.hid hmay
            have hi0 : (0 : Int) ≤ (i : Int) := by omega
            have hi1 : (i : Int) < (m : Int) := by omega
            obtain ⟨b0, b1, b4, b3⟩ := O4.1.cells3
            clear hz hp hnd hmay hz2 O4
            go_wp2
            go_region_held3 (fun w' => (∀ b o, b < wr.heap.size → w'.cell? ⟨b, o, none⟩ = wr.cell? ⟨b, o, none⟩) ∧ Below wr.heap.size wr w')
              (first | (with_reducible assumption) | (show Keeps wr _; with_reducible (repeat (first | exact Keeps.refl _ | assumption | refine Keeps.drew ?_ | refine Keeps.alloc ?_ _ | refine Keeps.step ?_ (by assumption)))))
              (first | (go_at_call 8; refine (HP1.out _ (by assumption)).mono ?_; rintro e w4 ⟨rfl, hb4⟩))
            rename_i hK
            have HB4 := Lib.hid (HBR.out.trans (hK.2.mono HBR.out.size))
            clear hK hb4 b0 b1 b4 b3 z0 hb2w HP1
            have O5 := HO3.out.keep HB4.out
            have HM1 : Hid (∀ V : World, ((∀ b o, b < w4.heap.size → V.cell? ⟨b, o, none⟩ = w4.cell? ⟨b, o, none⟩) ∧ Below w4.heap.size w4 V) → Calls Try.prog 6 #[.agg #[.slice A n c, .int .i64 t.preempts, .int .i64 t.shifts], .int .i64 pod, .int .i64 z] V fun e w' => e = .returned (.bool true) ∧ Below V.heap.size V w') := fun V hV => by
              have h := HMY.out z V (HB4.out.trans (hV.2.mono HB4.out.size))
              rw [HMA.out] at h
              exact h
            have z0 : w4.cell? ⟨b2, o2 + i, none⟩ = some (.int .i64 z) := by
              have h := HZ2.out w4 HB4.out i hiz
              rw [HZ.out] at h
              exact h
            have hb2w : b2 < w4.heap.size := Nat.lt_of_lt_of_le hb2 HB4.out.size
            obtain ⟨b0, b1, b4, b3⟩ := O5.1.cells3
            have hq0 : decide ((q : Int) < 0) = false := decide_eq_false (by omega)
            clear O5
            go_wp2
            go_region_held3 (fun w' => (∀ b o, b < w4.heap.size → w'.cell? ⟨b, o, none⟩ = w4.cell? ⟨b, o, none⟩) ∧ Below w4.heap.size w4 w')
              (first | (with_reducible assumption) | (show Keeps w4 _; with_reducible (repeat (first | exact Keeps.refl _ | assumption | refine Keeps.drew ?_ | refine Keeps.alloc ?_ _ | refine Keeps.step ?_ (by assumption)))))
              (first | (go_at_call 6; refine (HM1.out _ (by assumption)).mono ?_; rintro e w5 ⟨rfl, hb5⟩))
            rename_i hK
            have HB5 := Lib.hid (HB4.out.trans (hK.2.mono HB4.out.size))
            clear hK hb5 b0 b1 b4 b3 z0 hb2w HM1 hq0
            have O6 := HO3.out.keep HB5.out
            obtain ⟨b, o, rfl, hb, he⟩ := HR.out.at hq
            have e7 : w5.cell? ⟨b, o + q * 8 + 7, none⟩ = some (.int .i64 node) := by
              have h := (O6.2.cell (p := ⟨b, o + q * 8 + 7, none⟩) hb).trans (he 7 _ rfl)
              rw [HND.out] at h
              exact h
            have hbw : b < w5.heap.size := Nat.lt_of_lt_of_le hb O6.2.size
            have hq1 : (0 : Int) ≤ (q : Int) := by omega
            have hq2 : (q : Int) < (n : Int) := by have := HQ.out; omega
            have hne : (node != node) = false := by simp
            obtain ⟨b0, b1, b4, b3⟩ := O6.1.cells3
            clear O6 he
            go_wp2
            clear b0 b1 b4 b3 e7 hbw hq1 hq2 hne
            have hi40 : i < 40 := by have := HZL.out; omega
            go_loopw [12] (VicLoop i w3) (fun u _ => i - (intOf u).toNat)
            case atStart => exact ⟨0, by omega, rfl, HB5.out⟩
            case round =>
              obtain ⟨j, hj, rfl, hbi⟩ := hrel
              have HBI := Lib.hid hbi
              clear hbi
              by_cases hji : j < i
              · have z0 : wr.cell? ⟨b2, o2 + i, none⟩ = some (.int .i64 z) := by
                  have h := HZ2.out wr HBI.out i hiz
                  rw [HZ.out] at h
                  exact h
                have hjz : j < zs.length := by omega
                have z1 := HZ2.out wr HBI.out j hjz
                have hne : (zs[j] == z) = false := by
                  have h := HON.out j hji
                  simpa using h
                generalize zs[j] = y at *
                have hb2w : b2 < wr.heap.size := Nat.lt_of_lt_of_le hb2 HBI.out.size
                have hj0 : (0 : Int) ≤ (j : Int) := by omega
                have hj1 : (j : Int) < (m : Int) := by omega
                go_wp2
                go_quiet (fail)
                go_wp2
                go_roundw
                case rel => exact ⟨j + 1, by omega, by go_num, below_drews HBI.out _⟩
                case measure => simp [intOf]; omega
              · go_wp2
                go_roundw
                case rel => exact ⟨i + 1, by omega, by go_num, HBI.out⟩
                case measure => simp [intOf]; omega
          · have hlt' := hlt
            go_wp2
            go_ret
            exact ⟨rfl, HO4.out.2⟩
  · have hd : decide ((n : Int) > 40) = true := decide_eq_true (by omega)
    clear hl
    go_wp2
    go_ret
    exact ⟨rfl, O1.2⟩
end Go.Proofs.Ytpjoihafpjnipaa

namespace Go.Proofs.Ytpjoihafpjnipaa
set_option linter.unusedSimpArgs false
open Go.ChangeShapes Go.WideShapes Go.ChangeAt Go.RowKit

set_option maxHeartbeats 400000 in
set_option maxRecDepth 100000 in
theorem priorVictims_lifted (os : Os) (started : os.Started) (H : Type) (enc : TypeId × Value → H) :
    ReturnsInHanded {} Try.checked os 4 .any (Rows.priorVictimsSpec.pre6 enc Try.prog Try.f4 Rows.priorVictimsRow.domain false) (Rows.priorVictimsSpec.post enc Try.prog Try.f4 false true false false) := by
  refine returnsInHanded_of_change (C := Try.checked) Try.own started (by kernel_rfl) Try.func4
    (ChangeSpec.witness6 (enc := enc) (C := Try.checked) false ⟨#[], #[.agg #[.slice none 0 0, .int .i64 0, .int .i64 0], .int .i64 0, .int .i64 0], []⟩ 8 (by kernel_rfl) (by kernel_rfl) (by kernel_rfl) (by kernel_rfl)) ?_
  intro W base args ds gs before hval0 hW _ _
  have hval : ∀ (j : Nat) t v, Try.f4.params[j]? = some t → args[j]? = some v → Value.okWide Try.prog W .any base t v := hval0
  have hW' := hW
  have hlt : ∀ x ∈ before, x.block < W.heap.size := fun x hx => hW.lt x hx
  obtain ⟨p, q, hA0, hV, rfl, _, _⟩ := hW
  have hA : DataW.TrodAll enc Try.prog W 0 (fun _ => true) true Try.f4.params.toList args.toList ds p := hA0
  rw [Try.params4] at hA hval
  obtain ⟨v0, v1, v2, d0, d1, d2, p0, p1, p2, rfl, rfl, rfl, h0, h1, h2⟩ := trodAll_three hA
  obtain ⟨rfl, rfl⟩ := trodVars_none hV
  have hv0 := hval 0 24 v0 rfl rfl
  have hv1 := hval 1 3 v1 rfl rfl
  have hv2 := hval 2 3 v2 rfl rfl
  clear hA0 hval0
  simp only [List.append_nil] at hW' hlt
  obtain ⟨t, A1, c1, e0, _, _, g1⟩ := open_state hv0 h0
  obtain ⟨a, e1, _, _, _⟩ := open_int Try.underlying3 hv1 h1
  obtain ⟨b, e2, _, _, _⟩ := open_int Try.underlying3 hv2 h2
  have key := priorVictims_in t a b A1 _ c1 W rfl g1.2.2.2.1
  rw [← e0, ← e1, ← e2] at key
  refine key.mono fun e W' ⟨he, hb⟩ => ?_
  subst he
  exact ⟨_, rfl, _, _, _, [], _, [], hW', trodAll_mk1 (shut_bool Try.underlying4 true), trodAll_mk3 (hb.trod Try.laidOut (by kernel_rfl) (of_decide_eq_true (by kernel_rfl)) h0 (fun x hx => hlt x (by simp [hx]))) (hb.trod Try.laidOut (by kernel_rfl) (of_decide_eq_true (by kernel_rfl)) h1 (fun x hx => hlt x (by simp [hx]))) (hb.trod Try.laidOut (by kernel_rfl) (of_decide_eq_true (by kernel_rfl)) h2 (fun x hx => hlt x (by simp [hx]))), rfl, hb.frame _, fun h => by cases h⟩

theorem priorVictims_holds : Rows.PriorVictimsSaid :=
  OpenClaim.holds_of_wide 4 Try.f4 rfl rfl rfl rfl rfl rfl rfl ⟨rfl, rfl, rfl, rfl, rfl⟩ rfl rfl rfl rfl rfl (by kernel_rfl) Try.func4 (by kernel_rfl)
    (of_decide_eq_true (by kernel_rfl)) (by unfold Func.isWrapper; first | (rw [if_pos (by decide +kernel)]; kernel_rfl) | (rw [if_neg (by decide +kernel)]; exact ⟨rfl, rfl⟩))
    (fun os started H enc _ => priorVictims_lifted os started H enc)
end Go.Proofs.Ytpjoihafpjnipaa
