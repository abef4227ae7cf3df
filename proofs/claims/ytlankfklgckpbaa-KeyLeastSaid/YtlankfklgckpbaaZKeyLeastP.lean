/- The law KeyLeast: for every list of states the call returns true, and the argument reads afterwards as it read before. There is no condition. -/
import Derived.Test.YtlankfklgckpbaaZ03
import Derived.Deep.RegionHeld

/- The law KeyLeast, walked. -/
namespace Go.Proofs.Ytlankfklgckpbaa
set_option linter.unusedSimpArgs false
open Go.RowKit
set_option linter.unusedVariables false

section
variable {P : Program} {ops : Array Oper} {Q : Exit → Act → World → Prop} {md : Region.Mode} {S : World → Prop}
/-- 'wpAnyH_take', the operation's slot told by its number. -/
theorem takeH17 (i d : Nat) {oi : Oper} {v : Value} {fuel : Nat} {listed : Array Bool} {a : Act} {w : World} (hi : ops[i]? = some oi) (hd : oi.dst = some d)
    (hs : Region.noSelect ops = true) (hf : Region.free md ops listed i = true) (hr : (Region.ready md ops listed).contains i = true)
    (hQ : ∀ c a w, Q (.panic c) (a.put oi.dst v) w → Q (.panic c) a w) (hy : YieldsIf P ops S oi v a) (hS : S w)
    (h : wpAnyH P md ops Q S fuel (listed.setIfInBounds i true) (a.put (some d) v) w) : wpAnyH P md ops Q S (fuel + 1) listed a w :=
  wpAnyH_take hi hs hf hr hQ hy hS (by rw [hd]; exact h)
end

def RoundRel (n : Nat) (W : World) (i : Value) (wr : World) : Prop := ∃ k : Nat, k ≤ n ∧ i = .int .i64 k ∧ Below W.heap.size W wr

set_option maxHeartbeats 12800000 in
set_option maxRecDepth 100000 in
theorem keyLeast_in (l : List StL) (A : Option Addr) (n c : Nat) (w : World) (hn : n = l.length) (hl : n ≤ maxLen) (ho : OkL l) (hr : Sts w w.heap.size A l) :
    Calls Try.prog 5 #[.slice A n c] w fun e w' => e = .returned (.bool true) ∧ Below w.heap.size w w' := by
  unfold maxLen at hl
  have HR := Lib.hid hr
  have HN := Lib.hid hn
  have HO := Lib.hid ho
  clear hr hn ho
  go_enter Try.func5, Try.ntmps5
  go_wp2_with fail
  refine (up17_any _).mono ?_
  rintro e w1 ⟨rfl, kw1⟩
  by_cases hbig : 30 < n
  · go_wp2
    go_ret
    exact ⟨rfl, kw1⟩
  by_cases hnil : n = 0
  · subst hnil
    go_wp2
    go_ret
    exact ⟨rfl, kw1⟩
  have hsz1 := kw1.size
  have hne : ((n : Int) == 0) = false := by simp; omega
  have hd30 : decide ((30 : Int) < (n : Int)) = false := decide_eq_false (by omega)
  go_wp2
  go_loopw [4] (FewRel l w1) (fun i _ => n - (intOf i).toNat)
  case atStart => exact ⟨0, by omega, rfl, fun _ h => by simp at h, Below.refl _ _⟩
  case round =>
    obtain ⟨k, hk, rfl, hf, hbr⟩ := hrel
    have hz := hbr.size
    have HFW := Lib.hid hf
    have kW := kw1.trans (hbr.mono hsz1)
    clear hf
    by_cases hlt : k < n
    · have hkl : k < l.length := by have := HN.out; omega
      have HX := Lib.hid (fun hx => few_next hkl HFW.out rfl hx)
      have hx := HO.out _ (List.getElem_mem hkl)
      obtain ⟨b, o, rfl, hb, he⟩ := HR.out.row.at hkl
      have hbl : b < wr.heap.size := by omega
      generalize l[k] = x at *
      have e0 : wr.cell? ⟨b, o + k * 3, none⟩ = some (.slice x.A x.t.pods.length x.c) := (kW.cell (p := ⟨b, o + k * 3, none⟩) hb).trans (he 0 _ rfl)
      have hk0 : (0 : Int) ≤ (k : Int) := by omega
      have hk1 : (k : Int) < (n : Int) := by omega
      have hpm := hx.2
      unfold maxLen at hpm
      by_cases hmany : 40 < x.t.pods.length
      · clear he hx HX
        go_wp2
        go_ret
        exact ⟨rfl, kW⟩
      · have HNX := Lib.hid (HX.out (by omega))
        clear he hx HX
        go_wp2
        go_roundw
        case rel => exact ⟨k + 1, by omega, by go_num, HNX.out, hbr⟩
        case measure => simp [intOf]; omega
    · have HFA := Lib.hid (few_all (by have := HN.out; omega) HO.out HFW.out)
      have HRW := Lib.hid ((HR.out.below kW (Nat.le_refl _)).more kW.size)
      go_wp2_with fail
      refine (keyLeast_any l A n c wr HN.out (by omega) HFA.out HRW.out).mono ?_
      rintro e w2 ⟨b1, rfl, hbest1, hb2⟩
      have HRW2 := Lib.hid ((HRW.out.below hb2 (Nat.le_refl _)).more hb2.size)
      have kw2 := kW.trans (hb2.mono kW.size)
      have hsz2 := kw2.size
      obtain ⟨j, rfl, hj, hb3, hb4⟩ := hbest1.at (by have := HN.out; omega)
      have hjn : j < n := by have := HN.out; omega
      have HB3 := Lib.hid hb3
      have HB4 := Lib.hid hb4
      have HJ := Lib.hid hj
      clear hb3 hb4 hbest1 HRW hj kW HFW hb2 hbr hz hlt hk
      have hj0 : (0 : Int) ≤ (j : Int) := by omega
      have hj1 : (j : Int) < (n : Int) := by omega
      have hdj : decide ((j : Int) < 0) = false := decide_eq_false (by omega)
      have hdn : decide (n ≤ j) = false := decide_eq_false (by omega)
      have hdi : decide ((n : Int) ≤ (j : Int)) = false := decide_eq_false (by omega)
      go_wp2
      go_loopw [6] (RoundRel n w2) (fun i _ => n - (intOf i).toNat)
      case atStart => exact ⟨0, by omega, rfl, Below.refl _ _⟩
      case round =>
        obtain ⟨i, hi, rfl, hbr⟩ := hrel
        have hz := hbr.size
        have kW := kw2.trans (hbr.mono hsz2)
        have kZ := kW.size
        by_cases hlt : i < n
        · have hil : i < l.length := by have := HN.out; omega
          have hls := HB3.out i hil
          have hne2 : i < j → (keysL l i == keysL l j) = false := fun h => by
            have := HB4.out i h
            cases hq : (keysL l i == keysL l j) with
            | false => rfl
            | true => exact absurd (eq_of_beq hq) this
          rw [keysL_get hil, keysL_get HJ.out] at hls hne2
          have hx := HFA.out _ (List.getElem_mem hil)
          have hp := HR.out.each _ (List.getElem_mem hil)
          have hx' := HFA.out _ (List.getElem_mem HJ.out)
          have hp' := HR.out.each _ (List.getElem_mem HJ.out)
          obtain ⟨b, o, rfl, hb, he⟩ := HR.out.row.at hil
          obtain ⟨b', o', hbo, hb', he'⟩ := HR.out.row.at HJ.out
          have hbo' := Option.some.inj hbo
          obtain ⟨rfl, rfl⟩ : b' = b ∧ o' = o := by injection hbo' with h1 h2; exact ⟨h1.symm, h2.symm⟩
          clear hbo hbo'
          have hbl : b' < wr.heap.size := by omega
          generalize l[i] = x at *
          generalize l[j] = y at *
          have e0 : wr.cell? ⟨b', o' + i * 3, none⟩ = some (.slice x.A x.t.pods.length x.c) := (kW.cell (p := ⟨b', o' + i * 3, none⟩) hb).trans (he 0 _ rfl)
          have e1 : wr.cell? ⟨b', o' + i * 3 + 1, none⟩ = some (.int .i64 x.t.preempts) := (kW.cell (p := ⟨b', o' + i * 3 + 1, none⟩) hb).trans (he 1 _ rfl)
          have e2 : wr.cell? ⟨b', o' + i * 3 + 2, none⟩ = some (.int .i64 x.t.shifts) := (kW.cell (p := ⟨b', o' + i * 3 + 2, none⟩) hb).trans (he 2 _ rfl)
          have j0 : wr.cell? ⟨b', o' + j * 3, none⟩ = some (.slice y.A y.t.pods.length y.c) := (kW.cell (p := ⟨b', o' + j * 3, none⟩) hb).trans (he' 0 _ rfl)
          have j1 : wr.cell? ⟨b', o' + j * 3 + 1, none⟩ = some (.int .i64 y.t.preempts) := (kW.cell (p := ⟨b', o' + j * 3 + 1, none⟩) hb).trans (he' 1 _ rfl)
          have j2 : wr.cell? ⟨b', o' + j * 3 + 2, none⟩ = some (.int .i64 y.t.shifts) := (kW.cell (p := ⟨b', o' + j * 3 + 2, none⟩) hb).trans (he' 2 _ rfl)
          have HCX : Hid (∀ V : World, ((∀ b o, b < wr.heap.size → V.cell? ⟨b, o, none⟩ = wr.cell? ⟨b, o, none⟩) ∧ Below wr.heap.size wr V) → Calls Try.prog 7 #[.agg #[.slice x.A x.t.pods.length x.c, .int .i64 x.t.preempts, .int .i64 x.t.shifts]] V fun e w' => e = .returned (.string (keyS x.t)) ∧ Below V.heap.size V w') := fun V hV =>
            keyOf_any x.t x.A x.t.pods.length x.c V hx.1 rfl hx.2 (((hp.below kW (Nat.le_refl _)).below hV.2 kZ).more (Nat.le_trans kZ hV.2.size))
          have HCY : Hid (∀ V : World, ((∀ b o, b < wr.heap.size → V.cell? ⟨b, o, none⟩ = wr.cell? ⟨b, o, none⟩) ∧ Below wr.heap.size wr V) → Calls Try.prog 7 #[.agg #[.slice y.A y.t.pods.length y.c, .int .i64 y.t.preempts, .int .i64 y.t.shifts]] V fun e w' => e = .returned (.string (keyS y.t)) ∧ Below V.heap.size V w') := fun V hV =>
            keyOf_any y.t y.A y.t.pods.length y.c V hx'.1 rfl hx'.2 (((hp'.below kW (Nat.le_refl _)).below hV.2 kZ).more (Nat.le_trans kZ hV.2.size))
          have hi0 : (0 : Int) ≤ (i : Int) := by omega
          have hi1 : (i : Int) < (n : Int) := by omega
          clear he hp hx he' hp' hx'
          by_cases hij : i < j
          · have heq := hne2 hij
            have hd : decide (i < j) = true := decide_eq_true hij
            clear hne2
            go_wp2
            first
              | (go_region_held3 (fun w' => (∀ b o, b < wr.heap.size → w'.cell? ⟨b, o, none⟩ = wr.cell? ⟨b, o, none⟩) ∧ Below wr.heap.size wr w')
                  (first | (with_reducible assumption) | (show Keeps wr _; with_reducible (repeat (first | exact Keeps.refl _ | assumption | refine Keeps.drew ?_ | refine Keeps.alloc ?_ _ | refine Keeps.step ?_ (by assumption)))))
                  (first
                    | (go_at_call 7; (with_reducible refine (HCX.out _ (by assumption)).mono ?_); rintro e w6 ⟨rfl, hb6⟩)
                    | (go_at_call 7; (with_reducible refine (HCY.out _ (by assumption)).mono ?_); rintro e w7 ⟨rfl, hb7⟩)))
              | fail "held"
            all_goals
              rename_i hK
              have kV := hK.2
              clear hK
              go_wp2
              go_roundw
              case rel => exact ⟨i + 1, by omega, by go_num, hbr.trans (kV.mono hz)⟩
              case measure => simp [intOf]; omega
          · have hd : decide (i < j) = false := decide_eq_false hij
            clear hne2
            go_wp2
            refine wp_region_held_drew (S := fun w' => (∀ b o, b < wr.heap.size → w'.cell? ⟨b, o, none⟩ = wr.cell? ⟨b, o, none⟩) ∧ Below wr.heap.size wr w') (by kernel_rfl) ?_ (fun hHeld => ?_)
            · (try dsimp only); first | (with_reducible assumption) | (show Keeps wr _; with_reducible (repeat (first | exact Keeps.refl _ | assumption | refine Keeps.drew ?_ | refine Keeps.alloc ?_ _ | refine Keeps.step ?_ (by assumption))))
            refine takeH17 0 47 (v := ?v0) rfl rfl (by kernel_rfl) (by kernel_rfl) (by kernel_rfl) (fun _ _ _ h => h) (Or.inl ⟨by rfl, ?y0⟩) (by assumption) ?r0
            case y0 => (intro w hSw; (try dsimp only at hSw); go_simp; try with_reducible rfl)
            try simp only [Act.put, List.setIfInBounds_toArray, List.set_cons_zero, List.set_cons_succ]
            refine takeH17 1 48 (v := ?v1) rfl rfl (by kernel_rfl) (by kernel_rfl) (by kernel_rfl) (fun _ _ _ h => h) (Or.inl ⟨by rfl, ?y1⟩) (by assumption) ?r1
            case y1 => (intro w hSw; (try dsimp only at hSw); go_simp; try with_reducible rfl)
            try simp only [Act.put, List.setIfInBounds_toArray, List.set_cons_zero, List.set_cons_succ]
            refine takeH17 5 52 (v := ?v5) rfl rfl (by kernel_rfl) (by kernel_rfl) (by kernel_rfl) (fun _ _ _ h => h) (Or.inl ⟨by rfl, ?y5⟩) (by assumption) ?r5
            case y5 => (intro w hSw; (try dsimp only at hSw); go_simp; try with_reducible rfl)
            try simp only [Act.put, List.setIfInBounds_toArray, List.set_cons_zero, List.set_cons_succ]
            refine takeH17 6 53 (v := ?v6) rfl rfl (by kernel_rfl) (by kernel_rfl) (by kernel_rfl) (fun _ _ _ h => h) (Or.inl ⟨by rfl, ?y6⟩) (by assumption) ?r6
            case y6 => (intro w hSw; (try dsimp only at hSw); go_simp; try with_reducible rfl)
            try simp only [Act.put, List.setIfInBounds_toArray, List.set_cons_zero, List.set_cons_succ]
            refine takeH17 2 49 (v := ?v2) rfl rfl (by kernel_rfl) (by kernel_rfl) (by kernel_rfl) (fun _ _ _ h => h) (Or.inl ⟨by rfl, ?y2⟩) (by assumption) ?r2
            case y2 => (intro w hSw; (try dsimp only at hSw); go_simp; try with_reducible rfl)
            try simp only [Act.put, List.setIfInBounds_toArray, List.set_cons_zero, List.set_cons_succ]
            refine takeH17 7 54 (v := ?v7) rfl rfl (by kernel_rfl) (by kernel_rfl) (by kernel_rfl) (fun _ _ _ h => h) (Or.inl ⟨by rfl, ?y7⟩) (by assumption) ?r7
            case y7 => (intro w hSw; (try dsimp only at hSw); go_simp; try with_reducible rfl)
            try simp only [Act.put, List.setIfInBounds_toArray, List.set_cons_zero, List.set_cons_succ]
            refine takeH17 3 50 (v := ?v3) rfl rfl (by kernel_rfl) (by kernel_rfl) (by kernel_rfl) (fun _ _ _ h => h) (Or.inl ⟨by rfl, ?y3⟩) (by assumption) ?r3
            case y3 => (intro w hSw; (try dsimp only at hSw); go_simp; try with_reducible rfl)
            try simp only [Act.put, List.setIfInBounds_toArray, List.set_cons_zero, List.set_cons_succ]
            refine takeH17 8 55 (v := ?v8) rfl rfl (by kernel_rfl) (by kernel_rfl) (by kernel_rfl) (fun _ _ _ h => h) (Or.inl ⟨by rfl, ?y8⟩) (by assumption) ?r8
            case y8 => (intro w hSw; (try dsimp only at hSw); go_simp; try with_reducible rfl)
            try simp only [Act.put, List.setIfInBounds_toArray, List.set_cons_zero, List.set_cons_succ]
            refine wpAnyH_ready (rs := [4]) (by kernel_rfl) (by simp) ?_
            refine AllReadyH.cons rfl (fun K hK => ?_) AllReadyH.nil
            go_simp
            refine (HCX.out _ (by assumption)).mono ?_
            rintro e w6 ⟨rfl, hb6⟩
            go_wp2_with fail
            refine hK.out _ _ ?_ (fun hHeld4 => ?_)
            · (try dsimp only); first | (with_reducible assumption) | (show Keeps wr _; with_reducible (repeat (first | exact Keeps.refl _ | assumption | refine Keeps.drew ?_ | refine Keeps.alloc ?_ _ | refine Keeps.step ?_ (by assumption))))
            clear hK K
            try simp only [Act.put, List.setIfInBounds_toArray, List.set_cons_zero, List.set_cons_succ]
            refine wpAnyH_ready (rs := [9]) (by kernel_rfl) (by simp) ?_
            refine AllReadyH.cons rfl (fun K hK => ?_) AllReadyH.nil
            go_simp
            refine (HCY.out _ (by assumption)).mono ?_
            rintro e w7 ⟨rfl, hb7⟩
            go_wp2_with fail
            refine hK.out _ _ ?_ (fun hHeld9 => ?_)
            · (try dsimp only); first | (with_reducible assumption) | (show Keeps wr _; with_reducible (repeat (first | exact Keeps.refl _ | assumption | refine Keeps.drew ?_ | refine Keeps.alloc ?_ _ | refine Keeps.step ?_ (by assumption))))
            clear hK K
            try simp only [Act.put, List.setIfInBounds_toArray, List.set_cons_zero, List.set_cons_succ]
            refine takeH17 10 57 (v := ?v10) rfl rfl (by kernel_rfl) (by kernel_rfl) (by kernel_rfl) (fun _ _ _ h => h) (Or.inl ⟨by rfl, ?y10⟩) (by assumption) ?r10
            case y10 => (intro w hSw; (try dsimp only at hSw); go_simp; try with_reducible rfl)
            try simp only [Act.put, List.setIfInBounds_toArray, List.set_cons_zero, List.set_cons_succ]
            refine takeH17 11 58 (v := ?v11) rfl rfl (by kernel_rfl) (by kernel_rfl) (by kernel_rfl) (fun _ _ _ h => h) (Or.inl ⟨by rfl, ?y11⟩) (by assumption) ?r11
            case y11 => (intro w hSw; (try dsimp only at hSw); go_simp; try with_reducible rfl)
            try simp only [Act.put, List.setIfInBounds_toArray, List.set_cons_zero, List.set_cons_succ]
            refine takeH17 12 59 (v := ?v12) rfl rfl (by kernel_rfl) (by kernel_rfl) (by kernel_rfl) (fun _ _ _ h => h) (Or.inl ⟨by rfl, ?y12⟩) (by assumption) ?r12
            case y12 => (intro w hSw; (try dsimp only at hSw); go_simp; try with_reducible rfl)
            try simp only [Act.put, List.setIfInBounds_toArray, List.set_cons_zero, List.set_cons_succ]
            refine takeH17 13 60 (v := ?v13) rfl rfl (by kernel_rfl) (by kernel_rfl) (by kernel_rfl) (fun _ _ _ h => h) (Or.inl ⟨by rfl, ?y13⟩) (by assumption) ?r13
            case y13 => (intro w hSw; (try dsimp only at hSw); go_simp; try with_reducible rfl)
            try simp only [Act.put, List.setIfInBounds_toArray, List.set_cons_zero, List.set_cons_succ]
            refine takeH17 14 61 (v := ?v14) rfl rfl (by kernel_rfl) (by kernel_rfl) (by kernel_rfl) (fun _ _ _ h => h) (Or.inl ⟨by rfl, ?y14⟩) (by assumption) ?r14
            case y14 => (intro w hSw; (try dsimp only at hSw); go_simp; try with_reducible rfl)
            try simp only [Act.put, List.setIfInBounds_toArray, List.set_cons_zero, List.set_cons_succ]
            refine takeH17 15 62 (v := ?v15) rfl rfl (by kernel_rfl) (by kernel_rfl) (by kernel_rfl) (fun _ _ _ h => h) (Or.inl ⟨by rfl, ?y15⟩) (by assumption) ?r15
            case y15 => (intro w hSw; (try dsimp only at hSw); go_simp; try with_reducible rfl)
            try simp only [Act.put, List.setIfInBounds_toArray, List.set_cons_zero, List.set_cons_succ]
            refine takeH17 16 63 (v := undef) rfl rfl (by kernel_rfl) (by kernel_rfl) (by kernel_rfl) (fun _ _ _ h => h) (Or.inr ⟨by rfl, rfl⟩) (by assumption) ?r16
            try simp only [Act.put, List.setIfInBounds_toArray, List.set_cons_zero, List.set_cons_succ]
            refine takeH17 17 64 (v := undef) rfl rfl (by kernel_rfl) (by kernel_rfl) (by kernel_rfl) (fun _ _ _ h => h) (Or.inr ⟨by rfl, rfl⟩) (by assumption) ?r17
            try simp only [Act.put, List.setIfInBounds_toArray, List.set_cons_zero, List.set_cons_succ]
            refine takeH17 18 65 (v := undef) rfl rfl (by kernel_rfl) (by kernel_rfl) (by kernel_rfl) (fun _ _ _ h => h) (Or.inr ⟨by rfl, rfl⟩) (by assumption) ?r18
            try simp only [Act.put, List.setIfInBounds_toArray, List.set_cons_zero, List.set_cons_succ]
            refine takeH17 19 66 (v := undef) rfl rfl (by kernel_rfl) (by kernel_rfl) (by kernel_rfl) (fun _ _ _ h => h) (Or.inr ⟨by rfl, rfl⟩) (by assumption) ?r19
            try simp only [Act.put, List.setIfInBounds_toArray, List.set_cons_zero, List.set_cons_succ]
            refine takeH17 20 67 (v := undef) rfl rfl (by kernel_rfl) (by kernel_rfl) (by kernel_rfl) (fun _ _ _ h => h) (Or.inr ⟨by rfl, rfl⟩) (by assumption) ?r20
            try simp only [Act.put, List.setIfInBounds_toArray, List.set_cons_zero, List.set_cons_succ]
            refine takeH17 21 68 (v := undef) rfl rfl (by kernel_rfl) (by kernel_rfl) (by kernel_rfl) (fun _ _ _ h => h) (Or.inr ⟨by rfl, rfl⟩) (by assumption) ?r21
            try simp only [Act.put, List.setIfInBounds_toArray, List.set_cons_zero, List.set_cons_succ]
            refine takeH17 22 69 (v := undef) rfl rfl (by kernel_rfl) (by kernel_rfl) (by kernel_rfl) (fun _ _ _ h => h) (Or.inr ⟨by rfl, rfl⟩) (by assumption) ?r22
            try simp only [Act.put, List.setIfInBounds_toArray, List.set_cons_zero, List.set_cons_succ]
            refine takeH17 23 70 (v := undef) rfl rfl (by kernel_rfl) (by kernel_rfl) (by kernel_rfl) (fun _ _ _ h => h) (Or.inr ⟨by rfl, rfl⟩) (by assumption) ?r23
            try simp only [Act.put, List.setIfInBounds_toArray, List.set_cons_zero, List.set_cons_succ]
            refine takeH17 24 71 (v := undef) rfl rfl (by kernel_rfl) (by kernel_rfl) (by kernel_rfl) (fun _ _ _ h => h) (Or.inr ⟨by rfl, rfl⟩) (by assumption) ?r24
            try simp only [Act.put, List.setIfInBounds_toArray, List.set_cons_zero, List.set_cons_succ]
            refine takeH17 25 72 (v := undef) rfl rfl (by kernel_rfl) (by kernel_rfl) (by kernel_rfl) (fun _ _ _ h => h) (Or.inr ⟨by rfl, rfl⟩) (by assumption) ?r25
            try simp only [Act.put, List.setIfInBounds_toArray, List.set_cons_zero, List.set_cons_succ]
            refine takeH17 26 73 (v := undef) rfl rfl (by kernel_rfl) (by kernel_rfl) (by kernel_rfl) (fun _ _ _ h => h) (Or.inr ⟨by rfl, rfl⟩) (by assumption) ?r26
            try simp only [Act.put, List.setIfInBounds_toArray, List.set_cons_zero, List.set_cons_succ]
            refine takeH17 27 74 (v := ?v27) rfl rfl (by kernel_rfl) (by kernel_rfl) (by kernel_rfl) (fun _ _ _ h => h) (Or.inl ⟨by rfl, ?y27⟩) (by assumption) ?r27
            case y27 => (intro w hSw; (try dsimp only at hSw); go_simp; try with_reducible rfl)
            try simp only [Act.put, List.setIfInBounds_toArray, List.set_cons_zero, List.set_cons_succ]
            refine takeH17 28 75 (v := ?v28) rfl rfl (by kernel_rfl) (by kernel_rfl) (by kernel_rfl) (fun _ _ _ h => h) (Or.inl ⟨by rfl, ?y28⟩) (by assumption) ?r28
            case y28 => (intro w hSw; (try dsimp only at hSw); go_simp; try with_reducible rfl)
            try simp only [Act.put, List.setIfInBounds_toArray, List.set_cons_zero, List.set_cons_succ]
            refine wpAnyH_done (by kernel_rfl) ?_ _
            have kV := hHeld9.2
            clear hHeld hHeld4 hHeld9
            go_wp2
            go_roundw
            case rel => exact ⟨i + 1, by omega, by go_num, hbr.trans (kV.mono hz)⟩
            case measure => simp [intOf]; omega
        · go_wp2
          go_ret
          exact ⟨rfl, kW⟩
end Go.Proofs.Ytlankfklgckpbaa

namespace Go.Proofs.Ytlankfklgckpbaa
set_option linter.unusedSimpArgs false
open Go.ChangeShapes Go.WideShapes Go.ChangeAt Go.RowKit

set_option maxHeartbeats 400000 in
set_option maxRecDepth 100000 in
theorem keyLeast_lifted (os : Os) (started : os.Started) (H : Type) (enc : TypeId × Value → H) :
    ReturnsInHanded {} Try.checked os 5 .any (Rows.keyLeastSpec.pre6 enc Try.prog Try.f5 Rows.keyLeastRow.domain false) (Rows.keyLeastSpec.post enc Try.prog Try.f5 false true false false) := by
  refine returnsInHanded_of_change (C := Try.checked) Try.own started (by kernel_rfl) Try.func5
    (ChangeSpec.witness6 (enc := enc) (C := Try.checked) false ⟨#[], #[.slice none 0 0], []⟩ 8 (by kernel_rfl) (by kernel_rfl) (by kernel_rfl) (by kernel_rfl)) ?_
  intro W base args ds gs before hval0 hW _ _
  have hval : ∀ (j : Nat) t v, Try.f5.params[j]? = some t → args[j]? = some v → Value.okWide Try.prog W .any base t v := hval0
  have hW' := hW
  have hlt : ∀ x ∈ before, x.block < W.heap.size := fun x hx => hW.lt x hx
  obtain ⟨p, q, hA0, hV, rfl, _, _⟩ := hW
  have hA : DataW.TrodAll enc Try.prog W 0 (fun _ => true) true Try.f5.params.toList args.toList ds p := hA0
  rw [Try.params5] at hA hval
  obtain ⟨v0, d0, rfl, rfl, h0⟩ := trodAll_one hA
  obtain ⟨rfl, rfl⟩ := trodVars_none hV
  have hv0 := hval 0 22 v0 rfl rfl
  clear hA0 hval0
  simp only [List.append_nil] at hW' hlt
  obtain ⟨l, A, c, e0, g1, g2, g3⟩ := open_states hv0 h0
  have key := keyLeast_in l A l.length c W rfl g1 g2 g3
  rw [← e0] at key
  refine key.mono fun e W' ⟨he, hb⟩ => ?_
  subst he
  exact ⟨_, rfl, _, _, _, [], p, [], hW', trodAll_mk1 (shut_bool Try.underlying4 true), trodAll_mk1 (hb.trod Try.laidOut (by kernel_rfl) (of_decide_eq_true (by kernel_rfl)) h0 hlt), rfl, hb.frame _, fun h => by cases h⟩

theorem keyLeast_holds : Rows.KeyLeastSaid :=
  OpenClaim.holds_of_wide 5 Try.f5 rfl rfl rfl rfl rfl rfl rfl ⟨rfl, rfl, rfl, rfl, rfl⟩ rfl rfl rfl rfl rfl (by kernel_rfl) Try.func5 (by kernel_rfl)
    (of_decide_eq_true (by kernel_rfl)) (by unfold Func.isWrapper; first | (rw [if_pos (by decide +kernel)]; kernel_rfl) | (rw [if_neg (by decide +kernel)]; exact ⟨rfl, rfl⟩))
    (fun os started H enc _ => keyLeast_lifted os started H enc)
end Go.Proofs.Ytlankfklgckpbaa
