/- dunnageref03.Zones. -/
import Derived.Test.YtaeklohgheildaaDoorL
import Derived.Test.YtaeklohgheildaaDoorCA
import Derived.Deep.QuietTactic
import Derived.BigQuiet
namespace Go.Proofs.YtaeklohgheildaaDoor
open Go.RowKit
set_option linter.unusedVariables false

abbrev i64s (l : List Int) : List Value := l.map (Value.int .i64)
theorem one_i64s (l : List Int) : ∀ u ∈ i64s l, u.oneCell' = true := by
  intro u hu; simp at hu; obtain ⟨x, _, rfl⟩ := hu; rfl
theorem Tryd.info3 : (Tryd.prog.info? 3).map (fun i => (i.zero, i.size, i.bytes)) = some (some (.int .i64 0), 1, 8) := by kernel_rfl

theorem insZ_at (z : Int) : ∀ (acc : List Int) (p : Nat) (hp : p ≤ acc.length), (∀ j (hj : j < p), acc[j]'(by omega) < z) → (∀ h : p < acc.length, ¬ acc[p] < z) →
    insZ z acc = if h : p < acc.length then (if acc[p] = z then acc else acc.take p ++ [z] ++ acc.drop p) else acc.take p ++ [z] ++ acc.drop p
  | [], p, hp, _, _ => by
    obtain rfl : p = 0 := by simpa using hp
    simp [insZ]
  | y :: r, 0, _, _, hn => by
    have h0 : ¬ y < z := hn (by simp)
    simp only [insZ, if_neg h0]
    by_cases e : y = z <;> simp [e]
  | y :: r, p + 1, hp, hl, hn => by
    have h0 : y < z := hl 0 (by omega)
    have ih := insZ_at z r p (by simpa using hp) (fun j hj => hl (j + 1) (by omega)) (fun h => hn (by simpa using h))
    simp only [insZ, if_pos h0, ih]
    by_cases hpl : p < r.length
    · have : p + 1 < (y :: r).length := by simpa using hpl
      simp only [hpl, this, dite_true, List.getElem_cons_succ]
      split <;> simp
    · have : ¬ p + 1 < (y :: r).length := by simpa using hpl
      simp only [hpl, this, dite_false]
      simp
theorem zones_next (l : List NodeD) (k : Nat) (h : k < l.length) : zonesOf (l.take (k + 1)) = insZ l[k].zone (zonesOf (l.take k)) := by
  unfold zonesOf
  rw [List.take_succ_eq_append_getElem h, List.foldl_append]
  rfl
theorem below_drews {B : Nat} {a w : World} (h : Below B a w) (n : Nat) : Below B a (w.drewN n) := ⟨h.os, h.tape, h.output, h.size, h.block⟩
theorem box_cells' {w wr : World} {x y z : Value} {t : TypeId} (hb : Below (w.heap.size + 1) (w.alloc (.cells #[x, y, z] t)) wr) : wr.cell? ⟨w.heap.size, 0, none⟩ = some x := by
  rw [hb.cell (by show w.heap.size < w.heap.size + 1; omega)]
  simp
theorem own_mono {w : World} {base base' n : Nat} {e : TypeId} {v : Value} {xs : List Value} (h : w.ownsRow base e 1 v n xs) (hb : base' ≤ base) : w.ownsRow base' e 1 v n xs := by
  refine ⟨h.1, ?_⟩
  rcases h.2 with h0 | ⟨g, cap, cur, h1, h2, rest⟩
  · exact .inl h0
  · exact .inr ⟨g, cap, cur, h1, Nat.le_trans hb h2, rest⟩
def ZRel (l : List NodeD) (W : World) (B : Nat) (v i : Value) (wr : World) : Prop :=
  ∃ k : Nat, k ≤ l.length ∧ i = .int .i64 k ∧ wr.ownsRow B 3 1 v (i64s (zonesOf (l.take k))).length (i64s (zonesOf (l.take k))) ∧ Below B W wr
def ZIn (acc : List Int) (z : Int) (wo : World) (i : Value) (wr : World) : Prop :=
  ∃ p q : Nat, p ≤ acc.length ∧ i = .int .i64 p ∧ wr = wo.drewN q ∧ ∀ j (hj : j < acc.length), j < p → acc[j] < z
def ZonesTo (l : List NodeD) (w : World) (e : Ending) (w' : World) : Prop :=
  ∃ v, e = .returned v ∧ w'.ownsRow (w.heap.size + 1) 3 1 v (i64s (zonesOf l)).length (i64s (zonesOf l)) ∧ Below w.heap.size w w'

set_option maxHeartbeats 6400000 in
set_option maxRecDepth 100000 in
theorem rZones_any (l : List NodeD) (A : Option Addr) (n c B : Nat) (v2 v3 : Value) (w : World) (hn : n = l.length) (hl : n ≤ 40) (hB : B ≤ w.heap.size) (hr : Recs 10 cellsN w B A l) :
    Calls Tryd.prog 21 #[.agg #[.slice A n c, v2, v3]] w (ZonesTo l w) := by
  have HR := Lib.hid hr
  have HN := Lib.hid hn
  clear hr hn
  go_enter Tryd.func21, Tryd.ntmps21
  go_wp2
  go_loopw [3, 4] (ZRel l (w.alloc (.cells #[.slice A n c, v2, v3] 26)) (w.heap.size + 1)) (fun _ i _ => n - (intOf i).toNat)
  case atStart => exact ⟨0, by omega, rfl, World.ownsRow_nil _ _ _ _, Below.refl _ _⟩
  case round =>
    obtain ⟨k, hk, rfl, hown, hbr⟩ := hrel
    obtain ⟨wo, rfl⟩ : ∃ wo : World, wo = wr := ⟨_, rfl⟩
    have b0 := box_cells' hbr
    have hzr : w.heap.size + 1 ≤ wo.heap.size := by have := hbr.size; simpa using this
    by_cases hlt : k < n
    · have hkl : k < l.length := by have := HN.out; omega
      obtain ⟨b, o, rfl, hb, hcell⟩ := HR.out.at hkl
      have ez : wo.cell? ⟨b, o + k * 10 + 1, none⟩ = some (.int .i64 l[k].zone) := by
        rw [hbr.cell (p := ⟨b, o + k * 10 + 1, none⟩) (by show b < w.heap.size + 1; omega), World.cell?_alloc_lt _ _ _ (by show b < w.heap.size; omega)]
        exact hcell 1 _ rfl
      clear hcell
      have HZ := Lib.hid (zones_next l k hkl)
      have hzl := zones_fold (l.take k) [] trivial
      have hml : (zonesOf (l.take k)).length ≤ 40 := by
        have h1 := hzl.2.1
        have h2 := List.length_take_le k l
        show (List.foldl _ [] (l.take k)).length ≤ 40
        simp only [List.length_nil] at h1
        omega
      clear hzl
      generalize hze : l[k].zone = z at *
      generalize hacc : zonesOf (l.take k) = acc at *
      obtain ⟨A1, c1, rfl, hc1, _, hnil⟩ := own_form hown
      have HNIL := Lib.hid (fun h => (hnil h).2)
      clear hnil
      have HROW := Lib.hid (Row.of_own hown).1
      have hml' : (i64s acc).length = acc.length := by simp
      rw [hml'] at hc1 ⊢
      have HZE := Lib.hid hze
      have HAC := Lib.hid hacc
      have HOW := Lib.hid hown
      clear hze hacc hown hml'
      go_wp2
      go_loopw [5] (ZIn acc z wo) (fun i _ => acc.length - (intOf i).toNat)
      case atStart => exact ⟨0, 0, by omega, rfl, rfl, fun j _ h => by omega⟩
      case round =>
        obtain ⟨p, q, hp, rfl, rfl, hlow⟩ := hrel
        have HLOW := Lib.hid hlow
        clear hlow
        by_cases hpl : p < acc.length
        · obtain ⟨b1, o1, rfl, hb1, hcell1⟩ := HROW.out.at (k := p) (by simpa using hpl)
          have ec := hcell1 p (by simpa using hpl)
          simp only [List.getElem_map] at ec
          clear hcell1
          have hp0 : (0 : Int) ≤ (p : Int) := by omega
          have hp1 : (p : Int) < (acc.length : Int) := by omega
          have hk0 : (0 : Int) ≤ (k : Int) := by omega
          have hk1 : (k : Int) < (n : Int) := by omega
          by_cases hlt2 : acc[p] < z
          · have HNX : Hid (∀ j (hj : j < acc.length), j < p + 1 → acc[j] < z) := fun j hj h => by
              by_cases e : j = p
              · subst e; exact hlt2
              · exact HLOW.out j hj (by omega)
            go_wp2
            go_quiet (fail)
            go_wp2
            go_roundw
            case rel => exact ⟨p + 1, _, by omega, by go_num, rfl, HNX.out⟩
            case measure => simp [intOf]; omega
          · by_cases heq : acc[p] = z
            · have HIN : Hid (insZ z acc = acc) := (insZ_at z acc p hp (fun j hj => HLOW.out j (by omega) hj) (fun _ => hlt2)).trans (by rw [dif_pos hpl, if_pos heq])
              have heb : (acc[p] == z) = true := by simpa using heq
              have hd2 : decide (acc[p] < z) = false := by simpa using hlt2
              clear heq
              go_wp2
              go_quiet (fail)
              go_wp2
              go_quiet (fail)
              go_wp2
              go_roundw
              case rel => exact ⟨k + 1, by omega, by go_num, by rw [HZ.out, HIN.out]; exact (by simpa using HOW.out : wo.ownsRow (w.heap.size + 1) 3 1 (.slice (some ⟨b1, o1, none⟩) acc.length c1) (i64s acc).length (i64s acc)), below_drews hbr _⟩
              case measure => simp [intOf]; omega
            · have HIN : Hid (insZ z acc = acc.take p ++ [z] ++ acc.drop p) := (insZ_at z acc p hp (fun j hj => HLOW.out j (by omega) hj) (fun _ => hlt2)).trans (by rw [dif_pos hpl, if_neg heq])
              have heb : (acc[p] == z) = false := by simpa using heq
              have hd2 : decide (acc[p] < z) = false := by simpa using hlt2
              clear heq
              have HOWN0 : Hid (∀ q, ((wo.drewN q).alloc (.cells #[] 3)).ownsRow wo.heap.size 3 1 (.slice (some ⟨wo.heap.size, 0, none⟩) 0 0) 0 []) := fun q => World.ownsRow_made (base := wo.heap.size) (e := 3) (size := 1) (wo.drewN q) #[] 0 (Nat.le_refl _) (by decide) rfl
              have HROW0 : Hid (∀ q, Row ((wo.drewN q).alloc (.cells #[] 3)) wo.heap.size (some ⟨b1, o1, none⟩) (i64s (acc.take p))) := fun q => by
                have h1 := (HROW.out.take p).below ((below_drews (Below.refl wo.heap.size wo) q).alloc (Nat.le_refl _) (.cells #[] 3)) (Nat.le_refl _)
                rwa [← List.map_take] at h1
              have HPL : Hid (p = (i64s (acc.take p)).length) := by show p = _; simp; omega
              have HS0 : Hid (([] : List Value).length + (i64s (acc.take p)).length ≤ 2000000) := by show _ ≤ _; simp; omega
              have HS1 : Hid (([] ++ i64s (acc.take p)).length ≤ 2000000) := by show _ ≤ _; simp; omega
              have HS2 : Hid ((([] ++ i64s (acc.take p)) ++ [Value.int .i64 z]).length + (i64s (acc.drop p)).length ≤ 2000000) := by show _ ≤ _; simp; omega
              have HROWC : Hid (∀ W, Below wo.heap.size wo W → Row W wo.heap.size (some ⟨b1, o1 + p, none⟩) (i64s (acc.drop p))) := fun W hW => by
                have h1 := (HROW.out.drop (k := p) (c := (i64s acc).length + p + 1) (by omega)).below hW (Nat.le_refl _)
                rw [if_neg (by omega), ← List.map_drop] at h1
                simpa [Addr.add_lit] using h1
              go_wp2
              go_quiet (fail)
              go_wp2
              go_quiet (fail)
              go_wp2_with (first
                | (at_builtin; refine wpList_cat 58 3 (.int .i64 0) 8 Tryd.underlying58 Tryd.info3 rfl (by decide) rfl (.tmp 50) (.tmp 53) rfl wo.heap.size wo.heap.size _ [] (i64s (acc.take p)) (some ⟨b1, o1, none⟩) c1 (one_i64s _) HNIL.out (HOWN0.out _) (HROW0.out _) (by show wo.heap.size ≤ ((wo.drewN _).alloc _).heap.size; simp) HS0.out rfl rfl HPL.out ?_; intro v4 w2 hown2 hb2 hB2; have k2 : Below wo.heap.size wo w2 := ((below_drews (Below.refl wo.heap.size wo) _).alloc (Nat.le_refl _) _).trans hb2; have b2 := (k2.cell (p := ⟨w.heap.size, 0, none⟩) (by show w.heap.size < wo.heap.size; omega)).trans b0; have ez2 := (k2.cell (p := ⟨b, o + k * 10 + 1, none⟩) (by show b < wo.heap.size; omega)).trans ez)
                | (at_builtin; refine wpList_push 58 3 (.int .i64 0) 8 Tryd.underlying58 Tryd.info3 rfl (by decide) rfl (.tmp 55) (.tmp 62) rfl wo.heap.size _ ([] ++ i64s (acc.take p)) (.int .i64 z) rfl hown2 hB2 HS1.out rfl rfl ?_; intro v5 w3 hown3 hb3 hB3; have k3 : Below wo.heap.size wo w3 := k2.trans hb3; have HCUT := Lib.hid (HROWC.out w3 k3))
                | (at_builtin; refine wpList_cat 58 3 (.int .i64 0) 8 Tryd.underlying58 Tryd.info3 rfl (by decide) rfl (.tmp 64) (.tmp 67) rfl wo.heap.size wo.heap.size _ (([] ++ i64s (acc.take p)) ++ [Value.int .i64 z]) (i64s (acc.drop p)) _ _ (one_i64s _) (fun h => by cases h) hown3 (HCUT.out) hB3 HS2.out rfl rfl (by simp only [List.length_map, List.length_drop] <;> omega) ?_; intro v6 w4 hown4 hb4 hB4))
              go_roundw
              case rel => exact ⟨k + 1, by omega, by go_num, by rw [HZ.out, HIN.out]; exact own_mono (by simpa using hown4) hzr, hbr.trans ((k3.trans hb4).mono (by omega))⟩
              case measure => simp [intOf]; omega
        · have hpe : p = acc.length := by omega
          have HIN : Hid (insZ z acc = acc.take p ++ [z] ++ acc.drop p) := (insZ_at z acc p hp (fun j hj => HLOW.out j (by omega) hj) (fun h => absurd h hpl)).trans (by rw [dif_neg hpl])
          have HDR : Hid (acc.drop p = []) := by show acc.drop p = []; simp; omega
          have hd1 : decide ((p : Int) < (acc.length : Int)) = false := decide_eq_false (by omega)
          have hd3 : decide (p < acc.length) = false := decide_eq_false hpl
          rcases A1 with _ | a1
          · obtain rfl : c1 = 0 := HNIL.out rfl
            obtain rfl : acc = [] := List.eq_nil_of_length_eq_zero (by omega)
            obtain rfl : p = 0 := by simpa using hpe
            clear hpe hd1 hd3 hp hpl hc1 hml
            have HOWN0 : Hid (∀ q, ((wo.drewN q).alloc (.cells #[] 3)).ownsRow wo.heap.size 3 1 (.slice (some ⟨wo.heap.size, 0, none⟩) 0 0) 0 []) := fun q => World.ownsRow_made (base := wo.heap.size) (e := 3) (size := 1) (wo.drewN q) #[] 0 (Nat.le_refl _) (by decide) rfl
            go_wp2
            go_quiet (fail)
            go_wp2
            go_quiet (fail)
            go_wp2_with (first
              | (at_builtin; refine wpList_cat 58 3 (.int .i64 0) 8 Tryd.underlying58 Tryd.info3 rfl (by decide) rfl (.tmp 50) (.tmp 53) rfl wo.heap.size wo.heap.size _ [] [] none 0 (fun _ h => by simp at h) (fun _ => rfl) (HOWN0.out _) Row.nil (by show wo.heap.size ≤ ((wo.drewN _).alloc _).heap.size; simp) (by simp) rfl rfl rfl ?_; intro v4 w2 hown2 hb2 hB2; have k2 : Below wo.heap.size wo w2 := ((below_drews (Below.refl wo.heap.size wo) _).alloc (Nat.le_refl _) _).trans hb2; have b2 := (k2.cell (p := ⟨w.heap.size, 0, none⟩) (by show w.heap.size < wo.heap.size; omega)).trans b0; have ez2 := (k2.cell (p := ⟨b, o + k * 10 + 1, none⟩) (by show b < wo.heap.size; omega)).trans ez)
              | (at_builtin; refine wpList_push 58 3 (.int .i64 0) 8 Tryd.underlying58 Tryd.info3 rfl (by decide) rfl (.tmp 55) (.tmp 62) rfl wo.heap.size _ ([] ++ []) (.int .i64 z) rfl hown2 hB2 (by simp) rfl rfl ?_; intro v5 w3 hown3 hb3 hB3; have k3 : Below wo.heap.size wo w3 := k2.trans hb3)
              | (at_builtin; refine wpList_cat 58 3 (.int .i64 0) 8 Tryd.underlying58 Tryd.info3 rfl (by decide) rfl (.tmp 64) (.tmp 67) rfl wo.heap.size wo.heap.size _ (([] ++ []) ++ [Value.int .i64 z]) [] none 0 (fun _ h => by simp at h) (fun _ => rfl) hown3 Row.nil hB3 (by simp) rfl rfl rfl ?_; intro v6 w4 hown4 hb4 hB4))
            go_roundw
            case rel => exact ⟨k + 1, by omega, by go_num, by rw [HZ.out, HIN.out]; exact own_mono (by simpa using hown4) hzr, hbr.trans ((k3.trans hb4).mono (by omega))⟩
            case measure => simp [intOf]; omega
          · clear hpe
            by_cases hcp : c1 = p
            · obtain rfl : p = c1 := hcp.symm
              have HOWN0 : Hid (∀ q, ((wo.drewN q).alloc (.cells #[] 3)).ownsRow wo.heap.size 3 1 (.slice (some ⟨wo.heap.size, 0, none⟩) 0 0) 0 []) := fun q => World.ownsRow_made (base := wo.heap.size) (e := 3) (size := 1) (wo.drewN q) #[] 0 (Nat.le_refl _) (by decide) rfl
              have HROW0 : Hid (∀ q, Row ((wo.drewN q).alloc (.cells #[] 3)) wo.heap.size (some a1) (i64s (acc.take p))) := fun q => by
                have h1 := (HROW.out.take p).below ((below_drews (Below.refl wo.heap.size wo) q).alloc (Nat.le_refl _) (.cells #[] 3)) (Nat.le_refl _)
                rwa [← List.map_take] at h1
              have HPL : Hid (p = (i64s (acc.take p)).length) := by show p = _; simp; omega
              have HS0 : Hid (([] : List Value).length + (i64s (acc.take p)).length ≤ 2000000) := by show _ ≤ _; simp; omega
              have HS1 : Hid (([] ++ i64s (acc.take p)).length ≤ 2000000) := by show _ ≤ _; simp; omega
              have HS2 : Hid ((([] ++ i64s (acc.take p)) ++ [Value.int .i64 z]).length + (i64s (acc.drop p)).length ≤ 2000000) := by show _ ≤ _; simp; omega
              have HROWC : Hid (∀ W, Below wo.heap.size wo W → ∀ A', Row W wo.heap.size A' (i64s (acc.drop p))) := fun W _ A' => by rw [HDR.out]; exact Row.nil
              go_wp2
              go_quiet (fail)
              go_wp2
              go_quiet (fail)
              go_wp2_with (first
                | (at_builtin; refine wpList_cat 58 3 (.int .i64 0) 8 Tryd.underlying58 Tryd.info3 rfl (by decide) rfl (.tmp 50) (.tmp 53) rfl wo.heap.size wo.heap.size _ [] (i64s (acc.take p)) (some a1) p (one_i64s _) HNIL.out (HOWN0.out _) (HROW0.out _) (by show wo.heap.size ≤ ((wo.drewN _).alloc _).heap.size; simp) HS0.out rfl rfl HPL.out ?_; intro v4 w2 hown2 hb2 hB2; have k2 : Below wo.heap.size wo w2 := ((below_drews (Below.refl wo.heap.size wo) _).alloc (Nat.le_refl _) _).trans hb2; have b2 := (k2.cell (p := ⟨w.heap.size, 0, none⟩) (by show w.heap.size < wo.heap.size; omega)).trans b0; have ez2 := (k2.cell (p := ⟨b, o + k * 10 + 1, none⟩) (by show b < wo.heap.size; omega)).trans ez)
                | (at_builtin; refine wpList_push 58 3 (.int .i64 0) 8 Tryd.underlying58 Tryd.info3 rfl (by decide) rfl (.tmp 55) (.tmp 62) rfl wo.heap.size _ ([] ++ i64s (acc.take p)) (.int .i64 z) rfl hown2 hB2 HS1.out rfl rfl ?_; intro v5 w3 hown3 hb3 hB3; have k3 : Below wo.heap.size wo w3 := k2.trans hb3; have HCUT := Lib.hid (HROWC.out w3 k3))
                | (at_builtin; refine wpList_cat 58 3 (.int .i64 0) 8 Tryd.underlying58 Tryd.info3 rfl (by decide) rfl (.tmp 64) (.tmp 67) rfl wo.heap.size wo.heap.size _ (([] ++ i64s (acc.take p)) ++ [Value.int .i64 z]) (i64s (acc.drop p)) _ _ (one_i64s _) (fun h => by first | cases h | exact Nat.sub_eq_zero_of_le (by omega)) hown3 (HCUT.out _) hB3 HS2.out rfl rfl (by simp only [List.length_map, List.length_drop] <;> omega) ?_; intro v6 w4 hown4 hb4 hB4))
              all_goals
                go_roundw
                case rel => exact ⟨k + 1, by omega, by go_num, by rw [HZ.out, HIN.out]; exact own_mono (by simpa [HDR.out] using hown4) hzr, hbr.trans ((k3.trans hb4).mono (by omega))⟩
                case measure => simp [intOf]; omega
            · clear HZE
              have HOWN0 : Hid (∀ q, ((wo.drewN q).alloc (.cells #[] 3)).ownsRow wo.heap.size 3 1 (.slice (some ⟨wo.heap.size, 0, none⟩) 0 0) 0 []) := fun q => World.ownsRow_made (base := wo.heap.size) (e := 3) (size := 1) (wo.drewN q) #[] 0 (Nat.le_refl _) (by decide) rfl
              have HROW0 : Hid (∀ q, Row ((wo.drewN q).alloc (.cells #[] 3)) wo.heap.size (some a1) (i64s (acc.take p))) := fun q => by
                have h1 := (HROW.out.take p).below ((below_drews (Below.refl wo.heap.size wo) q).alloc (Nat.le_refl _) (.cells #[] 3)) (Nat.le_refl _)
                rwa [← List.map_take] at h1
              have HPL : Hid (p = (i64s (acc.take p)).length) := by show p = _; simp; omega
              have HS0 : Hid (([] : List Value).length + (i64s (acc.take p)).length ≤ 2000000) := by show _ ≤ _; simp; omega
              have HS1 : Hid (([] ++ i64s (acc.take p)).length ≤ 2000000) := by show _ ≤ _; simp; omega
              have HS2 : Hid ((([] ++ i64s (acc.take p)) ++ [Value.int .i64 z]).length + (i64s (acc.drop p)).length ≤ 2000000) := by show _ ≤ _; simp; omega
              have HROWC : Hid (∀ W, Below wo.heap.size wo W → ∀ A', Row W wo.heap.size A' (i64s (acc.drop p))) := fun W _ A' => by rw [HDR.out]; exact Row.nil
              go_wp2
              go_quiet (fail)
              go_wp2
              go_quiet (fail)
              go_wp2_with (first
                | (at_builtin; refine wpList_cat 58 3 (.int .i64 0) 8 Tryd.underlying58 Tryd.info3 rfl (by decide) rfl (.tmp 50) (.tmp 53) rfl wo.heap.size wo.heap.size _ [] (i64s (acc.take p)) (some a1) c1 (one_i64s _) HNIL.out (HOWN0.out _) (HROW0.out _) (by show wo.heap.size ≤ ((wo.drewN _).alloc _).heap.size; simp) HS0.out rfl rfl HPL.out ?_; intro v4 w2 hown2 hb2 hB2; have k2 : Below wo.heap.size wo w2 := ((below_drews (Below.refl wo.heap.size wo) _).alloc (Nat.le_refl _) _).trans hb2; have b2 := (k2.cell (p := ⟨w.heap.size, 0, none⟩) (by show w.heap.size < wo.heap.size; omega)).trans b0; have ez2 := (k2.cell (p := ⟨b, o + k * 10 + 1, none⟩) (by show b < wo.heap.size; omega)).trans ez)
                | (at_builtin; refine wpList_push 58 3 (.int .i64 0) 8 Tryd.underlying58 Tryd.info3 rfl (by decide) rfl (.tmp 55) (.tmp 62) rfl wo.heap.size _ ([] ++ i64s (acc.take p)) (.int .i64 z) rfl hown2 hB2 HS1.out rfl rfl ?_; intro v5 w3 hown3 hb3 hB3; have k3 : Below wo.heap.size wo w3 := k2.trans hb3; have HCUT := Lib.hid (HROWC.out w3 k3))
                | (at_builtin; refine wpList_cat 58 3 (.int .i64 0) 8 Tryd.underlying58 Tryd.info3 rfl (by decide) rfl (.tmp 64) (.tmp 67) rfl wo.heap.size wo.heap.size _ (([] ++ i64s (acc.take p)) ++ [Value.int .i64 z]) (i64s (acc.drop p)) _ _ (one_i64s _) (fun h => by first | cases h | exact Nat.sub_eq_zero_of_le (by omega)) hown3 (HCUT.out _) hB3 HS2.out rfl rfl (by simp only [List.length_map, List.length_drop] <;> omega) ?_; intro v6 w4 hown4 hb4 hB4))
              all_goals
                go_roundw
                case rel => exact ⟨k + 1, by omega, by go_num, by rw [HZ.out, HIN.out]; exact own_mono (by simpa [HDR.out] using hown4) hzr, hbr.trans ((k3.trans hb4).mono (by omega))⟩
                case measure => simp [intOf]; omega
    · have HK : Hid (l.take k = l) := List.take_of_length_le (by have := HN.out; omega)
      have kw : Below w.heap.size w wo := ((Below.refl _ w).alloc (Nat.le_refl _) _).trans (hbr.mono (by omega))
      go_wp2
      go_ret
      exact ⟨_, rfl, by rw [HK.out] at hown; exact hown, kw⟩
end Go.Proofs.YtaeklohgheildaaDoor
