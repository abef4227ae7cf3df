/- Joined texts, part 12: CZ EZ BA BB EP. -/
import Derived.Test.YtiinnoahopnkcaaGreatDoorZ04
import Derived.Test.YtiinnoahopnkcaaGreatDoorZ01
import Derived.Deep.QuietTactic
import Derived.BigQuiet
import Derived.Test.YtiinnoahopnkcaaGreatDoorZ08
import Derived.Test.YtiinnoahopnkcaaGreatDoorZ06
import Derived.Test.YtiinnoahopnkcaaGreatDoorZ10
import Derived.Shelf.Sort.Plain
import Derived.Shelf.Slices.CompactI
import Derived.Shelf.Slices.In.SortNone
import Derived.Shelf.Slices.SearchI
import Derived.Shelf.Slices.Turned
import Derived.Test.YtiinnoahopnkcaaGreatDoorProg

/- dunnageref03.Zones. -/
namespace Go.Proofs.YtiinnoahopnkcaaGreatDoor
set_option linter.unusedSimpArgs false
open Go.RowKit
set_option linter.unusedVariables false

abbrev i64s (l : List Int) : List Value := l.map (Value.int .i64)
theorem one_i64s (l : List Int) : ∀ u ∈ i64s l, u.oneCell' = true := by
  intro u hu; simp at hu; obtain ⟨x, _, rfl⟩ := hu; rfl
theorem Tryz.info3 : (Tryz.prog.info? 3).map (fun i => (i.zero, i.size, i.bytes)) = some (some (.int .i64 0), 1, 8) := by kernel_rfl

theorem insZ_at (z : Int) : ∀ (acc : List Int) (p : Nat) (hp : p ≤ acc.length), (∀ j (hj : j < p), acc[j]'(by omega) < z) → (∀ h : p < acc.length, ¬ acc[p] < z) →
    insZ z acc = if h : p < acc.length then (if acc[p] = z then acc else acc.take p ++ [z] ++ acc.drop p) else acc.take p ++ [z] ++ acc.drop p
  | [], p, hp, _, _ => by
    obtain rfl : p = 0 := by simpa using hp
    simp [insZ]
  | y :: r, 0, _, _, hn => by
    have h0 : ¬ y < z := hn (by simp)
    simp only [insZ, if_neg h0]
    by_cases e : y = z <;> simp [e]
  | y :: r, p + 1, hp, hl, hn => by
    have h0 : y < z := hl 0 (by omega)
    have ih := insZ_at z r p (by simpa using hp) (fun j hj => hl (j + 1) (by omega)) (fun h => hn (by simpa using h))
    simp only [insZ, if_pos h0, ih]
    by_cases hpl : p < r.length
    · have : p + 1 < (y :: r).length := by simpa using hpl
      simp only [hpl, this, dite_true, List.getElem_cons_succ]
      split <;> simp
    · have : ¬ p + 1 < (y :: r).length := by simpa using hpl
      simp only [hpl, this, dite_false]
      simp
theorem zones_next (l : List NodeD) (k : Nat) (h : k < l.length) : zonesOf (l.take (k + 1)) = insZ l[k].zone (zonesOf (l.take k)) := by
  unfold zonesOf
  rw [List.take_succ_eq_append_getElem h, List.foldl_append]
  rfl
theorem below_drews {B : Nat} {a w : World} (h : Below B a w) (n : Nat) : Below B a (w.drewN n) := ⟨h.os, h.tape, h.output, h.size, h.block⟩
theorem box_cells' {w wr : World} {x y z : Value} {t : TypeId} (hb : Below (w.heap.size + 1) (w.alloc (.cells #[x, y, z] t)) wr) : wr.cell? ⟨w.heap.size, 0, none⟩ = some x := by
  rw [hb.cell (by show w.heap.size < w.heap.size + 1; omega)]
  simp
theorem own_mono {w : World} {base base' n : Nat} {e : TypeId} {v : Value} {xs : List Value} (h : w.ownsRow base e 1 v n xs) (hb : base' ≤ base) : w.ownsRow base' e 1 v n xs := by
  refine ⟨h.1, ?_⟩
  rcases h.2 with h0 | ⟨g, cap, cur, h1, h2, rest⟩
  · exact .inl h0
  · exact .inr ⟨g, cap, cur, h1, Nat.le_trans hb h2, rest⟩
def ZRel (l : List NodeD) (W : World) (B : Nat) (v i : Value) (wr : World) : Prop :=
  ∃ k : Nat, k ≤ l.length ∧ i = .int .i64 k ∧ wr.ownsRow B 3 1 v (i64s (zonesOf (l.take k))).length (i64s (zonesOf (l.take k))) ∧ Below B W wr
def ZIn (acc : List Int) (z : Int) (wo : World) (i : Value) (wr : World) : Prop :=
  ∃ p q : Nat, p ≤ acc.length ∧ i = .int .i64 p ∧ wr = wo.drewN q ∧ ∀ j (hj : j < acc.length), j < p → acc[j] < z
def ZonesTo (l : List NodeD) (w : World) (e : Ending) (w' : World) : Prop :=
  ∃ v, e = .returned v ∧ w'.ownsRow (w.heap.size + 1) 3 1 v (i64s (zonesOf l)).length (i64s (zonesOf l)) ∧ Below w.heap.size w w'

set_option maxHeartbeats 6400000 in
set_option maxRecDepth 100000 in
theorem rZones_any (l : List NodeD) (A : Option Addr) (n c B : Nat) (v2 v3 : Value) (w : World) (hn : n = l.length) (hl : n ≤ 40) (hB : B ≤ w.heap.size) (hr : Recs 10 cellsN w B A l) :
    Calls Tryz.prog 107 #[.agg #[.slice A n c, v2, v3]] w (ZonesTo l w) := by
  have HR := Lib.hid hr
  have HN := Lib.hid hn
  clear hr hn
  go_enter Tryz.func107, Tryz.ntmps107
  go_wp2
  go_loopw [3, 4] (ZRel l (w.alloc (.cells #[.slice A n c, v2, v3] 26)) (w.heap.size + 1)) (fun _ i _ => n - (intOf i).toNat)
  case atStart => exact ⟨0, by omega, rfl, World.ownsRow_nil _ _ _ _, Below.refl _ _⟩
  case round =>
    obtain ⟨k, hk, rfl, hown, hbr⟩ := hrel
    obtain ⟨wo, rfl⟩ : ∃ wo : World, wo = wr := ⟨_, rfl⟩
    have b0 := box_cells' hbr
    have hzr : w.heap.size + 1 ≤ wo.heap.size := by have := hbr.size; simpa using this
    by_cases hlt : k < n
    · have hkl : k < l.length := by have := HN.out; omega
      obtain ⟨b, o, rfl, hb, hcell⟩ := HR.out.at hkl
      have ez : wo.cell? ⟨b, o + k * 10 + 1, none⟩ = some (.int .i64 l[k].zone) := by
        rw [hbr.cell (p := ⟨b, o + k * 10 + 1, none⟩) (by show b < w.heap.size + 1; omega), World.cell?_alloc_lt _ _ _ (by show b < w.heap.size; omega)]
        exact hcell 1 _ rfl
      clear hcell
      have HZ := Lib.hid (zones_next l k hkl)
      have hzl := zones_fold (l.take k) [] trivial
      have hml : (zonesOf (l.take k)).length ≤ 40 := by
        have h1 := hzl.2.1
        have h2 := List.length_take_le k l
        show (List.foldl _ [] (l.take k)).length ≤ 40
        simp only [List.length_nil] at h1
        omega
      clear hzl
      generalize hze : l[k].zone = z at *
      generalize hacc : zonesOf (l.take k) = acc at *
      obtain ⟨A1, c1, rfl, hc1, _, hnil⟩ := own_form hown
      have HNIL := Lib.hid (fun h => (hnil h).2)
      clear hnil
      have HROW := Lib.hid (Row.of_own hown).1
      have hml' : (i64s acc).length = acc.length := by simp
      rw [hml'] at hc1 ⊢
      have HZE := Lib.hid hze
      have HAC := Lib.hid hacc
      have HOW := Lib.hid hown
      clear hze hacc hown hml'
      go_wp2
      go_loopw [5] (ZIn acc z wo) (fun i _ => acc.length - (intOf i).toNat)
      case atStart => exact ⟨0, 0, by omega, rfl, rfl, fun j _ h => by omega⟩
      case round =>
        obtain ⟨p, q, hp, rfl, rfl, hlow⟩ := hrel
        have HLOW := Lib.hid hlow
        clear hlow
        by_cases hpl : p < acc.length
        · obtain ⟨b1, o1, rfl, hb1, hcell1⟩ := HROW.out.at (k := p) (by simpa using hpl)
          have ec := hcell1 p (by simpa using hpl)
          simp only [List.getElem_map] at ec
          clear hcell1
          have hp0 : (0 : Int) ≤ (p : Int) := by omega
          have hp1 : (p : Int) < (acc.length : Int) := by omega
          have hk0 : (0 : Int) ≤ (k : Int) := by omega
          have hk1 : (k : Int) < (n : Int) := by omega
          by_cases hlt2 : acc[p] < z
          · have HNX : Hid (∀ j (hj : j < acc.length), j < p + 1 → acc[j] < z) := fun j hj h => by
              by_cases e : j = p
              · subst e; exact hlt2
              · exact HLOW.out j hj (by omega)
            go_wp2
            go_quiet (fail)
            go_wp2
            go_roundw
            case rel => exact ⟨p + 1, _, by omega, by go_num, rfl, HNX.out⟩
            case measure => simp [intOf]; omega
          · by_cases heq : acc[p] = z
            · have HIN : Hid (insZ z acc = acc) := (insZ_at z acc p hp (fun j hj => HLOW.out j (by omega) hj) (fun _ => hlt2)).trans (by rw [dif_pos hpl, if_pos heq])
              have heb : (acc[p] == z) = true := by simpa using heq
              have hd2 : decide (acc[p] < z) = false := by simpa using hlt2
              clear heq
              go_wp2
              go_quiet (fail)
              go_wp2
              go_quiet (fail)
              go_wp2
              go_roundw
              case rel => exact ⟨k + 1, by omega, by go_num, by rw [HZ.out, HIN.out]; exact (by simpa using HOW.out : wo.ownsRow (w.heap.size + 1) 3 1 (.slice (some ⟨b1, o1, none⟩) acc.length c1) (i64s acc).length (i64s acc)), below_drews hbr _⟩
              case measure => simp [intOf]; omega
            · have HIN : Hid (insZ z acc = acc.take p ++ [z] ++ acc.drop p) := (insZ_at z acc p hp (fun j hj => HLOW.out j (by omega) hj) (fun _ => hlt2)).trans (by rw [dif_pos hpl, if_neg heq])
              have heb : (acc[p] == z) = false := by simpa using heq
              have hd2 : decide (acc[p] < z) = false := by simpa using hlt2
              clear heq
              have HOWN0 : Hid (∀ q, ((wo.drewN q).alloc (.cells #[] 3)).ownsRow wo.heap.size 3 1 (.slice (some ⟨wo.heap.size, 0, none⟩) 0 0) 0 []) := fun q => World.ownsRow_made (base := wo.heap.size) (e := 3) (size := 1) (wo.drewN q) #[] 0 (Nat.le_refl _) (by decide) rfl
              have HROW0 : Hid (∀ q, Row ((wo.drewN q).alloc (.cells #[] 3)) wo.heap.size (some ⟨b1, o1, none⟩) (i64s (acc.take p))) := fun q => by
                have h1 := (HROW.out.take p).below ((below_drews (Below.refl wo.heap.size wo) q).alloc (Nat.le_refl _) (.cells #[] 3)) (Nat.le_refl _)
                rwa [← List.map_take] at h1
              have HPL : Hid (p = (i64s (acc.take p)).length) := by show p = _; simp; omega
              have HS0 : Hid (([] : List Value).length + (i64s (acc.take p)).length ≤ 2000000) := by show _ ≤ _; simp; omega
              have HS1 : Hid (([] ++ i64s (acc.take p)).length ≤ 2000000) := by show _ ≤ _; simp; omega
              have HS2 : Hid ((([] ++ i64s (acc.take p)) ++ [Value.int .i64 z]).length + (i64s (acc.drop p)).length ≤ 2000000) := by show _ ≤ _; simp; omega
              have HROWC : Hid (∀ W, Below wo.heap.size wo W → Row W wo.heap.size (some ⟨b1, o1 + p, none⟩) (i64s (acc.drop p))) := fun W hW => by
                have h1 := (HROW.out.drop (k := p) (c := (i64s acc).length + p + 1) (by omega)).below hW (Nat.le_refl _)
                rw [if_neg (by omega), ← List.map_drop] at h1
                simpa [Addr.add_lit] using h1
              go_wp2
              go_quiet (fail)
              go_wp2
              go_quiet (fail)
              go_wp2_with (first
                | (at_builtin; refine wpList_cat 169 3 (.int .i64 0) 8 Tryz.underlying169 Tryz.info3 rfl (by decide) rfl (.tmp 50) (.tmp 53) rfl wo.heap.size wo.heap.size _ [] (i64s (acc.take p)) (some ⟨b1, o1, none⟩) c1 (one_i64s _) HNIL.out (HOWN0.out _) (HROW0.out _) (by show wo.heap.size ≤ ((wo.drewN _).alloc _).heap.size; simp) HS0.out rfl rfl HPL.out ?_; intro v4 w2 hown2 hb2 hB2; have k2 : Below wo.heap.size wo w2 := ((below_drews (Below.refl wo.heap.size wo) _).alloc (Nat.le_refl _) _).trans hb2; have b2 := (k2.cell (p := ⟨w.heap.size, 0, none⟩) (by show w.heap.size < wo.heap.size; omega)).trans b0; have ez2 := (k2.cell (p := ⟨b, o + k * 10 + 1, none⟩) (by show b < wo.heap.size; omega)).trans ez)
                | (at_builtin; refine wpList_push 169 3 (.int .i64 0) 8 Tryz.underlying169 Tryz.info3 rfl (by decide) rfl (.tmp 55) (.tmp 62) rfl wo.heap.size _ ([] ++ i64s (acc.take p)) (.int .i64 z) rfl hown2 hB2 HS1.out rfl rfl ?_; intro v5 w3 hown3 hb3 hB3; have k3 : Below wo.heap.size wo w3 := k2.trans hb3; have HCUT := Lib.hid (HROWC.out w3 k3))
                | (at_builtin; refine wpList_cat 169 3 (.int .i64 0) 8 Tryz.underlying169 Tryz.info3 rfl (by decide) rfl (.tmp 64) (.tmp 67) rfl wo.heap.size wo.heap.size _ (([] ++ i64s (acc.take p)) ++ [Value.int .i64 z]) (i64s (acc.drop p)) _ _ (one_i64s _) (fun h => by cases h) hown3 (HCUT.out) hB3 HS2.out rfl rfl (by simp only [List.length_map, List.length_drop] <;> omega) ?_; intro v6 w4 hown4 hb4 hB4))
              go_roundw
              case rel => exact ⟨k + 1, by omega, by go_num, by rw [HZ.out, HIN.out]; exact own_mono (by simpa using hown4) hzr, hbr.trans ((k3.trans hb4).mono (by omega))⟩
              case measure => simp [intOf]; omega
        · have hpe : p = acc.length := by omega
          have HIN : Hid (insZ z acc = acc.take p ++ [z] ++ acc.drop p) := (insZ_at z acc p hp (fun j hj => HLOW.out j (by omega) hj) (fun h => absurd h hpl)).trans (by rw [dif_neg hpl])
          have HDR : Hid (acc.drop p = []) := by show acc.drop p = []; simp; omega
          have hd1 : decide ((p : Int) < (acc.length : Int)) = false := decide_eq_false (by omega)
          have hd3 : decide (p < acc.length) = false := decide_eq_false hpl
          rcases A1 with _ | a1
          · obtain rfl : c1 = 0 := HNIL.out rfl
            obtain rfl : acc = [] := List.eq_nil_of_length_eq_zero (by omega)
            obtain rfl : p = 0 := by simpa using hpe
            clear hpe hd1 hd3 hp hpl hc1 hml
            have HOWN0 : Hid (∀ q, ((wo.drewN q).alloc (.cells #[] 3)).ownsRow wo.heap.size 3 1 (.slice (some ⟨wo.heap.size, 0, none⟩) 0 0) 0 []) := fun q => World.ownsRow_made (base := wo.heap.size) (e := 3) (size := 1) (wo.drewN q) #[] 0 (Nat.le_refl _) (by decide) rfl
            go_wp2
            go_quiet (fail)
            go_wp2
            go_quiet (fail)
            go_wp2_with (first
              | (at_builtin; refine wpList_cat 169 3 (.int .i64 0) 8 Tryz.underlying169 Tryz.info3 rfl (by decide) rfl (.tmp 50) (.tmp 53) rfl wo.heap.size wo.heap.size _ [] [] none 0 (fun _ h => by simp at h) (fun _ => rfl) (HOWN0.out _) Row.nil (by show wo.heap.size ≤ ((wo.drewN _).alloc _).heap.size; simp) (by simp) rfl rfl rfl ?_; intro v4 w2 hown2 hb2 hB2; have k2 : Below wo.heap.size wo w2 := ((below_drews (Below.refl wo.heap.size wo) _).alloc (Nat.le_refl _) _).trans hb2; have b2 := (k2.cell (p := ⟨w.heap.size, 0, none⟩) (by show w.heap.size < wo.heap.size; omega)).trans b0; have ez2 := (k2.cell (p := ⟨b, o + k * 10 + 1, none⟩) (by show b < wo.heap.size; omega)).trans ez)
              | (at_builtin; refine wpList_push 169 3 (.int .i64 0) 8 Tryz.underlying169 Tryz.info3 rfl (by decide) rfl (.tmp 55) (.tmp 62) rfl wo.heap.size _ ([] ++ []) (.int .i64 z) rfl hown2 hB2 (by simp) rfl rfl ?_; intro v5 w3 hown3 hb3 hB3; have k3 : Below wo.heap.size wo w3 := k2.trans hb3)
              | (at_builtin; refine wpList_cat 169 3 (.int .i64 0) 8 Tryz.underlying169 Tryz.info3 rfl (by decide) rfl (.tmp 64) (.tmp 67) rfl wo.heap.size wo.heap.size _ (([] ++ []) ++ [Value.int .i64 z]) [] none 0 (fun _ h => by simp at h) (fun _ => rfl) hown3 Row.nil hB3 (by simp) rfl rfl rfl ?_; intro v6 w4 hown4 hb4 hB4))
            go_roundw
            case rel => exact ⟨k + 1, by omega, by go_num, by rw [HZ.out, HIN.out]; exact own_mono (by simpa using hown4) hzr, hbr.trans ((k3.trans hb4).mono (by omega))⟩
            case measure => simp [intOf]; omega
          · clear hpe
            by_cases hcp : c1 = p
            · obtain rfl : p = c1 := hcp.symm
              have HOWN0 : Hid (∀ q, ((wo.drewN q).alloc (.cells #[] 3)).ownsRow wo.heap.size 3 1 (.slice (some ⟨wo.heap.size, 0, none⟩) 0 0) 0 []) := fun q => World.ownsRow_made (base := wo.heap.size) (e := 3) (size := 1) (wo.drewN q) #[] 0 (Nat.le_refl _) (by decide) rfl
              have HROW0 : Hid (∀ q, Row ((wo.drewN q).alloc (.cells #[] 3)) wo.heap.size (some a1) (i64s (acc.take p))) := fun q => by
                have h1 := (HROW.out.take p).below ((below_drews (Below.refl wo.heap.size wo) q).alloc (Nat.le_refl _) (.cells #[] 3)) (Nat.le_refl _)
                rwa [← List.map_take] at h1
              have HPL : Hid (p = (i64s (acc.take p)).length) := by show p = _; simp; omega
              have HS0 : Hid (([] : List Value).length + (i64s (acc.take p)).length ≤ 2000000) := by show _ ≤ _; simp; omega
              have HS1 : Hid (([] ++ i64s (acc.take p)).length ≤ 2000000) := by show _ ≤ _; simp; omega
              have HS2 : Hid ((([] ++ i64s (acc.take p)) ++ [Value.int .i64 z]).length + (i64s (acc.drop p)).length ≤ 2000000) := by show _ ≤ _; simp; omega
              have HROWC : Hid (∀ W, Below wo.heap.size wo W → ∀ A', Row W wo.heap.size A' (i64s (acc.drop p))) := fun W _ A' => by rw [HDR.out]; exact Row.nil
              go_wp2
              go_quiet (fail)
              go_wp2
              go_quiet (fail)
              go_wp2_with (first
                | (at_builtin; refine wpList_cat 169 3 (.int .i64 0) 8 Tryz.underlying169 Tryz.info3 rfl (by decide) rfl (.tmp 50) (.tmp 53) rfl wo.heap.size wo.heap.size _ [] (i64s (acc.take p)) (some a1) p (one_i64s _) HNIL.out (HOWN0.out _) (HROW0.out _) (by show wo.heap.size ≤ ((wo.drewN _).alloc _).heap.size; simp) HS0.out rfl rfl HPL.out ?_; intro v4 w2 hown2 hb2 hB2; have k2 : Below wo.heap.size wo w2 := ((below_drews (Below.refl wo.heap.size wo) _).alloc (Nat.le_refl _) _).trans hb2; have b2 := (k2.cell (p := ⟨w.heap.size, 0, none⟩) (by show w.heap.size < wo.heap.size; omega)).trans b0; have ez2 := (k2.cell (p := ⟨b, o + k * 10 + 1, none⟩) (by show b < wo.heap.size; omega)).trans ez)
                | (at_builtin; refine wpList_push 169 3 (.int .i64 0) 8 Tryz.underlying169 Tryz.info3 rfl (by decide) rfl (.tmp 55) (.tmp 62) rfl wo.heap.size _ ([] ++ i64s (acc.take p)) (.int .i64 z) rfl hown2 hB2 HS1.out rfl rfl ?_; intro v5 w3 hown3 hb3 hB3; have k3 : Below wo.heap.size wo w3 := k2.trans hb3; have HCUT := Lib.hid (HROWC.out w3 k3))
                | (at_builtin; refine wpList_cat 169 3 (.int .i64 0) 8 Tryz.underlying169 Tryz.info3 rfl (by decide) rfl (.tmp 64) (.tmp 67) rfl wo.heap.size wo.heap.size _ (([] ++ i64s (acc.take p)) ++ [Value.int .i64 z]) (i64s (acc.drop p)) _ _ (one_i64s _) (fun h => by first | cases h | exact Nat.sub_eq_zero_of_le (by omega)) hown3 (HCUT.out _) hB3 HS2.out rfl rfl (by simp only [List.length_map, List.length_drop] <;> omega) ?_; intro v6 w4 hown4 hb4 hB4))
              all_goals
                go_roundw
                case rel => exact ⟨k + 1, by omega, by go_num, by rw [HZ.out, HIN.out]; exact own_mono (by simpa [HDR.out] using hown4) hzr, hbr.trans ((k3.trans hb4).mono (by omega))⟩
                case measure => simp [intOf]; omega
            · clear HZE
              have HOWN0 : Hid (∀ q, ((wo.drewN q).alloc (.cells #[] 3)).ownsRow wo.heap.size 3 1 (.slice (some ⟨wo.heap.size, 0, none⟩) 0 0) 0 []) := fun q => World.ownsRow_made (base := wo.heap.size) (e := 3) (size := 1) (wo.drewN q) #[] 0 (Nat.le_refl _) (by decide) rfl
              have HROW0 : Hid (∀ q, Row ((wo.drewN q).alloc (.cells #[] 3)) wo.heap.size (some a1) (i64s (acc.take p))) := fun q => by
                have h1 := (HROW.out.take p).below ((below_drews (Below.refl wo.heap.size wo) q).alloc (Nat.le_refl _) (.cells #[] 3)) (Nat.le_refl _)
                rwa [← List.map_take] at h1
              have HPL : Hid (p = (i64s (acc.take p)).length) := by show p = _; simp; omega
              have HS0 : Hid (([] : List Value).length + (i64s (acc.take p)).length ≤ 2000000) := by show _ ≤ _; simp; omega
              have HS1 : Hid (([] ++ i64s (acc.take p)).length ≤ 2000000) := by show _ ≤ _; simp; omega
              have HS2 : Hid ((([] ++ i64s (acc.take p)) ++ [Value.int .i64 z]).length + (i64s (acc.drop p)).length ≤ 2000000) := by show _ ≤ _; simp; omega
              have HROWC : Hid (∀ W, Below wo.heap.size wo W → ∀ A', Row W wo.heap.size A' (i64s (acc.drop p))) := fun W _ A' => by rw [HDR.out]; exact Row.nil
              go_wp2
              go_quiet (fail)
              go_wp2
              go_quiet (fail)
              go_wp2_with (first
                | (at_builtin; refine wpList_cat 169 3 (.int .i64 0) 8 Tryz.underlying169 Tryz.info3 rfl (by decide) rfl (.tmp 50) (.tmp 53) rfl wo.heap.size wo.heap.size _ [] (i64s (acc.take p)) (some a1) c1 (one_i64s _) HNIL.out (HOWN0.out _) (HROW0.out _) (by show wo.heap.size ≤ ((wo.drewN _).alloc _).heap.size; simp) HS0.out rfl rfl HPL.out ?_; intro v4 w2 hown2 hb2 hB2; have k2 : Below wo.heap.size wo w2 := ((below_drews (Below.refl wo.heap.size wo) _).alloc (Nat.le_refl _) _).trans hb2; have b2 := (k2.cell (p := ⟨w.heap.size, 0, none⟩) (by show w.heap.size < wo.heap.size; omega)).trans b0; have ez2 := (k2.cell (p := ⟨b, o + k * 10 + 1, none⟩) (by show b < wo.heap.size; omega)).trans ez)
                | (at_builtin; refine wpList_push 169 3 (.int .i64 0) 8 Tryz.underlying169 Tryz.info3 rfl (by decide) rfl (.tmp 55) (.tmp 62) rfl wo.heap.size _ ([] ++ i64s (acc.take p)) (.int .i64 z) rfl hown2 hB2 HS1.out rfl rfl ?_; intro v5 w3 hown3 hb3 hB3; have k3 : Below wo.heap.size wo w3 := k2.trans hb3; have HCUT := Lib.hid (HROWC.out w3 k3))
                | (at_builtin; refine wpList_cat 169 3 (.int .i64 0) 8 Tryz.underlying169 Tryz.info3 rfl (by decide) rfl (.tmp 64) (.tmp 67) rfl wo.heap.size wo.heap.size _ (([] ++ i64s (acc.take p)) ++ [Value.int .i64 z]) (i64s (acc.drop p)) _ _ (one_i64s _) (fun h => by first | cases h | exact Nat.sub_eq_zero_of_le (by omega)) hown3 (HCUT.out _) hB3 HS2.out rfl rfl (by simp only [List.length_map, List.length_drop] <;> omega) ?_; intro v6 w4 hown4 hb4 hB4))
              all_goals
                go_roundw
                case rel => exact ⟨k + 1, by omega, by go_num, by rw [HZ.out, HIN.out]; exact own_mono (by simpa [HDR.out] using hown4) hzr, hbr.trans ((k3.trans hb4).mono (by omega))⟩
                case measure => simp [intOf]; omega
    · have HK : Hid (l.take k = l) := List.take_of_length_le (by have := HN.out; omega)
      have kw : Below w.heap.size w wo := ((Below.refl _ w).alloc (Nat.le_refl _) _).trans (hbr.mono (by omega))
      go_wp2
      go_ret
      exact ⟨_, rfl, by rw [HK.out] at hown; exact hown, kw⟩
end Go.Proofs.YtiinnoahopnkcaaGreatDoor

/- The program's Zones, from what slices.Sort and slices.Compact come to. -/
namespace Go.Proofs.YtiinnoahopnkcaaGreatDoor
set_option linter.unusedSimpArgs false
open Go.RowKit
set_option linter.unusedVariables false

abbrev sortI (zs : List Int) : List Int := zs.mergeSort fun x y => decide (x ≤ y)
/-- slices.Sort at a slice of the call's own. -/
def SortOwn : Prop := ∀ (B : Nat) (v : Value) (zs : List Int) (w : World), B ≤ w.heap.size → w.ownsRow B 3 1 v zs.length (i64s zs) → zs.length ≤ 1000 →
  Calls Tryz.prog 137 #[v] w fun e w' => e = .returned (.tuple #[]) ∧ w'.ownsRow B 3 1 v zs.length (i64s (sortI zs)) ∧ Below B w w'
def CompTo (zs : List Int) (B : Nat) (w : World) (e : Ending) (w' : World) : Prop := ∃ v', e = .returned v' ∧ w'.ownsRow B 3 1 v' (Lib.compact zs).length (i64s (Lib.compact zs)) ∧ Below B w w'
/-- slices.Compact at a slice of the call's own. -/
def CompOwn : Prop := ∀ (B : Nat) (v : Value) (zs : List Int) (w : World), B ≤ w.heap.size → w.ownsRow B 3 1 v zs.length (i64s zs) → zs.length ≤ 1000 → Calls Tryz.prog 138 #[v] w (CompTo zs B w)

def ZoRel (l : List NodeD) (W : World) (B : Nat) (v i : Value) (wr : World) : Prop :=
  ∃ k : Nat, k ≤ l.length ∧ i = .int .i64 k ∧ wr.ownsRow B 3 1 v (i64s ((l.take k).map NodeD.zone)).length (i64s ((l.take k).map NodeD.zone)) ∧ Below B W wr
theorem zones_more {l : List NodeD} {k : Nat} {nd : NodeD} (h : k < l.length) (hx : l[k] = nd) : i64s ((l.take (k + 1)).map NodeD.zone) = i64s ((l.take k).map NodeD.zone) ++ [.int .i64 nd.zone] := by
  rw [List.take_succ_eq_append_getElem h, hx]; simp

set_option maxHeartbeats 3200000 in
set_option maxRecDepth 100000 in
theorem zones_any (HS : SortOwn) (HC : CompOwn) (l : List NodeD) (A : Option Addr) (n c : Nat) (v2 v3 : Value) (w : World) (hn : n = l.length) (hl : n ≤ 1000) (hr : Recs 10 cellsN w w.heap.size A l) :
    Calls Tryz.prog 129 #[.agg #[.slice A n c, v2, v3]] w (ZonesTo l w) := by
  have HSS := Lib.hid HS
  have HCC := Lib.hid HC
  have HR := Lib.hid hr
  have HN := Lib.hid hn
  clear hr hn HS HC
  have b00 : Below w.heap.size w (w.alloc (.cells #[.slice A n c, v2, v3] 26)) := (Below.refl _ _).alloc (Nat.le_refl _) _
  go_enter Tryz.func129, Tryz.ntmps129
  go_wp2
  go_loopw [3, 9] (ZoRel l (w.alloc (.cells #[.slice A n c, v2, v3] 26)) (w.heap.size + 1)) (fun _ i _ => n - (intOf i).toNat)
  case atStart => exact ⟨0, by omega, rfl, ⟨by simp, .inl ⟨rfl, by simp⟩⟩, Below.refl _ _⟩
  case round =>
    obtain ⟨k, hk, rfl, hown, hbr⟩ := hrel
    have HOWN := Lib.hid hown
    have hzr : w.heap.size + 1 ≤ wr.heap.size := by have := hbr.size; simpa using this
    have kwr : Below w.heap.size w wr := b00.trans (hbr.mono (by omega))
    clear hown
    by_cases hlt : k < n
    · have hkl : k < l.length := by have := HN.out; omega
      obtain ⟨b, o, rfl, hb, he⟩ := HR.out.at hkl
      generalize hx : l[k] = nd at *
      have HX := Lib.hid hx
      clear hx
      have e0 : wr.cell? ⟨b, o + k * 10, none⟩ = some (.int .i64 nd.id) := (kwr.cell (p := ⟨b, o + k * 10, none⟩) hb).trans (he 0 _ rfl)
      have e1 : wr.cell? ⟨b, o + k * 10 + 1, none⟩ = some (.int .i64 nd.zone) := (kwr.cell (p := ⟨b, o + k * 10 + 1, none⟩) hb).trans (he 1 _ rfl)
      have e2 : wr.cell? ⟨b, o + k * 10 + 2, none⟩ = some (.int .u64 nd.cap.a) := (kwr.cell (p := ⟨b, o + k * 10 + 2, none⟩) hb).trans (he 2 _ rfl)
      have e3 : wr.cell? ⟨b, o + k * 10 + 3, none⟩ = some (.int .u64 nd.cap.b) := (kwr.cell (p := ⟨b, o + k * 10 + 3, none⟩) hb).trans (he 3 _ rfl)
      have e4 : wr.cell? ⟨b, o + k * 10 + 4, none⟩ = some (.int .u64 nd.cap.c) := (kwr.cell (p := ⟨b, o + k * 10 + 4, none⟩) hb).trans (he 4 _ rfl)
      have e5 : wr.cell? ⟨b, o + k * 10 + 5, none⟩ = some (.int .u64 nd.cap.d) := (kwr.cell (p := ⟨b, o + k * 10 + 5, none⟩) hb).trans (he 5 _ rfl)
      have e6 : wr.cell? ⟨b, o + k * 10 + 6, none⟩ = some (.int .u64 nd.held.a) := (kwr.cell (p := ⟨b, o + k * 10 + 6, none⟩) hb).trans (he 6 _ rfl)
      have e7 : wr.cell? ⟨b, o + k * 10 + 7, none⟩ = some (.int .u64 nd.held.b) := (kwr.cell (p := ⟨b, o + k * 10 + 7, none⟩) hb).trans (he 7 _ rfl)
      have e8 : wr.cell? ⟨b, o + k * 10 + 8, none⟩ = some (.int .u64 nd.held.c) := (kwr.cell (p := ⟨b, o + k * 10 + 8, none⟩) hb).trans (he 8 _ rfl)
      have e9 : wr.cell? ⟨b, o + k * 10 + 9, none⟩ = some (.int .u64 nd.held.d) := (kwr.cell (p := ⟨b, o + k * 10 + 9, none⟩) hb).trans (he 9 _ rfl)
      have hbw : b < wr.heap.size := by omega
      have HM := Lib.hid (zones_more hkl HX.out)
      have HL : Hid ((i64s ((l.take k).map NodeD.zone)).length ≤ 2000000) := by show _ ≤ _; simp; omega
      have k1 : Below (w.heap.size + 1) (w.alloc (.cells #[.slice (some ⟨b, o, none⟩) n c, v2, v3] 26)) (wr.alloc (.cells #[.int .i64 nd.id, .int .i64 nd.zone, .int .u64 nd.cap.a, .int .u64 nd.cap.b, .int .u64 nd.cap.c, .int .u64 nd.cap.d, .int .u64 nd.held.a, .int .u64 nd.held.b, .int .u64 nd.held.c, .int .u64 nd.held.d] 53)) := hbr.alloc hzr _
      have HO1 := Lib.hid (HOWN.out.alloc (.cells #[.int .i64 nd.id, .int .i64 nd.zone, .int .u64 nd.cap.a, .int .u64 nd.cap.b, .int .u64 nd.cap.c, .int .u64 nd.cap.d, .int .u64 nd.held.a, .int .u64 nd.held.b, .int .u64 nd.held.c, .int .u64 nd.held.d] 53))
      clear he
      go_wp2_with (at_builtin; refine wpList_push 169 3 (.int .i64 0) 8 Tryz.underlying169 Tryz.info3 rfl (by decide) rfl (.tmp 13) (.tmp 16) rfl (w.heap.size + 1) _ (i64s ((l.take k).map NodeD.zone)) (.int .i64 nd.zone) rfl HO1.out (by show w.heap.size + 1 ≤ (wr.alloc _).heap.size; simp; omega) HL.out rfl (by simp [go_sem]) ?_; intro v5 w3 hown3 hb3 hB3)
      have HO3 := Lib.hid hown3
      clear hown3
      go_wp2
      go_roundw
      case rel => exact ⟨k + 1, by omega, by go_num, by rw [HM.out]; exact HO3.out, k1.trans hb3⟩
      case measure => simp [intOf]; omega
    · have HK : Hid (l.take k = l) := List.take_of_length_le (by have := HN.out; omega)
      have HO : Hid (wr.ownsRow (w.heap.size + 1) 3 1 u3 (l.map NodeD.zone).length (i64s (l.map NodeD.zone))) := by
        have h := HOWN.out
        rw [HK.out, List.length_map (f := Value.int .i64)] at h
        exact h
      have HLL : Hid ((l.map NodeD.zone).length ≤ 1000) := by show _ ≤ _; have := HN.out; simp; omega
      go_wp2_with fail
      refine (HSS.out _ _ _ _ hzr HO.out HLL.out).mono ?_
      rintro e w1 ⟨rfl, hown1, hb1⟩
      have HO1 : Hid (w1.ownsRow (w.heap.size + 1) 3 1 u3 (sortI (l.map NodeD.zone)).length (i64s (sortI (l.map NodeD.zone)))) := by
        rw [show (sortI (l.map NodeD.zone)).length = (l.map NodeD.zone).length from List.length_mergeSort _]; exact hown1
      have HL1 : Hid ((sortI (l.map NodeD.zone)).length ≤ 1000) := by
        show _ ≤ _; rw [show (sortI (l.map NodeD.zone)).length = (l.map NodeD.zone).length from List.length_mergeSort _]; exact HLL.out
      clear hown1
      have hz1 : w.heap.size + 1 ≤ w1.heap.size := Nat.le_trans hzr hb1.size
      go_wp2_with fail
      refine (HCC.out _ _ _ _ hz1 HO1.out HL1.out).mono ?_
      rintro e w2 ⟨v', rfl, hown2, hb2⟩
      rw [zones_compact] at hown2
      have HO2 := Lib.hid hown2
      clear hown2
      have kw2 : Below w.heap.size w w2 := b00.trans (((hbr.trans hb1).trans hb2).mono (by omega))
      go_wp2
      go_ret
      exact ⟨_, rfl, by rw [List.length_map]; exact HO2.out, kw2⟩
end Go.Proofs.YtiinnoahopnkcaaGreatDoor

/- Plain mathematics of pods that may not be together. -/
namespace Go.Proofs.YtiinnoahopnkcaaGreatDoor
set_option linter.unusedSimpArgs false
open Go.RowKit
set_option linter.unusedVariables false

/-- Has the first load of this Id Apart? -/
def apartD (id : Int) : List LoadD → Bool
  | [] => false
  | x :: r => if x.id = id then x.apart else apartD id r
theorem apartD_no {id : Int} : ∀ {l : List LoadD} {k : Int}, 0 ≤ k → place LoadD.id id l k < 0 → apartD id l = false
  | [], _, _, _ => rfl
  | x :: r, k, hk, h => by
    by_cases hx : x.id = id
    · simp [place, hx] at h; omega
    · simp only [place, if_neg hx] at h
      simp only [apartD, if_neg hx]
      exact apartD_no (by omega) h
theorem apartD_yes {id : Int} : ∀ {l : List LoadD} {k : Int} {i : Nat} (hi : i < l.length), place LoadD.id id l k = k + i → 0 ≤ k → apartD id l = l[i].apart
  | [], _, _, hi, _, _ => by simp at hi
  | x :: r, k, i, hi, h, hk => by
    by_cases hx : x.id = id
    · simp only [place, if_pos hx] at h
      obtain rfl : i = 0 := by omega
      simp [apartD, hx]
    · simp only [place, if_neg hx] at h
      cases i with
      | zero =>
        have h3 : place LoadD.id id r (k + 1) < 0 ∨ k + 1 ≤ place LoadD.id id r (k + 1) := place_or r (k + 1) (by omega)
        omega
      | succ i =>
        simp only [apartD, if_neg hx, List.getElem_cons_succ]
        exact apartD_yes (by simpa using hi) (by rw [h]; omega) (by omega)
/-- Do two pods clash? -/
def clashD (ls : List LoadD) (a b : PodD) : Bool := a.node != 0 && (a.node == b.node && (a.load == b.load && apartD a.load ls))
theorem clashD_symm {ls : List LoadD} {a b : PodD} (h : clashD ls a b = true) : clashD ls b a = true := by
  simp only [clashD, Bool.and_eq_true, bne_iff_ne, beq_iff_eq] at h ⊢
  obtain ⟨h1, h2, h3, h4⟩ := h
  exact ⟨by rw [← h2]; exact h1, h2.symm, h3.symm, by rw [← h3]; exact h4⟩
theorem clashD_comm (ls : List LoadD) (a b : PodD) : clashD ls a b = clashD ls b a := by
  cases h : clashD ls a b with
  | true => exact (clashD_symm h).symm
  | false =>
    cases h2 : clashD ls b a with
    | false => rfl
    | true => rw [clashD_symm h2] at h; cases h
/-- The Id of the first pod of the list, behind k others, that is not at place i and clashes with p. -/
def clashFrom (ls : List LoadD) (p : PodD) (i : Nat) : List PodD → Nat → Int
  | [], _ => 0
  | q :: r, k => if k ≠ i ∧ clashD ls p q = true then q.id else clashFrom ls p i r (k + 1)
theorem clashFrom_at {ls : List LoadD} {p : PodD} {i : Nat} {l : List PodD} {k : Nat} {z : Int} (h : k < l.length) {q : PodD} (hx : l[k] = q) (hp : clashFrom ls p i (l.drop k) k = z) :
    (k ≠ i ∧ clashD ls p q = true → z = q.id) ∧ (k = i ∨ clashD ls p q = false → clashFrom ls p i (l.drop (k + 1)) (k + 1) = z) := by
  rw [List.drop_eq_getElem_cons h, hx, clashFrom] at hp
  constructor
  · intro e; rw [if_pos e] at hp; exact hp.symm
  · intro e
    rw [if_neg (by rcases e with e | e <;> simp [e])] at hp
    exact hp
theorem clashFrom_end {ls : List LoadD} {p : PodD} {i : Nat} {l : List PodD} {k : Nat} {z : Int} (h : l.length ≤ k) (hp : clashFrom ls p i (l.drop k) k = z) : z = 0 := by
  rw [List.drop_of_length_le h] at hp
  exact hp.symm
/-- The first other pod with which the first pod of that Id clashes; 0: none. -/
def clashOf (ls : List LoadD) (l : List PodD) (id : Int) : Int :=
  if place PodD.id id l 0 < 0 then 0 else
    match l[(place PodD.id id l 0).toNat]? with
    | none => 0
    | some p => clashFrom ls p (place PodD.id id l 0).toNat l 0
theorem clashOf_none {ls : List LoadD} {l : List PodD} {id : Int} (h : place PodD.id id l 0 < 0) : clashOf ls l id = 0 := by
  unfold clashOf
  rw [if_pos h]
theorem clashOf_some {ls : List LoadD} {l : List PodD} {id : Int} {i : Nat} (hi : i < l.length) (h : place PodD.id id l 0 = i) {p : PodD} (hp : l[i] = p) : clashOf ls l id = clashFrom ls p i l 0 := by
  unfold clashOf
  rw [if_neg (by omega), h, Int.toNat_natCast, List.getElem?_eq_getElem hi, hp]
/-- The first pod, behind k others, that clashes with one ahead of it. -/
def apartFrom (ls : List LoadD) (l : List PodD) : List PodD → Nat → Int × Int
  | [], _ => (0, -1)
  | p :: r, k => if (l.take k).any (clashD ls p) = true then (10, (k : Int)) else apartFrom ls l r (k + 1)
def apartOf (ls : List LoadD) (l : List PodD) : Int × Int := apartFrom ls l l 0
theorem apartFrom_at {ls : List LoadD} {l : List PodD} {k : Nat} {z : Int × Int} (h : k < l.length) {p : PodD} (hx : l[k] = p) (hp : apartFrom ls l (l.drop k) k = z) :
    ((l.take k).any (clashD ls p) = true → z = (10, (k : Int))) ∧ ((l.take k).any (clashD ls p) = false → apartFrom ls l (l.drop (k + 1)) (k + 1) = z) := by
  rw [List.drop_eq_getElem_cons h, hx, apartFrom] at hp
  constructor
  · intro e; rw [if_pos e] at hp; exact hp.symm
  · intro e; rw [if_neg (by rw [e]; decide)] at hp; exact hp
theorem apartFrom_end {ls : List LoadD} {l : List PodD} {k : Nat} {z : Int × Int} (h : l.length ≤ k) (hp : apartFrom ls l (l.drop k) k = z) : z = (0, -1) := by
  rw [List.drop_of_length_le h] at hp
  exact hp.symm
/-- The place of the first one of which it is true; -1: of none. -/
def idxF (f : PodD → Bool) : List PodD → Int → Int
  | [], _ => -1
  | q :: r, k => if f q = true then k else idxF f r (k + 1)
theorem idxF_at {f : PodD → Bool} {l : List PodD} {k : Nat} {z : Int} (h : k < l.length) {q : PodD} (hx : l[k] = q) (hp : idxF f (l.drop k) k = z) :
    (f q = true → z = k) ∧ (f q = false → idxF f (l.drop (k + 1)) ((k + 1 : Nat) : Int) = z) := by
  rw [List.drop_eq_getElem_cons h, hx, idxF] at hp
  constructor
  · intro e; rw [if_pos e] at hp; exact hp.symm
  · intro e; rw [if_neg (by rw [e]; decide)] at hp; exact hp
theorem idxF_end {f : PodD → Bool} {l : List PodD} {k : Nat} {z : Int} (h : l.length ≤ k) (hp : idxF f (l.drop k) k = z) : z = -1 := by
  rw [List.drop_of_length_le h] at hp
  exact hp.symm
theorem idxF_any {f : PodD → Bool} : ∀ (l : List PodD) (k : Int), 0 ≤ k → (decide (0 ≤ idxF f l k) = l.any f)
  | [], k, hk => by simp [idxF]
  | q :: r, k, hk => by
    cases h : f q with
    | true => simp [idxF, h, hk]
    | false => simp only [idxF, h, List.any_cons, Bool.false_or]; rw [if_neg (by decide)]; exact idxF_any r (k + 1) (by omega)
theorem apartFrom_pair {ls : List LoadD} {l : List PodD} : ∀ (r : List PodD) (k : Nat), ((apartFrom ls l r k).1 = 0 ∧ apartFrom ls l r k = (0, -1)) ∨ ∃ j : Nat, apartFrom ls l r k = (10, (j : Int))
  | [], _ => .inl ⟨rfl, rfl⟩
  | p :: r, k => by
    unfold apartFrom
    split
    · exact .inr ⟨k, rfl⟩
    · exact apartFrom_pair r (k + 1)
theorem apartFrom_iff {ls : List LoadD} {l : List PodD} : ∀ (n k : Nat), l.length = k + n → (apartFrom ls l (l.drop k) k = (0, -1) ↔ ∀ j, k ≤ j → ∀ h : j < l.length, (l.take j).any (clashD ls l[j]) = false)
  | 0, k, hn => by
    rw [List.drop_of_length_le (by omega), apartFrom]
    simp only [true_iff]
    intro j h1 h2; omega
  | n + 1, k, hn => by
    have hk : k < l.length := by omega
    rw [List.drop_eq_getElem_cons hk, apartFrom]
    cases h : (l.take k).any (clashD ls l[k]) with
    | true =>
      simp only [if_true]
      constructor
      · intro e; injection e with e1 e2; omega
      · intro e; have := e k (Nat.le_refl _) hk; rw [h] at this; cases this
    | false =>
      rw [if_neg (by decide), apartFrom_iff n (k + 1) (by omega)]
      constructor
      · intro e j h1 h2
        by_cases hj : j = k
        · subst hj; exact h
        · exact e j (by omega) h2
      · intro e j h1 h2; exact e j (by omega) h2
theorem apart_pairwise {ls : List LoadD} {l : List PodD} : apartOf ls l = (0, -1) ↔ l.Pairwise (fun p q => clashD ls q p = false) := by
  have h := apartFrom_iff (ls := ls) (l := l) l.length 0 (by omega)
  rw [List.drop_zero] at h
  rw [apartOf, h, List.pairwise_iff_getElem]
  constructor
  · intro e i j hi hj hij
    have := e j (by omega) hj
    rw [List.any_eq_false] at this
    have h2 := this l[i] (by rw [List.mem_take_iff_getElem]; exact ⟨i, by omega, rfl⟩)
    simpa using h2
  · intro e j _ hj
    rw [List.any_eq_false]
    intro p hp
    rw [List.mem_take_iff_getElem] at hp
    obtain ⟨i, hi, rfl⟩ := hp
    have := e i j (by omega) hj (by omega)
    simpa using this
theorem apart_zero {ls : List LoadD} {l : List PodD} (h : (apartOf ls l).1 = 0) : apartOf ls l = (0, -1) := by
  rcases apartFrom_pair (ls := ls) (l := l) l 0 with h1 | ⟨j, h1⟩
  · exact h1.2
  · rw [apartOf, h1] at h; cases h
theorem apart_sub {ls : List LoadD} {l m : List PodD} (hs : m.Sublist l) (h : apartOf ls l = (0, -1)) : apartOf ls m = (0, -1) :=
  apart_pairwise.2 ((apart_pairwise.1 h).sublist hs)
theorem less_sub {α : Type} (l : List α) (n : Nat) : (l.take n ++ l.drop (n + 1)).Sublist l := by
  have h : (l.drop (n + 1)).Sublist (l.drop n) := by
    rw [show l.drop (n + 1) = (l.drop n).drop 1 by rw [List.drop_drop]]
    exact List.drop_sublist 1 _
  have h2 := List.Sublist.append (List.Sublist.refl (l.take n)) h
  rwa [List.take_append_drop] at h2
end Go.Proofs.YtiinnoahopnkcaaGreatDoor

/- The program's hasApart, clash, and its closures; slices.IndexFunc and slices.ContainsFunc at them. -/
namespace Go.Proofs.YtiinnoahopnkcaaGreatDoor
set_option linter.unusedSimpArgs false
open Go.RowKit
set_option linter.unusedVariables false

section
variable {V : World}
theorem Bf.cells8 {b : Nat} {x : PodD} (h : Bf V b (cellsP x)) : (V.cell? ⟨b, 0, none⟩ = some (.int .i64 x.id) ∧ V.cell? ⟨b, 1, none⟩ = some (.int .i64 x.load) ∧ V.cell? ⟨b, 2, none⟩ = some (.int .i64 x.prio) ∧ V.cell? ⟨b, 3, none⟩ = some (.int .u64 x.req.a)) ∧
    V.cell? ⟨b, 4, none⟩ = some (.int .u64 x.req.b) ∧ V.cell? ⟨b, 5, none⟩ = some (.int .u64 x.req.c) ∧ V.cell? ⟨b, 6, none⟩ = some (.int .u64 x.req.d) ∧ V.cell? ⟨b, 7, none⟩ = some (.int .i64 x.node) ∧ b < V.heap.size :=
  ⟨⟨h.cell 0 _ rfl, h.cell 1 _ rfl, h.cell 2 _ rfl, h.cell 3 _ rfl⟩, h.cell 4 _ rfl, h.cell 5 _ rfl, h.cell 6 _ rfl, h.cell 7 _ rfl, h.lt⟩
end
set_option maxHeartbeats 3200000 in
set_option maxRecDepth 100000 in
theorem hasApart_any (ls : List LoadD) (id : Int) (A2 : Option Addr) (n2 c2 : Nat) (s1 s3 : Value) (w : World) (hn : n2 = ls.length) (hl : n2 ≤ 400) (hr : Recs 5 cellsL w w.heap.size A2 ls) :
    Calls Tryz.prog 128 #[.agg #[s1, .slice A2 n2 c2, s3], .int .i64 id] w fun e w' => e = .returned (.bool (apartD id ls)) ∧ Below w.heap.size w w' := by
  have b00 : Below w.heap.size w (w.alloc (.cells #[s1, .slice A2 n2 c2, s3] 26)) := (Below.refl _ _).alloc (Nat.le_refl _) _
  have HF := Lib.hid (load_any ls id A2 n2 c2 s1 s3 (w.alloc (.cells #[s1, .slice A2 n2 c2, s3] 26)) hn (by omega) ((hr.below b00 (Nat.le_refl _)).more b00.size))
  clear hr hn
  go_enter Tryz.func128, Tryz.ntmps128
  go_wp2_with fail
  refine HF.out.mono ?_
  rintro e w1 ⟨hh, hb1⟩
  have kw1 : Below w.heap.size w w1 := b00.trans (hb1.mono b00.size)
  clear hb1 b00
  rcases hh with ⟨hp, rfl⟩ | ⟨i, hi, hp, rfl⟩
  · have HE := Lib.hid (apartD_no (k := 0) (Int.le_refl _) hp)
    clear hp
    go_wp2
    go_ret
    exact ⟨ret_bool HE.out.symm, kw1.alloc kw1.size _⟩
  · have HE := Lib.hid (apartD_yes (k := 0) hi (by rw [hp]; omega) (Int.le_refl _))
    generalize ls[i] = x at *
    clear hp
    go_wp2
    go_ret
    exact ⟨ret_bool HE.out.symm, kw1.alloc kw1.size _⟩

set_option maxHeartbeats 3200000 in
set_option maxRecDepth 100000 in
theorem apClash_any (ls : List LoadD) (a b : PodD) (A2 : Option Addr) (n2 c2 : Nat) (s1 s3 : Value) (w : World) (hn : n2 = ls.length) (hl : n2 ≤ 400) (hr : Recs 5 cellsL w w.heap.size A2 ls) :
    Calls Tryz.prog 113 #[.agg #[s1, .slice A2 n2 c2, s3], aggP a, aggP b] w fun e w' => e = .returned (.bool (clashD ls a b)) ∧ Below w.heap.size w w' := by
  have T0 := T3.new w [s1, .slice A2 n2 c2, s3] (cellsP a) (cellsP b) 26 68 68
  have k0 := T0.below
  have HF := Lib.hid (fun (V : World) (hV : Below w.heap.size w V) => hasApart_any ls a.load A2 n2 c2 s1 s3 V hn hl ((hr.below hV (Nat.le_refl _)).more hV.size))
  have HFF := Lib.hid (HF.out _ k0)
  have HK := Lib.hid k0
  clear hr hn T0 k0 HF
  by_cases h0 : a.node = 0
  · have HE := Lib.hid (show clashD ls a b = false by simp [clashD, h0])
    have hd : (a.node != 0) = false := by simp [h0]
    clear h0
    go_enter Tryz.func113, Tryz.ntmps113
    go_wp2
    go_ret
    exact ⟨ret_bool HE.out.symm, HK.out⟩
  have hd : (a.node != 0) = true := by simp [h0]
  by_cases h1 : a.node = b.node
  · have hd1 : (a.node == b.node) = true := by simp [h1]
    by_cases h2 : a.load = b.load
    · have hd2 : (a.load == b.load) = true := by simp [h2]
      have HE := Lib.hid (show clashD ls a b = apartD a.load ls by simp only [clashD, hd, hd1, hd2, Bool.true_and])
      clear h0 h1 h2
      go_enter Tryz.func113, Tryz.ntmps113
      go_wp2_with fail
      refine HFF.out.mono ?_
      rintro e w1 ⟨rfl, hb1⟩
      have k1 := HK.out.trans (hb1.mono HK.out.size)
      clear hb1
      go_wp2
      go_ret
      exact ⟨ret_bool HE.out.symm, k1⟩
    · have hd2 : (a.load == b.load) = false := by simp [h2]
      have HE := Lib.hid (show clashD ls a b = false by simp only [clashD, hd, hd1, hd2, Bool.true_and, Bool.false_and])
      clear h0 h1 h2
      go_enter Tryz.func113, Tryz.ntmps113
      go_wp2
      go_ret
      exact ⟨ret_bool HE.out.symm, HK.out⟩
  · have hd1 : (a.node == b.node) = false := by simp [h1]
    have HE := Lib.hid (show clashD ls a b = false by simp only [clashD, hd, hd1, Bool.true_and, Bool.false_and])
    clear h0 h1
    go_enter Tryz.func113, Tryz.ntmps113
    go_wp2
    go_ret
    exact ⟨ret_bool HE.out.symm, HK.out⟩

/-- The closure in Check: does this one clash with the pod that was captured? -/
theorem apTwoClosure_any (ls : List LoadD) (p q : PodD) (gs gp : Nat) (A2 : Option Addr) (n2 c2 : Nat) (s1 s3 : Value) (w : World) (hs : Bf w gs [s1, .slice A2 n2 c2, s3]) (hp : Bf w gp (cellsP p)) (hn : n2 = ls.length) (hl : n2 ≤ 400) (hr : Recs 5 cellsL w w.heap.size A2 ls) :
    Calls Tryz.prog 112 #[aggP q, .pointer (some ⟨gs, 0, none⟩), .pointer (some ⟨gp, 0, none⟩)] w fun e w' => e = .returned (.bool (clashD ls p q)) ∧ Below w.heap.size w w' := by
  obtain ⟨a0, a1, a2, a3⟩ := hs.cells3
  obtain ⟨⟨b0, b1, b2, b3⟩, b4, b5, b6, b7, b8⟩ := hp.cells8
  have b00 : Below w.heap.size w (w.alloc (.cells #[.int .i64 q.id, .int .i64 q.load, .int .i64 q.prio, .int .u64 q.req.a, .int .u64 q.req.b, .int .u64 q.req.c, .int .u64 q.req.d, .int .i64 q.node] 68)) := (Below.refl _ _).alloc (Nat.le_refl _) _
  have HF := Lib.hid (apClash_any ls p q A2 n2 c2 s1 s3 (w.alloc (.cells #[.int .i64 q.id, .int .i64 q.load, .int .i64 q.prio, .int .u64 q.req.a, .int .u64 q.req.b, .int .u64 q.req.c, .int .u64 q.req.d, .int .i64 q.node] 68)) hn hl ((hr.below b00 (Nat.le_refl _)).more b00.size))
  clear hr hn hs hp
  go_enter Tryz.func112, Tryz.ntmps112
  go_wp2_with fail
  refine HF.out.mono ?_
  rintro e w1 ⟨rfl, hb1⟩
  go_wp2
  go_ret
  exact ⟨rfl, b00.trans (hb1.mono b00.size)⟩

def IdxRel (f : PodD → Bool) (l : List PodD) (W : World) (i : Value) (wr : World) : Prop := ∃ k : Nat, k ≤ l.length ∧ i = .int .i64 k ∧ idxF f (l.drop k) k = idxF f l 0 ∧ Below W.heap.size W wr
set_option maxHeartbeats 3200000 in
set_option maxRecDepth 100000 in
theorem apIndexTwo_any (ls : List LoadD) (p : PodD) (l : List PodD) (gs gp : Nat) (A2 : Option Addr) (n2 c2 : Nat) (s1 s3 : Value) (A : Option Addr) (n c : Nat) (w : World) (hs : Bf w gs [s1, .slice A2 n2 c2, s3]) (hp : Bf w gp (cellsP p)) (hn2 : n2 = ls.length) (hl2 : n2 ≤ 400) (hr2 : Recs 5 cellsL w w.heap.size A2 ls) (hn : n = l.length) (hl : n ≤ 1000) (hr : Recs 8 cellsP w w.heap.size A l) :
    Calls Tryz.prog 122 #[.slice A n c, .func (.func 112) #[] #[.pointer (some ⟨gs, 0, none⟩), .pointer (some ⟨gp, 0, none⟩)]] w fun e w' => e = .returned (.int .i64 (idxF (clashD ls p) l 0)) ∧ Below w.heap.size w w' := by
  have HR := Lib.hid hr
  have HN := Lib.hid hn
  have HC := Lib.hid (fun (V : World) (hV : Below w.heap.size w V) (q : PodD) => apTwoClosure_any ls p q gs gp A2 n2 c2 s1 s3 V (hs.below hV hs.lt) (hp.below hV hp.lt) hn2 hl2 ((hr2.below hV (Nat.le_refl _)).more hV.size))
  clear hr hn hs hp hn2 hr2
  go_enter Tryz.func122, Tryz.ntmps122
  go_wp2
  go_loopw [8] (IdxRel (clashD ls p) l w) (fun i _ => n - (intOf i).toNat)
  case atStart => exact ⟨0, by omega, rfl, rfl, Below.refl _ _⟩
  case round =>
    obtain ⟨k, hk, rfl, hp, hbr⟩ := hrel
    have HP := Lib.hid hp
    have hzr := hbr.size
    clear hp
    by_cases hlt : k < n
    · have hkl : k < l.length := by have := HN.out; omega
      obtain ⟨b, o, rfl, hb, he⟩ := HR.out.at hkl
      generalize hx : l[k] = x at *
      have HX := Lib.hid (idxF_at hkl hx HP.out)
      clear hx
      have e0 : wr.cell? ⟨b, o + k * 8, none⟩ = some (.int .i64 x.id) := (hbr.cell (p := ⟨b, o + k * 8, none⟩) hb).trans (he 0 _ rfl)
      have e1 : wr.cell? ⟨b, o + k * 8 + 1, none⟩ = some (.int .i64 x.load) := (hbr.cell (p := ⟨b, o + k * 8 + 1, none⟩) hb).trans (he 1 _ rfl)
      have e2 : wr.cell? ⟨b, o + k * 8 + 2, none⟩ = some (.int .i64 x.prio) := (hbr.cell (p := ⟨b, o + k * 8 + 2, none⟩) hb).trans (he 2 _ rfl)
      have e3 : wr.cell? ⟨b, o + k * 8 + 3, none⟩ = some (.int .u64 x.req.a) := (hbr.cell (p := ⟨b, o + k * 8 + 3, none⟩) hb).trans (he 3 _ rfl)
      have e4 : wr.cell? ⟨b, o + k * 8 + 4, none⟩ = some (.int .u64 x.req.b) := (hbr.cell (p := ⟨b, o + k * 8 + 4, none⟩) hb).trans (he 4 _ rfl)
      have e5 : wr.cell? ⟨b, o + k * 8 + 5, none⟩ = some (.int .u64 x.req.c) := (hbr.cell (p := ⟨b, o + k * 8 + 5, none⟩) hb).trans (he 5 _ rfl)
      have e6 : wr.cell? ⟨b, o + k * 8 + 6, none⟩ = some (.int .u64 x.req.d) := (hbr.cell (p := ⟨b, o + k * 8 + 6, none⟩) hb).trans (he 6 _ rfl)
      have e7 : wr.cell? ⟨b, o + k * 8 + 7, none⟩ = some (.int .i64 x.node) := (hbr.cell (p := ⟨b, o + k * 8 + 7, none⟩) hb).trans (he 7 _ rfl)
      have hbw : b < wr.heap.size := by omega
      have HCR := Lib.hid (HC.out wr hbr x)
      clear he
      go_wp2_with fail
      go_at_call 112
      refine HCR.out.mono ?_
      rintro e w1 ⟨rfl, hb1⟩
      have k1 : Below w.heap.size w w1 := hbr.trans (hb1.mono hzr)
      cases hd : clashD ls p x with
      | true =>
        have HE := Lib.hid (HX.out.1 hd)
        clear hd
        go_wp2
        go_ret
        exact ⟨ret_int HE.out.symm, k1⟩
      | false =>
        have HE := Lib.hid (HX.out.2 hd)
        clear hd
        go_wp2
        go_roundw
        case rel => exact ⟨k + 1, by omega, by go_num, HE.out, k1⟩
        case measure => simp [intOf]; omega
    · have HE := Lib.hid (idxF_end (by have := HN.out; omega) HP.out)
      go_wp2
      go_ret
      exact ⟨ret_int HE.out.symm, hbr⟩

set_option maxHeartbeats 1600000 in
theorem apContains_any (ls : List LoadD) (p : PodD) (l : List PodD) (gs gp : Nat) (A2 : Option Addr) (n2 c2 : Nat) (s1 s3 : Value) (A : Option Addr) (n c : Nat) (w : World) (hs : Bf w gs [s1, .slice A2 n2 c2, s3]) (hp : Bf w gp (cellsP p)) (hn2 : n2 = ls.length) (hl2 : n2 ≤ 400) (hr2 : Recs 5 cellsL w w.heap.size A2 ls) (hn : n = l.length) (hl : n ≤ 1000) (hr : Recs 8 cellsP w w.heap.size A l) :
    Calls Tryz.prog 111 #[.slice A n c, .func (.func 112) #[] #[.pointer (some ⟨gs, 0, none⟩), .pointer (some ⟨gp, 0, none⟩)]] w fun e w' => e = .returned (.bool (l.any (clashD ls p))) ∧ Below w.heap.size w w' := by
  have HF := Lib.hid (apIndexTwo_any ls p l gs gp A2 n2 c2 s1 s3 A n c w hs hp hn2 hl2 hr2 hn hl hr)
  have HE := Lib.hid (idxF_any (f := clashD ls p) l 0 (Int.le_refl _))
  clear hs hp hn2 hl2 hr2 hn hl hr
  go_enter Tryz.func111, Tryz.ntmps111
  go_wp2_with fail
  refine HF.out.mono ?_
  rintro e w1 ⟨rfl, hb1⟩
  go_wp2
  go_ret
  exact ⟨ret_bool HE.out, hb1⟩
end Go.Proofs.YtiinnoahopnkcaaGreatDoor

namespace Go.Proofs.YtiinnoahopnkcaaGreatDoor
set_option linter.unusedSimpArgs false
open Go.Shelf
def Tryz.laysSort_ren : Go.Shelf.Ren := ⟨fun | 189 => 137 | 125 => 145 | 257 => 144 | 128 => 158 | 129 => 159 | 294 => 150 | 295 => 151 | 296 => 152 | 297 => 153 | 298 => 154 | 299 => 155 | 216 => 146 | 300 => 156 | 301 => 157 | 328 => 160 | 329 => 161 | 330 => 162 | 331 => 163 | 332 => 164 | 215 => 97 | 343 => 165 | n => n, fun | 28 => 169 | 3 => 3 | 46 => 203 | 0 => 0 | 51 => 214 | 53 => 49 | 4 => 4 | 183 => 208 | 182 => 207 | 131 => 194 | 5 => 5 | 9 => 9 | 218 => 216 | 222 => 220 | 228 => 222 | 229 => 39 | n => n, fun | n => n⟩
theorem Tryz.laysSort : Go.Proofs.Lays.n189 Tryz.prog Tryz.laysSort_ren := {
  mixed := by kernel_rfl
  f125 := Tryz.func145.trans (congrArg some (by kernel_rfl))
  f128 := Tryz.func158.trans (congrArg some (by kernel_rfl))
  f129 := Tryz.func159.trans (congrArg some (by kernel_rfl))
  f189 := Tryz.func137.trans (congrArg some (by kernel_rfl))
  f215 := Tryz.func97.trans (congrArg some (by kernel_rfl))
  f216 := Tryz.func146.trans (congrArg some (by kernel_rfl))
  f257 := Tryz.func144.trans (congrArg some (by kernel_rfl))
  f294 := Tryz.func150.trans (congrArg some (by kernel_rfl))
  f295 := Tryz.func151.trans (congrArg some (by kernel_rfl))
  f296 := Tryz.func152.trans (congrArg some (by kernel_rfl))
  f297 := Tryz.func153.trans (congrArg some (by kernel_rfl))
  f298 := Tryz.func154.trans (congrArg some (by kernel_rfl))
  f299 := Tryz.func155.trans (congrArg some (by kernel_rfl))
  f300 := Tryz.func156.trans (congrArg some (by kernel_rfl))
  f301 := Tryz.func157.trans (congrArg some (by kernel_rfl))
  f328 := Tryz.func160.trans (congrArg some (by kernel_rfl))
  f329 := Tryz.func161.trans (congrArg some (by kernel_rfl))
  f330 := Tryz.func162.trans (congrArg some (by kernel_rfl))
  f331 := Tryz.func163.trans (congrArg some (by kernel_rfl))
  f332 := Tryz.func164.trans (congrArg some (by kernel_rfl))
  f343 := Tryz.func165.trans (congrArg some (by kernel_rfl))
  t0 := Tryz.underlying0
  a0 := Tryz.isAgg0
  z0 := Tryz.sizeOf0
  v0 := Tryz.zeroValue0
  t3 := Tryz.underlying3
  a3 := Tryz.isAgg3
  z3 := Tryz.sizeOf3
  v3 := Tryz.zeroValue3
  t4 := Tryz.underlying4
  a4 := Tryz.isAgg4
  z4 := Tryz.sizeOf4
  v4 := Tryz.zeroValue4
  t5 := Tryz.underlying5
  a5 := Tryz.isAgg5
  z5 := Tryz.sizeOf5
  v5 := Tryz.zeroValue5
  t9 := Tryz.underlying9
  a9 := Tryz.isAgg9
  z9 := Tryz.sizeOf9
  v9 := Tryz.zeroValue9
  t28 := Tryz.underlying169
  a28 := Tryz.isAgg169
  z28 := Tryz.sizeOf169
  v28 := Tryz.zeroValue169
  t46 := Tryz.underlying203
  a46 := Tryz.isAgg203
  z46 := Tryz.sizeOf203
  v46 := Tryz.zeroValue203
  t51 := Tryz.underlying214
  a51 := Tryz.isAgg214
  z51 := Tryz.sizeOf214
  v51 := Tryz.zeroValue214
  t53 := Tryz.underlying49
  a53 := Tryz.isAgg49
  z53 := Tryz.sizeOf49
  v53 := Tryz.zeroValue49
  t131 := Tryz.underlying194
  a131 := Tryz.isAgg194
  z131 := Tryz.sizeOf194
  v131 := Tryz.zeroValue194
  t182 := Tryz.underlying207
  a182 := Tryz.isAgg207
  z182 := Tryz.sizeOf207
  v182 := Tryz.zeroValue207
  t183 := Tryz.underlying208
  a183 := Tryz.isAgg208
  z183 := Tryz.sizeOf208
  v183 := Tryz.zeroValue208
  t218 := Tryz.underlying216
  a218 := Tryz.isAgg216
  z218 := Tryz.sizeOf216
  v218 := Tryz.zeroValue216
  t222 := Tryz.underlying220
  a222 := Tryz.isAgg220
  z222 := Tryz.sizeOf220
  v222 := Tryz.zeroValue220
  t228 := Tryz.underlying222
  a228 := Tryz.isAgg222
  z228 := Tryz.sizeOf222
  v228 := Tryz.zeroValue222
  t229 := Tryz.underlying39
  a229 := Tryz.isAgg39
  z229 := Tryz.sizeOf39
  v229 := Tryz.zeroValue39 }
def Tryz.laysCompact_ren : Go.Shelf.Ren := ⟨fun | 20 => 138 | n => n, fun | 22 => 169 | 3 => 3 | 4 => 4 | 0 => 0 | n => n, fun | n => n⟩
theorem Tryz.laysCompact : Go.Proofs.Lays2.n20 Tryz.prog Tryz.laysCompact_ren := {
  mixed := by kernel_rfl
  f20 := Tryz.func138.trans (congrArg some (by kernel_rfl))
  t0 := Tryz.underlying0
  a0 := Tryz.isAgg0
  z0 := Tryz.sizeOf0
  v0 := Tryz.zeroValue0
  t3 := Tryz.underlying3
  a3 := Tryz.isAgg3
  z3 := Tryz.sizeOf3
  v3 := Tryz.zeroValue3
  t4 := Tryz.underlying4
  a4 := Tryz.isAgg4
  z4 := Tryz.sizeOf4
  v4 := Tryz.zeroValue4
  t22 := Tryz.underlying169
  a22 := Tryz.isAgg169
  z22 := Tryz.sizeOf169
  v22 := Tryz.zeroValue169
  i3 := by kernel_rfl }
def Tryz.laysSearch_ren : Go.Shelf.Ren := ⟨fun | 25 => 140 | 31 => 146 | 32 => 147 | 37 => 97 | n => n, fun | 22 => 169 | 3 => 3 | 4 => 4 | 40 => 203 | 0 => 0 | n => n, fun | n => n⟩
theorem Tryz.laysSearch : Go.Proofs.Lays2.n25 Tryz.prog Tryz.laysSearch_ren := {
  mixed := by kernel_rfl
  f25 := Tryz.func140.trans (congrArg some (by kernel_rfl))
  f31 := Tryz.func146.trans (congrArg some (by kernel_rfl))
  f32 := Tryz.func147.trans (congrArg some (by kernel_rfl))
  f37 := Tryz.func97.trans (congrArg some (by kernel_rfl))
  t0 := Tryz.underlying0
  a0 := Tryz.isAgg0
  z0 := Tryz.sizeOf0
  v0 := Tryz.zeroValue0
  t3 := Tryz.underlying3
  a3 := Tryz.isAgg3
  z3 := Tryz.sizeOf3
  v3 := Tryz.zeroValue3
  t4 := Tryz.underlying4
  a4 := Tryz.isAgg4
  z4 := Tryz.sizeOf4
  v4 := Tryz.zeroValue4
  t22 := Tryz.underlying169
  a22 := Tryz.isAgg169
  z22 := Tryz.sizeOf169
  v22 := Tryz.zeroValue169
  t40 := Tryz.underlying203
  a40 := Tryz.isAgg203
  z40 := Tryz.sizeOf203
  v40 := Tryz.zeroValue203 }
def Tryz.laysMax_ren : Go.Shelf.Ren := ⟨fun | 113 => 131 | n => n, fun | 28 => 169 | 3 => 3 | 4 => 4 | 9 => 9 | 20 => 20 | 0 => 0 | n => n, fun | n => n⟩
theorem Tryz.laysMax : Go.Proofs.Lays.n113 Tryz.prog Tryz.laysMax_ren := {
  mixed := by kernel_rfl
  f113 := Tryz.func131.trans (congrArg some (by kernel_rfl))
  t0 := Tryz.underlying0
  a0 := Tryz.isAgg0
  z0 := Tryz.sizeOf0
  v0 := Tryz.zeroValue0
  t3 := Tryz.underlying3
  a3 := Tryz.isAgg3
  z3 := Tryz.sizeOf3
  v3 := Tryz.zeroValue3
  t4 := Tryz.underlying4
  a4 := Tryz.isAgg4
  z4 := Tryz.sizeOf4
  v4 := Tryz.zeroValue4
  t9 := Tryz.underlying9
  a9 := Tryz.isAgg9
  z9 := Tryz.sizeOf9
  v9 := Tryz.zeroValue9
  t20 := Tryz.underlying20
  a20 := Tryz.isAgg20
  z20 := Tryz.sizeOf20
  v20 := Tryz.zeroValue20
  t28 := Tryz.underlying169
  a28 := Tryz.isAgg169
  z28 := Tryz.sizeOf169
  v28 := Tryz.zeroValue169 }
def Tryz.laysMin_ren : Go.Shelf.Ren := ⟨fun | 114 => 132 | n => n, fun | 28 => 169 | 3 => 3 | 4 => 4 | 9 => 9 | 20 => 20 | 0 => 0 | n => n, fun | n => n⟩
theorem Tryz.laysMin : Go.Proofs.Lays.n114 Tryz.prog Tryz.laysMin_ren := {
  mixed := by kernel_rfl
  f114 := Tryz.func132.trans (congrArg some (by kernel_rfl))
  t0 := Tryz.underlying0
  a0 := Tryz.isAgg0
  z0 := Tryz.sizeOf0
  v0 := Tryz.zeroValue0
  t3 := Tryz.underlying3
  a3 := Tryz.isAgg3
  z3 := Tryz.sizeOf3
  v3 := Tryz.zeroValue3
  t4 := Tryz.underlying4
  a4 := Tryz.isAgg4
  z4 := Tryz.sizeOf4
  v4 := Tryz.zeroValue4
  t9 := Tryz.underlying9
  a9 := Tryz.isAgg9
  z9 := Tryz.sizeOf9
  v9 := Tryz.zeroValue9
  t20 := Tryz.underlying20
  a20 := Tryz.isAgg20
  z20 := Tryz.sizeOf20
  v20 := Tryz.zeroValue20
  t28 := Tryz.underlying169
  a28 := Tryz.isAgg169
  z28 := Tryz.sizeOf169
  v28 := Tryz.zeroValue169 }
end Go.Proofs.YtiinnoahopnkcaaGreatDoor
