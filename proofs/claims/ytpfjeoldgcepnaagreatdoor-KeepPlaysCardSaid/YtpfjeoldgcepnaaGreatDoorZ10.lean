/- Joined texts, part 10: CZ EZ BA BB EP YB ES YC YD VG. -/
import Derived.Test.YtpfjeoldgcepnaaGreatDoorZ06
import Derived.Test.YtpfjeoldgcepnaaGreatDoorZ01
import Derived.Deep.QuietTactic
import Derived.BigQuiet
import Derived.Test.YtpfjeoldgcepnaaGreatDoorZ09
import Derived.Test.YtpfjeoldgcepnaaGreatDoorZ03
import Derived.Test.YtpfjeoldgcepnaaGreatDoorZ05
import Derived.Shelf.Sort.Plain
import Derived.Shelf.Slices.CompactI
import Derived.Shelf.Slices.In.SortNone
import Derived.Shelf.Slices.SearchI
import Derived.Shelf.Slices.Turned
import Derived.Test.YtpfjeoldgcepnaaGreatDoorProg
import Derived.Deep.OwnRows
import Derived.Sort.OwnSortedInts
import Derived.Lib.OwnBridge
import Derived.Sort.Grow
import Derived.Test.YtpfjeoldgcepnaaGreatDoorZ04
import Derived.Deep.RegionHeld3
import Derived.Test.YtpfjeoldgcepnaaGreatDoorZ08

/- dunnageref03.Zones. -/
namespace Go.Proofs.YtpfjeoldgcepnaaGreatDoor
set_option linter.unusedSimpArgs false
open Go.RowKit
set_option linter.unusedVariables false

abbrev i64s (l : List Int) : List Value := l.map (Value.int .i64)
theorem one_i64s (l : List Int) : ∀ u ∈ i64s l, u.oneCell' = true := by
  intro u hu; simp at hu; obtain ⟨x, _, rfl⟩ := hu; rfl
theorem Tryz.info3 : (Tryz.prog.info? 3).map (fun i => (i.zero, i.size, i.bytes)) = some (some (.int .i64 0), 1, 8) := by kernel_rfl

theorem insZ_at (z : Int) : ∀ (acc : List Int) (p : Nat) (hp : p ≤ acc.length), (∀ j (hj : j < p), acc[j]'(by omega) < z) → (∀ h : p < acc.length, ¬ acc[p] < z) →
    insZ z acc = if h : p < acc.length then (if acc[p] = z then acc else acc.take p ++ [z] ++ acc.drop p) else acc.take p ++ [z] ++ acc.drop p
  | [], p, hp, _, _ => by
    obtain rfl : p = 0 := by simpa using hp
    simp [insZ]
  | y :: r, 0, _, _, hn => by
    have h0 : ¬ y < z := hn (by simp)
    simp only [insZ, if_neg h0]
    by_cases e : y = z <;> simp [e]
  | y :: r, p + 1, hp, hl, hn => by
    have h0 : y < z := hl 0 (by omega)
    have ih := insZ_at z r p (by simpa using hp) (fun j hj => hl (j + 1) (by omega)) (fun h => hn (by simpa using h))
    simp only [insZ, if_pos h0, ih]
    by_cases hpl : p < r.length
    · have : p + 1 < (y :: r).length := by simpa using hpl
      simp only [hpl, this, dite_true, List.getElem_cons_succ]
      split <;> simp
    · have : ¬ p + 1 < (y :: r).length := by simpa using hpl
      simp only [hpl, this, dite_false]
      simp
theorem zones_next (l : List NodeD) (k : Nat) (h : k < l.length) : zonesOf (l.take (k + 1)) = insZ l[k].zone (zonesOf (l.take k)) := by
  unfold zonesOf
  rw [List.take_succ_eq_append_getElem h, List.foldl_append]
  rfl
theorem below_drews {B : Nat} {a w : World} (h : Below B a w) (n : Nat) : Below B a (w.drewN n) := ⟨h.os, h.tape, h.output, h.size, h.block⟩
theorem box_cells' {w wr : World} {x y z : Value} {t : TypeId} (hb : Below (w.heap.size + 1) (w.alloc (.cells #[x, y, z] t)) wr) : wr.cell? ⟨w.heap.size, 0, none⟩ = some x := by
  rw [hb.cell (by show w.heap.size < w.heap.size + 1; omega)]
  simp
theorem own_mono {w : World} {base base' n : Nat} {e : TypeId} {v : Value} {xs : List Value} (h : w.ownsRow base e 1 v n xs) (hb : base' ≤ base) : w.ownsRow base' e 1 v n xs := by
  refine ⟨h.1, ?_⟩
  rcases h.2 with h0 | ⟨g, cap, cur, h1, h2, rest⟩
  · exact .inl h0
  · exact .inr ⟨g, cap, cur, h1, Nat.le_trans hb h2, rest⟩
def ZRel (l : List NodeD) (W : World) (B : Nat) (v i : Value) (wr : World) : Prop :=
  ∃ k : Nat, k ≤ l.length ∧ i = .int .i64 k ∧ wr.ownsRow B 3 1 v (i64s (zonesOf (l.take k))).length (i64s (zonesOf (l.take k))) ∧ Below B W wr
def ZIn (acc : List Int) (z : Int) (wo : World) (i : Value) (wr : World) : Prop :=
  ∃ p q : Nat, p ≤ acc.length ∧ i = .int .i64 p ∧ wr = wo.drewN q ∧ ∀ j (hj : j < acc.length), j < p → acc[j] < z
def ZonesTo (l : List NodeD) (w : World) (e : Ending) (w' : World) : Prop :=
  ∃ v, e = .returned v ∧ w'.ownsRow (w.heap.size + 1) 3 1 v (i64s (zonesOf l)).length (i64s (zonesOf l)) ∧ Below w.heap.size w w'

set_option maxHeartbeats 6400000 in
set_option maxRecDepth 100000 in
theorem rZones_any (l : List NodeD) (A : Option Addr) (n c B : Nat) (v2 v3 : Value) (w : World) (hn : n = l.length) (hl : n ≤ 40) (hB : B ≤ w.heap.size) (hr : Recs 10 cellsN w B A l) :
    Calls Tryz.prog 116 #[.agg #[.slice A n c, v2, v3]] w (ZonesTo l w) := by
  have HR := Lib.hid hr
  have HN := Lib.hid hn
  clear hr hn
  go_enter Tryz.func116, Tryz.ntmps116
  go_wp2
  go_loopw [3, 4] (ZRel l (w.alloc (.cells #[.slice A n c, v2, v3] 26)) (w.heap.size + 1)) (fun _ i _ => n - (intOf i).toNat)
  case atStart => exact ⟨0, by omega, rfl, World.ownsRow_nil _ _ _ _, Below.refl _ _⟩
  case round =>
    obtain ⟨k, hk, rfl, hown, hbr⟩ := hrel
    obtain ⟨wo, rfl⟩ : ∃ wo : World, wo = wr := ⟨_, rfl⟩
    have b0 := box_cells' hbr
    have hzr : w.heap.size + 1 ≤ wo.heap.size := by have := hbr.size; simpa using this
    by_cases hlt : k < n
    · have hkl : k < l.length := by have := HN.out; omega
      obtain ⟨b, o, rfl, hb, hcell⟩ := HR.out.at hkl
      have ez : wo.cell? ⟨b, o + k * 10 + 1, none⟩ = some (.int .i64 l[k].zone) := by
        rw [hbr.cell (p := ⟨b, o + k * 10 + 1, none⟩) (by show b < w.heap.size + 1; omega), World.cell?_alloc_lt _ _ _ (by show b < w.heap.size; omega)]
        exact hcell 1 _ rfl
      clear hcell
      have HZ := Lib.hid (zones_next l k hkl)
      have hzl := zones_fold (l.take k) [] trivial
      have hml : (zonesOf (l.take k)).length ≤ 40 := by
        have h1 := hzl.2.1
        have h2 := List.length_take_le k l
        show (List.foldl _ [] (l.take k)).length ≤ 40
        simp only [List.length_nil] at h1
        omega
      clear hzl
      generalize hze : l[k].zone = z at *
      generalize hacc : zonesOf (l.take k) = acc at *
      obtain ⟨A1, c1, rfl, hc1, _, hnil⟩ := own_form hown
      have HNIL := Lib.hid (fun h => (hnil h).2)
      clear hnil
      have HROW := Lib.hid (Row.of_own hown).1
      have hml' : (i64s acc).length = acc.length := by simp
      rw [hml'] at hc1 ⊢
      have HZE := Lib.hid hze
      have HAC := Lib.hid hacc
      have HOW := Lib.hid hown
      clear hze hacc hown hml'
      go_wp2
      go_loopw [5] (ZIn acc z wo) (fun i _ => acc.length - (intOf i).toNat)
      case atStart => exact ⟨0, 0, by omega, rfl, rfl, fun j _ h => by omega⟩
      case round =>
        obtain ⟨p, q, hp, rfl, rfl, hlow⟩ := hrel
        have HLOW := Lib.hid hlow
        clear hlow
        by_cases hpl : p < acc.length
        · obtain ⟨b1, o1, rfl, hb1, hcell1⟩ := HROW.out.at (k := p) (by simpa using hpl)
          have ec := hcell1 p (by simpa using hpl)
          simp only [List.getElem_map] at ec
          clear hcell1
          have hp0 : (0 : Int) ≤ (p : Int) := by omega
          have hp1 : (p : Int) < (acc.length : Int) := by omega
          have hk0 : (0 : Int) ≤ (k : Int) := by omega
          have hk1 : (k : Int) < (n : Int) := by omega
          by_cases hlt2 : acc[p] < z
          · have HNX : Hid (∀ j (hj : j < acc.length), j < p + 1 → acc[j] < z) := fun j hj h => by
              by_cases e : j = p
              · subst e; exact hlt2
              · exact HLOW.out j hj (by omega)
            go_wp2
            go_quiet (fail)
            go_wp2
            go_roundw
            case rel => exact ⟨p + 1, _, by omega, by go_num, rfl, HNX.out⟩
            case measure => simp [intOf]; omega
          · by_cases heq : acc[p] = z
            · have HIN : Hid (insZ z acc = acc) := (insZ_at z acc p hp (fun j hj => HLOW.out j (by omega) hj) (fun _ => hlt2)).trans (by rw [dif_pos hpl, if_pos heq])
              have heb : (acc[p] == z) = true := by simpa using heq
              have hd2 : decide (acc[p] < z) = false := by simpa using hlt2
              clear heq
              go_wp2
              go_quiet (fail)
              go_wp2
              go_quiet (fail)
              go_wp2
              go_roundw
              case rel => exact ⟨k + 1, by omega, by go_num, by rw [HZ.out, HIN.out]; exact (by simpa using HOW.out : wo.ownsRow (w.heap.size + 1) 3 1 (.slice (some ⟨b1, o1, none⟩) acc.length c1) (i64s acc).length (i64s acc)), below_drews hbr _⟩
              case measure => simp [intOf]; omega
            · have HIN : Hid (insZ z acc = acc.take p ++ [z] ++ acc.drop p) := (insZ_at z acc p hp (fun j hj => HLOW.out j (by omega) hj) (fun _ => hlt2)).trans (by rw [dif_pos hpl, if_neg heq])
              have heb : (acc[p] == z) = false := by simpa using heq
              have hd2 : decide (acc[p] < z) = false := by simpa using hlt2
              clear heq
              have HOWN0 : Hid (∀ q, ((wo.drewN q).alloc (.cells #[] 3)).ownsRow wo.heap.size 3 1 (.slice (some ⟨wo.heap.size, 0, none⟩) 0 0) 0 []) := fun q => World.ownsRow_made (base := wo.heap.size) (e := 3) (size := 1) (wo.drewN q) #[] 0 (Nat.le_refl _) (by decide) rfl
              have HROW0 : Hid (∀ q, Row ((wo.drewN q).alloc (.cells #[] 3)) wo.heap.size (some ⟨b1, o1, none⟩) (i64s (acc.take p))) := fun q => by
                have h1 := (HROW.out.take p).below ((below_drews (Below.refl wo.heap.size wo) q).alloc (Nat.le_refl _) (.cells #[] 3)) (Nat.le_refl _)
                rwa [← List.map_take] at h1
              have HPL : Hid (p = (i64s (acc.take p)).length) := by show p = _; simp; omega
              have HS0 : Hid (([] : List Value).length + (i64s (acc.take p)).length ≤ 2000000) := by show _ ≤ _; simp; omega
              have HS1 : Hid (([] ++ i64s (acc.take p)).length ≤ 2000000) := by show _ ≤ _; simp; omega
              have HS2 : Hid ((([] ++ i64s (acc.take p)) ++ [Value.int .i64 z]).length + (i64s (acc.drop p)).length ≤ 2000000) := by show _ ≤ _; simp; omega
              have HROWC : Hid (∀ W, Below wo.heap.size wo W → Row W wo.heap.size (some ⟨b1, o1 + p, none⟩) (i64s (acc.drop p))) := fun W hW => by
                have h1 := (HROW.out.drop (k := p) (c := (i64s acc).length + p + 1) (by omega)).below hW (Nat.le_refl _)
                rw [if_neg (by omega), ← List.map_drop] at h1
                simpa [Addr.add_lit] using h1
              go_wp2
              go_quiet (fail)
              go_wp2
              go_quiet (fail)
              go_wp2_with (first
                | (at_builtin; refine wpList_cat 140 3 (.int .i64 0) 8 Tryz.underlying140 Tryz.info3 rfl (by decide) rfl (.tmp 50) (.tmp 53) rfl wo.heap.size wo.heap.size _ [] (i64s (acc.take p)) (some ⟨b1, o1, none⟩) c1 (one_i64s _) HNIL.out (HOWN0.out _) (HROW0.out _) (by show wo.heap.size ≤ ((wo.drewN _).alloc _).heap.size; simp) HS0.out rfl rfl HPL.out ?_; intro v4 w2 hown2 hb2 hB2; have k2 : Below wo.heap.size wo w2 := ((below_drews (Below.refl wo.heap.size wo) _).alloc (Nat.le_refl _) _).trans hb2; have b2 := (k2.cell (p := ⟨w.heap.size, 0, none⟩) (by show w.heap.size < wo.heap.size; omega)).trans b0; have ez2 := (k2.cell (p := ⟨b, o + k * 10 + 1, none⟩) (by show b < wo.heap.size; omega)).trans ez)
                | (at_builtin; refine wpList_push 140 3 (.int .i64 0) 8 Tryz.underlying140 Tryz.info3 rfl (by decide) rfl (.tmp 55) (.tmp 62) rfl wo.heap.size _ ([] ++ i64s (acc.take p)) (.int .i64 z) rfl hown2 hB2 HS1.out rfl rfl ?_; intro v5 w3 hown3 hb3 hB3; have k3 : Below wo.heap.size wo w3 := k2.trans hb3; have HCUT := Lib.hid (HROWC.out w3 k3))
                | (at_builtin; refine wpList_cat 140 3 (.int .i64 0) 8 Tryz.underlying140 Tryz.info3 rfl (by decide) rfl (.tmp 64) (.tmp 67) rfl wo.heap.size wo.heap.size _ (([] ++ i64s (acc.take p)) ++ [Value.int .i64 z]) (i64s (acc.drop p)) _ _ (one_i64s _) (fun h => by cases h) hown3 (HCUT.out) hB3 HS2.out rfl rfl (by simp only [List.length_map, List.length_drop] <;> omega) ?_; intro v6 w4 hown4 hb4 hB4))
              go_roundw
              case rel => exact ⟨k + 1, by omega, by go_num, by rw [HZ.out, HIN.out]; exact own_mono (by simpa using hown4) hzr, hbr.trans ((k3.trans hb4).mono (by omega))⟩
              case measure => simp [intOf]; omega
        · have hpe : p = acc.length := by omega
          have HIN : Hid (insZ z acc = acc.take p ++ [z] ++ acc.drop p) := (insZ_at z acc p hp (fun j hj => HLOW.out j (by omega) hj) (fun h => absurd h hpl)).trans (by rw [dif_neg hpl])
          have HDR : Hid (acc.drop p = []) := by show acc.drop p = []; simp; omega
          have hd1 : decide ((p : Int) < (acc.length : Int)) = false := decide_eq_false (by omega)
          have hd3 : decide (p < acc.length) = false := decide_eq_false hpl
          rcases A1 with _ | a1
          · obtain rfl : c1 = 0 := HNIL.out rfl
            obtain rfl : acc = [] := List.eq_nil_of_length_eq_zero (by omega)
            obtain rfl : p = 0 := by simpa using hpe
            clear hpe hd1 hd3 hp hpl hc1 hml
            have HOWN0 : Hid (∀ q, ((wo.drewN q).alloc (.cells #[] 3)).ownsRow wo.heap.size 3 1 (.slice (some ⟨wo.heap.size, 0, none⟩) 0 0) 0 []) := fun q => World.ownsRow_made (base := wo.heap.size) (e := 3) (size := 1) (wo.drewN q) #[] 0 (Nat.le_refl _) (by decide) rfl
            go_wp2
            go_quiet (fail)
            go_wp2
            go_quiet (fail)
            go_wp2_with (first
              | (at_builtin; refine wpList_cat 140 3 (.int .i64 0) 8 Tryz.underlying140 Tryz.info3 rfl (by decide) rfl (.tmp 50) (.tmp 53) rfl wo.heap.size wo.heap.size _ [] [] none 0 (fun _ h => by simp at h) (fun _ => rfl) (HOWN0.out _) Row.nil (by show wo.heap.size ≤ ((wo.drewN _).alloc _).heap.size; simp) (by simp) rfl rfl rfl ?_; intro v4 w2 hown2 hb2 hB2; have k2 : Below wo.heap.size wo w2 := ((below_drews (Below.refl wo.heap.size wo) _).alloc (Nat.le_refl _) _).trans hb2; have b2 := (k2.cell (p := ⟨w.heap.size, 0, none⟩) (by show w.heap.size < wo.heap.size; omega)).trans b0; have ez2 := (k2.cell (p := ⟨b, o + k * 10 + 1, none⟩) (by show b < wo.heap.size; omega)).trans ez)
              | (at_builtin; refine wpList_push 140 3 (.int .i64 0) 8 Tryz.underlying140 Tryz.info3 rfl (by decide) rfl (.tmp 55) (.tmp 62) rfl wo.heap.size _ ([] ++ []) (.int .i64 z) rfl hown2 hB2 (by simp) rfl rfl ?_; intro v5 w3 hown3 hb3 hB3; have k3 : Below wo.heap.size wo w3 := k2.trans hb3)
              | (at_builtin; refine wpList_cat 140 3 (.int .i64 0) 8 Tryz.underlying140 Tryz.info3 rfl (by decide) rfl (.tmp 64) (.tmp 67) rfl wo.heap.size wo.heap.size _ (([] ++ []) ++ [Value.int .i64 z]) [] none 0 (fun _ h => by simp at h) (fun _ => rfl) hown3 Row.nil hB3 (by simp) rfl rfl rfl ?_; intro v6 w4 hown4 hb4 hB4))
            go_roundw
            case rel => exact ⟨k + 1, by omega, by go_num, by rw [HZ.out, HIN.out]; exact own_mono (by simpa using hown4) hzr, hbr.trans ((k3.trans hb4).mono (by omega))⟩
            case measure => simp [intOf]; omega
          · clear hpe
            by_cases hcp : c1 = p
            · obtain rfl : p = c1 := hcp.symm
              have HOWN0 : Hid (∀ q, ((wo.drewN q).alloc (.cells #[] 3)).ownsRow wo.heap.size 3 1 (.slice (some ⟨wo.heap.size, 0, none⟩) 0 0) 0 []) := fun q => World.ownsRow_made (base := wo.heap.size) (e := 3) (size := 1) (wo.drewN q) #[] 0 (Nat.le_refl _) (by decide) rfl
              have HROW0 : Hid (∀ q, Row ((wo.drewN q).alloc (.cells #[] 3)) wo.heap.size (some a1) (i64s (acc.take p))) := fun q => by
                have h1 := (HROW.out.take p).below ((below_drews (Below.refl wo.heap.size wo) q).alloc (Nat.le_refl _) (.cells #[] 3)) (Nat.le_refl _)
                rwa [← List.map_take] at h1
              have HPL : Hid (p = (i64s (acc.take p)).length) := by show p = _; simp; omega
              have HS0 : Hid (([] : List Value).length + (i64s (acc.take p)).length ≤ 2000000) := by show _ ≤ _; simp; omega
              have HS1 : Hid (([] ++ i64s (acc.take p)).length ≤ 2000000) := by show _ ≤ _; simp; omega
              have HS2 : Hid ((([] ++ i64s (acc.take p)) ++ [Value.int .i64 z]).length + (i64s (acc.drop p)).length ≤ 2000000) := by show _ ≤ _; simp; omega
              have HROWC : Hid (∀ W, Below wo.heap.size wo W → ∀ A', Row W wo.heap.size A' (i64s (acc.drop p))) := fun W _ A' => by rw [HDR.out]; exact Row.nil
              go_wp2
              go_quiet (fail)
              go_wp2
              go_quiet (fail)
              go_wp2_with (first
                | (at_builtin; refine wpList_cat 140 3 (.int .i64 0) 8 Tryz.underlying140 Tryz.info3 rfl (by decide) rfl (.tmp 50) (.tmp 53) rfl wo.heap.size wo.heap.size _ [] (i64s (acc.take p)) (some a1) p (one_i64s _) HNIL.out (HOWN0.out _) (HROW0.out _) (by show wo.heap.size ≤ ((wo.drewN _).alloc _).heap.size; simp) HS0.out rfl rfl HPL.out ?_; intro v4 w2 hown2 hb2 hB2; have k2 : Below wo.heap.size wo w2 := ((below_drews (Below.refl wo.heap.size wo) _).alloc (Nat.le_refl _) _).trans hb2; have b2 := (k2.cell (p := ⟨w.heap.size, 0, none⟩) (by show w.heap.size < wo.heap.size; omega)).trans b0; have ez2 := (k2.cell (p := ⟨b, o + k * 10 + 1, none⟩) (by show b < wo.heap.size; omega)).trans ez)
                | (at_builtin; refine wpList_push 140 3 (.int .i64 0) 8 Tryz.underlying140 Tryz.info3 rfl (by decide) rfl (.tmp 55) (.tmp 62) rfl wo.heap.size _ ([] ++ i64s (acc.take p)) (.int .i64 z) rfl hown2 hB2 HS1.out rfl rfl ?_; intro v5 w3 hown3 hb3 hB3; have k3 : Below wo.heap.size wo w3 := k2.trans hb3; have HCUT := Lib.hid (HROWC.out w3 k3))
                | (at_builtin; refine wpList_cat 140 3 (.int .i64 0) 8 Tryz.underlying140 Tryz.info3 rfl (by decide) rfl (.tmp 64) (.tmp 67) rfl wo.heap.size wo.heap.size _ (([] ++ i64s (acc.take p)) ++ [Value.int .i64 z]) (i64s (acc.drop p)) _ _ (one_i64s _) (fun h => by first | cases h | exact Nat.sub_eq_zero_of_le (by omega)) hown3 (HCUT.out _) hB3 HS2.out rfl rfl (by simp only [List.length_map, List.length_drop] <;> omega) ?_; intro v6 w4 hown4 hb4 hB4))
              all_goals
                go_roundw
                case rel => exact ⟨k + 1, by omega, by go_num, by rw [HZ.out, HIN.out]; exact own_mono (by simpa [HDR.out] using hown4) hzr, hbr.trans ((k3.trans hb4).mono (by omega))⟩
                case measure => simp [intOf]; omega
            · clear HZE
              have HOWN0 : Hid (∀ q, ((wo.drewN q).alloc (.cells #[] 3)).ownsRow wo.heap.size 3 1 (.slice (some ⟨wo.heap.size, 0, none⟩) 0 0) 0 []) := fun q => World.ownsRow_made (base := wo.heap.size) (e := 3) (size := 1) (wo.drewN q) #[] 0 (Nat.le_refl _) (by decide) rfl
              have HROW0 : Hid (∀ q, Row ((wo.drewN q).alloc (.cells #[] 3)) wo.heap.size (some a1) (i64s (acc.take p))) := fun q => by
                have h1 := (HROW.out.take p).below ((below_drews (Below.refl wo.heap.size wo) q).alloc (Nat.le_refl _) (.cells #[] 3)) (Nat.le_refl _)
                rwa [← List.map_take] at h1
              have HPL : Hid (p = (i64s (acc.take p)).length) := by show p = _; simp; omega
              have HS0 : Hid (([] : List Value).length + (i64s (acc.take p)).length ≤ 2000000) := by show _ ≤ _; simp; omega
              have HS1 : Hid (([] ++ i64s (acc.take p)).length ≤ 2000000) := by show _ ≤ _; simp; omega
              have HS2 : Hid ((([] ++ i64s (acc.take p)) ++ [Value.int .i64 z]).length + (i64s (acc.drop p)).length ≤ 2000000) := by show _ ≤ _; simp; omega
              have HROWC : Hid (∀ W, Below wo.heap.size wo W → ∀ A', Row W wo.heap.size A' (i64s (acc.drop p))) := fun W _ A' => by rw [HDR.out]; exact Row.nil
              go_wp2
              go_quiet (fail)
              go_wp2
              go_quiet (fail)
              go_wp2_with (first
                | (at_builtin; refine wpList_cat 140 3 (.int .i64 0) 8 Tryz.underlying140 Tryz.info3 rfl (by decide) rfl (.tmp 50) (.tmp 53) rfl wo.heap.size wo.heap.size _ [] (i64s (acc.take p)) (some a1) c1 (one_i64s _) HNIL.out (HOWN0.out _) (HROW0.out _) (by show wo.heap.size ≤ ((wo.drewN _).alloc _).heap.size; simp) HS0.out rfl rfl HPL.out ?_; intro v4 w2 hown2 hb2 hB2; have k2 : Below wo.heap.size wo w2 := ((below_drews (Below.refl wo.heap.size wo) _).alloc (Nat.le_refl _) _).trans hb2; have b2 := (k2.cell (p := ⟨w.heap.size, 0, none⟩) (by show w.heap.size < wo.heap.size; omega)).trans b0; have ez2 := (k2.cell (p := ⟨b, o + k * 10 + 1, none⟩) (by show b < wo.heap.size; omega)).trans ez)
                | (at_builtin; refine wpList_push 140 3 (.int .i64 0) 8 Tryz.underlying140 Tryz.info3 rfl (by decide) rfl (.tmp 55) (.tmp 62) rfl wo.heap.size _ ([] ++ i64s (acc.take p)) (.int .i64 z) rfl hown2 hB2 HS1.out rfl rfl ?_; intro v5 w3 hown3 hb3 hB3; have k3 : Below wo.heap.size wo w3 := k2.trans hb3; have HCUT := Lib.hid (HROWC.out w3 k3))
                | (at_builtin; refine wpList_cat 140 3 (.int .i64 0) 8 Tryz.underlying140 Tryz.info3 rfl (by decide) rfl (.tmp 64) (.tmp 67) rfl wo.heap.size wo.heap.size _ (([] ++ i64s (acc.take p)) ++ [Value.int .i64 z]) (i64s (acc.drop p)) _ _ (one_i64s _) (fun h => by first | cases h | exact Nat.sub_eq_zero_of_le (by omega)) hown3 (HCUT.out _) hB3 HS2.out rfl rfl (by simp only [List.length_map, List.length_drop] <;> omega) ?_; intro v6 w4 hown4 hb4 hB4))
              all_goals
                go_roundw
                case rel => exact ⟨k + 1, by omega, by go_num, by rw [HZ.out, HIN.out]; exact own_mono (by simpa [HDR.out] using hown4) hzr, hbr.trans ((k3.trans hb4).mono (by omega))⟩
                case measure => simp [intOf]; omega
    · have HK : Hid (l.take k = l) := List.take_of_length_le (by have := HN.out; omega)
      have kw : Below w.heap.size w wo := ((Below.refl _ w).alloc (Nat.le_refl _) _).trans (hbr.mono (by omega))
      go_wp2
      go_ret
      exact ⟨_, rfl, by rw [HK.out] at hown; exact hown, kw⟩
end Go.Proofs.YtpfjeoldgcepnaaGreatDoor

/- The program's Zones, from what slices.Sort and slices.Compact come to. -/
namespace Go.Proofs.YtpfjeoldgcepnaaGreatDoor
set_option linter.unusedSimpArgs false
open Go.RowKit
set_option linter.unusedVariables false

end Go.Proofs.YtpfjeoldgcepnaaGreatDoor

/- Plain mathematics of pods that may not be together. -/
namespace Go.Proofs.YtpfjeoldgcepnaaGreatDoor
set_option linter.unusedSimpArgs false
open Go.RowKit
set_option linter.unusedVariables false

/-- Has the first load of this Id Apart? -/
def apartD (id : Int) : List LoadD → Bool
  | [] => false
  | x :: r => if x.id = id then x.apart else apartD id r
theorem apartD_no {id : Int} : ∀ {l : List LoadD} {k : Int}, 0 ≤ k → place LoadD.id id l k < 0 → apartD id l = false
  | [], _, _, _ => rfl
  | x :: r, k, hk, h => by
    by_cases hx : x.id = id
    · simp [place, hx] at h; omega
    · simp only [place, if_neg hx] at h
      simp only [apartD, if_neg hx]
      exact apartD_no (by omega) h
theorem apartD_yes {id : Int} : ∀ {l : List LoadD} {k : Int} {i : Nat} (hi : i < l.length), place LoadD.id id l k = k + i → 0 ≤ k → apartD id l = l[i].apart
  | [], _, _, hi, _, _ => by simp at hi
  | x :: r, k, i, hi, h, hk => by
    by_cases hx : x.id = id
    · simp only [place, if_pos hx] at h
      obtain rfl : i = 0 := by omega
      simp [apartD, hx]
    · simp only [place, if_neg hx] at h
      cases i with
      | zero =>
        have h3 : place LoadD.id id r (k + 1) < 0 ∨ k + 1 ≤ place LoadD.id id r (k + 1) := place_or r (k + 1) (by omega)
        omega
      | succ i =>
        simp only [apartD, if_neg hx, List.getElem_cons_succ]
        exact apartD_yes (by simpa using hi) (by rw [h]; omega) (by omega)
/-- Do two pods clash? -/
def clashD (ls : List LoadD) (a b : PodD) : Bool := a.node != 0 && (a.node == b.node && (a.load == b.load && apartD a.load ls))
/-- The first pod, behind k others, that clashes with one ahead of it. -/
def apartFrom (ls : List LoadD) (l : List PodD) : List PodD → Nat → Int × Int
  | [], _ => (0, -1)
  | p :: r, k => if (l.take k).any (clashD ls p) = true then (10, (k : Int)) else apartFrom ls l r (k + 1)
def apartOf (ls : List LoadD) (l : List PodD) : Int × Int := apartFrom ls l l 0
theorem apartFrom_at {ls : List LoadD} {l : List PodD} {k : Nat} {z : Int × Int} (h : k < l.length) {p : PodD} (hx : l[k] = p) (hp : apartFrom ls l (l.drop k) k = z) :
    ((l.take k).any (clashD ls p) = true → z = (10, (k : Int))) ∧ ((l.take k).any (clashD ls p) = false → apartFrom ls l (l.drop (k + 1)) (k + 1) = z) := by
  rw [List.drop_eq_getElem_cons h, hx, apartFrom] at hp
  constructor
  · intro e; rw [if_pos e] at hp; exact hp.symm
  · intro e; rw [if_neg (by rw [e]; decide)] at hp; exact hp
theorem apartFrom_end {ls : List LoadD} {l : List PodD} {k : Nat} {z : Int × Int} (h : l.length ≤ k) (hp : apartFrom ls l (l.drop k) k = z) : z = (0, -1) := by
  rw [List.drop_of_length_le h] at hp
  exact hp.symm
theorem apartFrom_pair {ls : List LoadD} {l : List PodD} : ∀ (r : List PodD) (k : Nat), ((apartFrom ls l r k).1 = 0 ∧ apartFrom ls l r k = (0, -1)) ∨ ∃ j : Nat, apartFrom ls l r k = (10, (j : Int))
  | [], _ => .inl ⟨rfl, rfl⟩
  | p :: r, k => by
    unfold apartFrom
    split
    · exact .inr ⟨k, rfl⟩
    · exact apartFrom_pair r (k + 1)
theorem apartFrom_iff {ls : List LoadD} {l : List PodD} : ∀ (n k : Nat), l.length = k + n → (apartFrom ls l (l.drop k) k = (0, -1) ↔ ∀ j, k ≤ j → ∀ h : j < l.length, (l.take j).any (clashD ls l[j]) = false)
  | 0, k, hn => by
    rw [List.drop_of_length_le (by omega), apartFrom]
    simp only [true_iff]
    intro j h1 h2; omega
  | n + 1, k, hn => by
    have hk : k < l.length := by omega
    rw [List.drop_eq_getElem_cons hk, apartFrom]
    cases h : (l.take k).any (clashD ls l[k]) with
    | true =>
      simp only [if_true]
      constructor
      · intro e; injection e with e1 e2; omega
      · intro e; have := e k (Nat.le_refl _) hk; rw [h] at this; cases this
    | false =>
      rw [if_neg (by decide), apartFrom_iff n (k + 1) (by omega)]
      constructor
      · intro e j h1 h2
        by_cases hj : j = k
        · subst hj; exact h
        · exact e j (by omega) h2
      · intro e j h1 h2; exact e j (by omega) h2
theorem apart_pairwise {ls : List LoadD} {l : List PodD} : apartOf ls l = (0, -1) ↔ l.Pairwise (fun p q => clashD ls q p = false) := by
  have h := apartFrom_iff (ls := ls) (l := l) l.length 0 (by omega)
  rw [List.drop_zero] at h
  rw [apartOf, h, List.pairwise_iff_getElem]
  constructor
  · intro e i j hi hj hij
    have := e j (by omega) hj
    rw [List.any_eq_false] at this
    have h2 := this l[i] (by rw [List.mem_take_iff_getElem]; exact ⟨i, by omega, rfl⟩)
    simpa using h2
  · intro e j _ hj
    rw [List.any_eq_false]
    intro p hp
    rw [List.mem_take_iff_getElem] at hp
    obtain ⟨i, hi, rfl⟩ := hp
    have := e i j (by omega) hj (by omega)
    simpa using this
end Go.Proofs.YtpfjeoldgcepnaaGreatDoor

/- The program's hasApart, clash, and its closures; slices.IndexFunc and slices.ContainsFunc at them. -/
namespace Go.Proofs.YtpfjeoldgcepnaaGreatDoor
set_option linter.unusedSimpArgs false
open Go.RowKit
set_option linter.unusedVariables false

section
variable {V : World}
theorem Bf.cells8 {b : Nat} {x : PodD} (h : Bf V b (cellsP x)) : (V.cell? ⟨b, 0, none⟩ = some (.int .i64 x.id) ∧ V.cell? ⟨b, 1, none⟩ = some (.int .i64 x.load) ∧ V.cell? ⟨b, 2, none⟩ = some (.int .i64 x.prio) ∧ V.cell? ⟨b, 3, none⟩ = some (.int .u64 x.req.a)) ∧
    V.cell? ⟨b, 4, none⟩ = some (.int .u64 x.req.b) ∧ V.cell? ⟨b, 5, none⟩ = some (.int .u64 x.req.c) ∧ V.cell? ⟨b, 6, none⟩ = some (.int .u64 x.req.d) ∧ V.cell? ⟨b, 7, none⟩ = some (.int .i64 x.node) ∧ b < V.heap.size :=
  ⟨⟨h.cell 0 _ rfl, h.cell 1 _ rfl, h.cell 2 _ rfl, h.cell 3 _ rfl⟩, h.cell 4 _ rfl, h.cell 5 _ rfl, h.cell 6 _ rfl, h.cell 7 _ rfl, h.lt⟩
end
end Go.Proofs.YtpfjeoldgcepnaaGreatDoor

/- slices.Sort, Compact, BinarySearch, Max and Min at []int as they stand in this program: the tables of numbers under which the library's contracts hold here. -/
namespace Go.Proofs.YtpfjeoldgcepnaaGreatDoor
set_option linter.unusedSimpArgs false
open Go.Shelf
end Go.Proofs.YtpfjeoldgcepnaaGreatDoor

/- The zone that a pod is in, and a load's counts in each of some zones: the program's zoneOf and counts of layer 8. -/
namespace Go.Proofs.YtpfjeoldgcepnaaGreatDoor
set_option linter.unusedSimpArgs false
open Go.RowKit Go.Shelf
set_option linter.unusedVariables false

theorem T3.put {a b c : List Value} {w V : World} (h : T3 a b c w V) (i : Nat) (v : Value) : T3 a b (c.set i v) w (V.setCell ⟨w.heap.size + 2, i, none⟩ v) :=
  ⟨h.one.other (by simp) _, h.two.other (by simp) _, h.three.set i v, h.below.setCell (by simp) _⟩
end Go.Proofs.YtpfjeoldgcepnaaGreatDoor

/- slices.Sort and slices.Compact at a slice of the call's own. -/
namespace Go.Proofs.YtpfjeoldgcepnaaGreatDoor
set_option linter.unusedSimpArgs false
open Go.RowKit Go.Shelf Go.Sort
set_option linter.unusedVariables false

end Go.Proofs.YtpfjeoldgcepnaaGreatDoor

/- A load's count in a zone, and its skew: the program's Count and Skew of layer 8. -/
namespace Go.Proofs.YtpfjeoldgcepnaaGreatDoor
set_option linter.unusedSimpArgs false
open Go.RowKit Go.Shelf
set_option linter.unusedVariables false

end Go.Proofs.YtpfjeoldgcepnaaGreatDoor

/- The program's Check of layer 8. -/
namespace Go.Proofs.YtpfjeoldgcepnaaGreatDoor
set_option linter.unusedSimpArgs false
open Go.RowKit
set_option linter.unusedVariables false

/-- The first load, behind k others, whose zones are too unlike. -/
def spreadFrom (ns : List NodeD) (l : List PodD) : List LoadD → Nat → Int × Int
  | [], _ => (0, -1)
  | x :: r, k => if 0 < x.skew ∧ x.skew < skewD ns x.id (zonesOf ns) l then (11, (k : Int)) else spreadFrom ns l r (k + 1)
def spreadOf (ns : List NodeD) (ls : List LoadD) (l : List PodD) : Int × Int := spreadFrom ns l ls 0
theorem spreadFrom_at {ns : List NodeD} {l : List PodD} {ls : List LoadD} {k : Nat} {z : Int × Int} (h : k < ls.length) {x : LoadD} (hx : ls[k] = x) (hp : spreadFrom ns l (ls.drop k) k = z) :
    (0 < x.skew ∧ x.skew < skewD ns x.id (zonesOf ns) l → z = (11, (k : Int))) ∧ (¬ (0 < x.skew ∧ x.skew < skewD ns x.id (zonesOf ns) l) → spreadFrom ns l (ls.drop (k + 1)) (k + 1) = z) := by
  rw [List.drop_eq_getElem_cons h, hx, spreadFrom] at hp
  constructor
  · intro e; rw [if_pos e] at hp; exact hp.symm
  · intro e; rw [if_neg e] at hp; exact hp
theorem spreadFrom_end {ns : List NodeD} {l : List PodD} {ls : List LoadD} {k : Nat} {z : Int × Int} (h : ls.length ≤ k) (hp : spreadFrom ns l (ls.drop k) k = z) : z = (0, -1) := by
  rw [List.drop_of_length_le h] at hp
  exact hp.symm
theorem Bf.cells5 {V : World} {b : Nat} {x : LoadD} (h : Bf V b (cellsL x)) : (V.cell? ⟨b, 0, none⟩ = some (.int .i64 x.id) ∧ V.cell? ⟨b, 1, none⟩ = some (.bool x.apart) ∧ V.cell? ⟨b, 2, none⟩ = some (.int .i64 x.skew)) ∧ V.cell? ⟨b, 3, none⟩ = some (.int .i64 x.min) ∧ V.cell? ⟨b, 4, none⟩ = some (.int .i64 x.max) ∧ b < V.heap.size :=
  ⟨⟨h.cell 0 _ rfl, h.cell 1 _ rfl, h.cell 2 _ rfl⟩, h.cell 3 _ rfl, h.cell 4 _ rfl, h.lt⟩
end Go.Proofs.YtpfjeoldgcepnaaGreatDoor

namespace Go.Proofs.YtpfjeoldgcepnaaGreatDoor
set_option linter.unusedSimpArgs false
open Go.RowKit
set_option linter.unusedVariables false

/-- An error of a sum or a difference. -/
def errO (o : Option V4) : Value := if o.isSome = true then .nilIface else .iface 98 (.int .i64 8)
theorem vSub_any {x y : V4} (hx : x.Ok) (hy : y.Ok) (w : World) :
    Calls Tryz.prog 105 #[aggV x, aggV y] w fun e w' => e = .returned (.tuple #[aggV (lessV x y), errO (subV x y)]) ∧ Below w.heap.size w w' := by
  unfold lessV
  cases h : subV x y with
  | some z => exact vSub_some hx hy h w
  | none => exact vSub_none hx hy h w
theorem vAdd_any {x y : V4} (hx : x.Ok) (hy : y.Ok) (w : World) :
    Calls Tryz.prog 62 #[aggV x, aggV y] w fun e w' => e = .returned (.tuple #[aggV (moreV x y), errO (addV x y)]) ∧ Below w.heap.size w w' := by
  unfold moreV
  cases h : addV x y with
  | some z => exact vAdd_some hx hy h w
  | none => exact vAdd_none hx hy h w
theorem zer_ok : V4.zer.Ok := ⟨⟨by decide, by decide⟩, ⟨by decide, by decide⟩, ⟨by decide, by decide⟩, ⟨by decide, by decide⟩⟩
theorem less_okV {x y : V4} (hx : x.Ok) (hy : y.Ok) : (lessV x y).Ok := by
  unfold lessV
  cases h : subV x y with
  | some z => exact sub_ok4 hx hy h
  | none => exact zer_ok
theorem more_okV {x y : V4} (hx : x.Ok) (hy : y.Ok) : (moreV x y).Ok := by
  unfold moreV
  cases h : addV x y with
  | some z => exact add_ok4 hx hy h
  | none => exact zer_ok

set_option maxHeartbeats 1600000 in
set_option maxRecDepth 100000 in
theorem less_any {x y : V4} (hx : x.Ok) (hy : y.Ok) (w : World) :
    Calls Tryz.prog 61 #[aggV x, aggV y] w fun e w' => e = .returned (aggV (lessV x y)) ∧ Below w.heap.size w w' := by
  have HC := Lib.hid (fun w => vSub_any hx hy w)
  have HL := Lib.hid (less_okV hx hy)
  have T0 := T3.new w (cellsV x) (cellsV y) (cellsV .zer) 59 59 59
  clear hx hy
  generalize lessV x y = z at *
  generalize errO (subV x y) = u at *
  go_enter Tryz.func61, Tryz.ntmps61
  go_wp2_with fail
  refine (HC.out _).mono ?_
  rintro e w1 ⟨rfl, hb1⟩
  have T1 := T0.keep hb1
  clear hb1 T0
  have hz1 : w.heap.size + 2 < w1.heap.size := T1.three.lt
  have T2 := T1.alloc (.cells #[.int .u64 z.a, .int .u64 z.b, .int .u64 z.c, .int .u64 z.d] 59)
  obtain ⟨⟨g0, g1, g2, g3⟩, g4⟩ := T1.three.zero4
  obtain ⟨f0, f1, f2, f3⟩ := T1.three.free4
  have kw2 := T1.below
  clear T1 T2
  go_wp2
  refine bodyPost_ret (v := aggV z) ?_ rfl ?_
  · simp [results, Tryz.results61, go_sem, *]
  · refine ⟨rfl, ?_⟩
    repeat (first | with_reducible exact kw2 | with_reducible refine Below.setCell ?_ ?_ _ | with_reducible refine Below.alloc ?_ ?_ _)
    all_goals first | (show w.heap.size ≤ w.heap.size + 2; omega) | (simp; omega) | omega

set_option maxHeartbeats 1600000 in
set_option maxRecDepth 100000 in
theorem free_any {n : NodeD} (hn : n.Ok) (w : World) :
    Calls Tryz.prog 64 #[aggN n] w fun e w' => e = .returned (aggV (lessV n.cap n.held)) ∧ Below w.heap.size w w' := by
  have HC := Lib.hid (fun w => less_any hn.2.2.1 hn.2.2.2 w)
  have T0 := T2.new w (cellsN n) (cellsV .zer) 63 59
  clear hn
  generalize lessV n.cap n.held = z at *
  go_enter Tryz.func64, Tryz.ntmps64
  go_wp2_with fail
  refine (HC.out _).mono ?_
  rintro e w1 ⟨rfl, hb1⟩
  have T1 := T0.keep hb1
  clear hb1 T0
  obtain ⟨⟨g0, g1, g2, g3⟩, g4⟩ := T1.two.zero4
  obtain ⟨f0, f1, f2, f3⟩ := T1.two.free4
  have kw2 := T1.below
  clear T1
  go_wp2
  refine bodyPost_ret (v := aggV z) ?_ rfl ?_
  · simp [results, Tryz.results64, go_sem, *]
  · refine ⟨rfl, ?_⟩
    repeat (first | with_reducible exact kw2 | with_reducible refine Below.setCell ?_ ?_ _ | with_reducible refine Below.alloc ?_ ?_ _)
    all_goals first | (show w.heap.size ≤ w.heap.size + 1; omega) | (simp; omega) | omega
/-- A look-up of a node's use. -/
theorem use_run {M : MapsB} {n : Nat} {C : CntD} {V : World} (h : CntIs M n C V) {i : Int} (hi : I64 i) : (Instr.lookup 84 (.map (some M.u)) (.int .i64 i) false).run Tryz.prog V = .ok (aggV (C.use i)) V :=
  h.use.lookup intLaw Tryz.underlying84 (zeroVec _) (key_int hi)
theorem Bf.cells5v {V : World} {b : Nat} {M : MapsB} (h : Bf V b M.cells) : V.cell? ⟨b, 0, none⟩ = some (.map (some M.z)) ∧ V.cell? ⟨b, 1, none⟩ = some (.map (some M.u)) ∧ V.cell? ⟨b, 2, none⟩ = some (.map (some M.a)) ∧ V.cell? ⟨b, 3, none⟩ = some (.map (some M.i)) ∧ V.cell? ⟨b, 4, none⟩ = some (.map (some M.s)) ∧ b < V.heap.size :=
  ⟨h.cell 0 _ rfl, h.cell 1 _ rfl, h.cell 2 _ rfl, h.cell 3 _ rfl, h.cell 4 _ rfl, h.lt⟩
end Go.Proofs.YtpfjeoldgcepnaaGreatDoor
