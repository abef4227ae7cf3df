/- Contracts of the two functions that write numbers: wire.Put and dunnageref02.Put. -/
import Derived.Test.YtglblaeplibjmaaDoorP
namespace Go.Proofs.YtglblaeplibjmaaDoor
open Go.RowKit
set_option linter.unusedVariables false

theorem encs_take (l : List Int) (k : Nat) (h : k < l.length) : encs (l.take k) ++ enc l[k] = encs (l.take (k + 1)) := by
  rw [List.take_succ_eq_append_getElem h, encs_append, encs_one]
theorem encs_take_len (l : List Int) (hn : Nums l) (hl : l.length ≤ 5000) (k : Nat) : (encs (l.take k)).length ≤ 50000 := by
  have := encs_len_le (hn.take k)
  have := List.length_take_le' k l
  omega

def PutsRel (l : List Int) (w : World) (v i : Value) (wr : World) : Prop :=
  ∃ k : Nat, k ≤ l.length ∧ i = .int .i64 k ∧ wr.ownsRow w.heap.size 5 1 v (u8s (encs (l.take k))).length (u8s (encs (l.take k))) ∧ Below w.heap.size w wr

set_option maxHeartbeats 800000 in
theorem Put_any (l : List Int) (A : Option Addr) (c : Nat) (w : World) (hl : l.length ≤ 5000) (hn : Nums l) (hr : Row w w.heap.size A (u64s l)) :
    Calls Tryd.prog 9 #[.slice A l.length c] w (PutTo w.heap.size (encs l) w) := by
  have HN := Lib.hid hn
  have HR := Lib.hid hr
  clear hn hr
  go_enter Tryd.func9, Tryd.ntmps9
  go_wp2
  go_loopw [3, 8] (PutsRel l w) (fun _ i _ => l.length - (intOf i).toNat)
  case atStart => exact ⟨0, by omega, rfl, World.ownsRow_nil _ _ _ _, Below.refl _ _⟩
  case round =>
    obtain ⟨k, hk, rfl, hown, hbr⟩ := hrel
    by_cases hlt : k < l.length
    · obtain ⟨b, o, rfl, hb, hcell⟩ := HR.out.at (k := k) (by simpa using hlt)
      have hc := (hbr.cell (p := ⟨b, o + k, none⟩) hb).trans (hcell k (by simpa using hlt))
      simp only [List.getElem_map] at hc
      clear hcell
      have hz := hbr.size
      go_wp2_with fail
      refine (put_any w.heap.size _ (encs (l.take k)) l[k] _ hz hown (HN.out _ (List.getElem_mem hlt)).1 (HN.out _ (List.getElem_mem hlt)).2 (by have := encs_take_len l HN.out hl k; omega)).mono ?_
      rintro e w1 ⟨v, rfl, hown1, hb1⟩
      go_wp2
      go_roundw
      case rel => exact ⟨k + 1, by omega, by go_num, by rw [← encs_take l k hlt]; exact hown1, hbr.trans hb1⟩
      case measure => simp [intOf]; omega
    · have HK : Hid (l.take k = l) := List.take_of_length_le (by omega)
      go_wp2
      go_ret
      exact ⟨_, rfl, by rw [HK.out] at hown; exact hown, hbr⟩

set_option maxHeartbeats 800000 in
theorem rPut_any (l : List Int) (A : Option Addr) (c : Nat) (w : World) (hl : l.length ≤ 5000) (hn : Nums l) (hr : Row w w.heap.size A (u64s l)) :
    Calls Tryd.prog 10 #[.slice A l.length c] w (PutTo w.heap.size (encs l) w) := by
  have HN := Lib.hid hn
  have HR := Lib.hid hr
  clear hn hr
  go_enter Tryd.func10, Tryd.ntmps10
  go_wp2
  go_loopw [3, 4] (PutsRel l w) (fun _ i _ => l.length - (intOf i).toNat)
  case atStart => exact ⟨0, by omega, rfl, World.ownsRow_nil _ _ _ _, Below.refl _ _⟩
  case round =>
    obtain ⟨k, hk, rfl, hown, hbr⟩ := hrel
    by_cases hlt : k < l.length
    · obtain ⟨b, o, rfl, hb, hcell⟩ := HR.out.at (k := k) (by simpa using hlt)
      have hc := (hbr.cell (p := ⟨b, o + k, none⟩) hb).trans (hcell k (by simpa using hlt))
      simp only [List.getElem_map] at hc
      clear hcell
      have hz := hbr.size
      go_wp2_with fail
      refine (rput_any l[k] _ (HN.out _ (List.getElem_mem hlt)).1 (HN.out _ (List.getElem_mem hlt)).2).mono ?_
      rintro e w1 ⟨v, rfl, hown1, hb1⟩
      obtain ⟨A1, c1, rfl, _, _, hnil⟩ := own_form hown1
      have hrow := (Row.of_own hown1).1
      have hown0 := own_below hown hb1 (Nat.le_refl _)
      have hz1 := hb1.size
      have h10 := encs_take_len l HN.out hl k
      have h11 := enc_len_ten l[k] (HN.out _ (List.getElem_mem hlt)).2
      have HL : Hid ((u8s (encs (l.take k))).length + (u8s (enc l[k])).length ≤ 2000000) := by show _ ≤ _; simp only [List.length_map]; omega
      clear h10 h11
      go_wp2_with (at_builtin; refine wpList_cat 24 5 (.int .u8 0) 1 Tryd.underlying24 Tryd.info5 rfl (by decide) rfl (.tmp 11) (.tmp 16) rfl w.heap.size _ _ (u8s (encs (l.take k))) (u8s (enc l[k])) A1 c1 (one_u8s _) (fun h => (hnil h).2) hown0 hrow (by omega) HL.out rfl rfl (by simp) ?_; intro v' w2 hown2 hb2 hB2)
      go_roundw
      case rel => exact ⟨k + 1, by omega, by go_num, by rw [← encs_take l k hlt]; simpa using hown2, (hbr.trans (hb1.mono hz)).trans hb2⟩
      case measure => simp [intOf]; omega
    · have HK : Hid (l.take k = l) := List.take_of_length_le (by omega)
      go_wp2
      go_ret
      exact ⟨_, rfl, by rw [HK.out] at hown; exact hown, hbr⟩
end Go.Proofs.YtglblaeplibjmaaDoor
