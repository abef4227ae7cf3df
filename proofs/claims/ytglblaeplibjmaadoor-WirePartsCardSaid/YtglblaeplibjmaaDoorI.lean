/- Contracts of wire.Get and of dunnageref02.All, Get and Same. -/
import Derived.Test.YtglblaeplibjmaaDoorH
import Derived.Deep.QuietTactic
import Derived.BigQuiet
namespace Go.Proofs.YtglblaeplibjmaaDoor
open Go.RowKit
set_option linter.unusedVariables false

theorem one_hit (bs : List Int) (pos : Nat) (v : Int) (r : List Int) (A : Option Addr) (n c R : Nat) (w : World) (hn : n = bs.length) (hl : n ≤ 100000) (hat : pos ≤ n) (hb : Octs bs) (hd : bs.drop pos = enc v ++ r) (h0 : 0 ≤ v ∧ v < 18446744073709551616) (hr : Row w R A (u8s bs)) :
    Calls Tryd.prog 21 #[.slice A n c, .int .i64 pos] w fun e w' => e = .returned (.tuple #[.int .u64 v, .int .i64 ((pos + (enc v).length : Nat) : Int)]) ∧ Below w.heap.size w w' := by
  subst hn
  have := one_any bs pos A c R w hl hat hb hr
  rw [hd, scan_hit v r h0.1 h0.2] at this
  have h1 := enc_len_pos v
  unfold oneVal at this
  rw [if_neg (by simp; exact enc_ne v)] at this
  exact this
theorem one_miss (bs : List Int) (pos : Nat) (A : Option Addr) (n c R : Nat) (w : World) (hn : n = bs.length) (hl : n ≤ 100000) (hat : pos ≤ n) (hb : Octs bs) (hm : Miss (bs.drop pos)) (hr : Row w R A (u8s bs)) :
    Calls Tryd.prog 21 #[.slice A n c, .int .i64 pos] w fun e w' => e = .returned (.tuple #[.int .u64 0, .int .i64 (-1)]) ∧ Below w.heap.size w w' := by
  subst hn
  have := one_any bs pos A c R w hl hat hb hr
  rw [show scan (bs.drop pos) 0 0 = (0, 0) from hm] at this
  exact this

/-- What one more number of the bytes tells. -/
structure Next (ns rest : List Int) (k n p : Nat) (x : Int) (q : Nat) : Prop where
  drop : (encs ns ++ rest).drop p = enc x ++ (encs (ns.drop (k + 1)) ++ rest)
  left : n - p = (enc x ++ (encs (ns.drop (k + 1)) ++ rest)).length
  octs : Octs (encs (ns.drop (k + 1)) ++ rest)
  next : (encs (ns.take (k + 1))).length = p + q
  take : ns.take k ++ [x] = ns.take (k + 1)
  few : (u64s (ns.take k)).length ≤ 2000000
  len : (enc x).length = q
theorem next_at (ns rest : List Int) (n k : Nat) (hlt : k < ns.length) (hn : n = (encs ns ++ rest).length) (hl : n ≤ 100000) (hns : Nums ns) (hb : Octs rest) :
    Next ns rest k n (encs (ns.take k)).length ns[k] (enc ns[k]).length ∧ (encs (ns.take k)).length + (enc ns[k]).length ≤ n ∧ 1 ≤ (enc ns[k]).length ∧ (enc ns[k]).length ≤ 10 ∧ 0 ≤ ns[k] ∧ ns[k] < 18446744073709551616 := by
  have hv := hns _ (List.getElem_mem hlt)
  refine ⟨⟨drop_at ns rest k hlt, ?_, octs_append (encs_octs (nums_drop hns _)) hb, len_next ns k hlt, (List.take_succ_eq_append_getElem hlt).symm, ?_, rfl⟩, hn ▸ len_at ns rest k hlt, enc_len_pos _, enc_len_ten _ hv.2, hv⟩
  · rw [← drop_at ns rest k hlt, List.length_drop, hn]
  · have := encs_len_ge ns
    simp at hn ⊢; omega

def RAllTo (ns rest : List Int) (w : World) (e : Ending) (w' : World) : Prop :=
  ((rest = [] ∧ ∃ v, e = .returned (.tuple #[v, .int .i64 (-1)]) ∧ w'.ownsRow w.heap.size 44 1 v (u64s ns).length (u64s ns)) ∨
   (rest ≠ [] ∧ e = .returned (.tuple #[.slice none 0 0, .int .i64 ((encs ns).length : Nat)]))) ∧ Below w.heap.size w w'

set_option maxHeartbeats 800000 in
theorem rAll_any (ns rest : List Int) (A : Option Addr) (n c : Nat) (w : World) (hn : n = (encs ns ++ rest).length) (hl : n ≤ 100000) (hns : Nums ns) (hb : Octs rest) (hm : rest = [] ∨ (rest ≠ [] ∧ Miss rest)) (hr : Row w w.heap.size A (u8s (encs ns ++ rest))) :
    Calls Tryd.prog 16 #[.slice A n c] w (RAllTo ns rest w) := by
  have HN := Lib.hid hns
  have HB := Lib.hid hb
  have HR := Lib.hid hr
  have HM := Lib.hid hm
  have HL := Lib.hid hn
  have HO : Hid (Octs (encs ns ++ rest)) := octs_append (encs_octs hns) hb
  clear hns hb hr hm hn
  go_enter Tryd.func16, Tryd.ntmps16
  go_wp2
  go_loopw [4, 5] (AllRel ns w) (fun _ i _ => n - (intOf i).toNat)
  case atStart => exact ⟨0, by omega, rfl, World.ownsRow_nil _ _ _ _, Below.refl _ _⟩
  case round =>
    obtain ⟨k, hk, rfl, hown, hbr⟩ := hrel
    have hz := hbr.size
    have HROW := Lib.hid (HR.out.below hbr (Nat.le_refl _))
    by_cases hlt : k < ns.length
    · obtain ⟨hnx, h1, h2, h3, h4, h5⟩ := next_at ns rest n k hlt HL.out hl HN.out HB.out
      have HX := Lib.hid hnx
      clear hnx
      generalize (encs (ns.take k)).length = p at *
      generalize (enc ns[k]).length = q at *
      generalize ns[k] = x at *
      go_wp2_with fail
      refine (one_hit (encs ns ++ rest) p x _ _ _ _ _ _ HL.out hl (by omega) HO.out HX.out.drop ⟨h4, h5⟩ HROW.out).mono ?_
      rw [HX.out.len]
      rintro e w1 ⟨rfl, hb1⟩
      have hz1 := hb1.size
      have hown1 := own_below hown hb1 (Nat.le_refl _)
      go_wp2_with (at_builtin; refine wpList_push 22 44 (.int .u64 0) 8 Tryd.underlying22 Tryd.info44 rfl (by decide) rfl (.tmp 21) (.tmp 23) rfl w.heap.size _ (u64s (ns.take k)) (.int .u64 x) rfl hown1 (by omega) HX.out.few rfl rfl ?_; intro v' w2 hown2 hb2 hB2)
      go_roundw
      case rel => exact ⟨k + 1, by omega, by rw [HX.out.next]; go_num, own64 hown2 HX.out.take, (hbr.trans (hb1.mono hz)).trans hb2⟩
      case measure => simp [intOf]; omega
    · have htk : ns.take k = ns := List.take_of_length_le (by omega)
      rw [htk] at hown ⊢
      rcases HM.out with h0 | ⟨hne, hm⟩
      · subst h0
        have he : (encs ns).length = n := by rw [HL.out]; simp
        generalize hpe : (encs ns).length = p at *
        have hp : n ≤ p := by omega
        clear hpe he htk
        go_wp2
        go_ret2
        exact ⟨.inl ⟨rfl, _, rfl, hown⟩, hbr⟩
      · have hd : n - (encs ns).length = rest.length := by rw [HL.out]; simp
        have hr0 : 0 < rest.length := List.length_pos_iff.2 hne
        have HM' : Hid (Miss ((encs ns ++ rest).drop (encs ns).length)) := by rw [drop_end]; exact hm
        have HNE := Lib.hid hne
        generalize hpe : (encs ns).length = p at *
        have hp : p < n := by omega
        have HP := Lib.hid hpe
        clear hpe hd htk hm hne
        go_wp2_with fail
        refine (one_miss (encs ns ++ rest) p _ _ _ _ _ HL.out hl (by omega) HO.out HM'.out HROW.out).mono ?_
        rintro e w1 ⟨rfl, hb1⟩
        go_wp2
        go_ret2
        exact ⟨.inr ⟨HNE.out, by rw [HP.out]; rfl⟩, hbr.trans (hb1.mono hz)⟩
end Go.Proofs.YtglblaeplibjmaaDoor
