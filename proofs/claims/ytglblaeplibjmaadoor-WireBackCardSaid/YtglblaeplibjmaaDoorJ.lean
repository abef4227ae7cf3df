/- Contracts of wire.Get, and of dunnageref02.Get and Same. -/
import Derived.Test.YtglblaeplibjmaaDoorI
namespace Go.Proofs.YtglblaeplibjmaaDoor
open Go.RowKit
set_option linter.unusedVariables false

def GetRel (ns : List Int) (w : World) (v i j : Value) (wr : World) : Prop :=
  ∃ k : Nat, k ≤ ns.length ∧ j = .int .i64 k ∧ i = .int .i64 ((encs (ns.take k)).length : Nat) ∧ wr.ownsRow w.heap.size 44 1 v (u64s (ns.take k)).length (u64s (ns.take k)) ∧ Below w.heap.size w wr

def GetTo (ns : List Int) (many : Int) (w : World) (e : Ending) (w' : World) : Prop :=
  ((ns.length = many.toNat ∧ ∃ v, e = .returned (.tuple #[v, .int .i64 ((encs ns).length : Nat), .nilIface]) ∧ w'.ownsRow w.heap.size 44 1 v (u64s ns).length (u64s ns)) ∨
   (ns.length < many.toNat ∧ ∃ u, e = .returned (.tuple #[.slice none 0 0, .int .i64 0, u]) ∧ Spotted w.heap.size (encs ns).length w' u)) ∧ Below w.heap.size w w'

set_option maxHeartbeats 1600000 in
theorem Get_any (ns rest : List Int) (many : Int) (A : Option Addr) (n c : Nat) (w : World) (hn : n = (encs ns ++ rest).length) (hl : n ≤ 100000) (hc : n ≤ c) (hc' : c ≤ maxLen) (hmany : many ≤ 9223372036854775807) (hns : Nums ns) (hb : Octs rest) (hm : ns.length = many.toNat ∨ (ns.length < many.toNat ∧ Miss rest)) (hr : Row w w.heap.size A (u8s (encs ns ++ rest))) :
    Calls Tryd.prog 11 #[.slice A n c, .int .i64 many] w (GetTo ns many w) := by
  unfold maxLen at hc'
  have HN := Lib.hid hns
  have HB := Lib.hid hb
  have HR := Lib.hid hr
  have HM := Lib.hid hm
  have HL := Lib.hid hn
  clear hns hb hr hm hn
  go_enter Tryd.func11, Tryd.ntmps11
  go_wp2
  go_loopw [7, 8, 12] (GetRel ns w) (fun _ _ j _ => ns.length - (intOf j).toNat)
  case atStart => exact ⟨0, by omega, rfl, rfl, World.ownsRow_nil _ _ _ _, Below.refl _ _⟩
  case round =>
    obtain ⟨k, hk, rfl, rfl, hown, hbr⟩ := hrel
    have hz := hbr.size
    have hrow := HR.out.below hbr (Nat.le_refl _)
    by_cases hlt : k < ns.length
    · obtain ⟨hnx, h1, h2, h3, h4, h5⟩ := next_at ns rest n k hlt HL.out hl HN.out HB.out
      have hcut := hrow.cut (encs (ns.take k)).length
      rw [← u8s_drop, hnx.drop] at hcut
      have hkm : (k : Int) < many := by rcases HM.out with h | ⟨h, _⟩ <;> omega
      have HX := Lib.hid hnx
      have HC := Lib.hid hcut
      clear hnx hcut hrow
      generalize (encs (ns.take k)).length = p at *
      generalize hqe : (enc ns[k]).length = q at *
      clear hqe
      generalize ns[k] = x at *
      go_wp2_with fail
      refine (first_hit x _ _ _ _ _ _ HX.out.left (by omega) ⟨h4, h5⟩ HX.out.octs HC.out).mono ?_
      rw [HX.out.len]
      rintro e w1 ⟨rfl, rfl⟩
      go_wp2_with (at_builtin; refine wpList_push 22 44 (.int .u64 0) 8 Tryd.underlying22 Tryd.info44 rfl (by decide) rfl (.tmp 25) (.tmp 27) rfl w.heap.size _ (u64s (ns.take k)) (.int .u64 x) rfl hown hz HX.out.few rfl rfl ?_; intro v' w1 hown1 hb1 hB1)
      go_roundw
      case rel => exact ⟨k + 1, by omega, by go_num, by rw [HX.out.next]; go_num, own64 hown1 HX.out.take, hbr.trans hb1⟩
      case measure => simp [intOf]; omega
    · have htk : ns.take k = ns := List.take_of_length_le (by omega)
      have hke : k = ns.length := by omega
      rw [htk] at hown ⊢
      rcases HM.out with h0 | ⟨hne, hm⟩
      · have hkm : many ≤ (k : Int) := by omega
        have HE := Lib.hid h0
        clear h0 hke htk hrow
        go_wp2
        go_ret3
        exact ⟨.inl ⟨HE.out, _, rfl, hown⟩, hbr⟩
      · have hkm : (k : Int) < many := by omega
        have HNE := Lib.hid hne
        have hd : n - (encs ns).length = rest.length := by rw [HL.out]; simp
        have hle : (encs ns).length ≤ n := by rw [HL.out]; simp
        have HM' := Lib.hid hm
        by_cases hr0 : rest = []
        · have hcut : ∀ A' : Option Addr, Row wr w.heap.size A' (u8s rest) := fun A' => by subst hr0; exact Row.nil
          generalize hpe : (encs ns).length = p at *
          have HP := Lib.hid hpe
          have HD := Lib.hid hd
          have HC := Lib.hid hcut
          clear hpe hd hcut htk hrow hm hne hke hr0
          go_wp2_with fail
          all_goals
            refine (first_miss rest _ _ _ _ _ HD.out (by omega) HB.out HM'.out (HC.out _)).mono ?_
            rintro e w1 ⟨rfl, rfl⟩
            go_wp2_with fail
            refine (misformed_any _ _).mono ?_
            rintro e w1 ⟨rfl, rfl⟩
            go_wp2
            go_ret3
            refine ⟨.inr ⟨HNE.out, _, rfl, wr.heap.size, rfl, hz, ?_⟩, hbr.alloc hz _⟩
            rw [HP.out]
            exact heap_alloc_new _ _
        · have hcut := hrow.cut (encs ns).length
          rw [← u8s_drop, drop_end] at hcut
          have hr1 : 0 < rest.length := List.length_pos_iff.2 hr0
          generalize hpe : (encs ns).length = p at *
          have hp : p < n := by omega
          have HP := Lib.hid hpe
          have HD := Lib.hid hd
          have HC := Lib.hid hcut
          clear hpe hd hcut htk hrow hm hne hke hr0
          go_wp2_with fail
          refine (first_miss rest _ _ _ _ _ HD.out (by omega) HB.out HM'.out HC.out).mono ?_
          rintro e w1 ⟨rfl, rfl⟩
          go_wp2_with fail
          refine (misformed_any _ _).mono ?_
          rintro e w1 ⟨rfl, rfl⟩
          go_wp2
          go_ret3
          refine ⟨.inr ⟨HNE.out, _, rfl, wr.heap.size, rfl, hz, ?_⟩, hbr.alloc hz _⟩
          rw [HP.out]
          exact heap_alloc_new _ _

def RGetTo (ns : List Int) (many : Int) (w : World) (e : Ending) (w' : World) : Prop :=
  ((ns.length = many.toNat ∧ ∃ v, e = .returned (.tuple #[v, .int .i64 ((encs ns).length : Nat), .int .i64 (-1)]) ∧ w'.ownsRow w.heap.size 44 1 v (u64s ns).length (u64s ns)) ∨
   (ns.length < many.toNat ∧ e = .returned (.tuple #[.slice none 0 0, .int .i64 0, .int .i64 ((encs ns).length : Nat)]))) ∧ Below w.heap.size w w'

set_option maxHeartbeats 1600000 in
theorem rGet_any (ns rest : List Int) (many : Int) (A : Option Addr) (n c : Nat) (w : World) (hn : n = (encs ns ++ rest).length) (hl : n ≤ 100000) (hns : Nums ns) (hb : Octs rest) (hm : ns.length = many.toNat ∨ (ns.length < many.toNat ∧ Miss rest)) (hr : Row w w.heap.size A (u8s (encs ns ++ rest))) :
    Calls Tryd.prog 12 #[.slice A n c, .int .i64 many] w (RGetTo ns many w) := by
  have HN := Lib.hid hns
  have HB := Lib.hid hb
  have HR := Lib.hid hr
  have HM := Lib.hid hm
  have HL := Lib.hid hn
  have HO : Hid (Octs (encs ns ++ rest)) := octs_append (encs_octs hns) hb
  clear hns hb hr hm hn
  go_enter Tryd.func12, Tryd.ntmps12
  go_wp2
  go_loopw [7, 8] (AllRel ns w) (fun _ i _ => n - (intOf i).toNat)
  case atStart => exact ⟨0, by omega, rfl, World.ownsRow_nil _ _ _ _, Below.refl _ _⟩
  case round =>
    obtain ⟨k, hk, rfl, hown, hbr⟩ := hrel
    have hz := hbr.size
    have HROW := Lib.hid (HR.out.below hbr (Nat.le_refl _))
    have hkl : (u64s (ns.take k)).length = k := by simp; omega
    obtain ⟨A1, c1, rfl, _, _, _⟩ := own_form hown
    rw [hkl]
    have HK := Lib.hid hkl
    clear hkl
    by_cases hlt : k < ns.length
    · obtain ⟨hnx, h1, h2, h3, h4, h5⟩ := next_at ns rest n k hlt HL.out hl HN.out HB.out
      have hkm : (k : Int) < many := by rcases HM.out with h | ⟨h, _⟩ <;> omega
      have HX := Lib.hid hnx
      clear hnx
      rw [HK.out] at hown
      generalize (encs (ns.take k)).length = p at *
      generalize (enc ns[k]).length = q at *
      generalize ns[k] = x at *
      go_wp2_with fail
      refine (one_hit (encs ns ++ rest) p x _ _ _ _ _ _ HL.out hl (by omega) HO.out HX.out.drop ⟨h4, h5⟩ HROW.out).mono ?_
      rw [HX.out.len]
      rintro e w1 ⟨rfl, hb1⟩
      have hz1 := hb1.size
      have hown1 := own_below hown hb1 (Nat.le_refl _)
      have HOWN : Hid (w1.ownsRow w.heap.size 44 1 (.slice A1 k c1) (u64s (ns.take k)).length (u64s (ns.take k))) := by rw [HK.out]; exact hown1
      go_wp2_with (at_builtin; refine wpList_push 22 44 (.int .u64 0) 8 Tryd.underlying22 Tryd.info44 rfl (by decide) rfl (.tmp 24) (.tmp 26) rfl w.heap.size _ (u64s (ns.take k)) (.int .u64 x) rfl HOWN.out (by omega) HX.out.few rfl rfl ?_; intro v' w2 hown2 hb2 hB2)
      go_roundw
      case rel => exact ⟨k + 1, by omega, by rw [HX.out.next]; go_num, own64 hown2 HX.out.take, (hbr.trans (hb1.mono hz)).trans hb2⟩
      case measure => simp [intOf]; omega
    · have htk : ns.take k = ns := List.take_of_length_le (by omega)
      have hke : k = ns.length := by omega
      have hown' : wr.ownsRow w.heap.size 44 1 (.slice A1 k c1) (u64s ns).length (u64s ns) := by simpa [htk, hke] using hown
      have HOWN := Lib.hid hown'
      clear hown'
      rw [htk]
      rcases HM.out with h0 | ⟨hne, hm⟩
      · have hkm : many ≤ (k : Int) := by omega
        have HE := Lib.hid h0
        clear h0 hke htk hown
        go_wp2
        go_ret3
        exact ⟨.inl ⟨HE.out, _, rfl, HOWN.out⟩, hbr⟩
      · have hkm : (k : Int) < many := by omega
        have HNE := Lib.hid hne
        have hle : (encs ns).length ≤ n := by rw [HL.out]; simp
        have HM' : Hid (Miss ((encs ns ++ rest).drop (encs ns).length)) := by rw [drop_end]; exact hm
        generalize hpe : (encs ns).length = p at *
        have HP := Lib.hid hpe
        clear hpe htk hm hne hke hown
        go_wp2_with fail
        refine (one_miss (encs ns ++ rest) p _ _ _ _ _ HL.out hl (by omega) HO.out HM'.out HROW.out).mono ?_
        rintro e w1 ⟨rfl, hb1⟩
        go_wp2
        go_ret3
        exact ⟨.inr ⟨HNE.out, by rw [HP.out]; rfl⟩, hbr.trans (hb1.mono hz)⟩

theorem below_draws {B : Nat} {a w : World} (h : Below B a w) (n : Nat) : Below B a (w.drewN n) := ⟨h.os, h.tape, h.output, h.size, h.block⟩
def SameRel (n : Nat) (w : World) (i : Value) (wr : World) : Prop := ∃ k m : Nat, k ≤ n ∧ i = .int .i64 k ∧ wr = w.drewN m
set_option maxHeartbeats 800000 in
/-- dunnageref02.Same of two slices that read alike. -/
theorem Same_yes (l : List Int) (A A' : Option Addr) (n c c' R R' : Nat) (w : World) (hn : n = l.length) (hl : n ≤ 100000) (hr : Row w R A (u64s l)) (hr' : Row w R' A' (u64s l)) :
    Calls Tryd.prog 14 #[.slice A n c, .slice A' n c'] w fun e w' => e = .returned (.bool true) ∧ Below w.heap.size w w' := by
  have HR := Lib.hid hr
  have HR' := Lib.hid hr'
  have HL := Lib.hid hn
  clear hr hr' hn
  go_enter Tryd.func14, Tryd.ntmps14
  go_wp2
  go_loopw [5] (SameRel n w) (fun i _ => n - (intOf i).toNat)
  case atStart => exact ⟨0, 0, by omega, rfl, rfl⟩
  case round =>
    obtain ⟨k, m, hk, rfl, rfl⟩ := hrel
    by_cases hlt : k < n
    · have hkl : k < l.length := by have := HL.out; omega
      obtain ⟨b, o, rfl, hb, hcell⟩ := HR.out.at (k := k) (by simpa using hkl)
      obtain ⟨b', o', rfl, hb', hcell'⟩ := HR'.out.at (k := k) (by simpa using hkl)
      have hc := hcell k (by simpa using hkl)
      have hc' := hcell' k (by simpa using hkl)
      simp only [List.getElem_map] at hc hc'
      clear hcell hcell' 
      generalize l[k] = x at *
      have hk0 : (0 : Int) ≤ (k : Int) := by omega
      have hkn : (k : Int) < (n : Int) := by omega
      go_wp2
      go_quiet (fail)
      go_wp2
      go_roundw
      case rel => exact ⟨k + 1, _, by omega, by go_num, rfl⟩
      case measure => simp [intOf]; omega
    · go_wp2
      go_ret
      exact ⟨rfl, below_draws (Below.refl _ _) _⟩
end Go.Proofs.YtglblaeplibjmaaDoor
