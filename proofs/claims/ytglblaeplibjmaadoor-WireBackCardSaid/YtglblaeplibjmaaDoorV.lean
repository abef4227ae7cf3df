/- The law WireBack, walked. -/
import Derived.Test.YtglblaeplibjmaaDoorT
import Derived.Deep.RegionWith
namespace Go.Proofs.YtglblaeplibjmaaDoor
open Go.RowKit
set_option linter.unusedVariables false

theorem own_parts {w : World} {base n : Nat} {e : TypeId} {v : Value} {xs : List Value} (h : w.ownsRow base e 1 v n xs) : ∃ A c, v = .slice A n c ∧ n ≤ c ∧ c ≤ maxLen ∧ (A = none → c = 0) ∧ Row w w.heap.size A xs := by
  obtain ⟨A, c, rfl, h1, _, h2⟩ := own_form h
  refine ⟨A, c, rfl, h1, ?_, fun h => (h2 h).2, (Row.of_own h).1⟩
  rcases h.2 with ⟨h0, _⟩ | ⟨_, _, _, h0, _, _, _, hm, _⟩
  · injection h0 with _ _ h0; subst h0; unfold maxLen; omega
  · injection h0 with _ _ h0; subst h0; exact hm

/-- What is told is a row of the call's own that holds these numbers, and no error. -/
def NumsTo (ns : List Int) (w : World) (e : Ending) (w' : World) : Prop :=
  ∃ v, e = .returned (.tuple #[v, .nilIface]) ∧ w'.ownsRow w.heap.size 44 1 v (u64s ns).length (u64s ns) ∧ Below w.heap.size w w'
theorem All_hit (ns : List Int) (A : Option Addr) (n c : Nat) (w : World) (hn : n = (encs ns).length) (hl : n ≤ 100000) (hc : n ≤ c) (hc' : c ≤ maxLen) (hns : Nums ns) (hr : Row w w.heap.size A (u8s (encs ns))) :
    Calls Tryd.prog 15 #[.slice A n c] w (NumsTo ns w) := by
  refine (All_any ns [] A n c w (by simpa using hn) hl hc hc' hns (fun _ h => by simp at h) (.inl rfl) (by rw [List.append_nil]; exact hr)).mono ?_
  rintro e w' ⟨⟨_, v, h1, h2⟩ | ⟨h, _⟩, hb⟩
  · exact ⟨v, h1, h2, hb⟩
  · exact absurd rfl h

set_option maxHeartbeats 800000 in
theorem wireBack_long (A B : Option Addr) (n c m d : Nat) (w : World) (hg : Laid w) (hn : 1000 < n ∨ 5000 < m) (h1 : n ≤ maxLen) (h2 : m ≤ maxLen) :
    Calls Tryd.prog 6 #[.slice A n c, .slice B m d] w fun e w' => e = .returned (.bool true) ∧ Below w.heap.size w w' := by
  unfold maxLen at h1 h2
  have HG := Lib.hid hg
  clear hg
  go_enter Tryd.func6, Tryd.ntmps6
  go_wp2_with fail
  refine (up_any _ HG.out).mono ?_
  rintro e w1 ⟨rfl, hb1⟩
  by_cases hn1 : 1000 < n
  · go_wp2
    go_ret
    exact ⟨rfl, hb1⟩
  · have hm1 : 5000 < m := by omega
    clear hn
    go_wp2
    go_ret
    exact ⟨rfl, hb1⟩

set_option maxHeartbeats 3200000 in
set_option maxRecDepth 100000 in
theorem wireBack_in (l ns rest : List Int) (A B : Option Addr) (n c m d : Nat) (w : World) (hg : Laid w) (hn : n = l.length) (hl : n ≤ 1000) (hls : Nums l) (hrl : Row w w.heap.size A (u64s l))
    (hm : m = (encs ns ++ rest).length) (hml : m ≤ 5000) (hnil : B = none → d = 0) (hns : Nums ns) (hb : Octs rest) (hmm : rest = [] ∨ (rest ≠ [] ∧ Miss rest)) (hr : Row w w.heap.size B (u8s (encs ns ++ rest))) :
    Calls Tryd.prog 6 #[.slice A n c, .slice B m d] w fun e w' => e = .returned (.bool true) ∧ Below w.heap.size w w' := by
  have HG := Lib.hid hg
  have HN := Lib.hid hn
  have HLS := Lib.hid hls
  have HRL := Lib.hid hrl
  have HM := Lib.hid hm
  have HD := Lib.hid hnil
  have HS := Lib.hid hns
  have HB := Lib.hid hb
  have HMM := Lib.hid hmm
  have HR := Lib.hid hr
  clear hg hn hls hrl hm hnil hns hb hmm hr
  go_enter Tryd.func6, Tryd.ntmps6
  go_wp2_with fail
  refine (up_any _ HG.out).mono ?_
  rintro e w1 ⟨rfl, hb1⟩
  have hz1 := hb1.size
  have HRL1 := Lib.hid ((HRL.out.below hb1 (Nat.le_refl _)).more hz1)
  have HR1 := Lib.hid ((HR.out.below hb1 (Nat.le_refl _)).more hz1)
  have HPUT : Hid (Calls Tryd.prog 9 #[.slice A n c] w1 (PutTo w1.heap.size (encs l) w1)) := by
    have e := HN.out
    subst e
    exact Put_any l A c w1 (by omega) HLS.out HRL1.out
  go_wp2_with fail
  refine HPUT.out.mono ?_
  rintro e w2 ⟨v, rfl, hown2, hb2⟩
  obtain ⟨A2, c2, rfl, hc2, hm2, _, hrow2⟩ := own_parts hown2
  have hz2 := hb2.size
  have HL2 : Hid ((encs l).length ≤ 100000) := by
    have := encs_len_le HLS.out
    have := HN.out
    show _ ≤ _
    omega
  have HC2 := Lib.hid (show (encs l).length ≤ c2 by simpa using hc2)
  have HX2 := Lib.hid hm2
  have HROW2 := Lib.hid hrow2
  clear hown2 hc2 hm2 hrow2
  go_wp2_with fail
  refine (All_hit l A2 (encs l).length c2 _ rfl HL2.out HC2.out HX2.out HLS.out HROW2.out).mono ?_
  rintro e w3 ⟨v, rfl, hown3, hb3⟩
  obtain ⟨A3, c3, rfl, _, _, _, hrow3⟩ := own_parts hown3
  have hz3 := hb3.size
  have k3 : Below w1.heap.size w1 w3 := hb2.trans (hb3.mono hz2)
  have HROW3 := Lib.hid hrow3
  have HLEN : Hid (l.length ≤ 100000) := by have := HN.out; show _ ≤ _; omega
  have HSAME : Hid (Calls Tryd.prog 14 #[.slice A3 l.length c3, .slice A n c] w3 fun e w' => e = .returned (.bool true) ∧ Below w3.heap.size w3 w') := by
    have e := HN.out
    subst e
    exact Same_yes l A3 A l.length c3 c _ _ _ rfl HLEN.out HROW3.out (HRL1.out.below k3 (Nat.le_refl _))
  clear hown3 hrow3
  go_wp2_with fail
  refine HSAME.out.mono ?_
  rintro e w4 ⟨rfl, hb4⟩
  have hz4 := hb4.size
  have k4 : Below w1.heap.size w1 w4 := k3.trans (hb4.mono (by omega))
  have HR4 := Lib.hid ((HR1.out.below k4 (Nat.le_refl _)).more (show w1.heap.size ≤ w4.heap.size by omega))
  have HOWN4 := Lib.hid (World.ownsRow_made (base := w4.heap.size) (e := 5) (size := 1) w4 #[] 0 (Nat.le_refl _) (by decide) rfl)
  have HROW4 := Lib.hid (HR4.out.below ((Below.refl w4.heap.size w4).alloc (Nat.le_refl _) (.cells #[] 5)) (Nat.le_refl _))
  have HM4 := Lib.hid (show m = (u8s (encs ns ++ rest)).length by rw [HM.out]; simp)
  have HL4 := Lib.hid (show ([] : List Value).length + (u8s (encs ns ++ rest)).length ≤ 2000000 by rw [← HM4.out]; simp; omega)
  go_wp2_with (at_builtin; refine wpList_cat 24 5 (.int .u8 0) 1 Tryd.underlying24 Tryd.info5 rfl (by decide) rfl (.tmp 35) (.tmp 36) rfl w4.heap.size w4.heap.size _ [] (u8s (encs ns ++ rest)) B d (one_u8s _) HD.out HOWN4.out HROW4.out (by simp) HL4.out rfl rfl HM4.out ?_; intro v' w5 hown5 hb5 hB5; rw [List.nil_append, ← HM4.out] at hown5; obtain ⟨A5, c5, rfl, hc5, hm5, _, hrow5⟩ := own_parts hown5; have HX5 := Lib.hid hm5; have HROW5 := Lib.hid hrow5; clear hown5 hm5 hrow5)
  have k45 : Below w4.heap.size w4 w5 := ((Below.refl w4.heap.size w4).alloc (Nat.le_refl _) _).trans hb5
  have k5 : Below w1.heap.size w1 w5 := k4.trans (k45.mono (by omega))
  refine (All_any ns rest A5 m c5 _ HM.out (by omega) hc5 HX5.out HS.out HB.out HMM.out HROW5.out).mono ?_
  rintro e w6 ⟨⟨hx, v, rfl, hown6⟩ | ⟨hx, u, rfl, g, rfl, _, _⟩, hb6⟩
  · have HE := Lib.hid hx
    clear hx
    have hz6 := hb6.size
    have k6 : Below w1.heap.size w1 w6 := k5.trans (hb6.mono (by omega))
    obtain ⟨A6, c6, rfl, _, _, _, hrow6⟩ := own_parts hown6
    have HROW6 := Lib.hid hrow6
    clear hown6 hrow6
    have hca := conv_row (encs ns ++ rest) A5 m c5 _ w6 HM.out (HROW5.out.below hb6 (Nat.le_refl _))
    have hcb := conv_row (encs ns ++ rest) B m d _ w6 HM.out (HR1.out.below k6 (Nat.le_refl _))
    have hne := str_neq (strOfNums (encs ns ++ rest))
    go_wp2
    have hpu : ∀ v : World, Below w6.heap.size w6 v → Calls Tryd.prog 9 #[.slice A6 ns.length c6] v (PutTo v.heap.size (encs ns) v) := fun v hv => by
      have h5 : ns.length ≤ 5000 := by
        have := encs_len_ge ns
        have h1 := HM.out
        simp at h1; omega
      exact Put_any ns A6 c6 v h5 HS.out ((HROW6.out.below hv (Nat.le_refl _)).more hv.size)
    have hrb : ∀ v : World, Below w6.heap.size w6 v → (convert 24 9 (.slice B m d)).run Tryd.prog v = .ok (.string (strOfNums (encs ns))) v := fun v hv => by
      have h0 := HE.out
      subst h0
      have := conv_row (encs ns ++ []) B m d _ v HM.out ((HR1.out.below k6 (Nat.le_refl _)).below hv (show w1.heap.size ≤ w6.heap.size by omega))
      rwa [List.append_nil] at this
    have HPU := Lib.hid hpu
    have HRB := Lib.hid hrb
    clear hpu hrb hca hcb hne
    have hcd := HRB.out w6.drew (Below.drew (Below.refl _ _))
    have hse := str_eq (strOfNums (encs ns))
    go_region_with (go_at_call 9; refine (HPU.out _ ?_).mono ?_; exact Below.drew (Below.refl _ _); rintro e w7 ⟨v, rfl, hown7, hb7⟩; obtain ⟨A7, c7, rfl, _, _, _⟩ := own_form hown7; have hcv7 := conv_row (encs ns) A7 (encs ns).length c7 _ w7 rfl (Row.of_own hown7).1; have hcb7 := HRB.out w7 ((Below.drew (Below.refl w6.heap.size w6)).trans hb7); clear hown7)
    all_goals
      go_wp2
      go_ret
      exact ⟨rfl, hb1.trans ((k6.trans (((Below.drew (Below.refl w6.heap.size w6)).trans hb7).mono (show w1.heap.size ≤ w6.heap.size by omega))).mono hz1)⟩
  · have hz6 := hb6.size
    have k6 : Below w1.heap.size w1 w6 := k5.trans (hb6.mono (by omega))
    have hca := conv_row (encs ns ++ rest) A5 m c5 _ w6 HM.out (HROW5.out.below hb6 (Nat.le_refl _))
    have hcb := conv_row (encs ns ++ rest) B m d _ w6 HM.out (HR1.out.below k6 (Nat.le_refl _))
    have hne := str_neq (strOfNums (encs ns ++ rest))
    clear hx
    go_wp2
    go_quiet (fail)
    go_wp2
    go_ret
    exact ⟨rfl, below_draws ((hb1.trans (k6.mono hz1))) _⟩
end Go.Proofs.YtglblaeplibjmaaDoor
