/- The law WireParts, walked. -/
import Derived.Test.YtglblaeplibjmaaDoorW
namespace Go.Proofs.YtglblaeplibjmaaDoor
open Go.RowKit
set_option linter.unusedVariables false

set_option maxHeartbeats 3200000 in
set_option maxRecDepth 100000 in
theorem wireParts_in (la lb : List Int) (A B : Option Addr) (n c m d k : Nat) (w : World) (hg : Laid w) (hn : n = la.length) (hl : n ≤ 500) (hc : n ≤ c) (hc' : c ≤ maxLen) (hna : A = none → c = 0) (hls : Nums la) (hra : Row w w.heap.size A (u64s la))
    (hm : m = lb.length) (hml : m ≤ 500) (hnb : B = none → d = 0) (hlb : Nums lb) (hrb : Row w w.heap.size B (u64s lb)) (hk : k ≤ n) :
    Calls Tryd.prog 7 #[.slice A n c, .slice B m d, .int .i64 (k : Int)] w fun e w' => e = .returned (.bool true) ∧ Below w.heap.size w w' := by
  unfold maxLen at hc'
  have HG := Lib.hid hg
  have HN := Lib.hid hn
  have HNA := Lib.hid hna
  have HLS := Lib.hid hls
  have HRA := Lib.hid hra
  have HM := Lib.hid hm
  have HNB := Lib.hid hnb
  have HLB := Lib.hid hlb
  have HRB := Lib.hid hrb
  clear hg hn hna hls hra hm hnb hlb hrb
  go_enter Tryd.func7, Tryd.ntmps7
  go_wp2_with fail
  refine (up_any _ HG.out).mono ?_
  rintro e w1 ⟨rfl, hb1⟩
  have hz1 := hb1.size
  have HRA1 := Lib.hid ((HRA.out.below hb1 (Nat.le_refl _)).more hz1)
  have HRB1 := Lib.hid ((HRB.out.below hb1 (Nat.le_refl _)).more hz1)
  have HOWN1 := Lib.hid (World.ownsRow_made (base := w1.heap.size) (e := 44) (size := 1) w1 #[] 0 (Nat.le_refl _) (by decide) rfl)
  have HROWA := Lib.hid (HRA1.out.below ((Below.refl w1.heap.size w1).alloc (Nat.le_refl _) (.cells #[] 44)) (Nat.le_refl _))
  have HLA := Lib.hid (show n = (u64s la).length by rw [HN.out]; simp)
  have HLBB := Lib.hid (show m = (u64s lb).length by rw [HM.out]; simp)
  have HS1 := Lib.hid (show ([] : List Value).length + (u64s la).length ≤ 2000000 by rw [← HLA.out]; simp; omega)
  have HS2 := Lib.hid (show ([] ++ u64s la).length + (u64s lb).length ≤ 2000000 by rw [List.nil_append, ← HLA.out, ← HLBB.out]; omega)
  go_wp2_with (first
    | (at_builtin; refine wpList_cat 22 44 (.int .u64 0) 8 Tryd.underlying22 Tryd.info44 rfl (by decide) rfl (.tmp 39) (.tmp 40) rfl w1.heap.size w1.heap.size _ [] (u64s la) A c (one_u64s _) HNA.out HOWN1.out HROWA.out (by simp) HS1.out rfl rfl HLA.out ?_; intro v2 w2 hown2 hb2 hB2; have k2 : Below w1.heap.size w1 w2 := ((Below.refl _ w1).alloc (Nat.le_refl _) _).trans hb2; have HRB2 := Lib.hid (HRB1.out.below k2 (Nat.le_refl _)))
    | (at_builtin; refine wpList_cat 22 44 (.int .u64 0) 8 Tryd.underlying22 Tryd.info44 rfl (by decide) rfl (.tmp 41) (.tmp 42) rfl w1.heap.size w1.heap.size _ ([] ++ u64s la) (u64s lb) B d (one_u64s _) HNB.out hown2 HRB2.out hB2 HS2.out rfl rfl HLBB.out ?_; intro v3 w3 hown3 hb3 hB3))
  have k3 : Below w1.heap.size w1 w3 := k2.trans hb3
  have hz3 := k3.size
  have hown3' : w3.ownsRow w1.heap.size 44 1 v3 (n + m) (u64s (la ++ lb)) := by
    have e : ([] ++ u64s la) ++ u64s lb = u64s (la ++ lb) := by simp
    rw [e] at hown3
    have e2 : (u64s (la ++ lb)).length = n + m := by rw [HN.out, HM.out]; simp
    rwa [e2] at hown3
  obtain ⟨A3, c3, rfl, _, _, _, hrow3⟩ := own_parts hown3'
  have HROW3 := Lib.hid hrow3
  have HPA : Hid (Calls Tryd.prog 9 #[.slice A n c] w3 (PutTo w3.heap.size (encs la) w3)) := by
    have h := (HRA1.out.below k3 (Nat.le_refl _)).more hz3
    have e := HN.out
    subst e
    exact Put_any la A c w3 (by omega) HLS.out h
  clear hown2 hown3 hown3' hrow3 HOWN1 HROWA HS1 HS2 HRB2
  refine HPA.out.mono ?_
  rintro e w4 ⟨v, rfl, hown4, hb4⟩
  obtain ⟨A4, c4, rfl, hc4, hm4, hn4, hrow4⟩ := own_parts hown4
  have hz4 := hb4.size
  have k4 : Below w1.heap.size w1 w4 := k3.trans (hb4.mono hz3)
  have HROW4 := Lib.hid hrow4
  have HX4 := Lib.hid hm4
  have HN4 := Lib.hid hn4
  have HC4 := Lib.hid (show (encs la).length ≤ c4 by simpa using hc4)
  have HPB : Hid (Calls Tryd.prog 9 #[.slice B m d] w4 (PutTo w4.heap.size (encs lb) w4)) := by
    have h := (HRB1.out.below k4 (Nat.le_refl _)).more (show w1.heap.size ≤ w4.heap.size by omega)
    have e := HM.out
    subst e
    exact Put_any lb B d w4 (by omega) HLB.out h
  clear hown4 hrow4 hc4 hm4 hn4
  go_wp2_with fail
  refine HPB.out.mono ?_
  rintro e w5 ⟨v, rfl, hown5, hb5⟩
  obtain ⟨A5, c5, rfl, hc5, hm5, hn5, hrow5⟩ := own_parts hown5
  have hz5 := hb5.size
  have k5 : Below w1.heap.size w1 w5 := k4.trans (hb5.mono (by omega))
  have HROW5 := Lib.hid hrow5
  have HN5 := Lib.hid hn5
  have HP5 := Lib.hid (HROW4.out.below hb5 (Nat.le_refl _))
  have hla := encs_len_le HLS.out
  have hlb := encs_len_le HLB.out
  rw [← HN.out] at hla
  rw [← HM.out] at hlb
  have HS5 := Lib.hid (show ([] : List Value).length + (u8s (encs la)).length ≤ 2000000 by simp; omega)
  have HS6 := Lib.hid (show ([] ++ u8s (encs la)).length + (u8s (encs lb)).length ≤ 2000000 by simp; omega)
  have HLT := Lib.hid (show (encs la ++ encs lb).length ≤ 100000 by simp; omega)
  have HLP := Lib.hid (show (encs la).length ≤ 100000 by omega)
  clear hown5 hrow5 hc5 hm5 hn5 hla hlb
  have HE5 : ∀ w' : World, Hid ((w'.alloc (.cells #[] 5)).ownsRow w'.heap.size 5 1 (.slice (some ⟨w'.heap.size, 0, none⟩) 0 0) 0 []) := fun w' => World.ownsRow_made (base := w'.heap.size) (e := 5) (size := 1) w' #[] 0 (Nat.le_refl _) (by decide) rfl
  have HOWN5 := HE5 w5
  have HPR5 := Lib.hid (HP5.out.below ((Below.refl w5.heap.size w5).alloc (Nat.le_refl _) (.cells #[] 5)) (show w4.heap.size ≤ w5.heap.size by omega))
  have HQR5 := Lib.hid (HROW5.out.below ((Below.refl w5.heap.size w5).alloc (Nat.le_refl _) (.cells #[] 5)) (Nat.le_refl _))
  have HE := Lib.hid HE5
  clear HE5
  go_wp2_with (first
    | (at_builtin; refine wpList_cat 24 5 (.int .u8 0) 1 Tryd.underlying24 Tryd.info5 rfl (by decide) rfl (.tmp 49) (.tmp 50) rfl w5.heap.size _ _ [] (u8s (encs la)) A4 c4 (one_u8s _) HN4.out HOWN5.out HPR5.out (by simp) HS5.out rfl rfl (by simp) ?_; intro v6 w6 hown6 hb6 hB6; have k56 : Below w5.heap.size w5 w6 := ((Below.refl _ w5).alloc (Nat.le_refl _) _).trans hb6; have HQ6 := Lib.hid (HROW5.out.below k56 (Nat.le_refl _)))
    | (at_builtin; refine wpList_cat 24 5 (.int .u8 0) 1 Tryd.underlying24 Tryd.info5 rfl (by decide) rfl (.tmp 51) (.tmp 52) rfl w5.heap.size _ _ ([] ++ u8s (encs la)) (u8s (encs lb)) A5 c5 (one_u8s _) HN5.out hown6 HQ6.out hB6 HS6.out rfl rfl (by simp) ?_; intro v7 w7 hown7 hb7 hB7))
  have k57 : Below w5.heap.size w5 w7 := k56.trans hb7
  have hz7 := k57.size
  have hcat : ([] ++ u8s (encs la)) ++ u8s (encs lb) = u8s (encs la ++ encs lb) := by simp
  rw [hcat] at hown7
  obtain ⟨A7, c7, rfl, hc7, hm7, _, hrow7⟩ := own_parts hown7
  have HC7 := Lib.hid hc7
  have HX7 := Lib.hid hm7
  have HROW7 := Lib.hid hrow7
  have HCAT := Lib.hid hcat
  have HT7 := Lib.hid (show (u8s (encs la ++ encs lb)).length = (encs la ++ encs lb).length by simp)
  have HLT7 := Lib.hid (show (u8s (encs la ++ encs lb)).length ≤ 100000 by rw [HT7.out]; exact HLT.out)
  clear hown6 hown7 hc7 hm7 hrow7 hcat HQ6 HOWN5 HPR5 HQR5
  refine (Get_hit la (encs lb) (n : Int) A7 _ c7 _ HT7.out HLT7.out HC7.out HX7.out (by omega) (by rw [HN.out]; simp) HLS.out (encs_octs HLB.out) HROW7.out).mono ?_
  rintro e w8 ⟨v, rfl, hown8, hb8⟩
  obtain ⟨A8, c8, rfl, _, _, _, hrow8⟩ := own_parts hown8
  have hz8 := hb8.size
  have k58 : Below w5.heap.size w5 w8 := k57.trans (hb8.mono hz7)
  have HROW8 := Lib.hid hrow8
  have HOWN8 := HE.out w8
  have HPR8 := Lib.hid ((HP5.out.below k58 (show w4.heap.size ≤ w5.heap.size by omega)).below ((Below.refl w8.heap.size w8).alloc (Nat.le_refl _) (.cells #[] 5)) (show w4.heap.size ≤ w8.heap.size by omega))
  have HQR8 := Lib.hid (HROW5.out.below k58 (Nat.le_refl _))
  clear hown8 hrow8 HC7 HX7 HROW7
  go_wp2_with (first
    | (at_builtin; refine wpList_cat 24 5 (.int .u8 0) 1 Tryd.underlying24 Tryd.info5 rfl (by decide) rfl (.tmp 61) (.tmp 62) rfl w8.heap.size _ _ [] (u8s (encs la)) A4 c4 (one_u8s _) HN4.out HOWN8.out HPR8.out (by simp) HS5.out rfl rfl (by simp) ?_; intro v9 w9 hown9 hb9 hB9; have k89 : Below w8.heap.size w8 w9 := ((Below.refl _ w8).alloc (Nat.le_refl _) _).trans hb9; have HQ9 := Lib.hid (HQR8.out.below k89 (show w5.heap.size ≤ w8.heap.size by omega)))
    | (at_builtin; refine wpList_cat 24 5 (.int .u8 0) 1 Tryd.underlying24 Tryd.info5 rfl (by decide) rfl (.tmp 63) (.tmp 64) rfl w8.heap.size _ _ ([] ++ u8s (encs la)) (u8s (encs lb)) A5 c5 (one_u8s _) HN5.out hown9 HQ9.out hB9 HS6.out rfl rfl (by simp) ?_; intro v10 w10 hown10 hb10 hB10))
  have k810 : Below w8.heap.size w8 w10 := k89.trans hb10
  have hz10 := k810.size
  rw [HCAT.out] at hown10
  obtain ⟨A10, c10, rfl, hc10, hm10, _, hrow10⟩ := own_parts hown10
  have HC10 := Lib.hid hc10
  have HX10 := Lib.hid hm10
  have HROW10 := Lib.hid hrow10
  have HT10 := Lib.hid (show (u8s (encs la ++ encs lb)).length = (encs (la ++ lb)).length by rw [encs_append]; simp)
  have HR10 := Lib.hid (show Row w10 w10.heap.size A10 (u8s (encs (la ++ lb))) by rw [encs_append]; exact HROW10.out)
  clear hown9 hown10 hc10 hm10 hrow10 HQ9 HOWN8 HPR8 HROW10
  refine (All_hit (la ++ lb) A10 _ c10 _ HT10.out HLT7.out HC10.out HX10.out (HLS.out.append HLB.out) HR10.out).mono ?_
  rintro e w11 ⟨v, rfl, hown11, hb11⟩
  have hown11' : w11.ownsRow w10.heap.size 44 1 v (n + m) (u64s (la ++ lb)) := by
    have e2 : (u64s (la ++ lb)).length = n + m := by rw [HN.out, HM.out]; simp
    rwa [e2] at hown11
  obtain ⟨A11, c11, rfl, _, _, _, hrow11⟩ := own_parts hown11'
  have hz11 := hb11.size
  have k8_11 : Below w8.heap.size w8 w11 := k810.trans (hb11.mono hz10)
  have k5_11 : Below w5.heap.size w5 w11 := k58.trans (k8_11.mono (by omega))
  have HROW11 := Lib.hid hrow11
  have hpt : encs (la.take k) ++ encs (la.drop k) = encs la := by rw [← encs_append, List.take_append_drop]
  have HP11 : Hid (Row w11 w11.heap.size A4 (u8s (encs (la.take k) ++ encs (la.drop k)))) := by
    rw [hpt]
    exact (HP5.out.below k5_11 (show w4.heap.size ≤ w5.heap.size by omega)).more (show w4.heap.size ≤ w11.heap.size by omega)
  have HT11 := Lib.hid (show (encs la).length = (encs (la.take k) ++ encs (la.drop k)).length by rw [hpt])
  have HTK := Lib.hid (show (la.take k).length = ((k : Int)).toNat by rw [List.length_take, ← HN.out]; omega)
  clear hown11 hown11' hrow11 hpt HR10 HC10 HX10
  go_wp2_with fail
  refine (Get_hit (la.take k) (encs (la.drop k)) (k : Int) A4 _ c4 _ HT11.out HLP.out HC4.out HX4.out (by omega) HTK.out (HLS.out.take k) (encs_octs (nums_drop HLS.out k)) HP11.out).mono ?_
  rintro e w12 ⟨v, rfl, hown12, hb12⟩
  have hown12' : w12.ownsRow w11.heap.size 44 1 v k (u64s (la.take k)) := by
    have e2 : (u64s (la.take k)).length = k := by have := HTK.out; rw [List.length_map]; omega
    rwa [e2] at hown12
  obtain ⟨A12, c12, rfl, _, _, _, hrow12⟩ := own_parts hown12'
  have hz12 := hb12.size
  have HROW12 := Lib.hid hrow12
  clear hown12 hown12' hrow12 HP11 HT11
  have k8_12 : Below w8.heap.size w8 w12 := k8_11.trans (hb12.mono (by omega))
  have k5_12 : Below w5.heap.size w5 w12 := k5_11.trans (hb12.mono (by omega))
  have k1_12 : Below w1.heap.size w1 w12 := k5.trans (k5_12.mono (by omega))
  have k3_12 : Below w3.heap.size w3 w12 := ((hb4.trans (hb5.mono hz4)).trans (k5_12.mono (by omega)))
  have HLN := Lib.hid (show la.length ≤ 100000 by have := HN.out; omega)
  have HNM := Lib.hid (show n + m = (la ++ lb).length by rw [HN.out, HM.out]; simp)
  have HKK := Lib.hid (show k = (la.take k).length by have := HTK.out; omega)
  have HSA : Hid (∀ v : World, Below w12.heap.size w12 v → Calls Tryd.prog 14 #[.slice A8 la.length c8, .slice A n c] v fun e w' => e = .returned (.bool true) ∧ Below v.heap.size v w') := fun v hv => by
    have h1 := (HROW8.out.below k8_12 (Nat.le_refl _)).below hv (show w8.heap.size ≤ w12.heap.size by omega)
    have h2 := (HRA1.out.below k1_12 (Nat.le_refl _)).below hv (show w1.heap.size ≤ w12.heap.size by omega)
    have e := HN.out
    subst e
    exact Same_yes la A8 A la.length c8 c _ _ v rfl HLN.out h1 h2
  have HSB : Hid (∀ v : World, Below w12.heap.size w12 v → Calls Tryd.prog 14 #[.slice A11 (n + m) c11, .slice A3 (n + m) c3] v fun e w' => e = .returned (.bool true) ∧ Below v.heap.size v w') := fun v hv =>
    Same_yes (la ++ lb) A11 A3 (n + m) c11 c3 _ _ v HNM.out (by omega) ((HROW11.out.below hb12 (Nat.le_refl _)).below hv (show w11.heap.size ≤ w12.heap.size by omega)) ((HROW3.out.below k3_12 (Nat.le_refl _)).below hv (show w3.heap.size ≤ w12.heap.size by omega))
  have HSC : Hid (∀ v : World, Below w12.heap.size w12 v → Calls Tryd.prog 14 #[.slice A12 k c12, .slice A k c] v fun e w' => e = .returned (.bool true) ∧ Below v.heap.size v w') := fun v hv => by
    have h1 := ((HRA1.out.below k1_12 (Nat.le_refl _)).below hv (show w1.heap.size ≤ w12.heap.size by omega)).take k
    rw [← List.map_take] at h1
    exact Same_yes (la.take k) A12 A k c12 c _ _ v HKK.out (by omega) (HROW12.out.below hv (Nat.le_refl _)) h1
  go_wp2_with fail
  refine (HSA.out _ (Below.refl _ _)).mono ?_
  rintro e w13 ⟨rfl, hb13⟩
  have hz13 := hb13.size
  go_wp2_with fail
  refine (HSB.out _ hb13).mono ?_
  rintro e w14 ⟨rfl, hb14⟩
  have hz14 := hb14.size
  go_wp2_with fail
  refine (HSC.out _ (hb13.trans (hb14.mono hz13))).mono ?_
  rintro e w15 ⟨rfl, hb15⟩
  go_wp2
  go_ret
  exact ⟨rfl, (hb1.trans (k1_12.mono hz1)).trans (((hb13.trans (hb14.mono hz13)).trans (hb15.mono (by omega))).mono (by omega))⟩
end Go.Proofs.YtglblaeplibjmaaDoor
