/- Joined texts, part 9: GU GX CI JA SA. -/
import Derived.Test.YtjpaeaedfgiomaaDoorZ08
import Derived.Test.YtjpaeaedfgiomaaDoorZ06
import Derived.Test.YtjpaeaedfgiomaaDoorZ02
import Derived.Laws.StructEq
import Derived.Test.YtjpaeaedfgiomaaDoorZ07
import Derived.Deep.QuietTactic
import Derived.BigQuiet

/- The program's ReadSnapshot. -/
namespace Go.Proofs.YtjpaeaedfgiomaaDoor
set_option linter.unusedSimpArgs false
open Go.RowKit
set_option linter.unusedVariables false

def SnapTo (R : SnapD × Int × Int) (w : World) (e : Ending) (w' : World) : Prop :=
  ∃ A1 A2 A3 c1 c2 c3 u, e = .returned (.tuple #[snapV A1 A2 A3 R.1.nodes.length c1 R.1.loads.length c2 R.1.pods.length c3, u]) ∧ Out 10 cellsN w' R.1.nodes A1 c1 ∧ Out 5 cellsL w' R.1.loads A2 c2 ∧ Out 8 cellsP w' R.1.pods A3 c3 ∧
    ErrIs R.2 w.heap.size w' u ∧ Below w.heap.size w w'
theorem snapTo_err {R : SnapD × Int × Int} {w w' : World} {u : Value} (h1 : R.1 = noSnap) (he : ErrIs R.2 w.heap.size w' u) (hb : Below w.heap.size w w') : SnapTo R w (.returned (.tuple #[.agg #[.slice none 0 0, .slice none 0 0, .slice none 0 0], u])) w' :=
  ⟨none, none, none, 0, 0, 0, u, by rw [h1]; rfl, .nil (by rw [h1]), .nil (by rw [h1]), .nil (by rw [h1]), he, hb⟩
theorem ErrIs.set {p : Int × Int} {B : Nat} {w : World} {u : Value} (h : ErrIs p B w u) {q : Addr} (hq : q.block < B) (v : Value) : ErrIs p B (w.setCell q v) u := by
  rcases h with h | h | ⟨k, g, h1, h2, h3, h4⟩
  · exact .inl h
  · exact .inr (.inl h)
  · exact .inr (.inr ⟨k, g, h1, h2, h3, (Below.heap_setCell w q v g (by omega)).trans h4⟩)
theorem ErrIs.less {p : Int × Int} {B B' : Nat} {w : World} {u : Value} (h : ErrIs p B w u) (hB : B' ≤ B) : ErrIs p B' w u := by
  rcases h with h | h | ⟨k, g, h1, h2, h3, h4⟩
  · exact .inl h
  · exact .inr (.inl h)
  · exact .inr (.inr ⟨k, g, h1, h2, by omega, h4⟩)

set_option maxHeartbeats 12800000 in
set_option maxRecDepth 100000 in
theorem readSnapshot_any (ns rest : List Int) (A : Option Addr) (n c : Nat) (w : World) (hn : n = (encs ns ++ rest).length) (hl : n ≤ 100000) (hc : n ≤ c) (hc' : c ≤ maxLen) (hns : Nums ns) (hb : Octs rest) (hm : rest = [] ∨ (rest ≠ [] ∧ Miss rest)) (hr : Row w w.heap.size A (u8s (encs ns ++ rest))) :
    Calls Tryd.prog 12 #[.slice A n c] w (SnapTo (rdB noSnap rdSnap ns rest) w) := by
  have b0 := below_two w (.cells #[.slice none 0 0, .slice none 0 0, .slice none 0 0] 45) (.cells #[.int .u64 8, .int .u64 8, .int .u64 12] 52)
  have HX := Lib.hid ((Box.new w [.slice none 0 0, .slice none 0 0, .slice none 0 0] 45).alloc (.cells #[.int .u64 8, .int .u64 8, .int .u64 12] 52))
  have HB0 := Lib.hid b0
  have HO := Lib.hid (open_any ns rest [8, 8, 12] 3 A (some ⟨w.heap.size + 1, 0, none⟩) n c 3 3 ((w.alloc (.cells #[.slice none 0 0, .slice none 0 0, .slice none 0 0] 45)).alloc (.cells #[.int .u64 8, .int .u64 8, .int .u64 12] 52)) hn hl hc hc' hns hb hm ((hr.below b0 (Nat.le_refl _)).more b0.size) rfl (by decide) (by decide) (by intro x hx; simp at hx; omega) (row_at _ (w.heap.size + 1) 3 _ (by simp) fun j hj => by
    match j, hj with
    | 0, _ => simp
    | 1, _ => simp
    | 2, _ => simp))
  have HP := Lib.hid (nums_pos hns)
  have HNS := Lib.hid hns
  clear hn hl hc hc' hns hb hm hr b0
  go_enter Tryd.func12, Tryd.ntmps12
  go_wp2_with fail
  refine HO.out.mono ?_
  clear HO
  rintro e w1 ⟨h, hb1⟩
  have hz0 : w.heap.size + 2 ≤ w1.heap.size := by have := hb1.size; simpa using this
  have HB1 := Lib.hid (HB0.out.trans (hb1.mono HB0.out.size))
  have HX1 : Hid (Box w1 w.heap.size [.slice none 0 0, .slice none 0 0, .slice none 0 0]) := HX.out.turn (Turn.of_below (r := w1.heap.size) hb1) (by omega)
  obtain ⟨g0, k0⟩ := HX1.out.at 0 (.slice none 0 0) rfl
  obtain ⟨g1, k1⟩ := HX1.out.at 1 (.slice none 0 0) rfl
  obtain ⟨g2, k2⟩ := HX1.out.at 2 (.slice none 0 0) rfl
  have hwl : w.heap.size < w1.heap.size := by omega
  have hsz : w.heap.size + 2 = ((w.alloc (.cells #[.slice none 0 0, .slice none 0 0, .slice none 0 0] 45)).alloc (.cells #[.int .u64 8, .int .u64 8, .int .u64 12] 52)).heap.size := by simp
  rw [← hsz] at h
  clear hb1 HX hsz
  have HBEE : Hid (∀ x0 x1 x2 : Value, Below w.heap.size w (((w1.setCell ⟨w.heap.size, 0, none⟩ x0).setCell ⟨w.heap.size, 1, none⟩ x1).setCell ⟨w.heap.size, 2, none⟩ x2)) := fun x0 x1 x2 => ((HB1.out.setCell (p := ⟨w.heap.size, 0, none⟩) (Nat.le_refl _) x0).setCell (p := ⟨w.heap.size, 1, none⟩) (Nat.le_refl _) x1).setCell (p := ⟨w.heap.size, 2, none⟩) (Nat.le_refl _) x2
  rcases h with ⟨hre, u, rfl, hsp⟩ | ⟨hre, hlt, rfl⟩ | ⟨hre, hle, ⟨i, hi, hgt⟩, rfl⟩ | ⟨hre, hle, hall, r, rfl, hrB, hrd⟩
  · have HE := Lib.hid (show rdB noSnap rdSnap ns rest = (noSnap, 2, (((encs ns).length : Nat) : Int)) from if_neg hre)
    have hsp' := hsp
    obtain ⟨g, rfl, _, _⟩ := hsp
    have HS := Lib.hid hsp'
    clear hsp' hre
    go_wp2
    refine bodyPost_ret (v := .tuple #[.agg #[.slice none 0 0, .slice none 0 0, .slice none 0 0], .iface 96 (.pointer (some ⟨g, 0, none⟩))]) ?_ rfl ?_
    · simp [results, Tryd.results12, go_sem, *]
    · unfold SnapTo
      rw [HE.out]
      refine snapTo_err rfl (errIs_spotted (p := (encs ns).length) ?_) (HBEE.out _ _ _)
      exact (((HS.out.set (by show w.heap.size < w.heap.size + 2; omega) _).set (by show w.heap.size < w.heap.size + 2; omega) _).set (by show w.heap.size < w.heap.size + 2; omega) _).less (by omega)
  · have HE : Hid (rdB noSnap rdSnap ns rest = (noSnap, 2, -1)) := by show _ = _; rw [rdB, if_pos hre, rdSnap, if_pos hlt]
    clear hre hlt
    go_wp2
    refine bodyPost_ret (v := .tuple #[.agg #[.slice none 0 0, .slice none 0 0, .slice none 0 0], .iface 33 (.int .i64 2)]) ?_ rfl ?_
    · simp [results, Tryd.results12, go_sem, *]
    · unfold SnapTo
      rw [HE.out]
      exact snapTo_err rfl (.inr (.inl ⟨rfl, by decide, by decide, rfl⟩)) (HBEE.out _ _ _)
  · have HE : Hid (rdB noSnap rdSnap ns rest = (noSnap, 3, -1)) := by
      have h3 : 8 < ns.getD 0 0 ∨ 8 < ns.getD 1 0 ∨ 12 < ns.getD 2 0 := by
        match i, hi with
        | 0, _ => exact .inl (by simpa using hgt)
        | 1, _ => exact .inr (.inl (by simpa using hgt))
        | 2, _ => exact .inr (.inr (by simpa using hgt))
      show _ = _
      rw [rdB, if_pos hre, rdSnap, if_neg (by omega), if_pos h3]
    clear hre hle hi hgt
    go_wp2
    refine bodyPost_ret (v := .tuple #[.agg #[.slice none 0 0, .slice none 0 0, .slice none 0 0], .iface 33 (.int .i64 3)]) ?_ rfl ?_
    · simp [results, Tryd.results12, go_sem, *]
    · unfold SnapTo
      rw [HE.out]
      exact snapTo_err rfl (.inr (.inl ⟨rfl, by decide, by decide, rfl⟩)) (HBEE.out _ _ _)
  · have q0 : ns.getD 0 0 ≤ 8 := by have := hall 0 (by decide); simpa using this
    have q1 : ns.getD 1 0 ≤ 8 := by have := hall 1 (by decide); simpa using this
    have q2 : ns.getD 2 0 ≤ 12 := by have := hall 2 (by decide); simpa using this
    have HM : Hid (rdB noSnap rdSnap ns rest = if wellF (mSnap ns).2 = true then (if (check (mSnap ns).1).1 ≠ 0 then (noSnap, check (mSnap ns).1) else ((mSnap ns).1, 0, -1)) else (noSnap, 2, -1)) := by
      show _ = _; rw [rdB, if_pos hre, rdSnap_m HP.out (by omega) (by omega)]
    have HFIT := Lib.hid (mSnap_fit HNS.out)
    obtain ⟨a, b, d, l, hl3⟩ : ∃ a b d l, ns = a :: b :: d :: l := by
      match ns, hle with
      | a :: b :: d :: l, _ => exact ⟨a, b, d, l, rfl⟩
    have hpa : 0 ≤ a := HP.out a (by rw [hl3]; simp)
    have hpb : 0 ≤ b := HP.out b (by rw [hl3]; simp)
    have hpd : 0 ≤ d := HP.out d (by rw [hl3]; simp)
    have ha : a ≤ 8 := by rw [hl3] at q0; simpa using q0
    have hb : b ≤ 8 := by rw [hl3] at q1; simpa using q1
    have hd : d ≤ 12 := by rw [hl3] at q2; simpa using q2
    obtain ⟨m1, rfl⟩ : ∃ m : Nat, a = (m : Int) := ⟨a.toNat, by omega⟩
    obtain ⟨m2, rfl⟩ : ∃ m : Nat, b = (m : Int) := ⟨b.toNat, by omega⟩
    obtain ⟨m3, rfl⟩ : ∃ m : Nat, d = (m : Int) := ⟨d.toNat, by omega⟩
    have hn1 : rdNum (ns, false) = ((m1 : Int), (m2 : Int) :: (m3 : Int) :: l, false) := by rw [hl3]; exact num_small (small_of (by omega)) _
    have hn2 : rdNum ((m2 : Int) :: (m3 : Int) :: l, false) = ((m2 : Int), (m3 : Int) :: l, false) := num_small (small_of (by omega)) _
    have hn3 : rdNum ((m3 : Int) :: l, false) = ((m3 : Int), l, false) := num_small (small_of (by omega)) _
    have hmm : mSnap ns = (⟨(rdList rdNode m1 (l, false)).1, (rdList rdLoad m2 (rdList rdNode m1 (l, false)).2).1, (rdList rdPod m3 (rdList rdLoad m2 (rdList rdNode m1 (l, false)).2).2).1⟩, (rdList rdPod m3 (rdList rdLoad m2 (rdList rdNode m1 (l, false)).2).2).2) := by
      unfold mSnap
      simp only [hn1, hn2, hn3, Int.toNat_natCast]
    have HMM := Lib.hid hmm
    have HN1 := Lib.hid hn1
    have HN2 := Lib.hid hn2
    have HN3 := Lib.hid hn3
    have hrl := hrd.lt
    have HRB : Hid (w.heap.size + 2 ≤ r) := hrB
    have HRD := Lib.hid hrd
    clear hre hle hall hrd hrB hmm hn1 hn2 hn3 hpa hpb hpd q0 q1 q2 hl3 g0 g1 g2 k0 k1 k2
    have ha' : m1 ≤ 8 := by omega
    have hb' : m2 ≤ 8 := by omega
    have hd' : m3 ≤ 12 := by omega
    clear ha hb hd
    go_wp2_with fail
    refine (number_any (ns, false) r w1 HRD.out).mono ?_
    rw [HN1.out]
    rintro e w2 ⟨rfl, hr2, ht2⟩
    have HR2 := Lib.hid hr2
    have HT2 := Lib.hid ht2
    clear hr2 ht2
    go_wp2_with fail
    refine (number_any _ r w2 HR2.out).mono ?_
    rw [HN2.out]
    rintro e w3 ⟨rfl, hr3, ht3⟩
    have HR3 := Lib.hid hr3
    have HT3 := Lib.hid (HT2.out.trans ht3)
    clear hr3 ht3
    go_wp2_with fail
    refine (number_any _ r w3 HR3.out).mono ?_
    rw [HN3.out]
    rintro e w4 ⟨rfl, hr4, ht4⟩
    have ht4 := HT3.out.trans ht4
    have hz4 : w.heap.size + 2 ≤ w4.heap.size := by have := ht4.size; omega
    have HX4 := Lib.hid (HX1.out.turn ht4 (by have := HRB.out; omega))
    have K0 := Lib.hid (Putting.start hr4 (HB1.out.trans ((ht4.below (Nat.le_of_lt hrl)).mono (by have := HRB.out; omega))) HX4.out (by have := HRB.out; omega) ⟨Nat.le_refl _, by have := HRB.out; omega⟩ [.slice none 0 0, .slice none 0 0, .slice none 0 0] 45)
    have hxb : r < w4.heap.size := hr4.lt
    have hs4 : (w4.alloc (.cells #[.slice none 0 0, .slice none 0 0, .slice none 0 0] 45)).heap.size = w4.heap.size + 1 := by simp
    clear hr4 ht4 HR2 HR3 HT2 HT3 HN1 HN2 HN3
    go_wp2_with fail
    refine (listN_any (l, false) r m1 _ (by omega) K0.out.rd).mono ?_
    obtain ⟨xs1, t1, hx⟩ := pair_of (rdList rdNode m1 (l, false))
    have HL1 : Hid (xs1.length = m1) := by have := list_length (rd := rdNode) m1 (l, false); rw [hx] at this; exact this
    rw [hx] at HMM ⊢
    clear hx
    rintro e w5 ⟨v, rfl, ho, hr5, ht5⟩
    obtain ⟨A1, c1, rfl, _⟩ := recs_of_own (cells := cellsN) (size := 10) (fun _ => rfl) rfl ho
    simp only [hs4] at ho
    have hll := HL1.out
    generalize hq : xs1.length = n1 at ho hll ⊢
    subst hll
    have K1 := Lib.hid (K0.out.call hr5 ht5)
    clear hr5 ht5
    have hl5 : w4.heap.size < w5.heap.size := K1.out.hxb.2
    obtain ⟨c0, f0⟩ := K1.out.box.at 0 (.slice none 0 0) rfl
    have K2 := Lib.hid (K1.out.store 0 (.slice A1 n1 c1))
    have HO1 := Lib.hid (own_set ho (p := ⟨w4.heap.size, 0, none⟩) (by show w4.heap.size < w4.heap.size + 1; omega) (.slice A1 n1 c1))
    have HQ1 := Lib.hid hq
    have hs5 : (w5.setCell ⟨w4.heap.size, 0, none⟩ (.slice A1 n1 c1)).heap.size = w5.heap.size := by simp
    clear ho hq
    go_wp2_with fail
    refine (listL_any t1 r m2 _ (by omega) K2.out.rd).mono ?_
    obtain ⟨xs2, t2, hx⟩ := pair_of (rdList rdLoad m2 t1)
    have HL2 : Hid (xs2.length = m2) := by have := list_length (rd := rdLoad) m2 t1; rw [hx] at this; exact this
    rw [hx] at HMM ⊢
    clear hx
    rintro e w6 ⟨v, rfl, ho, hr6, ht6⟩
    obtain ⟨A2, c2, rfl, _⟩ := recs_of_own (cells := cellsL) (size := 5) (fun _ => rfl) rfl ho
    simp only [hs5] at ho
    have hll := HL2.out
    generalize hq : xs2.length = n2 at ho hll ⊢
    subst hll
    have K3 := Lib.hid (K2.out.call hr6 ht6)
    have HO2a := Lib.hid (own_turn HO1.out ht6 (by omega))
    clear hr6 ht6 c0 f0
    have hl6 : w4.heap.size < w6.heap.size := K3.out.hxb.2
    obtain ⟨c0, f0⟩ := K3.out.box.at 1 (.slice none 0 0) rfl
    have K4 := Lib.hid (K3.out.store 1 (.slice A2 n2 c2))
    have HO2 := Lib.hid (own_set ho (p := ⟨w4.heap.size, 1, none⟩) (by show w4.heap.size < w5.heap.size; omega) (.slice A2 n2 c2))
    have HO2b := Lib.hid (own_set HO2a.out (p := ⟨w4.heap.size, 1, none⟩) (by show w4.heap.size < w4.heap.size + 1; omega) (.slice A2 n2 c2))
    have HQ2 := Lib.hid hq
    have hs6 : (w6.setCell ⟨w4.heap.size, 1, none⟩ (.slice A2 n2 c2)).heap.size = w6.heap.size := by simp
    clear ho hq HO1 HO2a
    go_wp2_with fail
    refine (listP_any t2 r m3 _ (by omega) K4.out.rd).mono ?_
    obtain ⟨xs3, t3, hx⟩ := pair_of (rdList rdPod m3 t2)
    have HL3 : Hid (xs3.length = m3) := by have := list_length (rd := rdPod) m3 t2; rw [hx] at this; exact this
    rw [hx] at HMM ⊢
    clear hx
    rintro e w7 ⟨v, rfl, ho, hr7, ht7⟩
    obtain ⟨A3, c3, rfl, _⟩ := recs_of_own (cells := cellsP) (size := 8) (fun _ => rfl) rfl ho
    simp only [hs6] at ho
    have hll := HL3.out
    generalize hq : xs3.length = n3 at ho hll ⊢
    subst hll
    have K5 := Lib.hid (K4.out.call hr7 ht7)
    have HO3a := Lib.hid (own_turn HO2.out ht7 (by omega))
    have HO3b := Lib.hid (own_turn HO2b.out ht7 (by omega))
    clear hr7 ht7 c0 f0
    have hl7 : w4.heap.size < w7.heap.size := K5.out.hxb.2
    obtain ⟨c0, f0⟩ := K5.out.box.at 2 (.slice none 0 0) rfl
    have K6 := Lib.hid (K5.out.store 2 (.slice A3 n3 c3))
    have HP3 := Lib.hid (own_set ho (p := ⟨w4.heap.size, 2, none⟩) (by show w4.heap.size < w6.heap.size; omega) (.slice A3 n3 c3))
    have HP2 := Lib.hid (own_set HO3a.out (p := ⟨w4.heap.size, 2, none⟩) (by show w4.heap.size < w5.heap.size; omega) (.slice A3 n3 c3))
    have HP1 := Lib.hid (own_set HO3b.out (p := ⟨w4.heap.size, 2, none⟩) (by show w4.heap.size < w4.heap.size + 1; omega) (.slice A3 n3 c3))
    have HQ3 := Lib.hid hq
    clear ho hq HO2 HO2b HO3a HO3b
    go_wp2_with fail
    refine (wellFormed_any _ r _ K6.out.rd).mono ?_
    rintro e w8 ⟨rfl, rfl⟩
    have hl8 : w4.heap.size < (w7.setCell ⟨w4.heap.size, 2, none⟩ (.slice A3 n3 c3)).heap.size := by simpa using hl7
    generalize hW : w7.setCell ⟨w4.heap.size, 2, none⟩ (.slice A3 n3 c3) = W at *
    clear hW c0 f0
    have hl9 : w.heap.size < W.heap.size := by omega
    obtain ⟨d0, _⟩ := K6.out.box.at 0 (.slice A1 n1 c1) rfl
    obtain ⟨d1, _⟩ := K6.out.box.at 1 (.slice A2 n2 c2) rfl
    obtain ⟨d2, _⟩ := K6.out.box.at 2 (.slice A3 n3 c3) rfl
    obtain ⟨g0, k0⟩ := K6.out.res.at 0 (.slice none 0 0) rfl
    obtain ⟨g1, k1⟩ := K6.out.res.at 1 (.slice none 0 0) rfl
    obtain ⟨g2, k2⟩ := K6.out.res.at 2 (.slice none 0 0) rfl
    clear HBEE HX1 HX4 K0 K1 K2 K3 K4 K5
    cases hw : wellF (mSnap ns).2 with
    | false =>
      have HE := Lib.hid (HM.out.trans (if_neg (by rw [hw]; decide)))
      have hw' : wellF t3 = false := by have := HMM.out; rw [this] at hw; exact hw
      have HBEE : Hid (∀ x0 x1 x2 : Value, Below w.heap.size w (((W.setCell ⟨w.heap.size, 0, none⟩ x0).setCell ⟨w.heap.size, 1, none⟩ x1).setCell ⟨w.heap.size, 2, none⟩ x2)) := fun x0 x1 x2 => ((K6.out.below.setCell (p := ⟨w.heap.size, 0, none⟩) (Nat.le_refl _) x0).setCell (p := ⟨w.heap.size, 1, none⟩) (Nat.le_refl _) x1).setCell (p := ⟨w.heap.size, 2, none⟩) (Nat.le_refl _) x2
      clear hw
      go_wp2
      refine bodyPost_ret (v := .tuple #[.agg #[.slice none 0 0, .slice none 0 0, .slice none 0 0], .iface 33 (.int .i64 2)]) ?_ rfl ?_
      · simp [results, Tryd.results12, go_sem, *]
      · unfold SnapTo
        rw [HE.out]
        exact snapTo_err rfl (.inr (.inl ⟨rfl, by decide, by decide, rfl⟩)) (HBEE.out _ _ _)
    | true =>
      have HE := Lib.hid (HM.out.trans (if_pos hw))
      have hw' : wellF t3 = true := by have := HMM.out; rw [this] at hw; exact hw
      clear hw
      have HS : Hid ((mSnap ns).1 = ⟨xs1, xs2, xs3⟩) := by show _ = _; rw [HMM.out]
      have o1 := out_of_own (cells := cellsN) (size := 10) (fun _ => rfl) HQ1.out.symm HP1.out
      have o2 := out_of_own (cells := cellsL) (size := 5) (fun _ => rfl) HQ2.out.symm HP2.out
      have o3 := out_of_own (cells := cellsP) (size := 8) (fun _ => rfl) HQ3.out.symm HP3.out
      have z1 := HQ1.out
      have z2 := HQ2.out
      have z3 := HQ3.out
      have HC := Lib.hid (check_holds ⟨xs1, xs2, xs3⟩ A1 A2 A3 n1 c1 n2 c2 n3 c3 W.heap.size W (by have := HFIT.out; rw [HS.out] at this; exact this) HQ1.out.symm HQ2.out.symm HQ3.out.symm (by omega) (by omega) (by omega) (by have := o1.1; omega) (by have := o2.1; omega) (by have := o3.1; omega) o1.2.1 o2.2.1 o3.2.1 (Nat.le_refl _) o1.2.2.2 o2.2.2.2 o3.2.2.2)
      clear o1 o2 o3 z1 z2 z3
      go_wp2_with fail
      refine HC.out.mono ?_
      clear HC
      rintro e w9 ⟨u, rfl, hu, hb9⟩
      have hl10 : w.heap.size < w9.heap.size := by have := hb9.size; omega
      have hl11 : w4.heap.size < w9.heap.size := by have := hb9.size; omega
      have j0 : w9.cell? ⟨w4.heap.size, 0, none⟩ = some (.slice A1 n1 c1) := (hb9.cell (p := ⟨w4.heap.size, 0, none⟩) hl8).trans d0
      have j1 : w9.cell? ⟨w4.heap.size, 1, none⟩ = some (.slice A2 n2 c2) := (hb9.cell (p := ⟨w4.heap.size, 1, none⟩) hl8).trans d1
      have j2 : w9.cell? ⟨w4.heap.size, 2, none⟩ = some (.slice A3 n3 c3) := (hb9.cell (p := ⟨w4.heap.size, 2, none⟩) hl8).trans d2
      have g0 : w9.cell? ⟨w.heap.size, 0, none⟩ = some (.slice none 0 0) := (hb9.cell (p := ⟨w.heap.size, 0, none⟩) hl9).trans g0
      have g1 : w9.cell? ⟨w.heap.size, 1, none⟩ = some (.slice none 0 0) := (hb9.cell (p := ⟨w.heap.size, 1, none⟩) hl9).trans g1
      have g2 : w9.cell? ⟨w.heap.size, 2, none⟩ = some (.slice none 0 0) := (hb9.cell (p := ⟨w.heap.size, 2, none⟩) hl9).trans g2
      have k0 : w9.frozen? ⟨w.heap.size, 0, none⟩ = false := (hb9.frozen (p := ⟨w.heap.size, 0, none⟩) hl9).trans k0
      have k1 : w9.frozen? ⟨w.heap.size, 1, none⟩ = false := (hb9.frozen (p := ⟨w.heap.size, 1, none⟩) hl9).trans k1
      have k2 : w9.frozen? ⟨w.heap.size, 2, none⟩ = false := (hb9.frozen (p := ⟨w.heap.size, 2, none⟩) hl9).trans k2
      have HW : Hid (Below w.heap.size w w9) := K6.out.below.trans (hb9.mono K6.out.below.size)
      have HBEE : Hid (∀ x0 x1 x2 : Value, Below w.heap.size w (((w9.setCell ⟨w.heap.size, 0, none⟩ x0).setCell ⟨w.heap.size, 1, none⟩ x1).setCell ⟨w.heap.size, 2, none⟩ x2)) := fun x0 x1 x2 => ((HW.out.setCell (p := ⟨w.heap.size, 0, none⟩) (Nat.le_refl _) x0).setCell (p := ⟨w.heap.size, 1, none⟩) (Nat.le_refl _) x1).setCell (p := ⟨w.heap.size, 2, none⟩) (Nat.le_refl _) x2
      have R1 := Lib.hid (own_later HP1.out hb9)
      have R2 := Lib.hid (own_later HP2.out hb9)
      have R3 := Lib.hid (own_later HP3.out hb9)
      clear d0 d1 d2 HP1 HP2 HP3
      rw [HS.out] at HE
      by_cases hck : (check ⟨xs1, xs2, xs3⟩).1 = 0
      · have HE2 := Lib.hid (HE.out.trans (if_neg (by simpa using hck)))
        obtain rfl := errIs_none hu hck (by rw [check_zero hck])
        clear hu hck hb9
        have S1 := Lib.hid (own_set (own_set (own_set R1.out (p := ⟨w.heap.size, 0, none⟩) (by show w.heap.size < _; omega) (.slice A1 n1 c1)) (p := ⟨w.heap.size, 1, none⟩) (by show w.heap.size < _; omega) (.slice A2 n2 c2)) (p := ⟨w.heap.size, 2, none⟩) (by show w.heap.size < _; omega) (.slice A3 n3 c3))
        have S2 := Lib.hid (own_set (own_set (own_set R2.out (p := ⟨w.heap.size, 0, none⟩) (by show w.heap.size < _; omega) (.slice A1 n1 c1)) (p := ⟨w.heap.size, 1, none⟩) (by show w.heap.size < _; omega) (.slice A2 n2 c2)) (p := ⟨w.heap.size, 2, none⟩) (by show w.heap.size < _; omega) (.slice A3 n3 c3))
        have S3 := Lib.hid (own_set (own_set (own_set R3.out (p := ⟨w.heap.size, 0, none⟩) (by show w.heap.size < _; omega) (.slice A1 n1 c1)) (p := ⟨w.heap.size, 1, none⟩) (by show w.heap.size < _; omega) (.slice A2 n2 c2)) (p := ⟨w.heap.size, 2, none⟩) (by show w.heap.size < _; omega) (.slice A3 n3 c3))
        clear R1 R2 R3
        go_wp2
        refine bodyPost_ret (v := .tuple #[snapV A1 A2 A3 n1 c1 n2 c2 n3 c3, .nilIface]) ?_ rfl ?_
        · simp [results, Tryd.results12, go_sem, *]
        · have o1 := out_of_own (cells := cellsN) (size := 10) (fun _ => rfl) HQ1.out.symm S1.out
          have o2 := out_of_own (cells := cellsL) (size := 5) (fun _ => rfl) HQ2.out.symm S2.out
          have o3 := out_of_own (cells := cellsP) (size := 8) (fun _ => rfl) HQ3.out.symm S3.out
          unfold SnapTo
          rw [HE2.out]
          exact ⟨A1, A2, A3, c1, c2, c3, .nilIface, by rw [← HQ1.out, ← HQ2.out, ← HQ3.out], o1, o2, o3, .inl ⟨rfl, rfl⟩, HBEE.out _ _ _⟩
      · have HE2 := Lib.hid (HE.out.trans (if_pos (by simpa using hck)))
        have HU := Lib.hid hu
        obtain ⟨t, v, rfl⟩ := errIs_some hu hck
        clear hu hck hb9
        go_wp2
        refine bodyPost_ret (v := .tuple #[.agg #[.slice none 0 0, .slice none 0 0, .slice none 0 0], .iface t v]) ?_ rfl ?_
        · simp [results, Tryd.results12, go_sem, *]
        · unfold SnapTo
          rw [HE2.out]
          refine snapTo_err rfl ?_ (HBEE.out _ _ _)
          exact (((HU.out.set (by show w.heap.size < W.heap.size; omega) _).set (by show w.heap.size < W.heap.size; omega) _).set (by show w.heap.size < W.heap.size; omega) _).less (by omega)
end Go.Proofs.YtjpaeaedfgiomaaDoor

/- The program's Snapshot: a snapshot as bytes. -/
namespace Go.Proofs.YtjpaeaedfgiomaaDoor
set_option linter.unusedSimpArgs false
open Go.RowKit
set_option linter.unusedVariables false

theorem snap_okn {s : SnapD} (h : (check s).1 = 0) (hok : s.Ok) : (∀ x ∈ s.nodes, OknN x) ∧ (∀ x ∈ s.loads, OknL x) ∧ (∀ x ∈ s.pods, OknP x) ∧ Nums (snapNums s) := by
  obtain ⟨hlg, h1, h2, h3⟩ := check_ok.1 h
  have n1 := firstBad_each h1
  have n2 := firstBad_each h2
  have n3 := firstBad_each h3
  have hsz : ¬ (s.nodes.length = 0 ∨ 8 < s.nodes.length ∨ 8 < s.loads.length ∨ 12 < s.pods.length) := by simpa only [large, decide_eq_false_iff_not] using hlg
  have f1 : ∀ x ∈ s.nodes, OknN x := fun x hx => by
    obtain ⟨la, hb⟩ := n1 x hx
    have := node_ok hb
    exact ⟨by omega, by omega⟩
  have f2 : ∀ x ∈ s.loads, OknL x := fun x hx => by
    obtain ⟨la, hb⟩ := n2 x hx
    have := load_ok hb
    exact ⟨by omega, by omega, by omega, by omega⟩
  have f3 : ∀ x ∈ s.pods, OknP x := fun x hx => by
    obtain ⟨la, hb⟩ := n3 x hx
    obtain ⟨a1, a2, a3, ⟨y, hy, ey⟩, a5⟩ := pod_ok hb
    obtain ⟨lb, hlb⟩ := n2 y hy
    have := load_ok hlb
    have hn : 0 ≤ x.node ∧ x.node ≤ 2147483647 := by
      rcases a5 with a5 | ⟨z, hz, ez⟩
      · omega
      · obtain ⟨lc, hlc⟩ := n1 z hz
        have := node_ok hlc
        omega
    exact ⟨by omega, by omega, by omega, by omega⟩
  have t31 : ∀ {n : Int}, I31 n → U64 n := fun h => by unfold U64; omega
  refine ⟨f1, f2, f3, fun n hn => ?_⟩
  rcases List.mem_append.1 hn with hn | hn
  · simp only [List.mem_cons, List.not_mem_nil, or_false] at hn
    rcases hn with rfl | rfl | rfl <;> omega
  rcases List.mem_append.1 hn with hn | hn
  · obtain ⟨y, hy, hn⟩ := List.mem_flatMap.1 hn
    obtain ⟨g1, g2⟩ := f1 y hy
    obtain ⟨o1, o2, ⟨o3, o4, o5, o6⟩, o7, o8, o9, o10⟩ := hok.1 y hy
    simp only [nodeK, List.mem_cons, List.not_mem_nil, or_false] at hn
    rcases hn with rfl | rfl | rfl | rfl | rfl | rfl | rfl | rfl | rfl | rfl
    · exact t31 g1
    · exact t31 g2
    · exact o3
    · exact o4
    · exact o5
    · exact o6
    · exact o7
    · exact o8
    · exact o9
    · exact o10
  rcases List.mem_append.1 hn with hn | hn
  · obtain ⟨y, hy, hn⟩ := List.mem_flatMap.1 hn
    obtain ⟨g1, g2, g3, g4⟩ := f2 y hy
    simp only [loadK, List.mem_cons, List.not_mem_nil, or_false] at hn
    rcases hn with rfl | rfl | rfl | rfl | rfl
    · exact t31 g1
    · exact t31 (i31_truth _)
    · exact t31 g2
    · exact t31 g3
    · exact t31 g4
  · obtain ⟨y, hy, hn⟩ := List.mem_flatMap.1 hn
    obtain ⟨g1, g2, g3, g4⟩ := f3 y hy
    obtain ⟨o1, o2, o3, ⟨o4, o5, o6, o7⟩, o8⟩ := hok.2.2 y hy
    simp only [podK, List.mem_cons, List.not_mem_nil, or_false] at hn
    rcases hn with rfl | rfl | rfl | rfl | rfl | rfl | rfl | rfl
    · exact t31 g1
    · exact t31 g2
    · exact t31 g3
    · exact o4
    · exact o5
    · exact o6
    · exact o7
    · exact t31 g4

def SnapWTo (s : SnapD) (w : World) (e : Ending) (w' : World) : Prop :=
  ((check s).1 = 0 ∧ WriteTo true (snapNums s) w e w') ∨ ((check s).1 ≠ 0 ∧ ∃ u, e = .returned (.tuple #[.slice none 0 0, u]) ∧ ErrIs (check s) w.heap.size w' u ∧ Below w.heap.size w w')

end Go.Proofs.YtjpaeaedfgiomaaDoor

/- '!=' of a node, a load, a want and itself. -/
namespace Go.Proofs.YtjpaeaedfgiomaaDoor
set_option linter.unusedSimpArgs false
open Go.RowKit
set_option linter.unusedVariables false

theorem int_eqIn (d : Nat) (a : Int) (w : World) : (Op.equalIn (d + 1) 3 (.int .i64 a) (.int .i64 a)).run Tryd.prog w = .ok true w := by
  simp [Op.equalIn, run_underlying Tryd.underlying3]
theorem bool_eqIn (d : Nat) (a : Bool) (w : World) : (Op.equalIn (d + 1) 4 (.bool a) (.bool a)).run Tryd.prog w = .ok true w := by
  simp [Op.equalIn, run_underlying Tryd.underlying4]
theorem vec_eqIn (d : Nat) (a0 a1 a2 a3 : Int) (w : World) : (Op.equalIn (d + 2) 72 (.agg #[.int .u64 a0, .int .u64 a1, .int .u64 a2, .int .u64 a3]) (.agg #[.int .u64 a0, .int .u64 a1, .int .u64 a2, .int .u64 a3])).run Tryd.prog w = .ok true w := by
  rw [vec_eqlIn]; simp
theorem part_int (cs : Array Value) (j : Nat) (v : Value) (h : cs[j]? = some v) (w : World) : (part 3 cs j).run Tryd.prog w = .ok v w := by
  have hf : ∀ w : World, (isAgg 3).run Tryd.prog w = .ok false w := fun _ => by kernel_rfl
  simp [part, hf, h]
theorem part_bool (cs : Array Value) (j : Nat) (v : Value) (h : cs[j]? = some v) (w : World) : (part 4 cs j).run Tryd.prog w = .ok v w := by
  have hf : ∀ w : World, (isAgg 4).run Tryd.prog w = .ok false w := fun _ => by kernel_rfl
  simp [part, hf, h]
theorem part_vec (cs : Array Value) (j : Nat) (v0 v1 v2 v3 : Value) (h : cs.extract j (j + 4) = #[v0, v1, v2, v3]) (w : World) : (part 72 cs j).run Tryd.prog w = .ok (.agg #[v0, v1, v2, v3]) w := by
  have hf : ∀ w : World, (isAgg 72).run Tryd.prog w = .ok true w := fun _ => by kernel_rfl
  have hs : ∀ w : World, (sizeOf 72).run Tryd.prog w = .ok 4 w := fun _ => by kernel_rfl
  simp [part, hf, hs, h]
theorem eqFields_step {d : Nat} {xs ys : Array Value} {f : Field} {fs : List Field} {a b : Value} {w : World} (hn : f.name ≠ "_") (ha : (part f.type xs f.offset).run Tryd.prog w = .ok a w) (hb : (part f.type ys f.offset).run Tryd.prog w = .ok b w) (he : (Op.equalIn d f.type a b).run Tryd.prog w = .ok true w) :
    (Op.eqFields d xs ys (f :: fs)).run Tryd.prog w = (Op.eqFields d xs ys fs).run Tryd.prog w := by
  simp [Op.eqFields, hn, ha, hb, he]
theorem node_same (x : NodeD) (w : World) : (binOp .neq 74 (.agg (cellsN x).toArray) (.agg (cellsN x).toArray)).run Tryd.prog w = .ok (.bool false) w := by
  have hf : (Tryd.prog.fieldsOf 74).toList = [(⟨"Id", 3, 0, false, "", "", 0⟩ : Field), (⟨"Zone", 3, 1, false, "", "", 8⟩ : Field), (⟨"Cap", 72, 2, false, "", "", 16⟩ : Field), (⟨"Held", 72, 6, false, "", "", 48⟩ : Field)] := by kernel_rfl
  have hc : (cellsN x).toArray = #[.int .i64 x.id, .int .i64 x.zone, .int .u64 x.cap.a, .int .u64 x.cap.b, .int .u64 x.cap.c, .int .u64 x.cap.d, .int .u64 x.held.a, .int .u64 x.held.b, .int .u64 x.held.c, .int .u64 x.held.d] := rfl
  rw [hc, run_neq_struct, run_equalIn_struct w 9999 74 _ _ (by kernel_rfl) (by kernel_rfl), hf]
  clear hc hf
  have s0 : (Op.eqFields 9999 #[.int .i64 x.id, .int .i64 x.zone, .int .u64 x.cap.a, .int .u64 x.cap.b, .int .u64 x.cap.c, .int .u64 x.cap.d, .int .u64 x.held.a, .int .u64 x.held.b, .int .u64 x.held.c, .int .u64 x.held.d] #[.int .i64 x.id, .int .i64 x.zone, .int .u64 x.cap.a, .int .u64 x.cap.b, .int .u64 x.cap.c, .int .u64 x.cap.d, .int .u64 x.held.a, .int .u64 x.held.b, .int .u64 x.held.c, .int .u64 x.held.d] ((⟨"Id", 3, 0, false, "", "", 0⟩ : Field) :: [(⟨"Zone", 3, 1, false, "", "", 8⟩ : Field), (⟨"Cap", 72, 2, false, "", "", 16⟩ : Field), (⟨"Held", 72, 6, false, "", "", 48⟩ : Field)])).run Tryd.prog w = (Op.eqFields 9999 #[.int .i64 x.id, .int .i64 x.zone, .int .u64 x.cap.a, .int .u64 x.cap.b, .int .u64 x.cap.c, .int .u64 x.cap.d, .int .u64 x.held.a, .int .u64 x.held.b, .int .u64 x.held.c, .int .u64 x.held.d] #[.int .i64 x.id, .int .i64 x.zone, .int .u64 x.cap.a, .int .u64 x.cap.b, .int .u64 x.cap.c, .int .u64 x.cap.d, .int .u64 x.held.a, .int .u64 x.held.b, .int .u64 x.held.c, .int .u64 x.held.d] [(⟨"Zone", 3, 1, false, "", "", 8⟩ : Field), (⟨"Cap", 72, 2, false, "", "", 16⟩ : Field), (⟨"Held", 72, 6, false, "", "", 48⟩ : Field)]).run Tryd.prog w := eqFields_step (a := (.int .i64 x.id)) (b := (.int .i64 x.id)) (by decide) (part_int #[.int .i64 x.id, .int .i64 x.zone, .int .u64 x.cap.a, .int .u64 x.cap.b, .int .u64 x.cap.c, .int .u64 x.cap.d, .int .u64 x.held.a, .int .u64 x.held.b, .int .u64 x.held.c, .int .u64 x.held.d] 0 (.int .i64 x.id) rfl w) (part_int #[.int .i64 x.id, .int .i64 x.zone, .int .u64 x.cap.a, .int .u64 x.cap.b, .int .u64 x.cap.c, .int .u64 x.cap.d, .int .u64 x.held.a, .int .u64 x.held.b, .int .u64 x.held.c, .int .u64 x.held.d] 0 (.int .i64 x.id) rfl w) (int_eqIn 9998 x.id w)
  have s1 : (Op.eqFields 9999 #[.int .i64 x.id, .int .i64 x.zone, .int .u64 x.cap.a, .int .u64 x.cap.b, .int .u64 x.cap.c, .int .u64 x.cap.d, .int .u64 x.held.a, .int .u64 x.held.b, .int .u64 x.held.c, .int .u64 x.held.d] #[.int .i64 x.id, .int .i64 x.zone, .int .u64 x.cap.a, .int .u64 x.cap.b, .int .u64 x.cap.c, .int .u64 x.cap.d, .int .u64 x.held.a, .int .u64 x.held.b, .int .u64 x.held.c, .int .u64 x.held.d] ((⟨"Zone", 3, 1, false, "", "", 8⟩ : Field) :: [(⟨"Cap", 72, 2, false, "", "", 16⟩ : Field), (⟨"Held", 72, 6, false, "", "", 48⟩ : Field)])).run Tryd.prog w = (Op.eqFields 9999 #[.int .i64 x.id, .int .i64 x.zone, .int .u64 x.cap.a, .int .u64 x.cap.b, .int .u64 x.cap.c, .int .u64 x.cap.d, .int .u64 x.held.a, .int .u64 x.held.b, .int .u64 x.held.c, .int .u64 x.held.d] #[.int .i64 x.id, .int .i64 x.zone, .int .u64 x.cap.a, .int .u64 x.cap.b, .int .u64 x.cap.c, .int .u64 x.cap.d, .int .u64 x.held.a, .int .u64 x.held.b, .int .u64 x.held.c, .int .u64 x.held.d] [(⟨"Cap", 72, 2, false, "", "", 16⟩ : Field), (⟨"Held", 72, 6, false, "", "", 48⟩ : Field)]).run Tryd.prog w := eqFields_step (a := (.int .i64 x.zone)) (b := (.int .i64 x.zone)) (by decide) (part_int #[.int .i64 x.id, .int .i64 x.zone, .int .u64 x.cap.a, .int .u64 x.cap.b, .int .u64 x.cap.c, .int .u64 x.cap.d, .int .u64 x.held.a, .int .u64 x.held.b, .int .u64 x.held.c, .int .u64 x.held.d] 1 (.int .i64 x.zone) rfl w) (part_int #[.int .i64 x.id, .int .i64 x.zone, .int .u64 x.cap.a, .int .u64 x.cap.b, .int .u64 x.cap.c, .int .u64 x.cap.d, .int .u64 x.held.a, .int .u64 x.held.b, .int .u64 x.held.c, .int .u64 x.held.d] 1 (.int .i64 x.zone) rfl w) (int_eqIn 9998 x.zone w)
  have s2 : (Op.eqFields 9999 #[.int .i64 x.id, .int .i64 x.zone, .int .u64 x.cap.a, .int .u64 x.cap.b, .int .u64 x.cap.c, .int .u64 x.cap.d, .int .u64 x.held.a, .int .u64 x.held.b, .int .u64 x.held.c, .int .u64 x.held.d] #[.int .i64 x.id, .int .i64 x.zone, .int .u64 x.cap.a, .int .u64 x.cap.b, .int .u64 x.cap.c, .int .u64 x.cap.d, .int .u64 x.held.a, .int .u64 x.held.b, .int .u64 x.held.c, .int .u64 x.held.d] ((⟨"Cap", 72, 2, false, "", "", 16⟩ : Field) :: [(⟨"Held", 72, 6, false, "", "", 48⟩ : Field)])).run Tryd.prog w = (Op.eqFields 9999 #[.int .i64 x.id, .int .i64 x.zone, .int .u64 x.cap.a, .int .u64 x.cap.b, .int .u64 x.cap.c, .int .u64 x.cap.d, .int .u64 x.held.a, .int .u64 x.held.b, .int .u64 x.held.c, .int .u64 x.held.d] #[.int .i64 x.id, .int .i64 x.zone, .int .u64 x.cap.a, .int .u64 x.cap.b, .int .u64 x.cap.c, .int .u64 x.cap.d, .int .u64 x.held.a, .int .u64 x.held.b, .int .u64 x.held.c, .int .u64 x.held.d] [(⟨"Held", 72, 6, false, "", "", 48⟩ : Field)]).run Tryd.prog w := eqFields_step (a := (.agg #[.int .u64 x.cap.a, .int .u64 x.cap.b, .int .u64 x.cap.c, .int .u64 x.cap.d])) (b := (.agg #[.int .u64 x.cap.a, .int .u64 x.cap.b, .int .u64 x.cap.c, .int .u64 x.cap.d])) (by decide) (part_vec #[.int .i64 x.id, .int .i64 x.zone, .int .u64 x.cap.a, .int .u64 x.cap.b, .int .u64 x.cap.c, .int .u64 x.cap.d, .int .u64 x.held.a, .int .u64 x.held.b, .int .u64 x.held.c, .int .u64 x.held.d] 2 (.int .u64 x.cap.a) (.int .u64 x.cap.b) (.int .u64 x.cap.c) (.int .u64 x.cap.d) rfl w) (part_vec #[.int .i64 x.id, .int .i64 x.zone, .int .u64 x.cap.a, .int .u64 x.cap.b, .int .u64 x.cap.c, .int .u64 x.cap.d, .int .u64 x.held.a, .int .u64 x.held.b, .int .u64 x.held.c, .int .u64 x.held.d] 2 (.int .u64 x.cap.a) (.int .u64 x.cap.b) (.int .u64 x.cap.c) (.int .u64 x.cap.d) rfl w) (vec_eqIn 9997 x.cap.a x.cap.b x.cap.c x.cap.d w)
  have s3 : (Op.eqFields 9999 #[.int .i64 x.id, .int .i64 x.zone, .int .u64 x.cap.a, .int .u64 x.cap.b, .int .u64 x.cap.c, .int .u64 x.cap.d, .int .u64 x.held.a, .int .u64 x.held.b, .int .u64 x.held.c, .int .u64 x.held.d] #[.int .i64 x.id, .int .i64 x.zone, .int .u64 x.cap.a, .int .u64 x.cap.b, .int .u64 x.cap.c, .int .u64 x.cap.d, .int .u64 x.held.a, .int .u64 x.held.b, .int .u64 x.held.c, .int .u64 x.held.d] ((⟨"Held", 72, 6, false, "", "", 48⟩ : Field) :: [])).run Tryd.prog w = (Op.eqFields 9999 #[.int .i64 x.id, .int .i64 x.zone, .int .u64 x.cap.a, .int .u64 x.cap.b, .int .u64 x.cap.c, .int .u64 x.cap.d, .int .u64 x.held.a, .int .u64 x.held.b, .int .u64 x.held.c, .int .u64 x.held.d] #[.int .i64 x.id, .int .i64 x.zone, .int .u64 x.cap.a, .int .u64 x.cap.b, .int .u64 x.cap.c, .int .u64 x.cap.d, .int .u64 x.held.a, .int .u64 x.held.b, .int .u64 x.held.c, .int .u64 x.held.d] []).run Tryd.prog w := eqFields_step (a := (.agg #[.int .u64 x.held.a, .int .u64 x.held.b, .int .u64 x.held.c, .int .u64 x.held.d])) (b := (.agg #[.int .u64 x.held.a, .int .u64 x.held.b, .int .u64 x.held.c, .int .u64 x.held.d])) (by decide) (part_vec #[.int .i64 x.id, .int .i64 x.zone, .int .u64 x.cap.a, .int .u64 x.cap.b, .int .u64 x.cap.c, .int .u64 x.cap.d, .int .u64 x.held.a, .int .u64 x.held.b, .int .u64 x.held.c, .int .u64 x.held.d] 6 (.int .u64 x.held.a) (.int .u64 x.held.b) (.int .u64 x.held.c) (.int .u64 x.held.d) rfl w) (part_vec #[.int .i64 x.id, .int .i64 x.zone, .int .u64 x.cap.a, .int .u64 x.cap.b, .int .u64 x.cap.c, .int .u64 x.cap.d, .int .u64 x.held.a, .int .u64 x.held.b, .int .u64 x.held.c, .int .u64 x.held.d] 6 (.int .u64 x.held.a) (.int .u64 x.held.b) (.int .u64 x.held.c) (.int .u64 x.held.d) rfl w) (vec_eqIn 9997 x.held.a x.held.b x.held.c x.held.d w)
  rw [s0, s1, s2, s3]
  simp [Op.eqFields]
theorem load_same (x : LoadD) (w : World) : (binOp .neq 78 (.agg (cellsL x).toArray) (.agg (cellsL x).toArray)).run Tryd.prog w = .ok (.bool false) w := by
  have hf : (Tryd.prog.fieldsOf 78).toList = [(⟨"Id", 3, 0, false, "", "", 0⟩ : Field), (⟨"Apart", 4, 1, false, "", "", 8⟩ : Field), (⟨"Skew", 3, 2, false, "", "", 16⟩ : Field), (⟨"Min", 3, 3, false, "", "", 24⟩ : Field), (⟨"Max", 3, 4, false, "", "", 32⟩ : Field)] := by kernel_rfl
  have hc : (cellsL x).toArray = #[.int .i64 x.id, .bool x.apart, .int .i64 x.skew, .int .i64 x.min, .int .i64 x.max] := rfl
  rw [hc, run_neq_struct, run_equalIn_struct w 9999 78 _ _ (by kernel_rfl) (by kernel_rfl), hf]
  clear hc hf
  have s0 : (Op.eqFields 9999 #[.int .i64 x.id, .bool x.apart, .int .i64 x.skew, .int .i64 x.min, .int .i64 x.max] #[.int .i64 x.id, .bool x.apart, .int .i64 x.skew, .int .i64 x.min, .int .i64 x.max] ((⟨"Id", 3, 0, false, "", "", 0⟩ : Field) :: [(⟨"Apart", 4, 1, false, "", "", 8⟩ : Field), (⟨"Skew", 3, 2, false, "", "", 16⟩ : Field), (⟨"Min", 3, 3, false, "", "", 24⟩ : Field), (⟨"Max", 3, 4, false, "", "", 32⟩ : Field)])).run Tryd.prog w = (Op.eqFields 9999 #[.int .i64 x.id, .bool x.apart, .int .i64 x.skew, .int .i64 x.min, .int .i64 x.max] #[.int .i64 x.id, .bool x.apart, .int .i64 x.skew, .int .i64 x.min, .int .i64 x.max] [(⟨"Apart", 4, 1, false, "", "", 8⟩ : Field), (⟨"Skew", 3, 2, false, "", "", 16⟩ : Field), (⟨"Min", 3, 3, false, "", "", 24⟩ : Field), (⟨"Max", 3, 4, false, "", "", 32⟩ : Field)]).run Tryd.prog w := eqFields_step (a := (.int .i64 x.id)) (b := (.int .i64 x.id)) (by decide) (part_int #[.int .i64 x.id, .bool x.apart, .int .i64 x.skew, .int .i64 x.min, .int .i64 x.max] 0 (.int .i64 x.id) rfl w) (part_int #[.int .i64 x.id, .bool x.apart, .int .i64 x.skew, .int .i64 x.min, .int .i64 x.max] 0 (.int .i64 x.id) rfl w) (int_eqIn 9998 x.id w)
  have s1 : (Op.eqFields 9999 #[.int .i64 x.id, .bool x.apart, .int .i64 x.skew, .int .i64 x.min, .int .i64 x.max] #[.int .i64 x.id, .bool x.apart, .int .i64 x.skew, .int .i64 x.min, .int .i64 x.max] ((⟨"Apart", 4, 1, false, "", "", 8⟩ : Field) :: [(⟨"Skew", 3, 2, false, "", "", 16⟩ : Field), (⟨"Min", 3, 3, false, "", "", 24⟩ : Field), (⟨"Max", 3, 4, false, "", "", 32⟩ : Field)])).run Tryd.prog w = (Op.eqFields 9999 #[.int .i64 x.id, .bool x.apart, .int .i64 x.skew, .int .i64 x.min, .int .i64 x.max] #[.int .i64 x.id, .bool x.apart, .int .i64 x.skew, .int .i64 x.min, .int .i64 x.max] [(⟨"Skew", 3, 2, false, "", "", 16⟩ : Field), (⟨"Min", 3, 3, false, "", "", 24⟩ : Field), (⟨"Max", 3, 4, false, "", "", 32⟩ : Field)]).run Tryd.prog w := eqFields_step (a := (.bool x.apart)) (b := (.bool x.apart)) (by decide) (part_bool #[.int .i64 x.id, .bool x.apart, .int .i64 x.skew, .int .i64 x.min, .int .i64 x.max] 1 (.bool x.apart) rfl w) (part_bool #[.int .i64 x.id, .bool x.apart, .int .i64 x.skew, .int .i64 x.min, .int .i64 x.max] 1 (.bool x.apart) rfl w) (bool_eqIn 9998 x.apart w)
  have s2 : (Op.eqFields 9999 #[.int .i64 x.id, .bool x.apart, .int .i64 x.skew, .int .i64 x.min, .int .i64 x.max] #[.int .i64 x.id, .bool x.apart, .int .i64 x.skew, .int .i64 x.min, .int .i64 x.max] ((⟨"Skew", 3, 2, false, "", "", 16⟩ : Field) :: [(⟨"Min", 3, 3, false, "", "", 24⟩ : Field), (⟨"Max", 3, 4, false, "", "", 32⟩ : Field)])).run Tryd.prog w = (Op.eqFields 9999 #[.int .i64 x.id, .bool x.apart, .int .i64 x.skew, .int .i64 x.min, .int .i64 x.max] #[.int .i64 x.id, .bool x.apart, .int .i64 x.skew, .int .i64 x.min, .int .i64 x.max] [(⟨"Min", 3, 3, false, "", "", 24⟩ : Field), (⟨"Max", 3, 4, false, "", "", 32⟩ : Field)]).run Tryd.prog w := eqFields_step (a := (.int .i64 x.skew)) (b := (.int .i64 x.skew)) (by decide) (part_int #[.int .i64 x.id, .bool x.apart, .int .i64 x.skew, .int .i64 x.min, .int .i64 x.max] 2 (.int .i64 x.skew) rfl w) (part_int #[.int .i64 x.id, .bool x.apart, .int .i64 x.skew, .int .i64 x.min, .int .i64 x.max] 2 (.int .i64 x.skew) rfl w) (int_eqIn 9998 x.skew w)
  have s3 : (Op.eqFields 9999 #[.int .i64 x.id, .bool x.apart, .int .i64 x.skew, .int .i64 x.min, .int .i64 x.max] #[.int .i64 x.id, .bool x.apart, .int .i64 x.skew, .int .i64 x.min, .int .i64 x.max] ((⟨"Min", 3, 3, false, "", "", 24⟩ : Field) :: [(⟨"Max", 3, 4, false, "", "", 32⟩ : Field)])).run Tryd.prog w = (Op.eqFields 9999 #[.int .i64 x.id, .bool x.apart, .int .i64 x.skew, .int .i64 x.min, .int .i64 x.max] #[.int .i64 x.id, .bool x.apart, .int .i64 x.skew, .int .i64 x.min, .int .i64 x.max] [(⟨"Max", 3, 4, false, "", "", 32⟩ : Field)]).run Tryd.prog w := eqFields_step (a := (.int .i64 x.min)) (b := (.int .i64 x.min)) (by decide) (part_int #[.int .i64 x.id, .bool x.apart, .int .i64 x.skew, .int .i64 x.min, .int .i64 x.max] 3 (.int .i64 x.min) rfl w) (part_int #[.int .i64 x.id, .bool x.apart, .int .i64 x.skew, .int .i64 x.min, .int .i64 x.max] 3 (.int .i64 x.min) rfl w) (int_eqIn 9998 x.min w)
  have s4 : (Op.eqFields 9999 #[.int .i64 x.id, .bool x.apart, .int .i64 x.skew, .int .i64 x.min, .int .i64 x.max] #[.int .i64 x.id, .bool x.apart, .int .i64 x.skew, .int .i64 x.min, .int .i64 x.max] ((⟨"Max", 3, 4, false, "", "", 32⟩ : Field) :: [])).run Tryd.prog w = (Op.eqFields 9999 #[.int .i64 x.id, .bool x.apart, .int .i64 x.skew, .int .i64 x.min, .int .i64 x.max] #[.int .i64 x.id, .bool x.apart, .int .i64 x.skew, .int .i64 x.min, .int .i64 x.max] []).run Tryd.prog w := eqFields_step (a := (.int .i64 x.max)) (b := (.int .i64 x.max)) (by decide) (part_int #[.int .i64 x.id, .bool x.apart, .int .i64 x.skew, .int .i64 x.min, .int .i64 x.max] 4 (.int .i64 x.max) rfl w) (part_int #[.int .i64 x.id, .bool x.apart, .int .i64 x.skew, .int .i64 x.min, .int .i64 x.max] 4 (.int .i64 x.max) rfl w) (int_eqIn 9998 x.max w)
  rw [s0, s1, s2, s3, s4]
  simp [Op.eqFields]
end Go.Proofs.YtjpaeaedfgiomaaDoor

/- The head of all statements of layer 4. -/
namespace Go.Proofs.YtjpaeaedfgiomaaDoor
set_option linter.unusedSimpArgs false
open Go.RowKit
set_option linter.unusedVariables false

theorem enc_0 : enc 0 = [0] := by rw [enc_lt (by decide)]
theorem encs_0 : encs [0] = [0] := by rw [encs_one, enc_0]
theorem encs_000 : encs [0, 0, 0] = [0, 0, 0] := by
  have : ([0, 0, 0] : List Int) = [0] ++ ([0] ++ [0]) := rfl
  rw [this, encs_append, encs_append, encs_0]
theorem rd_000 : rdSnap [0, 0, 0] = (noSnap, 3, -1) := by
  simp [rdSnap, snapFine, snapOf, fine, parse, check, large]
theorem errIs_code {B : Nat} {w : World} {u : Value} {c : Int} (h : ErrIs (c, -1) B w u) (hc : c ≠ 0) : u = .iface 33 (.int .i64 c) := errIs_self h hc rfl

set_option maxHeartbeats 3200000 in
set_option maxRecDepth 100000 in
theorem up4_any (w : World) : Calls Tryd.prog 4 #[] w fun e w' => e = .returned (.bool true) ∧ Below w.heap.size w w' := by
  have q2 : ∀ w : World, (binOp .eql 26 (.iface 33 (.int .i64 2)) (.iface 33 (.int .i64 2))).run Tryd.prog w = .ok (.bool true) w := fun _ => by kernel_rfl
  have q3 : ∀ w : World, (binOp .eql 26 (.iface 33 (.int .i64 3)) (.iface 33 (.int .i64 3))).run Tryd.prog w = .ok (.bool true) w := fun _ => by kernel_rfl
  have q4 : ∀ w : World, (binOp .eql 9 (.string ⟨#[0]⟩) (.string ⟨#[0]⟩)).run Tryd.prog w = .ok (.bool true) w := fun _ => by kernel_rfl
  have Q2 := Lib.hid q2
  have Q3 := Lib.hid q3
  have Q4 := Lib.hid q4
  clear q2 q3 q4
  go_enter Tryd.func4, Tryd.ntmps4
  go_wp2_with fail
  refine (moves_any [] none 0 0 w rfl (by decide) Recs.nil).mono ?_
  rintro e w1 ⟨⟨_, v, rfl, ho⟩ | ⟨h0, _⟩, hb1⟩
  · have hm : encs (moveNums []) = [0] := encs_0
    rw [hm] at ho
    obtain ⟨A1, c1, rfl, _⟩ := own_form ho
    have HROW := Lib.hid (Row.of_own ho).1
    have HB1 := Lib.hid hb1
    clear ho hm hb1
    go_wp2_with fail
    refine (readMoves_any [] [] none 0 0 w1 rfl (by decide) (Nat.le_refl _) (by decide) (by intro n hn; simp at hn) (by intro n hn; simp at hn) (.inl rfl) (.inl rfl)).mono ?_
    rintro e w2 ⟨A2, c2, u, rfl, _, _, _, _, hu, hb2⟩
    obtain rfl := errIs_code (c := 2) hu (by decide)
    have HB2 := Lib.hid (HB1.out.trans (hb2.mono HB1.out.size))
    have HROW2 := Lib.hid ((HROW.out.below hb2 (Nat.le_refl _)).more hb2.size)
    clear hu hb2 HROW HB1
    go_wp2_with fail
    refine (readSnapshot_any [0, 0, 0] [] _ 3 3 _ (by rw [encs_000]; rfl) (by decide) (by decide) (by decide) (by intro n hn; simp at hn; omega) (by intro n hn; simp at hn) (.inl rfl) ?_).mono ?_
    · rw [encs_000]
      exact row_at _ w2.heap.size 3 _ (by simp) fun j hj => by
        match j, hj with
        | 0, _ => simp
        | 1, _ => simp
        | 2, _ => simp
    have hrd : rdB noSnap rdSnap [0, 0, 0] [] = (noSnap, 3, -1) := rd_000
    rw [hrd]
    rintro e w3 ⟨B1, B2, B3, d1, d2, d3, u, rfl, _, _, _, hu, hb3⟩
    obtain rfl := errIs_code (c := 3) hu (by decide)
    have hal : Below w2.heap.size w2 (w2.alloc (.cells #[.int .u8 0, .int .u8 0, .int .u8 0] 5)) := (Below.refl _ _).alloc (Nat.le_refl _) _
    have hb3' := hal.trans (hb3.mono hal.size)
    have HB3 := Lib.hid (HB2.out.trans (hb3'.mono HB2.out.size))
    have HROW3 := Lib.hid ((HROW2.out.below hb3' (Nat.le_refl _)).more hb3'.size)
    clear hu hb3 hb3' hal HB2 HROW2
    have hconv : ∀ o : Obj, (convert 23 9 (.slice A1 1 c1)).run Tryd.prog (w3.alloc o) = .ok (.string ⟨#[0]⟩) (w3.alloc o) := fun o => conv_row [0] A1 1 c1 _ (w3.alloc o) rfl (HROW3.out.below ((Below.refl _ w3).alloc (Nat.le_refl _) o) (Nat.le_refl _))
    have q2 := Q2.out
    have q3 := Q3.out
    have q4 := Q4.out
    go_wp2
    go_ret
    exact ⟨rfl, HB3.out.alloc HB3.out.size _⟩
  · exact absurd h0 (by decide)
end Go.Proofs.YtjpaeaedfgiomaaDoor

namespace Go.Proofs.YtjpaeaedfgiomaaDoor
set_option linter.unusedSimpArgs false
open Go.RowKit
set_option linter.unusedVariables false

theorem pod_same (x : PodD) (w : World) : (binOp .neq 82 (.agg (cellsP x).toArray) (.agg (cellsP x).toArray)).run Tryd.prog w = .ok (.bool false) w := by
  have hf : (Tryd.prog.fieldsOf 82).toList = [(⟨"Id", 3, 0, false, "", "", 0⟩ : Field), (⟨"Load", 3, 1, false, "", "", 8⟩ : Field), (⟨"Prio", 3, 2, false, "", "", 16⟩ : Field), (⟨"Req", 72, 3, false, "", "", 24⟩ : Field), (⟨"Node", 3, 7, false, "", "", 56⟩ : Field)] := by kernel_rfl
  have hc : (cellsP x).toArray = #[.int .i64 x.id, .int .i64 x.load, .int .i64 x.prio, .int .u64 x.req.a, .int .u64 x.req.b, .int .u64 x.req.c, .int .u64 x.req.d, .int .i64 x.node] := rfl
  rw [hc, run_neq_struct, run_equalIn_struct w 9999 82 _ _ (by kernel_rfl) (by kernel_rfl), hf]
  clear hc hf
  have s0 : (Op.eqFields 9999 #[.int .i64 x.id, .int .i64 x.load, .int .i64 x.prio, .int .u64 x.req.a, .int .u64 x.req.b, .int .u64 x.req.c, .int .u64 x.req.d, .int .i64 x.node] #[.int .i64 x.id, .int .i64 x.load, .int .i64 x.prio, .int .u64 x.req.a, .int .u64 x.req.b, .int .u64 x.req.c, .int .u64 x.req.d, .int .i64 x.node] ((⟨"Id", 3, 0, false, "", "", 0⟩ : Field) :: [(⟨"Load", 3, 1, false, "", "", 8⟩ : Field), (⟨"Prio", 3, 2, false, "", "", 16⟩ : Field), (⟨"Req", 72, 3, false, "", "", 24⟩ : Field), (⟨"Node", 3, 7, false, "", "", 56⟩ : Field)])).run Tryd.prog w = (Op.eqFields 9999 #[.int .i64 x.id, .int .i64 x.load, .int .i64 x.prio, .int .u64 x.req.a, .int .u64 x.req.b, .int .u64 x.req.c, .int .u64 x.req.d, .int .i64 x.node] #[.int .i64 x.id, .int .i64 x.load, .int .i64 x.prio, .int .u64 x.req.a, .int .u64 x.req.b, .int .u64 x.req.c, .int .u64 x.req.d, .int .i64 x.node] [(⟨"Load", 3, 1, false, "", "", 8⟩ : Field), (⟨"Prio", 3, 2, false, "", "", 16⟩ : Field), (⟨"Req", 72, 3, false, "", "", 24⟩ : Field), (⟨"Node", 3, 7, false, "", "", 56⟩ : Field)]).run Tryd.prog w := eqFields_step (a := (.int .i64 x.id)) (b := (.int .i64 x.id)) (by decide) (part_int #[.int .i64 x.id, .int .i64 x.load, .int .i64 x.prio, .int .u64 x.req.a, .int .u64 x.req.b, .int .u64 x.req.c, .int .u64 x.req.d, .int .i64 x.node] 0 (.int .i64 x.id) rfl w) (part_int #[.int .i64 x.id, .int .i64 x.load, .int .i64 x.prio, .int .u64 x.req.a, .int .u64 x.req.b, .int .u64 x.req.c, .int .u64 x.req.d, .int .i64 x.node] 0 (.int .i64 x.id) rfl w) (int_eqIn 9998 x.id w)
  have s1 : (Op.eqFields 9999 #[.int .i64 x.id, .int .i64 x.load, .int .i64 x.prio, .int .u64 x.req.a, .int .u64 x.req.b, .int .u64 x.req.c, .int .u64 x.req.d, .int .i64 x.node] #[.int .i64 x.id, .int .i64 x.load, .int .i64 x.prio, .int .u64 x.req.a, .int .u64 x.req.b, .int .u64 x.req.c, .int .u64 x.req.d, .int .i64 x.node] ((⟨"Load", 3, 1, false, "", "", 8⟩ : Field) :: [(⟨"Prio", 3, 2, false, "", "", 16⟩ : Field), (⟨"Req", 72, 3, false, "", "", 24⟩ : Field), (⟨"Node", 3, 7, false, "", "", 56⟩ : Field)])).run Tryd.prog w = (Op.eqFields 9999 #[.int .i64 x.id, .int .i64 x.load, .int .i64 x.prio, .int .u64 x.req.a, .int .u64 x.req.b, .int .u64 x.req.c, .int .u64 x.req.d, .int .i64 x.node] #[.int .i64 x.id, .int .i64 x.load, .int .i64 x.prio, .int .u64 x.req.a, .int .u64 x.req.b, .int .u64 x.req.c, .int .u64 x.req.d, .int .i64 x.node] [(⟨"Prio", 3, 2, false, "", "", 16⟩ : Field), (⟨"Req", 72, 3, false, "", "", 24⟩ : Field), (⟨"Node", 3, 7, false, "", "", 56⟩ : Field)]).run Tryd.prog w := eqFields_step (a := (.int .i64 x.load)) (b := (.int .i64 x.load)) (by decide) (part_int #[.int .i64 x.id, .int .i64 x.load, .int .i64 x.prio, .int .u64 x.req.a, .int .u64 x.req.b, .int .u64 x.req.c, .int .u64 x.req.d, .int .i64 x.node] 1 (.int .i64 x.load) rfl w) (part_int #[.int .i64 x.id, .int .i64 x.load, .int .i64 x.prio, .int .u64 x.req.a, .int .u64 x.req.b, .int .u64 x.req.c, .int .u64 x.req.d, .int .i64 x.node] 1 (.int .i64 x.load) rfl w) (int_eqIn 9998 x.load w)
  have s2 : (Op.eqFields 9999 #[.int .i64 x.id, .int .i64 x.load, .int .i64 x.prio, .int .u64 x.req.a, .int .u64 x.req.b, .int .u64 x.req.c, .int .u64 x.req.d, .int .i64 x.node] #[.int .i64 x.id, .int .i64 x.load, .int .i64 x.prio, .int .u64 x.req.a, .int .u64 x.req.b, .int .u64 x.req.c, .int .u64 x.req.d, .int .i64 x.node] ((⟨"Prio", 3, 2, false, "", "", 16⟩ : Field) :: [(⟨"Req", 72, 3, false, "", "", 24⟩ : Field), (⟨"Node", 3, 7, false, "", "", 56⟩ : Field)])).run Tryd.prog w = (Op.eqFields 9999 #[.int .i64 x.id, .int .i64 x.load, .int .i64 x.prio, .int .u64 x.req.a, .int .u64 x.req.b, .int .u64 x.req.c, .int .u64 x.req.d, .int .i64 x.node] #[.int .i64 x.id, .int .i64 x.load, .int .i64 x.prio, .int .u64 x.req.a, .int .u64 x.req.b, .int .u64 x.req.c, .int .u64 x.req.d, .int .i64 x.node] [(⟨"Req", 72, 3, false, "", "", 24⟩ : Field), (⟨"Node", 3, 7, false, "", "", 56⟩ : Field)]).run Tryd.prog w := eqFields_step (a := (.int .i64 x.prio)) (b := (.int .i64 x.prio)) (by decide) (part_int #[.int .i64 x.id, .int .i64 x.load, .int .i64 x.prio, .int .u64 x.req.a, .int .u64 x.req.b, .int .u64 x.req.c, .int .u64 x.req.d, .int .i64 x.node] 2 (.int .i64 x.prio) rfl w) (part_int #[.int .i64 x.id, .int .i64 x.load, .int .i64 x.prio, .int .u64 x.req.a, .int .u64 x.req.b, .int .u64 x.req.c, .int .u64 x.req.d, .int .i64 x.node] 2 (.int .i64 x.prio) rfl w) (int_eqIn 9998 x.prio w)
  have s3 : (Op.eqFields 9999 #[.int .i64 x.id, .int .i64 x.load, .int .i64 x.prio, .int .u64 x.req.a, .int .u64 x.req.b, .int .u64 x.req.c, .int .u64 x.req.d, .int .i64 x.node] #[.int .i64 x.id, .int .i64 x.load, .int .i64 x.prio, .int .u64 x.req.a, .int .u64 x.req.b, .int .u64 x.req.c, .int .u64 x.req.d, .int .i64 x.node] ((⟨"Req", 72, 3, false, "", "", 24⟩ : Field) :: [(⟨"Node", 3, 7, false, "", "", 56⟩ : Field)])).run Tryd.prog w = (Op.eqFields 9999 #[.int .i64 x.id, .int .i64 x.load, .int .i64 x.prio, .int .u64 x.req.a, .int .u64 x.req.b, .int .u64 x.req.c, .int .u64 x.req.d, .int .i64 x.node] #[.int .i64 x.id, .int .i64 x.load, .int .i64 x.prio, .int .u64 x.req.a, .int .u64 x.req.b, .int .u64 x.req.c, .int .u64 x.req.d, .int .i64 x.node] [(⟨"Node", 3, 7, false, "", "", 56⟩ : Field)]).run Tryd.prog w := eqFields_step (a := (.agg #[.int .u64 x.req.a, .int .u64 x.req.b, .int .u64 x.req.c, .int .u64 x.req.d])) (b := (.agg #[.int .u64 x.req.a, .int .u64 x.req.b, .int .u64 x.req.c, .int .u64 x.req.d])) (by decide) (part_vec #[.int .i64 x.id, .int .i64 x.load, .int .i64 x.prio, .int .u64 x.req.a, .int .u64 x.req.b, .int .u64 x.req.c, .int .u64 x.req.d, .int .i64 x.node] 3 (.int .u64 x.req.a) (.int .u64 x.req.b) (.int .u64 x.req.c) (.int .u64 x.req.d) rfl w) (part_vec #[.int .i64 x.id, .int .i64 x.load, .int .i64 x.prio, .int .u64 x.req.a, .int .u64 x.req.b, .int .u64 x.req.c, .int .u64 x.req.d, .int .i64 x.node] 3 (.int .u64 x.req.a) (.int .u64 x.req.b) (.int .u64 x.req.c) (.int .u64 x.req.d) rfl w) (vec_eqIn 9997 x.req.a x.req.b x.req.c x.req.d w)
  have s4 : (Op.eqFields 9999 #[.int .i64 x.id, .int .i64 x.load, .int .i64 x.prio, .int .u64 x.req.a, .int .u64 x.req.b, .int .u64 x.req.c, .int .u64 x.req.d, .int .i64 x.node] #[.int .i64 x.id, .int .i64 x.load, .int .i64 x.prio, .int .u64 x.req.a, .int .u64 x.req.b, .int .u64 x.req.c, .int .u64 x.req.d, .int .i64 x.node] ((⟨"Node", 3, 7, false, "", "", 56⟩ : Field) :: [])).run Tryd.prog w = (Op.eqFields 9999 #[.int .i64 x.id, .int .i64 x.load, .int .i64 x.prio, .int .u64 x.req.a, .int .u64 x.req.b, .int .u64 x.req.c, .int .u64 x.req.d, .int .i64 x.node] #[.int .i64 x.id, .int .i64 x.load, .int .i64 x.prio, .int .u64 x.req.a, .int .u64 x.req.b, .int .u64 x.req.c, .int .u64 x.req.d, .int .i64 x.node] []).run Tryd.prog w := eqFields_step (a := (.int .i64 x.node)) (b := (.int .i64 x.node)) (by decide) (part_int #[.int .i64 x.id, .int .i64 x.load, .int .i64 x.prio, .int .u64 x.req.a, .int .u64 x.req.b, .int .u64 x.req.c, .int .u64 x.req.d, .int .i64 x.node] 7 (.int .i64 x.node) rfl w) (part_int #[.int .i64 x.id, .int .i64 x.load, .int .i64 x.prio, .int .u64 x.req.a, .int .u64 x.req.b, .int .u64 x.req.c, .int .u64 x.req.d, .int .i64 x.node] 7 (.int .i64 x.node) rfl w) (int_eqIn 9998 x.node w)
  rw [s0, s1, s2, s3, s4]
  simp [Op.eqFields]
theorem move_same (x : MoveD) (w : World) : (binOp .neq 49 (.agg (cellsM x).toArray) (.agg (cellsM x).toArray)).run Tryd.prog w = .ok (.bool false) w := by
  have hf : (Tryd.prog.fieldsOf 49).toList = [(⟨"Kind", 3, 0, false, "", "", 0⟩ : Field), (⟨"Pod", 3, 1, false, "", "", 8⟩ : Field), (⟨"Node", 3, 2, false, "", "", 16⟩ : Field), (⟨"Over", 3, 3, false, "", "", 24⟩ : Field)] := by kernel_rfl
  have hc : (cellsM x).toArray = #[.int .i64 x.kind, .int .i64 x.pod, .int .i64 x.node, .int .i64 x.over] := rfl
  rw [hc, run_neq_struct, run_equalIn_struct w 9999 49 _ _ (by kernel_rfl) (by kernel_rfl), hf]
  clear hc hf
  have s0 : (Op.eqFields 9999 #[.int .i64 x.kind, .int .i64 x.pod, .int .i64 x.node, .int .i64 x.over] #[.int .i64 x.kind, .int .i64 x.pod, .int .i64 x.node, .int .i64 x.over] ((⟨"Kind", 3, 0, false, "", "", 0⟩ : Field) :: [(⟨"Pod", 3, 1, false, "", "", 8⟩ : Field), (⟨"Node", 3, 2, false, "", "", 16⟩ : Field), (⟨"Over", 3, 3, false, "", "", 24⟩ : Field)])).run Tryd.prog w = (Op.eqFields 9999 #[.int .i64 x.kind, .int .i64 x.pod, .int .i64 x.node, .int .i64 x.over] #[.int .i64 x.kind, .int .i64 x.pod, .int .i64 x.node, .int .i64 x.over] [(⟨"Pod", 3, 1, false, "", "", 8⟩ : Field), (⟨"Node", 3, 2, false, "", "", 16⟩ : Field), (⟨"Over", 3, 3, false, "", "", 24⟩ : Field)]).run Tryd.prog w := eqFields_step (a := (.int .i64 x.kind)) (b := (.int .i64 x.kind)) (by decide) (part_int #[.int .i64 x.kind, .int .i64 x.pod, .int .i64 x.node, .int .i64 x.over] 0 (.int .i64 x.kind) rfl w) (part_int #[.int .i64 x.kind, .int .i64 x.pod, .int .i64 x.node, .int .i64 x.over] 0 (.int .i64 x.kind) rfl w) (int_eqIn 9998 x.kind w)
  have s1 : (Op.eqFields 9999 #[.int .i64 x.kind, .int .i64 x.pod, .int .i64 x.node, .int .i64 x.over] #[.int .i64 x.kind, .int .i64 x.pod, .int .i64 x.node, .int .i64 x.over] ((⟨"Pod", 3, 1, false, "", "", 8⟩ : Field) :: [(⟨"Node", 3, 2, false, "", "", 16⟩ : Field), (⟨"Over", 3, 3, false, "", "", 24⟩ : Field)])).run Tryd.prog w = (Op.eqFields 9999 #[.int .i64 x.kind, .int .i64 x.pod, .int .i64 x.node, .int .i64 x.over] #[.int .i64 x.kind, .int .i64 x.pod, .int .i64 x.node, .int .i64 x.over] [(⟨"Node", 3, 2, false, "", "", 16⟩ : Field), (⟨"Over", 3, 3, false, "", "", 24⟩ : Field)]).run Tryd.prog w := eqFields_step (a := (.int .i64 x.pod)) (b := (.int .i64 x.pod)) (by decide) (part_int #[.int .i64 x.kind, .int .i64 x.pod, .int .i64 x.node, .int .i64 x.over] 1 (.int .i64 x.pod) rfl w) (part_int #[.int .i64 x.kind, .int .i64 x.pod, .int .i64 x.node, .int .i64 x.over] 1 (.int .i64 x.pod) rfl w) (int_eqIn 9998 x.pod w)
  have s2 : (Op.eqFields 9999 #[.int .i64 x.kind, .int .i64 x.pod, .int .i64 x.node, .int .i64 x.over] #[.int .i64 x.kind, .int .i64 x.pod, .int .i64 x.node, .int .i64 x.over] ((⟨"Node", 3, 2, false, "", "", 16⟩ : Field) :: [(⟨"Over", 3, 3, false, "", "", 24⟩ : Field)])).run Tryd.prog w = (Op.eqFields 9999 #[.int .i64 x.kind, .int .i64 x.pod, .int .i64 x.node, .int .i64 x.over] #[.int .i64 x.kind, .int .i64 x.pod, .int .i64 x.node, .int .i64 x.over] [(⟨"Over", 3, 3, false, "", "", 24⟩ : Field)]).run Tryd.prog w := eqFields_step (a := (.int .i64 x.node)) (b := (.int .i64 x.node)) (by decide) (part_int #[.int .i64 x.kind, .int .i64 x.pod, .int .i64 x.node, .int .i64 x.over] 2 (.int .i64 x.node) rfl w) (part_int #[.int .i64 x.kind, .int .i64 x.pod, .int .i64 x.node, .int .i64 x.over] 2 (.int .i64 x.node) rfl w) (int_eqIn 9998 x.node w)
  have s3 : (Op.eqFields 9999 #[.int .i64 x.kind, .int .i64 x.pod, .int .i64 x.node, .int .i64 x.over] #[.int .i64 x.kind, .int .i64 x.pod, .int .i64 x.node, .int .i64 x.over] ((⟨"Over", 3, 3, false, "", "", 24⟩ : Field) :: [])).run Tryd.prog w = (Op.eqFields 9999 #[.int .i64 x.kind, .int .i64 x.pod, .int .i64 x.node, .int .i64 x.over] #[.int .i64 x.kind, .int .i64 x.pod, .int .i64 x.node, .int .i64 x.over] []).run Tryd.prog w := eqFields_step (a := (.int .i64 x.over)) (b := (.int .i64 x.over)) (by decide) (part_int #[.int .i64 x.kind, .int .i64 x.pod, .int .i64 x.node, .int .i64 x.over] 3 (.int .i64 x.over) rfl w) (part_int #[.int .i64 x.kind, .int .i64 x.pod, .int .i64 x.node, .int .i64 x.over] 3 (.int .i64 x.over) rfl w) (int_eqIn 9998 x.over w)
  rw [s0, s1, s2, s3]
  simp [Op.eqFields]
theorem node_self (x : NodeD) (w : World) : (binOp .neq 74 (aggN x) (aggN x)).run Tryd.prog w = .ok (.bool false) w := node_same x w
theorem load_self (x : LoadD) (w : World) : (binOp .neq 78 (aggL x) (aggL x)).run Tryd.prog w = .ok (.bool false) w := load_same x w
theorem pod_self (x : PodD) (w : World) : (binOp .neq 82 (aggP x) (aggP x)).run Tryd.prog w = .ok (.bool false) w := pod_same x w
theorem move_self (x : MoveD) (w : World) : (binOp .neq 49 (aggM x) (aggM x)).run Tryd.prog w = .ok (.bool false) w := move_same x w
theorem below_drewn {B : Nat} {a w : World} (h : Below B a w) (n : Nat) : Below B a (w.drewN n) := ⟨h.os, h.tape, h.output, h.size, h.block⟩
def StepRel (n : Nat) (W : World) (B : Nat) (i : Value) (wr : World) : Prop := ∃ k : Nat, k ≤ n ∧ i = .int .i64 k ∧ Below B W wr
end Go.Proofs.YtjpaeaedfgiomaaDoor
