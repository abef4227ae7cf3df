/- Joined texts, part 11: HD JE. -/
import Derived.Test.YtjpaeaedfgiomaaDoorZ10
import Derived.Test.YtjpaeaedfgiomaaDoorZ07
import Derived.Deep.RegionHeldLaw

/- dunnageref04.ReadMoves. -/
namespace Go.Proofs.YtjpaeaedfgiomaaDoor
set_option linter.unusedSimpArgs false
open Go.RowKit
set_option linter.unusedVariables false

def RMTo (R : List MoveD × Int × Int) (w : World) (e : Ending) (w' : World) : Prop :=
  ∃ A c, e = .returned (.tuple #[.slice A R.1.length c, .int .i64 R.2.1, .int .i64 R.2.2]) ∧ Out 4 cellsM w' R.1 A c ∧ Below w.heap.size w w'
theorem rmTo_err {R : List MoveD × Int × Int} {a b : Int} {w w' : World} (h : R = ([], a, b)) (hb : Below w.heap.size w w') : RMTo R w (.returned (.tuple #[.slice none 0 0, .int .i64 a, .int .i64 b])) w' := by
  subst h; exact ⟨none, 0, rfl, .nil rfl, hb⟩
def RMRel (l : List Int) (cnt : Nat) (w W : World) (v i : Value) (wr : World) : Prop :=
  ∃ k : Nat, k ≤ cnt ∧ i = .int .i64 k ∧ fine moveK k (l.drop 1) = true ∧ wr.ownsRow W.heap.size 49 4 v k ((parse moveK k (l.drop 1)).flatMap cellsM) ∧ Below W.heap.size W wr
theorem move_chunk {l : List Int} {p k : Nat} (hp : p = 1 + 4 * k) : moveK.get (((l.drop 1).drop (k * moveK.size)).take moveK.size) = ⟨l.getD p 0, l.getD (p + 1) 0, l.getD (p + 2) 0, l.getD (p + 3) 0⟩ ∧
    moveK.ok (((l.drop 1).drop (k * moveK.size)).take moveK.size) = (smallN (l.getD p 0) && (smallN (l.getD (p + 1) 0) && (smallN (l.getD (p + 2) 0) && smallN (l.getD (p + 3) 0)))) := by
  have e : p = 1 + k * moveK.size := by show p = 1 + k * 4; omega
  rw [List.drop_drop]
  simp only [moveK] at e ⊢
  rw [chunk_getD l (show 0 < 4 by decide) e, chunk_getD l (show 1 < 4 by decide) e, chunk_getD l (show 2 < 4 by decide) e, chunk_getD l (show 3 < 4 by decide) e]
  exact ⟨rfl, rfl⟩

set_option maxHeartbeats 6400000 in
set_option maxRecDepth 100000 in
theorem rReadMoves04_any (ns rest : List Int) (A : Option Addr) (n c : Nat) (w : World) (hn : n = (encs ns ++ rest).length) (hl : n ≤ 100000) (hns : Nums ns) (hb : Octs rest) (hm : rest = [] ∨ (rest ≠ [] ∧ Miss rest)) (hr : Row w w.heap.size A (u8s (encs ns ++ rest))) :
    Calls Tryd.prog 9 #[.slice A n c] w (RMTo (rdB [] rdMoves ns rest) w) := by
  have HALL := Lib.hid (rAll_any ns rest A n c w hn hl hns hb hm hr)
  have HNS := Lib.hid hns
  have HLN : Hid (ns.length ≤ 100000) := by
    have := encs_len_ge ns
    show _ ≤ _
    simp at hn; omega
  clear hn hl hns hb hm hr
  go_enter Tryd.func9, Tryd.ntmps9
  go_wp2_with fail
  refine HALL.out.mono ?_
  clear HALL
  rintro e w1 ⟨⟨hre, v, rfl, hown⟩ | ⟨hre, rfl⟩, hb1⟩
  · obtain ⟨A1, c1, rfl, hc1, hcm1, hn1, _⟩ := own_cap hown
    have hlen : (u64s ns).length = ns.length := by simp
    rw [hlen]
    have HROW := Lib.hid (Row.of_own hown).1
    have HRE := Lib.hid hre
    have HB1 := Lib.hid hb1
    have hln := HLN.out
    clear hre hown hn1 hc1 hcm1 hb1 hlen
    obtain ⟨q, hq⟩ : ∃ q, ns.length = q := ⟨_, rfl⟩
    rw [hq] at hln ⊢
    have HQ := Lib.hid hq
    clear hq
    by_cases h1 : q < 1
    · have HE : Hid (rdB [] rdMoves ns rest = ([], 2, -1)) := by have := HQ.out; show _ = _; rw [rdB, if_pos HRE.out, rdMoves, if_pos (by omega)]
      go_wp2
      go_ret3
      exact rmTo_err HE.out HB1.out
    · obtain ⟨b, o, rfl, hbb, hcell⟩ := row_nums HROW.out (by have := HQ.out; omega)
      have e0 : w1.cell? ⟨b, o, none⟩ = some (.int .u64 (ns.getD 0 0)) := by have := hcell 0 (by have := HQ.out; omega); simpa using this
      have HCELL := Lib.hid hcell
      have hx0 := nums_at HNS.out 0
      obtain ⟨hx0a, hx0b⟩ := hx0
      clear hcell
      by_cases h40 : 40 < ns.getD 0 0
      · have HE : Hid (rdB [] rdMoves ns rest = ([], 3, -1)) := by have := HQ.out; show _ = _; rw [rdB, if_pos HRE.out, rdMoves, if_neg (by omega), if_pos h40]
        generalize ns.getD 0 0 = x0 at *
        go_wp2
        go_ret3
        exact rmTo_err HE.out HB1.out
      · obtain ⟨cnt, hcnt⟩ : ∃ cnt : Nat, ns.getD 0 0 = (cnt : Int) := ⟨(ns.getD 0 0).toNat, by omega⟩
        have HCNT := Lib.hid hcnt
        have hcnt' : (ns.getD 0 0).toNat = cnt := by omega
        have HCT := Lib.hid hcnt'
        rw [hcnt] at e0 h40
        clear hx0a hx0b hcnt hcnt'
        have hc40 : cnt ≤ 40 := by omega
        clear h40
        by_cases hq4 : q = 1 + 4 * cnt
        · have hbe : ((q : Int) != 1 + 4 * (cnt : Int)) = false := by rw [bne_eq_false_iff_eq]; omega
          have HF : Hid (rdB [] rdMoves ns rest = if fine moveK cnt (ns.drop 1) = false then ([], 2, -1) else (parse moveK cnt (ns.drop 1), 0, -1)) := by
            have := HQ.out; have h2 := HCNT.out
            show _ = _
            rw [rdB, if_pos HRE.out, rdMoves, if_neg (by omega), if_neg (by omega), HCT.out, if_neg (by omega)]
          have HQ4 := Lib.hid hq4
          clear hq4
          go_wp2
          go_loopw [7, 8] (RMRel ns cnt w w1) (fun _ i _ => cnt - (intOf i).toNat)
          case atStart => exact ⟨0, by omega, rfl, rfl, World.ownsRow_nil _ _ _ _, Below.refl _ _⟩
          case round =>
            obtain ⟨k, hk, rfl, hfi, hown, hbr⟩ := hrel
            have HFI := Lib.hid hfi
            have HOW := Lib.hid hown
            have HBR := Lib.hid hbr
            have hzr := hbr.size
            have f0 : wr.cell? ⟨b, o, none⟩ = some (.int .u64 (cnt : Int)) := (hbr.cell (p := ⟨b, o, none⟩) hbb).trans e0
            clear hfi hown hbr
            by_cases hlt : k < cnt
            · obtain ⟨p, hp⟩ : ∃ p : Nat, p = 1 + 4 * k := ⟨_, rfl⟩
              have hpi : 1 + 4 * (k : Int) = (p : Int) := by omega
              have hpq : p + 3 < q := by have := HQ4.out; omega
              have c0 : wr.cell? ⟨b, o + p, none⟩ = some (.int .u64 (ns.getD p 0)) := (HBR.out.cell (p := ⟨b, o + p, none⟩) hbb).trans (HCELL.out p (by have := HQ.out; omega))
              have c1 : wr.cell? ⟨b, o + (p + 1), none⟩ = some (.int .u64 (ns.getD (p + 1) 0)) := (HBR.out.cell (p := ⟨b, o + (p + 1), none⟩) hbb).trans (HCELL.out (p + 1) (by have := HQ.out; omega))
              have c2 : wr.cell? ⟨b, o + (p + 2), none⟩ = some (.int .u64 (ns.getD (p + 2) 0)) := (HBR.out.cell (p := ⟨b, o + (p + 2), none⟩) hbb).trans (HCELL.out (p + 2) (by have := HQ.out; omega))
              have c3 : wr.cell? ⟨b, o + (p + 3), none⟩ = some (.int .u64 (ns.getD (p + 3) 0)) := (HBR.out.cell (p := ⟨b, o + (p + 3), none⟩) hbb).trans (HCELL.out (p + 3) (by have := HQ.out; omega))
              have HCH := Lib.hid (move_chunk (l := ns) hp)
              have m0 := Lib.hid (nums_at HNS.out p)
              have m1 := Lib.hid (nums_at HNS.out (p + 1))
              have m2 := Lib.hid (nums_at HNS.out (p + 2))
              have m3 := Lib.hid (nums_at HNS.out (p + 3))
              generalize ns.getD p 0 = y0 at *
              generalize ns.getD (p + 1) 0 = y1 at *
              generalize ns.getD (p + 2) 0 = y2 at *
              generalize ns.getD (p + 3) 0 = y3 at *
              have hp0 : (0 : Int) ≤ (p : Int) := by omega
              have hp1 : (p : Int) + 1 < (q : Int) := by omega
              have hp2 : (p : Int) + 2 < (q : Int) := by omega
              have hp3 : (p : Int) + 3 < (q : Int) := by omega
              have hp4 : (p : Int) < (q : Int) := by omega
              have t1 : ((p : Int) + 1).toNat = p + 1 := by omega
              have t2 : ((p : Int) + 2).toNat = p + 2 := by omega
              have t3 : ((p : Int) + 3).toNat = p + 3 := by omega
              have r1 : (0 : Int) ≤ (p : Int) + 1 := by omega
              have r2 : (0 : Int) ≤ (p : Int) + 2 := by omega
              have r3 : (0 : Int) ≤ (p : Int) + 3 := by omega
              have hbl : b < wr.heap.size := by omega
              clear hp
              go_wp2_with fail
              refine (number04_any y0 _ m0.out.1 m0.out.2).mono ?_
              rintro e w2 ⟨z0, k0, rfl, hk0, hz0, rfl⟩
              have HK0 := Lib.hid hk0
              have HZ0 := Lib.hid hz0
              clear hk0 hz0
              go_wp2_with fail
              refine (number04_any y1 _ m1.out.1 m1.out.2).mono ?_
              rintro e w2 ⟨z1, k1, rfl, hk1, hz1, rfl⟩
              have HK1 := Lib.hid hk1
              have HZ1 := Lib.hid hz1
              clear hk1 hz1
              go_wp2_with fail
              refine (number04_any y2 _ m2.out.1 m2.out.2).mono ?_
              rintro e w2 ⟨z2, k2, rfl, hk2, hz2, rfl⟩
              have HK2 := Lib.hid hk2
              have HZ2 := Lib.hid hz2
              clear hk2 hz2
              go_wp2_with fail
              refine (number04_any y3 _ m3.out.1 m3.out.2).mono ?_
              rintro e w2 ⟨z3, k3, rfl, hk3, hz3, rfl⟩
              have HK3 := Lib.hid hk3
              have HZ3 := Lib.hid hz3
              clear hk3 hz3
              have NO : Hid ((k0 && (k1 && (k2 && k3))) = false → rdB [] rdMoves ns rest = ([], 2, -1)) := fun h => by
                have h2 := HCH.out.2
                rw [← HK0.out, ← HK1.out, ← HK2.out, ← HK3.out, h] at h2
                rw [HF.out, if_pos (fine_false hlt h2)]
              cases k0 with
              | false =>
                have HE := Lib.hid (NO.out rfl)
                go_wp2
                go_ret3
                exact rmTo_err HE.out (HB1.out.trans (HBR.out.mono HB1.out.size))
              | true =>
                cases k1 with
                | false =>
                  have HE := Lib.hid (NO.out rfl)
                  go_wp2
                  go_ret3
                  exact rmTo_err HE.out (HB1.out.trans (HBR.out.mono HB1.out.size))
                | true =>
                  cases k2 with
                  | false =>
                    have HE := Lib.hid (NO.out rfl)
                    go_wp2
                    go_ret3
                    exact rmTo_err HE.out (HB1.out.trans (HBR.out.mono HB1.out.size))
                  | true =>
                    cases k3 with
                    | false =>
                      have HE := Lib.hid (NO.out rfl)
                      go_wp2
                      go_ret3
                      exact rmTo_err HE.out (HB1.out.trans (HBR.out.mono HB1.out.size))
                    | true =>
                      obtain rfl := HZ0.out rfl
                      obtain rfl := HZ1.out rfl
                      obtain rfl := HZ2.out rfl
                      obtain rfl := HZ3.out rfl
                      have HFN : Hid (fine moveK (k + 1) (ns.drop 1) = true) := by
                        have h2 := HCH.out.2
                        rw [← HK0.out, ← HK1.out, ← HK2.out, ← HK3.out] at h2
                        show _ = _
                        rw [fine_snoc, HFI.out, h2]; rfl
                      have HPN : Hid (parse moveK (k + 1) (ns.drop 1) = parse moveK k (ns.drop 1) ++ [⟨z0, z1, z2, z3⟩]) := by
                        show _ = _
                        rw [parse_snoc, HCH.out.1]
                      go_wp2_with (at_builtin; refine wpList_pushN 22 49 (.agg #[.int .i64 0, .int .i64 0, .int .i64 0, .int .i64 0]) 4 32 Tryd.underSlM Tryd.info49 rfl (by decide) (by decide) rfl (.tmp 102) (.tmp 108) rfl w1.heap.size _ k ((parse moveK k (ns.drop 1)).flatMap cellsM) (cellsM ⟨z0, z1, z2, z3⟩) rfl (one_cellsM ⟨z0, z1, z2, z3⟩) HOW.out hzr (by omega) rfl rfl ?_; intro v' w2 hown2 hb2 hB2)
                      go_roundw
                      case rel => exact ⟨k + 1, by omega, by go_num, HFN.out, by rw [HPN.out, List.flatMap_append]; simpa using hown2, HBR.out.trans hb2⟩
                      case measure => simp [intOf]; omega
            · obtain rfl : k = cnt := by omega
              have HE := Lib.hid (HF.out.trans (if_neg (by rw [HFI.out]; decide)))
              obtain ⟨A3, c3, rfl, p1, p2, p3, p4⟩ := recs_of_own (cells := cellsM) (size := 4) (fun _ => rfl) (parse_length moveK k (ns.drop 1)).symm HOW.out
              have HP1 := Lib.hid p1
              have HP2 := Lib.hid p2
              have HP3 := Lib.hid p3
              have HP4 := Lib.hid p4
              clear p1 p2 p3 p4
              go_wp2
              go_ret3
              unfold RMTo
              rw [HE.out]
              have hpl := parse_length moveK k (ns.drop 1)
              exact ⟨A3, c3, by rw [hpl]; first | done | rfl, ⟨by rw [hpl]; exact HP1.out, HP2.out, HP3.out, HP4.out⟩, HB1.out.trans (HBR.out.mono HB1.out.size)⟩
        · have hbe : ((q : Int) != 1 + 4 * (cnt : Int)) = true := by rw [bne_iff_ne]; omega
          have HE : Hid (rdB [] rdMoves ns rest = ([], 2, -1)) := by
            have := HQ.out; have h2 := HCNT.out
            show _ = _
            rw [rdB, if_pos HRE.out, rdMoves, if_neg (by omega), if_neg (by omega), HCT.out, if_pos (by omega)]
          go_wp2
          go_ret3
          exact rmTo_err HE.out HB1.out
  · have HE := Lib.hid (show rdB ([] : List MoveD) rdMoves ns rest = ([], 2, (((encs ns).length : Nat) : Int)) from if_neg hre)
    clear hre
    have hbb := Lib.hid hb1
    clear hb1
    go_wp2
    go_ret3
    exact rmTo_err HE.out hbb.out
end Go.Proofs.YtjpaeaedfgiomaaDoor

namespace Go.Proofs.YtjpaeaedfgiomaaDoor
set_option linter.unusedSimpArgs false
open Go.RowKit
set_option linter.unusedVariables false

theorem rdB_moves_sound {ns rest : List Int} (h : Nums ns) : (rdB [] rdMoves ns rest).1.length ≤ 40 := by
  rcases rdB_cases [] rdMoves ns rest with e | e
  · rw [e]; decide
  · rw [e]; exact rdMoves_sound h
theorem Below.drewN' {N : Nat} {w v : World} : ∀ {n : Nat}, Below N w v → Below N w (v.drewN n) := fun h => ⟨h.os, h.tape, h.output, h.size, h.block⟩
set_option maxHeartbeats 3200000 in
theorem codecMoves_long (A B : Option Addr) (n c k d : Nat) (w : World) (hm : n ≤ maxLen) (hk : k ≤ maxLen) (hlong : 100 < n ∨ 5000 < k) :
    Calls Tryd.prog 3 #[.slice A n c, .slice B k d] w fun e w' => e = .returned (.bool true) ∧ Below w.heap.size w w' := by
  unfold maxLen at hm hk
  go_enter Tryd.func3, Tryd.ntmps3
  go_wp2_with fail
  refine (up4_any _).mono ?_
  rintro e w1 ⟨rfl, hb1⟩
  by_cases h : 100 < n
  · clear hlong
    go_wp2
    go_ret
    exact ⟨rfl, hb1⟩
  · have h2 : 5000 < k := by omega
    clear hlong
    go_wp2
    go_ret
    exact ⟨rfl, hb1⟩

set_option maxHeartbeats 12800000 in
set_option maxRecDepth 100000 in
theorem codecMoves_in (m : List MoveD) (ns rest : List Int) (A B : Option Addr) (n c k d : Nat) (w : World) (hg : Laid w) (hn : n = m.length) (hl : n ≤ 100) (hr : Recs 4 cellsM w w.heap.size A m)
    (hk : k = (encs ns ++ rest).length) (hkl : k ≤ 5000) (hc : k ≤ d) (hc' : d ≤ maxLen) (hns : Nums ns) (hb : Octs rest) (hm : rest = [] ∨ (rest ≠ [] ∧ Miss rest)) (hrb : Row w w.heap.size B (u8s (encs ns ++ rest))) :
    Calls Tryd.prog 3 #[.slice A n c, .slice B k d] w fun e w' => e = .returned (.bool true) ∧ Below w.heap.size w w' := by
  have HP := Lib.hid (fun (v : World) (q : Below w.heap.size w v) => moves_any m A n c v hn (by omega) ((hr.below q (Nat.le_refl _)).more q.size))
  have HQ := Lib.hid (fun (v : World) (q : Below w.heap.size w v) => rMoves04_any m A n c v hn (by omega) ((hr.below q (Nat.le_refl _)).more q.size))
  have HRP := Lib.hid (fun (v : World) (q : Below w.heap.size w v) => readMoves_any ns rest B k d v hk (by omega) hc hc' hns hb hm ((hrb.below q (Nat.le_refl _)).more q.size))
  have HRQ := Lib.hid (fun (v : World) (q : Below w.heap.size w v) => rReadMoves04_any ns rest B k d v hk (by omega) hns hb hm ((hrb.below q (Nat.le_refl _)).more q.size))
  have HG := Lib.hid hg
  have HLE := Lib.hid (rdB_moves_sound (rest := rest) hns)
  have hmaxk : (k : Int) ≤ 5000 := by omega
  clear hn hr hk hc hc' hns hb hm hrb hg
  go_enter Tryd.func3, Tryd.ntmps3
  go_wp2_with fail
  refine (up4_any _).mono ?_
  rintro e w1 ⟨rfl, hb1⟩
  have K1 := Lib.hid hb1
  clear hb1
  go_wp2_with fail
  refine (HP.out w1 K1.out).mono ?_
  rintro e w2 hw2
  cases hso : movesOk m with
  | true =>
    obtain ⟨C, e1, rfl, he1, he2, hrow, hb2⟩ := hw2.row hso
    have K2 := Lib.hid (K1.out.trans (hb2.mono K1.out.size))
    have HROW := Lib.hid hrow
    have HSO := Lib.hid hso
    clear hw2 hb2 hrow he1 he2
    go_wp2_with fail
    refine (HQ.out w2 K2.out).mono ?_
    rintro e w3 ⟨⟨_, v, rfl, ho⟩ | ⟨h0, _⟩, hb3⟩
    · obtain ⟨D, g1, rfl, _, _, hdn⟩ := own_form ho
      have hlen : (u64s (moveNums m)).length = (moveNums m).length := by simp
      rw [hlen]
      have HROWL := Lib.hid (Row.of_own ho).1
      have K3 := Lib.hid (K2.out.trans (hb3.mono K2.out.size))
      have HROW3 := Lib.hid ((HROW.out.below hb3 (Nat.le_refl _)).more hb3.size)
      have hml : (moveNums m).length ≤ 5000 := by
        have h2 : (m.flatMap moveK.nums).length = m.length * 4 := flat_length moveK m
        have h3 : (moveNums m).length = 1 + m.length * 4 := by show (_ :: _).length = _; rw [List.length_cons, h2]; omega
        have := HSO.out
        simp only [movesOk, Bool.and_eq_true, decide_eq_true_eq] at this
        omega
      have HPU := Lib.hid (fun (v : World) (q : Below w3.heap.size w3 v) => rPut_any (moveNums m) D g1 v hml (move_nums HSO.out) ((HROWL.out.below q (Nat.le_refl _)).more q.size))
      have HCP := Lib.hid (fun (v : World) (q : Below w3.heap.size w3 v) => conv_row (encs (moveNums m)) C (encs (moveNums m)).length e1 _ v rfl (HROW3.out.below q (Nat.le_refl _)))
      obtain ⟨q1, hq1⟩ : ∃ q, (moveNums m).length = q := ⟨_, rfl⟩
      obtain ⟨q2, hq2⟩ : ∃ q, (encs (moveNums m)).length = q := ⟨_, rfl⟩
      have HCL := Lib.hid (fun (v : World) (X : Option Addr) (x : Nat) (R : Nat) (h : Row v R X (u8s (encs (moveNums m)))) => conv_row (encs (moveNums m)) X q2 x R v hq2.symm h)
      rw [hq1] at HPU ⊢
      rw [hq2] at HCP ⊢
      have HQ2 := Lib.hid hq2
      generalize strOfNums (encs (moveNums m)) = z at *
      have hse := str_neq z
      have hc0 := HCP.out w3 (Below.refl _ _)
      have hc1 := HCP.out w3.drew (Below.drew (Below.refl _ _))
      clear ho hb3 hlen hml hdn hq1 hq2 HROW HROWL HROW3 hso
      have hund : undef = Value.tuple #[] := rfl
      go_wp2
      refine wp_region_noPanic ?_
      (first
        | (go_region_held_law (fun w' => (∀ b o, b < w3.heap.size → w'.cell? ⟨b, o, none⟩ = w3.cell? ⟨b, o, none⟩) ∧ Below w3.heap.size w3 w')
                    (first | (with_reducible assumption) | (show Keeps w3 _; with_reducible (repeat (first | exact Keeps.refl _ | refine Keeps.drew ?_ | refine Keeps.alloc ?_ _ | refine Keeps.step ?_ (by assumption)))))
                    (first
                      | (go_at_call 7; have hkp : Keeps w3 _ := (by assumption); refine (HPU.out _ hkp.2).mono ?_; rintro e w4 hto; obtain ⟨E, x1, rfl, ho4, hb4⟩ := hto.q HQ2.out; have hkb := hkp.2.trans (hb4.mono hkp.2.size); have hcp := HCP.out w4 hkb; have hcl := HCL.out w4 E x1 _ (Row.of_own ho4).1; have HB4 := Lib.hid hkb; clear hto ho4 hkp)))
        | fail "held")
      all_goals
        refine NoPanic.normal ?_
        have K4 := Lib.hid (K3.out.trans (HB4.out.mono K3.out.size))
        clear hc0 hc1 hcp hcl hb4 HB4
        go_wp2_with fail
        refine (HRP.out _ K4.out).mono ?_
        rintro e x5 ⟨F, f1, u, rfl, _, _, _, o1, hu, hb5⟩
        have K5 := Lib.hid (K4.out.trans (hb5.mono K4.out.size))
        have HU := Lib.hid hu
        have HO1 := Lib.hid o1
        clear hu hb5 o1
        go_wp2_with fail
        refine (HRQ.out _ K5.out).mono ?_
        rintro e x6 ⟨H, j1, rfl, o2, hb6⟩
        have K6 := Lib.hid (K5.out.trans (hb6.mono K5.out.size))
        have HU6 := Lib.hid (HU.out.below hb6)
        have HO1b := Lib.hid ((HO1.out.below hb6 (Nat.le_refl _)).more hb6.size)
        have HO2 := Lib.hid o2.recs
        have HG6 := Lib.hid (HG.out.below K6.out (Nat.le_refl _))
        clear hb6 o2 HU HO1
        generalize rdB [] rdMoves ns rest = R at *
        go_wp2_with fail
        refine (told_any R.2 _ u _ HG6.out HU6.out).mono ?_
        rintro e x7 ⟨rfl, hb7⟩
        have K7 := Lib.hid (K6.out.trans (hb7.mono K6.out.size))
        have HSA := Lib.hid (sameMoves_any R.1 F H R.1.length f1 j1 x7 rfl (by have := HLE.out; omega) ((HO1b.out.below hb7 (Nat.le_refl _)).more hb7.size) ((HO2.out.below hb7 (Nat.le_refl _)).more hb7.size))
        clear hb7
        go_wp2_with fail
        refine HSA.out.mono ?_
        rintro e x8 ⟨rfl, hb8⟩
        go_wp2
        go_ret
        exact ⟨rfl, K7.out.trans (hb8.mono K7.out.size)⟩
    · rw [hso] at h0; cases h0
  | false =>
    obtain ⟨rfl, hb2⟩ := hw2.no hso
    have K2 := Lib.hid (K1.out.trans (hb2.mono K1.out.size))
    have HSO := Lib.hid hso
    clear hw2 hb2
    go_wp2_with fail
    refine (HQ.out w2 K2.out).mono ?_
    rintro e w3 ⟨⟨h0, _⟩ | ⟨_, rfl⟩, hb3⟩
    · rw [hso] at h0; cases h0
    · have K4 := Lib.hid (K2.out.trans (hb3.mono K2.out.size))
      have hq : ∀ w : World, (binOp .neq 26 (.iface 33 (.int .i64 1)) (.iface 33 (.int .i64 1))).run Tryd.prog w = .ok (.bool false) w := fun _ => by kernel_rfl
      clear hb3 hso
      go_wp2
      go_quiet (fail)
      all_goals
        clear hq
        have K4 := Lib.hid (fun nq => Below.drewN' (n := nq) K4.out)
        go_wp2_with fail
        refine (HRP.out _ (K4.out _)).mono ?_
        rintro e x5 ⟨F, f1, u, rfl, _, _, _, o1, hu, hb5⟩
        have K5 := Lib.hid ((K4.out _).trans (hb5.mono (K4.out _).size))
        have HU := Lib.hid hu
        have HO1 := Lib.hid o1
        clear hu hb5 o1
        go_wp2_with fail
        refine (HRQ.out _ K5.out).mono ?_
        rintro e x6 ⟨H, j1, rfl, o2, hb6⟩
        have K6 := Lib.hid (K5.out.trans (hb6.mono K5.out.size))
        have HU6 := Lib.hid (HU.out.below hb6)
        have HO1b := Lib.hid ((HO1.out.below hb6 (Nat.le_refl _)).more hb6.size)
        have HO2 := Lib.hid o2.recs
        have HG6 := Lib.hid (HG.out.below K6.out (Nat.le_refl _))
        clear hb6 o2 HU HO1
        generalize rdB [] rdMoves ns rest = R at *
        go_wp2_with fail
        refine (told_any R.2 _ u _ HG6.out HU6.out).mono ?_
        rintro e x7 ⟨rfl, hb7⟩
        have K7 := Lib.hid (K6.out.trans (hb7.mono K6.out.size))
        have HSA := Lib.hid (sameMoves_any R.1 F H R.1.length f1 j1 x7 rfl (by have := HLE.out; omega) ((HO1b.out.below hb7 (Nat.le_refl _)).more hb7.size) ((HO2.out.below hb7 (Nat.le_refl _)).more hb7.size))
        clear hb7
        go_wp2_with fail
        refine HSA.out.mono ?_
        rintro e x8 ⟨rfl, hb8⟩
        go_wp2
        go_ret
        exact ⟨rfl, K7.out.trans (hb8.mono K7.out.size)⟩
end Go.Proofs.YtjpaeaedfgiomaaDoor
