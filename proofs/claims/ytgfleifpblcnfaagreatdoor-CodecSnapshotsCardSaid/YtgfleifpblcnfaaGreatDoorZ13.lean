/- Joined texts, part 13: HE JF. -/
import Derived.Test.YtgfleifpblcnfaaGreatDoorZ12
import Derived.Test.YtgfleifpblcnfaaGreatDoorZ09
import Derived.Deep.CutRange
import Derived.Deep.DeepCutAuto
import Derived.Test.YtgfleifpblcnfaaGreatDoorZ11
import Derived.Deep.RegionHeldLaw

/- dunnageref04.ReadSpec. -/
namespace Go.Proofs.YtgfleifpblcnfaaGreatDoor
set_option linter.unusedSimpArgs false
open Go.RowKit
set_option linter.unusedVariables false

def RSTo (R : SpecD × Int × Int) (w : World) (e : Ending) (w' : World) : Prop :=
  ∃ A c, e = .returned (.tuple #[specV A R.1.wants.length c R.1, .int .i64 R.2.1, .int .i64 R.2.2]) ∧ Out 6 cellsW w' R.1.wants A c ∧ Below w.heap.size w w'
theorem rsTo_err {R : SpecD × Int × Int} {a b : Int} {w w' : World} (h : R = (noSpec, a, b)) (hb : Below w.heap.size w w') : RSTo R w (.returned (.tuple #[.agg #[.slice none 0 0, .int .i64 0, .int .i64 0], .int .i64 a, .int .i64 b])) w' := by
  subst h; exact ⟨none, 0, rfl, .nil rfl, hb⟩
/-- A box of the call's own holds these cells; everything older is as it was. -/
theorem Box.far {w w' : World} {b : Nat} {row : Option Nat} {cs : List Value} (h : Box w b cs) (hf : ∀ b o', some b ≠ row → b < w.heap.size → w'.cell? ⟨b, o', none⟩ = w.cell? ⟨b, o', none⟩ ∧ w'.frozen? ⟨b, o', none⟩ = w.frozen? ⟨b, o', none⟩) (hne : some b ≠ row) : Box w' b cs := fun j hj => by
  have hl := World.block_lt_of_cell? w _ (h j hj).1
  have h2 := hf b j hne hl
  exact ⟨h2.1.trans (h j hj).1, h2.2.trans (h j hj).2⟩
theorem Box.drew {w : World} {b : Nat} {cs : List Value} (h : Box w b cs) : Box w.drew b cs := h
theorem SameBox.set {W v : World} {b : Nat} (h : SameBox W b v) {p : Addr} (hp : p.block ≠ b) (u : Value) : SameBox W b (v.setCell p u) :=
  ⟨fun o => (World.cell?_setCell_other _ _ _ _ (by intro e; exact hp (by rw [e]))).trans (h.1 o), by simpa using h.2⟩
def RSRel (l : List Int) (cnt : Nat) (f0 : Bool) (p s : Int) (w1 : World) (v i : Value) (wr : World) : Prop :=
  ∃ (k : Nat) (xs : List WantD) (A : Option Addr) (c : Nat) (f : Bool), k ≤ cnt ∧ i = .int .i64 k ∧ v = .bool f ∧ f = (f0 && fine wantK k (l.drop 3)) ∧ (fine wantK k (l.drop 3) = true → xs = parse wantK k (l.drop 3)) ∧ xs.length = k ∧
    Box wr w1.heap.size [.slice A k c, .int .i64 p, .int .i64 s] ∧ wr.ownsRow (w1.heap.size + 1) 105 6 (.slice A k c) k (xs.flatMap cellsW) ∧ Below w1.heap.size w1 wr
theorem want_chunk {l : List Int} {p k : Nat} (hp : p = 3 + 6 * k) : wantK.get (((l.drop 3).drop (k * wantK.size)).take wantK.size) = ⟨l.getD p 0, ⟨l.getD (p + 1) 0, l.getD (p + 2) 0, l.getD (p + 3) 0, l.getD (p + 4) 0⟩, l.getD (p + 5) 0 == 1⟩ ∧
    wantK.ok (((l.drop 3).drop (k * wantK.size)).take wantK.size) = (smallN (l.getD p 0) && bitN (l.getD (p + 5) 0)) := by
  have e : p = 3 + k * wantK.size := by show p = 3 + k * 6; omega
  rw [List.drop_drop]
  simp only [wantK] at e ⊢
  rw [chunk_getD l (show 0 < 6 by decide) e, chunk_getD l (show 1 < 6 by decide) e, chunk_getD l (show 2 < 6 by decide) e, chunk_getD l (show 3 < 6 by decide) e, chunk_getD l (show 4 < 6 by decide) e, chunk_getD l (show 5 < 6 by decide) e]
  exact ⟨rfl, rfl⟩
theorem le_bit {n : Int} (h : 0 ≤ n) : decide (n ≤ 1) = bitN n := by
  rw [Bool.eq_iff_iff]; simp [bitN]; omega

set_option maxHeartbeats 6400000 in
set_option maxRecDepth 100000 in
theorem rReadSpec04_any (ns rest : List Int) (A : Option Addr) (n c : Nat) (w : World) (hn : n = (encs ns ++ rest).length) (hl : n ≤ 100000) (hns : Nums ns) (hb : Octs rest) (hm : rest = [] ∨ (rest ≠ [] ∧ Miss rest)) (hr : Row w w.heap.size A (u8s (encs ns ++ rest))) :
    Calls Tryz.prog 18 #[.slice A n c] w (RSTo (rdB noSpec rdSpec ns rest) w) := by
  have b0 : Below w.heap.size w (w.alloc (.cells #[.slice none 0 0, .int .i64 0, .int .i64 0] 48)) := (Below.refl _ _).alloc (Nat.le_refl _) _
  have HX := Lib.hid (Box.new w [.slice none 0 0, .int .i64 0, .int .i64 0] 48)
  have HALL := Lib.hid (rAll_any ns rest A n c (w.alloc (.cells #[.slice none 0 0, .int .i64 0, .int .i64 0] 48)) hn hl hns hb hm ((hr.below b0 (Nat.le_refl _)).more b0.size))
  have HB0 := Lib.hid b0
  have HNS := Lib.hid hns
  have HLN : Hid (ns.length ≤ 100000) := by
    have := encs_len_ge ns
    show _ ≤ _
    simp at hn; omega
  clear hn hl hns hb hm hr b0
  go_enter Tryz.func18, Tryz.ntmps18
  go_wp2_with fail
  refine HALL.out.mono ?_
  clear HALL
  rintro e w1 ⟨h, hb1⟩
  have hz0 : w.heap.size + 1 ≤ w1.heap.size := by have := hb1.size; simpa using this
  have HX1 : Hid (Box w1 w.heap.size [.slice none 0 0, .int .i64 0, .int .i64 0]) := HX.out.turn (Turn.of_below (r := w1.heap.size) hb1) (by omega)
  have HB1 := Lib.hid (HB0.out.trans (hb1.mono HB0.out.size))
  have HBEE : Hid (∀ (v : World) (x0 x1 x2 : Value), Below w.heap.size w v → Below w.heap.size w (((v.setCell ⟨w.heap.size, 0, none⟩ x0).setCell ⟨w.heap.size, 1, none⟩ x1).setCell ⟨w.heap.size, 2, none⟩ x2)) := fun v x0 x1 x2 h => ((h.setCell (p := ⟨w.heap.size, 0, none⟩) (Nat.le_refl _) x0).setCell (p := ⟨w.heap.size, 1, none⟩) (Nat.le_refl _) x1).setCell (p := ⟨w.heap.size, 2, none⟩) (Nat.le_refl _) x2
  have hsz : (w.alloc (.cells #[.slice none 0 0, .int .i64 0, .int .i64 0] 48)).heap.size = w.heap.size + 1 := by simp
  have hwl : w.heap.size < w1.heap.size := by omega
  clear hb1 HX
  obtain ⟨g0, k0⟩ := HX1.out.at 0 (.slice none 0 0) rfl
  obtain ⟨g1, k1⟩ := HX1.out.at 1 (.int .i64 0) rfl
  obtain ⟨g2, k2⟩ := HX1.out.at 2 (.int .i64 0) rfl
  rcases h with ⟨hre, v, rfl, hown⟩ | ⟨hre, rfl⟩
  · rw [hsz] at hown
    obtain ⟨A1, c1, rfl, hc1, hcm1, hn1, _⟩ := own_cap hown
    have hlen : (u64s ns).length = ns.length := by simp
    rw [hlen]
    have HOWN := Lib.hid hown
    have HRE := Lib.hid hre
    have hln := HLN.out
    clear hre hown hn1 hc1 hcm1 hlen hsz
    obtain ⟨q, hq⟩ : ∃ q, ns.length = q := ⟨_, rfl⟩
    rw [hq] at hln ⊢
    have HQ := Lib.hid hq
    clear hq
    by_cases h1 : q < 3
    · have HE : Hid (rdB noSpec rdSpec ns rest = (noSpec, 2, -1)) := by have := HQ.out; show _ = _; rw [rdB, if_pos HRE.out, rdSpec, if_pos (by omega)]
      go_wp2
      refine bodyPost_ret (v := .tuple #[.agg #[.slice none 0 0, .int .i64 0, .int .i64 0], .int .i64 2, .int .i64 (-1)]) ?_ rfl ?_
      · simp [results, Tryz.results18, go_sem, *]
      · exact rsTo_err HE.out (HBEE.out _ _ _ _ HB1.out)
    · obtain ⟨b, o, rfl, hbb, hcell⟩ := row_nums (Row.of_own HOWN.out).1 (by have := HQ.out; omega)
      have HBW : Hid (b ≠ w.heap.size) := by
        have := (HOWN.out.lt b rfl).1
        show _ ≠ _; omega
      clear HOWN
      have e0 : w1.cell? ⟨b, o, none⟩ = some (.int .u64 (ns.getD 0 0)) := by have := hcell 0 (by have := HQ.out; omega); simpa using this
      have e1 : w1.cell? ⟨b, o + 1, none⟩ = some (.int .u64 (ns.getD 1 0)) := hcell 1 (by have := HQ.out; omega)
      have e2 : w1.cell? ⟨b, o + 2, none⟩ = some (.int .u64 (ns.getD 2 0)) := hcell 2 (by have := HQ.out; omega)
      have HCELL := Lib.hid hcell
      have hx0 := nums_at HNS.out 0
      obtain ⟨hx0a, hx0b⟩ := hx0
      clear hcell
      by_cases h12 : 12 < ns.getD 0 0
      · have HE : Hid (rdB noSpec rdSpec ns rest = (noSpec, 3, -1)) := by have := HQ.out; show _ = _; rw [rdB, if_pos HRE.out, rdSpec, if_neg (by omega), if_pos h12]
        clear e1 e2
        generalize ns.getD 0 0 = x0 at *
        go_wp2
        refine bodyPost_ret (v := .tuple #[.agg #[.slice none 0 0, .int .i64 0, .int .i64 0], .int .i64 3, .int .i64 (-1)]) ?_ rfl ?_
        · simp [results, Tryz.results18, go_sem, *]
        · exact rsTo_err HE.out (HBEE.out _ _ _ _ HB1.out)
      · obtain ⟨cnt, hcnt⟩ : ∃ cnt : Nat, ns.getD 0 0 = (cnt : Int) := ⟨(ns.getD 0 0).toNat, by omega⟩
        have HCNT := Lib.hid hcnt
        have hcnt' : (ns.getD 0 0).toNat = cnt := by omega
        have HCT := Lib.hid hcnt'
        rw [hcnt] at e0 h12
        clear hx0a hx0b hcnt hcnt'
        have hc12 : cnt ≤ 12 := by omega
        clear h12
        by_cases hq6 : q = 3 + 6 * cnt
        · have hbe : ((q : Int) != 3 + 6 * (cnt : Int)) = false := by rw [bne_eq_false_iff_eq]; omega
          have HF : Hid (rdB noSpec rdSpec ns rest = if (smallN (ns.getD 1 0) && (smallN (ns.getD 2 0) && fine wantK cnt (ns.drop 3))) = false then (noSpec, 2, -1) else (⟨parse wantK cnt (ns.drop 3), ns.getD 1 0, ns.getD 2 0⟩, 0, -1)) := by
            have := HQ.out; have h2 := HCNT.out
            show _ = _
            rw [rdB, if_pos HRE.out, rdSpec, if_neg (by omega), if_neg (by omega), HCT.out, if_neg (by omega)]
          have HQ6 := Lib.hid hq6
          have m1 := Lib.hid (nums_at HNS.out 1)
          have m2 := Lib.hid (nums_at HNS.out 2)
          generalize ns.getD 1 0 = x1 at *
          generalize ns.getD 2 0 = x2 at *
          have hq3 : 3 ≤ q := by omega
          clear hq6
          go_wp2_with fail
          refine (number04_any x1 _ m1.out.1 m1.out.2).mono ?_
          rintro e w2 ⟨z1, o1, rfl, ho1, hz1, rfl⟩
          have HO1 := Lib.hid ho1
          have HZ1 := Lib.hid hz1
          clear ho1 hz1
          go_wp2_with fail
          refine (number04_any x2 _ m2.out.1 m2.out.2).mono ?_
          rintro e w2 ⟨z2, o2, rfl, ho2, hz2, rfl⟩
          have HO2 := Lib.hid ho2
          have HZ2 := Lib.hid hz2
          clear ho2 hz2
          obtain ⟨f0, hf0⟩ : ∃ f0, (o1 && o2) = f0 := ⟨_, rfl⟩
          have HF0 := Lib.hid hf0
          clear hf0
          go_upto_region 12 with fail
          go_cut [11] (fun v wx => v = .bool f0 ∧ w1 = wx)
          case first =>
            cases o1 with
            | false => go_wp2_with fail; go_meet; exact ⟨by rw [← HF0.out]; rfl, rfl⟩
            | true => go_wp2_with fail; go_meet; exact ⟨by rw [← HF0.out]; rfl, rfl⟩
          case rest =>
          obtain ⟨rfl, rfl⟩ := hcut
          have hbs := Box.new w1 [.slice none 0 0, .int .i64 z1, .int .i64 z2] 48
          have HBS := Lib.hid hbs
          clear hbs g0 k0 g1 k1 g2 k2
          go_wp2
          go_loopw [11, 13] (RSRel ns cnt f0 z1 z2 w1) (fun _ i _ => cnt - (intOf i).toNat)
          case atStart => exact ⟨0, [], none, 0, f0, by omega, rfl, rfl, by simp [fine], fun _ => rfl, rfl, HBS.out, World.ownsRow_nil _ _ _ _, (Below.refl _ _).alloc (Nat.le_refl _) _⟩
          case round =>
            obtain ⟨k, xs, A3, c3, f, hk, rfl, rfl, hf, hxs, hxl, hbox, hown, hbr⟩ := hrel
            have HFF := Lib.hid hf
            have HXS := Lib.hid hxs
            have HXL := Lib.hid hxl
            have HBOX := Lib.hid hbox
            have HOW := Lib.hid hown
            have HBR := Lib.hid hbr
            have hzr := hbr.size
            have hzx : w1.heap.size < wr.heap.size := World.block_lt_of_cell? wr _ (hbox.at 0 _ rfl).1
            have f0c : wr.cell? ⟨b, o, none⟩ = some (.int .u64 (cnt : Int)) := (hbr.cell (p := ⟨b, o, none⟩) hbb).trans e0
            clear hf hxs hxl hbox hown hbr e0 e1 e2
            by_cases hlt : k < cnt
            · obtain ⟨p, hp⟩ : ∃ p : Nat, p = 3 + 6 * k := ⟨_, rfl⟩
              have hpi : 3 + 6 * (k : Int) = (p : Int) := by omega
              have hpq : p + 5 < q := by have := HQ6.out; omega
              have hq5 : q ≤ 100000 := hln
              have cc0 : wr.cell? ⟨b, o + p, none⟩ = some (.int .u64 (ns.getD p 0)) := (HBR.out.cell (p := ⟨b, o + p, none⟩) hbb).trans (HCELL.out p (by have := HQ.out; omega))
              have cc1 : wr.cell? ⟨b, o + (p + 1), none⟩ = some (.int .u64 (ns.getD (p + 1) 0)) := (HBR.out.cell (p := ⟨b, o + (p + 1), none⟩) hbb).trans (HCELL.out (p + 1) (by have := HQ.out; omega))
              have cc2 : wr.cell? ⟨b, o + (p + 2), none⟩ = some (.int .u64 (ns.getD (p + 2) 0)) := (HBR.out.cell (p := ⟨b, o + (p + 2), none⟩) hbb).trans (HCELL.out (p + 2) (by have := HQ.out; omega))
              have cc3 : wr.cell? ⟨b, o + (p + 3), none⟩ = some (.int .u64 (ns.getD (p + 3) 0)) := (HBR.out.cell (p := ⟨b, o + (p + 3), none⟩) hbb).trans (HCELL.out (p + 3) (by have := HQ.out; omega))
              have cc4 : wr.cell? ⟨b, o + (p + 4), none⟩ = some (.int .u64 (ns.getD (p + 4) 0)) := (HBR.out.cell (p := ⟨b, o + (p + 4), none⟩) hbb).trans (HCELL.out (p + 4) (by have := HQ.out; omega))
              have cc5 : wr.cell? ⟨b, o + (p + 5), none⟩ = some (.int .u64 (ns.getD (p + 5) 0)) := (HBR.out.cell (p := ⟨b, o + (p + 5), none⟩) hbb).trans (HCELL.out (p + 5) (by have := HQ.out; omega))
              have HCH := Lib.hid (want_chunk (l := ns) hp)
              have m0 := Lib.hid (nums_at HNS.out p)
              have m5 := Lib.hid (nums_at HNS.out (p + 5))
              generalize ns.getD p 0 = y0 at *
              generalize ns.getD (p + 1) 0 = y1 at *
              generalize ns.getD (p + 2) 0 = y2 at *
              generalize ns.getD (p + 3) 0 = y3 at *
              generalize ns.getD (p + 4) 0 = y4 at *
              generalize ns.getD (p + 5) 0 = y5 at *
              have hp0 : (0 : Int) ≤ (p : Int) := by omega
              have hpp : (p : Int) < (q : Int) := by omega
              have hp1 : (p : Int) + 1 < (q : Int) := by omega
              have t1 : ((p : Int) + 1).toNat = p + 1 := by omega
              have r1 : (0 : Int) ≤ (p : Int) + 1 := by omega
              have hp2 : (p : Int) + 2 < (q : Int) := by omega
              have t2 : ((p : Int) + 2).toNat = p + 2 := by omega
              have r2 : (0 : Int) ≤ (p : Int) + 2 := by omega
              have hp3 : (p : Int) + 3 < (q : Int) := by omega
              have t3 : ((p : Int) + 3).toNat = p + 3 := by omega
              have r3 : (0 : Int) ≤ (p : Int) + 3 := by omega
              have hp4 : (p : Int) + 4 < (q : Int) := by omega
              have t4 : ((p : Int) + 4).toNat = p + 4 := by omega
              have r4 : (0 : Int) ≤ (p : Int) + 4 := by omega
              have hp5 : (p : Int) + 5 < (q : Int) := by omega
              have t5 : ((p : Int) + 5).toNat = p + 5 := by omega
              have r5 : (0 : Int) ≤ (p : Int) + 5 := by omega
              have hbl : b < wr.heap.size := by omega
              have hbx : b ≠ w1.heap.size := by omega
              have HBX := Lib.hid hbx
              clear hp
              go_wp2_with fail
              refine (number04_any y0 _ m0.out.1 m0.out.2).mono ?_
              rintro e w2 ⟨z0, d, rfl, hd, hz, rfl⟩
              have HD := Lib.hid hd
              have HZ := Lib.hid hz
              clear hd hz
              obtain ⟨t5v, ht5⟩ : ∃ t, decide (y5 ≤ 1) = t := ⟨_, rfl⟩
              have HT5 : Hid (t5v = bitN y5) := by show _ = _; rw [← ht5]; exact le_bit m5.out.1
              obtain ⟨f', hf'⟩ : ∃ f', (f && (d && t5v)) = f' := ⟨_, rfl⟩
              have HF' := Lib.hid hf'
              clear hf'
              go_upto_region 19 with fail
              go_cut [11] (fun v wx => v = .bool f' ∧ wr = wx)
              case first =>
                cases f with
                | false => go_wp2_with fail; go_meet; exact ⟨by rw [← HF'.out]; rfl, rfl⟩
                | true =>
                  cases d with
                  | false => go_wp2_with fail; go_meet; exact ⟨by rw [← HF'.out]; rfl, rfl⟩
                  | true => go_wp2_with fail; go_meet; exact ⟨by rw [← HF'.out]; rfl, rfl⟩
              case rest =>
              obtain ⟨rfl, rfl⟩ := hcut
              clear ht5
              have w1' : IntKind.i64.wrap ((p : Int) + 1) = (p : Int) + 1 := IntWalk.i64_in _ (by omega)
              have w2' : IntKind.i64.wrap ((p : Int) + 2) = (p : Int) + 2 := IntWalk.i64_in _ (by omega)
              have w3' : IntKind.i64.wrap ((p : Int) + 3) = (p : Int) + 3 := IntWalk.i64_in _ (by omega)
              have w4' : IntKind.i64.wrap ((p : Int) + 4) = (p : Int) + 4 := IntWalk.i64_in _ (by omega)
              have w5' : IntKind.i64.wrap ((p : Int) + 5) = (p : Int) + 5 := IntWalk.i64_in _ (by omega)
              obtain ⟨s0, q0⟩ := HBOX.out.at 0 (.slice A3 k c3) rfl
              have HKB := Lib.hid (fun (v : World) (h : Below (w1.heap.size + 1) wr v) => HBR.out.trans (h.mono (by omega)))
              have hnx : some w1.heap.size ≠ (Value.slice A3 k c3).ownBlock := fun e => by have := (HOW.out.lt _ e.symm).1; omega
              have HNX := Lib.hid hnx
              have hnb : some b ≠ (Value.slice A3 k c3).ownBlock := fun e => by have := (HOW.out.lt _ e.symm).1; omega
              have HNB := Lib.hid hnb
              have hzx1 : w1.heap.size + 1 ≤ wr.heap.size := by omega
              have HW5 : Hid (k + 1 ≤ 2000000) := by show _ ≤ _; omega
              have hsn : fine wantK (k + 1) (ns.drop 3) = (fine wantK k (ns.drop 3) && (smallN y0 && bitN y5)) := by rw [fine_snoc, HCH.out.2]
              have HFN : Hid (f' = (f0 && fine wantK (k + 1) (ns.drop 3))) := by show _ = _; rw [hsn, ← HF'.out, HFF.out, HD.out, HT5.out, Bool.and_assoc]
              have HXN : Hid (fine wantK (k + 1) (ns.drop 3) = true → xs ++ [⟨z0, ⟨y1, y2, y3, y4⟩, y5 == 1⟩] = parse wantK (k + 1) (ns.drop 3)) := fun h => by
                rw [hsn, Bool.and_eq_true, Bool.and_eq_true] at h
                rw [parse_snoc, HCH.out.1, HXS.out h.1, HZ.out (HD.out.trans h.2.1)]
              clear hnx hnb hbx hsn
              go_wp2
              refine wp_region_held_drew (S := fun w' => (∀ q, w'.cell? ⟨b, q, none⟩ = wr.cell? ⟨b, q, none⟩) ∧ wr.heap.size ≤ w'.heap.size) (by kernel_rfl) ?_ (fun hHeld => ?_)
              · show SameBox wr b _; exact (SameBox.refl _ _).drew
              refine wpAnyH_take (i := 0) (v := ?v1_0) rfl (by kernel_rfl) (by kernel_rfl) (by kernel_rfl) (fun _ _ _ h => h) (Or.inl ⟨by rfl, ?y1_0⟩) (by assumption) ?r1_0
              case y1_0 => (intro w hSw; (try dsimp only at hSw); go_simp; try with_reducible rfl)
              try simp only [Act.put, List.setIfInBounds_toArray, List.set_cons_zero, List.set_cons_succ]
              refine wpAnyH_take (i := 2) (v := ?v2_2) rfl (by kernel_rfl) (by kernel_rfl) (by kernel_rfl) (fun _ _ _ h => h) (Or.inl ⟨by rfl, ?y2_2⟩) (by assumption) ?r2_2
              case y2_2 => (intro w hSw; (try dsimp only at hSw); go_simp; try with_reducible rfl)
              try simp only [Act.put, List.setIfInBounds_toArray, List.set_cons_zero, List.set_cons_succ]
              refine wpAnyH_take (i := 3) (v := ?v3_3) rfl (by kernel_rfl) (by kernel_rfl) (by kernel_rfl) (fun _ _ _ h => h) (Or.inl ⟨by rfl, ?y3_3⟩) (by assumption) ?r3_3
              case y3_3 => (intro w hSw; (try dsimp only at hSw); go_simp; try with_reducible rfl)
              try simp only [Act.put, List.setIfInBounds_toArray, List.set_cons_zero, List.set_cons_succ]
              refine wpAnyH_take (i := 4) (v := ?v4_4) rfl (by kernel_rfl) (by kernel_rfl) (by kernel_rfl) (fun _ _ _ h => h) (Or.inl ⟨by rfl, ?y4_4⟩) (by assumption) ?r4_4
              case y4_4 => (intro w hSw; (try dsimp only at hSw); go_simp; try with_reducible rfl)
              try simp only [Act.put, List.setIfInBounds_toArray, List.set_cons_zero, List.set_cons_succ]
              refine wpAnyH_take (i := 5) (v := ?v5_5) rfl (by kernel_rfl) (by kernel_rfl) (by kernel_rfl) (fun _ _ _ h => h) (Or.inl ⟨by rfl, ?y5_5⟩) (by assumption) ?r5_5
              case y5_5 => (intro w hSw; (try dsimp only at hSw); go_simp; try with_reducible rfl)
              try simp only [Act.put, List.setIfInBounds_toArray, List.set_cons_zero, List.set_cons_succ]
              refine wpAnyH_take (i := 6) (v := ?v6_6) rfl (by kernel_rfl) (by kernel_rfl) (by kernel_rfl) (fun _ _ _ h => h) (Or.inl ⟨by rfl, ?y6_6⟩) (by assumption) ?r6_6
              case y6_6 => (intro w hSw; (try dsimp only at hSw); go_simp; try with_reducible rfl)
              try simp only [Act.put, List.setIfInBounds_toArray, List.set_cons_zero, List.set_cons_succ]
              refine wpAnyH_take (i := 7) (v := ?v7_7) rfl (by kernel_rfl) (by kernel_rfl) (by kernel_rfl) (fun _ _ _ h => h) (Or.inl ⟨by rfl, ?y7_7⟩) (by assumption) ?r7_7
              case y7_7 => (intro w hSw; (try dsimp only at hSw); go_simp; try with_reducible rfl)
              try simp only [Act.put, List.setIfInBounds_toArray, List.set_cons_zero, List.set_cons_succ]
              refine wpAnyH_take (i := 8) (v := ?v8_8) rfl (by kernel_rfl) (by kernel_rfl) (by kernel_rfl) (fun _ _ _ h => h) (Or.inl ⟨by rfl, ?y8_8⟩) (by assumption) ?r8_8
              case y8_8 => (intro w hSw; (try dsimp only at hSw); go_simp; try with_reducible rfl)
              try simp only [Act.put, List.setIfInBounds_toArray, List.set_cons_zero, List.set_cons_succ]
              refine wpAnyH_take (i := 9) (v := ?v9_9) rfl (by kernel_rfl) (by kernel_rfl) (by kernel_rfl) (fun _ _ _ h => h) (Or.inl ⟨by rfl, ?y9_9⟩) (by assumption) ?r9_9
              case y9_9 => (intro w hSw; (try dsimp only at hSw); go_simp; try with_reducible rfl)
              try simp only [Act.put, List.setIfInBounds_toArray, List.set_cons_zero, List.set_cons_succ]
              refine wpAnyH_take (i := 10) (v := ?v10_10) rfl (by kernel_rfl) (by kernel_rfl) (by kernel_rfl) (fun _ _ _ h => h) (Or.inl ⟨by rfl, ?y10_10⟩) (by assumption) ?r10_10
              case y10_10 => (intro w hSw; (try dsimp only at hSw); go_simp; try with_reducible rfl)
              try simp only [Act.put, List.setIfInBounds_toArray, List.set_cons_zero, List.set_cons_succ]
              refine wpAnyH_take (i := 11) (v := ?v11_11) rfl (by kernel_rfl) (by kernel_rfl) (by kernel_rfl) (fun _ _ _ h => h) (Or.inl ⟨by rfl, ?y11_11⟩) (by assumption) ?r11_11
              case y11_11 => (intro w hSw; (try dsimp only at hSw); go_simp; try with_reducible rfl)
              try simp only [Act.put, List.setIfInBounds_toArray, List.set_cons_zero, List.set_cons_succ]
              refine wpAnyH_take (i := 12) (v := ?v12_12) rfl (by kernel_rfl) (by kernel_rfl) (by kernel_rfl) (fun _ _ _ h => h) (Or.inl ⟨by rfl, ?y12_12⟩) (by assumption) ?r12_12
              case y12_12 => (intro w hSw; (try dsimp only at hSw); go_simp; try with_reducible rfl)
              try simp only [Act.put, List.setIfInBounds_toArray, List.set_cons_zero, List.set_cons_succ]
              refine wpAnyH_take (i := 13) (v := ?v13_13) rfl (by kernel_rfl) (by kernel_rfl) (by kernel_rfl) (fun _ _ _ h => h) (Or.inl ⟨by rfl, ?y13_13⟩) (by assumption) ?r13_13
              case y13_13 => (intro w hSw; (try dsimp only at hSw); go_simp; try with_reducible rfl)
              try simp only [Act.put, List.setIfInBounds_toArray, List.set_cons_zero, List.set_cons_succ]
              refine wpAnyH_take (i := 14) (v := ?v14_14) rfl (by kernel_rfl) (by kernel_rfl) (by kernel_rfl) (fun _ _ _ h => h) (Or.inl ⟨by rfl, ?y14_14⟩) (by assumption) ?r14_14
              case y14_14 => (intro w hSw; (try dsimp only at hSw); go_simp; try with_reducible rfl)
              try simp only [Act.put, List.setIfInBounds_toArray, List.set_cons_zero, List.set_cons_succ]
              refine wpAnyH_take (i := 15) (v := ?v15_15) rfl (by kernel_rfl) (by kernel_rfl) (by kernel_rfl) (fun _ _ _ h => h) (Or.inl ⟨by rfl, ?y15_15⟩) (by assumption) ?r15_15
              case y15_15 => (intro w hSw; (try dsimp only at hSw); go_simp; try with_reducible rfl)
              try simp only [Act.put, List.setIfInBounds_toArray, List.set_cons_zero, List.set_cons_succ]
              refine wpAnyH_take (i := 16) (v := ?v16_16) rfl (by kernel_rfl) (by kernel_rfl) (by kernel_rfl) (fun _ _ _ h => h) (Or.inl ⟨by rfl, ?y16_16⟩) (by assumption) ?r16_16
              case y16_16 => (intro w hSw; (try dsimp only at hSw); go_simp; try with_reducible rfl)
              try simp only [Act.put, List.setIfInBounds_toArray, List.set_cons_zero, List.set_cons_succ]
              refine wpAnyH_take (i := 17) (v := ?v17_17) rfl (by kernel_rfl) (by kernel_rfl) (by kernel_rfl) (fun _ _ _ h => h) (Or.inl ⟨by rfl, ?y17_17⟩) (by assumption) ?r17_17
              case y17_17 => (intro w hSw; (try dsimp only at hSw); go_simp; try with_reducible rfl)
              try simp only [Act.put, List.setIfInBounds_toArray, List.set_cons_zero, List.set_cons_succ]
              refine wpAnyH_take (i := 18) (v := ?v18_18) rfl (by kernel_rfl) (by kernel_rfl) (by kernel_rfl) (fun _ _ _ h => h) (Or.inl ⟨by rfl, ?y18_18⟩) (by assumption) ?r18_18
              case y18_18 => (intro w hSw; (try dsimp only at hSw); go_simp; try with_reducible rfl)
              try simp only [Act.put, List.setIfInBounds_toArray, List.set_cons_zero, List.set_cons_succ]
              refine wpAnyH_take (i := 19) (v := ?v19_19) rfl (by kernel_rfl) (by kernel_rfl) (by kernel_rfl) (fun _ _ _ h => h) (Or.inl ⟨by rfl, ?y19_19⟩) (by assumption) ?r19_19
              case y19_19 => (intro w hSw; (try dsimp only at hSw); go_simp; try with_reducible rfl)
              try simp only [Act.put, List.setIfInBounds_toArray, List.set_cons_zero, List.set_cons_succ]
              refine wpAnyH_take (i := 20) (v := ?v20_20) rfl (by kernel_rfl) (by kernel_rfl) (by kernel_rfl) (fun _ _ _ h => h) (Or.inl ⟨by rfl, ?y20_20⟩) (by assumption) ?r20_20
              case y20_20 => (intro w hSw; (try dsimp only at hSw); go_simp; try with_reducible rfl)
              try simp only [Act.put, List.setIfInBounds_toArray, List.set_cons_zero, List.set_cons_succ]
              refine wpAnyH_take (i := 21) (v := ?v21_21) rfl (by kernel_rfl) (by kernel_rfl) (by kernel_rfl) (fun _ _ _ h => h) (Or.inl ⟨by rfl, ?y21_21⟩) (by assumption) ?r21_21
              case y21_21 => (intro w hSw; (try dsimp only at hSw); go_simp; try with_reducible rfl)
              try simp only [Act.put, List.setIfInBounds_toArray, List.set_cons_zero, List.set_cons_succ]
              refine wpAnyH_take (i := 22) (v := ?v22_22) rfl (by kernel_rfl) (by kernel_rfl) (by kernel_rfl) (fun _ _ _ h => h) (Or.inl ⟨by rfl, ?y22_22⟩) (by assumption) ?r22_22
              case y22_22 => (intro w hSw; (try dsimp only at hSw); go_simp; try with_reducible rfl)
              try simp only [Act.put, List.setIfInBounds_toArray, List.set_cons_zero, List.set_cons_succ]
              refine wpAnyH_take (i := 23) (v := ?v23_23) rfl (by kernel_rfl) (by kernel_rfl) (by kernel_rfl) (fun _ _ _ h => h) (Or.inl ⟨by rfl, ?y23_23⟩) (by assumption) ?r23_23
              case y23_23 => (intro w hSw; (try dsimp only at hSw); go_simp; try with_reducible rfl)
              try simp only [Act.put, List.setIfInBounds_toArray, List.set_cons_zero, List.set_cons_succ]
              refine wpAnyH_take (i := 24) (v := ?v24_24) rfl (by kernel_rfl) (by kernel_rfl) (by kernel_rfl) (fun _ _ _ h => h) (Or.inl ⟨by rfl, ?y24_24⟩) (by assumption) ?r24_24
              case y24_24 => (intro w hSw; (try dsimp only at hSw); go_simp; try with_reducible rfl)
              try simp only [Act.put, List.setIfInBounds_toArray, List.set_cons_zero, List.set_cons_succ]
              refine wpAnyH_take (i := 25) (v := ?v25_25) rfl (by kernel_rfl) (by kernel_rfl) (by kernel_rfl) (fun _ _ _ h => h) (Or.inl ⟨by rfl, ?y25_25⟩) (by assumption) ?r25_25
              case y25_25 => (intro w hSw; (try dsimp only at hSw); go_simp; try with_reducible rfl)
              try simp only [Act.put, List.setIfInBounds_toArray, List.set_cons_zero, List.set_cons_succ]
              refine wpAnyH_take (i := 26) (v := ?v26_26) rfl (by kernel_rfl) (by kernel_rfl) (by kernel_rfl) (fun _ _ _ h => h) (Or.inl ⟨by rfl, ?y26_26⟩) (by assumption) ?r26_26
              case y26_26 => (intro w hSw; (try dsimp only at hSw); go_simp; try with_reducible rfl)
              try simp only [Act.put, List.setIfInBounds_toArray, List.set_cons_zero, List.set_cons_succ]
              refine wpAnyH_take (i := 27) (v := ?v27_27) rfl (by kernel_rfl) (by kernel_rfl) (by kernel_rfl) (fun _ _ _ h => h) (Or.inl ⟨by rfl, ?y27_27⟩) (by assumption) ?r27_27
              case y27_27 => (intro w hSw; (try dsimp only at hSw); go_simp; try with_reducible rfl)
              try simp only [Act.put, List.setIfInBounds_toArray, List.set_cons_zero, List.set_cons_succ]
              refine wpAnyH_take (i := 28) (v := ?v28_28) rfl (by kernel_rfl) (by kernel_rfl) (by kernel_rfl) (fun _ _ _ h => h) (Or.inl ⟨by rfl, ?y28_28⟩) (by assumption) ?r28_28
              case y28_28 => (intro w hSw; (try dsimp only at hSw); go_simp; try with_reducible rfl)
              try simp only [Act.put, List.setIfInBounds_toArray, List.set_cons_zero, List.set_cons_succ]
              refine wpAnyH_take (i := 29) (v := ?v29_29) rfl (by kernel_rfl) (by kernel_rfl) (by kernel_rfl) (fun _ _ _ h => h) (Or.inl ⟨by rfl, ?y29_29⟩) (by assumption) ?r29_29
              case y29_29 => (intro w hSw; (try dsimp only at hSw); go_simp; try with_reducible rfl)
              try simp only [Act.put, List.setIfInBounds_toArray, List.set_cons_zero, List.set_cons_succ]
              refine wpAnyH_take (i := 30) (v := ?v30_30) rfl (by kernel_rfl) (by kernel_rfl) (by kernel_rfl) (fun _ _ _ h => h) (Or.inl ⟨by rfl, ?y30_30⟩) (by assumption) ?r30_30
              case y30_30 => (intro w hSw; (try dsimp only at hSw); go_simp; try with_reducible rfl)
              try simp only [Act.put, List.setIfInBounds_toArray, List.set_cons_zero, List.set_cons_succ]
              refine wpAnyH_ready (rs := [1, 31]) (by kernel_rfl) (by simp) ?_
              refine AllReadyH.cons rfl (fun K hK => ?_) ?_
              · go_simp
                refine hK.out _ _ ?_ (fun hHeld1 => ?_)
                · show SameBox wr b _; with_reducible (repeat (first | exact SameBox.refl _ _ | assumption | refine SameBox.drew ?_ | refine SameBox.alloc ?_ hbl _))
                clear hK K
                try simp only [Act.put, List.setIfInBounds_toArray, List.set_cons_zero, List.set_cons_succ]
                refine wpAnyH_ready (rs := [31]) (by kernel_rfl) (by simp) ?_
                refine AllReadyH.cons rfl (fun K hK => ?_) AllReadyH.nil
                go_simp
                refine hK.out _ _ ?_ (fun hHeld2 => ?_)
                · show SameBox wr b _; with_reducible (repeat (first | exact SameBox.refl _ _ | assumption | refine SameBox.drew ?_ | refine SameBox.alloc ?_ hbl _))
                clear hK K
                try simp only [Act.put, List.setIfInBounds_toArray, List.set_cons_zero, List.set_cons_succ]
                refine wpAnyH_ready (rs := [32]) (by kernel_rfl) (by simp) ?_
                refine AllReadyH.cons rfl (fun K hK => ?_) AllReadyH.nil
                refine step_lit 46 105 (.agg #[.int .i64 0, .int .u64 0, .int .u64 0, .int .u64 0, .int .u64 0, .bool false]) 6 48 Tryz.underSlW Tryz.info105 rfl (by decide) (by decide) rfl (.tmp 98) (.tmp 128) rfl (g := wr.heap.size) (w1.heap.size + 1) _ _ (cellsW ⟨z0, ⟨y1, y2, y3, y4⟩, y5 == 1⟩) (one_cellsW ⟨z0, ⟨y1, y2, y3, y4⟩, y5 == 1⟩) (HOW.out.alloc _) (by simp; omega) HW5.out rfl rfl rfl (by decide) (lit_cells wr (cellsW ⟨z0, ⟨y1, y2, y3, y4⟩, y5 == 1⟩) 105) ?_; intro A' c' w2 hown2 hb2 hB2 hbx2 hsz2
                have hbox2 : Box w2 w1.heap.size [.slice A3 k c3, .int .i64 z1, .int .i64 z2] := Box.far (HBOX.out.drew.alloc _) hbx2 HNX.out
                obtain ⟨sx, fx⟩ := hbox2.at 0 (.slice A3 k c3) rfl
                refine hK.out _ _ ?_ (fun hHeld3 => ?_)
                · show SameBox wr b _; exact SameBox.far (((SameBox.refl wr b).drew).alloc hbl _) hbx2 hsz2 HNB.out hbl
                clear hK K
                try simp only [Act.put, List.setIfInBounds_toArray, List.set_cons_zero, List.set_cons_succ]
                refine wpAnyH_take (i := 33) (v := ?v31_33) rfl (by kernel_rfl) (by kernel_rfl) (by kernel_rfl) (fun _ _ _ h => h) (Or.inl ⟨by rfl, ?y31_33⟩) (by assumption) ?r31_33
                case y31_33 => (intro w hSw; (try dsimp only at hSw); go_simp; try with_reducible rfl)
                try simp only [Act.put, List.setIfInBounds_toArray, List.set_cons_zero, List.set_cons_succ]
                refine wpAnyH_ready (rs := [34]) (by kernel_rfl) (by simp) ?_
                refine AllReadyH.cons rfl (fun K hK => ?_) AllReadyH.nil
                go_simp
                refine hK.out _ _ ?_ (fun hHeld4 => ?_)
                · show SameBox wr b _; exact SameBox.set (by assumption : SameBox wr b w2) (p := ⟨w1.heap.size, 0, none⟩) HBX.out.symm _
                clear hK K
                try simp only [Act.put, List.setIfInBounds_toArray, List.set_cons_zero, List.set_cons_succ]
                refine wpAnyH_done (by kernel_rfl) ?_ _
                go_wp2
                go_roundw
                case rel => exact ⟨k + 1, xs ++ [⟨z0, ⟨y1, y2, y3, y4⟩, y5 == 1⟩], A', c', f', by omega, by go_num, rfl, HFN.out, HXN.out, by simp [HXL.out], hbox2.set 0 _, own_set (by rw [List.flatMap_append]; simpa using hown2) (p := ⟨w1.heap.size, 0, none⟩) (by show w1.heap.size < w1.heap.size + 1; omega) _, (((HBR.out.alloc hzr _).drew.trans (hb2.mono (by omega))).setCell (p := ⟨w1.heap.size, 0, none⟩) (Nat.le_refl _) _)⟩
                case measure => simp [intOf]; omega
              refine AllReadyH.cons rfl (fun K hK => ?_) ?_
              · go_simp
                refine hK.out _ _ ?_ (fun hHeld1 => ?_)
                · show SameBox wr b _; with_reducible (repeat (first | exact SameBox.refl _ _ | assumption | refine SameBox.drew ?_ | refine SameBox.alloc ?_ hbl _))
                clear hK K
                try simp only [Act.put, List.setIfInBounds_toArray, List.set_cons_zero, List.set_cons_succ]
                refine wpAnyH_ready (rs := [1]) (by kernel_rfl) (by simp) ?_
                refine AllReadyH.cons rfl (fun K hK => ?_) AllReadyH.nil
                go_simp
                refine hK.out _ _ ?_ (fun hHeld2 => ?_)
                · show SameBox wr b _; with_reducible (repeat (first | exact SameBox.refl _ _ | assumption | refine SameBox.drew ?_ | refine SameBox.alloc ?_ hbl _))
                clear hK K
                try simp only [Act.put, List.setIfInBounds_toArray, List.set_cons_zero, List.set_cons_succ]
                refine wpAnyH_ready (rs := [32]) (by kernel_rfl) (by simp) ?_
                refine AllReadyH.cons rfl (fun K hK => ?_) AllReadyH.nil
                refine step_lit 46 105 (.agg #[.int .i64 0, .int .u64 0, .int .u64 0, .int .u64 0, .int .u64 0, .bool false]) 6 48 Tryz.underSlW Tryz.info105 rfl (by decide) (by decide) rfl (.tmp 98) (.tmp 128) rfl (g := wr.heap.size) (w1.heap.size + 1) _ _ (cellsW ⟨z0, ⟨y1, y2, y3, y4⟩, y5 == 1⟩) (one_cellsW ⟨z0, ⟨y1, y2, y3, y4⟩, y5 == 1⟩) (HOW.out.alloc _) (by simp; omega) HW5.out rfl rfl rfl (by decide) (lit_cells wr (cellsW ⟨z0, ⟨y1, y2, y3, y4⟩, y5 == 1⟩) 105) ?_; intro A' c' w2 hown2 hb2 hB2 hbx2 hsz2
                have hbox2 : Box w2 w1.heap.size [.slice A3 k c3, .int .i64 z1, .int .i64 z2] := Box.far (HBOX.out.drew.alloc _) hbx2 HNX.out
                obtain ⟨sx, fx⟩ := hbox2.at 0 (.slice A3 k c3) rfl
                refine hK.out _ _ ?_ (fun hHeld3 => ?_)
                · show SameBox wr b _; exact SameBox.far (((SameBox.refl wr b).drew).alloc hbl _) hbx2 hsz2 HNB.out hbl
                clear hK K
                try simp only [Act.put, List.setIfInBounds_toArray, List.set_cons_zero, List.set_cons_succ]
                refine wpAnyH_take (i := 33) (v := ?v32_33) rfl (by kernel_rfl) (by kernel_rfl) (by kernel_rfl) (fun _ _ _ h => h) (Or.inl ⟨by rfl, ?y32_33⟩) (by assumption) ?r32_33
                case y32_33 => (intro w hSw; (try dsimp only at hSw); go_simp; try with_reducible rfl)
                try simp only [Act.put, List.setIfInBounds_toArray, List.set_cons_zero, List.set_cons_succ]
                refine wpAnyH_ready (rs := [34]) (by kernel_rfl) (by simp) ?_
                refine AllReadyH.cons rfl (fun K hK => ?_) AllReadyH.nil
                go_simp
                refine hK.out _ _ ?_ (fun hHeld4 => ?_)
                · show SameBox wr b _; exact SameBox.set (by assumption : SameBox wr b w2) (p := ⟨w1.heap.size, 0, none⟩) HBX.out.symm _
                clear hK K
                try simp only [Act.put, List.setIfInBounds_toArray, List.set_cons_zero, List.set_cons_succ]
                refine wpAnyH_done (by kernel_rfl) ?_ _
                go_wp2
                go_roundw
                case rel => exact ⟨k + 1, xs ++ [⟨z0, ⟨y1, y2, y3, y4⟩, y5 == 1⟩], A', c', f', by omega, by go_num, rfl, HFN.out, HXN.out, by simp [HXL.out], hbox2.set 0 _, own_set (by rw [List.flatMap_append]; simpa using hown2) (p := ⟨w1.heap.size, 0, none⟩) (by show w1.heap.size < w1.heap.size + 1; omega) _, (((HBR.out.alloc hzr _).drew.trans (hb2.mono (by omega))).setCell (p := ⟨w1.heap.size, 0, none⟩) (Nat.le_refl _) _)⟩
                case measure => simp [intOf]; omega
              exact AllReadyH.nil
            · obtain rfl : k = cnt := by omega
              have HXR := Lib.hid (HX1.out.turn (Turn.of_below (r := w1.heap.size) HBR.out) (by omega))
              obtain ⟨g0, k0⟩ := HXR.out.at 0 (.slice none 0 0) rfl
              obtain ⟨g1, k1⟩ := HXR.out.at 1 (.int .i64 0) rfl
              obtain ⟨g2, k2⟩ := HXR.out.at 2 (.int .i64 0) rfl
              obtain ⟨s0, _⟩ := HBOX.out.at 0 (.slice A3 k c3) rfl
              obtain ⟨s1, _⟩ := HBOX.out.at 1 (.int .i64 z1) rfl
              obtain ⟨s2, _⟩ := HBOX.out.at 2 (.int .i64 z2) rfl
              have hwr : w.heap.size < wr.heap.size := by omega
              have HBF := Lib.hid (HB1.out.trans (HBR.out.mono HB1.out.size))
              cases f with
              | false =>
                have HE := Lib.hid (HF.out.trans (if_pos (by rw [← HO1.out, ← HO2.out, ← Bool.and_assoc, HF0.out]; exact HFF.out.symm)))
                go_wp2
                refine bodyPost_ret (v := .tuple #[.agg #[.slice none 0 0, .int .i64 0, .int .i64 0], .int .i64 2, .int .i64 (-1)]) ?_ rfl ?_
                · simp [results, Tryz.results18, go_sem, *]
                · exact rsTo_err HE.out (HBEE.out _ _ _ _ HBF.out)
              | true =>
                have hff := HFF.out.symm
                rw [Bool.and_eq_true] at hff
                obtain ⟨hf0, hfin⟩ := hff
                have hoo := HF0.out.trans hf0
                rw [Bool.and_eq_true] at hoo
                have HE := Lib.hid (HF.out.trans (if_neg (by rw [← HO1.out, ← HO2.out, hoo.1, hoo.2, hfin]; decide)))
                obtain rfl := HZ1.out hoo.1
                obtain rfl := HZ2.out hoo.2
                obtain rfl := HXS.out hfin
                have HO7 := Lib.hid (own_set (own_set (own_set HOW.out (p := ⟨w.heap.size, 0, none⟩) (by show w.heap.size < w1.heap.size + 1; omega) (.slice A3 k c3)) (p := ⟨w.heap.size, 1, none⟩) (by show w.heap.size < w1.heap.size + 1; omega) (.int .i64 z1)) (p := ⟨w.heap.size, 2, none⟩) (by show w.heap.size < w1.heap.size + 1; omega) (.int .i64 z2))
                clear hf0 hfin hoo
                go_wp2
                refine bodyPost_ret (v := .tuple #[.agg #[.slice A3 k c3, .int .i64 z1, .int .i64 z2], .int .i64 0, .int .i64 (-1)]) ?_ rfl ?_
                · simp [results, Tryz.results18, go_sem, *]
                · have hout := out_of_own (cells := cellsW) (size := 6) (fun _ => rfl) HXL.out.symm HO7.out
                  unfold RSTo
                  rw [HE.out]
                  exact ⟨A3, c3, by rw [parse_length], hout, HBEE.out _ _ _ _ HBF.out⟩
        · have hbe : ((q : Int) != 3 + 6 * (cnt : Int)) = true := by rw [bne_iff_ne]; omega
          have HE : Hid (rdB noSpec rdSpec ns rest = (noSpec, 2, -1)) := by
            have := HQ.out; have h2 := HCNT.out
            show _ = _
            rw [rdB, if_pos HRE.out, rdSpec, if_neg (by omega), if_neg (by omega), HCT.out, if_pos (by omega)]
          clear e1 e2
          go_wp2
          refine bodyPost_ret (v := .tuple #[.agg #[.slice none 0 0, .int .i64 0, .int .i64 0], .int .i64 2, .int .i64 (-1)]) ?_ rfl ?_
          · simp [results, Tryz.results18, go_sem, *]
          · exact rsTo_err HE.out (HBEE.out _ _ _ _ HB1.out)
  · have HE := Lib.hid (show rdB noSpec rdSpec ns rest = (noSpec, 2, (((encs ns).length : Nat) : Int)) from if_neg hre)
    clear hre
    go_wp2
    refine bodyPost_ret (v := .tuple #[.agg #[.slice none 0 0, .int .i64 0, .int .i64 0], .int .i64 2, .int .i64 (((encs ns).length : Nat) : Int)]) ?_ rfl ?_
    · simp [results, Tryz.results18, go_sem, *]
    · exact rsTo_err HE.out (HBEE.out _ _ _ _ HB1.out)
end Go.Proofs.YtgfleifpblcnfaaGreatDoor

namespace Go.Proofs.YtgfleifpblcnfaaGreatDoor
set_option linter.unusedSimpArgs false
open Go.RowKit
set_option linter.unusedVariables false

theorem Box.later {w w' : World} {b : Nat} {cs : List Value} (h : Box w b cs) (hb : Below w.heap.size w w') : Box w' b cs := fun j hj => by
  have hl := World.block_lt_of_cell? w _ (h j hj).1
  exact ⟨(hb.cell (p := ⟨b, j, none⟩) hl).trans (h j hj).1, (hb.frozen (p := ⟨b, j, none⟩) hl).trans (h j hj).2⟩
theorem rdB_spec_sound {ns rest : List Int} (h : Nums ns) : (rdB noSpec rdSpec ns rest).1.wants.length ≤ 40 := by
  rcases rdB_cases noSpec rdSpec ns rest with e | e
  · rw [e]; exact Nat.zero_le _
  · rw [e]; exact (rdSpec_sound h).2
set_option maxHeartbeats 3200000 in
theorem codecSpecs_long (x : SpecD) (A B : Option Addr) (n c k d : Nat) (w : World) (hm : n ≤ maxLen) (hk : k ≤ maxLen) (hlong : 40 < n ∨ 5000 < k) :
    Calls Tryz.prog 4 #[specV A n c x, .slice B k d] w fun e w' => e = .returned (.bool true) ∧ Below w.heap.size w w' := by
  unfold maxLen at hm hk
  have b00 : Below w.heap.size w (w.alloc (.cells #[.slice A n c, .int .i64 x.preempts, .int .i64 x.shifts] 48)) := (Below.refl _ _).alloc (Nat.le_refl _) _
  have HB0 := Lib.hid b00
  clear b00
  go_enter Tryz.func4, Tryz.ntmps4
  go_wp2_with fail
  refine (up4_any _).mono ?_
  rintro e w1 ⟨rfl, hb1⟩
  have k1 : Below (w.heap.size + 1) (w.alloc (.cells #[.slice A n c, .int .i64 x.preempts, .int .i64 x.shifts] 48)) w1 := hb1.mono (by simp)
  obtain ⟨b0, b1, b2⟩ := box_cells k1
  have hwl : w.heap.size < w1.heap.size := by have := k1.size; simp at this; omega
  have K1 := Lib.hid (HB0.out.trans (k1.mono (by omega)))
  clear hb1 k1
  by_cases h : 40 < n
  · clear hlong
    go_wp2
    go_ret
    exact ⟨rfl, K1.out⟩
  · have h2 : 5000 < k := by omega
    clear hlong
    go_wp2
    go_ret
    exact ⟨rfl, K1.out⟩

set_option maxHeartbeats 12800000 in
set_option maxRecDepth 100000 in
theorem codecSpecs_in (x : SpecD) (ns rest : List Int) (A B : Option Addr) (n c k d : Nat) (w : World) (hg : Laid w) (hn : n = x.wants.length) (hl : n ≤ 40) (hok : ∀ y ∈ x.wants, y.Ok) (hr : Recs 6 cellsW w w.heap.size A x.wants)
    (hk : k = (encs ns ++ rest).length) (hkl : k ≤ 5000) (hc : k ≤ d) (hc' : d ≤ maxLen) (hns : Nums ns) (hb : Octs rest) (hm : rest = [] ∨ (rest ≠ [] ∧ Miss rest)) (hrb : Row w w.heap.size B (u8s (encs ns ++ rest))) :
    Calls Tryz.prog 4 #[specV A n c x, .slice B k d] w fun e w' => e = .returned (.bool true) ∧ Below w.heap.size w w' := by
  have b00 : Below w.heap.size w (w.alloc (.cells #[.slice A n c, .int .i64 x.preempts, .int .i64 x.shifts] 48)) := (Below.refl _ _).alloc (Nat.le_refl _) _
  have HB0 := Lib.hid b00
  have HP := Lib.hid (fun (v : World) (q : Below w.heap.size w v) => spec_any x A n c v hn (by omega) hok ((hr.below q (Nat.le_refl _)).more q.size))
  have HQ := Lib.hid (fun (v : World) (q : Below w.heap.size w v) => rSpec04_any x A n c v hn (by omega) ((hr.below q (Nat.le_refl _)).more q.size))
  have HRP := Lib.hid (fun (v : World) (q : Below w.heap.size w v) => readSpec_any ns rest B k d v hk (by omega) hc hc' hns hb hm ((hrb.below q (Nat.le_refl _)).more q.size))
  have HRQ := Lib.hid (fun (v : World) (q : Below w.heap.size w v) => rReadSpec04_any ns rest B k d v hk (by omega) hns hb hm ((hrb.below q (Nat.le_refl _)).more q.size))
  have HG := Lib.hid hg
  have HLE := Lib.hid (rdB_spec_sound (rest := rest) hns)
  have HOKX := Lib.hid hok
  have hmaxk : (k : Int) ≤ 5000 := by omega
  have HN := Lib.hid hn
  clear hn hr hk hc hc' hns hb hm hrb hg b00 hok
  go_enter Tryz.func4, Tryz.ntmps4
  go_wp2_with fail
  refine (up4_any _).mono ?_
  rintro e w1 ⟨rfl, hb1⟩
  have k1 : Below (w.heap.size + 1) (w.alloc (.cells #[.slice A n c, .int .i64 x.preempts, .int .i64 x.shifts] 48)) w1 := hb1.mono (by simp)
  obtain ⟨b0, b1, b2⟩ := box_cells k1
  have hwl : w.heap.size < w1.heap.size := by have := k1.size; simp at this; omega
  have KK1 := Lib.hid k1
  have K1 := Lib.hid (HB0.out.trans (k1.mono (by omega)))
  clear hb1 k1
  go_wp2_with fail
  refine (HP.out w1 K1.out).mono ?_
  rintro e w2 hw2
  cases hso : specOk x with
  | true =>
    obtain ⟨C, e1, rfl, he1, he2, hrow, hb2⟩ := hw2.row hso
    have K2 := Lib.hid (K1.out.trans (hb2.mono K1.out.size))
    have k2 := KK1.out.trans (hb2.mono (show w.heap.size + 1 ≤ w1.heap.size by omega))
    clear b0 b1 b2
    obtain ⟨b0, b1, b2⟩ := box_cells k2
    have hwl2 : w.heap.size < w2.heap.size := by have := hb2.size; omega
    have HROW := Lib.hid hrow
    have HSO := Lib.hid hso
    clear hw2 hb2 hrow he1 he2 k2
    go_wp2_with fail
    refine (HQ.out w2 K2.out).mono ?_
    rintro e w3 ⟨⟨_, v, rfl, ho⟩ | ⟨h0, _⟩, hb3⟩
    · obtain ⟨D, g1, rfl, _, _, hdn⟩ := own_form ho
      have hlen : (u64s (specNums x)).length = (specNums x).length := by simp
      rw [hlen]
      have HROWL := Lib.hid (Row.of_own ho).1
      have K3 := Lib.hid (K2.out.trans (hb3.mono K2.out.size))
      have HROW3 := Lib.hid ((HROW.out.below hb3 (Nat.le_refl _)).more hb3.size)
      have hml : (specNums x).length ≤ 5000 := by
        have h2 : (x.wants.flatMap wantK.nums).length = x.wants.length * 6 := flat_length wantK _
        have h3 : (specNums x).length = 3 + x.wants.length * 6 := by unfold specNums; rw [List.length_append, h2]; rfl
        have := HN.out
        omega
      have HPU := Lib.hid (fun (v : World) (q : Below w3.heap.size w3 v) => rPut_any (specNums x) D g1 v hml (spec_nums HSO.out HOKX.out) ((HROWL.out.below q (Nat.le_refl _)).more q.size))
      have HCP := Lib.hid (fun (v : World) (q : Below w3.heap.size w3 v) => conv_row (encs (specNums x)) C (encs (specNums x)).length e1 _ v rfl (HROW3.out.below q (Nat.le_refl _)))
      obtain ⟨q1, hq1⟩ : ∃ q, (specNums x).length = q := ⟨_, rfl⟩
      obtain ⟨q2, hq2⟩ : ∃ q, (encs (specNums x)).length = q := ⟨_, rfl⟩
      have HCL := Lib.hid (fun (v : World) (X : Option Addr) (y : Nat) (R : Nat) (h : Row v R X (u8s (encs (specNums x)))) => conv_row (encs (specNums x)) X q2 y R v hq2.symm h)
      rw [hq1] at HPU ⊢
      rw [hq2] at HCP ⊢
      have HQ2 := Lib.hid hq2
      generalize strOfNums (encs (specNums x)) = z at *
      have hse := str_neq z
      have hc0 := HCP.out w3 (Below.refl _ _)
      have hc1 := HCP.out w3.drew (Below.drew (Below.refl _ _))
      clear ho hb3 hlen hml hdn hq1 hq2 HROW HROWL HROW3 hso b0 b1 b2
      have hund : undef = Value.tuple #[] := rfl
      go_wp2
      refine wp_region_noPanic ?_
      (first
        | (go_region_held_law (fun w' => (∀ b o, b < w3.heap.size → w'.cell? ⟨b, o, none⟩ = w3.cell? ⟨b, o, none⟩) ∧ Below w3.heap.size w3 w')
                    (first | (with_reducible assumption) | (show Keeps w3 _; with_reducible (repeat (first | exact Keeps.refl _ | refine Keeps.drew ?_ | refine Keeps.alloc ?_ _ | refine Keeps.step ?_ (by assumption)))))
                    (first
                      | (go_at_call 10; have hkp : Keeps w3 _ := (by assumption); refine (HPU.out _ hkp.2).mono ?_; rintro e w4 hto; obtain ⟨E, x1, rfl, ho4, hb4⟩ := hto.q HQ2.out; have hkb := hkp.2.trans (hb4.mono hkp.2.size); have hcp := HCP.out w4 hkb; have hcl := HCL.out w4 E x1 _ (Row.of_own ho4).1; have HB4 := Lib.hid hkb; clear hto ho4 hkp)))
        | fail "held")
      all_goals
        refine NoPanic.normal ?_
        have K4 := Lib.hid (K3.out.trans (HB4.out.mono K3.out.size))
        clear hc0 hc1 hcp hcl hb4 HB4
        go_wp2_with fail
        refine (HRP.out _ K4.out).mono ?_
        rintro e x5 ⟨Fa, f1, u, rfl, o1, hu, hb5⟩
        have K5 := Lib.hid (K4.out.trans (hb5.mono K4.out.size))
        have HU := Lib.hid hu
        have HO1 := Lib.hid o1.recs
        clear hu hb5 o1
        generalize rdB noSpec rdSpec ns rest = R at *
        have HBa := Lib.hid (Box.new x5 [.slice Fa R.1.wants.length f1, .int .i64 R.1.preempts, .int .i64 R.1.shifts] 48)
        have HA5 : Hid (Below w.heap.size w (x5.alloc (.cells #[.slice Fa R.1.wants.length f1, .int .i64 R.1.preempts, .int .i64 R.1.shifts] 48))) := K5.out.alloc K5.out.size _
        have HL5 : Hid (Below x5.heap.size x5 (x5.alloc (.cells #[.slice Fa R.1.wants.length f1, .int .i64 R.1.preempts, .int .i64 R.1.shifts] 48))) := (Below.refl _ _).alloc (Nat.le_refl _) _
        go_wp2_with fail
        refine (HRQ.out _ HA5.out).mono ?_
        rintro e x6 ⟨Ha, j1, rfl, o2, hb6⟩
        have K6 := Lib.hid (HA5.out.trans (hb6.mono HA5.out.size))
        have hs5 : x5.heap.size < x6.heap.size := by have := hb6.size; simp at this; omega
        have HS6 := Lib.hid (HL5.out.trans (hb6.mono HL5.out.size))
        have HU6 := Lib.hid (HU.out.below HS6.out)
        have HO1b := Lib.hid ((HO1.out.below HS6.out (Nat.le_refl _)).more HS6.out.size)
        have HO2 := Lib.hid o2.recs
        have HBb := Lib.hid (HBa.out.later hb6)
        clear hb6 o2 HU HO1 HBa
        have HBc := Lib.hid (Box.new x6 [.slice Ha R.1.wants.length j1, .int .i64 R.1.preempts, .int .i64 R.1.shifts] 48)
        have HBd := Lib.hid (HBb.out.alloc (.cells #[.slice Ha R.1.wants.length j1, .int .i64 R.1.preempts, .int .i64 R.1.shifts] 48))
        have HA6 : Hid (Below w.heap.size w (x6.alloc (.cells #[.slice Ha R.1.wants.length j1, .int .i64 R.1.preempts, .int .i64 R.1.shifts] 48))) := K6.out.alloc K6.out.size _
        have HL6 : Hid (Below x6.heap.size x6 (x6.alloc (.cells #[.slice Ha R.1.wants.length j1, .int .i64 R.1.preempts, .int .i64 R.1.shifts] 48))) := (Below.refl _ _).alloc (Nat.le_refl _) _
        have HG6 := Lib.hid (HG.out.below HA6.out (Nat.le_refl _))
        have HU7 := Lib.hid (HU6.out.below HL6.out)
        go_wp2_with fail
        refine (told_any R.2 _ u _ HG6.out HU7.out).mono ?_
        rintro e x7 ⟨rfl, hb7⟩
        have K7 := Lib.hid (HA6.out.trans (hb7.mono HA6.out.size))
        have hs6 : x6.heap.size < x7.heap.size := by have := hb7.size; simp at this; omega
        have HS7 := Lib.hid (HL6.out.trans (hb7.mono HL6.out.size))
        have HBe := HBd.out.later hb7
        have HBf := HBc.out.later hb7
        obtain ⟨a0, _⟩ := HBe.at 0 _ rfl
        obtain ⟨a1, _⟩ := HBe.at 1 _ rfl
        obtain ⟨a2, _⟩ := HBe.at 2 _ rfl
        obtain ⟨d0, _⟩ := HBf.at 0 _ rfl
        obtain ⟨d1, _⟩ := HBf.at 1 _ rfl
        obtain ⟨d2, _⟩ := HBf.at 2 _ rfl
        have hs57 : x5.heap.size < x7.heap.size := by omega
        have HSA := Lib.hid (sameSpec_any R.1 Fa Ha R.1.wants.length f1 j1 x7 rfl (by have := HLE.out; omega) ((HO1b.out.below HS7.out (Nat.le_refl _)).more HS7.out.size) ((HO2.out.below HS7.out (Nat.le_refl _)).more HS7.out.size))
        clear hb7 HBe HBf
        go_wp2_with fail
        refine HSA.out.mono ?_
        rintro e x8 ⟨rfl, hb8⟩
        go_wp2
        go_ret
        exact ⟨rfl, K7.out.trans (hb8.mono K7.out.size)⟩
    · rw [hso] at h0; cases h0
  | false =>
    obtain ⟨rfl, hb2⟩ := hw2.no hso
    have K2 := Lib.hid (K1.out.trans (hb2.mono K1.out.size))
    have k2 := KK1.out.trans (hb2.mono (show w.heap.size + 1 ≤ w1.heap.size by omega))
    clear b0 b1 b2
    obtain ⟨b0, b1, b2⟩ := box_cells k2
    have hwl2 : w.heap.size < w2.heap.size := by have := hb2.size; omega
    have HSO := Lib.hid hso
    clear hw2 hb2 k2
    go_wp2_with fail
    refine (HQ.out w2 K2.out).mono ?_
    rintro e w3 ⟨⟨h0, _⟩ | ⟨_, rfl⟩, hb3⟩
    · rw [hso] at h0; cases h0
    · have K4 := Lib.hid (K2.out.trans (hb3.mono K2.out.size))
      have hq : ∀ w : World, (binOp .neq 31 (.iface 52 (.int .i64 1)) (.iface 52 (.int .i64 1))).run Tryz.prog w = .ok (.bool false) w := fun _ => by kernel_rfl
      clear hb3 hso b0 b1 b2
      go_wp2
      go_quiet (fail)
      all_goals
        clear hq
        have K4 := Lib.hid (Below.drewN' (n := nq) K4.out)
        go_wp2_with fail
        refine (HRP.out _ K4.out).mono ?_
        rintro e x5 ⟨Fa, f1, u, rfl, o1, hu, hb5⟩
        have K5 := Lib.hid (K4.out.trans (hb5.mono K4.out.size))
        have HU := Lib.hid hu
        have HO1 := Lib.hid o1.recs
        clear hu hb5 o1
        generalize rdB noSpec rdSpec ns rest = R at *
        have HBa := Lib.hid (Box.new x5 [.slice Fa R.1.wants.length f1, .int .i64 R.1.preempts, .int .i64 R.1.shifts] 48)
        have HA5 : Hid (Below w.heap.size w (x5.alloc (.cells #[.slice Fa R.1.wants.length f1, .int .i64 R.1.preempts, .int .i64 R.1.shifts] 48))) := K5.out.alloc K5.out.size _
        have HL5 : Hid (Below x5.heap.size x5 (x5.alloc (.cells #[.slice Fa R.1.wants.length f1, .int .i64 R.1.preempts, .int .i64 R.1.shifts] 48))) := (Below.refl _ _).alloc (Nat.le_refl _) _
        go_wp2_with fail
        refine (HRQ.out _ HA5.out).mono ?_
        rintro e x6 ⟨Ha, j1, rfl, o2, hb6⟩
        have K6 := Lib.hid (HA5.out.trans (hb6.mono HA5.out.size))
        have hs5 : x5.heap.size < x6.heap.size := by have := hb6.size; simp at this; omega
        have HS6 := Lib.hid (HL5.out.trans (hb6.mono HL5.out.size))
        have HU6 := Lib.hid (HU.out.below HS6.out)
        have HO1b := Lib.hid ((HO1.out.below HS6.out (Nat.le_refl _)).more HS6.out.size)
        have HO2 := Lib.hid o2.recs
        have HBb := Lib.hid (HBa.out.later hb6)
        clear hb6 o2 HU HO1 HBa
        have HBc := Lib.hid (Box.new x6 [.slice Ha R.1.wants.length j1, .int .i64 R.1.preempts, .int .i64 R.1.shifts] 48)
        have HBd := Lib.hid (HBb.out.alloc (.cells #[.slice Ha R.1.wants.length j1, .int .i64 R.1.preempts, .int .i64 R.1.shifts] 48))
        have HA6 : Hid (Below w.heap.size w (x6.alloc (.cells #[.slice Ha R.1.wants.length j1, .int .i64 R.1.preempts, .int .i64 R.1.shifts] 48))) := K6.out.alloc K6.out.size _
        have HL6 : Hid (Below x6.heap.size x6 (x6.alloc (.cells #[.slice Ha R.1.wants.length j1, .int .i64 R.1.preempts, .int .i64 R.1.shifts] 48))) := (Below.refl _ _).alloc (Nat.le_refl _) _
        have HG6 := Lib.hid (HG.out.below HA6.out (Nat.le_refl _))
        have HU7 := Lib.hid (HU6.out.below HL6.out)
        go_wp2_with fail
        refine (told_any R.2 _ u _ HG6.out HU7.out).mono ?_
        rintro e x7 ⟨rfl, hb7⟩
        have K7 := Lib.hid (HA6.out.trans (hb7.mono HA6.out.size))
        have hs6 : x6.heap.size < x7.heap.size := by have := hb7.size; simp at this; omega
        have HS7 := Lib.hid (HL6.out.trans (hb7.mono HL6.out.size))
        have HBe := HBd.out.later hb7
        have HBf := HBc.out.later hb7
        obtain ⟨a0, _⟩ := HBe.at 0 _ rfl
        obtain ⟨a1, _⟩ := HBe.at 1 _ rfl
        obtain ⟨a2, _⟩ := HBe.at 2 _ rfl
        obtain ⟨d0, _⟩ := HBf.at 0 _ rfl
        obtain ⟨d1, _⟩ := HBf.at 1 _ rfl
        obtain ⟨d2, _⟩ := HBf.at 2 _ rfl
        have hs57 : x5.heap.size < x7.heap.size := by omega
        have HSA := Lib.hid (sameSpec_any R.1 Fa Ha R.1.wants.length f1 j1 x7 rfl (by have := HLE.out; omega) ((HO1b.out.below HS7.out (Nat.le_refl _)).more HS7.out.size) ((HO2.out.below HS7.out (Nat.le_refl _)).more HS7.out.size))
        clear hb7 HBe HBf
        go_wp2_with fail
        refine HSA.out.mono ?_
        rintro e x8 ⟨rfl, hb8⟩
        go_wp2
        go_ret
        exact ⟨rfl, K7.out.trans (hb8.mono K7.out.size)⟩
end Go.Proofs.YtgfleifpblcnfaaGreatDoor
