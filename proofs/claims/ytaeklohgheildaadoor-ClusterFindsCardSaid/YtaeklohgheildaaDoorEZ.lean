/- The program's Zones, from what slices.Sort and slices.Compact come to. -/
import Derived.Test.YtaeklohgheildaaDoorCZ
import Derived.Test.YtaeklohgheildaaDoorEM
import Derived.Test.YtaeklohgheildaaDoorCC
namespace Go.Proofs.YtaeklohgheildaaDoor
open Go.RowKit
set_option linter.unusedVariables false

abbrev sortI (zs : List Int) : List Int := zs.mergeSort fun x y => decide (x ≤ y)
/-- slices.Sort at a slice of the call's own. -/
def SortOwn : Prop := ∀ (B : Nat) (v : Value) (zs : List Int) (w : World), B ≤ w.heap.size → w.ownsRow B 3 1 v zs.length (i64s zs) → zs.length ≤ 1000 →
  Calls Tryd.prog 48 #[v] w fun e w' => e = .returned (.tuple #[]) ∧ w'.ownsRow B 3 1 v zs.length (i64s (sortI zs)) ∧ Below B w w'
def CompTo (zs : List Int) (B : Nat) (w : World) (e : Ending) (w' : World) : Prop := ∃ v', e = .returned v' ∧ w'.ownsRow B 3 1 v' (Lib.compact zs).length (i64s (Lib.compact zs)) ∧ Below B w w'
/-- slices.Compact at a slice of the call's own. -/
def CompOwn : Prop := ∀ (B : Nat) (v : Value) (zs : List Int) (w : World), B ≤ w.heap.size → w.ownsRow B 3 1 v zs.length (i64s zs) → zs.length ≤ 1000 → Calls Tryd.prog 49 #[v] w (CompTo zs B w)

def ZoRel (l : List NodeD) (W : World) (B : Nat) (v i : Value) (wr : World) : Prop :=
  ∃ k : Nat, k ≤ l.length ∧ i = .int .i64 k ∧ wr.ownsRow B 3 1 v (i64s ((l.take k).map NodeD.zone)).length (i64s ((l.take k).map NodeD.zone)) ∧ Below B W wr
theorem zones_more {l : List NodeD} {k : Nat} {nd : NodeD} (h : k < l.length) (hx : l[k] = nd) : i64s ((l.take (k + 1)).map NodeD.zone) = i64s ((l.take k).map NodeD.zone) ++ [.int .i64 nd.zone] := by
  rw [List.take_succ_eq_append_getElem h, hx]; simp

set_option maxHeartbeats 3200000 in
set_option maxRecDepth 100000 in
theorem zones_any (HS : SortOwn) (HC : CompOwn) (l : List NodeD) (A : Option Addr) (n c : Nat) (v2 v3 : Value) (w : World) (hn : n = l.length) (hl : n ≤ 1000) (hr : Recs 10 cellsN w w.heap.size A l) :
    Calls Tryd.prog 20 #[.agg #[.slice A n c, v2, v3]] w (ZonesTo l w) := by
  have HSS := Lib.hid HS
  have HCC := Lib.hid HC
  have HR := Lib.hid hr
  have HN := Lib.hid hn
  clear hr hn HS HC
  have b00 : Below w.heap.size w (w.alloc (.cells #[.slice A n c, v2, v3] 26)) := (Below.refl _ _).alloc (Nat.le_refl _) _
  go_enter Tryd.func20, Tryd.ntmps20
  go_wp2
  go_loopw [3, 9] (ZoRel l (w.alloc (.cells #[.slice A n c, v2, v3] 26)) (w.heap.size + 1)) (fun _ i _ => n - (intOf i).toNat)
  case atStart => exact ⟨0, by omega, rfl, ⟨by simp, .inl ⟨rfl, by simp⟩⟩, Below.refl _ _⟩
  case round =>
    obtain ⟨k, hk, rfl, hown, hbr⟩ := hrel
    have HOWN := Lib.hid hown
    have hzr : w.heap.size + 1 ≤ wr.heap.size := by have := hbr.size; simpa using this
    have kwr : Below w.heap.size w wr := b00.trans (hbr.mono (by omega))
    clear hown
    by_cases hlt : k < n
    · have hkl : k < l.length := by have := HN.out; omega
      obtain ⟨b, o, rfl, hb, he⟩ := HR.out.at hkl
      generalize hx : l[k] = nd at *
      have HX := Lib.hid hx
      clear hx
      have e0 : wr.cell? ⟨b, o + k * 10, none⟩ = some (.int .i64 nd.id) := (kwr.cell (p := ⟨b, o + k * 10, none⟩) hb).trans (he 0 _ rfl)
      have e1 : wr.cell? ⟨b, o + k * 10 + 1, none⟩ = some (.int .i64 nd.zone) := (kwr.cell (p := ⟨b, o + k * 10 + 1, none⟩) hb).trans (he 1 _ rfl)
      have e2 : wr.cell? ⟨b, o + k * 10 + 2, none⟩ = some (.int .u64 nd.cap.a) := (kwr.cell (p := ⟨b, o + k * 10 + 2, none⟩) hb).trans (he 2 _ rfl)
      have e3 : wr.cell? ⟨b, o + k * 10 + 3, none⟩ = some (.int .u64 nd.cap.b) := (kwr.cell (p := ⟨b, o + k * 10 + 3, none⟩) hb).trans (he 3 _ rfl)
      have e4 : wr.cell? ⟨b, o + k * 10 + 4, none⟩ = some (.int .u64 nd.cap.c) := (kwr.cell (p := ⟨b, o + k * 10 + 4, none⟩) hb).trans (he 4 _ rfl)
      have e5 : wr.cell? ⟨b, o + k * 10 + 5, none⟩ = some (.int .u64 nd.cap.d) := (kwr.cell (p := ⟨b, o + k * 10 + 5, none⟩) hb).trans (he 5 _ rfl)
      have e6 : wr.cell? ⟨b, o + k * 10 + 6, none⟩ = some (.int .u64 nd.held.a) := (kwr.cell (p := ⟨b, o + k * 10 + 6, none⟩) hb).trans (he 6 _ rfl)
      have e7 : wr.cell? ⟨b, o + k * 10 + 7, none⟩ = some (.int .u64 nd.held.b) := (kwr.cell (p := ⟨b, o + k * 10 + 7, none⟩) hb).trans (he 7 _ rfl)
      have e8 : wr.cell? ⟨b, o + k * 10 + 8, none⟩ = some (.int .u64 nd.held.c) := (kwr.cell (p := ⟨b, o + k * 10 + 8, none⟩) hb).trans (he 8 _ rfl)
      have e9 : wr.cell? ⟨b, o + k * 10 + 9, none⟩ = some (.int .u64 nd.held.d) := (kwr.cell (p := ⟨b, o + k * 10 + 9, none⟩) hb).trans (he 9 _ rfl)
      have hbw : b < wr.heap.size := by omega
      have HM := Lib.hid (zones_more hkl HX.out)
      have HL : Hid ((i64s ((l.take k).map NodeD.zone)).length ≤ 2000000) := by show _ ≤ _; simp; omega
      have k1 : Below (w.heap.size + 1) (w.alloc (.cells #[.slice (some ⟨b, o, none⟩) n c, v2, v3] 26)) (wr.alloc (.cells #[.int .i64 nd.id, .int .i64 nd.zone, .int .u64 nd.cap.a, .int .u64 nd.cap.b, .int .u64 nd.cap.c, .int .u64 nd.cap.d, .int .u64 nd.held.a, .int .u64 nd.held.b, .int .u64 nd.held.c, .int .u64 nd.held.d] 45)) := hbr.alloc hzr _
      have HO1 := Lib.hid (HOWN.out.alloc (.cells #[.int .i64 nd.id, .int .i64 nd.zone, .int .u64 nd.cap.a, .int .u64 nd.cap.b, .int .u64 nd.cap.c, .int .u64 nd.cap.d, .int .u64 nd.held.a, .int .u64 nd.held.b, .int .u64 nd.held.c, .int .u64 nd.held.d] 45))
      clear he
      go_wp2_with (at_builtin; refine wpList_push 58 3 (.int .i64 0) 8 Tryd.underlying58 Tryd.info3 rfl (by decide) rfl (.tmp 13) (.tmp 16) rfl (w.heap.size + 1) _ (i64s ((l.take k).map NodeD.zone)) (.int .i64 nd.zone) rfl HO1.out (by show w.heap.size + 1 ≤ (wr.alloc _).heap.size; simp; omega) HL.out rfl (by simp [go_sem]) ?_; intro v5 w3 hown3 hb3 hB3)
      have HO3 := Lib.hid hown3
      clear hown3
      go_wp2
      go_roundw
      case rel => exact ⟨k + 1, by omega, by go_num, by rw [HM.out]; exact HO3.out, k1.trans hb3⟩
      case measure => simp [intOf]; omega
    · have HK : Hid (l.take k = l) := List.take_of_length_le (by have := HN.out; omega)
      have HO : Hid (wr.ownsRow (w.heap.size + 1) 3 1 u3 (l.map NodeD.zone).length (i64s (l.map NodeD.zone))) := by
        have h := HOWN.out
        rw [HK.out, List.length_map (f := Value.int .i64)] at h
        exact h
      have HLL : Hid ((l.map NodeD.zone).length ≤ 1000) := by show _ ≤ _; have := HN.out; simp; omega
      go_wp2_with fail
      refine (HSS.out _ _ _ _ hzr HO.out HLL.out).mono ?_
      rintro e w1 ⟨rfl, hown1, hb1⟩
      have HO1 : Hid (w1.ownsRow (w.heap.size + 1) 3 1 u3 (sortI (l.map NodeD.zone)).length (i64s (sortI (l.map NodeD.zone)))) := by
        rw [show (sortI (l.map NodeD.zone)).length = (l.map NodeD.zone).length from List.length_mergeSort _]; exact hown1
      have HL1 : Hid ((sortI (l.map NodeD.zone)).length ≤ 1000) := by
        show _ ≤ _; rw [show (sortI (l.map NodeD.zone)).length = (l.map NodeD.zone).length from List.length_mergeSort _]; exact HLL.out
      clear hown1
      have hz1 : w.heap.size + 1 ≤ w1.heap.size := Nat.le_trans hzr hb1.size
      go_wp2_with fail
      refine (HCC.out _ _ _ _ hz1 HO1.out HL1.out).mono ?_
      rintro e w2 ⟨v', rfl, hown2, hb2⟩
      rw [zones_compact] at hown2
      have HO2 := Lib.hid hown2
      clear hown2
      have kw2 : Below w.heap.size w w2 := b00.trans (((hbr.trans hb1).trans hb2).mono (by omega))
      go_wp2
      go_ret
      exact ⟨_, rfl, by rw [List.length_map]; exact HO2.out, kw2⟩
end Go.Proofs.YtaeklohgheildaaDoor
