/- The program's find, at one kind of record. -/
import Derived.Test.YtaeklohgheildaaDoorDE
namespace Go.Proofs.YtaeklohgheildaaDoor
open Go.RowKit
set_option linter.unusedVariables false

abbrev zeroL : Value := .agg #[.int .i64 0, .bool false, .int .i64 0, .int .i64 0, .int .i64 0]
set_option maxHeartbeats 3200000 in
set_option maxRecDepth 100000 in
theorem findL_any (l : List LoadD) (id : Int) (A : Option Addr) (n c : Nat) (w : World) (hn : n = l.length) (hl : n ≤ 1000) (hr : Recs 5 cellsL w w.heap.size A l) :
    Calls Tryd.prog 46 #[.slice A n c, .int .i64 id, .func (.func 33) #[] #[]] w (FindTo aggL zeroL LoadD.id l id w) := by
  have HR := Lib.hid hr
  have HN := Lib.hid hn
  clear hr hn
  have b00 : Below w.heap.size w (w.alloc (.cells #[.int .i64 0, .bool false, .int .i64 0, .int .i64 0, .int .i64 0] 49)) := (Below.refl _ _).alloc (Nat.le_refl _) _
  go_enter Tryd.func46, Tryd.ntmps46
  go_wp2
  go_loopw [13] (FRel LoadD.id id l (w.alloc (.cells #[.int .i64 0, .bool false, .int .i64 0, .int .i64 0, .int .i64 0] 49)) (w.heap.size + 1)) (fun i _ => n - (intOf i).toNat)
  case atStart => exact ⟨0, by omega, rfl, rfl, Below.refl _ _⟩
  case round =>
    obtain ⟨k, hk, rfl, hp, hbr⟩ := hrel
    have HP := Lib.hid hp
    have hzr : w.heap.size + 1 ≤ wr.heap.size := by have := hbr.size; simpa using this
    have kwr : Below w.heap.size w wr := b00.trans (hbr.mono (by omega))
    clear hp
    by_cases hlt : k < n
    · have hkl : k < l.length := by have := HN.out; omega
      obtain ⟨b, o, rfl, hb, he⟩ := HR.out.at hkl
      generalize hx : l[k] = x at *
      have HX := Lib.hid hx
      clear hx
      have e0 : wr.cell? ⟨b, o + k * 5, none⟩ = some (.int .i64 x.id) := (kwr.cell (p := ⟨b, o + k * 5, none⟩) hb).trans (he 0 _ rfl)
      have e1 : wr.cell? ⟨b, o + k * 5 + 1, none⟩ = some (.bool x.apart) := (kwr.cell (p := ⟨b, o + k * 5 + 1, none⟩) hb).trans (he 1 _ rfl)
      have e2 : wr.cell? ⟨b, o + k * 5 + 2, none⟩ = some (.int .i64 x.skew) := (kwr.cell (p := ⟨b, o + k * 5 + 2, none⟩) hb).trans (he 2 _ rfl)
      have e3 : wr.cell? ⟨b, o + k * 5 + 3, none⟩ = some (.int .i64 x.min) := (kwr.cell (p := ⟨b, o + k * 5 + 3, none⟩) hb).trans (he 3 _ rfl)
      have e4 : wr.cell? ⟨b, o + k * 5 + 4, none⟩ = some (.int .i64 x.max) := (kwr.cell (p := ⟨b, o + k * 5 + 4, none⟩) hb).trans (he 4 _ rfl)
      have hbw : b < wr.heap.size := by omega
      clear he
      go_wp2_with fail
      refine (idL_any x _).mono ?_
      rintro e w2 ⟨rfl, hb2⟩
      have k1 : Below (w.heap.size + 1) (w.alloc (.cells #[.int .i64 0, .bool false, .int .i64 0, .int .i64 0, .int .i64 0] 49)) (wr.alloc (.cells #[.int .i64 x.id, .bool x.apart, .int .i64 x.skew, .int .i64 x.min, .int .i64 x.max] 49)) := hbr.alloc hzr _
      have k2 : Below (w.heap.size + 1) (w.alloc (.cells #[.int .i64 0, .bool false, .int .i64 0, .int .i64 0, .int .i64 0] 49)) w2 := k1.trans (hb2.mono (by simp; omega))
      have kw2 : Below w.heap.size w w2 := b00.trans (k2.mono (by omega))
      clear e0 e1 e2 e3 e4
      by_cases hid : x.id = id
      · have HE := Lib.hid (place_found hkl (by rw [HX.out]; exact hid) HP.out)
        subst hid
        have f0 : w2.cell? ⟨wr.heap.size, 0, none⟩ = some (.int .i64 x.id) := (hb2.cell (p := ⟨wr.heap.size, 0, none⟩) (by simp)).trans (by simp)
        have f1 : w2.cell? ⟨wr.heap.size, 1, none⟩ = some (.bool x.apart) := (hb2.cell (p := ⟨wr.heap.size, 1, none⟩) (by simp)).trans (by simp)
        have f2 : w2.cell? ⟨wr.heap.size, 2, none⟩ = some (.int .i64 x.skew) := (hb2.cell (p := ⟨wr.heap.size, 2, none⟩) (by simp)).trans (by simp)
        have f3 : w2.cell? ⟨wr.heap.size, 3, none⟩ = some (.int .i64 x.min) := (hb2.cell (p := ⟨wr.heap.size, 3, none⟩) (by simp)).trans (by simp)
        have f4 : w2.cell? ⟨wr.heap.size, 4, none⟩ = some (.int .i64 x.max) := (hb2.cell (p := ⟨wr.heap.size, 4, none⟩) (by simp)).trans (by simp)
        have g0 : w2.cell? ⟨w.heap.size, 0, none⟩ = some (.int .i64 0) := (k2.cell (p := ⟨w.heap.size, 0, none⟩) (by show w.heap.size < w.heap.size + 1; omega)).trans (by simp)
        have h0 : w2.frozen? ⟨w.heap.size, 0, none⟩ = false := (k2.frozen (p := ⟨w.heap.size, 0, none⟩) (by show w.heap.size < w.heap.size + 1; omega)).trans (by simp)
        have g1 : w2.cell? ⟨w.heap.size, 1, none⟩ = some (.bool false) := (k2.cell (p := ⟨w.heap.size, 1, none⟩) (by show w.heap.size < w.heap.size + 1; omega)).trans (by simp)
        have h1 : w2.frozen? ⟨w.heap.size, 1, none⟩ = false := (k2.frozen (p := ⟨w.heap.size, 1, none⟩) (by show w.heap.size < w.heap.size + 1; omega)).trans (by simp)
        have g2 : w2.cell? ⟨w.heap.size, 2, none⟩ = some (.int .i64 0) := (k2.cell (p := ⟨w.heap.size, 2, none⟩) (by show w.heap.size < w.heap.size + 1; omega)).trans (by simp)
        have h2 : w2.frozen? ⟨w.heap.size, 2, none⟩ = false := (k2.frozen (p := ⟨w.heap.size, 2, none⟩) (by show w.heap.size < w.heap.size + 1; omega)).trans (by simp)
        have g3 : w2.cell? ⟨w.heap.size, 3, none⟩ = some (.int .i64 0) := (k2.cell (p := ⟨w.heap.size, 3, none⟩) (by show w.heap.size < w.heap.size + 1; omega)).trans (by simp)
        have h3 : w2.frozen? ⟨w.heap.size, 3, none⟩ = false := (k2.frozen (p := ⟨w.heap.size, 3, none⟩) (by show w.heap.size < w.heap.size + 1; omega)).trans (by simp)
        have g4 : w2.cell? ⟨w.heap.size, 4, none⟩ = some (.int .i64 0) := (k2.cell (p := ⟨w.heap.size, 4, none⟩) (by show w.heap.size < w.heap.size + 1; omega)).trans (by simp)
        have h4 : w2.frozen? ⟨w.heap.size, 4, none⟩ = false := (k2.frozen (p := ⟨w.heap.size, 4, none⟩) (by show w.heap.size < w.heap.size + 1; omega)).trans (by simp)
        go_wp2
        refine bodyPost_ret (v := .tuple #[aggL x, .bool true]) ?_ rfl ?_
        · simp [results, Tryd.results46, go_sem, *]
        · refine ⟨.inr ⟨k, hkl, HE.out, by rw [HX.out]⟩, ?_⟩
          repeat (first | with_reducible exact kw2 | with_reducible refine Below.setCell ?_ ?_ _)
          all_goals exact Nat.le_refl _
      · have HE := Lib.hid (place_step hkl (by rw [HX.out]; exact hid) HP.out)
        go_wp2
        go_roundw
        case rel => exact ⟨k + 1, by omega, by go_num, HE.out, k2⟩
        case measure => simp [intOf]; omega
    · have HE := Lib.hid (place_end (by have := HN.out; omega) HP.out)
      have g0 : wr.cell? ⟨w.heap.size, 0, none⟩ = some (.int .i64 0) := (hbr.cell (p := ⟨w.heap.size, 0, none⟩) (by show w.heap.size < w.heap.size + 1; omega)).trans (by simp)
      have h0 : wr.frozen? ⟨w.heap.size, 0, none⟩ = false := (hbr.frozen (p := ⟨w.heap.size, 0, none⟩) (by show w.heap.size < w.heap.size + 1; omega)).trans (by simp)
      have g1 : wr.cell? ⟨w.heap.size, 1, none⟩ = some (.bool false) := (hbr.cell (p := ⟨w.heap.size, 1, none⟩) (by show w.heap.size < w.heap.size + 1; omega)).trans (by simp)
      have h1 : wr.frozen? ⟨w.heap.size, 1, none⟩ = false := (hbr.frozen (p := ⟨w.heap.size, 1, none⟩) (by show w.heap.size < w.heap.size + 1; omega)).trans (by simp)
      have g2 : wr.cell? ⟨w.heap.size, 2, none⟩ = some (.int .i64 0) := (hbr.cell (p := ⟨w.heap.size, 2, none⟩) (by show w.heap.size < w.heap.size + 1; omega)).trans (by simp)
      have h2 : wr.frozen? ⟨w.heap.size, 2, none⟩ = false := (hbr.frozen (p := ⟨w.heap.size, 2, none⟩) (by show w.heap.size < w.heap.size + 1; omega)).trans (by simp)
      have g3 : wr.cell? ⟨w.heap.size, 3, none⟩ = some (.int .i64 0) := (hbr.cell (p := ⟨w.heap.size, 3, none⟩) (by show w.heap.size < w.heap.size + 1; omega)).trans (by simp)
      have h3 : wr.frozen? ⟨w.heap.size, 3, none⟩ = false := (hbr.frozen (p := ⟨w.heap.size, 3, none⟩) (by show w.heap.size < w.heap.size + 1; omega)).trans (by simp)
      have g4 : wr.cell? ⟨w.heap.size, 4, none⟩ = some (.int .i64 0) := (hbr.cell (p := ⟨w.heap.size, 4, none⟩) (by show w.heap.size < w.heap.size + 1; omega)).trans (by simp)
      have h4 : wr.frozen? ⟨w.heap.size, 4, none⟩ = false := (hbr.frozen (p := ⟨w.heap.size, 4, none⟩) (by show w.heap.size < w.heap.size + 1; omega)).trans (by simp)
      have hwl : w.heap.size < wr.heap.size := by omega
      have hne : w.heap.size ≠ wr.heap.size := by omega
      go_wp2
      refine bodyPost_ret (v := .tuple #[zeroL, .bool false]) ?_ rfl ?_
      · simp [results, Tryd.results46, go_sem, *]
      · refine ⟨.inl ⟨by rw [HE.out]; decide, rfl⟩, ?_⟩
        have kwa : Below w.heap.size w (wr.alloc (.cells #[.int .i64 0, .bool false, .int .i64 0, .int .i64 0, .int .i64 0] 49)) := kwr.alloc (by omega) _
        clear kwa
        repeat (first | with_reducible exact kwr | with_reducible refine Below.setCell ?_ ?_ _ | with_reducible refine Below.alloc ?_ ?_ _)
        all_goals first | (simp; done) | (simp; omega)

end Go.Proofs.YtaeklohgheildaaDoor
