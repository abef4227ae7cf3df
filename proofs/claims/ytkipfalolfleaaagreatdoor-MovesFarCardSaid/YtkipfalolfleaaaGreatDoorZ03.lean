/- Joined texts, part 3: DEW DF UB UD UF UC. -/
import Derived.Test.YtkipfalolfleaaaGreatDoorZ02
import Derived.Test.YtkipfalolfleaaaGreatDoorZ01

/- The program's find, at one kind of record. -/
namespace Go.Proofs.YtkipfalolfleaaaGreatDoor
set_option linter.unusedSimpArgs false
open Go.RowKit
set_option linter.unusedVariables false

abbrev zeroW : Value := .agg #[.int .i64 0, .int .u64 0, .int .u64 0, .int .u64 0, .int .u64 0, .bool false]
set_option maxHeartbeats 3200000 in
set_option maxRecDepth 100000 in
theorem findW_any (l : List WantD) (id : Int) (A : Option Addr) (n c : Nat) (w : World) (hn : n = l.length) (hl : n ≤ 1000) (hr : Recs 6 cellsW w w.heap.size A l) :
    Calls Tryz.prog 66 #[.slice A n c, .int .i64 id, .func (.func 67) #[] #[]] w (FindTo aggW zeroW WantD.pod l id w) := by
  have HR := Lib.hid hr
  have HN := Lib.hid hn
  clear hr hn
  have b00 : Below w.heap.size w (w.alloc (.cells #[.int .i64 0, .int .u64 0, .int .u64 0, .int .u64 0, .int .u64 0, .bool false] 40)) := (Below.refl _ _).alloc (Nat.le_refl _) _
  go_enter Tryz.func66, Tryz.ntmps66
  go_wp2
  go_loopw [13] (FRel WantD.pod id l (w.alloc (.cells #[.int .i64 0, .int .u64 0, .int .u64 0, .int .u64 0, .int .u64 0, .bool false] 40)) (w.heap.size + 1)) (fun i _ => n - (intOf i).toNat)
  case atStart => exact ⟨0, by omega, rfl, rfl, Below.refl _ _⟩
  case round =>
    obtain ⟨k, hk, rfl, hp, hbr⟩ := hrel
    have HP := Lib.hid hp
    have hzr : w.heap.size + 1 ≤ wr.heap.size := by have := hbr.size; simpa using this
    have kwr : Below w.heap.size w wr := b00.trans (hbr.mono (by omega))
    clear hp
    by_cases hlt : k < n
    · have hkl : k < l.length := by have := HN.out; omega
      obtain ⟨b, o, rfl, hb, he⟩ := HR.out.at hkl
      generalize hx : l[k] = x at *
      have HX := Lib.hid hx
      clear hx
      have e0 : wr.cell? ⟨b, o + k * 6, none⟩ = some (.int .i64 x.pod) := (kwr.cell (p := ⟨b, o + k * 6, none⟩) hb).trans (he 0 _ rfl)
      have e1 : wr.cell? ⟨b, o + k * 6 + 1, none⟩ = some (.int .u64 x.req.a) := (kwr.cell (p := ⟨b, o + k * 6 + 1, none⟩) hb).trans (he 1 _ rfl)
      have e2 : wr.cell? ⟨b, o + k * 6 + 2, none⟩ = some (.int .u64 x.req.b) := (kwr.cell (p := ⟨b, o + k * 6 + 2, none⟩) hb).trans (he 2 _ rfl)
      have e3 : wr.cell? ⟨b, o + k * 6 + 3, none⟩ = some (.int .u64 x.req.c) := (kwr.cell (p := ⟨b, o + k * 6 + 3, none⟩) hb).trans (he 3 _ rfl)
      have e4 : wr.cell? ⟨b, o + k * 6 + 4, none⟩ = some (.int .u64 x.req.d) := (kwr.cell (p := ⟨b, o + k * 6 + 4, none⟩) hb).trans (he 4 _ rfl)
      have e5 : wr.cell? ⟨b, o + k * 6 + 5, none⟩ = some (.bool x.stay) := (kwr.cell (p := ⟨b, o + k * 6 + 5, none⟩) hb).trans (he 5 _ rfl)
      have hbw : b < wr.heap.size := by omega
      clear he
      go_wp2_with fail
      refine (idW_any x _).mono ?_
      rintro e w2 ⟨rfl, hb2⟩
      have k1 : Below (w.heap.size + 1) (w.alloc (.cells #[.int .i64 0, .int .u64 0, .int .u64 0, .int .u64 0, .int .u64 0, .bool false] 40)) (wr.alloc (.cells #[.int .i64 x.pod, .int .u64 x.req.a, .int .u64 x.req.b, .int .u64 x.req.c, .int .u64 x.req.d, .bool x.stay] 40)) := hbr.alloc hzr _
      have k2 : Below (w.heap.size + 1) (w.alloc (.cells #[.int .i64 0, .int .u64 0, .int .u64 0, .int .u64 0, .int .u64 0, .bool false] 40)) w2 := k1.trans (hb2.mono (by simp; omega))
      have kw2 : Below w.heap.size w w2 := b00.trans (k2.mono (by omega))
      clear e0 e1 e2 e3 e4 e5
      by_cases hid : x.pod = id
      · have HE := Lib.hid (place_found hkl (by rw [HX.out]; exact hid) HP.out)
        subst hid
        have f0 : w2.cell? ⟨wr.heap.size, 0, none⟩ = some (.int .i64 x.pod) := (hb2.cell (p := ⟨wr.heap.size, 0, none⟩) (by simp)).trans (by simp)
        have f1 : w2.cell? ⟨wr.heap.size, 1, none⟩ = some (.int .u64 x.req.a) := (hb2.cell (p := ⟨wr.heap.size, 1, none⟩) (by simp)).trans (by simp)
        have f2 : w2.cell? ⟨wr.heap.size, 2, none⟩ = some (.int .u64 x.req.b) := (hb2.cell (p := ⟨wr.heap.size, 2, none⟩) (by simp)).trans (by simp)
        have f3 : w2.cell? ⟨wr.heap.size, 3, none⟩ = some (.int .u64 x.req.c) := (hb2.cell (p := ⟨wr.heap.size, 3, none⟩) (by simp)).trans (by simp)
        have f4 : w2.cell? ⟨wr.heap.size, 4, none⟩ = some (.int .u64 x.req.d) := (hb2.cell (p := ⟨wr.heap.size, 4, none⟩) (by simp)).trans (by simp)
        have f5 : w2.cell? ⟨wr.heap.size, 5, none⟩ = some (.bool x.stay) := (hb2.cell (p := ⟨wr.heap.size, 5, none⟩) (by simp)).trans (by simp)
        have g0 : w2.cell? ⟨w.heap.size, 0, none⟩ = some (.int .i64 0) := (k2.cell (p := ⟨w.heap.size, 0, none⟩) (by show w.heap.size < w.heap.size + 1; omega)).trans (by simp)
        have h0 : w2.frozen? ⟨w.heap.size, 0, none⟩ = false := (k2.frozen (p := ⟨w.heap.size, 0, none⟩) (by show w.heap.size < w.heap.size + 1; omega)).trans (by simp)
        have g1 : w2.cell? ⟨w.heap.size, 1, none⟩ = some (.int .u64 0) := (k2.cell (p := ⟨w.heap.size, 1, none⟩) (by show w.heap.size < w.heap.size + 1; omega)).trans (by simp)
        have h1 : w2.frozen? ⟨w.heap.size, 1, none⟩ = false := (k2.frozen (p := ⟨w.heap.size, 1, none⟩) (by show w.heap.size < w.heap.size + 1; omega)).trans (by simp)
        have g2 : w2.cell? ⟨w.heap.size, 2, none⟩ = some (.int .u64 0) := (k2.cell (p := ⟨w.heap.size, 2, none⟩) (by show w.heap.size < w.heap.size + 1; omega)).trans (by simp)
        have h2 : w2.frozen? ⟨w.heap.size, 2, none⟩ = false := (k2.frozen (p := ⟨w.heap.size, 2, none⟩) (by show w.heap.size < w.heap.size + 1; omega)).trans (by simp)
        have g3 : w2.cell? ⟨w.heap.size, 3, none⟩ = some (.int .u64 0) := (k2.cell (p := ⟨w.heap.size, 3, none⟩) (by show w.heap.size < w.heap.size + 1; omega)).trans (by simp)
        have h3 : w2.frozen? ⟨w.heap.size, 3, none⟩ = false := (k2.frozen (p := ⟨w.heap.size, 3, none⟩) (by show w.heap.size < w.heap.size + 1; omega)).trans (by simp)
        have g4 : w2.cell? ⟨w.heap.size, 4, none⟩ = some (.int .u64 0) := (k2.cell (p := ⟨w.heap.size, 4, none⟩) (by show w.heap.size < w.heap.size + 1; omega)).trans (by simp)
        have h4 : w2.frozen? ⟨w.heap.size, 4, none⟩ = false := (k2.frozen (p := ⟨w.heap.size, 4, none⟩) (by show w.heap.size < w.heap.size + 1; omega)).trans (by simp)
        have g5 : w2.cell? ⟨w.heap.size, 5, none⟩ = some (.bool false) := (k2.cell (p := ⟨w.heap.size, 5, none⟩) (by show w.heap.size < w.heap.size + 1; omega)).trans (by simp)
        have h5 : w2.frozen? ⟨w.heap.size, 5, none⟩ = false := (k2.frozen (p := ⟨w.heap.size, 5, none⟩) (by show w.heap.size < w.heap.size + 1; omega)).trans (by simp)
        go_wp2
        refine bodyPost_ret (v := .tuple #[aggW x, .bool true]) ?_ rfl ?_
        · simp [results, Tryz.results66, go_sem, *]
        · refine ⟨.inr ⟨k, hkl, HE.out, by rw [HX.out]⟩, ?_⟩
          repeat (first | with_reducible exact kw2 | with_reducible refine Below.setCell ?_ ?_ _)
          all_goals exact Nat.le_refl _
      · have HE := Lib.hid (place_step hkl (by rw [HX.out]; exact hid) HP.out)
        go_wp2
        go_roundw
        case rel => exact ⟨k + 1, by omega, by go_num, HE.out, k2⟩
        case measure => simp [intOf]; omega
    · have HE := Lib.hid (place_end (by have := HN.out; omega) HP.out)
      have g0 : wr.cell? ⟨w.heap.size, 0, none⟩ = some (.int .i64 0) := (hbr.cell (p := ⟨w.heap.size, 0, none⟩) (by show w.heap.size < w.heap.size + 1; omega)).trans (by simp)
      have h0 : wr.frozen? ⟨w.heap.size, 0, none⟩ = false := (hbr.frozen (p := ⟨w.heap.size, 0, none⟩) (by show w.heap.size < w.heap.size + 1; omega)).trans (by simp)
      have g1 : wr.cell? ⟨w.heap.size, 1, none⟩ = some (.int .u64 0) := (hbr.cell (p := ⟨w.heap.size, 1, none⟩) (by show w.heap.size < w.heap.size + 1; omega)).trans (by simp)
      have h1 : wr.frozen? ⟨w.heap.size, 1, none⟩ = false := (hbr.frozen (p := ⟨w.heap.size, 1, none⟩) (by show w.heap.size < w.heap.size + 1; omega)).trans (by simp)
      have g2 : wr.cell? ⟨w.heap.size, 2, none⟩ = some (.int .u64 0) := (hbr.cell (p := ⟨w.heap.size, 2, none⟩) (by show w.heap.size < w.heap.size + 1; omega)).trans (by simp)
      have h2 : wr.frozen? ⟨w.heap.size, 2, none⟩ = false := (hbr.frozen (p := ⟨w.heap.size, 2, none⟩) (by show w.heap.size < w.heap.size + 1; omega)).trans (by simp)
      have g3 : wr.cell? ⟨w.heap.size, 3, none⟩ = some (.int .u64 0) := (hbr.cell (p := ⟨w.heap.size, 3, none⟩) (by show w.heap.size < w.heap.size + 1; omega)).trans (by simp)
      have h3 : wr.frozen? ⟨w.heap.size, 3, none⟩ = false := (hbr.frozen (p := ⟨w.heap.size, 3, none⟩) (by show w.heap.size < w.heap.size + 1; omega)).trans (by simp)
      have g4 : wr.cell? ⟨w.heap.size, 4, none⟩ = some (.int .u64 0) := (hbr.cell (p := ⟨w.heap.size, 4, none⟩) (by show w.heap.size < w.heap.size + 1; omega)).trans (by simp)
      have h4 : wr.frozen? ⟨w.heap.size, 4, none⟩ = false := (hbr.frozen (p := ⟨w.heap.size, 4, none⟩) (by show w.heap.size < w.heap.size + 1; omega)).trans (by simp)
      have g5 : wr.cell? ⟨w.heap.size, 5, none⟩ = some (.bool false) := (hbr.cell (p := ⟨w.heap.size, 5, none⟩) (by show w.heap.size < w.heap.size + 1; omega)).trans (by simp)
      have h5 : wr.frozen? ⟨w.heap.size, 5, none⟩ = false := (hbr.frozen (p := ⟨w.heap.size, 5, none⟩) (by show w.heap.size < w.heap.size + 1; omega)).trans (by simp)
      have hwl : w.heap.size < wr.heap.size := by omega
      have hne : w.heap.size ≠ wr.heap.size := by omega
      go_wp2
      refine bodyPost_ret (v := .tuple #[zeroW, .bool false]) ?_ rfl ?_
      · simp [results, Tryz.results66, go_sem, *]
      · refine ⟨.inl ⟨by rw [HE.out]; decide, rfl⟩, ?_⟩
        have kwa : Below w.heap.size w (wr.alloc (.cells #[.int .i64 0, .int .u64 0, .int .u64 0, .int .u64 0, .int .u64 0, .bool false] 40)) := kwr.alloc (by omega) _
        clear kwa
        repeat (first | with_reducible exact kwr | with_reducible refine Below.setCell ?_ ?_ _ | with_reducible refine Below.alloc ?_ ?_ _)
        all_goals first | (simp; done) | (simp; omega)

end Go.Proofs.YtkipfalolfleaaaGreatDoor

/- The program's Node, Load and Want. -/
namespace Go.Proofs.YtkipfalolfleaaaGreatDoor
set_option linter.unusedSimpArgs false
open Go.RowKit
set_option linter.unusedVariables false

set_option maxHeartbeats 3200000 in
set_option maxRecDepth 100000 in
theorem node_any (l : List NodeD) (id : Int) (A : Option Addr) (n c : Nat) (v2 v3 : Value) (w : World) (hn : n = l.length) (hl : n ≤ 1000) (hr : Recs 10 cellsN w w.heap.size A l) :
    Calls Tryz.prog 29 #[.agg #[.slice A n c, v2, v3], .int .i64 id] w (FindTo aggN zeroN NodeD.id l id w) := by
  have b00 := below_two w (.cells #[.slice A n c, v2, v3] 26) (.cells #[.int .i64 0, .int .i64 0, .int .u64 0, .int .u64 0, .int .u64 0, .int .u64 0, .int .u64 0, .int .u64 0, .int .u64 0, .int .u64 0] 49)
  have HF := Lib.hid (findN_any l id A n c ((w.alloc (.cells #[.slice A n c, v2, v3] 26)).alloc (.cells #[.int .i64 0, .int .i64 0, .int .u64 0, .int .u64 0, .int .u64 0, .int .u64 0, .int .u64 0, .int .u64 0, .int .u64 0, .int .u64 0] 49)) hn hl ((hr.below b00 (Nat.le_refl _)).more b00.size))
  clear hr hn
  go_enter Tryz.func29, Tryz.ntmps29
  go_wp2_with fail
  refine HF.out.mono ?_
  rintro e w1 ⟨hh, hb1⟩
  have kw1 : Below w.heap.size w w1 := b00.trans (hb1.mono b00.size)
  have g0 : w1.cell? ⟨w.heap.size + 1, 0, none⟩ = some (.int .i64 0) := (hb1.cell (p := ⟨w.heap.size + 1, 0, none⟩) (by simp)).trans (by simp)
  have h0 : w1.frozen? ⟨w.heap.size + 1, 0, none⟩ = false := (hb1.frozen (p := ⟨w.heap.size + 1, 0, none⟩) (by simp)).trans (by simp)
  have g1 : w1.cell? ⟨w.heap.size + 1, 1, none⟩ = some (.int .i64 0) := (hb1.cell (p := ⟨w.heap.size + 1, 1, none⟩) (by simp)).trans (by simp)
  have h1 : w1.frozen? ⟨w.heap.size + 1, 1, none⟩ = false := (hb1.frozen (p := ⟨w.heap.size + 1, 1, none⟩) (by simp)).trans (by simp)
  have g2 : w1.cell? ⟨w.heap.size + 1, 2, none⟩ = some (.int .u64 0) := (hb1.cell (p := ⟨w.heap.size + 1, 2, none⟩) (by simp)).trans (by simp)
  have h2 : w1.frozen? ⟨w.heap.size + 1, 2, none⟩ = false := (hb1.frozen (p := ⟨w.heap.size + 1, 2, none⟩) (by simp)).trans (by simp)
  have g3 : w1.cell? ⟨w.heap.size + 1, 3, none⟩ = some (.int .u64 0) := (hb1.cell (p := ⟨w.heap.size + 1, 3, none⟩) (by simp)).trans (by simp)
  have h3 : w1.frozen? ⟨w.heap.size + 1, 3, none⟩ = false := (hb1.frozen (p := ⟨w.heap.size + 1, 3, none⟩) (by simp)).trans (by simp)
  have g4 : w1.cell? ⟨w.heap.size + 1, 4, none⟩ = some (.int .u64 0) := (hb1.cell (p := ⟨w.heap.size + 1, 4, none⟩) (by simp)).trans (by simp)
  have h4 : w1.frozen? ⟨w.heap.size + 1, 4, none⟩ = false := (hb1.frozen (p := ⟨w.heap.size + 1, 4, none⟩) (by simp)).trans (by simp)
  have g5 : w1.cell? ⟨w.heap.size + 1, 5, none⟩ = some (.int .u64 0) := (hb1.cell (p := ⟨w.heap.size + 1, 5, none⟩) (by simp)).trans (by simp)
  have h5 : w1.frozen? ⟨w.heap.size + 1, 5, none⟩ = false := (hb1.frozen (p := ⟨w.heap.size + 1, 5, none⟩) (by simp)).trans (by simp)
  have g6 : w1.cell? ⟨w.heap.size + 1, 6, none⟩ = some (.int .u64 0) := (hb1.cell (p := ⟨w.heap.size + 1, 6, none⟩) (by simp)).trans (by simp)
  have h6 : w1.frozen? ⟨w.heap.size + 1, 6, none⟩ = false := (hb1.frozen (p := ⟨w.heap.size + 1, 6, none⟩) (by simp)).trans (by simp)
  have g7 : w1.cell? ⟨w.heap.size + 1, 7, none⟩ = some (.int .u64 0) := (hb1.cell (p := ⟨w.heap.size + 1, 7, none⟩) (by simp)).trans (by simp)
  have h7 : w1.frozen? ⟨w.heap.size + 1, 7, none⟩ = false := (hb1.frozen (p := ⟨w.heap.size + 1, 7, none⟩) (by simp)).trans (by simp)
  have g8 : w1.cell? ⟨w.heap.size + 1, 8, none⟩ = some (.int .u64 0) := (hb1.cell (p := ⟨w.heap.size + 1, 8, none⟩) (by simp)).trans (by simp)
  have h8 : w1.frozen? ⟨w.heap.size + 1, 8, none⟩ = false := (hb1.frozen (p := ⟨w.heap.size + 1, 8, none⟩) (by simp)).trans (by simp)
  have g9 : w1.cell? ⟨w.heap.size + 1, 9, none⟩ = some (.int .u64 0) := (hb1.cell (p := ⟨w.heap.size + 1, 9, none⟩) (by simp)).trans (by simp)
  have h9 : w1.frozen? ⟨w.heap.size + 1, 9, none⟩ = false := (hb1.frozen (p := ⟨w.heap.size + 1, 9, none⟩) (by simp)).trans (by simp)
  rcases hh with ⟨hp, rfl⟩ | ⟨i, hi, hp, rfl⟩
  · have HP := Lib.hid hp
    clear hp
    go_wp2
    refine bodyPost_ret (v := .tuple #[zeroN, .bool false]) ?_ rfl ?_
    · simp [results, Tryz.results29, go_sem, *]
    · refine ⟨.inl ⟨HP.out, rfl⟩, ?_⟩
      repeat (first | with_reducible exact kw1 | with_reducible refine Below.setCell ?_ ?_ _)
      all_goals (show w.heap.size ≤ w.heap.size + 1; omega)
  · have HP := Lib.hid hp
    clear hp
    generalize hx : l[i] = x at *
    have HX := Lib.hid hx
    clear hx
    go_wp2
    refine bodyPost_ret (v := .tuple #[aggN x, .bool true]) ?_ rfl ?_
    · simp [results, Tryz.results29, go_sem, *]
    · refine ⟨.inr ⟨i, hi, HP.out, by rw [HX.out]⟩, ?_⟩
      repeat (first | with_reducible exact kw1 | with_reducible refine Below.setCell ?_ ?_ _)
      all_goals (show w.heap.size ≤ w.heap.size + 1; omega)

set_option maxHeartbeats 3200000 in
set_option maxRecDepth 100000 in
theorem load_any (l : List LoadD) (id : Int) (A : Option Addr) (n c : Nat) (v1 v3 : Value) (w : World) (hn : n = l.length) (hl : n ≤ 1000) (hr : Recs 5 cellsL w w.heap.size A l) :
    Calls Tryz.prog 101 #[.agg #[v1, .slice A n c, v3], .int .i64 id] w (FindTo aggL zeroL LoadD.id l id w) := by
  have b00 := below_two w (.cells #[v1, .slice A n c, v3] 26) (.cells #[.int .i64 0, .bool false, .int .i64 0, .int .i64 0, .int .i64 0] 51)
  have HF := Lib.hid (findL_any l id A n c ((w.alloc (.cells #[v1, .slice A n c, v3] 26)).alloc (.cells #[.int .i64 0, .bool false, .int .i64 0, .int .i64 0, .int .i64 0] 51)) hn hl ((hr.below b00 (Nat.le_refl _)).more b00.size))
  clear hr hn
  go_enter Tryz.func101, Tryz.ntmps101
  go_wp2_with fail
  refine HF.out.mono ?_
  rintro e w1 ⟨hh, hb1⟩
  have kw1 : Below w.heap.size w w1 := b00.trans (hb1.mono b00.size)
  have g0 : w1.cell? ⟨w.heap.size + 1, 0, none⟩ = some (.int .i64 0) := (hb1.cell (p := ⟨w.heap.size + 1, 0, none⟩) (by simp)).trans (by simp)
  have h0 : w1.frozen? ⟨w.heap.size + 1, 0, none⟩ = false := (hb1.frozen (p := ⟨w.heap.size + 1, 0, none⟩) (by simp)).trans (by simp)
  have g1 : w1.cell? ⟨w.heap.size + 1, 1, none⟩ = some (.bool false) := (hb1.cell (p := ⟨w.heap.size + 1, 1, none⟩) (by simp)).trans (by simp)
  have h1 : w1.frozen? ⟨w.heap.size + 1, 1, none⟩ = false := (hb1.frozen (p := ⟨w.heap.size + 1, 1, none⟩) (by simp)).trans (by simp)
  have g2 : w1.cell? ⟨w.heap.size + 1, 2, none⟩ = some (.int .i64 0) := (hb1.cell (p := ⟨w.heap.size + 1, 2, none⟩) (by simp)).trans (by simp)
  have h2 : w1.frozen? ⟨w.heap.size + 1, 2, none⟩ = false := (hb1.frozen (p := ⟨w.heap.size + 1, 2, none⟩) (by simp)).trans (by simp)
  have g3 : w1.cell? ⟨w.heap.size + 1, 3, none⟩ = some (.int .i64 0) := (hb1.cell (p := ⟨w.heap.size + 1, 3, none⟩) (by simp)).trans (by simp)
  have h3 : w1.frozen? ⟨w.heap.size + 1, 3, none⟩ = false := (hb1.frozen (p := ⟨w.heap.size + 1, 3, none⟩) (by simp)).trans (by simp)
  have g4 : w1.cell? ⟨w.heap.size + 1, 4, none⟩ = some (.int .i64 0) := (hb1.cell (p := ⟨w.heap.size + 1, 4, none⟩) (by simp)).trans (by simp)
  have h4 : w1.frozen? ⟨w.heap.size + 1, 4, none⟩ = false := (hb1.frozen (p := ⟨w.heap.size + 1, 4, none⟩) (by simp)).trans (by simp)
  rcases hh with ⟨hp, rfl⟩ | ⟨i, hi, hp, rfl⟩
  · have HP := Lib.hid hp
    clear hp
    go_wp2
    refine bodyPost_ret (v := .tuple #[zeroL, .bool false]) ?_ rfl ?_
    · simp [results, Tryz.results101, go_sem, *]
    · refine ⟨.inl ⟨HP.out, rfl⟩, ?_⟩
      repeat (first | with_reducible exact kw1 | with_reducible refine Below.setCell ?_ ?_ _)
      all_goals (show w.heap.size ≤ w.heap.size + 1; omega)
  · have HP := Lib.hid hp
    clear hp
    generalize hx : l[i] = x at *
    have HX := Lib.hid hx
    clear hx
    go_wp2
    refine bodyPost_ret (v := .tuple #[aggL x, .bool true]) ?_ rfl ?_
    · simp [results, Tryz.results101, go_sem, *]
    · refine ⟨.inr ⟨i, hi, HP.out, by rw [HX.out]⟩, ?_⟩
      repeat (first | with_reducible exact kw1 | with_reducible refine Below.setCell ?_ ?_ _)
      all_goals (show w.heap.size ≤ w.heap.size + 1; omega)

set_option maxHeartbeats 3200000 in
set_option maxRecDepth 100000 in
theorem want_any (l : List WantD) (id : Int) (A : Option Addr) (n c : Nat) (v2 v3 : Value) (w : World) (hn : n = l.length) (hl : n ≤ 1000) (hr : Recs 6 cellsW w w.heap.size A l) :
    Calls Tryz.prog 48 #[.agg #[.slice A n c, v2, v3], .int .i64 id] w (FindTo aggW zeroW WantD.pod l id w) := by
  have b00 := below_two w (.cells #[.slice A n c, v2, v3] 29) (.cells #[.int .i64 0, .int .u64 0, .int .u64 0, .int .u64 0, .int .u64 0, .bool false] 40)
  have HF := Lib.hid (findW_any l id A n c ((w.alloc (.cells #[.slice A n c, v2, v3] 29)).alloc (.cells #[.int .i64 0, .int .u64 0, .int .u64 0, .int .u64 0, .int .u64 0, .bool false] 40)) hn hl ((hr.below b00 (Nat.le_refl _)).more b00.size))
  clear hr hn
  go_enter Tryz.func48, Tryz.ntmps48
  go_wp2_with fail
  refine HF.out.mono ?_
  rintro e w1 ⟨hh, hb1⟩
  have kw1 : Below w.heap.size w w1 := b00.trans (hb1.mono b00.size)
  have g0 : w1.cell? ⟨w.heap.size + 1, 0, none⟩ = some (.int .i64 0) := (hb1.cell (p := ⟨w.heap.size + 1, 0, none⟩) (by simp)).trans (by simp)
  have h0 : w1.frozen? ⟨w.heap.size + 1, 0, none⟩ = false := (hb1.frozen (p := ⟨w.heap.size + 1, 0, none⟩) (by simp)).trans (by simp)
  have g1 : w1.cell? ⟨w.heap.size + 1, 1, none⟩ = some (.int .u64 0) := (hb1.cell (p := ⟨w.heap.size + 1, 1, none⟩) (by simp)).trans (by simp)
  have h1 : w1.frozen? ⟨w.heap.size + 1, 1, none⟩ = false := (hb1.frozen (p := ⟨w.heap.size + 1, 1, none⟩) (by simp)).trans (by simp)
  have g2 : w1.cell? ⟨w.heap.size + 1, 2, none⟩ = some (.int .u64 0) := (hb1.cell (p := ⟨w.heap.size + 1, 2, none⟩) (by simp)).trans (by simp)
  have h2 : w1.frozen? ⟨w.heap.size + 1, 2, none⟩ = false := (hb1.frozen (p := ⟨w.heap.size + 1, 2, none⟩) (by simp)).trans (by simp)
  have g3 : w1.cell? ⟨w.heap.size + 1, 3, none⟩ = some (.int .u64 0) := (hb1.cell (p := ⟨w.heap.size + 1, 3, none⟩) (by simp)).trans (by simp)
  have h3 : w1.frozen? ⟨w.heap.size + 1, 3, none⟩ = false := (hb1.frozen (p := ⟨w.heap.size + 1, 3, none⟩) (by simp)).trans (by simp)
  have g4 : w1.cell? ⟨w.heap.size + 1, 4, none⟩ = some (.int .u64 0) := (hb1.cell (p := ⟨w.heap.size + 1, 4, none⟩) (by simp)).trans (by simp)
  have h4 : w1.frozen? ⟨w.heap.size + 1, 4, none⟩ = false := (hb1.frozen (p := ⟨w.heap.size + 1, 4, none⟩) (by simp)).trans (by simp)
  have g5 : w1.cell? ⟨w.heap.size + 1, 5, none⟩ = some (.bool false) := (hb1.cell (p := ⟨w.heap.size + 1, 5, none⟩) (by simp)).trans (by simp)
  have h5 : w1.frozen? ⟨w.heap.size + 1, 5, none⟩ = false := (hb1.frozen (p := ⟨w.heap.size + 1, 5, none⟩) (by simp)).trans (by simp)
  rcases hh with ⟨hp, rfl⟩ | ⟨i, hi, hp, rfl⟩
  · have HP := Lib.hid hp
    clear hp
    go_wp2
    refine bodyPost_ret (v := .tuple #[zeroW, .bool false]) ?_ rfl ?_
    · simp [results, Tryz.results48, go_sem, *]
    · refine ⟨.inl ⟨HP.out, rfl⟩, ?_⟩
      repeat (first | with_reducible exact kw1 | with_reducible refine Below.setCell ?_ ?_ _)
      all_goals (show w.heap.size ≤ w.heap.size + 1; omega)
  · have HP := Lib.hid hp
    clear hp
    generalize hx : l[i] = x at *
    have HX := Lib.hid hx
    clear hx
    go_wp2
    refine bodyPost_ret (v := .tuple #[aggW x, .bool true]) ?_ rfl ?_
    · simp [results, Tryz.results48, go_sem, *]
    · refine ⟨.inr ⟨i, hi, HP.out, by rw [HX.out]⟩, ?_⟩
      repeat (first | with_reducible exact kw1 | with_reducible refine Below.setCell ?_ ?_ _)
      all_goals (show w.heap.size ≤ w.heap.size + 1; omega)

end Go.Proofs.YtkipfalolfleaaaGreatDoor

/- The program's place and Pod of layer 5. -/
namespace Go.Proofs.YtkipfalolfleaaaGreatDoor
set_option linter.unusedSimpArgs false
open Go.RowKit
set_option linter.unusedVariables false

theorem somewhere_any (x : PodD) (w : World) : Calls Tryz.prog 31 #[aggP x] w fun e w' => e = .returned (.bool (x.node != 0)) ∧ Below w.heap.size w w' := by
  by_cases h : x.node = 0
  · have hd : (x.node != 0) = false := by simp [h]
    go_enter Tryz.func31, Tryz.ntmps31
    go_wp2
    go_ret
    exact ⟨ret_bool (by simp [h]), (Below.refl _ _).alloc (Nat.le_refl _) _⟩
  · have hd : (x.node != 0) = true := by simp [h]
    go_enter Tryz.func31, Tryz.ntmps31
    go_wp2
    go_ret
    exact ⟨ret_bool (by simp [h]), (Below.refl _ _).alloc (Nat.le_refl _) _⟩
/-- The closure in place: is this the pod's Id? -/
theorem placeClosure_any (x : PodD) (id : Int) (g : Nat) (w : World) (h0 : w.cell? ⟨g, 0, none⟩ = some (.int .i64 id)) :
    Calls Tryz.prog 45 #[aggP x, .pointer (some ⟨g, 0, none⟩)] w fun e w' => e = .returned (.bool (x.id == id)) ∧ Below w.heap.size w w' := by
  have hg : g < w.heap.size := World.block_lt_of_cell? w _ h0
  go_enter Tryz.func45, Tryz.ntmps45
  go_wp2
  go_ret
  exact ⟨rfl, (Below.refl _ _).alloc (Nat.le_refl _) _⟩
set_option maxHeartbeats 3200000 in
set_option maxRecDepth 100000 in
theorem indexFunc_any (l : List PodD) (id : Int) (g : Nat) (A : Option Addr) (n c : Nat) (w : World) (hn : n = l.length) (hl : n ≤ 1000) (hr : Recs 8 cellsP w w.heap.size A l) (h0 : w.cell? ⟨g, 0, none⟩ = some (.int .i64 id)) :
    Calls Tryz.prog 17 #[.slice A n c, .func (.func 45) #[] #[.pointer (some ⟨g, 0, none⟩)]] w fun e w' => e = .returned (.int .i64 (place PodD.id id l 0)) ∧ Below w.heap.size w w' := by
  have hg : g < w.heap.size := World.block_lt_of_cell? w _ h0
  have HR := Lib.hid hr
  have HN := Lib.hid hn
  have H0 := Lib.hid h0
  clear hr hn h0
  go_enter Tryz.func17, Tryz.ntmps17
  go_wp2
  go_loopw [8] (FRel PodD.id id l w w.heap.size) (fun i _ => n - (intOf i).toNat)
  case atStart => exact ⟨0, by omega, rfl, rfl, Below.refl _ _⟩
  case round =>
    obtain ⟨k, hk, rfl, hp, hbr⟩ := hrel
    have HP := Lib.hid hp
    have hzr := hbr.size
    clear hp
    by_cases hlt : k < n
    · have hkl : k < l.length := by have := HN.out; omega
      obtain ⟨b, o, rfl, hb, he⟩ := HR.out.at hkl
      generalize hx : l[k] = x at *
      have HX := Lib.hid hx
      clear hx
      have e0 : wr.cell? ⟨b, o + k * 8, none⟩ = some (.int .i64 x.id) := (hbr.cell (p := ⟨b, o + k * 8, none⟩) hb).trans (he 0 _ rfl)
      have e1 : wr.cell? ⟨b, o + k * 8 + 1, none⟩ = some (.int .i64 x.load) := (hbr.cell (p := ⟨b, o + k * 8 + 1, none⟩) hb).trans (he 1 _ rfl)
      have e2 : wr.cell? ⟨b, o + k * 8 + 2, none⟩ = some (.int .i64 x.prio) := (hbr.cell (p := ⟨b, o + k * 8 + 2, none⟩) hb).trans (he 2 _ rfl)
      have e3 : wr.cell? ⟨b, o + k * 8 + 3, none⟩ = some (.int .u64 x.req.a) := (hbr.cell (p := ⟨b, o + k * 8 + 3, none⟩) hb).trans (he 3 _ rfl)
      have e4 : wr.cell? ⟨b, o + k * 8 + 4, none⟩ = some (.int .u64 x.req.b) := (hbr.cell (p := ⟨b, o + k * 8 + 4, none⟩) hb).trans (he 4 _ rfl)
      have e5 : wr.cell? ⟨b, o + k * 8 + 5, none⟩ = some (.int .u64 x.req.c) := (hbr.cell (p := ⟨b, o + k * 8 + 5, none⟩) hb).trans (he 5 _ rfl)
      have e6 : wr.cell? ⟨b, o + k * 8 + 6, none⟩ = some (.int .u64 x.req.d) := (hbr.cell (p := ⟨b, o + k * 8 + 6, none⟩) hb).trans (he 6 _ rfl)
      have e7 : wr.cell? ⟨b, o + k * 8 + 7, none⟩ = some (.int .i64 x.node) := (hbr.cell (p := ⟨b, o + k * 8 + 7, none⟩) hb).trans (he 7 _ rfl)
      have hbw : b < wr.heap.size := by omega
      have hgc : wr.cell? ⟨g, 0, none⟩ = some (.int .i64 id) := (hbr.cell (p := ⟨g, 0, none⟩) hg).trans H0.out
      clear he
      go_wp2_with fail
      go_at_call 45
      refine (placeClosure_any x id g _ hgc).mono ?_
      rintro e w1 ⟨rfl, hb1⟩
      have k1 : Below w.heap.size w w1 := hbr.trans (hb1.mono hzr)
      by_cases hid : x.id = id
      · have HE := Lib.hid (place_found hkl (by rw [HX.out]; exact hid) HP.out)
        have hd : (x.id == id) = true := by simp [hid]
        clear hid
        go_wp2
        go_ret
        exact ⟨ret_int HE.out.symm, k1⟩
      · have HE := Lib.hid (place_step hkl (by rw [HX.out]; exact hid) HP.out)
        have hd : (x.id == id) = false := by simp [hid]
        clear hid
        go_wp2
        go_roundw
        case rel => exact ⟨k + 1, by omega, by go_num, HE.out, k1⟩
        case measure => simp [intOf]; omega
    · have HE := Lib.hid (place_end (by have := HN.out; omega) HP.out)
      go_wp2
      go_ret
      exact ⟨ret_int HE.out.symm, hbr⟩
theorem place_any (l : List PodD) (id : Int) (A : Option Addr) (n c : Nat) (v1 v2 : Value) (w : World) (hn : n = l.length) (hl : n ≤ 1000) (hr : Recs 8 cellsP w w.heap.size A l) :
    Calls Tryz.prog 28 #[.agg #[.slice A n c, v1, v2], .int .i64 id] w fun e w' => e = .returned (.int .i64 (place PodD.id id l 0)) ∧ Below w.heap.size w w' := by
  have b00 := below_two w (.cells #[.slice A n c, v1, v2] 31) (.cells #[.int .i64 id] 3)
  have HF := Lib.hid (indexFunc_any l id (w.heap.size + 1) A n c ((w.alloc (.cells #[.slice A n c, v1, v2] 31)).alloc (.cells #[.int .i64 id] 3)) hn hl ((hr.below b00 (Nat.le_refl _)).more b00.size) (by simp))
  have hmf : ∀ (fn : Fn) (first cap : Array Value) (w : World), (Instr.makeFunc fn first cap).run Tryz.prog w = .ok (.func fn first cap) w := fun _ _ _ _ => rfl
  clear hr hn
  go_enter Tryz.func28, Tryz.ntmps28
  go_wp2_with fail
  refine HF.out.mono ?_
  rintro e w1 ⟨rfl, hb1⟩
  go_wp2
  go_ret
  exact ⟨rfl, b00.trans (hb1.mono b00.size)⟩
theorem place_hit {l : List PodD} {id : Int} (h : ¬ place PodD.id id l 0 < 0) : ∃ i : Nat, i < l.length ∧ place PodD.id id l 0 = i := by
  have := place_ge (f := PodD.id) (id := id) (l := l) (k := 0) (by omega)
  exact ⟨(place PodD.id id l 0).toNat, by omega, by omega⟩
set_option maxHeartbeats 3200000 in
set_option maxRecDepth 100000 in
theorem statePod_any (l : List PodD) (id : Int) (A : Option Addr) (n c : Nat) (v1 v2 : Value) (w : World) (hn : n = l.length) (hl : n ≤ 1000) (hr : Recs 8 cellsP w w.heap.size A l) :
    Calls Tryz.prog 30 #[.agg #[.slice A n c, v1, v2], .int .i64 id] w (FindTo aggP zeroP PodD.id l id w) := by
  have b00 := below_two w (.cells #[.slice A n c, v1, v2] 31) (.cells #[.int .i64 0, .int .i64 0, .int .i64 0, .int .u64 0, .int .u64 0, .int .u64 0, .int .u64 0, .int .i64 0] 55)
  have HF := Lib.hid (place_any l id A n c v1 v2 ((w.alloc (.cells #[.slice A n c, v1, v2] 31)).alloc (.cells #[.int .i64 0, .int .i64 0, .int .i64 0, .int .u64 0, .int .u64 0, .int .u64 0, .int .u64 0, .int .i64 0] 55)) hn hl ((hr.below b00 (Nat.le_refl _)).more b00.size))
  have HR := Lib.hid hr
  have HN := Lib.hid hn
  clear hr hn
  go_enter Tryz.func30, Tryz.ntmps30
  go_wp2_with fail
  refine HF.out.mono ?_
  rintro e w1 ⟨rfl, hb1⟩
  have kw1 : Below w.heap.size w w1 := b00.trans (hb1.mono b00.size)
  have hz1 : w.heap.size + 2 ≤ w1.heap.size := by have := hb1.size; simpa using this
  have b0 : w1.cell? ⟨w.heap.size, 0, none⟩ = some (.slice A n c) := (hb1.cell (p := ⟨w.heap.size, 0, none⟩) (by simp; omega)).trans (by simp)
  have b1 : w1.cell? ⟨w.heap.size, 1, none⟩ = some v1 := (hb1.cell (p := ⟨w.heap.size, 1, none⟩) (by simp; omega)).trans (by simp)
  have b2 : w1.cell? ⟨w.heap.size, 2, none⟩ = some v2 := (hb1.cell (p := ⟨w.heap.size, 2, none⟩) (by simp; omega)).trans (by simp)
  have g0 : w1.cell? ⟨w.heap.size + 1, 0, none⟩ = some (.int .i64 0) := (hb1.cell (p := ⟨w.heap.size + 1, 0, none⟩) (by simp)).trans (by simp)
  have h0 : w1.frozen? ⟨w.heap.size + 1, 0, none⟩ = false := (hb1.frozen (p := ⟨w.heap.size + 1, 0, none⟩) (by simp)).trans (by simp)
  have g1 : w1.cell? ⟨w.heap.size + 1, 1, none⟩ = some (.int .i64 0) := (hb1.cell (p := ⟨w.heap.size + 1, 1, none⟩) (by simp)).trans (by simp)
  have h1 : w1.frozen? ⟨w.heap.size + 1, 1, none⟩ = false := (hb1.frozen (p := ⟨w.heap.size + 1, 1, none⟩) (by simp)).trans (by simp)
  have g2 : w1.cell? ⟨w.heap.size + 1, 2, none⟩ = some (.int .i64 0) := (hb1.cell (p := ⟨w.heap.size + 1, 2, none⟩) (by simp)).trans (by simp)
  have h2 : w1.frozen? ⟨w.heap.size + 1, 2, none⟩ = false := (hb1.frozen (p := ⟨w.heap.size + 1, 2, none⟩) (by simp)).trans (by simp)
  have g3 : w1.cell? ⟨w.heap.size + 1, 3, none⟩ = some (.int .u64 0) := (hb1.cell (p := ⟨w.heap.size + 1, 3, none⟩) (by simp)).trans (by simp)
  have h3 : w1.frozen? ⟨w.heap.size + 1, 3, none⟩ = false := (hb1.frozen (p := ⟨w.heap.size + 1, 3, none⟩) (by simp)).trans (by simp)
  have g4 : w1.cell? ⟨w.heap.size + 1, 4, none⟩ = some (.int .u64 0) := (hb1.cell (p := ⟨w.heap.size + 1, 4, none⟩) (by simp)).trans (by simp)
  have h4 : w1.frozen? ⟨w.heap.size + 1, 4, none⟩ = false := (hb1.frozen (p := ⟨w.heap.size + 1, 4, none⟩) (by simp)).trans (by simp)
  have g5 : w1.cell? ⟨w.heap.size + 1, 5, none⟩ = some (.int .u64 0) := (hb1.cell (p := ⟨w.heap.size + 1, 5, none⟩) (by simp)).trans (by simp)
  have h5 : w1.frozen? ⟨w.heap.size + 1, 5, none⟩ = false := (hb1.frozen (p := ⟨w.heap.size + 1, 5, none⟩) (by simp)).trans (by simp)
  have g6 : w1.cell? ⟨w.heap.size + 1, 6, none⟩ = some (.int .u64 0) := (hb1.cell (p := ⟨w.heap.size + 1, 6, none⟩) (by simp)).trans (by simp)
  have h6 : w1.frozen? ⟨w.heap.size + 1, 6, none⟩ = false := (hb1.frozen (p := ⟨w.heap.size + 1, 6, none⟩) (by simp)).trans (by simp)
  have g7 : w1.cell? ⟨w.heap.size + 1, 7, none⟩ = some (.int .i64 0) := (hb1.cell (p := ⟨w.heap.size + 1, 7, none⟩) (by simp)).trans (by simp)
  have h7 : w1.frozen? ⟨w.heap.size + 1, 7, none⟩ = false := (hb1.frozen (p := ⟨w.heap.size + 1, 7, none⟩) (by simp)).trans (by simp)
  by_cases hp : place PodD.id id l 0 < 0
  · have HP := Lib.hid hp
    have hd : decide (place PodD.id id l 0 < 0) = true := decide_eq_true hp
    clear hp
    go_wp2
    refine bodyPost_ret (v := .tuple #[zeroP, .bool false]) ?_ rfl ?_
    · simp [results, Tryz.results30, go_sem, *]
    · refine ⟨.inl ⟨HP.out, rfl⟩, ?_⟩
      repeat (first | with_reducible exact kw1 | with_reducible refine Below.setCell ?_ ?_ _)
      all_goals (show w.heap.size ≤ w.heap.size + 1; omega)
  · obtain ⟨i, hi, hpi⟩ := place_hit hp
    clear hp
    obtain ⟨b, o, rfl, hb, he⟩ := HR.out.at hi
    have hin : i < n := by have := HN.out; omega
    have HP := Lib.hid hpi
    rw [hpi]
    clear hpi
    generalize hx : l[i] = x at *
    have HX := Lib.hid hx
    clear hx
    have e0 : w1.cell? ⟨b, o + i * 8, none⟩ = some (.int .i64 x.id) := (kw1.cell (p := ⟨b, o + i * 8, none⟩) hb).trans (he 0 _ rfl)
    have e1 : w1.cell? ⟨b, o + i * 8 + 1, none⟩ = some (.int .i64 x.load) := (kw1.cell (p := ⟨b, o + i * 8 + 1, none⟩) hb).trans (he 1 _ rfl)
    have e2 : w1.cell? ⟨b, o + i * 8 + 2, none⟩ = some (.int .i64 x.prio) := (kw1.cell (p := ⟨b, o + i * 8 + 2, none⟩) hb).trans (he 2 _ rfl)
    have e3 : w1.cell? ⟨b, o + i * 8 + 3, none⟩ = some (.int .u64 x.req.a) := (kw1.cell (p := ⟨b, o + i * 8 + 3, none⟩) hb).trans (he 3 _ rfl)
    have e4 : w1.cell? ⟨b, o + i * 8 + 4, none⟩ = some (.int .u64 x.req.b) := (kw1.cell (p := ⟨b, o + i * 8 + 4, none⟩) hb).trans (he 4 _ rfl)
    have e5 : w1.cell? ⟨b, o + i * 8 + 5, none⟩ = some (.int .u64 x.req.c) := (kw1.cell (p := ⟨b, o + i * 8 + 5, none⟩) hb).trans (he 5 _ rfl)
    have e6 : w1.cell? ⟨b, o + i * 8 + 6, none⟩ = some (.int .u64 x.req.d) := (kw1.cell (p := ⟨b, o + i * 8 + 6, none⟩) hb).trans (he 6 _ rfl)
    have e7 : w1.cell? ⟨b, o + i * 8 + 7, none⟩ = some (.int .i64 x.node) := (kw1.cell (p := ⟨b, o + i * 8 + 7, none⟩) hb).trans (he 7 _ rfl)
    have hbw : b < w1.heap.size := by omega
    clear he
    go_wp2
    refine bodyPost_ret (v := .tuple #[aggP x, .bool true]) ?_ rfl ?_
    · simp [results, Tryz.results30, go_sem, *]
    · refine ⟨.inr ⟨i, hi, HP.out, by rw [HX.out]⟩, ?_⟩
      repeat (first | with_reducible exact kw1 | with_reducible refine Below.setCell ?_ ?_ _)
      all_goals (show w.heap.size ≤ w.heap.size + 1; omega)
end Go.Proofs.YtkipfalolfleaaaGreatDoor

/- Are two states alike? The program's and the reference's Same of layer 5. -/
namespace Go.Proofs.YtkipfalolfleaaaGreatDoor
set_option linter.unusedSimpArgs false
open Go.RowKit
set_option linter.unusedVariables false

abbrev stateV (A : Option Addr) (n c : Nat) (p s : Int) : Value := .agg #[.slice A n c, .int .i64 p, .int .i64 s]
end Go.Proofs.YtkipfalolfleaaaGreatDoor

/- What is told is new memory: a copy of a list of pods. -/
namespace Go.Proofs.YtkipfalolfleaaaGreatDoor
set_option linter.unusedSimpArgs false
open Go.RowKit
set_option linter.unusedVariables false

theorem infoPod : (Tryz.prog.info? 55).map (fun i => (i.zero, i.size, i.bytes)) = some (some (.agg #[.int .i64 0, .int .i64 0, .int .i64 0, .int .u64 0, .int .u64 0, .int .u64 0, .int .u64 0, .int .i64 0]), 8, 64) := by kernel_rfl
theorem underPods : Tryz.prog.underlying 24 = some (.slice 55) := by kernel_rfl
theorem onePod (x : PodD) : ∀ u ∈ cellsP x, u.oneCell' = true := by
  intro u hu; simp only [cellsP, List.mem_cons, List.not_mem_nil, or_false] at hu
  rcases hu with rfl | rfl | rfl | rfl | rfl | rfl | rfl | rfl <;> rfl
theorem info_parts3 {P : Program} {t : TypeId} {z : Value} {s b : Nat} (h : (P.info? t).map (fun i => (i.zero, i.size, i.bytes)) = some (some z, s, b)) : ∃ i, P.info? t = some i ∧ i.zero = some z ∧ i.size = s ∧ i.bytes = b := by
  cases hi : P.info? t with
  | none => rw [hi] at h; cases h
  | some i =>
    rw [hi] at h
    have h := Option.some.inj h
    simp only [Prod.mk.injEq] at h
    exact ⟨i, rfl, h.1, h.2.1, h.2.2⟩
theorem flatMap_len {α : Type} {size : Nat} {cells : α → List Value} (hc : ∀ x, (cells x).length = size) : ∀ xs : List α, (xs.flatMap cells).length = xs.length * size
  | [] => by simp
  | x :: r => by rw [List.flatMap_cons, List.length_append, hc, flatMap_len hc r, List.length_cons, Nat.add_one_mul]; omega
section
variable {ops : Array Oper} {rest : List Oper} {o : Oper} {a : Act} {Q : Exit → Act → World → Prop} {wr : World}
/-- append of all records of a slice, nil or not, to a row of the call's own. -/
theorem wpList_recs {α : Type} {cells : α → List Value} (t e : TypeId) (z : Value) (size bytes : Nat) (ht : Tryz.prog.underlying t = some (.slice e)) (hinfo : (Tryz.prog.info? e).map (fun i => (i.zero, i.size, i.bytes)) = some (some z, size, bytes)) (hz : z.cells.size = size) (hsz : 0 < size) (hby : bytes ≤ 1000)
    (hc : ∀ x, (cells x).length = size) (hu : ∀ x, ∀ u ∈ cells x, u.oneCell' = true)
    (hgd : o.guard = none) (s x : Operand) (ho : o.op = .call { callee := .builtin .append, args := #[s, x], argTypes := #[t, t] })
    (B R : Nat) (v : Value) (n m : Nat) (xs ys : List α) (A : Option Addr) (c : Nat) (hnil : A = none → c = 0) (hown : wr.ownsRow B e size v n (xs.flatMap cells)) (hrow : Recs size cells wr R A ys) (hB : B ≤ wr.heap.size) (hl : n + m ≤ 2000000)
    (hs : a.eval s = v) (hx : a.eval x = .slice A m c) (hm : m = ys.length)
    (h : ∀ v' w', w'.ownsRow B e size v' (n + m) ((xs ++ ys).flatMap cells) → Below B wr w' → B ≤ w'.heap.size → wpList Tryz.prog ops Q rest (a.put o.dst v') w') :
    wpList Tryz.prog ops Q (o :: rest) a wr := by
  obtain ⟨i0, hi, hz0, hz1, hz2⟩ := info_parts3 hinfo
  have fin : ∀ v' w', w'.ownsRow B e size v' (n + m) (xs.flatMap cells ++ ys.flatMap cells) → wr.grownBy w' v.ownBlock → wpList Tryz.prog ops Q rest (a.put o.dst v') w' := fun v' w' h1 h2 =>
    h v' w' (by rw [List.flatMap_append]; exact h1) ((Below.refl B wr).grown h2 hB (fun j hj => (hown.lt j hj).1)) (by have := h2.size; omega)
  rcases A with _ | ad
  · have h0 : ys = [] := by
      rcases hrow with h0 | ⟨_, _, h0, _⟩
      · exact h0
      · cases h0
    subst h0
    have := hnil rfl
    subst this
    have hm0 : m = 0 := hm
    subst hm0
    exact wpList_append_own_none hgd s x t ho B e i0 size ht hi v n (xs.flatMap cells) hs hown hx (fin v wr (by simpa using hown) (World.grownBy.refl _ _))
  · refine wpList_append_own _ hgd s x t ho B e i0 z size bytes ht hi hz0 hz1 hz2 hz hsz v n (xs.flatMap cells) hs hown ad m c (ys.flatMap cells) hx (by rw [flatMap_len hc, hm]) ?_ ?_ ?_ ?_ hB (fun v' w' h1 h2 _ => fin v' w' h1 h2)
    · intro j y hy
      rcases hrow with h0 | ⟨b, o', h0, _, h1⟩
      · subst h0; simp at hy
      · have h0' := Option.some.inj h0
        subst h0'
        have hj : j < ys.length * size := by have := (List.getElem?_eq_some_iff.1 hy).1; rwa [flatMap_len hc] at this
        have hi : j / size < ys.length := Nat.div_lt_of_lt_mul (by rw [Nat.mul_comm]; exact hj)
        have e1 : j = j / size * size + j % size := by rw [Nat.mul_comm]; exact (Nat.div_add_mod j size).symm
        rw [e1, flatMap_get hc hi (Nat.mod_lt _ hsz)] at hy
        rw [Addr.add_lit]
        have := h1 (j / size) hi (j % size) y hy
        rw [Nat.add_assoc, ← e1] at this
        exact this
    · intro u hu'
      obtain ⟨x, _, hx⟩ := List.mem_flatMap.1 hu'
      exact hu x u hx
    · unfold maxLen; omega
    · have : (n + m) * bytes ≤ (n + m) * 1000 := Nat.mul_le_mul_left _ hby
      omega
end
theorem own_form3 {w : World} {base n size : Nat} {e : TypeId} {v : Value} {xs : List Value} (h : w.ownsRow base e size v n xs) : ∃ A c, v = .slice A n c ∧ n ≤ c ∧ c ≤ maxLen ∧ (A = none → c = 0) := by
  rcases h.2 with ⟨hv, h0⟩ | ⟨g, cap, cur, hv, hb, hg, hc, hm, _⟩
  · exact ⟨none, 0, by rw [hv, h0], by omega, by decide, fun _ => rfl⟩
  · exact ⟨_, cap, hv, hc, hm, fun h => by cases h⟩
/-- A slice of these records in memory of the call's own. -/
def Fresh (l : List PodD) (w : World) (A : Option Addr) (c : Nat) (w' : World) : Prop := w'.ownsRow w.heap.size 55 8 (.slice A l.length c) l.length (l.flatMap cellsP)
theorem lenP (x : PodD) : (cellsP x).length = 8 := rfl
theorem Fresh.out {l : List PodD} {w w' : World} {A : Option Addr} {c : Nat} (h : Fresh l w A c w') : Out 8 cellsP w' l A c := out_of_own lenP rfl h
theorem Fresh.recs {l : List PodD} {w w' : World} {A : Option Addr} {c : Nat} (h : Fresh l w A c w') : Recs 8 cellsP w' w'.heap.size A l := h.out.2.2.2
set_option maxHeartbeats 800000 in
theorem clone_any (l : List PodD) (A : Option Addr) (n c : Nat) (w : World) (hn : n = l.length) (hl : n ≤ 1000) (h0 : A = none → c = 0) (hr : Recs 8 cellsP w w.heap.size A l) :
    Calls Tryz.prog 32 #[.slice A n c] w fun e w' => ∃ A' c', e = .returned (.slice A' n c') ∧ Fresh l w A' c' w' ∧ Below w.heap.size w w' := by
  have HR := Lib.hid hr
  have HN := Lib.hid hn
  have H0 := Lib.hid h0
  clear hr hn h0
  go_enter Tryz.func32, Tryz.ntmps32
  go_wp2_with (at_builtin; refine wpList_recs 24 55 (.agg #[.int .i64 0, .int .i64 0, .int .i64 0, .int .u64 0, .int .u64 0, .int .u64 0, .int .u64 0, .int .i64 0]) 8 64 underPods infoPod rfl (by decide) (by decide) lenP onePod rfl (.const (.slice none 0 0)) (.tmp 3) rfl w.heap.size w.heap.size (.slice none 0 0) 0 n [] l A c H0.out (World.ownsRow_nil _ _ _ _) HR.out (Nat.le_refl _) (by omega) rfl rfl HN.out ?_; intro v' w' hown hb hB)
  obtain ⟨A', c', rfl, _⟩ := own_form3 hown
  rw [Nat.zero_add] at hown
  go_ret
  refine ⟨A', c', congrArg (fun k => Ending.returned (.slice A' k c')) (Nat.zero_add n), ?_, hb⟩
  have := HN.out
  subst this
  exact hown
/-- A row of the call's own is told, and a box of the call's own is written. -/
def OwnAt (B : Nat) (l : List PodD) (w : World) (A : Option Addr) (c : Nat) : Prop := w.ownsRow B 55 8 (.slice A l.length c) l.length (l.flatMap cellsP)
theorem OwnAt.set {B : Nat} {l : List PodD} {w : World} {A : Option Addr} {c : Nat} (h : OwnAt B l w A c) {p : Addr} (hp : p.block < B) (v : Value) : OwnAt B l (w.setCell p v) A c := by
  refine ⟨h.1, ?_⟩
  rcases h.2 with h0 | ⟨g, cap, cur, hv, hb, hg, rest⟩
  · exact .inl h0
  · exact .inr ⟨g, cap, cur, hv, hb, (Below.heap_setCell w p v g (by omega)).trans hg, rest⟩
theorem OwnAt.out {B : Nat} {l : List PodD} {w : World} {A : Option Addr} {c : Nat} (h : OwnAt B l w A c) : Out 8 cellsP w l A c := out_of_own lenP rfl h
theorem OwnAt.of {l : List PodD} {w w' : World} {A : Option Addr} {c : Nat} (h : Fresh l w A c w') : OwnAt w.heap.size l w' A c := h
theorem below_three (w : World) (o o' o'' : Obj) : Below w.heap.size w (((w.alloc o).alloc o').alloc o'') := (below_two w o o').alloc (by simp; omega) o''
theorem below_four (w : World) (o o' o'' o3 : Obj) : Below w.heap.size w ((((w.alloc o).alloc o').alloc o'').alloc o3) := (below_three w o o' o'').alloc (by simp; omega) o3
end Go.Proofs.YtkipfalolfleaaaGreatDoor

namespace Go.Proofs.YtkipfalolfleaaaGreatDoor
set_option linter.unusedSimpArgs false
open Go.RowKit
set_option linter.unusedVariables false

def GoalRel (x : List WantD) (l : List PodD) (W : World) (B : Nat) (i : Value) (wr : World) : Prop := ∃ k : Nat, k ≤ x.length ∧ i = .int .i64 k ∧ goalD (x.drop k) l = goalD x l ∧ Below B W wr
end Go.Proofs.YtkipfalolfleaaaGreatDoor
