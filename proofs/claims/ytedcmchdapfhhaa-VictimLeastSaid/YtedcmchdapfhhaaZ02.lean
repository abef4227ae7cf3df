/- Joined texts, part 2: DF UB UD M A L UF UC UG UH UI PA. -/
import Derived.Test.YtedcmchdapfhhaaZ01
import Derived.KernelRfl
import Derived.Test.YtedcmchdapfhhaaRows
import Derived.WalkKit
import Derived.WalkSpells
import Derived.WalkLawsBesides
import Derived.Lib.Hide
import Derived.OwnWalk
import Derived.Laws.AppendOwnNone
import Derived.Laws.BytesArg
import Derived.Laws.BitsAllLaws
import Derived.Laws.Bits128

/- The program's Node, Load and Want. -/
namespace Go.Proofs.Ytedcmchdapfhhaa
set_option linter.unusedSimpArgs false
open Go.RowKit
set_option linter.unusedVariables false

set_option maxHeartbeats 3200000 in
set_option maxRecDepth 100000 in
theorem node_any (l : List NodeD) (id : Int) (A : Option Addr) (n c : Nat) (v2 v3 : Value) (w : World) (hn : n = l.length) (hl : n ≤ 1000) (hr : Recs 10 cellsN w w.heap.size A l) :
    Calls Try.prog 21 #[.agg #[.slice A n c, v2, v3], .int .i64 id] w (FindTo aggN zeroN NodeD.id l id w) := by
  have b00 := below_two w (.cells #[.slice A n c, v2, v3] 26) (.cells #[.int .i64 0, .int .i64 0, .int .u64 0, .int .u64 0, .int .u64 0, .int .u64 0, .int .u64 0, .int .u64 0, .int .u64 0, .int .u64 0] 48)
  have HF := Lib.hid (findN_any l id A n c ((w.alloc (.cells #[.slice A n c, v2, v3] 26)).alloc (.cells #[.int .i64 0, .int .i64 0, .int .u64 0, .int .u64 0, .int .u64 0, .int .u64 0, .int .u64 0, .int .u64 0, .int .u64 0, .int .u64 0] 48)) hn hl ((hr.below b00 (Nat.le_refl _)).more b00.size))
  clear hr hn
  go_enter Try.func21, Try.ntmps21
  go_wp2_with fail
  refine HF.out.mono ?_
  rintro e w1 ⟨hh, hb1⟩
  have kw1 : Below w.heap.size w w1 := b00.trans (hb1.mono b00.size)
  have g0 : w1.cell? ⟨w.heap.size + 1, 0, none⟩ = some (.int .i64 0) := (hb1.cell (p := ⟨w.heap.size + 1, 0, none⟩) (by simp)).trans (by simp)
  have h0 : w1.frozen? ⟨w.heap.size + 1, 0, none⟩ = false := (hb1.frozen (p := ⟨w.heap.size + 1, 0, none⟩) (by simp)).trans (by simp)
  have g1 : w1.cell? ⟨w.heap.size + 1, 1, none⟩ = some (.int .i64 0) := (hb1.cell (p := ⟨w.heap.size + 1, 1, none⟩) (by simp)).trans (by simp)
  have h1 : w1.frozen? ⟨w.heap.size + 1, 1, none⟩ = false := (hb1.frozen (p := ⟨w.heap.size + 1, 1, none⟩) (by simp)).trans (by simp)
  have g2 : w1.cell? ⟨w.heap.size + 1, 2, none⟩ = some (.int .u64 0) := (hb1.cell (p := ⟨w.heap.size + 1, 2, none⟩) (by simp)).trans (by simp)
  have h2 : w1.frozen? ⟨w.heap.size + 1, 2, none⟩ = false := (hb1.frozen (p := ⟨w.heap.size + 1, 2, none⟩) (by simp)).trans (by simp)
  have g3 : w1.cell? ⟨w.heap.size + 1, 3, none⟩ = some (.int .u64 0) := (hb1.cell (p := ⟨w.heap.size + 1, 3, none⟩) (by simp)).trans (by simp)
  have h3 : w1.frozen? ⟨w.heap.size + 1, 3, none⟩ = false := (hb1.frozen (p := ⟨w.heap.size + 1, 3, none⟩) (by simp)).trans (by simp)
  have g4 : w1.cell? ⟨w.heap.size + 1, 4, none⟩ = some (.int .u64 0) := (hb1.cell (p := ⟨w.heap.size + 1, 4, none⟩) (by simp)).trans (by simp)
  have h4 : w1.frozen? ⟨w.heap.size + 1, 4, none⟩ = false := (hb1.frozen (p := ⟨w.heap.size + 1, 4, none⟩) (by simp)).trans (by simp)
  have g5 : w1.cell? ⟨w.heap.size + 1, 5, none⟩ = some (.int .u64 0) := (hb1.cell (p := ⟨w.heap.size + 1, 5, none⟩) (by simp)).trans (by simp)
  have h5 : w1.frozen? ⟨w.heap.size + 1, 5, none⟩ = false := (hb1.frozen (p := ⟨w.heap.size + 1, 5, none⟩) (by simp)).trans (by simp)
  have g6 : w1.cell? ⟨w.heap.size + 1, 6, none⟩ = some (.int .u64 0) := (hb1.cell (p := ⟨w.heap.size + 1, 6, none⟩) (by simp)).trans (by simp)
  have h6 : w1.frozen? ⟨w.heap.size + 1, 6, none⟩ = false := (hb1.frozen (p := ⟨w.heap.size + 1, 6, none⟩) (by simp)).trans (by simp)
  have g7 : w1.cell? ⟨w.heap.size + 1, 7, none⟩ = some (.int .u64 0) := (hb1.cell (p := ⟨w.heap.size + 1, 7, none⟩) (by simp)).trans (by simp)
  have h7 : w1.frozen? ⟨w.heap.size + 1, 7, none⟩ = false := (hb1.frozen (p := ⟨w.heap.size + 1, 7, none⟩) (by simp)).trans (by simp)
  have g8 : w1.cell? ⟨w.heap.size + 1, 8, none⟩ = some (.int .u64 0) := (hb1.cell (p := ⟨w.heap.size + 1, 8, none⟩) (by simp)).trans (by simp)
  have h8 : w1.frozen? ⟨w.heap.size + 1, 8, none⟩ = false := (hb1.frozen (p := ⟨w.heap.size + 1, 8, none⟩) (by simp)).trans (by simp)
  have g9 : w1.cell? ⟨w.heap.size + 1, 9, none⟩ = some (.int .u64 0) := (hb1.cell (p := ⟨w.heap.size + 1, 9, none⟩) (by simp)).trans (by simp)
  have h9 : w1.frozen? ⟨w.heap.size + 1, 9, none⟩ = false := (hb1.frozen (p := ⟨w.heap.size + 1, 9, none⟩) (by simp)).trans (by simp)
  rcases hh with ⟨hp, rfl⟩ | ⟨i, hi, hp, rfl⟩
  · have HP := Lib.hid hp
    clear hp
    go_wp2
    refine bodyPost_ret (v := .tuple #[zeroN, .bool false]) ?_ rfl ?_
    · simp [results, Try.results21, go_sem, *]
    · refine ⟨.inl ⟨HP.out, rfl⟩, ?_⟩
      repeat (first | with_reducible exact kw1 | with_reducible refine Below.setCell ?_ ?_ _)
      all_goals (show w.heap.size ≤ w.heap.size + 1; omega)
  · have HP := Lib.hid hp
    clear hp
    generalize hx : l[i] = x at *
    have HX := Lib.hid hx
    clear hx
    go_wp2
    refine bodyPost_ret (v := .tuple #[aggN x, .bool true]) ?_ rfl ?_
    · simp [results, Try.results21, go_sem, *]
    · refine ⟨.inr ⟨i, hi, HP.out, by rw [HX.out]⟩, ?_⟩
      repeat (first | with_reducible exact kw1 | with_reducible refine Below.setCell ?_ ?_ _)
      all_goals (show w.heap.size ≤ w.heap.size + 1; omega)

set_option maxHeartbeats 3200000 in
set_option maxRecDepth 100000 in
theorem want_any (l : List WantD) (id : Int) (A : Option Addr) (n c : Nat) (v2 v3 : Value) (w : World) (hn : n = l.length) (hl : n ≤ 1000) (hr : Recs 6 cellsW w w.heap.size A l) :
    Calls Try.prog 33 #[.agg #[.slice A n c, v2, v3], .int .i64 id] w (FindTo aggW zeroW WantD.pod l id w) := by
  have b00 := below_two w (.cells #[.slice A n c, v2, v3] 29) (.cells #[.int .i64 0, .int .u64 0, .int .u64 0, .int .u64 0, .int .u64 0, .bool false] 82)
  have HF := Lib.hid (findW_any l id A n c ((w.alloc (.cells #[.slice A n c, v2, v3] 29)).alloc (.cells #[.int .i64 0, .int .u64 0, .int .u64 0, .int .u64 0, .int .u64 0, .bool false] 82)) hn hl ((hr.below b00 (Nat.le_refl _)).more b00.size))
  clear hr hn
  go_enter Try.func33, Try.ntmps33
  go_wp2_with fail
  refine HF.out.mono ?_
  rintro e w1 ⟨hh, hb1⟩
  have kw1 : Below w.heap.size w w1 := b00.trans (hb1.mono b00.size)
  have g0 : w1.cell? ⟨w.heap.size + 1, 0, none⟩ = some (.int .i64 0) := (hb1.cell (p := ⟨w.heap.size + 1, 0, none⟩) (by simp)).trans (by simp)
  have h0 : w1.frozen? ⟨w.heap.size + 1, 0, none⟩ = false := (hb1.frozen (p := ⟨w.heap.size + 1, 0, none⟩) (by simp)).trans (by simp)
  have g1 : w1.cell? ⟨w.heap.size + 1, 1, none⟩ = some (.int .u64 0) := (hb1.cell (p := ⟨w.heap.size + 1, 1, none⟩) (by simp)).trans (by simp)
  have h1 : w1.frozen? ⟨w.heap.size + 1, 1, none⟩ = false := (hb1.frozen (p := ⟨w.heap.size + 1, 1, none⟩) (by simp)).trans (by simp)
  have g2 : w1.cell? ⟨w.heap.size + 1, 2, none⟩ = some (.int .u64 0) := (hb1.cell (p := ⟨w.heap.size + 1, 2, none⟩) (by simp)).trans (by simp)
  have h2 : w1.frozen? ⟨w.heap.size + 1, 2, none⟩ = false := (hb1.frozen (p := ⟨w.heap.size + 1, 2, none⟩) (by simp)).trans (by simp)
  have g3 : w1.cell? ⟨w.heap.size + 1, 3, none⟩ = some (.int .u64 0) := (hb1.cell (p := ⟨w.heap.size + 1, 3, none⟩) (by simp)).trans (by simp)
  have h3 : w1.frozen? ⟨w.heap.size + 1, 3, none⟩ = false := (hb1.frozen (p := ⟨w.heap.size + 1, 3, none⟩) (by simp)).trans (by simp)
  have g4 : w1.cell? ⟨w.heap.size + 1, 4, none⟩ = some (.int .u64 0) := (hb1.cell (p := ⟨w.heap.size + 1, 4, none⟩) (by simp)).trans (by simp)
  have h4 : w1.frozen? ⟨w.heap.size + 1, 4, none⟩ = false := (hb1.frozen (p := ⟨w.heap.size + 1, 4, none⟩) (by simp)).trans (by simp)
  have g5 : w1.cell? ⟨w.heap.size + 1, 5, none⟩ = some (.bool false) := (hb1.cell (p := ⟨w.heap.size + 1, 5, none⟩) (by simp)).trans (by simp)
  have h5 : w1.frozen? ⟨w.heap.size + 1, 5, none⟩ = false := (hb1.frozen (p := ⟨w.heap.size + 1, 5, none⟩) (by simp)).trans (by simp)
  rcases hh with ⟨hp, rfl⟩ | ⟨i, hi, hp, rfl⟩
  · have HP := Lib.hid hp
    clear hp
    go_wp2
    refine bodyPost_ret (v := .tuple #[zeroW, .bool false]) ?_ rfl ?_
    · simp [results, Try.results33, go_sem, *]
    · refine ⟨.inl ⟨HP.out, rfl⟩, ?_⟩
      repeat (first | with_reducible exact kw1 | with_reducible refine Below.setCell ?_ ?_ _)
      all_goals (show w.heap.size ≤ w.heap.size + 1; omega)
  · have HP := Lib.hid hp
    clear hp
    generalize hx : l[i] = x at *
    have HX := Lib.hid hx
    clear hx
    go_wp2
    refine bodyPost_ret (v := .tuple #[aggW x, .bool true]) ?_ rfl ?_
    · simp [results, Try.results33, go_sem, *]
    · refine ⟨.inr ⟨i, hi, HP.out, by rw [HX.out]⟩, ?_⟩
      repeat (first | with_reducible exact kw1 | with_reducible refine Below.setCell ?_ ?_ _)
      all_goals (show w.heap.size ≤ w.heap.size + 1; omega)

end Go.Proofs.Ytedcmchdapfhhaa

/- The program's place and Pod of layer 5. -/
namespace Go.Proofs.Ytedcmchdapfhhaa
set_option linter.unusedSimpArgs false
open Go.RowKit
set_option linter.unusedVariables false

/-- The closure in place: is this the pod's Id? -/
theorem placeClosure_any (x : PodD) (id : Int) (g : Nat) (w : World) (h0 : w.cell? ⟨g, 0, none⟩ = some (.int .i64 id)) :
    Calls Try.prog 42 #[aggP x, .pointer (some ⟨g, 0, none⟩)] w fun e w' => e = .returned (.bool (x.id == id)) ∧ Below w.heap.size w w' := by
  have hg : g < w.heap.size := World.block_lt_of_cell? w _ h0
  go_enter Try.func42, Try.ntmps42
  go_wp2
  go_ret
  exact ⟨rfl, (Below.refl _ _).alloc (Nat.le_refl _) _⟩
set_option maxHeartbeats 3200000 in
set_option maxRecDepth 100000 in
theorem indexFunc_any (l : List PodD) (id : Int) (g : Nat) (A : Option Addr) (n c : Nat) (w : World) (hn : n = l.length) (hl : n ≤ 1000) (hr : Recs 8 cellsP w w.heap.size A l) (h0 : w.cell? ⟨g, 0, none⟩ = some (.int .i64 id)) :
    Calls Try.prog 41 #[.slice A n c, .func (.func 42) #[] #[.pointer (some ⟨g, 0, none⟩)]] w fun e w' => e = .returned (.int .i64 (place PodD.id id l 0)) ∧ Below w.heap.size w w' := by
  have hg : g < w.heap.size := World.block_lt_of_cell? w _ h0
  have HR := Lib.hid hr
  have HN := Lib.hid hn
  have H0 := Lib.hid h0
  clear hr hn h0
  go_enter Try.func41, Try.ntmps41
  go_wp2
  go_loopw [8] (FRel PodD.id id l w w.heap.size) (fun i _ => n - (intOf i).toNat)
  case atStart => exact ⟨0, by omega, rfl, rfl, Below.refl _ _⟩
  case round =>
    obtain ⟨k, hk, rfl, hp, hbr⟩ := hrel
    have HP := Lib.hid hp
    have hzr := hbr.size
    clear hp
    by_cases hlt : k < n
    · have hkl : k < l.length := by have := HN.out; omega
      obtain ⟨b, o, rfl, hb, he⟩ := HR.out.at hkl
      generalize hx : l[k] = x at *
      have HX := Lib.hid hx
      clear hx
      have e0 : wr.cell? ⟨b, o + k * 8, none⟩ = some (.int .i64 x.id) := (hbr.cell (p := ⟨b, o + k * 8, none⟩) hb).trans (he 0 _ rfl)
      have e1 : wr.cell? ⟨b, o + k * 8 + 1, none⟩ = some (.int .i64 x.load) := (hbr.cell (p := ⟨b, o + k * 8 + 1, none⟩) hb).trans (he 1 _ rfl)
      have e2 : wr.cell? ⟨b, o + k * 8 + 2, none⟩ = some (.int .i64 x.prio) := (hbr.cell (p := ⟨b, o + k * 8 + 2, none⟩) hb).trans (he 2 _ rfl)
      have e3 : wr.cell? ⟨b, o + k * 8 + 3, none⟩ = some (.int .u64 x.req.a) := (hbr.cell (p := ⟨b, o + k * 8 + 3, none⟩) hb).trans (he 3 _ rfl)
      have e4 : wr.cell? ⟨b, o + k * 8 + 4, none⟩ = some (.int .u64 x.req.b) := (hbr.cell (p := ⟨b, o + k * 8 + 4, none⟩) hb).trans (he 4 _ rfl)
      have e5 : wr.cell? ⟨b, o + k * 8 + 5, none⟩ = some (.int .u64 x.req.c) := (hbr.cell (p := ⟨b, o + k * 8 + 5, none⟩) hb).trans (he 5 _ rfl)
      have e6 : wr.cell? ⟨b, o + k * 8 + 6, none⟩ = some (.int .u64 x.req.d) := (hbr.cell (p := ⟨b, o + k * 8 + 6, none⟩) hb).trans (he 6 _ rfl)
      have e7 : wr.cell? ⟨b, o + k * 8 + 7, none⟩ = some (.int .i64 x.node) := (hbr.cell (p := ⟨b, o + k * 8 + 7, none⟩) hb).trans (he 7 _ rfl)
      have hbw : b < wr.heap.size := by omega
      have hgc : wr.cell? ⟨g, 0, none⟩ = some (.int .i64 id) := (hbr.cell (p := ⟨g, 0, none⟩) hg).trans H0.out
      clear he
      go_wp2_with fail
      go_at_call 42
      refine (placeClosure_any x id g _ hgc).mono ?_
      rintro e w1 ⟨rfl, hb1⟩
      have k1 : Below w.heap.size w w1 := hbr.trans (hb1.mono hzr)
      by_cases hid : x.id = id
      · have HE := Lib.hid (place_found hkl (by rw [HX.out]; exact hid) HP.out)
        have hd : (x.id == id) = true := by simp [hid]
        clear hid
        go_wp2
        go_ret
        exact ⟨ret_int HE.out.symm, k1⟩
      · have HE := Lib.hid (place_step hkl (by rw [HX.out]; exact hid) HP.out)
        have hd : (x.id == id) = false := by simp [hid]
        clear hid
        go_wp2
        go_roundw
        case rel => exact ⟨k + 1, by omega, by go_num, HE.out, k1⟩
        case measure => simp [intOf]; omega
    · have HE := Lib.hid (place_end (by have := HN.out; omega) HP.out)
      go_wp2
      go_ret
      exact ⟨ret_int HE.out.symm, hbr⟩
theorem place_any (l : List PodD) (id : Int) (A : Option Addr) (n c : Nat) (v1 v2 : Value) (w : World) (hn : n = l.length) (hl : n ≤ 1000) (hr : Recs 8 cellsP w w.heap.size A l) :
    Calls Try.prog 26 #[.agg #[.slice A n c, v1, v2], .int .i64 id] w fun e w' => e = .returned (.int .i64 (place PodD.id id l 0)) ∧ Below w.heap.size w w' := by
  have b00 := below_two w (.cells #[.slice A n c, v1, v2] 31) (.cells #[.int .i64 id] 3)
  have HF := Lib.hid (indexFunc_any l id (w.heap.size + 1) A n c ((w.alloc (.cells #[.slice A n c, v1, v2] 31)).alloc (.cells #[.int .i64 id] 3)) hn hl ((hr.below b00 (Nat.le_refl _)).more b00.size) (by simp))
  have hmf : ∀ (fn : Fn) (first cap : Array Value) (w : World), (Instr.makeFunc fn first cap).run Try.prog w = .ok (.func fn first cap) w := fun _ _ _ _ => rfl
  clear hr hn
  go_enter Try.func26, Try.ntmps26
  go_wp2_with fail
  refine HF.out.mono ?_
  rintro e w1 ⟨rfl, hb1⟩
  go_wp2
  go_ret
  exact ⟨rfl, b00.trans (hb1.mono b00.size)⟩
theorem place_hit {l : List PodD} {id : Int} (h : ¬ place PodD.id id l 0 < 0) : ∃ i : Nat, i < l.length ∧ place PodD.id id l 0 = i := by
  have := place_ge (f := PodD.id) (id := id) (l := l) (k := 0) (by omega)
  exact ⟨(place PodD.id id l 0).toNat, by omega, by omega⟩
set_option maxHeartbeats 3200000 in
set_option maxRecDepth 100000 in
theorem statePod_any (l : List PodD) (id : Int) (A : Option Addr) (n c : Nat) (v1 v2 : Value) (w : World) (hn : n = l.length) (hl : n ≤ 1000) (hr : Recs 8 cellsP w w.heap.size A l) :
    Calls Try.prog 15 #[.agg #[.slice A n c, v1, v2], .int .i64 id] w (FindTo aggP zeroP PodD.id l id w) := by
  have b00 := below_two w (.cells #[.slice A n c, v1, v2] 31) (.cells #[.int .i64 0, .int .i64 0, .int .i64 0, .int .u64 0, .int .u64 0, .int .u64 0, .int .u64 0, .int .i64 0] 38)
  have HF := Lib.hid (place_any l id A n c v1 v2 ((w.alloc (.cells #[.slice A n c, v1, v2] 31)).alloc (.cells #[.int .i64 0, .int .i64 0, .int .i64 0, .int .u64 0, .int .u64 0, .int .u64 0, .int .u64 0, .int .i64 0] 38)) hn hl ((hr.below b00 (Nat.le_refl _)).more b00.size))
  have HR := Lib.hid hr
  have HN := Lib.hid hn
  clear hr hn
  go_enter Try.func15, Try.ntmps15
  go_wp2_with fail
  refine HF.out.mono ?_
  rintro e w1 ⟨rfl, hb1⟩
  have kw1 : Below w.heap.size w w1 := b00.trans (hb1.mono b00.size)
  have hz1 : w.heap.size + 2 ≤ w1.heap.size := by have := hb1.size; simpa using this
  have b0 : w1.cell? ⟨w.heap.size, 0, none⟩ = some (.slice A n c) := (hb1.cell (p := ⟨w.heap.size, 0, none⟩) (by simp; omega)).trans (by simp)
  have b1 : w1.cell? ⟨w.heap.size, 1, none⟩ = some v1 := (hb1.cell (p := ⟨w.heap.size, 1, none⟩) (by simp; omega)).trans (by simp)
  have b2 : w1.cell? ⟨w.heap.size, 2, none⟩ = some v2 := (hb1.cell (p := ⟨w.heap.size, 2, none⟩) (by simp; omega)).trans (by simp)
  have g0 : w1.cell? ⟨w.heap.size + 1, 0, none⟩ = some (.int .i64 0) := (hb1.cell (p := ⟨w.heap.size + 1, 0, none⟩) (by simp)).trans (by simp)
  have h0 : w1.frozen? ⟨w.heap.size + 1, 0, none⟩ = false := (hb1.frozen (p := ⟨w.heap.size + 1, 0, none⟩) (by simp)).trans (by simp)
  have g1 : w1.cell? ⟨w.heap.size + 1, 1, none⟩ = some (.int .i64 0) := (hb1.cell (p := ⟨w.heap.size + 1, 1, none⟩) (by simp)).trans (by simp)
  have h1 : w1.frozen? ⟨w.heap.size + 1, 1, none⟩ = false := (hb1.frozen (p := ⟨w.heap.size + 1, 1, none⟩) (by simp)).trans (by simp)
  have g2 : w1.cell? ⟨w.heap.size + 1, 2, none⟩ = some (.int .i64 0) := (hb1.cell (p := ⟨w.heap.size + 1, 2, none⟩) (by simp)).trans (by simp)
  have h2 : w1.frozen? ⟨w.heap.size + 1, 2, none⟩ = false := (hb1.frozen (p := ⟨w.heap.size + 1, 2, none⟩) (by simp)).trans (by simp)
  have g3 : w1.cell? ⟨w.heap.size + 1, 3, none⟩ = some (.int .u64 0) := (hb1.cell (p := ⟨w.heap.size + 1, 3, none⟩) (by simp)).trans (by simp)
  have h3 : w1.frozen? ⟨w.heap.size + 1, 3, none⟩ = false := (hb1.frozen (p := ⟨w.heap.size + 1, 3, none⟩) (by simp)).trans (by simp)
  have g4 : w1.cell? ⟨w.heap.size + 1, 4, none⟩ = some (.int .u64 0) := (hb1.cell (p := ⟨w.heap.size + 1, 4, none⟩) (by simp)).trans (by simp)
  have h4 : w1.frozen? ⟨w.heap.size + 1, 4, none⟩ = false := (hb1.frozen (p := ⟨w.heap.size + 1, 4, none⟩) (by simp)).trans (by simp)
  have g5 : w1.cell? ⟨w.heap.size + 1, 5, none⟩ = some (.int .u64 0) := (hb1.cell (p := ⟨w.heap.size + 1, 5, none⟩) (by simp)).trans (by simp)
  have h5 : w1.frozen? ⟨w.heap.size + 1, 5, none⟩ = false := (hb1.frozen (p := ⟨w.heap.size + 1, 5, none⟩) (by simp)).trans (by simp)
  have g6 : w1.cell? ⟨w.heap.size + 1, 6, none⟩ = some (.int .u64 0) := (hb1.cell (p := ⟨w.heap.size + 1, 6, none⟩) (by simp)).trans (by simp)
  have h6 : w1.frozen? ⟨w.heap.size + 1, 6, none⟩ = false := (hb1.frozen (p := ⟨w.heap.size + 1, 6, none⟩) (by simp)).trans (by simp)
  have g7 : w1.cell? ⟨w.heap.size + 1, 7, none⟩ = some (.int .i64 0) := (hb1.cell (p := ⟨w.heap.size + 1, 7, none⟩) (by simp)).trans (by simp)
  have h7 : w1.frozen? ⟨w.heap.size + 1, 7, none⟩ = false := (hb1.frozen (p := ⟨w.heap.size + 1, 7, none⟩) (by simp)).trans (by simp)
  by_cases hp : place PodD.id id l 0 < 0
  · have HP := Lib.hid hp
    have hd : decide (place PodD.id id l 0 < 0) = true := decide_eq_true hp
    clear hp
    go_wp2
    refine bodyPost_ret (v := .tuple #[zeroP, .bool false]) ?_ rfl ?_
    · simp [results, Try.results15, go_sem, *]
    · refine ⟨.inl ⟨HP.out, rfl⟩, ?_⟩
      repeat (first | with_reducible exact kw1 | with_reducible refine Below.setCell ?_ ?_ _)
      all_goals (show w.heap.size ≤ w.heap.size + 1; omega)
  · obtain ⟨i, hi, hpi⟩ := place_hit hp
    clear hp
    obtain ⟨b, o, rfl, hb, he⟩ := HR.out.at hi
    have hin : i < n := by have := HN.out; omega
    have HP := Lib.hid hpi
    rw [hpi]
    clear hpi
    generalize hx : l[i] = x at *
    have HX := Lib.hid hx
    clear hx
    have e0 : w1.cell? ⟨b, o + i * 8, none⟩ = some (.int .i64 x.id) := (kw1.cell (p := ⟨b, o + i * 8, none⟩) hb).trans (he 0 _ rfl)
    have e1 : w1.cell? ⟨b, o + i * 8 + 1, none⟩ = some (.int .i64 x.load) := (kw1.cell (p := ⟨b, o + i * 8 + 1, none⟩) hb).trans (he 1 _ rfl)
    have e2 : w1.cell? ⟨b, o + i * 8 + 2, none⟩ = some (.int .i64 x.prio) := (kw1.cell (p := ⟨b, o + i * 8 + 2, none⟩) hb).trans (he 2 _ rfl)
    have e3 : w1.cell? ⟨b, o + i * 8 + 3, none⟩ = some (.int .u64 x.req.a) := (kw1.cell (p := ⟨b, o + i * 8 + 3, none⟩) hb).trans (he 3 _ rfl)
    have e4 : w1.cell? ⟨b, o + i * 8 + 4, none⟩ = some (.int .u64 x.req.b) := (kw1.cell (p := ⟨b, o + i * 8 + 4, none⟩) hb).trans (he 4 _ rfl)
    have e5 : w1.cell? ⟨b, o + i * 8 + 5, none⟩ = some (.int .u64 x.req.c) := (kw1.cell (p := ⟨b, o + i * 8 + 5, none⟩) hb).trans (he 5 _ rfl)
    have e6 : w1.cell? ⟨b, o + i * 8 + 6, none⟩ = some (.int .u64 x.req.d) := (kw1.cell (p := ⟨b, o + i * 8 + 6, none⟩) hb).trans (he 6 _ rfl)
    have e7 : w1.cell? ⟨b, o + i * 8 + 7, none⟩ = some (.int .i64 x.node) := (kw1.cell (p := ⟨b, o + i * 8 + 7, none⟩) hb).trans (he 7 _ rfl)
    have hbw : b < w1.heap.size := by omega
    clear he
    go_wp2
    refine bodyPost_ret (v := .tuple #[aggP x, .bool true]) ?_ rfl ?_
    · simp [results, Try.results15, go_sem, *]
    · refine ⟨.inr ⟨i, hi, HP.out, by rw [HX.out]⟩, ?_⟩
      repeat (first | with_reducible exact kw1 | with_reducible refine Below.setCell ?_ ?_ _)
      all_goals (show w.heap.size ≤ w.heap.size + 1; omega)
end Go.Proofs.Ytedcmchdapfhhaa

/- Are two states alike? The program's and the reference's Same of layer 5. -/
namespace Go.Proofs.Ytedcmchdapfhhaa
set_option linter.unusedSimpArgs false
open Go.RowKit
set_option linter.unusedVariables false

abbrev stateV (A : Option Addr) (n c : Nat) (p s : Int) : Value := .agg #[.slice A n c, .int .i64 p, .int .i64 s]
end Go.Proofs.Ytedcmchdapfhhaa

/- Plain mathematics of numbers as bytes; no program stands in it. -/
namespace Go.Proofs.Ytedcmchdapfhhaa
set_option linter.unusedSimpArgs false

/-- A number's bytes: seven bits a byte, the lowest first. -/
def enc (n : Int) : List Int := if n < 128 then [n] else (n % 128 + 128) :: enc (n / 128)
  termination_by n.toNat
  decreasing_by omega

def Nums (l : List Int) : Prop := ∀ n ∈ l, 0 ≤ n ∧ n < 18446744073709551616
def Octs (l : List Int) : Prop := ∀ c ∈ l, 0 ≤ c ∧ c < 256
theorem Nums.append {a b : List Int} (ha : Nums a) (hb : Nums b) : Nums (a ++ b) := fun n hn => by
  rcases List.mem_append.1 hn with h | h
  · exact ha n h
  · exact hb n h
theorem Nums.take {a : List Int} (ha : Nums a) (k : Nat) : Nums (a.take k) := fun n hn => ha n (List.mem_of_mem_take hn)
theorem Octs.drop {a : List Int} (ha : Octs a) (k : Nat) : Octs (a.drop k) := fun n hn => ha n (List.mem_of_mem_drop hn)
end Go.Proofs.Ytedcmchdapfhhaa

/- Words for memory that the walks share: a slice that reads as a list of values, nil or not; what stays of it. -/
namespace Go.Proofs.Ytedcmchdapfhhaa
set_option linter.unusedSimpArgs false
open Go.RowKit
set_option linter.unusedVariables false

theorem old_cells {W w1 : World} (hb : Below W.heap.size W w1) : (∀ b o, b < W.heap.size → w1.cell? ⟨b, o, none⟩ = W.cell? ⟨b, o, none⟩) ∧ (∀ b o, b < W.heap.size → w1.frozen? ⟨b, o, none⟩ = W.frozen? ⟨b, o, none⟩) :=
  ⟨fun b o h => hb.cell (p := ⟨b, o, none⟩) h, fun b o h => hb.frozen (p := ⟨b, o, none⟩) h⟩

/-- The slice '.slice A xs.length c' reads as xs in w, and lies below block B. -/
def Row (w : World) (B : Nat) (A : Option Addr) (xs : List Value) : Prop :=
  xs = [] ∨ ∃ b o, A = some ⟨b, o, none⟩ ∧ b < B ∧ ∀ j (h : j < xs.length), w.cell? ⟨b, o + j, none⟩ = some xs[j]

theorem Row.nil {w : World} {B : Nat} {A : Option Addr} : Row w B A [] := .inl rfl
theorem Row.below {w w' : World} {B B' : Nat} {A : Option Addr} {xs : List Value} (h : Row w B A xs) (hb : Below B' w w') (hB : B ≤ B') : Row w' B A xs := by
  rcases h with h | ⟨b, o, h1, h2, h3⟩
  · exact .inl h
  · exact .inr ⟨b, o, h1, h2, fun j hj => (hb.cell (p := ⟨b, o + j, none⟩) (Nat.lt_of_lt_of_le h2 hB)).trans (h3 j hj)⟩
theorem Row.more {w : World} {B B' : Nat} {A : Option Addr} {xs : List Value} (h : Row w B A xs) (hB : B ≤ B') : Row w B' A xs := by
  rcases h with h | ⟨b, o, h1, h2, h3⟩
  · exact .inl h
  · exact .inr ⟨b, o, h1, Nat.lt_of_lt_of_le h2 hB, h3⟩
theorem Row.at {w : World} {B : Nat} {A : Option Addr} {xs : List Value} (h : Row w B A xs) {k : Nat} (hk : k < xs.length) :
    ∃ b o, A = some ⟨b, o, none⟩ ∧ b < B ∧ ∀ j (h : j < xs.length), w.cell? ⟨b, o + j, none⟩ = some xs[j] := by
  rcases h with h | h
  · subst h; simp at hk
  · exact h
theorem Row.take {w : World} {B : Nat} {A : Option Addr} {xs : List Value} (h : Row w B A xs) (k : Nat) : Row w B A (xs.take k) := by
  rcases h with h | ⟨b, o, h1, h2, h3⟩
  · exact .inl (by simp [h])
  · exact .inr ⟨b, o, h1, h2, fun j hj => by rw [List.getElem_take]; exact h3 j (by simp at hj; omega)⟩
theorem Row.drop {w : World} {B : Nat} {A : Option Addr} {xs : List Value} (h : Row w B A xs) {k c : Nat} (hc : xs.length ≤ c) :
    Row w B (if c = k then A else A.map (·.add k)) (xs.drop k) := by
  rcases h with h | ⟨b, o, h1, h2, h3⟩
  · exact .inl (by simp [h])
  · by_cases hk : k < xs.length
    · refine .inr ⟨b, o + k, ?_, h2, fun j hj => ?_⟩
      · rw [if_neg (by omega), h1]; simp [Addr.add_lit]
      · rw [List.getElem_drop, Nat.add_assoc]; exact h3 (k + j) (by simp at hj; omega)
    · exact .inl (by simp; omega)
/-- What one append to a row of the call's own leaves. -/
theorem push_own {B : Nat} {e : TypeId} {w wr w1 : World} {v : Value} {n : Nat} {xs : List Value} {o : Obj}
    (hB : B ≤ wr.heap.size) (hown : wr.ownsRow B e 1 v n xs) (hb : Below B w wr) (hgrow : (wr.alloc o).grownBy w1 v.ownBlock) : Below B w w1 :=
  (hb.alloc hB o).grown hgrow (by simp; omega) (fun j hj => (hown.lt j hj).1)
end Go.Proofs.Ytedcmchdapfhhaa

/- What an append to a row of the call's own leaves: one element; a slice that reads as a list, nil or not. -/
namespace Go.Proofs.Ytedcmchdapfhhaa
set_option linter.unusedSimpArgs false
open Go.RowKit
set_option linter.unusedVariables false

section
variable {ops : Array Oper} {rest : List Oper} {o : Oper} {a : Act} {Q : Exit → Act → World → Prop} {wr : World}

theorem wpList_push (t e : TypeId) (z : Value) (bytes : Nat) (ht : Try.prog.underlying t = some (.slice e)) (hinfo : (Try.prog.info? e).map (fun i => (i.zero, i.size, i.bytes)) = some (some z, 1, bytes)) (hz : z.cells.size = 1) (hby : bytes ≤ 8)
    (hgd : o.guard = none) (s x : Operand) (ho : o.op = .call { callee := .builtin .append, args := #[s, x], argTypes := #[t, t] })
    (B : Nat) (v : Value) (xs : List Value) (u : Value) (hu : u.oneCell' = true) (hown : wr.ownsRow B e 1 v xs.length xs) (hB : B ≤ wr.heap.size) (hl : xs.length ≤ 2000000)
    (hs : a.eval s = v) (hx : a.eval x = .slice (some ⟨wr.heap.size, 0, none⟩) 1 1)
    (h : ∀ v' w', w'.ownsRow B e 1 v' (xs ++ [u]).length (xs ++ [u]) → Below B wr w' → B ≤ w'.heap.size → wpList Try.prog ops Q rest (a.put o.dst v') w') :
    wpList Try.prog ops Q (o :: rest) a (wr.alloc (.cells #[u] e)) := by
  obtain ⟨i0, hi, hz0, hz1, hz2⟩ := info_parts hinfo
  refine wpList_append_own _ hgd s x t ho B e i0 z 1 bytes ht hi hz0 hz1 hz2 hz (by decide) v xs.length xs hs (hown.alloc _) ⟨wr.heap.size, 0, none⟩ 1 1 [u] hx rfl ?_ ?_ ?_ ?_ ?_ ?_
  · intro j y hy
    rcases j with _ | j
    · simp at hy; subst hy; simp [Addr.add]
    · simp at hy
  · intro y hy; simp at hy; subst hy; exact hu
  · unfold maxLen; omega
  · have : (xs.length + 1) * bytes ≤ (xs.length + 1) * 8 := Nat.mul_le_mul_left _ hby
    omega
  · simp; omega
  · intro v' w' h1 h2 _
    exact h v' w' (by simpa using h1) (push_own hB hown (Below.refl _ _) h2) (by have := h2.size; simp at this; omega)

theorem wpList_cat (t e : TypeId) (z : Value) (bytes : Nat) (ht : Try.prog.underlying t = some (.slice e)) (hinfo : (Try.prog.info? e).map (fun i => (i.zero, i.size, i.bytes)) = some (some z, 1, bytes)) (hz : z.cells.size = 1) (hby : bytes ≤ 8)
    (hgd : o.guard = none) (s x : Operand) (ho : o.op = .call { callee := .builtin .append, args := #[s, x], argTypes := #[t, t] })
    {n : Nat} (B R : Nat) (v : Value) (xs ys : List Value) (A : Option Addr) (c : Nat) (hu : ∀ u ∈ ys, u.oneCell' = true) (hnil : A = none → c = 0) (hown : wr.ownsRow B e 1 v xs.length xs) (hrow : Row wr R A ys) (hB : B ≤ wr.heap.size) (hl : xs.length + ys.length ≤ 2000000)
    (hs : a.eval s = v) (hx : a.eval x = .slice A n c) (hn : n = ys.length)
    (h : ∀ v' w', w'.ownsRow B e 1 v' (xs ++ ys).length (xs ++ ys) → Below B wr w' → B ≤ w'.heap.size → wpList Try.prog ops Q rest (a.put o.dst v') w') :
    wpList Try.prog ops Q (o :: rest) a wr := by
  obtain ⟨i0, hi, hz0, hz1, hz2⟩ := info_parts hinfo
  subst hn
  have fin : ∀ v' w', w'.ownsRow B e 1 v' (xs.length + ys.length) (xs ++ ys) → wr.grownBy w' v.ownBlock → wpList Try.prog ops Q rest (a.put o.dst v') w' := fun v' w' h1 h2 =>
    h v' w' (by simpa using h1) ((Below.refl B wr).grown h2 hB (fun j hj => (hown.lt j hj).1)) (by have := h2.size; omega)
  rcases A with _ | ad
  · have h0 : ys = [] := by
      rcases hrow with h0 | ⟨_, _, h0, _⟩
      · exact h0
      · cases h0
    subst h0
    have := hnil rfl
    subst this
    exact wpList_append_own_none hgd s x t ho B e i0 1 ht hi v xs.length xs hs hown hx (fin v wr (by simpa using hown) (World.grownBy.refl _ _))
  · refine wpList_append_own _ hgd s x t ho B e i0 z 1 bytes ht hi hz0 hz1 hz2 hz (by decide) v xs.length xs hs hown ad ys.length c ys hx (by simp) ?_ hu ?_ ?_ hB (fun v' w' h1 h2 _ => fin v' w' h1 h2)
    · intro j y hy
      rcases hrow with h0 | ⟨b, o', h0, _, h1⟩
      · subst h0; simp at hy
      · have h0' := Option.some.inj h0
        subst h0'
        obtain ⟨hj, rfl⟩ := List.getElem?_eq_some_iff.1 hy
        rw [Addr.add_lit]
        exact h1 j hj
    · unfold maxLen; omega
    · have : (xs.length + ys.length) * bytes ≤ (xs.length + ys.length) * 8 := Nat.mul_le_mul_left _ hby
      omega
end
end Go.Proofs.Ytedcmchdapfhhaa

/- What is told is new memory: a copy of a list of pods. -/
namespace Go.Proofs.Ytedcmchdapfhhaa
set_option linter.unusedSimpArgs false
open Go.RowKit
set_option linter.unusedVariables false

theorem infoPod : (Try.prog.info? 38).map (fun i => (i.zero, i.size, i.bytes)) = some (some (.agg #[.int .i64 0, .int .i64 0, .int .i64 0, .int .u64 0, .int .u64 0, .int .u64 0, .int .u64 0, .int .i64 0]), 8, 64) := by kernel_rfl
theorem underPods : Try.prog.underlying 24 = some (.slice 38) := by kernel_rfl
theorem onePod (x : PodD) : ∀ u ∈ cellsP x, u.oneCell' = true := by
  intro u hu; simp only [cellsP, List.mem_cons, List.not_mem_nil, or_false] at hu
  rcases hu with rfl | rfl | rfl | rfl | rfl | rfl | rfl | rfl <;> rfl
theorem info_parts3 {P : Program} {t : TypeId} {z : Value} {s b : Nat} (h : (P.info? t).map (fun i => (i.zero, i.size, i.bytes)) = some (some z, s, b)) : ∃ i, P.info? t = some i ∧ i.zero = some z ∧ i.size = s ∧ i.bytes = b := by
  cases hi : P.info? t with
  | none => rw [hi] at h; cases h
  | some i =>
    rw [hi] at h
    have h := Option.some.inj h
    simp only [Prod.mk.injEq] at h
    exact ⟨i, rfl, h.1, h.2.1, h.2.2⟩
theorem flatMap_len {α : Type} {size : Nat} {cells : α → List Value} (hc : ∀ x, (cells x).length = size) : ∀ xs : List α, (xs.flatMap cells).length = xs.length * size
  | [] => by simp
  | x :: r => by rw [List.flatMap_cons, List.length_append, hc, flatMap_len hc r, List.length_cons, Nat.add_one_mul]; omega
section
variable {ops : Array Oper} {rest : List Oper} {o : Oper} {a : Act} {Q : Exit → Act → World → Prop} {wr : World}
/-- append of all records of a slice, nil or not, to a row of the call's own. -/
theorem wpList_recs {α : Type} {cells : α → List Value} (t e : TypeId) (z : Value) (size bytes : Nat) (ht : Try.prog.underlying t = some (.slice e)) (hinfo : (Try.prog.info? e).map (fun i => (i.zero, i.size, i.bytes)) = some (some z, size, bytes)) (hz : z.cells.size = size) (hsz : 0 < size) (hby : bytes ≤ 1000)
    (hc : ∀ x, (cells x).length = size) (hu : ∀ x, ∀ u ∈ cells x, u.oneCell' = true)
    (hgd : o.guard = none) (s x : Operand) (ho : o.op = .call { callee := .builtin .append, args := #[s, x], argTypes := #[t, t] })
    (B R : Nat) (v : Value) (n m : Nat) (xs ys : List α) (A : Option Addr) (c : Nat) (hnil : A = none → c = 0) (hown : wr.ownsRow B e size v n (xs.flatMap cells)) (hrow : Recs size cells wr R A ys) (hB : B ≤ wr.heap.size) (hl : n + m ≤ 2000000)
    (hs : a.eval s = v) (hx : a.eval x = .slice A m c) (hm : m = ys.length)
    (h : ∀ v' w', w'.ownsRow B e size v' (n + m) ((xs ++ ys).flatMap cells) → Below B wr w' → B ≤ w'.heap.size → wpList Try.prog ops Q rest (a.put o.dst v') w') :
    wpList Try.prog ops Q (o :: rest) a wr := by
  obtain ⟨i0, hi, hz0, hz1, hz2⟩ := info_parts3 hinfo
  have fin : ∀ v' w', w'.ownsRow B e size v' (n + m) (xs.flatMap cells ++ ys.flatMap cells) → wr.grownBy w' v.ownBlock → wpList Try.prog ops Q rest (a.put o.dst v') w' := fun v' w' h1 h2 =>
    h v' w' (by rw [List.flatMap_append]; exact h1) ((Below.refl B wr).grown h2 hB (fun j hj => (hown.lt j hj).1)) (by have := h2.size; omega)
  rcases A with _ | ad
  · have h0 : ys = [] := by
      rcases hrow with h0 | ⟨_, _, h0, _⟩
      · exact h0
      · cases h0
    subst h0
    have := hnil rfl
    subst this
    have hm0 : m = 0 := hm
    subst hm0
    exact wpList_append_own_none hgd s x t ho B e i0 size ht hi v n (xs.flatMap cells) hs hown hx (fin v wr (by simpa using hown) (World.grownBy.refl _ _))
  · refine wpList_append_own _ hgd s x t ho B e i0 z size bytes ht hi hz0 hz1 hz2 hz hsz v n (xs.flatMap cells) hs hown ad m c (ys.flatMap cells) hx (by rw [flatMap_len hc, hm]) ?_ ?_ ?_ ?_ hB (fun v' w' h1 h2 _ => fin v' w' h1 h2)
    · intro j y hy
      rcases hrow with h0 | ⟨b, o', h0, _, h1⟩
      · subst h0; simp at hy
      · have h0' := Option.some.inj h0
        subst h0'
        have hj : j < ys.length * size := by have := (List.getElem?_eq_some_iff.1 hy).1; rwa [flatMap_len hc] at this
        have hi : j / size < ys.length := Nat.div_lt_of_lt_mul (by rw [Nat.mul_comm]; exact hj)
        have e1 : j = j / size * size + j % size := by rw [Nat.mul_comm]; exact (Nat.div_add_mod j size).symm
        rw [e1, flatMap_get hc hi (Nat.mod_lt _ hsz)] at hy
        rw [Addr.add_lit]
        have := h1 (j / size) hi (j % size) y hy
        rw [Nat.add_assoc, ← e1] at this
        exact this
    · intro u hu'
      obtain ⟨x, _, hx⟩ := List.mem_flatMap.1 hu'
      exact hu x u hx
    · unfold maxLen; omega
    · have : (n + m) * bytes ≤ (n + m) * 1000 := Nat.mul_le_mul_left _ hby
      omega
end
theorem own_form3 {w : World} {base n size : Nat} {e : TypeId} {v : Value} {xs : List Value} (h : w.ownsRow base e size v n xs) : ∃ A c, v = .slice A n c ∧ n ≤ c ∧ c ≤ maxLen ∧ (A = none → c = 0) := by
  rcases h.2 with ⟨hv, h0⟩ | ⟨g, cap, cur, hv, hb, hg, hc, hm, _⟩
  · exact ⟨none, 0, by rw [hv, h0], by omega, by decide, fun _ => rfl⟩
  · exact ⟨_, cap, hv, hc, hm, fun h => by cases h⟩
/-- A slice of these records in memory of the call's own. -/
def Fresh (l : List PodD) (w : World) (A : Option Addr) (c : Nat) (w' : World) : Prop := w'.ownsRow w.heap.size 38 8 (.slice A l.length c) l.length (l.flatMap cellsP)
theorem lenP (x : PodD) : (cellsP x).length = 8 := rfl
theorem Fresh.out {l : List PodD} {w w' : World} {A : Option Addr} {c : Nat} (h : Fresh l w A c w') : Out 8 cellsP w' l A c := out_of_own lenP rfl h
theorem Fresh.recs {l : List PodD} {w w' : World} {A : Option Addr} {c : Nat} (h : Fresh l w A c w') : Recs 8 cellsP w' w'.heap.size A l := h.out.2.2.2
/-- A row of the call's own is told, and a box of the call's own is written. -/
def OwnAt (B : Nat) (l : List PodD) (w : World) (A : Option Addr) (c : Nat) : Prop := w.ownsRow B 38 8 (.slice A l.length c) l.length (l.flatMap cellsP)
theorem OwnAt.set {B : Nat} {l : List PodD} {w : World} {A : Option Addr} {c : Nat} (h : OwnAt B l w A c) {p : Addr} (hp : p.block < B) (v : Value) : OwnAt B l (w.setCell p v) A c := by
  refine ⟨h.1, ?_⟩
  rcases h.2 with h0 | ⟨g, cap, cur, hv, hb, hg, rest⟩
  · exact .inl h0
  · exact .inr ⟨g, cap, cur, hv, hb, (Below.heap_setCell w p v g (by omega)).trans hg, rest⟩
theorem OwnAt.out {B : Nat} {l : List PodD} {w : World} {A : Option Addr} {c : Nat} (h : OwnAt B l w A c) : Out 8 cellsP w l A c := out_of_own lenP rfl h
theorem OwnAt.of {l : List PodD} {w w' : World} {A : Option Addr} {c : Nat} (h : Fresh l w A c w') : OwnAt w.heap.size l w' A c := h
theorem below_three (w : World) (o o' o'' : Obj) : Below w.heap.size w (((w.alloc o).alloc o').alloc o'') := (below_two w o o').alloc (by simp; omega) o''
theorem below_four (w : World) (o o' o'' o3 : Obj) : Below w.heap.size w ((((w.alloc o).alloc o').alloc o'').alloc o3) := (below_three w o o' o'').alloc (by simp; omega) o3
end Go.Proofs.Ytedcmchdapfhhaa

/- The program's Goal of layer 5. -/
namespace Go.Proofs.Ytedcmchdapfhhaa
set_option linter.unusedSimpArgs false
open Go.RowKit
set_option linter.unusedVariables false

end Go.Proofs.Ytedcmchdapfhhaa

/- May a move be made? The program's wellFormed, allThere, canBeMade of layer 5. -/
namespace Go.Proofs.Ytedcmchdapfhhaa
set_option linter.unusedSimpArgs false
open Go.RowKit
set_option linter.unusedVariables false

/-- A pod that isn't there. -/
def noPod : PodD := ⟨0, 0, 0, ⟨0, 0, 0, 0⟩, 0⟩
def podZ (id : Int) (l : List PodD) : PodD := (podAt id l).getD noPod
theorem podZ_none {id : Int} {l : List PodD} (h : place PodD.id id l 0 < 0) : podZ id l = noPod := by
  rw [podZ, (podAt_none (l := l) (k := 0) (by omega)).2 h]; rfl
theorem podZ_some {id : Int} {l : List PodD} {i : Nat} (hi : i < l.length) (h : place PodD.id id l 0 = i) : podZ id l = l[i] := by
  rw [podZ, podAt_some (l := l) (k := 0) hi (by rw [h]; omega) (by omega)]; rfl
end Go.Proofs.Ytedcmchdapfhhaa

/- What a move does: the program's come and behind of layer 5. -/
namespace Go.Proofs.Ytedcmchdapfhhaa
set_option linter.unusedSimpArgs false
open Go.RowKit
set_option linter.unusedVariables false

/-- A row of the call's own in block g that holds these pods. -/
structure Lst (g : Nat) (l : List PodD) (w : World) : Prop where
  lt : g < w.heap.size
  cell : ∀ i (h : i < l.length) j u, (cellsP l[i])[j]? = some u → w.cell? ⟨g, i * 8 + j, none⟩ = some u
  frozen : ∀ o, w.frozen? ⟨g, o, none⟩ = false
section
variable {g : Nat} {l : List PodD} {w w' : World}
theorem Lst.below (h : Lst g l w) (hb : Below w.heap.size w w') : Lst g l w' :=
  ⟨Nat.lt_of_lt_of_le h.lt hb.size, fun i hi j u hu => (hb.cell (p := ⟨g, i * 8 + j, none⟩) h.lt).trans (h.cell i hi j u hu), fun o => (hb.frozen (p := ⟨g, o, none⟩) h.lt).trans (h.frozen o)⟩
theorem Lst.alloc (h : Lst g l w) (o : Obj) : Lst g l (w.alloc o) := h.below ((Below.refl _ w).alloc (Nat.le_refl _) o)
theorem Lst.drew (h : Lst g l w) : Lst g l w.drew := ⟨h.lt, h.cell, h.frozen⟩
theorem Lst.other (h : Lst g l w) {p : Addr} (hp : p.block ≠ g) (v : Value) : Lst g l (w.setCell p v) :=
  ⟨by simpa using h.lt, fun i hi j u hu => by rw [World.cell?_setCell_other _ _ _ _ (by intro e; exact hp (by rw [e]))]; exact h.cell i hi j u hu, fun o => by simpa using h.frozen o⟩
theorem Lst.put (h : Lst g l w) {i j : Nat} (hi : i < l.length) (hj : j < 8) (u : Value) (p' : PodD) (hp : cellsP p' = (cellsP l[i]).set j u) : Lst g (l.set i p') (w.setCell ⟨g, i * 8 + j, none⟩ u) := by
  refine ⟨by simpa using h.lt, fun i' hi' j' u' hu => ?_, fun o => by simpa using h.frozen o⟩
  have hl' : i' < l.length := by simpa using hi'
  have hj' : j' < 8 := by have := (List.getElem?_eq_some_iff.1 hu).1; simpa [cellsP] using this
  by_cases e : i' = i
  · subst e
    rw [List.getElem_set_self, hp] at hu
    by_cases ej : j' = j
    · subst ej
      rw [List.getElem?_set_self (by simpa [cellsP] using hj)] at hu
      obtain rfl := Option.some.inj hu
      have hc : ∃ u0, (cellsP l[i'])[j']? = some u0 := ⟨_, List.getElem?_eq_getElem (by simpa [cellsP] using hj)⟩
      obtain ⟨u0, hu0⟩ := hc
      exact World.cell?_setCell_same _ _ _ (h.cell i' hl' j' u0 hu0)
    · rw [List.getElem?_set_ne (fun e => ej e.symm)] at hu
      rw [World.cell?_setCell_other _ _ _ _ (by intro e; injection e; omega)]
      exact h.cell i' hl' j' u' hu
  · rw [List.getElem_set_ne (fun e' => e e'.symm)] at hu
    rw [World.cell?_setCell_other _ _ _ _ (by intro e'; injection e'; omega)]
    exact h.cell i' hl' j' u' hu
theorem Lst.at (h : Lst g l w) {i : Nat} (hi : i < l.length) {p : PodD} (hp : l[i] = p) (j : Nat) (u : Value) (hu : (cellsP p)[j]? = some u) : w.cell? ⟨g, i * 8 + j, none⟩ = some u := h.cell i hi j u (by rw [hp]; exact hu)
theorem Lst.recs (h : Lst g l w) : Recs 8 cellsP w w.heap.size (some ⟨g, 0, none⟩) l := .inr ⟨g, 0, rfl, h.lt, fun i hi j u hu => by rw [Nat.zero_add]; exact h.cell i hi j u hu⟩
theorem Lst.fresh {A : Option Addr} {c : Nat} {w0 : World} (h : Fresh l w0 A c w) (hl : 0 < l.length) : ∃ g, A = some ⟨g, 0, none⟩ ∧ w0.heap.size ≤ g ∧ l.length ≤ c ∧ c ≤ maxLen ∧ Lst g l w := by
  have h1 := h.recs
  rcases h.2 with ⟨_, h0⟩ | ⟨g, cap, cur, hv, hb, hg, hnc, hm, _⟩
  · omega
  · injection hv with e1 _ e2
    subst e1 e2
    refine ⟨g, rfl, hb, hnc, hm, ?_, fun i hi j u hu => ?_, fun o => by simp [World.frozen?, hg]⟩
    · exact (Array.getElem?_eq_some_iff.1 hg).1
    · obtain ⟨b, o, e, _, hc⟩ := h1.at hi
      injection e with e
      injection e with e1 e2
      subst e1 e2
      simpa using hc j u hu
end
end Go.Proofs.Ytedcmchdapfhhaa

/- What a move does: the program's behind of layer 5. -/
namespace Go.Proofs.Ytedcmchdapfhhaa
set_option linter.unusedSimpArgs false
open Go.RowKit
set_option linter.unusedVariables false

/-- A box of the call's own that holds these cells. -/
structure Bf (V : World) (b : Nat) (cs : List Value) : Prop where
  lt : b < V.heap.size
  cell : ∀ j u, cs[j]? = some u → V.cell? ⟨b, j, none⟩ = some u
  frozen : ∀ o, V.frozen? ⟨b, o, none⟩ = false
section
variable {V V' : World} {b B : Nat} {cs : List Value}
theorem Bf.below (h : Bf V b cs) (hb : Below B V V') (hB : b < B) : Bf V' b cs :=
  ⟨Nat.lt_of_lt_of_le h.lt hb.size, fun j u hu => (hb.cell (p := ⟨b, j, none⟩) hB).trans (h.cell j u hu), fun o => (hb.frozen (p := ⟨b, o, none⟩) hB).trans (h.frozen o)⟩
theorem Bf.new (w : World) (cs : List Value) (t : TypeId) {b : Nat} (hb : b = w.heap.size) : Bf (w.alloc (.cells cs.toArray t)) b cs := by
  subst hb
  exact ⟨by simp, fun j u hu => by simpa using hu, fun o => by simp⟩
theorem Bf.alloc (h : Bf V b cs) (o : Obj) : Bf (V.alloc o) b cs := h.below ((Below.refl _ V).alloc (Nat.le_refl _) o) h.lt
theorem Bf.other (h : Bf V b cs) {p : Addr} (hp : p.block ≠ b) (v : Value) : Bf (V.setCell p v) b cs :=
  ⟨by simpa using h.lt, fun j u hu => by rw [World.cell?_setCell_other _ _ _ _ (by intro e; exact hp (by rw [e]))]; exact h.cell j u hu, fun o => by simpa using h.frozen o⟩
theorem Bf.set (h : Bf V b cs) (i : Nat) (v : Value) : Bf (V.setCell ⟨b, i, none⟩ v) b (cs.set i v) := by
  refine ⟨by simpa using h.lt, fun j u hu => ?_, fun o => by simpa using h.frozen o⟩
  by_cases e : j = i
  · subst e
    have hj : j < cs.length := by have := (List.getElem?_eq_some_iff.1 hu).1; simpa using this
    rw [List.getElem?_set_self hj] at hu
    obtain rfl := Option.some.inj hu
    exact World.cell?_setCell_same _ _ _ (h.cell j _ (List.getElem?_eq_getElem hj))
  · rw [List.getElem?_set_ne (fun e' => e e'.symm)] at hu
    rw [World.cell?_setCell_other _ _ _ _ (by intro e'; injection e'; omega)]
    exact h.cell j u hu
end
/-- What stands while behind is at work. -/
structure Beh (A : Option Addr) (n c : Nat) (v1 v2 : Value) (g c' k : Nat) (p s : Int) (m : MoveD) (l : List PodD) (w V : World) : Prop where
  spec : Bf V w.heap.size [.slice A n c, v1, v2]
  state : Bf V (w.heap.size + 1) [.slice (some ⟨g, 0, none⟩) k c', .int .i64 p, .int .i64 s]
  move : Bf V (w.heap.size + 2) [.int .i64 m.kind, .int .i64 m.pod, .int .i64 m.node, .int .i64 m.over]
  res : Bf V (w.heap.size + 3) [.slice none 0 0, .int .i64 0, .int .i64 0]
  lst : Lst g l V
  below : Below w.heap.size w V
  hg : w.heap.size + 4 ≤ g
section
variable {A : Option Addr} {n c : Nat} {v1 v2 : Value} {g c' k : Nat} {p s : Int} {m : MoveD} {l : List PodD} {w V V' : World}
theorem Beh.keep (h : Beh A n c v1 v2 g c' k p s m l w V) (hb : Below V.heap.size V V') : Beh A n c v1 v2 g c' k p s m l w V' :=
  ⟨h.spec.below hb h.spec.lt, h.state.below hb h.state.lt, h.move.below hb h.move.lt, h.res.below hb h.res.lt, h.lst.below hb, h.below.trans (hb.mono h.below.size), h.hg⟩
theorem Beh.pre (h : Beh A n c v1 v2 g c' k p s m l w V) (p' : Int) : Beh A n c v1 v2 g c' k p' s m l w (V.setCell ⟨w.heap.size + 1, 1, none⟩ (.int .i64 p')) := by
  have hg := h.hg
  exact ⟨h.spec.other (by simp) _, h.state.set 1 _, h.move.other (by simp) _, h.res.other (by simp) _, h.lst.other (by show w.heap.size + 1 ≠ g; omega) _, h.below.setCell (by simp) _, h.hg⟩
end
/-- A state that is told: its pods in new memory. -/
def StateTo (u : StateD) (w : World) (v : Value) (w' : World) : Prop := ∃ A c, v = stateV A u.pods.length c u.preempts u.shifts ∧ Out 8 cellsP w' u.pods A c ∧ (∀ a, A = some a → w.heap.size ≤ a.block) ∧ Below w.heap.size w w'
theorem Beh.done {A : Option Addr} {n c : Nat} {v1 v2 : Value} {g c' k : Nat} {p s : Int} {m : MoveD} {l : List PodD} {w V : World} (h : Beh A n c v1 v2 g c' k p s m l w V) (hk : k = l.length) (hc : k ≤ c') (hm : c' ≤ maxLen) {x y z : Value} :
    StateTo ⟨l, p, s⟩ w (stateV (some ⟨g, 0, none⟩) k c' p s) (((V.setCell ⟨w.heap.size + 3, 0, none⟩ x).setCell ⟨w.heap.size + 3, 1, none⟩ y).setCell ⟨w.heap.size + 3, 2, none⟩ z) := by
  subst hk
  have hg := h.hg
  have hl := (((h.lst.other (p := ⟨w.heap.size + 3, 0, none⟩) (by show w.heap.size + 3 ≠ g; omega) x).other (p := ⟨w.heap.size + 3, 1, none⟩) (by show w.heap.size + 3 ≠ g; omega) y).other (p := ⟨w.heap.size + 3, 2, none⟩) (by show w.heap.size + 3 ≠ g; omega) z)
  exact ⟨_, _, rfl, ⟨hc, hm, (by intro e; cases e), hl.recs⟩, (by intro a e; injection e with e; subst e; show w.heap.size ≤ g; omega), ((h.below.setCell (by simp) _).setCell (by simp) _).setCell (by simp) _⟩
end Go.Proofs.Ytedcmchdapfhhaa

namespace Go.Proofs.Ytedcmchdapfhhaa
set_option linter.unusedSimpArgs false
open Go.RowKit
set_option linter.unusedVariables false

/-- May the first one go for the second one? -/
def goV (o p : PodD) : Bool := decide (o.prio < p.prio)
def hasP (id : Int) (l : List PodD) : Bool := decide (0 ≤ place PodD.id id l 0)
def mayD (pod over : Int) (l : List PodD) : Bool := (hasP pod l && hasP over l) && goV (podZ over l) (podZ pod l)
theorem has_none {id : Int} {l : List PodD} (h : place PodD.id id l 0 < 0) : hasP id l = false := by simp [hasP]; exact h
theorem has_some {id : Int} {l : List PodD} {i : Nat} (h : place PodD.id id l 0 = i) : hasP id l = true := by simp [hasP, h]
/-- Is it at that node, and may go for this one? -/
def isV (node : Int) (p q : PodD) : Bool := q.node == node && goV q p
def vicD (node : Int) (p : PodD) (l : List PodD) : List PodD := l.filter (isV node p)
theorem vic_len (node : Int) (p : PodD) (l : List PodD) : (vicD node p l).length ≤ l.length := List.length_filter_le _ _
theorem vic_next {node : Int} {p q : PodD} {l : List PodD} {k : Nat} (h : k < l.length) (hx : l[k] = q) : vicD node p (l.take (k + 1)) = vicD node p (l.take k) ++ if isV node p q = true then [q] else [] := by
  unfold vicD
  rw [List.take_succ_eq_append_getElem h, hx, List.filter_append]
  cases hq : isV node p q <;> simp [hq]
theorem vic_in {node : Int} {p q : PodD} {l : List PodD} {k : Nat} (h : k < l.length) (hx : l[k] = q) (hq : isV node p q = true) : vicD node p (l.take (k + 1)) = vicD node p (l.take k) ++ [q] := by
  rw [vic_next h hx, if_pos hq]
theorem vic_out {node : Int} {p q : PodD} {l : List PodD} {k : Nat} (h : k < l.length) (hx : l[k] = q) (hq : isV node p q = false) : vicD node p (l.take (k + 1)) = vicD node p (l.take k) := by
  rw [vic_next h hx, if_neg (by simp [hq]), List.append_nil]
theorem vic_mem {node : Int} {p q : PodD} {l : List PodD} (h : q ∈ vicD node p l) : q ∈ l ∧ q.node = node ∧ goV q p = true := by
  simp [vicD, isV, List.mem_filter] at h
  exact ⟨h.1, h.2.1, h.2.2⟩

/-- The order of two that may go. -/
def ordV (a b : PodD) : Int := if a.prio < b.prio then -1 else if b.prio < a.prio then 1 else if a.id < b.id then -1 else if b.id < a.id then 1 else 0
def ltV (a b : PodD) : Prop := a.prio < b.prio ∨ (a.prio = b.prio ∧ a.id < b.id)
instance (a b : PodD) : Decidable (ltV a b) := by unfold ltV; infer_instance
theorem ordV_neg (a b : PodD) : (ordV a b < 0) ↔ ltV a b := by
  unfold ordV ltV
  split
  · simp; omega
  · split
    · simp; omega
    · split
      · simp; omega
      · split <;> simp <;> omega

/-- The Ids of those that may go, in their order. -/
def VicIs (node pod : Int) (l : List PodD) (zs : List Int) : Prop :=
  ((hasP pod l = true ∧ node ≠ 0) ∧ ∃ vs : List PodD, vs.Perm (vicD node (podZ pod l) l) ∧ (vs.Pairwise fun x y => ¬ ltV y x) ∧ zs = vs.map PodD.id) ∨ ((hasP pod l = false ∨ node = 0) ∧ zs = [])
theorem VicIs.len {node pod : Int} {l : List PodD} {zs : List Int} (h : VicIs node pod l zs) : zs.length ≤ l.length := by
  rcases h with ⟨_, vs, h1, _, rfl⟩ | ⟨_, rfl⟩
  · rw [List.length_map, h1.length_eq]; exact vic_len _ _ _
  · exact Nat.zero_le _

/-- Ids that rise. -/
def RisesP (l : List PodD) : Prop := l.Pairwise fun x y => x.id < y.id
theorem rises_take {l : List PodD} {k : Nat} (h : RisesP (l.take k)) (hk : k < l.length) (h0 : ∀ hj : k - 1 < l.length, k ≠ 0 → l[k - 1].id < l[k].id) : RisesP (l.take (k + 1)) := by
  unfold RisesP at *
  rw [List.take_succ_eq_append_getElem hk, List.pairwise_append]
  refine ⟨h, by simp, fun x hx y hy => ?_⟩
  simp at hy; subst hy
  obtain ⟨i, hi, rfl⟩ := List.getElem_of_mem hx
  rw [List.getElem_take]
  have hi' : i < k := by simp at hi; omega
  have h1 := h0 (by omega) (by omega)
  rcases Nat.lt_or_ge i (k - 1) with hlt | hge
  · have := List.pairwise_iff_getElem.1 h i (k - 1) hi (by simp; omega) hlt
    simp only [List.getElem_take] at this
    omega
  · obtain rfl : i = k - 1 := by omega
    exact h1
theorem risesP_place {l : List PodD} (h : RisesP l) {i : Nat} (hi : i < l.length) : place PodD.id l[i].id l 0 = i := by
  have := place_at (f := PodD.id) (id := l[i].id) (l := l) (k := 0) hi rfl (fun j hj => by
    have := List.pairwise_iff_getElem.1 h j i (by omega) hi hj
    omega)
  omega
theorem vic_at {node pod : Int} {l : List PodD} {zs : List Int} (hr : RisesP l) (h : VicIs node pod l zs) {i : Nat} (hi : i < zs.length) :
    ∃ k : Nat, ∃ hk : k < l.length, place PodD.id zs[i] l 0 = k ∧ l[k].node = node ∧ mayD pod zs[i] l = true := by
  rcases h with ⟨⟨h0, _⟩, vs, h1, _, rfl⟩ | ⟨_, rfl⟩
  · have hiv : i < vs.length := by simpa using hi
    have hm : vs[i] ∈ vicD node (podZ pod l) l := h1.mem_iff.1 (List.getElem_mem hiv)
    obtain ⟨m1, m2, m3⟩ := vic_mem hm
    obtain ⟨k, hk, hkk⟩ := List.getElem_of_mem m1
    have hp := risesP_place hr hk
    rw [List.getElem_map, ← hkk]
    refine ⟨k, hk, hp, by rw [hkk]; exact m2, ?_⟩
    rw [mayD, h0, has_some hp, podZ_some hk hp, hkk, m3]
    rfl
  · simp at hi
end Go.Proofs.Ytedcmchdapfhhaa
