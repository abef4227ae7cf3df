/- Joined texts, part 6: UB UD M A L UF UC UG. -/
import Derived.Test.YtpfjeoldgcepnaaGreatDoorZ03
import Derived.Test.YtpfjeoldgcepnaaGreatDoorZ05
import Derived.Test.YtpfjeoldgcepnaaGreatDoorZ02
import Derived.KernelRfl
import Derived.Test.YtpfjeoldgcepnaaGreatDoorRows
import Derived.WalkKit
import Derived.WalkSpells
import Derived.WalkLawsBesides
import Derived.Lib.Hide
import Derived.OwnWalk
import Derived.Laws.AppendOwnNone
import Derived.Laws.BytesArg
import Derived.Laws.BitsAllLaws
import Derived.Laws.Bits128

/- The program's place and Pod of layer 5. -/
namespace Go.Proofs.YtpfjeoldgcepnaaGreatDoor
set_option linter.unusedSimpArgs false
open Go.RowKit
set_option linter.unusedVariables false

theorem somewhere_any (x : PodD) (w : World) : Calls Tryz.prog 119 #[aggP x] w fun e w' => e = .returned (.bool (x.node != 0)) ∧ Below w.heap.size w w' := by
  by_cases h : x.node = 0
  · have hd : (x.node != 0) = false := by simp [h]
    go_enter Tryz.func119, Tryz.ntmps119
    go_wp2
    go_ret
    exact ⟨ret_bool (by simp [h]), (Below.refl _ _).alloc (Nat.le_refl _) _⟩
  · have hd : (x.node != 0) = true := by simp [h]
    go_enter Tryz.func119, Tryz.ntmps119
    go_wp2
    go_ret
    exact ⟨ret_bool (by simp [h]), (Below.refl _ _).alloc (Nat.le_refl _) _⟩
/-- The closure in place: is this the pod's Id? -/
theorem placeClosure_any (x : PodD) (id : Int) (g : Nat) (w : World) (h0 : w.cell? ⟨g, 0, none⟩ = some (.int .i64 id)) :
    Calls Tryz.prog 134 #[aggP x, .pointer (some ⟨g, 0, none⟩)] w fun e w' => e = .returned (.bool (x.id == id)) ∧ Below w.heap.size w w' := by
  have hg : g < w.heap.size := World.block_lt_of_cell? w _ h0
  go_enter Tryz.func134, Tryz.ntmps134
  go_wp2
  go_ret
  exact ⟨rfl, (Below.refl _ _).alloc (Nat.le_refl _) _⟩
set_option maxHeartbeats 3200000 in
set_option maxRecDepth 100000 in
theorem indexFunc_any (l : List PodD) (id : Int) (g : Nat) (A : Option Addr) (n c : Nat) (w : World) (hn : n = l.length) (hl : n ≤ 1000) (hr : Recs 8 cellsP w w.heap.size A l) (h0 : w.cell? ⟨g, 0, none⟩ = some (.int .i64 id)) :
    Calls Tryz.prog 77 #[.slice A n c, .func (.func 134) #[] #[.pointer (some ⟨g, 0, none⟩)]] w fun e w' => e = .returned (.int .i64 (place PodD.id id l 0)) ∧ Below w.heap.size w w' := by
  have hg : g < w.heap.size := World.block_lt_of_cell? w _ h0
  have HR := Lib.hid hr
  have HN := Lib.hid hn
  have H0 := Lib.hid h0
  clear hr hn h0
  go_enter Tryz.func77, Tryz.ntmps77
  go_wp2
  go_loopw [8] (FRel PodD.id id l w w.heap.size) (fun i _ => n - (intOf i).toNat)
  case atStart => exact ⟨0, by omega, rfl, rfl, Below.refl _ _⟩
  case round =>
    obtain ⟨k, hk, rfl, hp, hbr⟩ := hrel
    have HP := Lib.hid hp
    have hzr := hbr.size
    clear hp
    by_cases hlt : k < n
    · have hkl : k < l.length := by have := HN.out; omega
      obtain ⟨b, o, rfl, hb, he⟩ := HR.out.at hkl
      generalize hx : l[k] = x at *
      have HX := Lib.hid hx
      clear hx
      have e0 : wr.cell? ⟨b, o + k * 8, none⟩ = some (.int .i64 x.id) := (hbr.cell (p := ⟨b, o + k * 8, none⟩) hb).trans (he 0 _ rfl)
      have e1 : wr.cell? ⟨b, o + k * 8 + 1, none⟩ = some (.int .i64 x.load) := (hbr.cell (p := ⟨b, o + k * 8 + 1, none⟩) hb).trans (he 1 _ rfl)
      have e2 : wr.cell? ⟨b, o + k * 8 + 2, none⟩ = some (.int .i64 x.prio) := (hbr.cell (p := ⟨b, o + k * 8 + 2, none⟩) hb).trans (he 2 _ rfl)
      have e3 : wr.cell? ⟨b, o + k * 8 + 3, none⟩ = some (.int .u64 x.req.a) := (hbr.cell (p := ⟨b, o + k * 8 + 3, none⟩) hb).trans (he 3 _ rfl)
      have e4 : wr.cell? ⟨b, o + k * 8 + 4, none⟩ = some (.int .u64 x.req.b) := (hbr.cell (p := ⟨b, o + k * 8 + 4, none⟩) hb).trans (he 4 _ rfl)
      have e5 : wr.cell? ⟨b, o + k * 8 + 5, none⟩ = some (.int .u64 x.req.c) := (hbr.cell (p := ⟨b, o + k * 8 + 5, none⟩) hb).trans (he 5 _ rfl)
      have e6 : wr.cell? ⟨b, o + k * 8 + 6, none⟩ = some (.int .u64 x.req.d) := (hbr.cell (p := ⟨b, o + k * 8 + 6, none⟩) hb).trans (he 6 _ rfl)
      have e7 : wr.cell? ⟨b, o + k * 8 + 7, none⟩ = some (.int .i64 x.node) := (hbr.cell (p := ⟨b, o + k * 8 + 7, none⟩) hb).trans (he 7 _ rfl)
      have hbw : b < wr.heap.size := by omega
      have hgc : wr.cell? ⟨g, 0, none⟩ = some (.int .i64 id) := (hbr.cell (p := ⟨g, 0, none⟩) hg).trans H0.out
      clear he
      go_wp2_with fail
      go_at_call 134
      refine (placeClosure_any x id g _ hgc).mono ?_
      rintro e w1 ⟨rfl, hb1⟩
      have k1 : Below w.heap.size w w1 := hbr.trans (hb1.mono hzr)
      by_cases hid : x.id = id
      · have HE := Lib.hid (place_found hkl (by rw [HX.out]; exact hid) HP.out)
        have hd : (x.id == id) = true := by simp [hid]
        clear hid
        go_wp2
        go_ret
        exact ⟨ret_int HE.out.symm, k1⟩
      · have HE := Lib.hid (place_step hkl (by rw [HX.out]; exact hid) HP.out)
        have hd : (x.id == id) = false := by simp [hid]
        clear hid
        go_wp2
        go_roundw
        case rel => exact ⟨k + 1, by omega, by go_num, HE.out, k1⟩
        case measure => simp [intOf]; omega
    · have HE := Lib.hid (place_end (by have := HN.out; omega) HP.out)
      go_wp2
      go_ret
      exact ⟨ret_int HE.out.symm, hbr⟩
theorem place_any (l : List PodD) (id : Int) (A : Option Addr) (n c : Nat) (v1 v2 : Value) (w : World) (hn : n = l.length) (hl : n ≤ 1000) (hr : Recs 8 cellsP w w.heap.size A l) :
    Calls Tryz.prog 118 #[.agg #[.slice A n c, v1, v2], .int .i64 id] w fun e w' => e = .returned (.int .i64 (place PodD.id id l 0)) ∧ Below w.heap.size w w' := by
  have b00 := below_two w (.cells #[.slice A n c, v1, v2] 42) (.cells #[.int .i64 id] 3)
  have HF := Lib.hid (indexFunc_any l id (w.heap.size + 1) A n c ((w.alloc (.cells #[.slice A n c, v1, v2] 42)).alloc (.cells #[.int .i64 id] 3)) hn hl ((hr.below b00 (Nat.le_refl _)).more b00.size) (by simp))
  have hmf : ∀ (fn : Fn) (first cap : Array Value) (w : World), (Instr.makeFunc fn first cap).run Tryz.prog w = .ok (.func fn first cap) w := fun _ _ _ _ => rfl
  clear hr hn
  go_enter Tryz.func118, Tryz.ntmps118
  go_wp2_with fail
  refine HF.out.mono ?_
  rintro e w1 ⟨rfl, hb1⟩
  go_wp2
  go_ret
  exact ⟨rfl, b00.trans (hb1.mono b00.size)⟩
theorem place_hit {l : List PodD} {id : Int} (h : ¬ place PodD.id id l 0 < 0) : ∃ i : Nat, i < l.length ∧ place PodD.id id l 0 = i := by
  have := place_ge (f := PodD.id) (id := id) (l := l) (k := 0) (by omega)
  exact ⟨(place PodD.id id l 0).toNat, by omega, by omega⟩
set_option maxHeartbeats 3200000 in
set_option maxRecDepth 100000 in
theorem statePod_any (l : List PodD) (id : Int) (A : Option Addr) (n c : Nat) (v1 v2 : Value) (w : World) (hn : n = l.length) (hl : n ≤ 1000) (hr : Recs 8 cellsP w w.heap.size A l) :
    Calls Tryz.prog 79 #[.agg #[.slice A n c, v1, v2], .int .i64 id] w (FindTo aggP zeroP PodD.id l id w) := by
  have b00 := below_two w (.cells #[.slice A n c, v1, v2] 42) (.cells #[.int .i64 0, .int .i64 0, .int .i64 0, .int .u64 0, .int .u64 0, .int .u64 0, .int .u64 0, .int .i64 0] 79)
  have HF := Lib.hid (place_any l id A n c v1 v2 ((w.alloc (.cells #[.slice A n c, v1, v2] 42)).alloc (.cells #[.int .i64 0, .int .i64 0, .int .i64 0, .int .u64 0, .int .u64 0, .int .u64 0, .int .u64 0, .int .i64 0] 79)) hn hl ((hr.below b00 (Nat.le_refl _)).more b00.size))
  have HR := Lib.hid hr
  have HN := Lib.hid hn
  clear hr hn
  go_enter Tryz.func79, Tryz.ntmps79
  go_wp2_with fail
  refine HF.out.mono ?_
  rintro e w1 ⟨rfl, hb1⟩
  have kw1 : Below w.heap.size w w1 := b00.trans (hb1.mono b00.size)
  have hz1 : w.heap.size + 2 ≤ w1.heap.size := by have := hb1.size; simpa using this
  have b0 : w1.cell? ⟨w.heap.size, 0, none⟩ = some (.slice A n c) := (hb1.cell (p := ⟨w.heap.size, 0, none⟩) (by simp; omega)).trans (by simp)
  have b1 : w1.cell? ⟨w.heap.size, 1, none⟩ = some v1 := (hb1.cell (p := ⟨w.heap.size, 1, none⟩) (by simp; omega)).trans (by simp)
  have b2 : w1.cell? ⟨w.heap.size, 2, none⟩ = some v2 := (hb1.cell (p := ⟨w.heap.size, 2, none⟩) (by simp; omega)).trans (by simp)
  have g0 : w1.cell? ⟨w.heap.size + 1, 0, none⟩ = some (.int .i64 0) := (hb1.cell (p := ⟨w.heap.size + 1, 0, none⟩) (by simp)).trans (by simp)
  have h0 : w1.frozen? ⟨w.heap.size + 1, 0, none⟩ = false := (hb1.frozen (p := ⟨w.heap.size + 1, 0, none⟩) (by simp)).trans (by simp)
  have g1 : w1.cell? ⟨w.heap.size + 1, 1, none⟩ = some (.int .i64 0) := (hb1.cell (p := ⟨w.heap.size + 1, 1, none⟩) (by simp)).trans (by simp)
  have h1 : w1.frozen? ⟨w.heap.size + 1, 1, none⟩ = false := (hb1.frozen (p := ⟨w.heap.size + 1, 1, none⟩) (by simp)).trans (by simp)
  have g2 : w1.cell? ⟨w.heap.size + 1, 2, none⟩ = some (.int .i64 0) := (hb1.cell (p := ⟨w.heap.size + 1, 2, none⟩) (by simp)).trans (by simp)
  have h2 : w1.frozen? ⟨w.heap.size + 1, 2, none⟩ = false := (hb1.frozen (p := ⟨w.heap.size + 1, 2, none⟩) (by simp)).trans (by simp)
  have g3 : w1.cell? ⟨w.heap.size + 1, 3, none⟩ = some (.int .u64 0) := (hb1.cell (p := ⟨w.heap.size + 1, 3, none⟩) (by simp)).trans (by simp)
  have h3 : w1.frozen? ⟨w.heap.size + 1, 3, none⟩ = false := (hb1.frozen (p := ⟨w.heap.size + 1, 3, none⟩) (by simp)).trans (by simp)
  have g4 : w1.cell? ⟨w.heap.size + 1, 4, none⟩ = some (.int .u64 0) := (hb1.cell (p := ⟨w.heap.size + 1, 4, none⟩) (by simp)).trans (by simp)
  have h4 : w1.frozen? ⟨w.heap.size + 1, 4, none⟩ = false := (hb1.frozen (p := ⟨w.heap.size + 1, 4, none⟩) (by simp)).trans (by simp)
  have g5 : w1.cell? ⟨w.heap.size + 1, 5, none⟩ = some (.int .u64 0) := (hb1.cell (p := ⟨w.heap.size + 1, 5, none⟩) (by simp)).trans (by simp)
  have h5 : w1.frozen? ⟨w.heap.size + 1, 5, none⟩ = false := (hb1.frozen (p := ⟨w.heap.size + 1, 5, none⟩) (by simp)).trans (by simp)
  have g6 : w1.cell? ⟨w.heap.size + 1, 6, none⟩ = some (.int .u64 0) := (hb1.cell (p := ⟨w.heap.size + 1, 6, none⟩) (by simp)).trans (by simp)
  have h6 : w1.frozen? ⟨w.heap.size + 1, 6, none⟩ = false := (hb1.frozen (p := ⟨w.heap.size + 1, 6, none⟩) (by simp)).trans (by simp)
  have g7 : w1.cell? ⟨w.heap.size + 1, 7, none⟩ = some (.int .i64 0) := (hb1.cell (p := ⟨w.heap.size + 1, 7, none⟩) (by simp)).trans (by simp)
  have h7 : w1.frozen? ⟨w.heap.size + 1, 7, none⟩ = false := (hb1.frozen (p := ⟨w.heap.size + 1, 7, none⟩) (by simp)).trans (by simp)
  by_cases hp : place PodD.id id l 0 < 0
  · have HP := Lib.hid hp
    have hd : decide (place PodD.id id l 0 < 0) = true := decide_eq_true hp
    clear hp
    go_wp2
    refine bodyPost_ret (v := .tuple #[zeroP, .bool false]) ?_ rfl ?_
    · simp [results, Tryz.results79, go_sem, *]
    · refine ⟨.inl ⟨HP.out, rfl⟩, ?_⟩
      repeat (first | with_reducible exact kw1 | with_reducible refine Below.setCell ?_ ?_ _)
      all_goals (show w.heap.size ≤ w.heap.size + 1; omega)
  · obtain ⟨i, hi, hpi⟩ := place_hit hp
    clear hp
    obtain ⟨b, o, rfl, hb, he⟩ := HR.out.at hi
    have hin : i < n := by have := HN.out; omega
    have HP := Lib.hid hpi
    rw [hpi]
    clear hpi
    generalize hx : l[i] = x at *
    have HX := Lib.hid hx
    clear hx
    have e0 : w1.cell? ⟨b, o + i * 8, none⟩ = some (.int .i64 x.id) := (kw1.cell (p := ⟨b, o + i * 8, none⟩) hb).trans (he 0 _ rfl)
    have e1 : w1.cell? ⟨b, o + i * 8 + 1, none⟩ = some (.int .i64 x.load) := (kw1.cell (p := ⟨b, o + i * 8 + 1, none⟩) hb).trans (he 1 _ rfl)
    have e2 : w1.cell? ⟨b, o + i * 8 + 2, none⟩ = some (.int .i64 x.prio) := (kw1.cell (p := ⟨b, o + i * 8 + 2, none⟩) hb).trans (he 2 _ rfl)
    have e3 : w1.cell? ⟨b, o + i * 8 + 3, none⟩ = some (.int .u64 x.req.a) := (kw1.cell (p := ⟨b, o + i * 8 + 3, none⟩) hb).trans (he 3 _ rfl)
    have e4 : w1.cell? ⟨b, o + i * 8 + 4, none⟩ = some (.int .u64 x.req.b) := (kw1.cell (p := ⟨b, o + i * 8 + 4, none⟩) hb).trans (he 4 _ rfl)
    have e5 : w1.cell? ⟨b, o + i * 8 + 5, none⟩ = some (.int .u64 x.req.c) := (kw1.cell (p := ⟨b, o + i * 8 + 5, none⟩) hb).trans (he 5 _ rfl)
    have e6 : w1.cell? ⟨b, o + i * 8 + 6, none⟩ = some (.int .u64 x.req.d) := (kw1.cell (p := ⟨b, o + i * 8 + 6, none⟩) hb).trans (he 6 _ rfl)
    have e7 : w1.cell? ⟨b, o + i * 8 + 7, none⟩ = some (.int .i64 x.node) := (kw1.cell (p := ⟨b, o + i * 8 + 7, none⟩) hb).trans (he 7 _ rfl)
    have hbw : b < w1.heap.size := by omega
    clear he
    go_wp2
    refine bodyPost_ret (v := .tuple #[aggP x, .bool true]) ?_ rfl ?_
    · simp [results, Tryz.results79, go_sem, *]
    · refine ⟨.inr ⟨i, hi, HP.out, by rw [HX.out]⟩, ?_⟩
      repeat (first | with_reducible exact kw1 | with_reducible refine Below.setCell ?_ ?_ _)
      all_goals (show w.heap.size ≤ w.heap.size + 1; omega)
end Go.Proofs.YtpfjeoldgcepnaaGreatDoor

/- Are two states alike? The program's and the reference's Same of layer 5. -/
namespace Go.Proofs.YtpfjeoldgcepnaaGreatDoor
set_option linter.unusedSimpArgs false
open Go.RowKit
set_option linter.unusedVariables false

def PodsEqRel (l m : List PodD) (W : World) (B : Nat) (i : Value) (wr : World) : Prop := ∃ k : Nat, k ≤ l.length ∧ i = .int .i64 k ∧ podsEq (l.drop k) (m.drop k) = podsEq l m ∧ Below B W wr
abbrev stateV (A : Option Addr) (n c : Nat) (p s : Int) : Value := .agg #[.slice A n c, .int .i64 p, .int .i64 s]
set_option maxHeartbeats 3200000 in
set_option maxRecDepth 100000 in
/-- dunnageref05.Same. -/
theorem rSame05_any (t u : StateD) (A A' : Option Addr) (n c n' c' : Nat) (w : World) (hn : n = t.pods.length) (hl : n ≤ 1000) (hn' : n' = u.pods.length) (hl' : n' ≤ 1000) (hr : Recs 8 cellsP w w.heap.size A t.pods) (hr' : Recs 8 cellsP w w.heap.size A' u.pods) :
    Calls Tryz.prog 17 #[stateV A n c t.preempts t.shifts, stateV A' n' c' u.preempts u.shifts] w fun e w' => e = .returned (.bool (stateEq t u)) ∧ Below w.heap.size w w' := by
  have b00 := below_two w (.cells #[.slice A n c, .int .i64 t.preempts, .int .i64 t.shifts] 42) (.cells #[.slice A' n' c', .int .i64 u.preempts, .int .i64 u.shifts] 42)
  by_cases hnn : n = n'
  · subst hnn
    cases hp : t.preempts == u.preempts with
    | false =>
      have HE := Lib.hid (show stateEq t u = false by unfold stateEq; rw [hp]; simp)
      have hd : (t.preempts != u.preempts) = true := by simpa using hp
      go_enter Tryz.func17, Tryz.ntmps17
      go_wp2
      go_ret
      exact ⟨ret_bool HE.out.symm, below_two _ _ _⟩
    | true =>
      have hd : (t.preempts != u.preempts) = false := by simpa using hp
      cases hs : t.shifts == u.shifts with
      | false =>
        have HE := Lib.hid (show stateEq t u = false by unfold stateEq; rw [hs]; simp)
        have hd' : (t.shifts != u.shifts) = true := by simpa using hs
        clear hp hs
        go_enter Tryz.func17, Tryz.ntmps17
        go_wp2
        go_ret
        exact ⟨ret_bool HE.out.symm, below_two _ _ _⟩
      | true =>
        have hd' : (t.shifts != u.shifts) = false := by simpa using hs
        have HS := Lib.hid (show stateEq t u = podsEq t.pods u.pods by unfold stateEq; rw [hp, hs]; simp)
        clear hp hs
        have HR := Lib.hid hr
        have HR' := Lib.hid hr'
        have HN := Lib.hid hn
        have HM := Lib.hid hn'
        clear hr hr' hn hn'
        generalize t.pods = l at *
        generalize u.pods = m at *
        go_enter Tryz.func17, Tryz.ntmps17
        go_wp2
        go_loopw [5] (PodsEqRel l m ((w.alloc (.cells #[.slice A n c, .int .i64 t.preempts, .int .i64 t.shifts] 42)).alloc (.cells #[.slice A' n c', .int .i64 u.preempts, .int .i64 u.shifts] 42)) (w.heap.size + 2)) (fun i _ => n - (intOf i).toNat)
        case atStart => exact ⟨0, by omega, rfl, rfl, Below.refl _ _⟩
        case round =>
          obtain ⟨k, hk, rfl, hp, hbr⟩ := hrel
          have HP := Lib.hid hp
          have kwr := b00.trans (hbr.mono (by omega))
          have hzr : w.heap.size + 2 ≤ wr.heap.size := by have := hbr.size; simpa using this
          obtain ⟨⟨b0, b1, b2⟩, b3, b4, b5⟩ := box2_cells hbr
          have hwl : w.heap.size < wr.heap.size := by omega
          have hwl1 : w.heap.size + 1 < wr.heap.size := by omega
          clear hp
          by_cases hlt : k < n
          · have hkl : k < l.length := by have := HN.out; omega
            have hkm : k < m.length := by have := HM.out; omega
            obtain ⟨b, o, rfl, hb, he⟩ := HR.out.at hkl
            obtain ⟨b', o', rfl, hb', he'⟩ := HR'.out.at hkm
            have HA := Lib.hid (podsEq_at hkl hkm rfl rfl HP.out)
            generalize l[k] = x at *
            generalize m[k] = y at *
            have e0 : wr.cell? ⟨b, o + k * 8, none⟩ = some (.int .i64 x.id) := (kwr.cell (p := ⟨b, o + k * 8, none⟩) hb).trans (he 0 _ rfl)
            have e1 : wr.cell? ⟨b, o + k * 8 + 1, none⟩ = some (.int .i64 x.load) := (kwr.cell (p := ⟨b, o + k * 8 + 1, none⟩) hb).trans (he 1 _ rfl)
            have e2 : wr.cell? ⟨b, o + k * 8 + 2, none⟩ = some (.int .i64 x.prio) := (kwr.cell (p := ⟨b, o + k * 8 + 2, none⟩) hb).trans (he 2 _ rfl)
            have e3 : wr.cell? ⟨b, o + k * 8 + 3, none⟩ = some (.int .u64 x.req.a) := (kwr.cell (p := ⟨b, o + k * 8 + 3, none⟩) hb).trans (he 3 _ rfl)
            have e4 : wr.cell? ⟨b, o + k * 8 + 4, none⟩ = some (.int .u64 x.req.b) := (kwr.cell (p := ⟨b, o + k * 8 + 4, none⟩) hb).trans (he 4 _ rfl)
            have e5 : wr.cell? ⟨b, o + k * 8 + 5, none⟩ = some (.int .u64 x.req.c) := (kwr.cell (p := ⟨b, o + k * 8 + 5, none⟩) hb).trans (he 5 _ rfl)
            have e6 : wr.cell? ⟨b, o + k * 8 + 6, none⟩ = some (.int .u64 x.req.d) := (kwr.cell (p := ⟨b, o + k * 8 + 6, none⟩) hb).trans (he 6 _ rfl)
            have e7 : wr.cell? ⟨b, o + k * 8 + 7, none⟩ = some (.int .i64 x.node) := (kwr.cell (p := ⟨b, o + k * 8 + 7, none⟩) hb).trans (he 7 _ rfl)
            have g0 : wr.cell? ⟨b', o' + k * 8, none⟩ = some (.int .i64 y.id) := (kwr.cell (p := ⟨b', o' + k * 8, none⟩) hb').trans (he' 0 _ rfl)
            have g1 : wr.cell? ⟨b', o' + k * 8 + 1, none⟩ = some (.int .i64 y.load) := (kwr.cell (p := ⟨b', o' + k * 8 + 1, none⟩) hb').trans (he' 1 _ rfl)
            have g2 : wr.cell? ⟨b', o' + k * 8 + 2, none⟩ = some (.int .i64 y.prio) := (kwr.cell (p := ⟨b', o' + k * 8 + 2, none⟩) hb').trans (he' 2 _ rfl)
            have g3 : wr.cell? ⟨b', o' + k * 8 + 3, none⟩ = some (.int .u64 y.req.a) := (kwr.cell (p := ⟨b', o' + k * 8 + 3, none⟩) hb').trans (he' 3 _ rfl)
            have g4 : wr.cell? ⟨b', o' + k * 8 + 4, none⟩ = some (.int .u64 y.req.b) := (kwr.cell (p := ⟨b', o' + k * 8 + 4, none⟩) hb').trans (he' 4 _ rfl)
            have g5 : wr.cell? ⟨b', o' + k * 8 + 5, none⟩ = some (.int .u64 y.req.c) := (kwr.cell (p := ⟨b', o' + k * 8 + 5, none⟩) hb').trans (he' 5 _ rfl)
            have g6 : wr.cell? ⟨b', o' + k * 8 + 6, none⟩ = some (.int .u64 y.req.d) := (kwr.cell (p := ⟨b', o' + k * 8 + 6, none⟩) hb').trans (he' 6 _ rfl)
            have g7 : wr.cell? ⟨b', o' + k * 8 + 7, none⟩ = some (.int .i64 y.node) := (kwr.cell (p := ⟨b', o' + k * 8 + 7, none⟩) hb').trans (he' 7 _ rfl)
            clear he he'
            have hk0 : (0 : Int) ≤ (k : Int) := by omega
            have hk1 : (k : Int) < (n : Int) := by omega
            have hbw : b < wr.heap.size := by omega
            have hbw' : b' < wr.heap.size := by omega
            cases hq : podEq x y with
            | false =>
              have hns : ∀ v, (binOp .neq 79 (aggP x) (aggP y)).run Tryz.prog v = .ok (.bool true) v := fun v => by rw [pod_neq, hq]; rfl
              have HE := Lib.hid (HA.out.1 hq)
              clear hq
              go_wp2
              go_quiet (fail)
              go_wp2
              go_ret
              exact ⟨ret_bool (HS.out.trans HE.out).symm, below_draws kwr _⟩
            | true =>
              have hns : ∀ v, (binOp .neq 79 (aggP x) (aggP y)).run Tryz.prog v = .ok (.bool false) v := fun v => by rw [pod_neq, hq]; rfl
              have HE := Lib.hid (HA.out.2 hq)
              clear hq
              go_wp2
              go_quiet (fail)
              go_wp2
              go_roundw
              case rel => exact ⟨k + 1, by omega, by go_num, HE.out, below_draws hbr _⟩
              case measure => simp [intOf]; omega
          · have HE := Lib.hid (podsEq_end (by have := HN.out; omega) (by have := HM.out; omega) HP.out)
            go_wp2
            go_ret
            exact ⟨ret_bool (HS.out.trans HE.out).symm, kwr⟩
  · have HE := Lib.hid (show stateEq t u = false by unfold stateEq; rw [podsEq_len (by omega)]; rfl)
    have hd : ((n : Int) != (n' : Int)) = true := by simp; omega
    go_enter Tryz.func17, Tryz.ntmps17
    go_wp2
    go_ret
    exact ⟨ret_bool HE.out.symm, below_two _ _ _⟩
end Go.Proofs.YtpfjeoldgcepnaaGreatDoor

/- Plain mathematics of numbers as bytes; no program stands in it. -/
namespace Go.Proofs.YtpfjeoldgcepnaaGreatDoor
set_option linter.unusedSimpArgs false

/-- A number's bytes: seven bits a byte, the lowest first. -/
def enc (n : Int) : List Int := if n < 128 then [n] else (n % 128 + 128) :: enc (n / 128)
  termination_by n.toNat
  decreasing_by omega

def pw (i : Nat) : Int := 128 ^ i
def Nums (l : List Int) : Prop := ∀ n ∈ l, 0 ≤ n ∧ n < 18446744073709551616
def Octs (l : List Int) : Prop := ∀ c ∈ l, 0 ≤ c ∧ c < 256
theorem Nums.append {a b : List Int} (ha : Nums a) (hb : Nums b) : Nums (a ++ b) := fun n hn => by
  rcases List.mem_append.1 hn with h | h
  · exact ha n h
  · exact hb n h
theorem Nums.take {a : List Int} (ha : Nums a) (k : Nat) : Nums (a.take k) := fun n hn => ha n (List.mem_of_mem_take hn)
theorem Octs.drop {a : List Int} (ha : Octs a) (k : Nat) : Octs (a.drop k) := fun n hn => ha n (List.mem_of_mem_drop hn)
end Go.Proofs.YtpfjeoldgcepnaaGreatDoor

/- Words for memory that the walks share: a slice that reads as a list of values, nil or not; what stays of it. -/
namespace Go.Proofs.YtpfjeoldgcepnaaGreatDoor
set_option linter.unusedSimpArgs false
open Go.RowKit
set_option linter.unusedVariables false

theorem old_cells {W w1 : World} (hb : Below W.heap.size W w1) : (∀ b o, b < W.heap.size → w1.cell? ⟨b, o, none⟩ = W.cell? ⟨b, o, none⟩) ∧ (∀ b o, b < W.heap.size → w1.frozen? ⟨b, o, none⟩ = W.frozen? ⟨b, o, none⟩) :=
  ⟨fun b o h => hb.cell (p := ⟨b, o, none⟩) h, fun b o h => hb.frozen (p := ⟨b, o, none⟩) h⟩

/-- The slice '.slice A xs.length c' reads as xs in w, and lies below block B. -/
def Row (w : World) (B : Nat) (A : Option Addr) (xs : List Value) : Prop :=
  xs = [] ∨ ∃ b o, A = some ⟨b, o, none⟩ ∧ b < B ∧ ∀ j (h : j < xs.length), w.cell? ⟨b, o + j, none⟩ = some xs[j]

theorem Row.nil {w : World} {B : Nat} {A : Option Addr} : Row w B A [] := .inl rfl
theorem Row.below {w w' : World} {B B' : Nat} {A : Option Addr} {xs : List Value} (h : Row w B A xs) (hb : Below B' w w') (hB : B ≤ B') : Row w' B A xs := by
  rcases h with h | ⟨b, o, h1, h2, h3⟩
  · exact .inl h
  · exact .inr ⟨b, o, h1, h2, fun j hj => (hb.cell (p := ⟨b, o + j, none⟩) (Nat.lt_of_lt_of_le h2 hB)).trans (h3 j hj)⟩
theorem Row.more {w : World} {B B' : Nat} {A : Option Addr} {xs : List Value} (h : Row w B A xs) (hB : B ≤ B') : Row w B' A xs := by
  rcases h with h | ⟨b, o, h1, h2, h3⟩
  · exact .inl h
  · exact .inr ⟨b, o, h1, Nat.lt_of_lt_of_le h2 hB, h3⟩
theorem Row.at {w : World} {B : Nat} {A : Option Addr} {xs : List Value} (h : Row w B A xs) {k : Nat} (hk : k < xs.length) :
    ∃ b o, A = some ⟨b, o, none⟩ ∧ b < B ∧ ∀ j (h : j < xs.length), w.cell? ⟨b, o + j, none⟩ = some xs[j] := by
  rcases h with h | h
  · subst h; simp at hk
  · exact h
theorem Row.take {w : World} {B : Nat} {A : Option Addr} {xs : List Value} (h : Row w B A xs) (k : Nat) : Row w B A (xs.take k) := by
  rcases h with h | ⟨b, o, h1, h2, h3⟩
  · exact .inl (by simp [h])
  · exact .inr ⟨b, o, h1, h2, fun j hj => by rw [List.getElem_take]; exact h3 j (by simp at hj; omega)⟩
theorem Row.drop {w : World} {B : Nat} {A : Option Addr} {xs : List Value} (h : Row w B A xs) {k c : Nat} (hc : xs.length ≤ c) :
    Row w B (if c = k then A else A.map (·.add k)) (xs.drop k) := by
  rcases h with h | ⟨b, o, h1, h2, h3⟩
  · exact .inl (by simp [h])
  · by_cases hk : k < xs.length
    · refine .inr ⟨b, o + k, ?_, h2, fun j hj => ?_⟩
      · rw [if_neg (by omega), h1]; simp [Addr.add_lit]
      · rw [List.getElem_drop, Nat.add_assoc]; exact h3 (k + j) (by simp at hj; omega)
    · exact .inl (by simp; omega)
/-- A row of the call's own reads as what it holds. -/
theorem Row.of_own {w : World} {base n c : Nat} {e : TypeId} {A : Option Addr} {xs : List Value} (h : w.ownsRow base e 1 (.slice A n c) n xs) : Row w w.heap.size A xs ∧ n = xs.length := by
  have hn : n = xs.length := by have := h.1; omega
  refine ⟨?_, hn⟩
  rcases h.2 with ⟨_, h0⟩ | ⟨g, cap, cur, hv, hb, hg, _⟩
  · exact .inl (List.eq_nil_of_length_eq_zero (by omega))
  · injection hv with hA _ _
    subst hA
    refine .inr ⟨g, 0, rfl, (Array.getElem?_eq_some_iff.1 hg).1, fun j hj => ?_⟩
    have := h.cells (g := g) rfl j xs[j] (List.getElem?_eq_getElem hj)
    rwa [Addr.add_lit] at this
theorem own_form {w : World} {base n : Nat} {e : TypeId} {v : Value} {xs : List Value} (h : w.ownsRow base e 1 v n xs) : ∃ A c, v = .slice A n c ∧ n ≤ c ∧ n = xs.length ∧ (A = none → n = 0 ∧ c = 0) := by
  have hn : n = xs.length := by have := h.1; omega
  rcases h.2 with ⟨hv, h0⟩ | ⟨g, cap, cur, hv, hb, hg, hc, _⟩
  · exact ⟨none, 0, by rw [hv, h0], by omega, hn, fun _ => ⟨h0, rfl⟩⟩
  · exact ⟨_, cap, hv, hc, hn, fun h => by cases h⟩
/-- What one append to a row of the call's own leaves. -/
theorem push_own {B : Nat} {e : TypeId} {w wr w1 : World} {v : Value} {n : Nat} {xs : List Value} {o : Obj}
    (hB : B ≤ wr.heap.size) (hown : wr.ownsRow B e 1 v n xs) (hb : Below B w wr) (hgrow : (wr.alloc o).grownBy w1 v.ownBlock) : Below B w w1 :=
  (hb.alloc hB o).grown hgrow (by simp; omega) (fun j hj => (hown.lt j hj).1)
end Go.Proofs.YtpfjeoldgcepnaaGreatDoor

/- What an append to a row of the call's own leaves: one element; a slice that reads as a list, nil or not. -/
namespace Go.Proofs.YtpfjeoldgcepnaaGreatDoor
set_option linter.unusedSimpArgs false
open Go.RowKit
set_option linter.unusedVariables false

section
variable {ops : Array Oper} {rest : List Oper} {o : Oper} {a : Act} {Q : Exit → Act → World → Prop} {wr : World}

theorem wpList_push (t e : TypeId) (z : Value) (bytes : Nat) (ht : Tryz.prog.underlying t = some (.slice e)) (hinfo : (Tryz.prog.info? e).map (fun i => (i.zero, i.size, i.bytes)) = some (some z, 1, bytes)) (hz : z.cells.size = 1) (hby : bytes ≤ 8)
    (hgd : o.guard = none) (s x : Operand) (ho : o.op = .call { callee := .builtin .append, args := #[s, x], argTypes := #[t, t] })
    (B : Nat) (v : Value) (xs : List Value) (u : Value) (hu : u.oneCell' = true) (hown : wr.ownsRow B e 1 v xs.length xs) (hB : B ≤ wr.heap.size) (hl : xs.length ≤ 2000000)
    (hs : a.eval s = v) (hx : a.eval x = .slice (some ⟨wr.heap.size, 0, none⟩) 1 1)
    (h : ∀ v' w', w'.ownsRow B e 1 v' (xs ++ [u]).length (xs ++ [u]) → Below B wr w' → B ≤ w'.heap.size → wpList Tryz.prog ops Q rest (a.put o.dst v') w') :
    wpList Tryz.prog ops Q (o :: rest) a (wr.alloc (.cells #[u] e)) := by
  obtain ⟨i0, hi, hz0, hz1, hz2⟩ := info_parts hinfo
  refine wpList_append_own _ hgd s x t ho B e i0 z 1 bytes ht hi hz0 hz1 hz2 hz (by decide) v xs.length xs hs (hown.alloc _) ⟨wr.heap.size, 0, none⟩ 1 1 [u] hx rfl ?_ ?_ ?_ ?_ ?_ ?_
  · intro j y hy
    rcases j with _ | j
    · simp at hy; subst hy; simp [Addr.add]
    · simp at hy
  · intro y hy; simp at hy; subst hy; exact hu
  · unfold maxLen; omega
  · have : (xs.length + 1) * bytes ≤ (xs.length + 1) * 8 := Nat.mul_le_mul_left _ hby
    omega
  · simp; omega
  · intro v' w' h1 h2 _
    exact h v' w' (by simpa using h1) (push_own hB hown (Below.refl _ _) h2) (by have := h2.size; simp at this; omega)

theorem wpList_cat (t e : TypeId) (z : Value) (bytes : Nat) (ht : Tryz.prog.underlying t = some (.slice e)) (hinfo : (Tryz.prog.info? e).map (fun i => (i.zero, i.size, i.bytes)) = some (some z, 1, bytes)) (hz : z.cells.size = 1) (hby : bytes ≤ 8)
    (hgd : o.guard = none) (s x : Operand) (ho : o.op = .call { callee := .builtin .append, args := #[s, x], argTypes := #[t, t] })
    {n : Nat} (B R : Nat) (v : Value) (xs ys : List Value) (A : Option Addr) (c : Nat) (hu : ∀ u ∈ ys, u.oneCell' = true) (hnil : A = none → c = 0) (hown : wr.ownsRow B e 1 v xs.length xs) (hrow : Row wr R A ys) (hB : B ≤ wr.heap.size) (hl : xs.length + ys.length ≤ 2000000)
    (hs : a.eval s = v) (hx : a.eval x = .slice A n c) (hn : n = ys.length)
    (h : ∀ v' w', w'.ownsRow B e 1 v' (xs ++ ys).length (xs ++ ys) → Below B wr w' → B ≤ w'.heap.size → wpList Tryz.prog ops Q rest (a.put o.dst v') w') :
    wpList Tryz.prog ops Q (o :: rest) a wr := by
  obtain ⟨i0, hi, hz0, hz1, hz2⟩ := info_parts hinfo
  subst hn
  have fin : ∀ v' w', w'.ownsRow B e 1 v' (xs.length + ys.length) (xs ++ ys) → wr.grownBy w' v.ownBlock → wpList Tryz.prog ops Q rest (a.put o.dst v') w' := fun v' w' h1 h2 =>
    h v' w' (by simpa using h1) ((Below.refl B wr).grown h2 hB (fun j hj => (hown.lt j hj).1)) (by have := h2.size; omega)
  rcases A with _ | ad
  · have h0 : ys = [] := by
      rcases hrow with h0 | ⟨_, _, h0, _⟩
      · exact h0
      · cases h0
    subst h0
    have := hnil rfl
    subst this
    exact wpList_append_own_none hgd s x t ho B e i0 1 ht hi v xs.length xs hs hown hx (fin v wr (by simpa using hown) (World.grownBy.refl _ _))
  · refine wpList_append_own _ hgd s x t ho B e i0 z 1 bytes ht hi hz0 hz1 hz2 hz (by decide) v xs.length xs hs hown ad ys.length c ys hx (by simp) ?_ hu ?_ ?_ hB (fun v' w' h1 h2 _ => fin v' w' h1 h2)
    · intro j y hy
      rcases hrow with h0 | ⟨b, o', h0, _, h1⟩
      · subst h0; simp at hy
      · have h0' := Option.some.inj h0
        subst h0'
        obtain ⟨hj, rfl⟩ := List.getElem?_eq_some_iff.1 hy
        rw [Addr.add_lit]
        exact h1 j hj
    · unfold maxLen; omega
    · have : (xs.length + ys.length) * bytes ≤ (xs.length + ys.length) * 8 := Nat.mul_le_mul_left _ hby
      omega
end
end Go.Proofs.YtpfjeoldgcepnaaGreatDoor

/- What is told is new memory: a copy of a list of pods. -/
namespace Go.Proofs.YtpfjeoldgcepnaaGreatDoor
set_option linter.unusedSimpArgs false
open Go.RowKit
set_option linter.unusedVariables false

theorem infoPod : (Tryz.prog.info? 79).map (fun i => (i.zero, i.size, i.bytes)) = some (some (.agg #[.int .i64 0, .int .i64 0, .int .i64 0, .int .u64 0, .int .u64 0, .int .u64 0, .int .u64 0, .int .i64 0]), 8, 64) := by kernel_rfl
theorem underPods : Tryz.prog.underlying 24 = some (.slice 79) := by kernel_rfl
theorem onePod (x : PodD) : ∀ u ∈ cellsP x, u.oneCell' = true := by
  intro u hu; simp only [cellsP, List.mem_cons, List.not_mem_nil, or_false] at hu
  rcases hu with rfl | rfl | rfl | rfl | rfl | rfl | rfl | rfl <;> rfl
theorem info_parts3 {P : Program} {t : TypeId} {z : Value} {s b : Nat} (h : (P.info? t).map (fun i => (i.zero, i.size, i.bytes)) = some (some z, s, b)) : ∃ i, P.info? t = some i ∧ i.zero = some z ∧ i.size = s ∧ i.bytes = b := by
  cases hi : P.info? t with
  | none => rw [hi] at h; cases h
  | some i =>
    rw [hi] at h
    have h := Option.some.inj h
    simp only [Prod.mk.injEq] at h
    exact ⟨i, rfl, h.1, h.2.1, h.2.2⟩
theorem flatMap_len {α : Type} {size : Nat} {cells : α → List Value} (hc : ∀ x, (cells x).length = size) : ∀ xs : List α, (xs.flatMap cells).length = xs.length * size
  | [] => by simp
  | x :: r => by rw [List.flatMap_cons, List.length_append, hc, flatMap_len hc r, List.length_cons, Nat.add_one_mul]; omega
section
variable {ops : Array Oper} {rest : List Oper} {o : Oper} {a : Act} {Q : Exit → Act → World → Prop} {wr : World}
/-- append of all records of a slice, nil or not, to a row of the call's own. -/
theorem wpList_recs {α : Type} {cells : α → List Value} (t e : TypeId) (z : Value) (size bytes : Nat) (ht : Tryz.prog.underlying t = some (.slice e)) (hinfo : (Tryz.prog.info? e).map (fun i => (i.zero, i.size, i.bytes)) = some (some z, size, bytes)) (hz : z.cells.size = size) (hsz : 0 < size) (hby : bytes ≤ 1000)
    (hc : ∀ x, (cells x).length = size) (hu : ∀ x, ∀ u ∈ cells x, u.oneCell' = true)
    (hgd : o.guard = none) (s x : Operand) (ho : o.op = .call { callee := .builtin .append, args := #[s, x], argTypes := #[t, t] })
    (B R : Nat) (v : Value) (n m : Nat) (xs ys : List α) (A : Option Addr) (c : Nat) (hnil : A = none → c = 0) (hown : wr.ownsRow B e size v n (xs.flatMap cells)) (hrow : Recs size cells wr R A ys) (hB : B ≤ wr.heap.size) (hl : n + m ≤ 2000000)
    (hs : a.eval s = v) (hx : a.eval x = .slice A m c) (hm : m = ys.length)
    (h : ∀ v' w', w'.ownsRow B e size v' (n + m) ((xs ++ ys).flatMap cells) → Below B wr w' → B ≤ w'.heap.size → wpList Tryz.prog ops Q rest (a.put o.dst v') w') :
    wpList Tryz.prog ops Q (o :: rest) a wr := by
  obtain ⟨i0, hi, hz0, hz1, hz2⟩ := info_parts3 hinfo
  have fin : ∀ v' w', w'.ownsRow B e size v' (n + m) (xs.flatMap cells ++ ys.flatMap cells) → wr.grownBy w' v.ownBlock → wpList Tryz.prog ops Q rest (a.put o.dst v') w' := fun v' w' h1 h2 =>
    h v' w' (by rw [List.flatMap_append]; exact h1) ((Below.refl B wr).grown h2 hB (fun j hj => (hown.lt j hj).1)) (by have := h2.size; omega)
  rcases A with _ | ad
  · have h0 : ys = [] := by
      rcases hrow with h0 | ⟨_, _, h0, _⟩
      · exact h0
      · cases h0
    subst h0
    have := hnil rfl
    subst this
    have hm0 : m = 0 := hm
    subst hm0
    exact wpList_append_own_none hgd s x t ho B e i0 size ht hi v n (xs.flatMap cells) hs hown hx (fin v wr (by simpa using hown) (World.grownBy.refl _ _))
  · refine wpList_append_own _ hgd s x t ho B e i0 z size bytes ht hi hz0 hz1 hz2 hz hsz v n (xs.flatMap cells) hs hown ad m c (ys.flatMap cells) hx (by rw [flatMap_len hc, hm]) ?_ ?_ ?_ ?_ hB (fun v' w' h1 h2 _ => fin v' w' h1 h2)
    · intro j y hy
      rcases hrow with h0 | ⟨b, o', h0, _, h1⟩
      · subst h0; simp at hy
      · have h0' := Option.some.inj h0
        subst h0'
        have hj : j < ys.length * size := by have := (List.getElem?_eq_some_iff.1 hy).1; rwa [flatMap_len hc] at this
        have hi : j / size < ys.length := Nat.div_lt_of_lt_mul (by rw [Nat.mul_comm]; exact hj)
        have e1 : j = j / size * size + j % size := by rw [Nat.mul_comm]; exact (Nat.div_add_mod j size).symm
        rw [e1, flatMap_get hc hi (Nat.mod_lt _ hsz)] at hy
        rw [Addr.add_lit]
        have := h1 (j / size) hi (j % size) y hy
        rw [Nat.add_assoc, ← e1] at this
        exact this
    · intro u hu'
      obtain ⟨x, _, hx⟩ := List.mem_flatMap.1 hu'
      exact hu x u hx
    · unfold maxLen; omega
    · have : (n + m) * bytes ≤ (n + m) * 1000 := Nat.mul_le_mul_left _ hby
      omega
end
theorem own_form3 {w : World} {base n size : Nat} {e : TypeId} {v : Value} {xs : List Value} (h : w.ownsRow base e size v n xs) : ∃ A c, v = .slice A n c ∧ n ≤ c ∧ c ≤ maxLen ∧ (A = none → c = 0) := by
  rcases h.2 with ⟨hv, h0⟩ | ⟨g, cap, cur, hv, hb, hg, hc, hm, _⟩
  · exact ⟨none, 0, by rw [hv, h0], by omega, by decide, fun _ => rfl⟩
  · exact ⟨_, cap, hv, hc, hm, fun h => by cases h⟩
/-- A slice of these records in memory of the call's own. -/
def Fresh (l : List PodD) (w : World) (A : Option Addr) (c : Nat) (w' : World) : Prop := w'.ownsRow w.heap.size 79 8 (.slice A l.length c) l.length (l.flatMap cellsP)
theorem lenP (x : PodD) : (cellsP x).length = 8 := rfl
theorem Fresh.out {l : List PodD} {w w' : World} {A : Option Addr} {c : Nat} (h : Fresh l w A c w') : Out 8 cellsP w' l A c := out_of_own lenP rfl h
theorem Fresh.recs {l : List PodD} {w w' : World} {A : Option Addr} {c : Nat} (h : Fresh l w A c w') : Recs 8 cellsP w' w'.heap.size A l := h.out.2.2.2
set_option maxHeartbeats 800000 in
theorem clone_any (l : List PodD) (A : Option Addr) (n c : Nat) (w : World) (hn : n = l.length) (hl : n ≤ 1000) (h0 : A = none → c = 0) (hr : Recs 8 cellsP w w.heap.size A l) :
    Calls Tryz.prog 60 #[.slice A n c] w fun e w' => ∃ A' c', e = .returned (.slice A' n c') ∧ Fresh l w A' c' w' ∧ Below w.heap.size w w' := by
  have HR := Lib.hid hr
  have HN := Lib.hid hn
  have H0 := Lib.hid h0
  clear hr hn h0
  go_enter Tryz.func60, Tryz.ntmps60
  go_wp2_with (at_builtin; refine wpList_recs 24 79 (.agg #[.int .i64 0, .int .i64 0, .int .i64 0, .int .u64 0, .int .u64 0, .int .u64 0, .int .u64 0, .int .i64 0]) 8 64 underPods infoPod rfl (by decide) (by decide) lenP onePod rfl (.const (.slice none 0 0)) (.tmp 3) rfl w.heap.size w.heap.size (.slice none 0 0) 0 n [] l A c H0.out (World.ownsRow_nil _ _ _ _) HR.out (Nat.le_refl _) (by omega) rfl rfl HN.out ?_; intro v' w' hown hb hB)
  obtain ⟨A', c', rfl, _⟩ := own_form3 hown
  rw [Nat.zero_add] at hown
  go_ret
  refine ⟨A', c', congrArg (fun k => Ending.returned (.slice A' k c')) (Nat.zero_add n), ?_, hb⟩
  have := HN.out
  subst this
  exact hown
/-- A row of the call's own is told, and a box of the call's own is written. -/
def OwnAt (B : Nat) (l : List PodD) (w : World) (A : Option Addr) (c : Nat) : Prop := w.ownsRow B 79 8 (.slice A l.length c) l.length (l.flatMap cellsP)
theorem OwnAt.set {B : Nat} {l : List PodD} {w : World} {A : Option Addr} {c : Nat} (h : OwnAt B l w A c) {p : Addr} (hp : p.block < B) (v : Value) : OwnAt B l (w.setCell p v) A c := by
  refine ⟨h.1, ?_⟩
  rcases h.2 with h0 | ⟨g, cap, cur, hv, hb, hg, rest⟩
  · exact .inl h0
  · exact .inr ⟨g, cap, cur, hv, hb, (Below.heap_setCell w p v g (by omega)).trans hg, rest⟩
theorem OwnAt.out {B : Nat} {l : List PodD} {w : World} {A : Option Addr} {c : Nat} (h : OwnAt B l w A c) : Out 8 cellsP w l A c := out_of_own lenP rfl h
theorem OwnAt.of {l : List PodD} {w w' : World} {A : Option Addr} {c : Nat} (h : Fresh l w A c w') : OwnAt w.heap.size l w' A c := h
theorem own_empty (w : World) (B g : Nat) (e : TypeId) (hg : g = w.heap.size) (hB : B ≤ w.heap.size) : (w.alloc (.cells #[] e)).ownsRow B e 8 (.slice (some ⟨g, 0, none⟩) 0 0) 0 (([] : List PodD).flatMap cellsP) := by
  subst hg
  exact ⟨rfl, .inr ⟨w.heap.size, 0, #[], rfl, hB, heap_alloc_new w _, Nat.le_refl _, by decide, rfl, rfl⟩⟩
theorem below_last {B : Nat} {w w' : World} {o : Obj} (h : Below B (w.alloc o) w') (hB : B ≤ w.heap.size) : Below B w w' := ((Below.refl B w).alloc hB o).trans h
theorem below_three (w : World) (o o' o'' : Obj) : Below w.heap.size w (((w.alloc o).alloc o').alloc o'') := (below_two w o o').alloc (by simp; omega) o''
theorem below_four (w : World) (o o' o'' o3 : Obj) : Below w.heap.size w ((((w.alloc o).alloc o').alloc o'').alloc o3) := (below_three w o o' o'').alloc (by simp; omega) o3
end Go.Proofs.YtpfjeoldgcepnaaGreatDoor

/- The program's Goal of layer 5. -/
namespace Go.Proofs.YtpfjeoldgcepnaaGreatDoor
set_option linter.unusedSimpArgs false
open Go.RowKit
set_option linter.unusedVariables false

end Go.Proofs.YtpfjeoldgcepnaaGreatDoor

namespace Go.Proofs.YtpfjeoldgcepnaaGreatDoor
set_option linter.unusedSimpArgs false
open Go.RowKit
set_option linter.unusedVariables false

/-- A pod that isn't there. -/
def noPod : PodD := ⟨0, 0, 0, ⟨0, 0, 0, 0⟩, 0⟩
def podZ (id : Int) (l : List PodD) : PodD := (podAt id l).getD noPod
theorem podZ_none {id : Int} {l : List PodD} (h : place PodD.id id l 0 < 0) : podZ id l = noPod := by
  rw [podZ, (podAt_none (l := l) (k := 0) (by omega)).2 h]; rfl
theorem podZ_some {id : Int} {l : List PodD} {i : Nat} (hi : i < l.length) (h : place PodD.id id l 0 = i) : podZ id l = l[i] := by
  rw [podZ, podAt_some (l := l) (k := 0) hi (by rw [h]; omega) (by omega)]; rfl
def wellD (m : MoveD) : Bool := if m.kind = 1 ∨ m.kind = 3 then m.over == 0 else if m.kind = 2 then m.node == 0 && m.over == 0 else m.kind == 4
def hereD (nodes : List NodeD) (l : List PodD) (m : MoveD) : Bool :=
  !decide (place PodD.id m.pod l 0 < 0) && ((!decide (place NodeD.id m.node nodes 0 < 0) || m.kind == 2) && (m.kind != 4 || !decide (place PodD.id m.over l 0 < 0)))
def canD (l : List PodD) (m : MoveD) : Bool :=
  if m.kind = 2 then (podZ m.pod l).node != 0 else if m.kind = 3 then (podZ m.pod l).node != 0 && (podZ m.pod l).node != m.node
  else if m.kind = 4 then !((podZ m.pod l).node != 0) && (m.over != m.pod && (podZ m.over l).node == m.node) else !((podZ m.pod l).node != 0)
theorem statePodZ_any (l : List PodD) (id : Int) (A : Option Addr) (n c : Nat) (v1 v2 : Value) (w : World) (hn : n = l.length) (hl : n ≤ 1000) (hr : Recs 8 cellsP w w.heap.size A l) :
    Calls Tryz.prog 79 #[.agg #[.slice A n c, v1, v2], .int .i64 id] w fun e w' => ∃ b, e = .returned (.tuple #[aggP (podZ id l), .bool b]) ∧ Below w.heap.size w w' := by
  refine (statePod_any l id A n c v1 v2 w hn hl hr).mono ?_
  rintro e w' ⟨⟨hp, rfl⟩ | ⟨i, hi, hp, rfl⟩, hb⟩
  · exact ⟨false, by rw [podZ_none hp]; rfl, hb⟩
  · exact ⟨true, by rw [podZ_some hi hp], hb⟩
set_option maxHeartbeats 1600000 in
theorem stateWell_any (m : MoveD) (w : World) : Calls Tryz.prog 82 #[aggM m] w fun e w' => e = .returned (.bool (wellD m)) ∧ Below w.heap.size w w' := by
  have b00 : Below w.heap.size w (w.alloc (.cells #[.int .i64 m.kind, .int .i64 m.pod, .int .i64 m.node, .int .i64 m.over] 48)) := (Below.refl _ _).alloc (Nat.le_refl _) _
  obtain ⟨k, p, n, o⟩ := m
  by_cases h1 : k = 1
  · subst h1
    go_enter Tryz.func82, Tryz.ntmps82
    go_wp2
    go_ret
    exact ⟨ret_bool (by simp [wellD]), b00⟩
  have d1 : (k == 1) = false := by simp [h1]
  by_cases h3 : k = 3
  · subst h3
    go_enter Tryz.func82, Tryz.ntmps82
    go_wp2
    go_ret
    exact ⟨ret_bool (by simp [wellD]), b00⟩
  have d3 : (k == 3) = false := by simp [h3]
  by_cases h2 : k = 2
  · subst h2
    by_cases hn : n = 0
    · subst hn
      go_enter Tryz.func82, Tryz.ntmps82
      go_wp2
      go_ret
      exact ⟨ret_bool (by simp [wellD]), b00⟩
    · have dn : (n == 0) = false := by simp [hn]
      have HE := Lib.hid (show wellD ⟨2, p, n, o⟩ = false by simp [wellD, hn])
      clear hn
      go_enter Tryz.func82, Tryz.ntmps82
      go_wp2
      go_ret
      exact ⟨ret_bool HE.out.symm, b00⟩
  have d2 : (k == 2) = false := by simp [h2]
  have HE := Lib.hid (show wellD ⟨k, p, n, o⟩ = (k == 4) by simp [wellD, h1, h2, h3])
  clear h1 h2 h3
  go_enter Tryz.func82, Tryz.ntmps82
  go_wp2
  go_ret
  exact ⟨ret_bool HE.out.symm, b00⟩
/-- Three boxes of the call's own, of three, three and four cells. -/
theorem box3_cells {w wr : World} {x y z x' y' z' a b c d : Value} {t t' t'' : TypeId} (hb : Below (w.heap.size + 3) (((w.alloc (.cells #[x, y, z] t)).alloc (.cells #[x', y', z'] t')).alloc (.cells #[a, b, c, d] t'')) wr) :
    (wr.cell? ⟨w.heap.size, 0, none⟩ = some x ∧ wr.cell? ⟨w.heap.size, 1, none⟩ = some y ∧ wr.cell? ⟨w.heap.size, 2, none⟩ = some z) ∧
    (wr.cell? ⟨w.heap.size + 1, 0, none⟩ = some x' ∧ wr.cell? ⟨w.heap.size + 1, 1, none⟩ = some y' ∧ wr.cell? ⟨w.heap.size + 1, 2, none⟩ = some z') ∧
    (wr.cell? ⟨w.heap.size + 2, 0, none⟩ = some a ∧ wr.cell? ⟨w.heap.size + 2, 1, none⟩ = some b ∧ wr.cell? ⟨w.heap.size + 2, 2, none⟩ = some c ∧ wr.cell? ⟨w.heap.size + 2, 3, none⟩ = some d) := by
  have h2 : Below (w.heap.size + 2) ((w.alloc (.cells #[x, y, z] t)).alloc (.cells #[x', y', z'] t')) wr := ((Below.refl _ _).alloc (by simp) _).trans (hb.mono (by omega))
  obtain ⟨p, q⟩ := box2_cells h2
  refine ⟨p, q, ?_, ?_, ?_, ?_⟩
  all_goals
    rw [hb.cell (by simp), World.cell?_alloc_at _ _ _ _ (by simp)]
    simp
set_option maxHeartbeats 3200000 in
set_option maxRecDepth 100000 in
theorem allThere_any (nodes : List NodeD) (l : List PodD) (m : MoveD) (A1 A2 A3 A : Option Addr) (n1 c1 n2 c2 n3 c3 n c : Nat) (p s : Value) (w : World) (hn1 : n1 = nodes.length) (hl1 : n1 ≤ 1000) (hn : n = l.length) (hl : n ≤ 1000) (hr1 : Recs 10 cellsN w w.heap.size A1 nodes) (hr : Recs 8 cellsP w w.heap.size A l) :
    Calls Tryz.prog 83 #[.agg #[.slice A1 n1 c1, .slice A2 n2 c2, .slice A3 n3 c3], .agg #[.slice A n c, p, s], aggM m] w fun e w' => e = .returned (.bool (hereD nodes l m)) ∧ Below w.heap.size w w' := by
  have b00 := below_three w (.cells #[.slice A1 n1 c1, .slice A2 n2 c2, .slice A3 n3 c3] 26) (.cells #[.slice A n c, p, s] 42) (.cells #[.int .i64 m.kind, .int .i64 m.pod, .int .i64 m.node, .int .i64 m.over] 48)
  have HR1 := Lib.hid hr1
  have HR := Lib.hid hr
  have HN1 := Lib.hid hn1
  have HN := Lib.hid hn
  clear hr1 hr hn1 hn
  have HP := Lib.hid (fun (id : Int) (v : World) (hv : Below w.heap.size w v) => place_any l id A n c p s v HN.out hl ((HR.out.below hv (Nat.le_refl _)).more hv.size))
  have HD := Lib.hid (fun (v : World) (hv : Below w.heap.size w v) => node_any nodes m.node A1 n1 c1 (.slice A2 n2 c2) (.slice A3 n3 c3) v HN1.out hl1 ((HR1.out.below hv (Nat.le_refl _)).more hv.size))
  go_enter Tryz.func83, Tryz.ntmps83
  go_wp2_with fail
  refine (HP.out m.pod _ b00).mono ?_
  rintro e w1 ⟨rfl, hb1⟩
  have k1 : Below (w.heap.size + 3) _ w1 := hb1.mono (by simp)
  have kw1 := b00.trans (k1.mono (by omega))
  by_cases h1 : place PodD.id m.pod l 0 < 0
  · have HE := Lib.hid (show hereD nodes l m = false by simp [hereD, h1])
    have hd : decide (place PodD.id m.pod l 0 < 0) = true := decide_eq_true h1
    clear h1
    go_wp2
    go_ret
    exact ⟨ret_bool HE.out.symm, kw1⟩
  have hd : decide (place PodD.id m.pod l 0 < 0) = false := decide_eq_false h1
  obtain ⟨⟨a0, a1, a2⟩, ⟨a3, a4, a5⟩, a6, a7, a8, a9⟩ := box3_cells k1
  have hz1 : w.heap.size + 3 ≤ w1.heap.size := by have := k1.size; simp at this; omega
  go_wp2_with fail
  refine (HD.out _ kw1).mono ?_
  rintro e w2 ⟨hh, hb2⟩
  have k2 := k1.trans (hb2.mono hz1)
  have kw2 := b00.trans (k2.mono (by omega))
  have hz2 : w.heap.size + 3 ≤ w2.heap.size := by have := hb2.size; omega
  have HH1 := Lib.hid h1
  clear a0 a1 a2 a3 a4 a5 a6 a7 a8 a9 h1 hd
  obtain ⟨q, b, rfl, hq⟩ : ∃ (q : NodeD) (b : Bool), e = .returned (.tuple #[aggN q, .bool b]) ∧ b = !decide (place NodeD.id m.node nodes 0 < 0) := by
    rcases hh with ⟨hp, rfl⟩ | ⟨i, hi, hp, rfl⟩
    · exact ⟨⟨0, 0, ⟨0, 0, 0, 0⟩, ⟨0, 0, 0, 0⟩⟩, false, rfl, by simp [hp]⟩
    · exact ⟨nodes[i], true, rfl, by rw [hp]; simp⟩
  have HQ := Lib.hid hq
  clear hh hq
  have k3 := k2.alloc hz2 (.cells #[.int .i64 q.id, .int .i64 q.zone, .int .u64 q.cap.a, .int .u64 q.cap.b, .int .u64 q.cap.c, .int .u64 q.cap.d, .int .u64 q.held.a, .int .u64 q.held.b, .int .u64 q.held.c, .int .u64 q.held.d] 63)
  have kw3 := b00.trans (k3.mono (by omega))
  obtain ⟨⟨a0, a1, a2⟩, ⟨a3, a4, a5⟩, a6, a7, a8, a9⟩ := box3_cells k2
  have hw0 : w.heap.size < w2.heap.size := by omega
  have hw1 : w.heap.size + 1 < w2.heap.size := by omega
  have hw2 : w.heap.size + 2 < w2.heap.size := by omega
  have hn0 : w2.heap.size ≠ w.heap.size + 1 := by omega
  have hn1 : w2.heap.size ≠ w.heap.size + 2 := by omega
  cases b with
  | false =>
    have hp : place NodeD.id m.node nodes 0 < 0 := by simpa using HQ.out
    by_cases hk : m.kind = 2
    · have HE := Lib.hid (show hereD nodes l m = true by simp [hereD, HH1.out, hk])
      have d2 : (m.kind != 2) = false := by simp [hk]
      have d4 : (m.kind != 4) = true := by simp [hk]
      clear hk hp
      go_wp2
      go_ret
      exact ⟨ret_bool HE.out.symm, kw3⟩
    · have HE := Lib.hid (show hereD nodes l m = false by simp [hereD, hp, hk])
      have d2 : (m.kind != 2) = true := by simp [hk]
      clear hk hp
      go_wp2
      go_ret
      exact ⟨ret_bool HE.out.symm, kw3⟩
  | true =>
    have hp : ¬ place NodeD.id m.node nodes 0 < 0 := by simpa using HQ.out
    by_cases hk : m.kind = 4
    · have HE := Lib.hid (show hereD nodes l m = decide (0 ≤ place PodD.id m.over l 0) by have := HH1.out; have hz : decide (0 ≤ place PodD.id m.over l 0) = !decide (place PodD.id m.over l 0 < 0) := by { rw [Bool.eq_iff_iff]; simp }; rw [hz]; simp [hereD, this, hp, hk])
      have d4 : (m.kind != 4) = false := by simp [hk]
      clear hk hp
      go_wp2_with fail
      refine (HP.out m.over _ kw3).mono ?_
      rintro e w4 ⟨rfl, hb4⟩
      generalize place PodD.id m.over l 0 = po at *
      go_wp2
      go_ret
      exact ⟨ret_bool HE.out.symm, kw3.trans (hb4.mono kw3.size)⟩
    · have HE := Lib.hid (show hereD nodes l m = true by simp [hereD, HH1.out, hp, hk])
      have d4 : (m.kind != 4) = true := by simp [hk]
      clear hk hp
      go_wp2
      go_ret
      exact ⟨ret_bool HE.out.symm, kw3⟩
set_option maxHeartbeats 3200000 in
set_option maxRecDepth 100000 in
theorem canBeMade_any (l : List PodD) (m : MoveD) (A : Option Addr) (n c : Nat) (v1 v2 : Value) (w : World) (hn : n = l.length) (hl : n ≤ 1000) (hr : Recs 8 cellsP w w.heap.size A l) :
    Calls Tryz.prog 84 #[.agg #[.slice A n c, v1, v2], aggM m] w fun e w' => e = .returned (.bool (canD l m)) ∧ Below w.heap.size w w' := by
  have b00 := below_two w (.cells #[.slice A n c, v1, v2] 42) (.cells #[.int .i64 m.kind, .int .i64 m.pod, .int .i64 m.node, .int .i64 m.over] 48)
  have HR := Lib.hid hr
  have HN := Lib.hid hn
  clear hr hn
  have HP := Lib.hid (fun (id : Int) (v : World) (hv : Below w.heap.size w v) => statePodZ_any l id A n c v1 v2 v HN.out hl ((HR.out.below hv (Nat.le_refl _)).more hv.size))
  go_enter Tryz.func84, Tryz.ntmps84
  go_wp2_with fail
  refine (HP.out m.pod _ b00).mono ?_
  rintro e w1 ⟨ib, rfl, hb1⟩
  generalize hq : podZ m.pod l = q at *
  have k1 : Below (w.heap.size + 2) _ w1 := hb1.mono (by simp)
  have kw1 := b00.trans (k1.mono (by omega))
  have hz1 : w.heap.size + 2 ≤ w1.heap.size := by have := k1.size; simp at this; omega
  have HQ := Lib.hid hq
  clear hq
  have k2 := k1.alloc hz1 (.cells #[.int .i64 q.id, .int .i64 q.load, .int .i64 q.prio, .int .u64 q.req.a, .int .u64 q.req.b, .int .u64 q.req.c, .int .u64 q.req.d, .int .i64 q.node] 79)
  have kw2 := b00.trans (k2.mono (by omega))
  have a0 : w1.cell? ⟨w.heap.size, 0, none⟩ = some (.slice A n c) := (k1.cell (p := ⟨w.heap.size, 0, none⟩) (by simp)).trans (by simp)
  have a1 : w1.cell? ⟨w.heap.size, 1, none⟩ = some v1 := (k1.cell (p := ⟨w.heap.size, 1, none⟩) (by simp)).trans (by simp)
  have a2 : w1.cell? ⟨w.heap.size, 2, none⟩ = some v2 := (k1.cell (p := ⟨w.heap.size, 2, none⟩) (by simp)).trans (by simp)
  have a3 : w1.cell? ⟨w.heap.size + 1, 0, none⟩ = some (.int .i64 m.kind) := (k1.cell (p := ⟨w.heap.size + 1, 0, none⟩) (by simp)).trans (by simp)
  have a4 : w1.cell? ⟨w.heap.size + 1, 1, none⟩ = some (.int .i64 m.pod) := (k1.cell (p := ⟨w.heap.size + 1, 1, none⟩) (by simp)).trans (by simp)
  have a5 : w1.cell? ⟨w.heap.size + 1, 2, none⟩ = some (.int .i64 m.node) := (k1.cell (p := ⟨w.heap.size + 1, 2, none⟩) (by simp)).trans (by simp)
  have a6 : w1.cell? ⟨w.heap.size + 1, 3, none⟩ = some (.int .i64 m.over) := (k1.cell (p := ⟨w.heap.size + 1, 3, none⟩) (by simp)).trans (by simp)
  have hw0 : w.heap.size < w1.heap.size := by omega
  have hw1 : w.heap.size + 1 < w1.heap.size := by omega
  have hn0 : w1.heap.size ≠ w.heap.size + 1 := by omega
  have HS := Lib.hid (fun (v : World) => somewhere_any q v)
  by_cases h2 : m.kind = 2
  · have HE := Lib.hid (show canD l m = (q.node != 0) by simp [canD, h2, HQ.out])
    have d2 : (m.kind == 2) = true := by simp [h2]
    clear h2
    go_wp2_with fail
    refine (HS.out _).mono ?_
    rintro e w3 ⟨rfl, hb3⟩
    generalize (q.node != 0) = t at *
    go_wp2
    go_ret
    exact ⟨ret_bool HE.out.symm, kw2.trans (hb3.mono kw2.size)⟩
  have d2 : (m.kind == 2) = false := by simp [h2]
  by_cases h3 : m.kind = 3
  · have HE := Lib.hid (show canD l m = (q.node != 0 && q.node != m.node) by simp [canD, h3, HQ.out])
    have d3 : (m.kind == 3) = true := by simp [h3]
    clear h2 h3
    go_wp2_with fail
    refine (HS.out _).mono ?_
    rintro e w3 ⟨rfl, hb3⟩
    have k3 := k2.trans (hb3.mono (by simp; omega))
    have kw3 := kw2.trans (hb3.mono kw2.size)
    have g5 : w3.cell? ⟨w.heap.size + 1, 2, none⟩ = some (.int .i64 m.node) := (k3.cell (p := ⟨w.heap.size + 1, 2, none⟩) (by simp)).trans (by simp)
    have g7 : w3.cell? ⟨w1.heap.size, 7, none⟩ = some (.int .i64 q.node) := (hb3.cell (p := ⟨w1.heap.size, 7, none⟩) (by simp)).trans (by simp)
    have hw3 : w.heap.size + 1 < w3.heap.size := by have := k3.size; simp at this; omega
    cases ht : (q.node != 0) with
    | false =>
      go_wp2
      go_ret
      exact ⟨ret_bool (by rw [HE.out, ht]; rfl), kw3⟩
    | true =>
      go_wp2
      go_ret
      exact ⟨ret_bool (by rw [HE.out, ht]; rfl), kw3⟩
  have d3 : (m.kind == 3) = false := by simp [h3]
  by_cases h4 : m.kind = 4
  · have HE := Lib.hid (show canD l m = (!(q.node != 0) && (m.over != m.pod && (podZ m.over l).node == m.node)) by simp [canD, h4, HQ.out])
    have d4 : (m.kind == 4) = true := by simp [h4]
    clear h2 h3 h4
    go_wp2_with fail
    refine (HP.out m.over _ kw2).mono ?_
    rintro e w3 ⟨ic, rfl, hb3⟩
    generalize podZ m.over l = r at *
    have k3 := k2.trans (hb3.mono (by simp; omega))
    have kw3 := kw2.trans (hb3.mono kw2.size)
    have hz3 : w1.heap.size + 1 ≤ w3.heap.size := by have := hb3.size; simpa using this
    have f0 : w3.cell? ⟨w1.heap.size, 0, none⟩ = some (.int .i64 q.id) := (hb3.cell (p := ⟨w1.heap.size, 0, none⟩) (by simp)).trans (by simp)
    have f1 : w3.cell? ⟨w1.heap.size, 1, none⟩ = some (.int .i64 q.load) := (hb3.cell (p := ⟨w1.heap.size, 1, none⟩) (by simp)).trans (by simp)
    have f2 : w3.cell? ⟨w1.heap.size, 2, none⟩ = some (.int .i64 q.prio) := (hb3.cell (p := ⟨w1.heap.size, 2, none⟩) (by simp)).trans (by simp)
    have f3 : w3.cell? ⟨w1.heap.size, 3, none⟩ = some (.int .u64 q.req.a) := (hb3.cell (p := ⟨w1.heap.size, 3, none⟩) (by simp)).trans (by simp)
    have f4 : w3.cell? ⟨w1.heap.size, 4, none⟩ = some (.int .u64 q.req.b) := (hb3.cell (p := ⟨w1.heap.size, 4, none⟩) (by simp)).trans (by simp)
    have f5 : w3.cell? ⟨w1.heap.size, 5, none⟩ = some (.int .u64 q.req.c) := (hb3.cell (p := ⟨w1.heap.size, 5, none⟩) (by simp)).trans (by simp)
    have f6 : w3.cell? ⟨w1.heap.size, 6, none⟩ = some (.int .u64 q.req.d) := (hb3.cell (p := ⟨w1.heap.size, 6, none⟩) (by simp)).trans (by simp)
    have f7 : w3.cell? ⟨w1.heap.size, 7, none⟩ = some (.int .i64 q.node) := (hb3.cell (p := ⟨w1.heap.size, 7, none⟩) (by simp)).trans (by simp)
    have hw13 : w1.heap.size < w3.heap.size := by omega
    have k4 := k3.alloc (by omega) (.cells #[.int .i64 r.id, .int .i64 r.load, .int .i64 r.prio, .int .u64 r.req.a, .int .u64 r.req.b, .int .u64 r.req.c, .int .u64 r.req.d, .int .i64 r.node] 79)
    have kw4 := b00.trans (k4.mono (by omega))
    clear a0 a1 a2 a3 a4 a5 a6
    go_wp2_with fail
    refine (HS.out _).mono ?_
    rintro e w5 ⟨rfl, hb5⟩
    have k5 := k4.trans (hb5.mono (by simp; omega))
    have kw5 := kw4.trans (hb5.mono kw4.size)
    have g4 : w5.cell? ⟨w.heap.size + 1, 1, none⟩ = some (.int .i64 m.pod) := (k5.cell (p := ⟨w.heap.size + 1, 1, none⟩) (by simp)).trans (by simp)
    have g5 : w5.cell? ⟨w.heap.size + 1, 2, none⟩ = some (.int .i64 m.node) := (k5.cell (p := ⟨w.heap.size + 1, 2, none⟩) (by simp)).trans (by simp)
    have g6 : w5.cell? ⟨w.heap.size + 1, 3, none⟩ = some (.int .i64 m.over) := (k5.cell (p := ⟨w.heap.size + 1, 3, none⟩) (by simp)).trans (by simp)
    have g7 : w5.cell? ⟨w3.heap.size, 7, none⟩ = some (.int .i64 r.node) := (hb5.cell (p := ⟨w3.heap.size, 7, none⟩) (by simp)).trans (by simp)
    clear f0 f1 f2 f3 f4 f5 f6 f7
    cases ht : (q.node != 0) with
    | true =>
      go_wp2
      go_ret
      exact ⟨ret_bool (by rw [HE.out, ht]; rfl), kw5⟩
    | false =>
      by_cases ho : m.over = m.pod
      · have do_ : (m.over != m.pod) = false := by simp [ho]
        have HF := Lib.hid (show canD l m = false by rw [HE.out, do_]; simp)
        clear ho
        go_wp2
        go_ret
        exact ⟨ret_bool HF.out.symm, kw5⟩
      · have do_ : (m.over != m.pod) = true := by simp [ho]
        have HF := Lib.hid (show canD l m = (r.node == m.node) by rw [HE.out, do_, ht]; simp)
        clear ho
        go_wp2
        go_ret
        exact ⟨ret_bool HF.out.symm, kw5⟩
  have d4 : (m.kind == 4) = false := by simp [h4]
  have HE := Lib.hid (show canD l m = !(q.node != 0) by simp [canD, h2, h3, h4, HQ.out])
  clear h2 h3 h4
  go_wp2_with fail
  refine (HS.out _).mono ?_
  rintro e w3 ⟨rfl, hb3⟩
  generalize (q.node != 0) = t at *
  go_wp2
  go_ret
  exact ⟨ret_bool HE.out.symm, kw2.trans (hb3.mono kw2.size)⟩
end Go.Proofs.YtpfjeoldgcepnaaGreatDoor
