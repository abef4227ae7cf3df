/- Joined texts, part 4: DEP DEW DF UB UD M A. -/
import Derived.Test.YtpfjeoldgcepnaaGreatDoorZ03
import Derived.Test.YtpfjeoldgcepnaaGreatDoorZ02
import Derived.Test.YtpfjeoldgcepnaaGreatDoorZ01
import Derived.KernelRfl
import Derived.Test.YtpfjeoldgcepnaaGreatDoorRows
import Derived.WalkKit
import Derived.WalkSpells
import Derived.WalkLawsBesides
import Derived.Lib.Hide
import Derived.OwnWalk
import Derived.Laws.AppendOwnNone
import Derived.Laws.BytesArg
import Derived.Laws.BitsAllLaws
import Derived.Laws.Bits128

/- The program's find, at one kind of record. -/
namespace Go.Proofs.YtpfjeoldgcepnaaGreatDoor
set_option linter.unusedSimpArgs false
open Go.RowKit
set_option linter.unusedVariables false

abbrev zeroP : Value := .agg #[.int .i64 0, .int .i64 0, .int .i64 0, .int .u64 0, .int .u64 0, .int .u64 0, .int .u64 0, .int .i64 0]
set_option maxHeartbeats 3200000 in
set_option maxRecDepth 100000 in
theorem findP_any (l : List PodD) (id : Int) (A : Option Addr) (n c : Nat) (w : World) (hn : n = l.length) (hl : n ≤ 1000) (hr : Recs 8 cellsP w w.heap.size A l) :
    Calls Tryz.prog 104 #[.slice A n c, .int .i64 id, .func (.func 100) #[] #[]] w (FindTo aggP zeroP PodD.id l id w) := by
  have HR := Lib.hid hr
  have HN := Lib.hid hn
  clear hr hn
  have b00 : Below w.heap.size w (w.alloc (.cells #[.int .i64 0, .int .i64 0, .int .i64 0, .int .u64 0, .int .u64 0, .int .u64 0, .int .u64 0, .int .i64 0] 79)) := (Below.refl _ _).alloc (Nat.le_refl _) _
  go_enter Tryz.func104, Tryz.ntmps104
  go_wp2
  go_loopw [13] (FRel PodD.id id l (w.alloc (.cells #[.int .i64 0, .int .i64 0, .int .i64 0, .int .u64 0, .int .u64 0, .int .u64 0, .int .u64 0, .int .i64 0] 79)) (w.heap.size + 1)) (fun i _ => n - (intOf i).toNat)
  case atStart => exact ⟨0, by omega, rfl, rfl, Below.refl _ _⟩
  case round =>
    obtain ⟨k, hk, rfl, hp, hbr⟩ := hrel
    have HP := Lib.hid hp
    have hzr : w.heap.size + 1 ≤ wr.heap.size := by have := hbr.size; simpa using this
    have kwr : Below w.heap.size w wr := b00.trans (hbr.mono (by omega))
    clear hp
    by_cases hlt : k < n
    · have hkl : k < l.length := by have := HN.out; omega
      obtain ⟨b, o, rfl, hb, he⟩ := HR.out.at hkl
      generalize hx : l[k] = x at *
      have HX := Lib.hid hx
      clear hx
      have e0 : wr.cell? ⟨b, o + k * 8, none⟩ = some (.int .i64 x.id) := (kwr.cell (p := ⟨b, o + k * 8, none⟩) hb).trans (he 0 _ rfl)
      have e1 : wr.cell? ⟨b, o + k * 8 + 1, none⟩ = some (.int .i64 x.load) := (kwr.cell (p := ⟨b, o + k * 8 + 1, none⟩) hb).trans (he 1 _ rfl)
      have e2 : wr.cell? ⟨b, o + k * 8 + 2, none⟩ = some (.int .i64 x.prio) := (kwr.cell (p := ⟨b, o + k * 8 + 2, none⟩) hb).trans (he 2 _ rfl)
      have e3 : wr.cell? ⟨b, o + k * 8 + 3, none⟩ = some (.int .u64 x.req.a) := (kwr.cell (p := ⟨b, o + k * 8 + 3, none⟩) hb).trans (he 3 _ rfl)
      have e4 : wr.cell? ⟨b, o + k * 8 + 4, none⟩ = some (.int .u64 x.req.b) := (kwr.cell (p := ⟨b, o + k * 8 + 4, none⟩) hb).trans (he 4 _ rfl)
      have e5 : wr.cell? ⟨b, o + k * 8 + 5, none⟩ = some (.int .u64 x.req.c) := (kwr.cell (p := ⟨b, o + k * 8 + 5, none⟩) hb).trans (he 5 _ rfl)
      have e6 : wr.cell? ⟨b, o + k * 8 + 6, none⟩ = some (.int .u64 x.req.d) := (kwr.cell (p := ⟨b, o + k * 8 + 6, none⟩) hb).trans (he 6 _ rfl)
      have e7 : wr.cell? ⟨b, o + k * 8 + 7, none⟩ = some (.int .i64 x.node) := (kwr.cell (p := ⟨b, o + k * 8 + 7, none⟩) hb).trans (he 7 _ rfl)
      have hbw : b < wr.heap.size := by omega
      clear he
      go_wp2_with fail
      refine (idP_any x _).mono ?_
      rintro e w2 ⟨rfl, hb2⟩
      have k1 : Below (w.heap.size + 1) (w.alloc (.cells #[.int .i64 0, .int .i64 0, .int .i64 0, .int .u64 0, .int .u64 0, .int .u64 0, .int .u64 0, .int .i64 0] 79)) (wr.alloc (.cells #[.int .i64 x.id, .int .i64 x.load, .int .i64 x.prio, .int .u64 x.req.a, .int .u64 x.req.b, .int .u64 x.req.c, .int .u64 x.req.d, .int .i64 x.node] 79)) := hbr.alloc hzr _
      have k2 : Below (w.heap.size + 1) (w.alloc (.cells #[.int .i64 0, .int .i64 0, .int .i64 0, .int .u64 0, .int .u64 0, .int .u64 0, .int .u64 0, .int .i64 0] 79)) w2 := k1.trans (hb2.mono (by simp; omega))
      have kw2 : Below w.heap.size w w2 := b00.trans (k2.mono (by omega))
      clear e0 e1 e2 e3 e4 e5 e6 e7
      by_cases hid : x.id = id
      · have HE := Lib.hid (place_found hkl (by rw [HX.out]; exact hid) HP.out)
        subst hid
        have f0 : w2.cell? ⟨wr.heap.size, 0, none⟩ = some (.int .i64 x.id) := (hb2.cell (p := ⟨wr.heap.size, 0, none⟩) (by simp)).trans (by simp)
        have f1 : w2.cell? ⟨wr.heap.size, 1, none⟩ = some (.int .i64 x.load) := (hb2.cell (p := ⟨wr.heap.size, 1, none⟩) (by simp)).trans (by simp)
        have f2 : w2.cell? ⟨wr.heap.size, 2, none⟩ = some (.int .i64 x.prio) := (hb2.cell (p := ⟨wr.heap.size, 2, none⟩) (by simp)).trans (by simp)
        have f3 : w2.cell? ⟨wr.heap.size, 3, none⟩ = some (.int .u64 x.req.a) := (hb2.cell (p := ⟨wr.heap.size, 3, none⟩) (by simp)).trans (by simp)
        have f4 : w2.cell? ⟨wr.heap.size, 4, none⟩ = some (.int .u64 x.req.b) := (hb2.cell (p := ⟨wr.heap.size, 4, none⟩) (by simp)).trans (by simp)
        have f5 : w2.cell? ⟨wr.heap.size, 5, none⟩ = some (.int .u64 x.req.c) := (hb2.cell (p := ⟨wr.heap.size, 5, none⟩) (by simp)).trans (by simp)
        have f6 : w2.cell? ⟨wr.heap.size, 6, none⟩ = some (.int .u64 x.req.d) := (hb2.cell (p := ⟨wr.heap.size, 6, none⟩) (by simp)).trans (by simp)
        have f7 : w2.cell? ⟨wr.heap.size, 7, none⟩ = some (.int .i64 x.node) := (hb2.cell (p := ⟨wr.heap.size, 7, none⟩) (by simp)).trans (by simp)
        have g0 : w2.cell? ⟨w.heap.size, 0, none⟩ = some (.int .i64 0) := (k2.cell (p := ⟨w.heap.size, 0, none⟩) (by show w.heap.size < w.heap.size + 1; omega)).trans (by simp)
        have h0 : w2.frozen? ⟨w.heap.size, 0, none⟩ = false := (k2.frozen (p := ⟨w.heap.size, 0, none⟩) (by show w.heap.size < w.heap.size + 1; omega)).trans (by simp)
        have g1 : w2.cell? ⟨w.heap.size, 1, none⟩ = some (.int .i64 0) := (k2.cell (p := ⟨w.heap.size, 1, none⟩) (by show w.heap.size < w.heap.size + 1; omega)).trans (by simp)
        have h1 : w2.frozen? ⟨w.heap.size, 1, none⟩ = false := (k2.frozen (p := ⟨w.heap.size, 1, none⟩) (by show w.heap.size < w.heap.size + 1; omega)).trans (by simp)
        have g2 : w2.cell? ⟨w.heap.size, 2, none⟩ = some (.int .i64 0) := (k2.cell (p := ⟨w.heap.size, 2, none⟩) (by show w.heap.size < w.heap.size + 1; omega)).trans (by simp)
        have h2 : w2.frozen? ⟨w.heap.size, 2, none⟩ = false := (k2.frozen (p := ⟨w.heap.size, 2, none⟩) (by show w.heap.size < w.heap.size + 1; omega)).trans (by simp)
        have g3 : w2.cell? ⟨w.heap.size, 3, none⟩ = some (.int .u64 0) := (k2.cell (p := ⟨w.heap.size, 3, none⟩) (by show w.heap.size < w.heap.size + 1; omega)).trans (by simp)
        have h3 : w2.frozen? ⟨w.heap.size, 3, none⟩ = false := (k2.frozen (p := ⟨w.heap.size, 3, none⟩) (by show w.heap.size < w.heap.size + 1; omega)).trans (by simp)
        have g4 : w2.cell? ⟨w.heap.size, 4, none⟩ = some (.int .u64 0) := (k2.cell (p := ⟨w.heap.size, 4, none⟩) (by show w.heap.size < w.heap.size + 1; omega)).trans (by simp)
        have h4 : w2.frozen? ⟨w.heap.size, 4, none⟩ = false := (k2.frozen (p := ⟨w.heap.size, 4, none⟩) (by show w.heap.size < w.heap.size + 1; omega)).trans (by simp)
        have g5 : w2.cell? ⟨w.heap.size, 5, none⟩ = some (.int .u64 0) := (k2.cell (p := ⟨w.heap.size, 5, none⟩) (by show w.heap.size < w.heap.size + 1; omega)).trans (by simp)
        have h5 : w2.frozen? ⟨w.heap.size, 5, none⟩ = false := (k2.frozen (p := ⟨w.heap.size, 5, none⟩) (by show w.heap.size < w.heap.size + 1; omega)).trans (by simp)
        have g6 : w2.cell? ⟨w.heap.size, 6, none⟩ = some (.int .u64 0) := (k2.cell (p := ⟨w.heap.size, 6, none⟩) (by show w.heap.size < w.heap.size + 1; omega)).trans (by simp)
        have h6 : w2.frozen? ⟨w.heap.size, 6, none⟩ = false := (k2.frozen (p := ⟨w.heap.size, 6, none⟩) (by show w.heap.size < w.heap.size + 1; omega)).trans (by simp)
        have g7 : w2.cell? ⟨w.heap.size, 7, none⟩ = some (.int .i64 0) := (k2.cell (p := ⟨w.heap.size, 7, none⟩) (by show w.heap.size < w.heap.size + 1; omega)).trans (by simp)
        have h7 : w2.frozen? ⟨w.heap.size, 7, none⟩ = false := (k2.frozen (p := ⟨w.heap.size, 7, none⟩) (by show w.heap.size < w.heap.size + 1; omega)).trans (by simp)
        go_wp2
        refine bodyPost_ret (v := .tuple #[aggP x, .bool true]) ?_ rfl ?_
        · simp [results, Tryz.results104, go_sem, *]
        · refine ⟨.inr ⟨k, hkl, HE.out, by rw [HX.out]⟩, ?_⟩
          repeat (first | with_reducible exact kw2 | with_reducible refine Below.setCell ?_ ?_ _)
          all_goals exact Nat.le_refl _
      · have HE := Lib.hid (place_step hkl (by rw [HX.out]; exact hid) HP.out)
        go_wp2
        go_roundw
        case rel => exact ⟨k + 1, by omega, by go_num, HE.out, k2⟩
        case measure => simp [intOf]; omega
    · have HE := Lib.hid (place_end (by have := HN.out; omega) HP.out)
      have g0 : wr.cell? ⟨w.heap.size, 0, none⟩ = some (.int .i64 0) := (hbr.cell (p := ⟨w.heap.size, 0, none⟩) (by show w.heap.size < w.heap.size + 1; omega)).trans (by simp)
      have h0 : wr.frozen? ⟨w.heap.size, 0, none⟩ = false := (hbr.frozen (p := ⟨w.heap.size, 0, none⟩) (by show w.heap.size < w.heap.size + 1; omega)).trans (by simp)
      have g1 : wr.cell? ⟨w.heap.size, 1, none⟩ = some (.int .i64 0) := (hbr.cell (p := ⟨w.heap.size, 1, none⟩) (by show w.heap.size < w.heap.size + 1; omega)).trans (by simp)
      have h1 : wr.frozen? ⟨w.heap.size, 1, none⟩ = false := (hbr.frozen (p := ⟨w.heap.size, 1, none⟩) (by show w.heap.size < w.heap.size + 1; omega)).trans (by simp)
      have g2 : wr.cell? ⟨w.heap.size, 2, none⟩ = some (.int .i64 0) := (hbr.cell (p := ⟨w.heap.size, 2, none⟩) (by show w.heap.size < w.heap.size + 1; omega)).trans (by simp)
      have h2 : wr.frozen? ⟨w.heap.size, 2, none⟩ = false := (hbr.frozen (p := ⟨w.heap.size, 2, none⟩) (by show w.heap.size < w.heap.size + 1; omega)).trans (by simp)
      have g3 : wr.cell? ⟨w.heap.size, 3, none⟩ = some (.int .u64 0) := (hbr.cell (p := ⟨w.heap.size, 3, none⟩) (by show w.heap.size < w.heap.size + 1; omega)).trans (by simp)
      have h3 : wr.frozen? ⟨w.heap.size, 3, none⟩ = false := (hbr.frozen (p := ⟨w.heap.size, 3, none⟩) (by show w.heap.size < w.heap.size + 1; omega)).trans (by simp)
      have g4 : wr.cell? ⟨w.heap.size, 4, none⟩ = some (.int .u64 0) := (hbr.cell (p := ⟨w.heap.size, 4, none⟩) (by show w.heap.size < w.heap.size + 1; omega)).trans (by simp)
      have h4 : wr.frozen? ⟨w.heap.size, 4, none⟩ = false := (hbr.frozen (p := ⟨w.heap.size, 4, none⟩) (by show w.heap.size < w.heap.size + 1; omega)).trans (by simp)
      have g5 : wr.cell? ⟨w.heap.size, 5, none⟩ = some (.int .u64 0) := (hbr.cell (p := ⟨w.heap.size, 5, none⟩) (by show w.heap.size < w.heap.size + 1; omega)).trans (by simp)
      have h5 : wr.frozen? ⟨w.heap.size, 5, none⟩ = false := (hbr.frozen (p := ⟨w.heap.size, 5, none⟩) (by show w.heap.size < w.heap.size + 1; omega)).trans (by simp)
      have g6 : wr.cell? ⟨w.heap.size, 6, none⟩ = some (.int .u64 0) := (hbr.cell (p := ⟨w.heap.size, 6, none⟩) (by show w.heap.size < w.heap.size + 1; omega)).trans (by simp)
      have h6 : wr.frozen? ⟨w.heap.size, 6, none⟩ = false := (hbr.frozen (p := ⟨w.heap.size, 6, none⟩) (by show w.heap.size < w.heap.size + 1; omega)).trans (by simp)
      have g7 : wr.cell? ⟨w.heap.size, 7, none⟩ = some (.int .i64 0) := (hbr.cell (p := ⟨w.heap.size, 7, none⟩) (by show w.heap.size < w.heap.size + 1; omega)).trans (by simp)
      have h7 : wr.frozen? ⟨w.heap.size, 7, none⟩ = false := (hbr.frozen (p := ⟨w.heap.size, 7, none⟩) (by show w.heap.size < w.heap.size + 1; omega)).trans (by simp)
      have hwl : w.heap.size < wr.heap.size := by omega
      have hne : w.heap.size ≠ wr.heap.size := by omega
      go_wp2
      refine bodyPost_ret (v := .tuple #[zeroP, .bool false]) ?_ rfl ?_
      · simp [results, Tryz.results104, go_sem, *]
      · refine ⟨.inl ⟨by rw [HE.out]; decide, rfl⟩, ?_⟩
        have kwa : Below w.heap.size w (wr.alloc (.cells #[.int .i64 0, .int .i64 0, .int .i64 0, .int .u64 0, .int .u64 0, .int .u64 0, .int .u64 0, .int .i64 0] 79)) := kwr.alloc (by omega) _
        clear kwa
        repeat (first | with_reducible exact kwr | with_reducible refine Below.setCell ?_ ?_ _ | with_reducible refine Below.alloc ?_ ?_ _)
        all_goals first | (simp; done) | (simp; omega)

end Go.Proofs.YtpfjeoldgcepnaaGreatDoor

/- The program's find, at one kind of record. -/
namespace Go.Proofs.YtpfjeoldgcepnaaGreatDoor
set_option linter.unusedSimpArgs false
open Go.RowKit
set_option linter.unusedVariables false

abbrev zeroW : Value := .agg #[.int .i64 0, .int .u64 0, .int .u64 0, .int .u64 0, .int .u64 0, .bool false]
set_option maxHeartbeats 3200000 in
set_option maxRecDepth 100000 in
theorem findW_any (l : List WantD) (id : Int) (A : Option Addr) (n c : Nat) (w : World) (hn : n = l.length) (hl : n ≤ 1000) (hr : Recs 6 cellsW w w.heap.size A l) :
    Calls Tryz.prog 151 #[.slice A n c, .int .i64 id, .func (.func 57) #[] #[]] w (FindTo aggW zeroW WantD.pod l id w) := by
  have HR := Lib.hid hr
  have HN := Lib.hid hn
  clear hr hn
  have b00 : Below w.heap.size w (w.alloc (.cells #[.int .i64 0, .int .u64 0, .int .u64 0, .int .u64 0, .int .u64 0, .bool false] 82)) := (Below.refl _ _).alloc (Nat.le_refl _) _
  go_enter Tryz.func151, Tryz.ntmps151
  go_wp2
  go_loopw [13] (FRel WantD.pod id l (w.alloc (.cells #[.int .i64 0, .int .u64 0, .int .u64 0, .int .u64 0, .int .u64 0, .bool false] 82)) (w.heap.size + 1)) (fun i _ => n - (intOf i).toNat)
  case atStart => exact ⟨0, by omega, rfl, rfl, Below.refl _ _⟩
  case round =>
    obtain ⟨k, hk, rfl, hp, hbr⟩ := hrel
    have HP := Lib.hid hp
    have hzr : w.heap.size + 1 ≤ wr.heap.size := by have := hbr.size; simpa using this
    have kwr : Below w.heap.size w wr := b00.trans (hbr.mono (by omega))
    clear hp
    by_cases hlt : k < n
    · have hkl : k < l.length := by have := HN.out; omega
      obtain ⟨b, o, rfl, hb, he⟩ := HR.out.at hkl
      generalize hx : l[k] = x at *
      have HX := Lib.hid hx
      clear hx
      have e0 : wr.cell? ⟨b, o + k * 6, none⟩ = some (.int .i64 x.pod) := (kwr.cell (p := ⟨b, o + k * 6, none⟩) hb).trans (he 0 _ rfl)
      have e1 : wr.cell? ⟨b, o + k * 6 + 1, none⟩ = some (.int .u64 x.req.a) := (kwr.cell (p := ⟨b, o + k * 6 + 1, none⟩) hb).trans (he 1 _ rfl)
      have e2 : wr.cell? ⟨b, o + k * 6 + 2, none⟩ = some (.int .u64 x.req.b) := (kwr.cell (p := ⟨b, o + k * 6 + 2, none⟩) hb).trans (he 2 _ rfl)
      have e3 : wr.cell? ⟨b, o + k * 6 + 3, none⟩ = some (.int .u64 x.req.c) := (kwr.cell (p := ⟨b, o + k * 6 + 3, none⟩) hb).trans (he 3 _ rfl)
      have e4 : wr.cell? ⟨b, o + k * 6 + 4, none⟩ = some (.int .u64 x.req.d) := (kwr.cell (p := ⟨b, o + k * 6 + 4, none⟩) hb).trans (he 4 _ rfl)
      have e5 : wr.cell? ⟨b, o + k * 6 + 5, none⟩ = some (.bool x.stay) := (kwr.cell (p := ⟨b, o + k * 6 + 5, none⟩) hb).trans (he 5 _ rfl)
      have hbw : b < wr.heap.size := by omega
      clear he
      go_wp2_with fail
      refine (idW_any x _).mono ?_
      rintro e w2 ⟨rfl, hb2⟩
      have k1 : Below (w.heap.size + 1) (w.alloc (.cells #[.int .i64 0, .int .u64 0, .int .u64 0, .int .u64 0, .int .u64 0, .bool false] 82)) (wr.alloc (.cells #[.int .i64 x.pod, .int .u64 x.req.a, .int .u64 x.req.b, .int .u64 x.req.c, .int .u64 x.req.d, .bool x.stay] 82)) := hbr.alloc hzr _
      have k2 : Below (w.heap.size + 1) (w.alloc (.cells #[.int .i64 0, .int .u64 0, .int .u64 0, .int .u64 0, .int .u64 0, .bool false] 82)) w2 := k1.trans (hb2.mono (by simp; omega))
      have kw2 : Below w.heap.size w w2 := b00.trans (k2.mono (by omega))
      clear e0 e1 e2 e3 e4 e5
      by_cases hid : x.pod = id
      · have HE := Lib.hid (place_found hkl (by rw [HX.out]; exact hid) HP.out)
        subst hid
        have f0 : w2.cell? ⟨wr.heap.size, 0, none⟩ = some (.int .i64 x.pod) := (hb2.cell (p := ⟨wr.heap.size, 0, none⟩) (by simp)).trans (by simp)
        have f1 : w2.cell? ⟨wr.heap.size, 1, none⟩ = some (.int .u64 x.req.a) := (hb2.cell (p := ⟨wr.heap.size, 1, none⟩) (by simp)).trans (by simp)
        have f2 : w2.cell? ⟨wr.heap.size, 2, none⟩ = some (.int .u64 x.req.b) := (hb2.cell (p := ⟨wr.heap.size, 2, none⟩) (by simp)).trans (by simp)
        have f3 : w2.cell? ⟨wr.heap.size, 3, none⟩ = some (.int .u64 x.req.c) := (hb2.cell (p := ⟨wr.heap.size, 3, none⟩) (by simp)).trans (by simp)
        have f4 : w2.cell? ⟨wr.heap.size, 4, none⟩ = some (.int .u64 x.req.d) := (hb2.cell (p := ⟨wr.heap.size, 4, none⟩) (by simp)).trans (by simp)
        have f5 : w2.cell? ⟨wr.heap.size, 5, none⟩ = some (.bool x.stay) := (hb2.cell (p := ⟨wr.heap.size, 5, none⟩) (by simp)).trans (by simp)
        have g0 : w2.cell? ⟨w.heap.size, 0, none⟩ = some (.int .i64 0) := (k2.cell (p := ⟨w.heap.size, 0, none⟩) (by show w.heap.size < w.heap.size + 1; omega)).trans (by simp)
        have h0 : w2.frozen? ⟨w.heap.size, 0, none⟩ = false := (k2.frozen (p := ⟨w.heap.size, 0, none⟩) (by show w.heap.size < w.heap.size + 1; omega)).trans (by simp)
        have g1 : w2.cell? ⟨w.heap.size, 1, none⟩ = some (.int .u64 0) := (k2.cell (p := ⟨w.heap.size, 1, none⟩) (by show w.heap.size < w.heap.size + 1; omega)).trans (by simp)
        have h1 : w2.frozen? ⟨w.heap.size, 1, none⟩ = false := (k2.frozen (p := ⟨w.heap.size, 1, none⟩) (by show w.heap.size < w.heap.size + 1; omega)).trans (by simp)
        have g2 : w2.cell? ⟨w.heap.size, 2, none⟩ = some (.int .u64 0) := (k2.cell (p := ⟨w.heap.size, 2, none⟩) (by show w.heap.size < w.heap.size + 1; omega)).trans (by simp)
        have h2 : w2.frozen? ⟨w.heap.size, 2, none⟩ = false := (k2.frozen (p := ⟨w.heap.size, 2, none⟩) (by show w.heap.size < w.heap.size + 1; omega)).trans (by simp)
        have g3 : w2.cell? ⟨w.heap.size, 3, none⟩ = some (.int .u64 0) := (k2.cell (p := ⟨w.heap.size, 3, none⟩) (by show w.heap.size < w.heap.size + 1; omega)).trans (by simp)
        have h3 : w2.frozen? ⟨w.heap.size, 3, none⟩ = false := (k2.frozen (p := ⟨w.heap.size, 3, none⟩) (by show w.heap.size < w.heap.size + 1; omega)).trans (by simp)
        have g4 : w2.cell? ⟨w.heap.size, 4, none⟩ = some (.int .u64 0) := (k2.cell (p := ⟨w.heap.size, 4, none⟩) (by show w.heap.size < w.heap.size + 1; omega)).trans (by simp)
        have h4 : w2.frozen? ⟨w.heap.size, 4, none⟩ = false := (k2.frozen (p := ⟨w.heap.size, 4, none⟩) (by show w.heap.size < w.heap.size + 1; omega)).trans (by simp)
        have g5 : w2.cell? ⟨w.heap.size, 5, none⟩ = some (.bool false) := (k2.cell (p := ⟨w.heap.size, 5, none⟩) (by show w.heap.size < w.heap.size + 1; omega)).trans (by simp)
        have h5 : w2.frozen? ⟨w.heap.size, 5, none⟩ = false := (k2.frozen (p := ⟨w.heap.size, 5, none⟩) (by show w.heap.size < w.heap.size + 1; omega)).trans (by simp)
        go_wp2
        refine bodyPost_ret (v := .tuple #[aggW x, .bool true]) ?_ rfl ?_
        · simp [results, Tryz.results151, go_sem, *]
        · refine ⟨.inr ⟨k, hkl, HE.out, by rw [HX.out]⟩, ?_⟩
          repeat (first | with_reducible exact kw2 | with_reducible refine Below.setCell ?_ ?_ _)
          all_goals exact Nat.le_refl _
      · have HE := Lib.hid (place_step hkl (by rw [HX.out]; exact hid) HP.out)
        go_wp2
        go_roundw
        case rel => exact ⟨k + 1, by omega, by go_num, HE.out, k2⟩
        case measure => simp [intOf]; omega
    · have HE := Lib.hid (place_end (by have := HN.out; omega) HP.out)
      have g0 : wr.cell? ⟨w.heap.size, 0, none⟩ = some (.int .i64 0) := (hbr.cell (p := ⟨w.heap.size, 0, none⟩) (by show w.heap.size < w.heap.size + 1; omega)).trans (by simp)
      have h0 : wr.frozen? ⟨w.heap.size, 0, none⟩ = false := (hbr.frozen (p := ⟨w.heap.size, 0, none⟩) (by show w.heap.size < w.heap.size + 1; omega)).trans (by simp)
      have g1 : wr.cell? ⟨w.heap.size, 1, none⟩ = some (.int .u64 0) := (hbr.cell (p := ⟨w.heap.size, 1, none⟩) (by show w.heap.size < w.heap.size + 1; omega)).trans (by simp)
      have h1 : wr.frozen? ⟨w.heap.size, 1, none⟩ = false := (hbr.frozen (p := ⟨w.heap.size, 1, none⟩) (by show w.heap.size < w.heap.size + 1; omega)).trans (by simp)
      have g2 : wr.cell? ⟨w.heap.size, 2, none⟩ = some (.int .u64 0) := (hbr.cell (p := ⟨w.heap.size, 2, none⟩) (by show w.heap.size < w.heap.size + 1; omega)).trans (by simp)
      have h2 : wr.frozen? ⟨w.heap.size, 2, none⟩ = false := (hbr.frozen (p := ⟨w.heap.size, 2, none⟩) (by show w.heap.size < w.heap.size + 1; omega)).trans (by simp)
      have g3 : wr.cell? ⟨w.heap.size, 3, none⟩ = some (.int .u64 0) := (hbr.cell (p := ⟨w.heap.size, 3, none⟩) (by show w.heap.size < w.heap.size + 1; omega)).trans (by simp)
      have h3 : wr.frozen? ⟨w.heap.size, 3, none⟩ = false := (hbr.frozen (p := ⟨w.heap.size, 3, none⟩) (by show w.heap.size < w.heap.size + 1; omega)).trans (by simp)
      have g4 : wr.cell? ⟨w.heap.size, 4, none⟩ = some (.int .u64 0) := (hbr.cell (p := ⟨w.heap.size, 4, none⟩) (by show w.heap.size < w.heap.size + 1; omega)).trans (by simp)
      have h4 : wr.frozen? ⟨w.heap.size, 4, none⟩ = false := (hbr.frozen (p := ⟨w.heap.size, 4, none⟩) (by show w.heap.size < w.heap.size + 1; omega)).trans (by simp)
      have g5 : wr.cell? ⟨w.heap.size, 5, none⟩ = some (.bool false) := (hbr.cell (p := ⟨w.heap.size, 5, none⟩) (by show w.heap.size < w.heap.size + 1; omega)).trans (by simp)
      have h5 : wr.frozen? ⟨w.heap.size, 5, none⟩ = false := (hbr.frozen (p := ⟨w.heap.size, 5, none⟩) (by show w.heap.size < w.heap.size + 1; omega)).trans (by simp)
      have hwl : w.heap.size < wr.heap.size := by omega
      have hne : w.heap.size ≠ wr.heap.size := by omega
      go_wp2
      refine bodyPost_ret (v := .tuple #[zeroW, .bool false]) ?_ rfl ?_
      · simp [results, Tryz.results151, go_sem, *]
      · refine ⟨.inl ⟨by rw [HE.out]; decide, rfl⟩, ?_⟩
        have kwa : Below w.heap.size w (wr.alloc (.cells #[.int .i64 0, .int .u64 0, .int .u64 0, .int .u64 0, .int .u64 0, .bool false] 82)) := kwr.alloc (by omega) _
        clear kwa
        repeat (first | with_reducible exact kwr | with_reducible refine Below.setCell ?_ ?_ _ | with_reducible refine Below.alloc ?_ ?_ _)
        all_goals first | (simp; done) | (simp; omega)

end Go.Proofs.YtpfjeoldgcepnaaGreatDoor

/- The program's Node, Load and Want. -/
namespace Go.Proofs.YtpfjeoldgcepnaaGreatDoor
set_option linter.unusedSimpArgs false
open Go.RowKit
set_option linter.unusedVariables false

set_option maxHeartbeats 3200000 in
set_option maxRecDepth 100000 in
theorem node_any (l : List NodeD) (id : Int) (A : Option Addr) (n c : Nat) (v2 v3 : Value) (w : World) (hn : n = l.length) (hl : n ≤ 1000) (hr : Recs 10 cellsN w w.heap.size A l) :
    Calls Tryz.prog 47 #[.agg #[.slice A n c, v2, v3], .int .i64 id] w (FindTo aggN zeroN NodeD.id l id w) := by
  have b00 := below_two w (.cells #[.slice A n c, v2, v3] 26) (.cells #[.int .i64 0, .int .i64 0, .int .u64 0, .int .u64 0, .int .u64 0, .int .u64 0, .int .u64 0, .int .u64 0, .int .u64 0, .int .u64 0] 63)
  have HF := Lib.hid (findN_any l id A n c ((w.alloc (.cells #[.slice A n c, v2, v3] 26)).alloc (.cells #[.int .i64 0, .int .i64 0, .int .u64 0, .int .u64 0, .int .u64 0, .int .u64 0, .int .u64 0, .int .u64 0, .int .u64 0, .int .u64 0] 63)) hn hl ((hr.below b00 (Nat.le_refl _)).more b00.size))
  clear hr hn
  go_enter Tryz.func47, Tryz.ntmps47
  go_wp2_with fail
  refine HF.out.mono ?_
  rintro e w1 ⟨hh, hb1⟩
  have kw1 : Below w.heap.size w w1 := b00.trans (hb1.mono b00.size)
  have g0 : w1.cell? ⟨w.heap.size + 1, 0, none⟩ = some (.int .i64 0) := (hb1.cell (p := ⟨w.heap.size + 1, 0, none⟩) (by simp)).trans (by simp)
  have h0 : w1.frozen? ⟨w.heap.size + 1, 0, none⟩ = false := (hb1.frozen (p := ⟨w.heap.size + 1, 0, none⟩) (by simp)).trans (by simp)
  have g1 : w1.cell? ⟨w.heap.size + 1, 1, none⟩ = some (.int .i64 0) := (hb1.cell (p := ⟨w.heap.size + 1, 1, none⟩) (by simp)).trans (by simp)
  have h1 : w1.frozen? ⟨w.heap.size + 1, 1, none⟩ = false := (hb1.frozen (p := ⟨w.heap.size + 1, 1, none⟩) (by simp)).trans (by simp)
  have g2 : w1.cell? ⟨w.heap.size + 1, 2, none⟩ = some (.int .u64 0) := (hb1.cell (p := ⟨w.heap.size + 1, 2, none⟩) (by simp)).trans (by simp)
  have h2 : w1.frozen? ⟨w.heap.size + 1, 2, none⟩ = false := (hb1.frozen (p := ⟨w.heap.size + 1, 2, none⟩) (by simp)).trans (by simp)
  have g3 : w1.cell? ⟨w.heap.size + 1, 3, none⟩ = some (.int .u64 0) := (hb1.cell (p := ⟨w.heap.size + 1, 3, none⟩) (by simp)).trans (by simp)
  have h3 : w1.frozen? ⟨w.heap.size + 1, 3, none⟩ = false := (hb1.frozen (p := ⟨w.heap.size + 1, 3, none⟩) (by simp)).trans (by simp)
  have g4 : w1.cell? ⟨w.heap.size + 1, 4, none⟩ = some (.int .u64 0) := (hb1.cell (p := ⟨w.heap.size + 1, 4, none⟩) (by simp)).trans (by simp)
  have h4 : w1.frozen? ⟨w.heap.size + 1, 4, none⟩ = false := (hb1.frozen (p := ⟨w.heap.size + 1, 4, none⟩) (by simp)).trans (by simp)
  have g5 : w1.cell? ⟨w.heap.size + 1, 5, none⟩ = some (.int .u64 0) := (hb1.cell (p := ⟨w.heap.size + 1, 5, none⟩) (by simp)).trans (by simp)
  have h5 : w1.frozen? ⟨w.heap.size + 1, 5, none⟩ = false := (hb1.frozen (p := ⟨w.heap.size + 1, 5, none⟩) (by simp)).trans (by simp)
  have g6 : w1.cell? ⟨w.heap.size + 1, 6, none⟩ = some (.int .u64 0) := (hb1.cell (p := ⟨w.heap.size + 1, 6, none⟩) (by simp)).trans (by simp)
  have h6 : w1.frozen? ⟨w.heap.size + 1, 6, none⟩ = false := (hb1.frozen (p := ⟨w.heap.size + 1, 6, none⟩) (by simp)).trans (by simp)
  have g7 : w1.cell? ⟨w.heap.size + 1, 7, none⟩ = some (.int .u64 0) := (hb1.cell (p := ⟨w.heap.size + 1, 7, none⟩) (by simp)).trans (by simp)
  have h7 : w1.frozen? ⟨w.heap.size + 1, 7, none⟩ = false := (hb1.frozen (p := ⟨w.heap.size + 1, 7, none⟩) (by simp)).trans (by simp)
  have g8 : w1.cell? ⟨w.heap.size + 1, 8, none⟩ = some (.int .u64 0) := (hb1.cell (p := ⟨w.heap.size + 1, 8, none⟩) (by simp)).trans (by simp)
  have h8 : w1.frozen? ⟨w.heap.size + 1, 8, none⟩ = false := (hb1.frozen (p := ⟨w.heap.size + 1, 8, none⟩) (by simp)).trans (by simp)
  have g9 : w1.cell? ⟨w.heap.size + 1, 9, none⟩ = some (.int .u64 0) := (hb1.cell (p := ⟨w.heap.size + 1, 9, none⟩) (by simp)).trans (by simp)
  have h9 : w1.frozen? ⟨w.heap.size + 1, 9, none⟩ = false := (hb1.frozen (p := ⟨w.heap.size + 1, 9, none⟩) (by simp)).trans (by simp)
  rcases hh with ⟨hp, rfl⟩ | ⟨i, hi, hp, rfl⟩
  · have HP := Lib.hid hp
    clear hp
    go_wp2
    refine bodyPost_ret (v := .tuple #[zeroN, .bool false]) ?_ rfl ?_
    · simp [results, Tryz.results47, go_sem, *]
    · refine ⟨.inl ⟨HP.out, rfl⟩, ?_⟩
      repeat (first | with_reducible exact kw1 | with_reducible refine Below.setCell ?_ ?_ _)
      all_goals (show w.heap.size ≤ w.heap.size + 1; omega)
  · have HP := Lib.hid hp
    clear hp
    generalize hx : l[i] = x at *
    have HX := Lib.hid hx
    clear hx
    go_wp2
    refine bodyPost_ret (v := .tuple #[aggN x, .bool true]) ?_ rfl ?_
    · simp [results, Tryz.results47, go_sem, *]
    · refine ⟨.inr ⟨i, hi, HP.out, by rw [HX.out]⟩, ?_⟩
      repeat (first | with_reducible exact kw1 | with_reducible refine Below.setCell ?_ ?_ _)
      all_goals (show w.heap.size ≤ w.heap.size + 1; omega)

set_option maxHeartbeats 3200000 in
set_option maxRecDepth 100000 in
theorem load_any (l : List LoadD) (id : Int) (A : Option Addr) (n c : Nat) (v1 v3 : Value) (w : World) (hn : n = l.length) (hl : n ≤ 1000) (hr : Recs 5 cellsL w w.heap.size A l) :
    Calls Tryz.prog 128 #[.agg #[v1, .slice A n c, v3], .int .i64 id] w (FindTo aggL zeroL LoadD.id l id w) := by
  have b00 := below_two w (.cells #[v1, .slice A n c, v3] 26) (.cells #[.int .i64 0, .bool false, .int .i64 0, .int .i64 0, .int .i64 0] 76)
  have HF := Lib.hid (findL_any l id A n c ((w.alloc (.cells #[v1, .slice A n c, v3] 26)).alloc (.cells #[.int .i64 0, .bool false, .int .i64 0, .int .i64 0, .int .i64 0] 76)) hn hl ((hr.below b00 (Nat.le_refl _)).more b00.size))
  clear hr hn
  go_enter Tryz.func128, Tryz.ntmps128
  go_wp2_with fail
  refine HF.out.mono ?_
  rintro e w1 ⟨hh, hb1⟩
  have kw1 : Below w.heap.size w w1 := b00.trans (hb1.mono b00.size)
  have g0 : w1.cell? ⟨w.heap.size + 1, 0, none⟩ = some (.int .i64 0) := (hb1.cell (p := ⟨w.heap.size + 1, 0, none⟩) (by simp)).trans (by simp)
  have h0 : w1.frozen? ⟨w.heap.size + 1, 0, none⟩ = false := (hb1.frozen (p := ⟨w.heap.size + 1, 0, none⟩) (by simp)).trans (by simp)
  have g1 : w1.cell? ⟨w.heap.size + 1, 1, none⟩ = some (.bool false) := (hb1.cell (p := ⟨w.heap.size + 1, 1, none⟩) (by simp)).trans (by simp)
  have h1 : w1.frozen? ⟨w.heap.size + 1, 1, none⟩ = false := (hb1.frozen (p := ⟨w.heap.size + 1, 1, none⟩) (by simp)).trans (by simp)
  have g2 : w1.cell? ⟨w.heap.size + 1, 2, none⟩ = some (.int .i64 0) := (hb1.cell (p := ⟨w.heap.size + 1, 2, none⟩) (by simp)).trans (by simp)
  have h2 : w1.frozen? ⟨w.heap.size + 1, 2, none⟩ = false := (hb1.frozen (p := ⟨w.heap.size + 1, 2, none⟩) (by simp)).trans (by simp)
  have g3 : w1.cell? ⟨w.heap.size + 1, 3, none⟩ = some (.int .i64 0) := (hb1.cell (p := ⟨w.heap.size + 1, 3, none⟩) (by simp)).trans (by simp)
  have h3 : w1.frozen? ⟨w.heap.size + 1, 3, none⟩ = false := (hb1.frozen (p := ⟨w.heap.size + 1, 3, none⟩) (by simp)).trans (by simp)
  have g4 : w1.cell? ⟨w.heap.size + 1, 4, none⟩ = some (.int .i64 0) := (hb1.cell (p := ⟨w.heap.size + 1, 4, none⟩) (by simp)).trans (by simp)
  have h4 : w1.frozen? ⟨w.heap.size + 1, 4, none⟩ = false := (hb1.frozen (p := ⟨w.heap.size + 1, 4, none⟩) (by simp)).trans (by simp)
  rcases hh with ⟨hp, rfl⟩ | ⟨i, hi, hp, rfl⟩
  · have HP := Lib.hid hp
    clear hp
    go_wp2
    refine bodyPost_ret (v := .tuple #[zeroL, .bool false]) ?_ rfl ?_
    · simp [results, Tryz.results128, go_sem, *]
    · refine ⟨.inl ⟨HP.out, rfl⟩, ?_⟩
      repeat (first | with_reducible exact kw1 | with_reducible refine Below.setCell ?_ ?_ _)
      all_goals (show w.heap.size ≤ w.heap.size + 1; omega)
  · have HP := Lib.hid hp
    clear hp
    generalize hx : l[i] = x at *
    have HX := Lib.hid hx
    clear hx
    go_wp2
    refine bodyPost_ret (v := .tuple #[aggL x, .bool true]) ?_ rfl ?_
    · simp [results, Tryz.results128, go_sem, *]
    · refine ⟨.inr ⟨i, hi, HP.out, by rw [HX.out]⟩, ?_⟩
      repeat (first | with_reducible exact kw1 | with_reducible refine Below.setCell ?_ ?_ _)
      all_goals (show w.heap.size ≤ w.heap.size + 1; omega)

set_option maxHeartbeats 3200000 in
set_option maxRecDepth 100000 in
theorem want_any (l : List WantD) (id : Int) (A : Option Addr) (n c : Nat) (v2 v3 : Value) (w : World) (hn : n = l.length) (hl : n ≤ 1000) (hr : Recs 6 cellsW w w.heap.size A l) :
    Calls Tryz.prog 135 #[.agg #[.slice A n c, v2, v3], .int .i64 id] w (FindTo aggW zeroW WantD.pod l id w) := by
  have b00 := below_two w (.cells #[.slice A n c, v2, v3] 29) (.cells #[.int .i64 0, .int .u64 0, .int .u64 0, .int .u64 0, .int .u64 0, .bool false] 82)
  have HF := Lib.hid (findW_any l id A n c ((w.alloc (.cells #[.slice A n c, v2, v3] 29)).alloc (.cells #[.int .i64 0, .int .u64 0, .int .u64 0, .int .u64 0, .int .u64 0, .bool false] 82)) hn hl ((hr.below b00 (Nat.le_refl _)).more b00.size))
  clear hr hn
  go_enter Tryz.func135, Tryz.ntmps135
  go_wp2_with fail
  refine HF.out.mono ?_
  rintro e w1 ⟨hh, hb1⟩
  have kw1 : Below w.heap.size w w1 := b00.trans (hb1.mono b00.size)
  have g0 : w1.cell? ⟨w.heap.size + 1, 0, none⟩ = some (.int .i64 0) := (hb1.cell (p := ⟨w.heap.size + 1, 0, none⟩) (by simp)).trans (by simp)
  have h0 : w1.frozen? ⟨w.heap.size + 1, 0, none⟩ = false := (hb1.frozen (p := ⟨w.heap.size + 1, 0, none⟩) (by simp)).trans (by simp)
  have g1 : w1.cell? ⟨w.heap.size + 1, 1, none⟩ = some (.int .u64 0) := (hb1.cell (p := ⟨w.heap.size + 1, 1, none⟩) (by simp)).trans (by simp)
  have h1 : w1.frozen? ⟨w.heap.size + 1, 1, none⟩ = false := (hb1.frozen (p := ⟨w.heap.size + 1, 1, none⟩) (by simp)).trans (by simp)
  have g2 : w1.cell? ⟨w.heap.size + 1, 2, none⟩ = some (.int .u64 0) := (hb1.cell (p := ⟨w.heap.size + 1, 2, none⟩) (by simp)).trans (by simp)
  have h2 : w1.frozen? ⟨w.heap.size + 1, 2, none⟩ = false := (hb1.frozen (p := ⟨w.heap.size + 1, 2, none⟩) (by simp)).trans (by simp)
  have g3 : w1.cell? ⟨w.heap.size + 1, 3, none⟩ = some (.int .u64 0) := (hb1.cell (p := ⟨w.heap.size + 1, 3, none⟩) (by simp)).trans (by simp)
  have h3 : w1.frozen? ⟨w.heap.size + 1, 3, none⟩ = false := (hb1.frozen (p := ⟨w.heap.size + 1, 3, none⟩) (by simp)).trans (by simp)
  have g4 : w1.cell? ⟨w.heap.size + 1, 4, none⟩ = some (.int .u64 0) := (hb1.cell (p := ⟨w.heap.size + 1, 4, none⟩) (by simp)).trans (by simp)
  have h4 : w1.frozen? ⟨w.heap.size + 1, 4, none⟩ = false := (hb1.frozen (p := ⟨w.heap.size + 1, 4, none⟩) (by simp)).trans (by simp)
  have g5 : w1.cell? ⟨w.heap.size + 1, 5, none⟩ = some (.bool false) := (hb1.cell (p := ⟨w.heap.size + 1, 5, none⟩) (by simp)).trans (by simp)
  have h5 : w1.frozen? ⟨w.heap.size + 1, 5, none⟩ = false := (hb1.frozen (p := ⟨w.heap.size + 1, 5, none⟩) (by simp)).trans (by simp)
  rcases hh with ⟨hp, rfl⟩ | ⟨i, hi, hp, rfl⟩
  · have HP := Lib.hid hp
    clear hp
    go_wp2
    refine bodyPost_ret (v := .tuple #[zeroW, .bool false]) ?_ rfl ?_
    · simp [results, Tryz.results135, go_sem, *]
    · refine ⟨.inl ⟨HP.out, rfl⟩, ?_⟩
      repeat (first | with_reducible exact kw1 | with_reducible refine Below.setCell ?_ ?_ _)
      all_goals (show w.heap.size ≤ w.heap.size + 1; omega)
  · have HP := Lib.hid hp
    clear hp
    generalize hx : l[i] = x at *
    have HX := Lib.hid hx
    clear hx
    go_wp2
    refine bodyPost_ret (v := .tuple #[aggW x, .bool true]) ?_ rfl ?_
    · simp [results, Tryz.results135, go_sem, *]
    · refine ⟨.inr ⟨i, hi, HP.out, by rw [HX.out]⟩, ?_⟩
      repeat (first | with_reducible exact kw1 | with_reducible refine Below.setCell ?_ ?_ _)
      all_goals (show w.heap.size ≤ w.heap.size + 1; omega)

end Go.Proofs.YtpfjeoldgcepnaaGreatDoor

/- The program's place and Pod of layer 5. -/
namespace Go.Proofs.YtpfjeoldgcepnaaGreatDoor
set_option linter.unusedSimpArgs false
open Go.RowKit
set_option linter.unusedVariables false

theorem somewhere_any (x : PodD) (w : World) : Calls Tryz.prog 119 #[aggP x] w fun e w' => e = .returned (.bool (x.node != 0)) ∧ Below w.heap.size w w' := by
  by_cases h : x.node = 0
  · have hd : (x.node != 0) = false := by simp [h]
    go_enter Tryz.func119, Tryz.ntmps119
    go_wp2
    go_ret
    exact ⟨ret_bool (by simp [h]), (Below.refl _ _).alloc (Nat.le_refl _) _⟩
  · have hd : (x.node != 0) = true := by simp [h]
    go_enter Tryz.func119, Tryz.ntmps119
    go_wp2
    go_ret
    exact ⟨ret_bool (by simp [h]), (Below.refl _ _).alloc (Nat.le_refl _) _⟩
/-- The closure in place: is this the pod's Id? -/
theorem placeClosure_any (x : PodD) (id : Int) (g : Nat) (w : World) (h0 : w.cell? ⟨g, 0, none⟩ = some (.int .i64 id)) :
    Calls Tryz.prog 134 #[aggP x, .pointer (some ⟨g, 0, none⟩)] w fun e w' => e = .returned (.bool (x.id == id)) ∧ Below w.heap.size w w' := by
  have hg : g < w.heap.size := World.block_lt_of_cell? w _ h0
  go_enter Tryz.func134, Tryz.ntmps134
  go_wp2
  go_ret
  exact ⟨rfl, (Below.refl _ _).alloc (Nat.le_refl _) _⟩
set_option maxHeartbeats 3200000 in
set_option maxRecDepth 100000 in
theorem indexFunc_any (l : List PodD) (id : Int) (g : Nat) (A : Option Addr) (n c : Nat) (w : World) (hn : n = l.length) (hl : n ≤ 1000) (hr : Recs 8 cellsP w w.heap.size A l) (h0 : w.cell? ⟨g, 0, none⟩ = some (.int .i64 id)) :
    Calls Tryz.prog 77 #[.slice A n c, .func (.func 134) #[] #[.pointer (some ⟨g, 0, none⟩)]] w fun e w' => e = .returned (.int .i64 (place PodD.id id l 0)) ∧ Below w.heap.size w w' := by
  have hg : g < w.heap.size := World.block_lt_of_cell? w _ h0
  have HR := Lib.hid hr
  have HN := Lib.hid hn
  have H0 := Lib.hid h0
  clear hr hn h0
  go_enter Tryz.func77, Tryz.ntmps77
  go_wp2
  go_loopw [8] (FRel PodD.id id l w w.heap.size) (fun i _ => n - (intOf i).toNat)
  case atStart => exact ⟨0, by omega, rfl, rfl, Below.refl _ _⟩
  case round =>
    obtain ⟨k, hk, rfl, hp, hbr⟩ := hrel
    have HP := Lib.hid hp
    have hzr := hbr.size
    clear hp
    by_cases hlt : k < n
    · have hkl : k < l.length := by have := HN.out; omega
      obtain ⟨b, o, rfl, hb, he⟩ := HR.out.at hkl
      generalize hx : l[k] = x at *
      have HX := Lib.hid hx
      clear hx
      have e0 : wr.cell? ⟨b, o + k * 8, none⟩ = some (.int .i64 x.id) := (hbr.cell (p := ⟨b, o + k * 8, none⟩) hb).trans (he 0 _ rfl)
      have e1 : wr.cell? ⟨b, o + k * 8 + 1, none⟩ = some (.int .i64 x.load) := (hbr.cell (p := ⟨b, o + k * 8 + 1, none⟩) hb).trans (he 1 _ rfl)
      have e2 : wr.cell? ⟨b, o + k * 8 + 2, none⟩ = some (.int .i64 x.prio) := (hbr.cell (p := ⟨b, o + k * 8 + 2, none⟩) hb).trans (he 2 _ rfl)
      have e3 : wr.cell? ⟨b, o + k * 8 + 3, none⟩ = some (.int .u64 x.req.a) := (hbr.cell (p := ⟨b, o + k * 8 + 3, none⟩) hb).trans (he 3 _ rfl)
      have e4 : wr.cell? ⟨b, o + k * 8 + 4, none⟩ = some (.int .u64 x.req.b) := (hbr.cell (p := ⟨b, o + k * 8 + 4, none⟩) hb).trans (he 4 _ rfl)
      have e5 : wr.cell? ⟨b, o + k * 8 + 5, none⟩ = some (.int .u64 x.req.c) := (hbr.cell (p := ⟨b, o + k * 8 + 5, none⟩) hb).trans (he 5 _ rfl)
      have e6 : wr.cell? ⟨b, o + k * 8 + 6, none⟩ = some (.int .u64 x.req.d) := (hbr.cell (p := ⟨b, o + k * 8 + 6, none⟩) hb).trans (he 6 _ rfl)
      have e7 : wr.cell? ⟨b, o + k * 8 + 7, none⟩ = some (.int .i64 x.node) := (hbr.cell (p := ⟨b, o + k * 8 + 7, none⟩) hb).trans (he 7 _ rfl)
      have hbw : b < wr.heap.size := by omega
      have hgc : wr.cell? ⟨g, 0, none⟩ = some (.int .i64 id) := (hbr.cell (p := ⟨g, 0, none⟩) hg).trans H0.out
      clear he
      go_wp2_with fail
      go_at_call 134
      refine (placeClosure_any x id g _ hgc).mono ?_
      rintro e w1 ⟨rfl, hb1⟩
      have k1 : Below w.heap.size w w1 := hbr.trans (hb1.mono hzr)
      by_cases hid : x.id = id
      · have HE := Lib.hid (place_found hkl (by rw [HX.out]; exact hid) HP.out)
        have hd : (x.id == id) = true := by simp [hid]
        clear hid
        go_wp2
        go_ret
        exact ⟨ret_int HE.out.symm, k1⟩
      · have HE := Lib.hid (place_step hkl (by rw [HX.out]; exact hid) HP.out)
        have hd : (x.id == id) = false := by simp [hid]
        clear hid
        go_wp2
        go_roundw
        case rel => exact ⟨k + 1, by omega, by go_num, HE.out, k1⟩
        case measure => simp [intOf]; omega
    · have HE := Lib.hid (place_end (by have := HN.out; omega) HP.out)
      go_wp2
      go_ret
      exact ⟨ret_int HE.out.symm, hbr⟩
theorem place_any (l : List PodD) (id : Int) (A : Option Addr) (n c : Nat) (v1 v2 : Value) (w : World) (hn : n = l.length) (hl : n ≤ 1000) (hr : Recs 8 cellsP w w.heap.size A l) :
    Calls Tryz.prog 118 #[.agg #[.slice A n c, v1, v2], .int .i64 id] w fun e w' => e = .returned (.int .i64 (place PodD.id id l 0)) ∧ Below w.heap.size w w' := by
  have b00 := below_two w (.cells #[.slice A n c, v1, v2] 42) (.cells #[.int .i64 id] 3)
  have HF := Lib.hid (indexFunc_any l id (w.heap.size + 1) A n c ((w.alloc (.cells #[.slice A n c, v1, v2] 42)).alloc (.cells #[.int .i64 id] 3)) hn hl ((hr.below b00 (Nat.le_refl _)).more b00.size) (by simp))
  have hmf : ∀ (fn : Fn) (first cap : Array Value) (w : World), (Instr.makeFunc fn first cap).run Tryz.prog w = .ok (.func fn first cap) w := fun _ _ _ _ => rfl
  clear hr hn
  go_enter Tryz.func118, Tryz.ntmps118
  go_wp2_with fail
  refine HF.out.mono ?_
  rintro e w1 ⟨rfl, hb1⟩
  go_wp2
  go_ret
  exact ⟨rfl, b00.trans (hb1.mono b00.size)⟩
theorem place_hit {l : List PodD} {id : Int} (h : ¬ place PodD.id id l 0 < 0) : ∃ i : Nat, i < l.length ∧ place PodD.id id l 0 = i := by
  have := place_ge (f := PodD.id) (id := id) (l := l) (k := 0) (by omega)
  exact ⟨(place PodD.id id l 0).toNat, by omega, by omega⟩
set_option maxHeartbeats 3200000 in
set_option maxRecDepth 100000 in
theorem statePod_any (l : List PodD) (id : Int) (A : Option Addr) (n c : Nat) (v1 v2 : Value) (w : World) (hn : n = l.length) (hl : n ≤ 1000) (hr : Recs 8 cellsP w w.heap.size A l) :
    Calls Tryz.prog 79 #[.agg #[.slice A n c, v1, v2], .int .i64 id] w (FindTo aggP zeroP PodD.id l id w) := by
  have b00 := below_two w (.cells #[.slice A n c, v1, v2] 42) (.cells #[.int .i64 0, .int .i64 0, .int .i64 0, .int .u64 0, .int .u64 0, .int .u64 0, .int .u64 0, .int .i64 0] 79)
  have HF := Lib.hid (place_any l id A n c v1 v2 ((w.alloc (.cells #[.slice A n c, v1, v2] 42)).alloc (.cells #[.int .i64 0, .int .i64 0, .int .i64 0, .int .u64 0, .int .u64 0, .int .u64 0, .int .u64 0, .int .i64 0] 79)) hn hl ((hr.below b00 (Nat.le_refl _)).more b00.size))
  have HR := Lib.hid hr
  have HN := Lib.hid hn
  clear hr hn
  go_enter Tryz.func79, Tryz.ntmps79
  go_wp2_with fail
  refine HF.out.mono ?_
  rintro e w1 ⟨rfl, hb1⟩
  have kw1 : Below w.heap.size w w1 := b00.trans (hb1.mono b00.size)
  have hz1 : w.heap.size + 2 ≤ w1.heap.size := by have := hb1.size; simpa using this
  have b0 : w1.cell? ⟨w.heap.size, 0, none⟩ = some (.slice A n c) := (hb1.cell (p := ⟨w.heap.size, 0, none⟩) (by simp; omega)).trans (by simp)
  have b1 : w1.cell? ⟨w.heap.size, 1, none⟩ = some v1 := (hb1.cell (p := ⟨w.heap.size, 1, none⟩) (by simp; omega)).trans (by simp)
  have b2 : w1.cell? ⟨w.heap.size, 2, none⟩ = some v2 := (hb1.cell (p := ⟨w.heap.size, 2, none⟩) (by simp; omega)).trans (by simp)
  have g0 : w1.cell? ⟨w.heap.size + 1, 0, none⟩ = some (.int .i64 0) := (hb1.cell (p := ⟨w.heap.size + 1, 0, none⟩) (by simp)).trans (by simp)
  have h0 : w1.frozen? ⟨w.heap.size + 1, 0, none⟩ = false := (hb1.frozen (p := ⟨w.heap.size + 1, 0, none⟩) (by simp)).trans (by simp)
  have g1 : w1.cell? ⟨w.heap.size + 1, 1, none⟩ = some (.int .i64 0) := (hb1.cell (p := ⟨w.heap.size + 1, 1, none⟩) (by simp)).trans (by simp)
  have h1 : w1.frozen? ⟨w.heap.size + 1, 1, none⟩ = false := (hb1.frozen (p := ⟨w.heap.size + 1, 1, none⟩) (by simp)).trans (by simp)
  have g2 : w1.cell? ⟨w.heap.size + 1, 2, none⟩ = some (.int .i64 0) := (hb1.cell (p := ⟨w.heap.size + 1, 2, none⟩) (by simp)).trans (by simp)
  have h2 : w1.frozen? ⟨w.heap.size + 1, 2, none⟩ = false := (hb1.frozen (p := ⟨w.heap.size + 1, 2, none⟩) (by simp)).trans (by simp)
  have g3 : w1.cell? ⟨w.heap.size + 1, 3, none⟩ = some (.int .u64 0) := (hb1.cell (p := ⟨w.heap.size + 1, 3, none⟩) (by simp)).trans (by simp)
  have h3 : w1.frozen? ⟨w.heap.size + 1, 3, none⟩ = false := (hb1.frozen (p := ⟨w.heap.size + 1, 3, none⟩) (by simp)).trans (by simp)
  have g4 : w1.cell? ⟨w.heap.size + 1, 4, none⟩ = some (.int .u64 0) := (hb1.cell (p := ⟨w.heap.size + 1, 4, none⟩) (by simp)).trans (by simp)
  have h4 : w1.frozen? ⟨w.heap.size + 1, 4, none⟩ = false := (hb1.frozen (p := ⟨w.heap.size + 1, 4, none⟩) (by simp)).trans (by simp)
  have g5 : w1.cell? ⟨w.heap.size + 1, 5, none⟩ = some (.int .u64 0) := (hb1.cell (p := ⟨w.heap.size + 1, 5, none⟩) (by simp)).trans (by simp)
  have h5 : w1.frozen? ⟨w.heap.size + 1, 5, none⟩ = false := (hb1.frozen (p := ⟨w.heap.size + 1, 5, none⟩) (by simp)).trans (by simp)
  have g6 : w1.cell? ⟨w.heap.size + 1, 6, none⟩ = some (.int .u64 0) := (hb1.cell (p := ⟨w.heap.size + 1, 6, none⟩) (by simp)).trans (by simp)
  have h6 : w1.frozen? ⟨w.heap.size + 1, 6, none⟩ = false := (hb1.frozen (p := ⟨w.heap.size + 1, 6, none⟩) (by simp)).trans (by simp)
  have g7 : w1.cell? ⟨w.heap.size + 1, 7, none⟩ = some (.int .i64 0) := (hb1.cell (p := ⟨w.heap.size + 1, 7, none⟩) (by simp)).trans (by simp)
  have h7 : w1.frozen? ⟨w.heap.size + 1, 7, none⟩ = false := (hb1.frozen (p := ⟨w.heap.size + 1, 7, none⟩) (by simp)).trans (by simp)
  by_cases hp : place PodD.id id l 0 < 0
  · have HP := Lib.hid hp
    have hd : decide (place PodD.id id l 0 < 0) = true := decide_eq_true hp
    clear hp
    go_wp2
    refine bodyPost_ret (v := .tuple #[zeroP, .bool false]) ?_ rfl ?_
    · simp [results, Tryz.results79, go_sem, *]
    · refine ⟨.inl ⟨HP.out, rfl⟩, ?_⟩
      repeat (first | with_reducible exact kw1 | with_reducible refine Below.setCell ?_ ?_ _)
      all_goals (show w.heap.size ≤ w.heap.size + 1; omega)
  · obtain ⟨i, hi, hpi⟩ := place_hit hp
    clear hp
    obtain ⟨b, o, rfl, hb, he⟩ := HR.out.at hi
    have hin : i < n := by have := HN.out; omega
    have HP := Lib.hid hpi
    rw [hpi]
    clear hpi
    generalize hx : l[i] = x at *
    have HX := Lib.hid hx
    clear hx
    have e0 : w1.cell? ⟨b, o + i * 8, none⟩ = some (.int .i64 x.id) := (kw1.cell (p := ⟨b, o + i * 8, none⟩) hb).trans (he 0 _ rfl)
    have e1 : w1.cell? ⟨b, o + i * 8 + 1, none⟩ = some (.int .i64 x.load) := (kw1.cell (p := ⟨b, o + i * 8 + 1, none⟩) hb).trans (he 1 _ rfl)
    have e2 : w1.cell? ⟨b, o + i * 8 + 2, none⟩ = some (.int .i64 x.prio) := (kw1.cell (p := ⟨b, o + i * 8 + 2, none⟩) hb).trans (he 2 _ rfl)
    have e3 : w1.cell? ⟨b, o + i * 8 + 3, none⟩ = some (.int .u64 x.req.a) := (kw1.cell (p := ⟨b, o + i * 8 + 3, none⟩) hb).trans (he 3 _ rfl)
    have e4 : w1.cell? ⟨b, o + i * 8 + 4, none⟩ = some (.int .u64 x.req.b) := (kw1.cell (p := ⟨b, o + i * 8 + 4, none⟩) hb).trans (he 4 _ rfl)
    have e5 : w1.cell? ⟨b, o + i * 8 + 5, none⟩ = some (.int .u64 x.req.c) := (kw1.cell (p := ⟨b, o + i * 8 + 5, none⟩) hb).trans (he 5 _ rfl)
    have e6 : w1.cell? ⟨b, o + i * 8 + 6, none⟩ = some (.int .u64 x.req.d) := (kw1.cell (p := ⟨b, o + i * 8 + 6, none⟩) hb).trans (he 6 _ rfl)
    have e7 : w1.cell? ⟨b, o + i * 8 + 7, none⟩ = some (.int .i64 x.node) := (kw1.cell (p := ⟨b, o + i * 8 + 7, none⟩) hb).trans (he 7 _ rfl)
    have hbw : b < w1.heap.size := by omega
    clear he
    go_wp2
    refine bodyPost_ret (v := .tuple #[aggP x, .bool true]) ?_ rfl ?_
    · simp [results, Tryz.results79, go_sem, *]
    · refine ⟨.inr ⟨i, hi, HP.out, by rw [HX.out]⟩, ?_⟩
      repeat (first | with_reducible exact kw1 | with_reducible refine Below.setCell ?_ ?_ _)
      all_goals (show w.heap.size ≤ w.heap.size + 1; omega)
end Go.Proofs.YtpfjeoldgcepnaaGreatDoor

/- Are two states alike? The program's and the reference's Same of layer 5. -/
namespace Go.Proofs.YtpfjeoldgcepnaaGreatDoor
set_option linter.unusedSimpArgs false
open Go.RowKit
set_option linter.unusedVariables false

def PodsEqRel (l m : List PodD) (W : World) (B : Nat) (i : Value) (wr : World) : Prop := ∃ k : Nat, k ≤ l.length ∧ i = .int .i64 k ∧ podsEq (l.drop k) (m.drop k) = podsEq l m ∧ Below B W wr
abbrev stateV (A : Option Addr) (n c : Nat) (p s : Int) : Value := .agg #[.slice A n c, .int .i64 p, .int .i64 s]
set_option maxHeartbeats 3200000 in
set_option maxRecDepth 100000 in
/-- dunnageref05.Same. -/
theorem rSame05_any (t u : StateD) (A A' : Option Addr) (n c n' c' : Nat) (w : World) (hn : n = t.pods.length) (hl : n ≤ 1000) (hn' : n' = u.pods.length) (hl' : n' ≤ 1000) (hr : Recs 8 cellsP w w.heap.size A t.pods) (hr' : Recs 8 cellsP w w.heap.size A' u.pods) :
    Calls Tryz.prog 17 #[stateV A n c t.preempts t.shifts, stateV A' n' c' u.preempts u.shifts] w fun e w' => e = .returned (.bool (stateEq t u)) ∧ Below w.heap.size w w' := by
  have b00 := below_two w (.cells #[.slice A n c, .int .i64 t.preempts, .int .i64 t.shifts] 42) (.cells #[.slice A' n' c', .int .i64 u.preempts, .int .i64 u.shifts] 42)
  by_cases hnn : n = n'
  · subst hnn
    cases hp : t.preempts == u.preempts with
    | false =>
      have HE := Lib.hid (show stateEq t u = false by unfold stateEq; rw [hp]; simp)
      have hd : (t.preempts != u.preempts) = true := by simpa using hp
      go_enter Tryz.func17, Tryz.ntmps17
      go_wp2
      go_ret
      exact ⟨ret_bool HE.out.symm, below_two _ _ _⟩
    | true =>
      have hd : (t.preempts != u.preempts) = false := by simpa using hp
      cases hs : t.shifts == u.shifts with
      | false =>
        have HE := Lib.hid (show stateEq t u = false by unfold stateEq; rw [hs]; simp)
        have hd' : (t.shifts != u.shifts) = true := by simpa using hs
        clear hp hs
        go_enter Tryz.func17, Tryz.ntmps17
        go_wp2
        go_ret
        exact ⟨ret_bool HE.out.symm, below_two _ _ _⟩
      | true =>
        have hd' : (t.shifts != u.shifts) = false := by simpa using hs
        have HS := Lib.hid (show stateEq t u = podsEq t.pods u.pods by unfold stateEq; rw [hp, hs]; simp)
        clear hp hs
        have HR := Lib.hid hr
        have HR' := Lib.hid hr'
        have HN := Lib.hid hn
        have HM := Lib.hid hn'
        clear hr hr' hn hn'
        generalize t.pods = l at *
        generalize u.pods = m at *
        go_enter Tryz.func17, Tryz.ntmps17
        go_wp2
        go_loopw [5] (PodsEqRel l m ((w.alloc (.cells #[.slice A n c, .int .i64 t.preempts, .int .i64 t.shifts] 42)).alloc (.cells #[.slice A' n c', .int .i64 u.preempts, .int .i64 u.shifts] 42)) (w.heap.size + 2)) (fun i _ => n - (intOf i).toNat)
        case atStart => exact ⟨0, by omega, rfl, rfl, Below.refl _ _⟩
        case round =>
          obtain ⟨k, hk, rfl, hp, hbr⟩ := hrel
          have HP := Lib.hid hp
          have kwr := b00.trans (hbr.mono (by omega))
          have hzr : w.heap.size + 2 ≤ wr.heap.size := by have := hbr.size; simpa using this
          obtain ⟨⟨b0, b1, b2⟩, b3, b4, b5⟩ := box2_cells hbr
          have hwl : w.heap.size < wr.heap.size := by omega
          have hwl1 : w.heap.size + 1 < wr.heap.size := by omega
          clear hp
          by_cases hlt : k < n
          · have hkl : k < l.length := by have := HN.out; omega
            have hkm : k < m.length := by have := HM.out; omega
            obtain ⟨b, o, rfl, hb, he⟩ := HR.out.at hkl
            obtain ⟨b', o', rfl, hb', he'⟩ := HR'.out.at hkm
            have HA := Lib.hid (podsEq_at hkl hkm rfl rfl HP.out)
            generalize l[k] = x at *
            generalize m[k] = y at *
            have e0 : wr.cell? ⟨b, o + k * 8, none⟩ = some (.int .i64 x.id) := (kwr.cell (p := ⟨b, o + k * 8, none⟩) hb).trans (he 0 _ rfl)
            have e1 : wr.cell? ⟨b, o + k * 8 + 1, none⟩ = some (.int .i64 x.load) := (kwr.cell (p := ⟨b, o + k * 8 + 1, none⟩) hb).trans (he 1 _ rfl)
            have e2 : wr.cell? ⟨b, o + k * 8 + 2, none⟩ = some (.int .i64 x.prio) := (kwr.cell (p := ⟨b, o + k * 8 + 2, none⟩) hb).trans (he 2 _ rfl)
            have e3 : wr.cell? ⟨b, o + k * 8 + 3, none⟩ = some (.int .u64 x.req.a) := (kwr.cell (p := ⟨b, o + k * 8 + 3, none⟩) hb).trans (he 3 _ rfl)
            have e4 : wr.cell? ⟨b, o + k * 8 + 4, none⟩ = some (.int .u64 x.req.b) := (kwr.cell (p := ⟨b, o + k * 8 + 4, none⟩) hb).trans (he 4 _ rfl)
            have e5 : wr.cell? ⟨b, o + k * 8 + 5, none⟩ = some (.int .u64 x.req.c) := (kwr.cell (p := ⟨b, o + k * 8 + 5, none⟩) hb).trans (he 5 _ rfl)
            have e6 : wr.cell? ⟨b, o + k * 8 + 6, none⟩ = some (.int .u64 x.req.d) := (kwr.cell (p := ⟨b, o + k * 8 + 6, none⟩) hb).trans (he 6 _ rfl)
            have e7 : wr.cell? ⟨b, o + k * 8 + 7, none⟩ = some (.int .i64 x.node) := (kwr.cell (p := ⟨b, o + k * 8 + 7, none⟩) hb).trans (he 7 _ rfl)
            have g0 : wr.cell? ⟨b', o' + k * 8, none⟩ = some (.int .i64 y.id) := (kwr.cell (p := ⟨b', o' + k * 8, none⟩) hb').trans (he' 0 _ rfl)
            have g1 : wr.cell? ⟨b', o' + k * 8 + 1, none⟩ = some (.int .i64 y.load) := (kwr.cell (p := ⟨b', o' + k * 8 + 1, none⟩) hb').trans (he' 1 _ rfl)
            have g2 : wr.cell? ⟨b', o' + k * 8 + 2, none⟩ = some (.int .i64 y.prio) := (kwr.cell (p := ⟨b', o' + k * 8 + 2, none⟩) hb').trans (he' 2 _ rfl)
            have g3 : wr.cell? ⟨b', o' + k * 8 + 3, none⟩ = some (.int .u64 y.req.a) := (kwr.cell (p := ⟨b', o' + k * 8 + 3, none⟩) hb').trans (he' 3 _ rfl)
            have g4 : wr.cell? ⟨b', o' + k * 8 + 4, none⟩ = some (.int .u64 y.req.b) := (kwr.cell (p := ⟨b', o' + k * 8 + 4, none⟩) hb').trans (he' 4 _ rfl)
            have g5 : wr.cell? ⟨b', o' + k * 8 + 5, none⟩ = some (.int .u64 y.req.c) := (kwr.cell (p := ⟨b', o' + k * 8 + 5, none⟩) hb').trans (he' 5 _ rfl)
            have g6 : wr.cell? ⟨b', o' + k * 8 + 6, none⟩ = some (.int .u64 y.req.d) := (kwr.cell (p := ⟨b', o' + k * 8 + 6, none⟩) hb').trans (he' 6 _ rfl)
            have g7 : wr.cell? ⟨b', o' + k * 8 + 7, none⟩ = some (.int .i64 y.node) := (kwr.cell (p := ⟨b', o' + k * 8 + 7, none⟩) hb').trans (he' 7 _ rfl)
            clear he he'
            have hk0 : (0 : Int) ≤ (k : Int) := by omega
            have hk1 : (k : Int) < (n : Int) := by omega
            have hbw : b < wr.heap.size := by omega
            have hbw' : b' < wr.heap.size := by omega
            cases hq : podEq x y with
            | false =>
              have hns : ∀ v, (binOp .neq 79 (aggP x) (aggP y)).run Tryz.prog v = .ok (.bool true) v := fun v => by rw [pod_neq, hq]; rfl
              have HE := Lib.hid (HA.out.1 hq)
              clear hq
              go_wp2
              go_quiet (fail)
              go_wp2
              go_ret
              exact ⟨ret_bool (HS.out.trans HE.out).symm, below_draws kwr _⟩
            | true =>
              have hns : ∀ v, (binOp .neq 79 (aggP x) (aggP y)).run Tryz.prog v = .ok (.bool false) v := fun v => by rw [pod_neq, hq]; rfl
              have HE := Lib.hid (HA.out.2 hq)
              clear hq
              go_wp2
              go_quiet (fail)
              go_wp2
              go_roundw
              case rel => exact ⟨k + 1, by omega, by go_num, HE.out, below_draws hbr _⟩
              case measure => simp [intOf]; omega
          · have HE := Lib.hid (podsEq_end (by have := HN.out; omega) (by have := HM.out; omega) HP.out)
            go_wp2
            go_ret
            exact ⟨ret_bool (HS.out.trans HE.out).symm, kwr⟩
  · have HE := Lib.hid (show stateEq t u = false by unfold stateEq; rw [podsEq_len (by omega)]; rfl)
    have hd : ((n : Int) != (n' : Int)) = true := by simp; omega
    go_enter Tryz.func17, Tryz.ntmps17
    go_wp2
    go_ret
    exact ⟨ret_bool HE.out.symm, below_two _ _ _⟩
end Go.Proofs.YtpfjeoldgcepnaaGreatDoor

/- Plain mathematics of numbers as bytes; no program stands in it. -/
namespace Go.Proofs.YtpfjeoldgcepnaaGreatDoor
set_option linter.unusedSimpArgs false

/-- A number's bytes: seven bits a byte, the lowest first. -/
def enc (n : Int) : List Int := if n < 128 then [n] else (n % 128 + 128) :: enc (n / 128)
  termination_by n.toNat
  decreasing_by omega

def Nums (l : List Int) : Prop := ∀ n ∈ l, 0 ≤ n ∧ n < 18446744073709551616
def Octs (l : List Int) : Prop := ∀ c ∈ l, 0 ≤ c ∧ c < 256
theorem Nums.append {a b : List Int} (ha : Nums a) (hb : Nums b) : Nums (a ++ b) := fun n hn => by
  rcases List.mem_append.1 hn with h | h
  · exact ha n h
  · exact hb n h
theorem Nums.take {a : List Int} (ha : Nums a) (k : Nat) : Nums (a.take k) := fun n hn => ha n (List.mem_of_mem_take hn)
theorem Octs.drop {a : List Int} (ha : Octs a) (k : Nat) : Octs (a.drop k) := fun n hn => ha n (List.mem_of_mem_drop hn)
end Go.Proofs.YtpfjeoldgcepnaaGreatDoor

namespace Go.Proofs.YtpfjeoldgcepnaaGreatDoor
set_option linter.unusedSimpArgs false
open Go.RowKit
set_option linter.unusedVariables false

theorem old_cells {W w1 : World} (hb : Below W.heap.size W w1) : (∀ b o, b < W.heap.size → w1.cell? ⟨b, o, none⟩ = W.cell? ⟨b, o, none⟩) ∧ (∀ b o, b < W.heap.size → w1.frozen? ⟨b, o, none⟩ = W.frozen? ⟨b, o, none⟩) :=
  ⟨fun b o h => hb.cell (p := ⟨b, o, none⟩) h, fun b o h => hb.frozen (p := ⟨b, o, none⟩) h⟩

/-- The slice '.slice A xs.length c' reads as xs in w, and lies below block B. -/
def Row (w : World) (B : Nat) (A : Option Addr) (xs : List Value) : Prop :=
  xs = [] ∨ ∃ b o, A = some ⟨b, o, none⟩ ∧ b < B ∧ ∀ j (h : j < xs.length), w.cell? ⟨b, o + j, none⟩ = some xs[j]

theorem Row.nil {w : World} {B : Nat} {A : Option Addr} : Row w B A [] := .inl rfl
theorem Row.below {w w' : World} {B B' : Nat} {A : Option Addr} {xs : List Value} (h : Row w B A xs) (hb : Below B' w w') (hB : B ≤ B') : Row w' B A xs := by
  rcases h with h | ⟨b, o, h1, h2, h3⟩
  · exact .inl h
  · exact .inr ⟨b, o, h1, h2, fun j hj => (hb.cell (p := ⟨b, o + j, none⟩) (Nat.lt_of_lt_of_le h2 hB)).trans (h3 j hj)⟩
theorem Row.more {w : World} {B B' : Nat} {A : Option Addr} {xs : List Value} (h : Row w B A xs) (hB : B ≤ B') : Row w B' A xs := by
  rcases h with h | ⟨b, o, h1, h2, h3⟩
  · exact .inl h
  · exact .inr ⟨b, o, h1, Nat.lt_of_lt_of_le h2 hB, h3⟩
theorem Row.at {w : World} {B : Nat} {A : Option Addr} {xs : List Value} (h : Row w B A xs) {k : Nat} (hk : k < xs.length) :
    ∃ b o, A = some ⟨b, o, none⟩ ∧ b < B ∧ ∀ j (h : j < xs.length), w.cell? ⟨b, o + j, none⟩ = some xs[j] := by
  rcases h with h | h
  · subst h; simp at hk
  · exact h
theorem Row.take {w : World} {B : Nat} {A : Option Addr} {xs : List Value} (h : Row w B A xs) (k : Nat) : Row w B A (xs.take k) := by
  rcases h with h | ⟨b, o, h1, h2, h3⟩
  · exact .inl (by simp [h])
  · exact .inr ⟨b, o, h1, h2, fun j hj => by rw [List.getElem_take]; exact h3 j (by simp at hj; omega)⟩
theorem Row.drop {w : World} {B : Nat} {A : Option Addr} {xs : List Value} (h : Row w B A xs) {k c : Nat} (hc : xs.length ≤ c) :
    Row w B (if c = k then A else A.map (·.add k)) (xs.drop k) := by
  rcases h with h | ⟨b, o, h1, h2, h3⟩
  · exact .inl (by simp [h])
  · by_cases hk : k < xs.length
    · refine .inr ⟨b, o + k, ?_, h2, fun j hj => ?_⟩
      · rw [if_neg (by omega), h1]; simp [Addr.add_lit]
      · rw [List.getElem_drop, Nat.add_assoc]; exact h3 (k + j) (by simp at hj; omega)
    · exact .inl (by simp; omega)
/-- What one append to a row of the call's own leaves. -/
theorem push_own {B : Nat} {e : TypeId} {w wr w1 : World} {v : Value} {n : Nat} {xs : List Value} {o : Obj}
    (hB : B ≤ wr.heap.size) (hown : wr.ownsRow B e 1 v n xs) (hb : Below B w wr) (hgrow : (wr.alloc o).grownBy w1 v.ownBlock) : Below B w w1 :=
  (hb.alloc hB o).grown hgrow (by simp; omega) (fun j hj => (hown.lt j hj).1)
end Go.Proofs.YtpfjeoldgcepnaaGreatDoor
