/- Joined texts, part 17: VR VS VT VU VJ. -/
import Derived.Test.YtpfjeoldgcepnaaGreatDoorZ16
import Derived.Test.YtpfjeoldgcepnaaGreatDoorZ06
import Derived.Test.YtpfjeoldgcepnaaGreatDoorZ04
import Derived.Laws.Cover3
import Derived.BigQuiet
import Derived.Test.YtpfjeoldgcepnaaGreatDoorZ11

/- The library's search in loads at the program's clashes and isUnlike; the program's loadsFault and fault of layer 13. -/
namespace Go.Proofs.YtpfjeoldgcepnaaGreatDoor
set_option linter.unusedSimpArgs false
open Go.RowKit
set_option linter.unusedVariables false

def idxL (f : LoadD → Bool) : List LoadD → Int → Int
  | [], _ => -1
  | q :: r, k => if f q = true then k else idxL f r (k + 1)
theorem idxL_at {f : LoadD → Bool} {l : List LoadD} {k : Nat} {z : Int} (h : k < l.length) {q : LoadD} (hx : l[k] = q) (hp : idxL f (l.drop k) k = z) :
    (f q = true → z = k) ∧ (f q = false → idxL f (l.drop (k + 1)) ((k + 1 : Nat) : Int) = z) := by
  rw [List.drop_eq_getElem_cons h, hx, idxL] at hp
  constructor
  · intro e; rw [if_pos e] at hp; exact hp.symm
  · intro e; rw [if_neg (by rw [e]; decide)] at hp; exact hp
theorem idxL_end {f : LoadD → Bool} {l : List LoadD} {k : Nat} {z : Int} (h : l.length ≤ k) (hp : idxL f (l.drop k) k = z) : z = -1 := by
  rw [List.drop_of_length_le h] at hp
  exact hp.symm
theorem idxL_any {f : LoadD → Bool} : ∀ (l : List LoadD) (k : Int), 0 ≤ k → (decide (0 ≤ idxL f l k) = l.any f)
  | [], k, hk => by simp [idxL]
  | q :: r, k, hk => by
    cases h : f q with
    | true => simp [idxL, h, hk]
    | false => simp only [idxL, h, List.any_cons, Bool.false_or]; rw [if_neg (by decide)]; exact idxL_any r (k + 1) (by omega)
def IdxRelL (f : LoadD → Bool) (l : List LoadD) (n : Nat) (w : World) (i : Value) (wr : World) : Prop := ∃ k : Nat, k ≤ n ∧ i = .int .i64 k ∧ idxL f (l.drop k) k = idxL f l 0 ∧ Below w.heap.size w wr

set_option maxHeartbeats 3200000 in
set_option maxRecDepth 100000 in
theorem clashIndex_any {M : MapsB} {f : LoadD → Bool} (l : List LoadD) (A : Option Addr) (n c : Nat) (w : World) (hn : n = l.length) (hl : n ≤ 400) (hr : Recs 5 cellsL w w.heap.size A l)
    (hf : ∀ x ∈ l, ∀ V, Below w.heap.size w V → Calls Tryz.prog 108 #[M.val, aggL x] V fun e w' => e = .returned (.bool (f x)) ∧ Below V.heap.size V w') :
    Calls Tryz.prog 131 #[.slice A n c, .func (.func 108) #[M.val] #[]] w fun e w' => e = .returned (.int .i64 (idxL f l 0)) ∧ Below w.heap.size w w' := by
  have HR := Lib.hid hr
  have HN := Lib.hid hn
  have HF := Lib.hid hf
  clear hr hn hf
  go_enter Tryz.func131, Tryz.ntmps131
  go_wp2
  go_loopw [8] (IdxRelL f l n w) (fun i _ => n - (intOf i).toNat)
  case atStart => exact ⟨0, by omega, rfl, by simp, Below.refl _ _⟩
  case round =>
    obtain ⟨k, hk, rfl, hp, hbr⟩ := hrel
    have HP := Lib.hid hp
    have HB := Lib.hid hbr
    have hzr := hbr.size
    clear hp
    by_cases hlt : k < n
    · have hkl : k < l.length := by have := HN.out; omega
      have hmem := List.getElem_mem hkl
      obtain ⟨b, o, rfl, hb, he⟩ := HR.out.at hkl
      generalize hx : l[k] = x at *
      have HX := Lib.hid (idxL_at hkl hx HP.out)
      have HC := Lib.hid (HF.out x hmem wr hbr)
      clear hx hmem
      have e0 : wr.cell? ⟨b, o + k * 5, none⟩ = some (.int .i64 x.id) := (hbr.cell (p := ⟨b, o + k * 5, none⟩) hb).trans (he 0 _ rfl)
      have e1 : wr.cell? ⟨b, o + k * 5 + 1, none⟩ = some (.bool x.apart) := (hbr.cell (p := ⟨b, o + k * 5 + 1, none⟩) hb).trans (he 1 _ rfl)
      have e2 : wr.cell? ⟨b, o + k * 5 + 2, none⟩ = some (.int .i64 x.skew) := (hbr.cell (p := ⟨b, o + k * 5 + 2, none⟩) hb).trans (he 2 _ rfl)
      have e3 : wr.cell? ⟨b, o + k * 5 + 3, none⟩ = some (.int .i64 x.min) := (hbr.cell (p := ⟨b, o + k * 5 + 3, none⟩) hb).trans (he 3 _ rfl)
      have e4 : wr.cell? ⟨b, o + k * 5 + 4, none⟩ = some (.int .i64 x.max) := (hbr.cell (p := ⟨b, o + k * 5 + 4, none⟩) hb).trans (he 4 _ rfl)
      have hbw : b < wr.heap.size := by omega
      clear he hbr
      generalize f x = fx at *
      go_wp2_with fail
      go_at_call 108
      refine HC.out.mono ?_
      rintro e w1 ⟨rfl, hb1⟩
      have HK1 := Lib.hid (HB.out.trans (hb1.mono hzr))
      clear hb1
      cases fx with
      | true =>
        have HE := Lib.hid (HX.out.1 rfl)
        go_wp2
        go_ret
        exact ⟨ret_int HE.out.symm, HK1.out⟩
      | false =>
        have HE := Lib.hid (HX.out.2 rfl)
        go_wp2
        go_roundw
        case rel => exact ⟨k + 1, by omega, by go_num, HE.out, HK1.out⟩
        case measure => simp [intOf]; omega
    · have HE := Lib.hid (idxL_end (by have := HN.out; omega) HP.out)
      go_wp2
      go_ret
      exact ⟨ret_int HE.out.symm, hbr⟩
set_option maxRecDepth 100000 in
theorem clashContains_any {M : MapsB} {f : LoadD → Bool} (l : List LoadD) (A : Option Addr) (n c : Nat) (w : World) (hn : n = l.length) (hl : n ≤ 400) (hr : Recs 5 cellsL w w.heap.size A l)
    (hf : ∀ x ∈ l, ∀ V, Below w.heap.size w V → Calls Tryz.prog 108 #[M.val, aggL x] V fun e w' => e = .returned (.bool (f x)) ∧ Below V.heap.size V w') :
    Calls Tryz.prog 107 #[.slice A n c, .func (.func 108) #[M.val] #[]] w fun e w' => e = .returned (.bool (l.any f)) ∧ Below w.heap.size w w' := by
  have HC := Lib.hid (clashIndex_any l A n c w hn hl hr hf)
  have HE := Lib.hid (idxL_any (f := f) l 0 (by omega))
  clear hn hr hf
  generalize idxL f l 0 = q at *
  go_enter Tryz.func107, Tryz.ntmps107
  go_wp2_with fail
  go_at_call 131
  refine HC.out.mono ?_
  rintro e w1 ⟨rfl, hb1⟩
  by_cases hq : 0 ≤ q
  · have hd : decide (0 ≤ q) = true := decide_eq_true hq
    have HD := Lib.hid (HE.out.symm.trans hd)
    clear hq
    go_wp2
    go_ret
    exact ⟨ret_bool HD.out.symm, hb1⟩
  · have hd : decide (0 ≤ q) = false := decide_eq_false hq
    have HD := Lib.hid (HE.out.symm.trans hd)
    clear hq
    go_wp2
    go_ret
    exact ⟨ret_bool HD.out.symm, hb1⟩

set_option maxHeartbeats 3200000 in
set_option maxRecDepth 100000 in
theorem unlikeIndex_any {M : MapsB} {f : LoadD → Bool} (l : List LoadD) (A : Option Addr) (n c : Nat) (w : World) (hn : n = l.length) (hl : n ≤ 400) (hr : Recs 5 cellsL w w.heap.size A l)
    (hf : ∀ x ∈ l, ∀ V, Below w.heap.size w V → Calls Tryz.prog 109 #[M.val, aggL x] V fun e w' => e = .returned (.bool (f x)) ∧ Below V.heap.size V w') :
    Calls Tryz.prog 131 #[.slice A n c, .func (.func 109) #[M.val] #[]] w fun e w' => e = .returned (.int .i64 (idxL f l 0)) ∧ Below w.heap.size w w' := by
  have HR := Lib.hid hr
  have HN := Lib.hid hn
  have HF := Lib.hid hf
  clear hr hn hf
  go_enter Tryz.func131, Tryz.ntmps131
  go_wp2
  go_loopw [8] (IdxRelL f l n w) (fun i _ => n - (intOf i).toNat)
  case atStart => exact ⟨0, by omega, rfl, by simp, Below.refl _ _⟩
  case round =>
    obtain ⟨k, hk, rfl, hp, hbr⟩ := hrel
    have HP := Lib.hid hp
    have HB := Lib.hid hbr
    have hzr := hbr.size
    clear hp
    by_cases hlt : k < n
    · have hkl : k < l.length := by have := HN.out; omega
      have hmem := List.getElem_mem hkl
      obtain ⟨b, o, rfl, hb, he⟩ := HR.out.at hkl
      generalize hx : l[k] = x at *
      have HX := Lib.hid (idxL_at hkl hx HP.out)
      have HC := Lib.hid (HF.out x hmem wr hbr)
      clear hx hmem
      have e0 : wr.cell? ⟨b, o + k * 5, none⟩ = some (.int .i64 x.id) := (hbr.cell (p := ⟨b, o + k * 5, none⟩) hb).trans (he 0 _ rfl)
      have e1 : wr.cell? ⟨b, o + k * 5 + 1, none⟩ = some (.bool x.apart) := (hbr.cell (p := ⟨b, o + k * 5 + 1, none⟩) hb).trans (he 1 _ rfl)
      have e2 : wr.cell? ⟨b, o + k * 5 + 2, none⟩ = some (.int .i64 x.skew) := (hbr.cell (p := ⟨b, o + k * 5 + 2, none⟩) hb).trans (he 2 _ rfl)
      have e3 : wr.cell? ⟨b, o + k * 5 + 3, none⟩ = some (.int .i64 x.min) := (hbr.cell (p := ⟨b, o + k * 5 + 3, none⟩) hb).trans (he 3 _ rfl)
      have e4 : wr.cell? ⟨b, o + k * 5 + 4, none⟩ = some (.int .i64 x.max) := (hbr.cell (p := ⟨b, o + k * 5 + 4, none⟩) hb).trans (he 4 _ rfl)
      have hbw : b < wr.heap.size := by omega
      clear he hbr
      generalize f x = fx at *
      go_wp2_with fail
      go_at_call 109
      refine HC.out.mono ?_
      rintro e w1 ⟨rfl, hb1⟩
      have HK1 := Lib.hid (HB.out.trans (hb1.mono hzr))
      clear hb1
      cases fx with
      | true =>
        have HE := Lib.hid (HX.out.1 rfl)
        go_wp2
        go_ret
        exact ⟨ret_int HE.out.symm, HK1.out⟩
      | false =>
        have HE := Lib.hid (HX.out.2 rfl)
        go_wp2
        go_roundw
        case rel => exact ⟨k + 1, by omega, by go_num, HE.out, HK1.out⟩
        case measure => simp [intOf]; omega
    · have HE := Lib.hid (idxL_end (by have := HN.out; omega) HP.out)
      go_wp2
      go_ret
      exact ⟨ret_int HE.out.symm, hbr⟩
set_option maxRecDepth 100000 in
theorem unlikeContains_any {M : MapsB} {f : LoadD → Bool} (l : List LoadD) (A : Option Addr) (n c : Nat) (w : World) (hn : n = l.length) (hl : n ≤ 400) (hr : Recs 5 cellsL w w.heap.size A l)
    (hf : ∀ x ∈ l, ∀ V, Below w.heap.size w V → Calls Tryz.prog 109 #[M.val, aggL x] V fun e w' => e = .returned (.bool (f x)) ∧ Below V.heap.size V w') :
    Calls Tryz.prog 107 #[.slice A n c, .func (.func 109) #[M.val] #[]] w fun e w' => e = .returned (.bool (l.any f)) ∧ Below w.heap.size w w' := by
  have HC := Lib.hid (unlikeIndex_any l A n c w hn hl hr hf)
  have HE := Lib.hid (idxL_any (f := f) l 0 (by omega))
  clear hn hr hf
  generalize idxL f l 0 = q at *
  go_enter Tryz.func107, Tryz.ntmps107
  go_wp2_with fail
  go_at_call 131
  refine HC.out.mono ?_
  rintro e w1 ⟨rfl, hb1⟩
  by_cases hq : 0 ≤ q
  · have hd : decide (0 ≤ q) = true := decide_eq_true hq
    have HD := Lib.hid (HE.out.symm.trans hd)
    clear hq
    go_wp2
    go_ret
    exact ⟨ret_bool HD.out.symm, hb1⟩
  · have hd : decide (0 ≤ q) = false := decide_eq_false hq
    have HD := Lib.hid (HE.out.symm.trans hd)
    clear hq
    go_wp2
    go_ret
    exact ⟨ret_bool HD.out.symm, hb1⟩
end Go.Proofs.YtpfjeoldgcepnaaGreatDoor

/- Which load is at fault: the program's loadsFault of layer 13. -/
namespace Go.Proofs.YtpfjeoldgcepnaaGreatDoor
set_option linter.unusedSimpArgs false
open Go.RowKit
set_option linter.unusedVariables false

/-- What is counted is within bounds. -/
structure CntOk (C : CntD) : Prop where
  use : ∀ i, (C.use i).Ok
  inz : ∀ l z, 0 ≤ C.inz l z ∧ C.inz l z ≤ 1000
theorem cntOk_of {ns : List NodeD} {l : List PodD} (hN : FineN ns) (hP : FineP ns l) (hr : (roomOf ns l).1 = 0) : CntOk (cntOf (zmOf ns) l) := by
  refine ⟨fun i => ?_, fun ld z => ?_⟩
  · show (if i = 0 then V4.zer else totV (reqsAt i l)).Ok
    split
    · exact zer_ok
    · rename_i h
      have hs := small_all hN hP hr i h
      have hp := tot_pos (reqs_ok (node := i) hP.ok)
      simp only [V4.small] at hs
      have hs := of_decide_eq_true hs
      simp only [V4.Ok, U64]
      omega
  · have h1 : l.countP (inP (zmOf ns) ld z) ≤ l.length := List.countP_le_length
    have h2 := hP.len
    show 0 ≤ ((l.countP (inP (zmOf ns) ld z) : Nat) : Int) ∧ ((l.countP (inP (zmOf ns) ld z) : Nat) : Int) ≤ 1000
    omega
theorem clashL_is {ns : List NodeD} {C : CntD} {x : LoadD} (hN : FineN ns) : clashL ns C x = true ↔ x.apart = true ∧ ∃ i, I64 i ∧ (zmOf ns i).isSome = true ∧ 1 < C.ats x.id i := by
  unfold clashL
  rw [Bool.and_eq_true, List.any_eq_true]
  constructor
  · rintro ⟨h1, n, hn, h2⟩
    exact ⟨h1, n.id, (hN.ok n hn).1, by rw [zm_zone hN hn]; rfl, of_decide_eq_true h2⟩
  · rintro ⟨h1, i, hi, hs, h2⟩
    obtain ⟨z, hz⟩ := Option.isSome_iff_exists.1 hs
    obtain ⟨n, hn, rfl, _⟩ := (zm_is hN i z).1 hz
    exact ⟨h1, n, hn, decide_eq_true h2⟩
theorem spanL_is {ns : List NodeD} {C : CntD} {x : LoadD} {a b : Int} (hN : FineN ns) (h : SpanL (C.inz x.id) (zmOf ns) a b) (hb : ∀ i z, I64 i → zmOf ns i = some z → a ≤ C.inz x.id z ∧ C.inz x.id z ≤ b) : mostL ns C x = b ∧ leastL ns C x = a := by
  obtain ⟨f1, f2, f3⟩ := foldl_max (ns.map fun n => C.inz x.id n.zone) 0
  obtain ⟨g1, g2, g3⟩ := foldl_min (ns.map fun n => C.inz x.id n.zone) 12
  obtain ⟨h1, h2, h3, h4⟩ := h
  have hin : ∀ v, v ∈ (ns.map fun n => C.inz x.id n.zone) → a ≤ v ∧ v ≤ b := fun v hv => by
    obtain ⟨n, hn, rfl⟩ := List.mem_map.1 hv
    exact hb n.id n.zone (hN.ok n hn).1 (zm_zone hN hn)
  have hat : ∀ i z, zmOf ns i = some z → C.inz x.id z ∈ (ns.map fun n => C.inz x.id n.zone) := fun i z hz => by
    obtain ⟨n, hn, _, rfl⟩ := (zm_is hN i z).1 hz
    exact List.mem_map.2 ⟨n, hn, rfl⟩
  unfold mostL leastL
  constructor
  · have q1 : (ns.map fun n => C.inz x.id n.zone).foldl max 0 ≤ b := by
      rcases f3 with e | e
      · rw [e]; exact h4
      · exact (hin _ e).2
    have q2 : b ≤ (ns.map fun n => C.inz x.id n.zone).foldl max 0 := by
      rcases h2 with e | ⟨i, z, hz, e⟩
      · rw [e]; exact f1
      · rw [e]; exact f2 _ (hat i z hz)
    omega
  · have q1 : a ≤ (ns.map fun n => C.inz x.id n.zone).foldl min 12 := by
      rcases g3 with e | e
      · rw [e]; exact h3
      · exact (hin _ e).1
    have q2 : (ns.map fun n => C.inz x.id n.zone).foldl min 12 ≤ a := by
      rcases h1 with e | ⟨i, z, hz, e⟩
      · rw [e]; exact g1
      · rw [e]; exact g2 _ (hat i z hz)
    omega
theorem unlikeL_is {ns : List NodeD} {C : CntD} {x : LoadD} (hN : FineN ns) : (x.skew = 0 → unlikeL ns C x = false) ∧ (x.skew ≠ 0 → ∀ a b, SpanL (C.inz x.id) (zmOf ns) a b → (∀ i z, I64 i → zmOf ns i = some z → a ≤ C.inz x.id z ∧ C.inz x.id z ≤ b) → unlikeL ns C x = decide (x.skew < b - a)) := by
  refine ⟨fun h => by simp [unlikeL, h], fun h a b hs hb => ?_⟩
  obtain ⟨e1, e2⟩ := spanL_is hN hs hb
  unfold unlikeL
  rw [e1, e2]
  simp [h]
theorem budK_at {C : CntD} {l : List LoadD} {k : Nat} {z : Int} (h : k < l.length) {x : LoadD} (hx : l[k] = x) (hp : budK C (l.drop k) = z) :
    (fault9 x (C.size x.id) ≠ 0 → z = fault9 x (C.size x.id)) ∧ (fault9 x (C.size x.id) = 0 → budK C (l.drop (k + 1)) = z) := by
  rw [List.drop_eq_getElem_cons h, hx, budK] at hp
  constructor
  · intro e; rw [if_neg e] at hp; exact hp.symm
  · intro e; rw [if_pos e] at hp; exact hp
theorem budK_end {C : CntD} {l : List LoadD} {k : Nat} {z : Int} (h : l.length ≤ k) (hp : budK C (l.drop k) = z) : z = 0 := by
  rw [List.drop_of_length_le h] at hp
  exact hp.symm
def BudRel (M : MapsB) (C : CntD) (l : List LoadD) (n : Nat) (w : World) (i : Value) (wr : World) : Prop := ∃ k : Nat, k ≤ n ∧ i = .int .i64 k ∧ budK C (l.drop k) = budK C l ∧ Bf wr w.heap.size M.cells ∧ Below w.heap.size w wr

set_option maxHeartbeats 6400000 in
set_option maxRecDepth 100000 in
theorem loadsFault_any {M : MapsB} {nn : Nat} {C : CntD} {ns : List NodeD} (l : List LoadD) (A : Option Addr) (n c : Nat) (w : World) (hN : FineN ns) (hC : CntOk C) (hlo : ∀ x ∈ l, x.Ok) (hn : n = l.length) (hl : n ≤ 400) (hr : Recs 5 cellsL w w.heap.size A l) (h : CntIs M nn C w) (hz : ZoneIs M.z (zmOf ns) w) :
    Calls Tryz.prog 66 #[M.val, .slice A n c] w fun e w' => e = .returned (codeV (loadsK ns C l)) ∧ Below w.heap.size w w' := by
  have B0 : Bf (w.alloc (.cells #[.map (some M.z), .map (some M.u), .map (some M.a), .map (some M.i), .map (some M.s)] 88)) w.heap.size M.cells := Bf.new w M.cells 88 rfl
  have k0 : Below w.heap.size w (w.alloc (.cells #[.map (some M.z), .map (some M.u), .map (some M.a), .map (some M.i), .map (some M.s)] 88)) := (Below.refl _ w).alloc (Nat.le_refl _) _
  have hmf : ∀ (fn : Fn) (first cap : Array Value) (w : World), (Instr.makeFunc fn first cap).run Tryz.prog w = .ok (.func fn first cap) w := fun _ _ _ _ => rfl
  have HC1 : Hid (∀ V, Below w.heap.size w V → Calls Tryz.prog 107 #[.slice A n c, .func (.func 108) #[M.val] #[]] V fun e w' => e = .returned (.bool (l.any (clashL ns C))) ∧ Below V.heap.size V w') := fun V hV =>
    clashContains_any l A n c V hn hl ((hr.below hV (Nat.le_refl _)).more hV.size) fun x hx V' hV' => clashes_any (zm := zmOf ns) (hlo x hx).1 V' (h.below (hV.trans (hV'.mono hV.size))) (hz.below (hV.trans (hV'.mono hV.size))) (clashL_is hN)
  have HC2 : Hid (∀ V, Below w.heap.size w V → Calls Tryz.prog 107 #[.slice A n c, .func (.func 109) #[M.val] #[]] V fun e w' => e = .returned (.bool (l.any (unlikeL ns C))) ∧ Below V.heap.size V w') := fun V hV =>
    unlikeContains_any l A n c V hn hl ((hr.below hV (Nat.le_refl _)).more hV.size) fun x hx V' hV' => unlike_any (zm := zmOf ns) (hlo x hx).1 V' (h.below (hV.trans (hV'.mono hV.size))) (hz.below (hV.trans (hV'.mono hV.size))) (hC.inz x.id) (hlo x hx).2.1 (unlikeL_is hN)
  have HLK : Hid (∀ (id : Int) V, I64 id → Below w.heap.size w V → (Instr.lookup 83 (.map (some M.s)) (.int .i64 id) false).run Tryz.prog V = .ok (.int .i64 (C.size id)) V) := fun id V hi hV => size_run (h.below hV) hi
  have HLO := Lib.hid hlo
  have HN := Lib.hid hn
  have HR := Lib.hid hr
  have HLD : Hid (loadsK ns C l = if l.any (clashL ns C) = true then 10 else if l.any (unlikeL ns C) = true then 11 else budK C l) := Lib.hid rfl
  have HB0 := Lib.hid B0
  have HK0 := Lib.hid k0
  generalize loadsK ns C l = lz at *
  generalize l.any (clashL ns C) = b1 at *
  generalize l.any (unlikeL ns C) = b2 at *
  obtain ⟨q0, q1, q2, q3, q4, q5⟩ := B0.cells5v
  clear hN hC hlo hn hr h hz B0 k0
  go_enter Tryz.func66, Tryz.ntmps66
  go_wp2_with fail
  go_at_call 107
  refine (HC1.out _ HK0.out).mono ?_
  rintro e w1 ⟨rfl, hb1⟩
  have HB1 := Lib.hid (HB0.out.below hb1 HB0.out.lt)
  have HK1 := Lib.hid (HK0.out.trans (hb1.mono HK0.out.size))
  clear hb1 HB0 HK0 q0 q1 q2 q3 q4 q5
  cases b1 with
  | true =>
    have HE : Hid (lz = 10) := HLD.out
    go_wp2
    go_ret
    exact ⟨by rw [HE.out]; rfl, HK1.out⟩
  | false =>
    have HLD1 : Hid (lz = if b2 = true then 11 else budK C l) := HLD.out
    clear HLD
    obtain ⟨q0, q1, q2, q3, q4, q5⟩ := HB1.out.cells5v
    go_wp2_with fail
    go_at_call 107
    refine (HC2.out _ HK1.out).mono ?_
    rintro e w2 ⟨rfl, hb2⟩
    have HB2 := Lib.hid (HB1.out.below hb2 HB1.out.lt)
    have HK2 := Lib.hid (HK1.out.trans (hb2.mono HK1.out.size))
    clear hb2 HB1 HK1 q0 q1 q2 q3 q4 q5
    cases b2 with
    | true =>
      have HE : Hid (lz = 11) := HLD1.out
      go_wp2
      go_ret
      exact ⟨by rw [HE.out]; rfl, HK2.out⟩
    | false =>
      have HLD2 : Hid (lz = budK C l) := HLD1.out
      clear HLD1
      go_wp2
      go_loopw [19] (BudRel M C l n w) (fun i _ => n - (intOf i).toNat)
      case atStart => exact ⟨0, by omega, rfl, by simp, HB2.out, HK2.out⟩
      case round =>
        clear HB2 HK2
        obtain ⟨k, hk, rfl, hp, hB, hbr⟩ := hrel
        have HP := Lib.hid hp
        have HB := Lib.hid hB
        clear hp
        by_cases hlt : k < n
        · have hkl : k < l.length := by have := HN.out; omega
          have hmem := List.getElem_mem hkl
          obtain ⟨b, o, rfl, hb, he⟩ := HR.out.at hkl
          generalize hx : l[k] = x at *
          have HX := Lib.hid (budK_at hkl hx HP.out)
          have HXO := Lib.hid (HLO.out x hmem)
          clear hx hmem
          have e0 : wr.cell? ⟨b, o + k * 5, none⟩ = some (.int .i64 x.id) := (hbr.cell (p := ⟨b, o + k * 5, none⟩) hb).trans (he 0 _ rfl)
          have e1 : wr.cell? ⟨b, o + k * 5 + 1, none⟩ = some (.bool x.apart) := (hbr.cell (p := ⟨b, o + k * 5 + 1, none⟩) hb).trans (he 1 _ rfl)
          have e2 : wr.cell? ⟨b, o + k * 5 + 2, none⟩ = some (.int .i64 x.skew) := (hbr.cell (p := ⟨b, o + k * 5 + 2, none⟩) hb).trans (he 2 _ rfl)
          have e3 : wr.cell? ⟨b, o + k * 5 + 3, none⟩ = some (.int .i64 x.min) := (hbr.cell (p := ⟨b, o + k * 5 + 3, none⟩) hb).trans (he 3 _ rfl)
          have e4 : wr.cell? ⟨b, o + k * 5 + 4, none⟩ = some (.int .i64 x.max) := (hbr.cell (p := ⟨b, o + k * 5 + 4, none⟩) hb).trans (he 4 _ rfl)
          have hbw : b < wr.heap.size := Nat.lt_of_lt_of_le hb hbr.size
          have ka : Below wr.heap.size wr (wr.alloc (.cells #[.int .i64 x.id, .bool x.apart, .int .i64 x.skew, .int .i64 x.min, .int .i64 x.max] 76)) := (Below.refl _ wr).alloc (Nat.le_refl _) _
          have bx : Bf (wr.alloc (.cells #[.int .i64 x.id, .bool x.apart, .int .i64 x.skew, .int .i64 x.min, .int .i64 x.max] 76)) wr.heap.size (cellsL x) := Bf.new wr (cellsL x) 76 rfl
          have hB2 := hB.below ka hB.lt
          have kw := hbr.trans (ka.mono hbr.size)
          have hww : w.heap.size < wr.heap.size := hB.lt
          have hlk := HLK.out x.id _ HXO.out.1 kw
          clear hB hb he HB ka hbr
          go_upto_region 8 with fail
          generalize (wr.alloc (.cells #[.int .i64 x.id, .bool x.apart, .int .i64 x.skew, .int .i64 x.min, .int .i64 x.max] 76)) = V at *
          generalize wr.heap.size = g at *
          clear e0 e1 e2 e3 e4
          obtain ⟨q0, q1, q2, q3, q4, q5⟩ := hB2.cells5v
          obtain ⟨⟨x0, x1, x2⟩, x3, x4, x5⟩ := bx.cells5
          have HB3 := Lib.hid hB2
          have HK3 := Lib.hid kw
          clear hB2 kw bx
          generalize C.size x.id = sz at *
          by_cases hmin : sz < x.min
          · have hd : decide (sz < x.min) = true := decide_eq_true hmin
            have HE : Hid (lz = 12) := by
              have h1 := fault9_few hmin
              rw [HLD2.out, HX.out.1 (by rw [h1]; decide), h1]; exact Lib.hid rfl
            clear hmin HX
            go_wp2
            go_ret
            exact ⟨by rw [HE.out]; rfl, HK3.out⟩
          · have hd : decide (sz < x.min) = false := decide_eq_false hmin
            by_cases hmax : x.max < sz
            · have hd2 : decide (x.max < sz) = true := decide_eq_true hmax
              have HE : Hid (lz = 13) := by
                have h1 := fault9_many hmin hmax
                rw [HLD2.out, HX.out.1 (by rw [h1]; decide), h1]; exact Lib.hid rfl
              clear hmin hmax HX
              go_wp2
              go_ret
              exact ⟨by rw [HE.out]; rfl, HK3.out⟩
            · have hd2 : decide (x.max < sz) = false := decide_eq_false hmax
              have HNX := Lib.hid (HX.out.2 (fault9_none hmin hmax))
              clear hmin hmax HX
              go_wp2
              go_roundw
              case rel => exact ⟨k + 1, by omega, by go_num, HNX.out, HB3.out, HK3.out⟩
              case measure => simp [intOf]; omega
        · have HE : Hid (lz = 0) := by rw [HLD2.out, budK_end (by have := HN.out; omega) HP.out]; exact Lib.hid rfl
          clear hB
          go_wp2
          go_ret
          exact ⟨by rw [HE.out]; rfl, hbr⟩
end Go.Proofs.YtpfjeoldgcepnaaGreatDoor

/- Copies of lists: the library's Clone at each kind of record; the first state in memory that may be written. -/
namespace Go.Proofs.YtpfjeoldgcepnaaGreatDoor
set_option linter.unusedSimpArgs false
open Go.RowKit
set_option linter.unusedVariables false

theorem own_emptyG {α : Type} {cells : α → List Value} (size : Nat) (w : World) (B g : Nat) (e : TypeId) (hg : g = w.heap.size) (hB : B ≤ w.heap.size) : (w.alloc (.cells #[] e)).ownsRow B e size (.slice (some ⟨g, 0, none⟩) 0 0) 0 (([] : List α).flatMap cells) := by
  subst hg
  exact ⟨by simp, .inr ⟨w.heap.size, 0, #[], rfl, hB, heap_alloc_new w _, Nat.le_refl _, by decide, by simp, by simp⟩⟩
theorem sl_some (T : TypeId) (ad : Addr) (n c : Nat) (w : World) (e : TypeId) (hT : Tryz.prog.underlying T = some (.slice e)) : (binOp .eql T (.slice (some ad) n c) (.slice none 0 0)).run Tryz.prog w = .ok (.bool false) w := by
  simp only [binOp]
  rw [Sem.run_bind, run_equal_slice_nil w T e _ n c hT]
  rfl
theorem sl_none (T : TypeId) (n c : Nat) (w : World) (e : TypeId) (hT : Tryz.prog.underlying T = some (.slice e)) : (binOp .eql T (.slice none n c) (.slice none 0 0)).run Tryz.prog w = .ok (.bool true) w := by
  simp only [binOp]
  rw [Sem.run_bind, run_equal_slice_nil w T e _ n c hT]
  rfl
theorem infoNodeK : (Tryz.prog.info? 63).map (fun i => (i.zero, i.size, i.bytes)) = some (some (.agg #[.int .i64 0, .int .i64 0, .int .u64 0, .int .u64 0, .int .u64 0, .int .u64 0, .int .u64 0, .int .u64 0, .int .u64 0, .int .u64 0]), 10, 80) := by kernel_rfl
theorem oneNodeK (x : NodeD) : ∀ u ∈ cellsN x, u.oneCell' = true := by
  intro u hu
  simp only [cellsN, List.mem_cons, List.not_mem_nil, or_false] at hu
  rcases hu with rfl | rfl | rfl | rfl | rfl | rfl | rfl | rfl | rfl | rfl <;> rfl
set_option maxHeartbeats 800000 in
set_option maxRecDepth 100000 in
theorem cloneNode_any (l : List NodeD) (A : Option Addr) (n c : Nat) (w : World) (hn : n = l.length) (hl : n ≤ 1000) (h0 : A = none → c = 0) (hr : Recs 10 cellsN w w.heap.size A l) :
    Calls Tryz.prog 24 #[.slice A n c] w fun e w' => ∃ A' c', e = .returned (.slice A' n c') ∧ w'.ownsRow w.heap.size 63 10 (.slice A' n c') n (l.flatMap cellsN) ∧ Below w.heap.size w w' := by
  have HR := Lib.hid hr
  have HN := Lib.hid hn
  have H0 := Lib.hid h0
  have hb1 : Below w.heap.size w (w.alloc (.cells #[] 63)) := (Below.refl _ w).alloc (Nat.le_refl _) _
  have HB1 := Lib.hid hb1
  clear hr hn h0 hb1
  rcases A with _ | ad
  · have hnil : l = [] := by
      rcases HR.out with h | ⟨_, _, h, _⟩
      · exact h
      · cases h
    have hn0 : n = 0 := by rw [HN.out, hnil]; rfl
    subst hn0 hnil
    have hq := sl_none 22 0 c w 63 (by kernel_rfl)
    go_enter Tryz.func24, Tryz.ntmps24
    go_wp2
    go_ret
    exact ⟨none, 0, rfl, ⟨rfl, .inl ⟨rfl, rfl⟩⟩, Below.refl _ _⟩
  · have hq := sl_some 22 ad n c w 63 (by kernel_rfl)
    go_enter Tryz.func24, Tryz.ntmps24
    go_wp2_with (at_builtin; refine wpList_recs 22 63 (.agg #[.int .i64 0, .int .i64 0, .int .u64 0, .int .u64 0, .int .u64 0, .int .u64 0, .int .u64 0, .int .u64 0, .int .u64 0, .int .u64 0]) 10 80 (by kernel_rfl) infoNodeK rfl (by decide) (by decide) (cells := cellsN) (fun _ => rfl) oneNodeK rfl (.tmp 5) (.tmp 6) rfl w.heap.size w.heap.size _ 0 n [] l (some ad) c H0.out (own_emptyG 10 w _ _ _ (by rfl) (Nat.le_refl _)) (HR.out.below HB1.out (Nat.le_refl _)) (by simp) (by omega) rfl rfl HN.out ?_; intro v' w' hown hb hB)
    obtain ⟨A', c', rfl, _⟩ := own_form3 hown
    rw [Nat.zero_add] at hown
    go_ret
    exact ⟨A', c', congrArg (fun k => Ending.returned (.slice A' k c')) (Nat.zero_add n), hown, HB1.out.trans hb⟩
set_option maxHeartbeats 800000 in
set_option maxRecDepth 100000 in
theorem cloneLoad_any (l : List LoadD) (A : Option Addr) (n c : Nat) (w : World) (hn : n = l.length) (hl : n ≤ 1000) (h0 : A = none → c = 0) (hr : Recs 5 cellsL w w.heap.size A l) :
    Calls Tryz.prog 25 #[.slice A n c] w fun e w' => ∃ A' c', e = .returned (.slice A' n c') ∧ w'.ownsRow w.heap.size 76 5 (.slice A' n c') n (l.flatMap cellsL) ∧ Below w.heap.size w w' := by
  have HR := Lib.hid hr
  have HN := Lib.hid hn
  have H0 := Lib.hid h0
  have hb1 : Below w.heap.size w (w.alloc (.cells #[] 76)) := (Below.refl _ w).alloc (Nat.le_refl _) _
  have HB1 := Lib.hid hb1
  clear hr hn h0 hb1
  rcases A with _ | ad
  · have hnil : l = [] := by
      rcases HR.out with h | ⟨_, _, h, _⟩
      · exact h
      · cases h
    have hn0 : n = 0 := by rw [HN.out, hnil]; rfl
    subst hn0 hnil
    have hq := sl_none 23 0 c w 76 (by kernel_rfl)
    go_enter Tryz.func25, Tryz.ntmps25
    go_wp2
    go_ret
    exact ⟨none, 0, rfl, ⟨rfl, .inl ⟨rfl, rfl⟩⟩, Below.refl _ _⟩
  · have hq := sl_some 23 ad n c w 76 (by kernel_rfl)
    go_enter Tryz.func25, Tryz.ntmps25
    go_wp2_with (at_builtin; refine wpList_recs 23 76 (.agg #[.int .i64 0, .bool false, .int .i64 0, .int .i64 0, .int .i64 0]) 5 40 (by kernel_rfl) infoLoad rfl (by decide) (by decide) (cells := cellsL) (fun _ => rfl) oneLoad rfl (.tmp 5) (.tmp 6) rfl w.heap.size w.heap.size _ 0 n [] l (some ad) c H0.out (own_emptyG 5 w _ _ _ (by rfl) (Nat.le_refl _)) (HR.out.below HB1.out (Nat.le_refl _)) (by simp) (by omega) rfl rfl HN.out ?_; intro v' w' hown hb hB)
    obtain ⟨A', c', rfl, _⟩ := own_form3 hown
    rw [Nat.zero_add] at hown
    go_ret
    exact ⟨A', c', congrArg (fun k => Ending.returned (.slice A' k c')) (Nat.zero_add n), hown, HB1.out.trans hb⟩
set_option maxHeartbeats 800000 in
set_option maxRecDepth 100000 in
theorem clonePod_any (l : List PodD) (A : Option Addr) (n c : Nat) (w : World) (hn : n = l.length) (hl : n ≤ 1000) (h0 : A = none → c = 0) (hr : Recs 8 cellsP w w.heap.size A l) :
    Calls Tryz.prog 26 #[.slice A n c] w fun e w' => ∃ A' c', e = .returned (.slice A' n c') ∧ w'.ownsRow w.heap.size 79 8 (.slice A' n c') n (l.flatMap cellsP) ∧ Below w.heap.size w w' := by
  have HR := Lib.hid hr
  have HN := Lib.hid hn
  have H0 := Lib.hid h0
  have hb1 : Below w.heap.size w (w.alloc (.cells #[] 79)) := (Below.refl _ w).alloc (Nat.le_refl _) _
  have HB1 := Lib.hid hb1
  clear hr hn h0 hb1
  rcases A with _ | ad
  · have hnil : l = [] := by
      rcases HR.out with h | ⟨_, _, h, _⟩
      · exact h
      · cases h
    have hn0 : n = 0 := by rw [HN.out, hnil]; rfl
    subst hn0 hnil
    have hq := sl_none 24 0 c w 79 (by kernel_rfl)
    go_enter Tryz.func26, Tryz.ntmps26
    go_wp2
    go_ret
    exact ⟨none, 0, rfl, ⟨rfl, .inl ⟨rfl, rfl⟩⟩, Below.refl _ _⟩
  · have hq := sl_some 24 ad n c w 79 (by kernel_rfl)
    go_enter Tryz.func26, Tryz.ntmps26
    go_wp2_with (at_builtin; refine wpList_recs 24 79 (.agg #[.int .i64 0, .int .i64 0, .int .i64 0, .int .u64 0, .int .u64 0, .int .u64 0, .int .u64 0, .int .i64 0]) 8 64 (by kernel_rfl) infoPod rfl (by decide) (by decide) (cells := cellsP) (fun _ => rfl) onePod rfl (.tmp 5) (.tmp 6) rfl w.heap.size w.heap.size _ 0 n [] l (some ad) c H0.out (own_emptyG 8 w _ _ _ (by rfl) (Nat.le_refl _)) (HR.out.below HB1.out (Nat.le_refl _)) (by simp) (by omega) rfl rfl HN.out ?_; intro v' w' hown hb hB)
    obtain ⟨A', c', rfl, _⟩ := own_form3 hown
    rw [Nat.zero_add] at hown
    go_ret
    exact ⟨A', c', congrArg (fun k => Ending.returned (.slice A' k c')) (Nat.zero_add n), hown, HB1.out.trans hb⟩
theorem infoWantK : (Tryz.prog.info? 82).map (fun i => (i.zero, i.size, i.bytes)) = some (some (.agg #[.int .i64 0, .int .u64 0, .int .u64 0, .int .u64 0, .int .u64 0, .bool false]), 6, 48) := by kernel_rfl
theorem oneWantK (x : WantD) : ∀ u ∈ cellsW x, u.oneCell' = true := by
  intro u hu
  simp only [cellsW, List.mem_cons, List.not_mem_nil, or_false] at hu
  rcases hu with rfl | rfl | rfl | rfl | rfl | rfl <;> rfl
set_option maxHeartbeats 800000 in
set_option maxRecDepth 100000 in
theorem cloneWant_any (l : List WantD) (A : Option Addr) (n c : Nat) (w : World) (hn : n = l.length) (hl : n ≤ 1000) (h0 : A = none → c = 0) (hr : Recs 6 cellsW w w.heap.size A l) :
    Calls Tryz.prog 27 #[.slice A n c] w fun e w' => ∃ A' c', e = .returned (.slice A' n c') ∧ w'.ownsRow w.heap.size 82 6 (.slice A' n c') n (l.flatMap cellsW) ∧ Below w.heap.size w w' := by
  have HR := Lib.hid hr
  have HN := Lib.hid hn
  have H0 := Lib.hid h0
  have hb1 : Below w.heap.size w (w.alloc (.cells #[] 82)) := (Below.refl _ w).alloc (Nat.le_refl _) _
  have HB1 := Lib.hid hb1
  clear hr hn h0 hb1
  rcases A with _ | ad
  · have hnil : l = [] := by
      rcases HR.out with h | ⟨_, _, h, _⟩
      · exact h
      · cases h
    have hn0 : n = 0 := by rw [HN.out, hnil]; rfl
    subst hn0 hnil
    have hq := sl_none 27 0 c w 82 (by kernel_rfl)
    go_enter Tryz.func27, Tryz.ntmps27
    go_wp2
    go_ret
    exact ⟨none, 0, rfl, ⟨rfl, .inl ⟨rfl, rfl⟩⟩, Below.refl _ _⟩
  · have hq := sl_some 27 ad n c w 82 (by kernel_rfl)
    go_enter Tryz.func27, Tryz.ntmps27
    go_wp2_with (at_builtin; refine wpList_recs 27 82 (.agg #[.int .i64 0, .int .u64 0, .int .u64 0, .int .u64 0, .int .u64 0, .bool false]) 6 48 (by kernel_rfl) infoWantK rfl (by decide) (by decide) (cells := cellsW) (fun _ => rfl) oneWantK rfl (.tmp 5) (.tmp 6) rfl w.heap.size w.heap.size _ 0 n [] l (some ad) c H0.out (own_emptyG 6 w _ _ _ (by rfl) (Nat.le_refl _)) (HR.out.below HB1.out (Nat.le_refl _)) (by simp) (by omega) rfl rfl HN.out ?_; intro v' w' hown hb hB)
    obtain ⟨A', c', rfl, _⟩ := own_form3 hown
    rw [Nat.zero_add] at hown
    go_ret
    exact ⟨A', c', congrArg (fun k => Ending.returned (.slice A' k c')) (Nat.zero_add n), hown, HB1.out.trans hb⟩
set_option maxHeartbeats 800000 in
/-- The first state, in memory that may be written. -/
theorem firstOwn_any (l : List PodD) (A : Option Addr) (n c : Nat) (v0 v1 : Value) (w : World) (hn : n = l.length) (hl : n ≤ 1000) (h0 : A = none → c = 0) (hr : Recs 8 cellsP w w.heap.size A l) :
    Calls Tryz.prog 28 #[.agg #[v0, v1, .slice A n c]] w fun e w' => ∃ A' c', e = .returned (stateV A' l.length c' 0 0) ∧ OwnAt (w.heap.size + 2) l w' A' c' ∧ Below w.heap.size w w' := by
  have b00 := below_two w (.cells #[v0, v1, .slice A n c] 26) (.cells #[.slice none 0 0, .int .i64 0, .int .i64 0] 42)
  have hsz : ((w.alloc (.cells #[v0, v1, .slice A n c] 26)).alloc (.cells #[.slice none 0 0, .int .i64 0, .int .i64 0] 42)).heap.size = w.heap.size + 2 := by simp
  have HSZ := Lib.hid hsz
  have HF := Lib.hid (clone_any l A n c ((w.alloc (.cells #[v0, v1, .slice A n c] 26)).alloc (.cells #[.slice none 0 0, .int .i64 0, .int .i64 0] 42)) hn hl h0 ((hr.below b00 (Nat.le_refl _)).more b00.size))
  have HN := Lib.hid hn
  clear hr hn h0 hsz
  go_enter Tryz.func28, Tryz.ntmps28
  go_wp2_with fail
  refine HF.out.mono ?_
  rintro e w1 ⟨A', c', rfl, ho, hb1⟩
  have HO := Lib.hid ho
  clear ho
  have kw1 := b00.trans (hb1.mono b00.size)
  have hz1 : w.heap.size + 2 ≤ w1.heap.size := by have := hb1.size; simpa using this
  have g0 : w1.cell? ⟨w.heap.size + 1, 0, none⟩ = some (.slice none 0 0) := (hb1.cell (p := ⟨w.heap.size + 1, 0, none⟩) (by simp)).trans (by simp)
  have h0 : w1.frozen? ⟨w.heap.size + 1, 0, none⟩ = false := (hb1.frozen (p := ⟨w.heap.size + 1, 0, none⟩) (by simp)).trans (by simp)
  have g1 : w1.cell? ⟨w.heap.size + 1, 1, none⟩ = some (.int .i64 0) := (hb1.cell (p := ⟨w.heap.size + 1, 1, none⟩) (by simp)).trans (by simp)
  have h1 : w1.frozen? ⟨w.heap.size + 1, 1, none⟩ = false := (hb1.frozen (p := ⟨w.heap.size + 1, 1, none⟩) (by simp)).trans (by simp)
  have g2 : w1.cell? ⟨w.heap.size + 1, 2, none⟩ = some (.int .i64 0) := (hb1.cell (p := ⟨w.heap.size + 1, 2, none⟩) (by simp)).trans (by simp)
  have h2 : w1.frozen? ⟨w.heap.size + 1, 2, none⟩ = false := (hb1.frozen (p := ⟨w.heap.size + 1, 2, none⟩) (by simp)).trans (by simp)
  have HKW := Lib.hid kw1
  clear kw1 hb1
  go_wp2
  refine bodyPost_ret (v := stateV A' n c' 0 0) ?_ rfl ?_
  · simp [results, Tryz.results28, go_sem, *]
  · have hn := HN.out
    subst hn
    have ho : OwnAt (w.heap.size + 2) l w1 A' c' := by
      have h := OwnAt.of HO.out
      rw [HSZ.out] at h
      exact h
    exact ⟨A', c', rfl, ((ho.set (by simp) _).set (by simp) _).set (by simp) _, ((HKW.out.setCell (by show w.heap.size ≤ w.heap.size + 1; omega) _).setCell (by show w.heap.size ≤ w.heap.size + 1; omega) _).setCell (by show w.heap.size ≤ w.heap.size + 1; omega) _⟩
/-- A row of pods that may be written, or none. -/
def PodRow (A : Option Addr) (c : Nat) (l : List PodD) (w : World) : Prop := (l = [] ∧ A = none ∧ c = 0) ∨ ∃ g, A = some ⟨g, 0, none⟩ ∧ l.length ≤ c ∧ c ≤ maxLen ∧ Lst g l w
theorem podRow_of {B : Nat} {l : List PodD} {w : World} {A : Option Addr} {c : Nat} (h : OwnAt B l w A c) : PodRow A c l w ∧ ∀ a, A = some a → B ≤ a.block := by
  have h1 := h.out
  rcases h.2 with ⟨hv, h0⟩ | ⟨g, cap, cur, hv, hb, hg, hnc, hm, _⟩
  · injection hv with e1 _ e2
    exact ⟨.inl ⟨List.eq_nil_of_length_eq_zero h0, e1, e2⟩, fun a ha => by rw [e1] at ha; cases ha⟩
  · injection hv with e1 _ e2
    subst e1 e2
    refine ⟨.inr ⟨g, rfl, hnc, hm, ?_, fun i hi j u hu => ?_, fun o => by simp [World.frozen?, hg]⟩, fun a ha => by injection ha with ha; rw [← ha]; exact hb⟩
    · exact (Array.getElem?_eq_some_iff.1 hg).1
    · obtain ⟨b, o, e, _, hc⟩ := h1.2.2.2.at hi
      injection e with e
      injection e with e1 e2
      subst e1 e2
      simpa using hc j u hu
theorem PodRow.out {A : Option Addr} {c : Nat} {l : List PodD} {w : World} (h : PodRow A c l w) : Out 8 cellsP w l A c := by
  rcases h with ⟨rfl, rfl, rfl⟩ | ⟨g, rfl, h1, h2, h3⟩
  · exact Out.nil rfl
  · exact ⟨h1, h2, (by intro h; cases h), h3.recs⟩
theorem PodRow.kept {A : Option Addr} {c : Nat} {l : List PodD} {w w' : World} {S : List Nat} (h : PodRow A c l w) (ho : Only S w w') (hA : ∀ a, A = some a → a.block ∉ S) : PodRow A c l w' := by
  rcases h with h | ⟨g, rfl, h1, h2, h3⟩
  · exact .inl h
  · have hg := hA ⟨g, 0, none⟩ rfl
    exact .inr ⟨g, rfl, h1, h2, Nat.lt_of_lt_of_le h3.lt ho.size, fun i hi j u hu => (ho.cell (p := ⟨g, i * 8 + j, none⟩) h3.lt hg).trans (h3.cell i hi j u hu), fun o => (ho.frozen (p := ⟨g, o, none⟩) h3.lt hg).trans (h3.frozen o)⟩
theorem PodRow.below {A : Option Addr} {c : Nat} {l : List PodD} {w w' : World} (h : PodRow A c l w) (hb : Below w.heap.size w w') : PodRow A c l w' :=
  h.kept (S := []) (Only.of_below hb (fun i h1 h2 => by omega)) (by simp)
/-- Records that are not written stay. -/
theorem recs_only {α : Type} {size : Nat} {cells : α → List Value} {l : List α} {w w' : World} {A : Option Addr} {S : List Nat} (h : Recs size cells w w.heap.size A l) (ho : Only S w w') (hA : ∀ a, A = some a → a.block ∉ S) : Recs size cells w' w'.heap.size A l := by
  rcases h with h | ⟨b, o, rfl, hb, hc⟩
  · exact .inl h
  · refine .inr ⟨b, o, rfl, Nat.lt_of_lt_of_le hb ho.size, fun i hi j u hu => ?_⟩
    exact (ho.cell (p := ⟨b, o + i * size + j, none⟩) hb (hA ⟨b, o, none⟩ rfl)).trans (hc i hi j u hu)
end Go.Proofs.YtpfjeoldgcepnaaGreatDoor

/- A keeper as it lies in memory; the program's fault of layer 13. -/
namespace Go.Proofs.YtpfjeoldgcepnaaGreatDoor
set_option linter.unusedSimpArgs false
open Go.RowKit
set_option linter.unusedVariables false

/-- Where a keeper's parts lie. -/
structure KAddr where
  a1 : Option Addr
  a2 : Option Addr
  a3 : Option Addr
  a5 : Option Addr
  a4 : Option Addr
  ad : Option Addr
  c1 : Nat
  c2 : Nat
  c3 : Nat
  c5 : Nat
  c4 : Nat
  cd : Nat
  M : MapsB
  kb : Nat
def blk (A : Option Addr) : List Nat := A.toList.map Addr.block
/-- What a turn changes. -/
def KAddr.muts (K : KAddr) : List Nat := K.kb :: (blk K.a4 ++ K.M.four)
def KAddr.all (K : KAddr) : List Nat := K.kb :: (blk K.a4 ++ (blk K.ad ++ K.M.four))
structure KSep (K : KAddr) : Prop where
  m : K.M.Apart
  kb : K.kb ∉ K.M.z :: K.M.four
  g : ∀ a, K.a4 = some a → a.block ≠ K.kb ∧ a.block ∉ K.M.z :: K.M.four
  d : ∀ a, K.ad = some a → a.block ≠ K.kb ∧ a.block ∉ K.M.z :: K.M.four ∧ ∀ b, K.a4 = some b → a.block ≠ b.block
  r1 : ∀ a, K.a1 = some a → a.block ∉ K.all
  r2 : ∀ a, K.a2 = some a → a.block ∉ K.all
  r3 : ∀ a, K.a3 = some a → a.block ∉ K.all
  r5 : ∀ a, K.a5 = some a → a.block ∉ K.all
theorem muts_all {K : KAddr} {i : Nat} (h : i ∈ K.muts) : i ∈ K.all := by
  simp only [KAddr.muts, KAddr.all, List.mem_cons, List.mem_append] at h ⊢
  rcases h with h | h | h
  · exact .inl h
  · exact .inr (.inl h)
  · exact .inr (.inr (.inr h))
abbrev kcells (K : KAddr) (s : SnapD) (x : SpecD) (n : Nat) (p1 p2 : Int) (nd : Nat) : List Value :=
  [.slice K.a1 s.nodes.length K.c1, .slice K.a2 s.loads.length K.c2, .slice K.a3 s.pods.length K.c3, .slice K.a5 x.wants.length K.c5, .int .i64 x.preempts, .int .i64 x.shifts, .slice K.a4 n K.c4, .int .i64 p1, .int .i64 p2, .slice K.ad nd K.cd, .map (some K.M.z), .map (some K.M.u), .map (some K.M.a), .map (some K.M.i), .map (some K.M.s)]
/-- A keeper's parts, but for its moves. -/
structure Kc (K : KAddr) (s : SnapD) (x : SpecD) (l : List PodD) (p1 p2 : Int) (C : CntD) (N nd : Nat) (w : World) : Prop where
  sep : KSep K
  box : Bf w K.kb (kcells K s x l.length p1 p2 nd)
  pods : PodRow K.a4 K.c4 l w
  cnt : CntIs K.M N C w
  zone : ZoneIs K.M.z (zmOf s.nodes) w
  r1 : Recs 10 cellsN w w.heap.size K.a1 s.nodes
  r2 : Recs 5 cellsL w w.heap.size K.a2 s.loads
  r3 : Recs 8 cellsP w w.heap.size K.a3 s.pods
  r5 : Recs 6 cellsW w w.heap.size K.a5 x.wants
section
variable {K : KAddr} {s : SnapD} {x : SpecD} {l : List PodD} {p1 p2 : Int} {C : CntD} {N nd : Nat} {w w' : World}
theorem Kc.below (h : Kc K s x l p1 p2 C N nd w) (hb : Below w.heap.size w w') : Kc K s x l p1 p2 C N nd w' :=
  ⟨h.sep, h.box.below hb h.box.lt, h.pods.below hb, h.cnt.below hb, h.zone.below hb, (h.r1.below hb (Nat.le_refl _)).more hb.size, (h.r2.below hb (Nat.le_refl _)).more hb.size, (h.r3.below hb (Nat.le_refl _)).more hb.size, (h.r5.below hb (Nat.le_refl _)).more hb.size⟩
theorem Kc.drew (h : Kc K s x l p1 p2 C N nd w) : Kc K s x l p1 p2 C N nd w.drew := h.below ((Below.refl _ w).drew)
theorem Kc.facts (h : Kc K s x l p1 p2 C N nd w) : (w.cell? ⟨K.kb, 0, none⟩ = some (.slice K.a1 s.nodes.length K.c1) ∧ w.cell? ⟨K.kb, 1, none⟩ = some (.slice K.a2 s.loads.length K.c2) ∧ w.cell? ⟨K.kb, 2, none⟩ = some (.slice K.a3 s.pods.length K.c3)) ∧
    (w.cell? ⟨K.kb, 3, none⟩ = some (.slice K.a5 x.wants.length K.c5) ∧ w.cell? ⟨K.kb, 4, none⟩ = some (.int .i64 x.preempts) ∧ w.cell? ⟨K.kb, 5, none⟩ = some (.int .i64 x.shifts)) ∧
    (w.cell? ⟨K.kb, 6, none⟩ = some (.slice K.a4 l.length K.c4) ∧ w.cell? ⟨K.kb, 7, none⟩ = some (.int .i64 p1) ∧ w.cell? ⟨K.kb, 8, none⟩ = some (.int .i64 p2)) ∧ w.cell? ⟨K.kb, 9, none⟩ = some (.slice K.ad nd K.cd) ∧
    (w.cell? ⟨K.kb, 10, none⟩ = some (.map (some K.M.z)) ∧ w.cell? ⟨K.kb, 11, none⟩ = some (.map (some K.M.u)) ∧ w.cell? ⟨K.kb, 12, none⟩ = some (.map (some K.M.a)) ∧ w.cell? ⟨K.kb, 13, none⟩ = some (.map (some K.M.i)) ∧ w.cell? ⟨K.kb, 14, none⟩ = some (.map (some K.M.s))) ∧ K.kb < w.heap.size :=
  ⟨⟨h.box.cell 0 _ rfl, h.box.cell 1 _ rfl, h.box.cell 2 _ rfl⟩, ⟨h.box.cell 3 _ rfl, h.box.cell 4 _ rfl, h.box.cell 5 _ rfl⟩, ⟨h.box.cell 6 _ rfl, h.box.cell 7 _ rfl, h.box.cell 8 _ rfl⟩, h.box.cell 9 _ rfl, ⟨h.box.cell 10 _ rfl, h.box.cell 11 _ rfl, h.box.cell 12 _ rfl, h.box.cell 13 _ rfl, h.box.cell 14 _ rfl⟩, h.box.lt⟩
end

set_option maxHeartbeats 6400000 in
set_option maxRecDepth 100000 in
theorem fault_any {K : KAddr} {s : SnapD} {x : SpecD} {l : List PodD} {p1 p2 : Int} {C : CntD} {N nd : Nat} (ls : List LoadD) (A : Option Addr) (n c : Nat) (w : World) (h : Kc K s x l p1 p2 C N nd w) (hN : FineN s.nodes) (hC : CntOk C) (hlo : ∀ y ∈ ls, y.Ok) (hn : n = ls.length) (hl : n ≤ 400) (hr : Recs 5 cellsL w w.heap.size A ls) :
    Calls Tryz.prog 32 #[.pointer (some ⟨K.kb, 0, none⟩), .slice A n c] w fun e w' => e = .returned (codeV (faultK s.nodes C ls x p1 p2)) ∧ Below w.heap.size w w' := by
  have HLF := Lib.hid (loadsFault_any (M := K.M) ls A n c w hN hC hlo hn hl hr h.cnt h.zone)
  have HK := Lib.hid h
  have HE : Hid (faultK s.nodes C ls x p1 p2 = if loadsK s.nodes C ls ≠ 0 then loadsK s.nodes C ls else if usedD x.preempts x.shifts p1 p2 = true then 15 else 0) := Lib.hid rfl
  have HU : Hid (usedD x.preempts x.shifts p1 p2 = (decide (x.preempts < p1) || decide (x.shifts < p2))) := Lib.hid rfl
  generalize faultK s.nodes C ls x p1 p2 = fz at *
  generalize loadsK s.nodes C ls = lz at *
  generalize usedD x.preempts x.shifts p1 p2 = uz at *
  obtain ⟨-, -, -, -, ⟨q0, q1, q2, q3, q4⟩, hkb⟩ := h.facts
  clear h hN hC hlo hn hr
  go_enter Tryz.func32, Tryz.ntmps32
  go_wp2_with fail
  refine HLF.out.mono ?_
  rintro e w1 ⟨rfl, hb1⟩
  have HK1 := Lib.hid (HK.out.below hb1)
  have HKB := Lib.hid hb1
  clear hb1 q0 q1 q2 q3 q4 HK
  by_cases hz : lz = 0
  · have HE1 : Hid (fz = if uz = true then 15 else 0) := by have h1 := HE.out; rw [if_neg (by simp [hz])] at h1; exact h1
    rw [hz, codeV_zero]
    clear hz HE HLF
    obtain ⟨-, ⟨-, x1, x2⟩, ⟨-, t1, t2⟩, -, -, hkb1⟩ := HK1.out.facts
    by_cases h1 : x.preempts < p1
    · have hd1 : decide (x.preempts < p1) = true := decide_eq_true h1
      have HR : Hid (fz = 15) := by rw [HE1.out, HU.out, hd1]; exact Lib.hid rfl
      clear h1
      go_upto_region 4 with fail
      go_quiet (fail)
      go_wp2
      go_ret
      exact ⟨by rw [HR.out]; rfl, below_draws HKB.out _⟩
    · have hd1 : decide (x.preempts < p1) = false := decide_eq_false h1
      by_cases h2 : x.shifts < p2
      · have hd2 : decide (x.shifts < p2) = true := decide_eq_true h2
        have HR : Hid (fz = 15) := by rw [HE1.out, HU.out, hd1, hd2]; exact Lib.hid rfl
        clear h1 h2
        go_upto_region 4 with fail
        go_quiet (fail)
        go_wp2
        go_ret
        exact ⟨by rw [HR.out]; rfl, below_draws HKB.out _⟩
      · have hd2 : decide (x.shifts < p2) = false := decide_eq_false h2
        have HR : Hid (fz = 0) := by rw [HE1.out, HU.out, hd1, hd2]; exact Lib.hid rfl
        clear h1 h2
        go_upto_region 4 with fail
        go_quiet (fail)
        go_wp2
        go_ret
        exact ⟨by rw [HR.out]; rfl, below_draws HKB.out _⟩
  · have HR : Hid (fz = lz) := by have h1 := HE.out; rw [if_pos hz] at h1; exact h1
    have hcv := codeV_pos hz
    rw [hcv]
    have HCV := Lib.hid hcv
    clear hz HE hcv
    go_wp2
    go_ret
    exact ⟨by rw [HR.out, HCV.out]; rfl, HKB.out⟩
end Go.Proofs.YtpfjeoldgcepnaaGreatDoor

namespace Go.Proofs.YtpfjeoldgcepnaaGreatDoor
set_option linter.unusedSimpArgs false
open Go.RowKit
set_option linter.unusedVariables false

theorem upd_ok {f : Int → V4} {i : Int} {v : V4} (h : ∀ k, (f k).Ok) (hv : v.Ok) : ∀ k, (upd1 f i v k).Ok := fun k => by
  unfold upd1
  split
  · exact hv
  · exact h k
theorem come_okC {zm : Int → Option Int} {C : CntD} {p : PodD} (h : ∀ k, (C.use k).Ok) (hp : p.Ok) : ∀ k, ((comeC zm C p).use k).Ok := by
  unfold comeC
  split
  · exact h
  · exact upd_ok h (more_okV (h _) hp.2.2.2.1)
theorem leave_okC {zm : Int → Option Int} {C : CntD} {p : PodD} (h : ∀ k, (C.use k).Ok) (hp : p.Ok) : ∀ k, ((leaveC zm C p).use k).Ok := by
  unfold leaveC
  split
  · exact h
  · exact upd_ok h (less_okV (h _) hp.2.2.2.1)
theorem comes_okC {zm : Int → Option Int} : ∀ {l : List PodD} {C : CntD}, (∀ k, (C.use k).Ok) → (∀ p ∈ l, p.Ok) → ∀ k, ((comesC zm C l).use k).Ok
  | [], C, h, _ => h
  | p :: r, C, h, hl => comes_okC (l := r) (C := comeC zm C p) (come_okC h (hl p (by simp))) (fun q hq => hl q (by simp [hq]))
theorem leaves_okC {zm : Int → Option Int} : ∀ {l : List PodD} {C : CntD}, (∀ k, (C.use k).Ok) → (∀ p ∈ l, p.Ok) → ∀ k, ((leavesC zm C l).use k).Ok
  | [], C, h, _ => h
  | p :: r, C, h, hl => leaves_okC (l := r) (C := leaveC zm C p) (leave_okC h (hl p (by simp))) (fun q hq => hl q (by simp [hq]))
theorem comes_take {zm : Int → Option Int} {C : CntD} {l : List PodD} {k : Nat} (h : k < l.length) {p : PodD} (hp : l[k] = p) : comesC zm C (l.take (k + 1)) = comeC zm (comesC zm C (l.take k)) p := by
  unfold comesC
  rw [List.take_succ_eq_append_getElem h, List.foldl_append, hp]
  rfl
theorem leaves_take {zm : Int → Option Int} {C : CntD} {l : List PodD} {k : Nat} (h : k < l.length) {p : PodD} (hp : l[k] = p) : leavesC zm C (l.take (k + 1)) = leaveC zm (leavesC zm C (l.take k)) p := by
  unfold leavesC
  rw [List.take_succ_eq_append_getElem h, List.foldl_append, hp]
  rfl
theorem come_zero {zm : Int → Option Int} {C : CntD} {p : PodD} (h : p.node = 0) : comeC zm C p = C := by unfold comeC; rw [if_pos h]
theorem come_node {zm : Int → Option Int} {C : CntD} {p : PodD} (h : p.node ≠ 0) : comeC zm C p = countC zm ⟨upd1 C.use p.node (moreV (C.use p.node) p.req), C.ats, C.inz, C.size⟩ p 1 := by unfold comeC; rw [if_neg h]
theorem leave_zero {zm : Int → Option Int} {C : CntD} {p : PodD} (h : p.node = 0) : leaveC zm C p = C := by unfold leaveC; rw [if_pos h]
theorem leave_node {zm : Int → Option Int} {C : CntD} {p : PodD} (h : p.node ≠ 0) : leaveC zm C p = countC zm ⟨upd1 C.use p.node (lessV (C.use p.node) p.req), C.ats, C.inz, C.size⟩ p (-1) := by unfold leaveC; rw [if_neg h]
/-- What stands while pods come or leave. -/
def ComeRel (M : MapsB) (n : Nat) (F : Nat → CntD) (zm : Int → Option Int) (len : Nat) (w : World) (v : Value) (wr : World) : Prop :=
  ∃ k : Nat, k ≤ len ∧ v = .int .i64 k ∧ CntIs M (n + 2 * k) (F k) wr ∧ ZoneIs M.z zm wr ∧ Bf wr w.heap.size M.cells ∧ Only M.four w wr
theorem z_four {M : MapsB} (hM : M.Apart) : M.z ∉ M.four := by
  intro e
  simp only [MapsB.four, List.mem_cons, List.not_mem_nil, or_false] at e
  rcases e with e | e | e | e
  · exact hM.zu e
  · exact hM.za e
  · exact hM.zi e
  · exact hM.zs e
/-- A record of a row that the maps leave alone. -/
theorem only_at {S : List Nat} {l : List PodD} {w wr : World} {A : Option Addr} (hr : Recs 8 cellsP w w.heap.size A l) (hA : ∀ a, A = some a → a.block ∉ S) (hg : Only S w wr) {k : Nat} (hk : k < l.length) {p : PodD} (hp : l[k] = p) :
    ∃ b o, A = some ⟨b, o, none⟩ ∧ b < wr.heap.size ∧ ∀ j u, (cellsP p)[j]? = some u → wr.cell? ⟨b, o + k * 8 + j, none⟩ = some u := by
  obtain ⟨b, o, rfl, hb, he⟩ := hr.at hk
  refine ⟨b, o, rfl, Nat.lt_of_lt_of_le hb hg.size, fun j u hu => ?_⟩
  rw [hg.cell (p := ⟨b, o + k * 8 + j, none⟩) hb (hA ⟨b, o, none⟩ rfl)]
  exact he j u (by rw [hp]; exact hu)

set_option maxHeartbeats 6400000 in
set_option maxRecDepth 100000 in
theorem come_walk {M : MapsB} {n : Nat} {C : CntD} {zm : Int → Option Int} {l : List PodD} (hM : M.Apart) (hl : ∀ p ∈ l, p.Ok) (hC : ∀ k, (C.use k).Ok) (hzm : ∀ i z, zm i = some z → I64 z) (A : Option Addr) (m c : Nat) (hm : m = l.length) (hl4 : m ≤ 400) (hn : n + 2 * m + 2 < maxLen) (w : World) (h : CntIs M n C w) (hz : ZoneIs M.z zm w)
    (hr : Recs 8 cellsP w w.heap.size A l) (hA : ∀ a, A = some a → a.block ∉ M.four) :
    Calls Tryz.prog 31 #[M.val, .slice A m c] w fun e w' => e = .returned (.tuple #[]) ∧ CntIs M (n + 2 * m) (comesC zm C l) w' ∧ Only M.four w w' := by
  have B0 : Bf (w.alloc (.cells #[.map (some M.z), .map (some M.u), .map (some M.a), .map (some M.i), .map (some M.s)] 88)) w.heap.size M.cells := Bf.new w M.cells 88 rfl
  have k0 : Below w.heap.size w (w.alloc (.cells #[.map (some M.z), .map (some M.u), .map (some M.a), .map (some M.i), .map (some M.s)] 88)) := (Below.refl _ w).alloc (Nat.le_refl _) _
  have HM := Lib.hid hM
  have HL := Lib.hid hl
  have HC := Lib.hid hC
  have HZM := Lib.hid hzm
  have HN := Lib.hid hm
  have HR := Lib.hid hr
  have HA := Lib.hid hA
  have HNM := Lib.hid hn
  have HLT := Lib.hid (And.intro h.use.lt (And.intro h.ats.lt (And.intro h.inz.lt h.size.lt)))
  have HAT : Hid (ComeRel M n (fun k => comesC zm C (l.take k)) zm m w (.int .i64 0) (w.alloc (.cells #[.map (some M.z), .map (some M.u), .map (some M.a), .map (some M.i), .map (some M.s)] 88))) :=
    ⟨0, Nat.zero_le _, rfl, h.below k0, hz.below k0, B0, Only.of_below k0 (fun i h1 h2 => by omega)⟩
  clear hM hl hC hzm hm hr hA hn h hz B0 k0
  go_enter Tryz.func31, Tryz.ntmps31
  go_wp2
  go_loopw [10] (ComeRel M n (fun k => comesC zm C (l.take k)) zm m w) (fun v _ => m - (intOf v).toNat)
  case atStart => exact HAT.out
  case round =>
    obtain ⟨k, hk, rfl, hcn, hzn, hb, ho⟩ := hrel
    change CntIs M (n + 2 * k) (comesC zm C (l.take k)) wr at hcn
    have HCN := Lib.hid hcn
    have HZN := Lib.hid hzn
    have HB := Lib.hid hb
    have HO := Lib.hid ho
    clear HAT
    by_cases hlt : k < m
    · have hkl : k < l.length := by have := HN.out; omega
      have hpk := HL.out _ (List.getElem_mem hkl)
      generalize hp : l[k] = p at *
      obtain ⟨b, o, rfl, hbw, he⟩ := only_at HR.out HA.out ho hkl hp
      have e0 := he 0 _ rfl
      have e1 := he 1 _ rfl
      have e2 := he 2 _ rfl
      have e3 := he 3 _ rfl
      have e4 := he 4 _ rfl
      have e5 := he 5 _ rfl
      have e6 := he 6 _ rfl
      have e7 := he 7 _ rfl
      rw [Nat.add_zero] at e0
      have HST := Lib.hid (comes_take (zm := zm) (C := C) hkl hp)
      have HP := Lib.hid hpk
      have HOK : Hid (∀ i, ((comesC zm C (l.take k)).use i).Ok) := comes_okC HC.out (fun q hq => HL.out q (List.mem_of_mem_take hq))
      clear hcn hzn hb ho he hp hpk
      have ka : Below wr.heap.size wr (wr.alloc (.cells #[.int .i64 p.id, .int .i64 p.load, .int .i64 p.prio, .int .u64 p.req.a, .int .u64 p.req.b, .int .u64 p.req.c, .int .u64 p.req.d, .int .i64 p.node] 79)) := (Below.refl _ wr).alloc (Nat.le_refl _) _
      have hbp : Bf (wr.alloc (.cells #[.int .i64 p.id, .int .i64 p.load, .int .i64 p.prio, .int .u64 p.req.a, .int .u64 p.req.b, .int .u64 p.req.c, .int .u64 p.req.d, .int .i64 p.node] 79)) wr.heap.size (cellsP p) := Bf.new wr (cellsP p) 79 rfl
      have hbc := HB.out.below ka HB.out.lt
      have hcV := HCN.out.below ka
      have hzV := HZN.out.below ka
      have hoV := HO.out.trans (Only.of_below (S := M.four) ka (fun i h1 h2 => by omega))
      have hww : w.heap.size < wr.heap.size := HB.out.lt
      obtain ⟨q0, q1, q2, q3, q4, q5⟩ := hbc.cells5v
      obtain ⟨⟨b0, b1, b2, b3⟩, b4, b5, b6, b7, b8⟩ := hbp.cells8v
      go_upto_region 4 with fail
      generalize hV : (wr.alloc (.cells #[.int .i64 p.id, .int .i64 p.load, .int .i64 p.prio, .int .u64 p.req.a, .int .u64 p.req.b, .int .u64 p.req.c, .int .u64 p.req.d, .int .i64 p.node] 79)) = V at *
      generalize hg : wr.heap.size = g at *
      have HCV := Lib.hid hcV
      have HZV := Lib.hid hzV
      have HOV := Lib.hid hoV
      have HBP := Lib.hid hbp
      have HBC := Lib.hid hbc
      clear ka hbp hbc hcV hzV hoV hV e0 e1 e2 e3 e4 e5 e6 e7 HCN HZN HB HO
      have HGG := Lib.hid hg
      clear hg
      by_cases h0 : p.node = 0
      · have HST0 : Hid (comesC zm C (l.take (k + 1)) = comesC zm C (l.take k)) := by rw [HST.out, come_zero h0]; exact Lib.hid rfl
        have hd : (p.node != 0) = false := by simp [h0]
        clear h0
        go_wp2
        go_roundw
        case rel => exact ⟨k + 1, by omega, by go_num, by show CntIs M _ (comesC zm C (l.take (k + 1))) V; rw [HST0.out]; exact HCV.out.mono (by omega), HZV.out, HBC.out, HOV.out⟩
        case measure => simp [intOf]; omega
      · have HST0 : Hid (comesC zm C (l.take (k + 1)) = countC zm ⟨upd1 (comesC zm C (l.take k)).use p.node (moreV ((comesC zm C (l.take k)).use p.node) p.req), (comesC zm C (l.take k)).ats, (comesC zm C (l.take k)).inz, (comesC zm C (l.take k)).size⟩ p 1) := by rw [HST.out, come_node h0]; exact Lib.hid rfl
        have hd : (p.node != 0) = true := by simp [h0]
        have HNX := Lib.hid (show (n + 2 * k + 1) + 1 < maxLen by have := HNM.out; omega)
        generalize hcn : comesC zm C (l.take (k + 1)) = Cn at *
        have HCN := Lib.hid hcn
        clear hcn
        generalize comesC zm C (l.take k) = Ck at *
        have hl0 := use_run HCV.out HP.out.2.2.2.2
        have HAD := Lib.hid (fun w => vAdd_any (HOK.out p.node) HP.out.2.2.2.1 w)
        generalize Ck.use p.node = u at *
        generalize moreV u p.req = mv at *
        generalize errO (addV u p.req) = er at *
        clear h0 HST
        go_wp2_with fail
        refine (HAD.out _).mono ?_
        rintro e V1 ⟨rfl, hb1⟩
        have kb : Below V1.heap.size V1 (V1.alloc (.cells #[.int .u64 mv.a, .int .u64 mv.b, .int .u64 mv.c, .int .u64 mv.d] 59)) := (Below.refl _ V1).alloc (Nat.le_refl _) _
        have kc := hb1.trans (kb.mono hb1.size)
        have hbu : Bf (V1.alloc (.cells #[.int .u64 mv.a, .int .u64 mv.b, .int .u64 mv.c, .int .u64 mv.d] 59)) V1.heap.size (cellsV mv) := Bf.new V1 (cellsV mv) 59 rfl
        have hbp := HBP.out.below kc HBP.out.lt
        have hbc := HBC.out.below kc HBC.out.lt
        have HC2 := Lib.hid (HCV.out.below kc)
        have HZ2 := Lib.hid (HZV.out.below kc)
        have HO2 := Lib.hid (HOV.out.trans (Only.of_below (S := M.four) kc (fun i h1 h2 => by omega)))
        have hv1 : g < V1.heap.size := Nat.lt_of_lt_of_le HBP.out.lt hb1.size
        clear q0 q1 q2 q3 q4 q5 b0 b1 b2 b3 b4 b5 b6 b7 b8 hl0 hb1
        obtain ⟨q0, q1, q2, q3, q4, q5⟩ := hbc.cells5v
        obtain ⟨⟨b0, b1, b2, b3⟩, b4, b5, b6, b7, b8⟩ := hbp.cells8v
        obtain ⟨u0, u1, u2, u3, u4⟩ := hbu.cells4
        go_upto_region 6 with fail
        generalize hV2 : (V1.alloc (.cells #[.int .u64 mv.a, .int .u64 mv.b, .int .u64 mv.c, .int .u64 mv.d] 59)) = V2 at *
        generalize V1.heap.size = g2 at *
        have HB2 := Lib.hid (And.intro hbp hbc)
        clear kb kc hbu hbp hbc hV2 HCV HZV HOV HBP HBC HAD
        have hg2 : g ≠ M.u := by have h1 := HLT.out.1; omega
        go_upto_region 7 with (at_mapUpdate; refine wpList_update_tells _ rfl _ _ _ 84 rfl 3 59 intLaw Tryz.underlying84 zV M.u _ _ rfl HC2.out.use (by have := HNX.out; omega) _ _ _ rfl rfl (key_int HP.out.2.2.2.2) (fOne zV fun i => aggV (upd1 Ck.use p.node mv i)) (fOne_upd (g := aggV)).1 (fOne_upd (g := aggV)).2 ?_; intro V3 t3 g3)
        have hM := HM.out
        have o3 : Only [M.u] V2 V3 := Only.grown g3 (List.mem_singleton.2 rfl)
        have hC3 : CntIs M (n + 2 * k + 1) ⟨upd1 Ck.use p.node mv, Ck.ats, Ck.inz, Ck.size⟩ V3 := ⟨t3, (HC2.out.ats.kept o3 (fun e => by have h1 := List.mem_singleton.1 e; exact hM.ua h1.symm)).mono (Nat.le_succ _), (HC2.out.inz.kept o3 (fun e => by have h1 := List.mem_singleton.1 e; exact hM.ui h1.symm)).mono (Nat.le_succ _), (HC2.out.size.kept o3 (fun e => by have h1 := List.mem_singleton.1 e; exact hM.us h1.symm)).mono (Nat.le_succ _)⟩
        have hZ3 := HZ2.out.kept o3 (fun e => by have h1 := List.mem_singleton.1 e; exact hM.zu h1)
        have hlt1 := HLT.out.1
        have hbp := HB2.out.1.only o3 (fun e => by have h1 := List.mem_singleton.1 e; omega)
        have hbc := HB2.out.2.only o3 (fun e => by have h1 := List.mem_singleton.1 e; omega)
        have HCT := Lib.hid (countK_any (zm := zm) (d := 1) hM HP.out HZM.out HNX.out V3 hC3 hZ3)
        have HZ3 := Lib.hid hZ3
        have HO3 := Lib.hid (HO2.out.trans (o3.mono (by simp)))
        have HBC3 := Lib.hid hbc
        clear q0 q1 q2 q3 q4 q5 b0 b1 b2 b3 b4 b5 b6 b7 b8 u0 u1 u2 u3 u4 t3 g3 hC3 hZ3 HC2 HZ2 HO2 HB2 o3
        obtain ⟨q0, q1, q2, q3, q4, q5⟩ := hbc.cells5v
        obtain ⟨⟨b0, b1, b2, b3⟩, b4, b5, b6, b7, b8⟩ := hbp.cells8v
        clear hbp hbc
        go_wp2_with fail
        refine HCT.out.mono ?_
        rintro e V4 ⟨rfl, hc4, ho4⟩
        have hz4 := HZ3.out.kept ho4 (fun e => by
          simp only [List.mem_cons, List.not_mem_nil, or_false] at e
          have hM := HM.out
          rcases e with e | e | e
          · exact hM.za e
          · exact hM.zi e
          · exact hM.zs e)
        have hb4 := HBC3.out.only ho4 (fun e => by
          simp only [List.mem_cons, List.not_mem_nil, or_false] at e
          have h1 := HLT.out
          omega)
        have HR4 : Hid (CntIs M (n + 2 * (k + 1)) Cn V4 ∧ ZoneIs M.z zm V4 ∧ Bf V4 w.heap.size M.cells ∧ Only M.four w V4) := ⟨by rw [HST0.out]; exact hc4.mono (by omega), hz4, hb4, HO3.out.trans (ho4.mono (by simp))⟩
        clear hc4 hz4 hb4 ho4 q0 q1 q2 q3 q4 q5 b0 b1 b2 b3 b4 b5 b6 b7 b8
        go_wp2
        go_roundw
        case rel => exact ⟨k + 1, by omega, by go_num, by show CntIs M _ (comesC zm C (l.take (k + 1))) V4; rw [HCN.out]; exact HR4.out.1, HR4.out.2⟩
        case measure => simp [intOf]; omega
    · have hkm : k = m := by omega
      subst hkm
      have HE : Hid (comesC zm C (l.take k) = comesC zm C l) := by rw [List.take_of_length_le (by have := HN.out; omega)]; exact Lib.hid rfl
      clear hcn hzn hb ho
      go_wp2
      go_end0
      exact ⟨rfl, by rw [← HE.out]; exact HCN.out, HO.out⟩
end Go.Proofs.YtpfjeoldgcepnaaGreatDoor
