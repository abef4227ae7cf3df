/- Joined texts, part 14: ZC XF UK BP OP XG XH XI. -/
import Derived.Test.YtpfjeoldgcepnaaGreatDoorZ07
import Derived.Test.YtpfjeoldgcepnaaGreatDoorZ09
import Derived.Test.YtpfjeoldgcepnaaGreatDoorZ04
import Derived.Deep.RegionHeld3
import Derived.BigQuiet
import Derived.Deep.CutRange
import Derived.Test.YtpfjeoldgcepnaaGreatDoorZ12
import Derived.Test.YtpfjeoldgcepnaaGreatDoorZ11
import Derived.Test.YtpfjeoldgcepnaaGreatDoorZ03
import Derived.Test.YtpfjeoldgcepnaaGreatDoorZ10

/- How many of a load are somewhere, which load is at fault, whether a budget is used up: the reference's Size, Used, Budget of layer 9. -/
namespace Go.Proofs.YtpfjeoldgcepnaaGreatDoor
set_option linter.unusedSimpArgs false
open Go.RowKit
set_option linter.unusedVariables false

def RSizeRel (load : Int) (l : List PodD) (n i : Value) : Prop := ∃ k : Nat, k ≤ l.length ∧ n = .int .i64 (sizeD load (l.take k) : Nat) ∧ i = .int .i64 k

set_option maxHeartbeats 6400000 in
set_option maxRecDepth 100000 in
theorem rSize07_any (l : List PodD) (load : Int) (A : Option Addr) (n c : Nat) (v1 v2 : Value) (w : World) (hn : n = l.length) (hl : n ≤ 1000) (hr : Recs 8 cellsP w w.heap.size A l) :
    Calls Tryz.prog 75 #[.agg #[.slice A n c, v1, v2], .int .i64 load] w fun e w' => e = .returned (.int .i64 (sizeD load l : Nat)) ∧ Below w.heap.size w w' := by
  have HR := Lib.hid hr
  have HN := Lib.hid hn
  clear hr hn
  go_enter Tryz.func75, Tryz.ntmps75
  go_wp2
  go_loop [5, 6] (RSizeRel load l) (fun _ i => n - (intOf i).toNat)
  case atStart => exact ⟨0, by omega, by simp [sizeD], rfl⟩
  case round =>
    obtain ⟨k, hk, rfl, rfl⟩ := hrel
    by_cases hlt : k < n
    · have hkl : k < l.length := by have := HN.out; omega
      obtain ⟨b, o, rfl, hb, he⟩ := HR.out.at hkl
      have hq : sizeD load (l.take k) ≤ 1000 := by have := size_le9 load (l.take k); simp at this; omega
      have HI := Lib.hid (fun h1 h2 => size_in9 (load := load) hkl rfl h1 h2)
      have HO := Lib.hid (fun h1 => size_out9 (load := load) hkl rfl h1)
      generalize l[k] = p at *
      generalize sizeD load (l.take k) = q at *
      have e1 : w.cell? ⟨b, o + k * 8 + 1, none⟩ = some (.int .i64 p.load) := he 1 _ rfl
      have e7 : w.cell? ⟨b, o + k * 8 + 7, none⟩ = some (.int .i64 p.node) := he 7 _ rfl
      clear he
      by_cases h1 : p.load = load
      · have d1 : (p.load == load) = true := by simp [h1]
        by_cases h2 : p.node = 0
        · have d2 : (p.node != 0) = false := by simp [h2]
          have HE := Lib.hid (HO.out (fun _ => h2))
          clear h1 h2
          go_wp2
          go_round
          case rel => exact ⟨k + 1, by omega, by rw [HE.out], by go_num⟩
          case measure => simp [intOf]; omega
        · have d2 : (p.node != 0) = true := by simp [h2]
          have HE := Lib.hid (HI.out h1 h2)
          clear h1 h2
          go_wp2
          go_round
          case rel => exact ⟨k + 1, by omega, by rw [HE.out]; exact congrArg (Value.int IntKind.i64) (by omega), by go_num⟩
          case measure => simp [intOf]; omega
      · have d1 : (p.load == load) = false := by simp [h1]
        have HE := Lib.hid (HO.out (fun e => absurd e h1))
        clear h1
        go_wp2
        go_round
        case rel => exact ⟨k + 1, by omega, by rw [HE.out], by go_num⟩
        case measure => simp [intOf]; omega
    · have HE := Lib.hid (size_end9 (load := load) (l := l) (k := k) (by have := HN.out; omega))
      go_wp2
      go_ret
      exact ⟨ret_int (by rw [HE.out]), (Below.refl _ _).alloc (Nat.le_refl _) _⟩

set_option maxHeartbeats 3200000 in
theorem rUsed07_any (A4 A5 : Option Addr) (n4 c4 n5 c5 : Nat) (x1 x2 t1 t2 : Int) (w : World) :
    Calls Tryz.prog 40 #[.agg #[.slice A5 n5 c5, .int .i64 x1, .int .i64 x2], .agg #[.slice A4 n4 c4, .int .i64 t1, .int .i64 t2]] w fun e w' => e = .returned (.bool (usedD x1 x2 t1 t2)) ∧ Below w.heap.size w w' := by
  have b00 := below_two w (.cells #[.slice A5 n5 c5, .int .i64 x1, .int .i64 x2] 29) (.cells #[.slice A4 n4 c4, .int .i64 t1, .int .i64 t2] 42)
  by_cases h1 : x1 < t1
  · have HE := Lib.hid (show usedD x1 x2 t1 t2 = true by simp [usedD, h1])
    have d1 : decide (x1 < t1) = true := decide_eq_true h1
    clear h1
    go_enter Tryz.func40, Tryz.ntmps40
    go_wp2
    go_ret
    exact ⟨ret_bool HE.out.symm, b00⟩
  · have d1 : decide (x1 < t1) = false := decide_eq_false h1
    have HE := Lib.hid (show usedD x1 x2 t1 t2 = decide (x2 < t2) by simp [usedD, h1])
    clear h1
    go_enter Tryz.func40, Tryz.ntmps40
    go_wp2
    go_ret
    exact ⟨ret_bool HE.out.symm, b00⟩

theorem ret_pair9 {p : Int × Int} {a b : Int} (h : p = (a, b)) : Ending.returned (.tuple #[.int .i64 a, .int .i64 b]) = .returned (.tuple #[.int .i64 p.1, .int .i64 p.2]) := by rw [h]
def RBudgetRel (ls : List LoadD) (l : List PodD) (a b : List Value) (w : World) (v : Value) (wr : World) : Prop := ∃ k : Nat, k ≤ ls.length ∧ v = .int .i64 k ∧ budgetFrom l (ls.drop k) k = budgetOf ls l ∧ T2 a b w wr

set_option maxHeartbeats 6400000 in
set_option maxRecDepth 100000 in
theorem rBudget07_any (ls : List LoadD) (l : List PodD) (A1 A2 A4 : Option Addr) (n1 c1 n2 c2 n4 c4 : Nat) (s3 v1 v2 : Value) (w : World)
    (hn2 : n2 = ls.length) (hl2 : n2 ≤ 400) (hr2 : Recs 5 cellsL w w.heap.size A2 ls) (hn4 : n4 = l.length) (hl4 : n4 ≤ 400) (hr4 : Recs 8 cellsP w w.heap.size A4 l) :
    Calls Tryz.prog 39 #[.agg #[.slice A1 n1 c1, .slice A2 n2 c2, s3], .agg #[.slice A4 n4 c4, v1, v2]] w fun e w' => e = .returned (.tuple #[.int .i64 (budgetOf ls l).1, .int .i64 (budgetOf ls l).2]) ∧ Below w.heap.size w w' := by
  have T0 := T2.new w [.slice A1 n1 c1, .slice A2 n2 c2, s3] [.slice A4 n4 c4, v1, v2] 26 42
  have HN2 := Lib.hid hn2
  have HR2 := Lib.hid hr2
  have HC := Lib.hid (fun (V : World) (hV : Below w.heap.size w V) (id : Int) => rSize07_any l id A4 n4 c4 v1 v2 V hn4 (by omega) ((hr4.below hV (Nat.le_refl _)).more hV.size))
  have HQ := Lib.hid (fun (id : Int) => (show sizeD id l ≤ 400 by have := size_le9 id l; omega))
  have HT0 := Lib.hid T0
  clear hr2 hn2 hr4 hn4 T0
  go_enter Tryz.func39, Tryz.ntmps39
  go_wp2
  go_loopw [6] (RBudgetRel ls l [.slice A1 n1 c1, .slice A2 n2 c2, s3] [.slice A4 n4 c4, v1, v2] w) (fun v _ => n2 - (intOf v).toNat)
  case atStart => exact ⟨0, by omega, rfl, rfl, HT0.out⟩
  case round =>
    obtain ⟨k, hk, rfl, hp, T1⟩ := hrel
    have HP := Lib.hid hp
    have HT1 := Lib.hid T1
    obtain ⟨a0, a1, a2, a3⟩ := T1.one.cells3
    obtain ⟨b0, b1, b2, b3⟩ := T1.two.cells3
    have kwr := T1.below
    clear hp
    by_cases hlt : k < n2
    · have hkl : k < ls.length := by have := HN2.out; omega
      obtain ⟨b, o, rfl, hb, he⟩ := HR2.out.at hkl
      generalize hx : ls[k] = x at *
      have HX := Lib.hid (budgetFrom_at hkl hx HP.out)
      clear hx
      have e0 : wr.cell? ⟨b, o + k * 5, none⟩ = some (.int .i64 x.id) := (kwr.cell (p := ⟨b, o + k * 5, none⟩) hb).trans (he 0 _ rfl)
      have hbw : b < wr.heap.size := Nat.lt_of_lt_of_le hb kwr.size
      have HE3 : Hid (∀ V, Below wr.heap.size wr V → V.cell? ⟨b, o + k * 5 + 3, none⟩ = some (.int .i64 x.min) ∧ V.cell? ⟨b, o + k * 5 + 4, none⟩ = some (.int .i64 x.max)) := fun V hV => ⟨(hV.cell (p := ⟨b, o + k * 5 + 3, none⟩) hbw).trans ((kwr.cell (p := ⟨b, o + k * 5 + 3, none⟩) hb).trans (he 3 _ rfl)), (hV.cell (p := ⟨b, o + k * 5 + 4, none⟩) hbw).trans ((kwr.cell (p := ⟨b, o + k * 5 + 4, none⟩) hb).trans (he 4 _ rfl))⟩
      have HCW : Hid (∀ V : World, Keeps wr V → Calls Tryz.prog 75 #[.agg #[.slice A4 n4 c4, v1, v2], .int .i64 x.id] V fun e w' => e = .returned (.int .i64 (sizeD x.id l : Nat)) ∧ Below V.heap.size V w') := fun V hV => HC.out V (HT1.out.below.trans (hV.2.mono HT1.out.below.size)) x.id
      have hq := HQ.out x.id
      generalize sizeD x.id l = z at *
      clear he T1 kwr
      go_wp2_with fail
      go_region_held3 (fun w' => (∀ b o, b < wr.heap.size → w'.cell? ⟨b, o, none⟩ = wr.cell? ⟨b, o, none⟩) ∧ Below wr.heap.size wr w')
        (first | (with_reducible assumption) | (show Keeps wr _; with_reducible (repeat (first | exact Keeps.refl _ | assumption | refine Keeps.drew ?_ | refine Keeps.alloc ?_ _ | refine Keeps.step ?_ (by assumption)))))
        (first | (go_at_call 75; refine (HCW.out _ (by assumption)).mono ?_; rintro e w' ⟨rfl, hb⟩))
      rename_i hK
      have TV := HT1.out.keep hK.2
      have HTV := Lib.hid TV
      have kV := TV.below
      obtain ⟨e3, e4⟩ := HE3.out _ hK.2
      have hbV : b < w'.heap.size := Nat.lt_of_lt_of_le hbw hK.2.size
      clear hK a0 a1 a2 a3 b0 b1 b2 b3 HCW e0 hbw
      obtain ⟨a0, a1, a2, a3⟩ := TV.one.cells3
      clear TV
      by_cases h1 : (z : Int) < x.min
      · have d1 : decide ((z : Int) < x.min) = true := decide_eq_true h1
        have HN := Lib.hid (HX.out.1 (by rw [fault9_few h1]; decide))
        rw [fault9_few h1] at HN
        clear h1
        go_wp2
        go_ret2
        exact ⟨ret_pair9 HN.out, kV⟩
      · have d1 : decide ((z : Int) < x.min) = false := decide_eq_false h1
        by_cases h2 : x.max < (z : Int)
        · have d2 : decide (x.max < (z : Int)) = true := decide_eq_true h2
          have HN := Lib.hid (HX.out.1 (by rw [fault9_many h1 h2]; decide))
          rw [fault9_many h1 h2] at HN
          clear h1 h2
          go_wp2
          go_ret2
          exact ⟨ret_pair9 HN.out, kV⟩
        · have d2 : decide (x.max < (z : Int)) = false := decide_eq_false h2
          have HN := Lib.hid (HX.out.2 (fault9_none h1 h2))
          clear h1 h2
          go_wp2
          go_roundw
          case rel => exact ⟨k + 1, by omega, by go_num, HN.out, HTV.out⟩
          case measure => simp [intOf]; omega
    · have HE := Lib.hid (budgetFrom_end (by have := HN2.out; omega) HP.out)
      clear T1
      go_wp2
      go_ret2
      exact ⟨ret_pair9 HE.out, kwr⟩
end Go.Proofs.YtpfjeoldgcepnaaGreatDoor

/- The reference's two and Apart of layer 7. -/
namespace Go.Proofs.YtpfjeoldgcepnaaGreatDoor
set_option linter.unusedSimpArgs false
open Go.RowKit
set_option linter.unusedVariables false

theorem T3.cells8 {x y : PodD} {a : List Value} {w V : World} (h : T3 a (cellsP x) (cellsP y) w V) :
    ((V.cell? ⟨w.heap.size + 1, 1, none⟩ = some (.int .i64 x.load) ∧ V.cell? ⟨w.heap.size + 1, 4, none⟩ = some (.int .u64 x.req.b) ∧ V.cell? ⟨w.heap.size + 1, 7, none⟩ = some (.int .i64 x.node) ∧ w.heap.size + 1 < V.heap.size) ∧
    (V.cell? ⟨w.heap.size + 2, 1, none⟩ = some (.int .i64 y.load) ∧ V.cell? ⟨w.heap.size + 2, 7, none⟩ = some (.int .i64 y.node) ∧ w.heap.size + 2 < V.heap.size)) :=
  ⟨⟨h.two.cell 1 _ rfl, h.two.cell 4 _ rfl, h.two.cell 7 _ rfl, h.two.lt⟩, h.three.cell 1 _ rfl, h.three.cell 7 _ rfl, h.three.lt⟩
theorem clashD_noload {ls : List LoadD} {a b : PodD} (h : place LoadD.id a.load ls 0 < 0) : clashD ls a b = false := by
  unfold clashD; rw [apartD_no (by omega) h]; simp
theorem clashD_load {ls : List LoadD} {a b : PodD} (h : a.load ≠ b.load) : clashD ls a b = false := by
  unfold clashD; rw [beq_eq_false_iff_ne.2 h]; simp
theorem clashD_zero {ls : List LoadD} {a b : PodD} (h : a.node = 0) : clashD ls a b = false := by
  unfold clashD; rw [h]; rfl
theorem clashD_node {ls : List LoadD} {a b : PodD} (h : a.node ≠ b.node) : clashD ls a b = false := by
  unfold clashD; rw [beq_eq_false_iff_ne.2 h]; simp
theorem clashD_last {ls : List LoadD} {a b : PodD} {i : Nat} (hi : i < ls.length) (hp : place LoadD.id a.load ls 0 = i) (h1 : a.load = b.load) (h2 : a.node ≠ 0) (h3 : a.node = b.node) : clashD ls a b = ls[i].apart := by
  unfold clashD
  rw [apartD_yes hi (by rw [hp]; omega) (by omega)]
  simp [h1, h3, bne_iff_ne.2 (h3 ▸ h2)]

set_option maxHeartbeats 3200000 in
set_option maxRecDepth 100000 in
theorem rTwo07_any (ls : List LoadD) (a b : PodD) (A2 : Option Addr) (n2 c2 : Nat) (s1 s3 : Value) (w : World) (hn2 : n2 = ls.length) (hl2 : n2 ≤ 400) (hr2 : Recs 5 cellsL w w.heap.size A2 ls) :
    Calls Tryz.prog 73 #[.agg #[s1, .slice A2 n2 c2, s3], aggP a, aggP b] w fun e w' => e = .returned (.bool (clashD ls a b)) ∧ Below w.heap.size w w' := by
  have T0 : T3 [s1, .slice A2 n2 c2, s3] (cellsP a) (cellsP b) w (((w.alloc (.cells #[s1, .slice A2 n2 c2, s3] 26)).alloc (.cells #[.int .i64 a.id, .int .i64 a.load, .int .i64 a.prio, .int .u64 a.req.a, .int .u64 a.req.b, .int .u64 a.req.c, .int .u64 a.req.d, .int .i64 a.node] 79)).alloc (.cells #[.int .i64 b.id, .int .i64 b.load, .int .i64 b.prio, .int .u64 b.req.a, .int .u64 b.req.b, .int .u64 b.req.c, .int .u64 b.req.d, .int .i64 b.node] 79)) :=
    T3.new w [s1, .slice A2 n2 c2, s3] (cellsP a) (cellsP b) 26 79 79
  have HR := Lib.hid (fun (V : World) (hV : Below w.heap.size w V) => (hr2.below hV (Nat.le_refl _)).more hV.size)
  have HC := Lib.hid (fun (V : World) (hV : Below w.heap.size w V) => rLoad_any ls a.load A2 n2 c2 V.heap.size s1 s3 V hn2 (by omega) (Nat.le_refl _) (HR.out V hV))
  have HT0 := Lib.hid T0
  have HN2 := Lib.hid hn2
  have H0 := Lib.hid (clashD_noload (ls := ls) (a := a) (b := b))
  have H1 := Lib.hid (clashD_load (ls := ls) (a := a) (b := b))
  have H2 := Lib.hid (clashD_zero (ls := ls) (a := a) (b := b))
  have H3 := Lib.hid (clashD_node (ls := ls) (a := a) (b := b))
  have H4 := Lib.hid (fun i hi hp => clashD_last (ls := ls) (a := a) (b := b) (i := i) hi hp)
  have HPG := Lib.hid (place_ge (f := LoadD.id) (id := a.load) (l := ls) (k := 0) (by omega))
  generalize place LoadD.id a.load ls 0 = pl at *
  generalize clashD ls a b = r at *
  clear T0 hn2 hr2
  go_enter Tryz.func73, Tryz.ntmps73
  go_wp2_with fail
  refine (HC.out _ HT0.out.below).mono ?_
  rintro e w1 ⟨rfl, hb1⟩
  have T1 := HT0.out.keep hb1
  have HT1 := Lib.hid T1
  obtain ⟨a0, a1, a2, a3⟩ := T1.one.cells3
  obtain ⟨⟨b0, b1, b2, b3⟩, d0, d1, d2⟩ := T1.cells8
  clear hb1 T1 HT0 HC
  by_cases hp : pl < 0
  · have HE := Lib.hid (H0.out hp)
    have hd : decide (pl < 0) = true := decide_eq_true hp
    clear hp
    go_wp2
    go_ret
    exact ⟨ret_bool HE.out.symm, HT1.out.below⟩
  obtain ⟨i, rfl⟩ : ∃ i : Nat, pl = i := ⟨pl.toNat, by omega⟩
  have hi : i < ls.length := by have := HPG.out; omega
  have hd : decide ((i : Int) < 0) = false := decide_eq_false hp
  by_cases h1 : a.load = b.load
  case neg =>
    have HE := Lib.hid (H1.out h1)
    have hd1 : (a.load != b.load) = true := by simp [h1]
    clear h1 hp
    go_wp2
    go_ret
    exact ⟨ret_bool HE.out.symm, HT1.out.below⟩
  have hd1 : (a.load != b.load) = false := by simp [h1]
  by_cases h2 : a.node = 0
  · have HE := Lib.hid (H2.out h2)
    have hd2 : (a.node == 0) = true := by simp [h2]
    clear h1 h2 hp
    go_wp2
    go_ret
    exact ⟨ret_bool HE.out.symm, HT1.out.below⟩
  have hd2 : (a.node == 0) = false := by simp [h2]
  by_cases h3 : a.node = b.node
  case neg =>
    have HE := Lib.hid (H3.out h3)
    have hd3 : (a.node != b.node) = true := by simp [h3]
    clear h1 h2 h3 hp
    go_wp2
    go_ret
    exact ⟨ret_bool HE.out.symm, HT1.out.below⟩
  have hd3 : (a.node != b.node) = false := by simp [h3]
  have HE := Lib.hid (H4.out i hi rfl h1 h2 h3)
  obtain ⟨g, o, rfl, hg, he⟩ := (HR.out _ HT1.out.below).at hi
  have hin : i < n2 := by have := HN2.out; omega
  generalize ls[i] = x at *
  have e1 : w1.cell? ⟨g, o + i * 5 + 1, none⟩ = some (.bool x.apart) := he 1 _ rfl
  have hi0 : (0 : Int) ≤ (i : Int) := by omega
  have hi1 : (i : Int) < (n2 : Int) := by omega
  clear he h1 h2 h3 hp
  go_wp2
  go_ret
  exact ⟨ret_bool HE.out.symm, HT1.out.below⟩

theorem any_next {f : PodD → Bool} {l : List PodD} {q : Nat} (h : q < l.length) {y : PodD} (hy : l[q] = y) : (l.take (q + 1)).any f = ((l.take q).any f || f y) := by
  rw [List.take_succ_eq_append_getElem h, hy]; simp
theorem any_more {f : PodD → Bool} {l : List PodD} {q k : Nat} (h : q < l.length) {y : PodD} (hy : l[q] = y) (hqk : q < k) (hf : f y = true) : (l.take k).any f = true := by
  rw [List.any_eq_true]
  refine ⟨y, ?_, hf⟩
  rw [← hy]
  exact List.mem_take_iff_getElem.2 ⟨q, by omega, rfl⟩
def RApartRel (ls : List LoadD) (l : List PodD) (a b : List Value) (w : World) (v : Value) (wr : World) : Prop := ∃ k : Nat, k ≤ l.length ∧ v = .int .i64 k ∧ apartFrom ls l (l.drop k) k = apartOf ls l ∧ T2 a b w wr
def RApartIn (ls : List LoadD) (l : List PodD) (p : PodD) (k : Nat) (a b : List Value) (w : World) (v : Value) (wr : World) : Prop := ∃ q : Nat, q ≤ k ∧ v = .int .i64 q ∧ (l.take q).any (clashD ls p) = false ∧ T2 a b w wr

set_option maxHeartbeats 12800000 in
set_option maxRecDepth 100000 in
theorem rApart07_any (ls : List LoadD) (l : List PodD) (A2 A4 : Option Addr) (n2 c2 n4 c4 : Nat) (s1 s3 v1 v2 : Value) (w : World)
    (hn2 : n2 = ls.length) (hl2 : n2 ≤ 400) (hr2 : Recs 5 cellsL w w.heap.size A2 ls) (hn4 : n4 = l.length) (hl4 : n4 ≤ 400) (hr4 : Recs 8 cellsP w w.heap.size A4 l) :
    Calls Tryz.prog 37 #[.agg #[s1, .slice A2 n2 c2, s3], .agg #[.slice A4 n4 c4, v1, v2]] w fun e w' => e = .returned (.int .i64 (apartOf ls l).2) ∧ Below w.heap.size w w' := by
  have T0 := T2.new w [s1, .slice A2 n2 c2, s3] [.slice A4 n4 c4, v1, v2] 26 42
  have HN4 := Lib.hid hn4
  have HR4 := Lib.hid hr4
  have HC := Lib.hid (fun (V : World) (hV : Below w.heap.size w V) (x y : PodD) => rTwo07_any ls x y A2 n2 c2 s1 s3 V hn2 hl2 ((hr2.below hV (Nat.le_refl _)).more hV.size))
  have HT0 := Lib.hid T0
  clear hr2 hn2 hr4 hn4 T0
  go_enter Tryz.func37, Tryz.ntmps37
  go_wp2
  go_loopw [5] (RApartRel ls l [s1, .slice A2 n2 c2, s3] [.slice A4 n4 c4, v1, v2] w) (fun v _ => n4 - (intOf v).toNat)
  case atStart => exact ⟨0, by omega, rfl, rfl, HT0.out⟩
  case round =>
    obtain ⟨k, hk, rfl, hp, T1⟩ := hrel
    have HP := Lib.hid hp
    have HT1 := Lib.hid T1
    obtain ⟨b0, b1, b2, b3⟩ := T1.two.cells3
    clear hp
    by_cases hlt : k < n4
    · have hkl : k < l.length := by have := HN4.out; omega
      generalize hx : l[k] = x at *
      have HX := Lib.hid (apartFrom_at hkl hx HP.out)
      have HXX := Lib.hid hx
      clear hx T1 HP
      go_wp2
      go_loopw [6] (RApartIn ls l x k [s1, .slice A2 n2 c2, s3] [.slice A4 n4 c4, v1, v2] w) (fun v _ => k - (intOf v).toNat)
      case atStart => exact ⟨0, by omega, rfl, by simp, HT1.out⟩
      case round =>
        clear b0 b1 b2 b3 HT1
        obtain ⟨q, hq, rfl, hany, T2'⟩ := hrel
        have HANY := Lib.hid hany
        have HT2 := Lib.hid T2'
        obtain ⟨a0, a1, a2, a3⟩ := T2'.one.cells3
        obtain ⟨b0, b1, b2, b3⟩ := T2'.two.cells3
        have kwr := T2'.below
        clear hany T2'
        by_cases hqk : q < k
        · have hql : q < l.length := by omega
          obtain ⟨b, o, rfl, hb, he⟩ := HR4.out.at hkl
          obtain ⟨b', o', hA', hb', hf⟩ := HR4.out.at hql
          injection hA' with hA'
          injection hA' with h1 h2 _
          subst h1 h2
          rw [HXX.out] at he
          have HNX := Lib.hid (fun y hy => any_next (f := clashD ls x) (y := y) hql hy)
          have HMO := Lib.hid (fun y hy => any_more (f := clashD ls x) (y := y) hql hy hqk)
          generalize hy : l[q] = y at *
          have HNX' := Lib.hid (HNX.out y rfl)
          have HMO' := Lib.hid (HMO.out y rfl)
          have e0 : wr.cell? ⟨b, o + k * 8, none⟩ = some (.int .i64 x.id) := (kwr.cell (p := ⟨b, o + k * 8, none⟩) hb).trans (he 0 _ rfl)
          have e1 : wr.cell? ⟨b, o + k * 8 + 1, none⟩ = some (.int .i64 x.load) := (kwr.cell (p := ⟨b, o + k * 8 + 1, none⟩) hb).trans (he 1 _ rfl)
          have e2 : wr.cell? ⟨b, o + k * 8 + 2, none⟩ = some (.int .i64 x.prio) := (kwr.cell (p := ⟨b, o + k * 8 + 2, none⟩) hb).trans (he 2 _ rfl)
          have e3 : wr.cell? ⟨b, o + k * 8 + 3, none⟩ = some (.int .u64 x.req.a) := (kwr.cell (p := ⟨b, o + k * 8 + 3, none⟩) hb).trans (he 3 _ rfl)
          have e4 : wr.cell? ⟨b, o + k * 8 + 4, none⟩ = some (.int .u64 x.req.b) := (kwr.cell (p := ⟨b, o + k * 8 + 4, none⟩) hb).trans (he 4 _ rfl)
          have e5 : wr.cell? ⟨b, o + k * 8 + 5, none⟩ = some (.int .u64 x.req.c) := (kwr.cell (p := ⟨b, o + k * 8 + 5, none⟩) hb).trans (he 5 _ rfl)
          have e6 : wr.cell? ⟨b, o + k * 8 + 6, none⟩ = some (.int .u64 x.req.d) := (kwr.cell (p := ⟨b, o + k * 8 + 6, none⟩) hb).trans (he 6 _ rfl)
          have e7 : wr.cell? ⟨b, o + k * 8 + 7, none⟩ = some (.int .i64 x.node) := (kwr.cell (p := ⟨b, o + k * 8 + 7, none⟩) hb).trans (he 7 _ rfl)
          have f0 : wr.cell? ⟨b, o + q * 8, none⟩ = some (.int .i64 y.id) := (kwr.cell (p := ⟨b, o + q * 8, none⟩) hb).trans (hf 0 _ rfl)
          have f1 : wr.cell? ⟨b, o + q * 8 + 1, none⟩ = some (.int .i64 y.load) := (kwr.cell (p := ⟨b, o + q * 8 + 1, none⟩) hb).trans (hf 1 _ rfl)
          have f2 : wr.cell? ⟨b, o + q * 8 + 2, none⟩ = some (.int .i64 y.prio) := (kwr.cell (p := ⟨b, o + q * 8 + 2, none⟩) hb).trans (hf 2 _ rfl)
          have f3 : wr.cell? ⟨b, o + q * 8 + 3, none⟩ = some (.int .u64 y.req.a) := (kwr.cell (p := ⟨b, o + q * 8 + 3, none⟩) hb).trans (hf 3 _ rfl)
          have f4 : wr.cell? ⟨b, o + q * 8 + 4, none⟩ = some (.int .u64 y.req.b) := (kwr.cell (p := ⟨b, o + q * 8 + 4, none⟩) hb).trans (hf 4 _ rfl)
          have f5 : wr.cell? ⟨b, o + q * 8 + 5, none⟩ = some (.int .u64 y.req.c) := (kwr.cell (p := ⟨b, o + q * 8 + 5, none⟩) hb).trans (hf 5 _ rfl)
          have f6 : wr.cell? ⟨b, o + q * 8 + 6, none⟩ = some (.int .u64 y.req.d) := (kwr.cell (p := ⟨b, o + q * 8 + 6, none⟩) hb).trans (hf 6 _ rfl)
          have f7 : wr.cell? ⟨b, o + q * 8 + 7, none⟩ = some (.int .i64 y.node) := (kwr.cell (p := ⟨b, o + q * 8 + 7, none⟩) hb).trans (hf 7 _ rfl)
          have hbw : b < wr.heap.size := Nat.lt_of_lt_of_le hb kwr.size
          have hk0 : (0 : Int) ≤ (k : Int) := by omega
          have hk1 : (k : Int) < (n4 : Int) := by omega
          have hq0 : (0 : Int) ≤ (q : Int) := by omega
          have hq1 : (q : Int) < (n4 : Int) := by omega
          have HCW : Hid (∀ V : World, Keeps wr V → Calls Tryz.prog 73 #[.agg #[s1, .slice A2 n2 c2, s3], aggP x, aggP y] V fun e w' => e = .returned (.bool (clashD ls x y)) ∧ Below V.heap.size V w') := fun V hV => HC.out V (HT2.out.below.trans (hV.2.mono HT2.out.below.size)) x y
          generalize clashD ls x y = r at *
          clear he hf hy kwr HNX HMO
          go_wp2
          go_region_held3 (fun w' => (∀ b o, b < wr.heap.size → w'.cell? ⟨b, o, none⟩ = wr.cell? ⟨b, o, none⟩) ∧ Below wr.heap.size wr w')
            (first | (with_reducible assumption) | (show Keeps wr _; with_reducible (repeat (first | exact Keeps.refl _ | assumption | refine Keeps.drew ?_ | refine Keeps.alloc ?_ _ | refine Keeps.step ?_ (by assumption)))))
            (first | (go_at_call 73; refine (HCW.out _ (by assumption)).mono ?_; rintro e w' ⟨rfl, hb5⟩))
          rename_i hK
          have HT5 := Lib.hid (HT2.out.keep hK.2)
          clear hK a0 a1 a2 a3 b0 b1 b2 b3 e0 e1 e2 e3 e4 e5 e6 e7 f0 f1 f2 f3 f4 f5 f6 f7 HCW
          cases r with
          | true =>
            have HE := Lib.hid (HX.out.1 (HMO'.out rfl))
            go_wp2
            go_ret
            exact ⟨ret_int (by rw [HE.out]), HT5.out.below⟩
          | false =>
            go_wp2
            go_roundw
            case rel => exact ⟨q + 1, by omega, by go_num, by rw [HNX'.out, HANY.out]; rfl, HT5.out⟩
            case measure => simp [intOf]; omega
        · obtain rfl : q = k := by omega
          have HE := Lib.hid (HX.out.2 HANY.out)
          clear kwr
          go_wp2
          go_roundw
          case rel => exact ⟨q + 1, by omega, by go_num, HE.out, HT2.out⟩
          case measure => simp [intOf]; omega
    · have HE := Lib.hid (apartFrom_end (by have := HN4.out; omega) HP.out)
      have kwr := T1.below
      clear T1
      go_wp2
      go_ret
      exact ⟨ret_int (by rw [HE.out]), kwr⟩
end Go.Proofs.YtpfjeoldgcepnaaGreatDoor

/- The heads of layer 5's laws: few of all, and the document's examples. -/
namespace Go.Proofs.YtpfjeoldgcepnaaGreatDoor
set_option linter.unusedSimpArgs false
open Go.RowKit
set_option linter.unusedVariables false

theorem recs_one {α : Type} {cells : α → List Value} {size : Nat} (w : World) (y : α) (t : TypeId) {g : Nat} (hg : g = w.heap.size) : Recs size cells (w.alloc (.cells (cells y).toArray t)) (g + 1) (some ⟨g, 0, none⟩) [y] := by
  subst hg
  refine .inr ⟨w.heap.size, 0, rfl, by omega, fun i hi j u hu => ?_⟩
  obtain rfl : i = 0 := by simpa using hi
  simp at hu ⊢
  exact hu
theorem Out.alloc {α : Type} {size : Nat} {cells : α → List Value} {w : World} {xs : List α} {A : Option Addr} {c : Nat} (h : Out size cells w xs A c) (o : Obj) : Out size cells (w.alloc o) xs A c :=
  ⟨h.1, h.2.1, h.2.2.1, (h.2.2.2.below ((Below.refl _ w).alloc (Nat.le_refl _) o) (Nat.le_refl _)).more (by simp)⟩
end Go.Proofs.YtpfjeoldgcepnaaGreatDoor

/- The head of layer 7's laws: the document's example, and two pods that clash. -/
namespace Go.Proofs.YtpfjeoldgcepnaaGreatDoor
set_option linter.unusedSimpArgs false
open Go.RowKit
set_option linter.unusedVariables false

end Go.Proofs.YtpfjeoldgcepnaaGreatDoor

/- The head of layer 11's laws: a load of which there are too few and a budget that is used up; nothing at all is safe. -/
namespace Go.Proofs.YtpfjeoldgcepnaaGreatDoor
set_option linter.unusedSimpArgs false
open Go.RowKit
set_option linter.unusedVariables false

abbrev cellZ (z : Int) : List Value := [.int .i64 z]
theorem flat_cellZ : ∀ zs : List Int, zs.flatMap cellZ = i64s zs
  | [] => rfl
  | z :: r => by rw [List.flatMap_cons, flat_cellZ r]; rfl
theorem recs_codes {w : World} {B n : Nat} {e : TypeId} {v : Value} {zs : List Int} (hn : n = zs.length) (h : w.ownsRow B e 1 v n (i64s zs)) : ∃ A c, v = .slice A n c ∧ Recs 1 cellZ w w.heap.size A zs := by
  subst hn
  obtain ⟨A, c, h1, _, _, _, h2⟩ := recs_of_own (cells := cellZ) (size := 1) (fun _ => rfl) rfl (by rw [flat_cellZ]; exact h)
  exact ⟨A, c, h1, h2⟩
end Go.Proofs.YtpfjeoldgcepnaaGreatDoor

/- The reference's Count, Skew and Spread of layer 8. -/
namespace Go.Proofs.YtpfjeoldgcepnaaGreatDoor
set_option linter.unusedSimpArgs false
open Go.RowKit
set_option linter.unusedVariables false

def RCountRel (ns : List NodeD) (load z : Int) (l : List PodD) (a b : List Value) (w : World) (v i : Value) (wr : World) : Prop := ∃ k : Nat, k ≤ l.length ∧ v = .int .i64 (countD ns load z (l.take k) : Nat) ∧ i = .int .i64 k ∧ T2 a b w wr

set_option maxHeartbeats 6400000 in
set_option maxRecDepth 100000 in
theorem rCount07_any (ns : List NodeD) (l : List PodD) (load z : Int) (A1 A4 : Option Addr) (n1 c1 n4 c4 : Nat) (s2 s3 v1 v2 : Value) (w : World)
    (hn1 : n1 = ns.length) (hl1 : n1 ≤ 400) (hr1 : Recs 10 cellsN w w.heap.size A1 ns) (hn4 : n4 = l.length) (hl4 : n4 ≤ 400) (hr4 : Recs 8 cellsP w w.heap.size A4 l) :
    Calls Tryz.prog 117 #[.agg #[.slice A1 n1 c1, s2, s3], .agg #[.slice A4 n4 c4, v1, v2], .int .i64 load, .int .i64 z] w fun e w' => e = .returned (.int .i64 (countD ns load z l : Nat)) ∧ Below w.heap.size w w' := by
  have T0 := T2.new w [.slice A1 n1 c1, s2, s3] [.slice A4 n4 c4, v1, v2] 26 42
  have HN1 := Lib.hid hn1
  have HN4 := Lib.hid hn4
  have HR1 := Lib.hid (fun (V : World) (hV : Below w.heap.size w V) => (hr1.below hV (Nat.le_refl _)).more hV.size)
  have HR4 := Lib.hid hr4
  have HC := Lib.hid (fun (V : World) (hV : Below w.heap.size w V) (id : Int) => rNode_any ns id A1 n1 c1 V.heap.size s2 s3 V hn1 (by omega) (Nat.le_refl _) (HR1.out V hV))
  have HPG := Lib.hid (fun id : Int => place_ge (f := NodeD.id) (id := id) (l := ns) (k := 0) (by omega))
  have HT0 := Lib.hid T0
  clear hr1 hn1 hr4 hn4 T0
  go_enter Tryz.func117, Tryz.ntmps117
  go_wp2
  go_loopw [9, 10] (RCountRel ns load z l [.slice A1 n1 c1, s2, s3] [.slice A4 n4 c4, v1, v2] w) (fun _ i _ => n4 - (intOf i).toNat)
  case atStart => exact ⟨0, by omega, by simp [countD], rfl, HT0.out⟩
  case round =>
    obtain ⟨k, hk, rfl, rfl, T1⟩ := hrel
    have HT1 := Lib.hid T1
    obtain ⟨b0, b1, b2, b3⟩ := T1.two.cells3
    have kwr := T1.below
    by_cases hlt : k < n4
    · have hkl : k < l.length := by have := HN4.out; omega
      obtain ⟨b, o, rfl, hb, he⟩ := HR4.out.at hkl
      have hq : countD ns load z (l.take k) ≤ 400 := by have := count_le ns load z (l.take k); simp at this; omega
      generalize hx : l[k] = p at *
      have HNX := Lib.hid (count_next (ns := ns) (load := load) (z := z) hkl hx)
      generalize countD ns load z (l.take k) = q at *
      have e0 : wr.cell? ⟨b, o + k * 8, none⟩ = some (.int .i64 p.id) := (kwr.cell (p := ⟨b, o + k * 8, none⟩) hb).trans (he 0 _ rfl)
      have e1 : wr.cell? ⟨b, o + k * 8 + 1, none⟩ = some (.int .i64 p.load) := (kwr.cell (p := ⟨b, o + k * 8 + 1, none⟩) hb).trans (he 1 _ rfl)
      have e2 : wr.cell? ⟨b, o + k * 8 + 2, none⟩ = some (.int .i64 p.prio) := (kwr.cell (p := ⟨b, o + k * 8 + 2, none⟩) hb).trans (he 2 _ rfl)
      have e3 : wr.cell? ⟨b, o + k * 8 + 3, none⟩ = some (.int .u64 p.req.a) := (kwr.cell (p := ⟨b, o + k * 8 + 3, none⟩) hb).trans (he 3 _ rfl)
      have e4 : wr.cell? ⟨b, o + k * 8 + 4, none⟩ = some (.int .u64 p.req.b) := (kwr.cell (p := ⟨b, o + k * 8 + 4, none⟩) hb).trans (he 4 _ rfl)
      have e5 : wr.cell? ⟨b, o + k * 8 + 5, none⟩ = some (.int .u64 p.req.c) := (kwr.cell (p := ⟨b, o + k * 8 + 5, none⟩) hb).trans (he 5 _ rfl)
      have e6 : wr.cell? ⟨b, o + k * 8 + 6, none⟩ = some (.int .u64 p.req.d) := (kwr.cell (p := ⟨b, o + k * 8 + 6, none⟩) hb).trans (he 6 _ rfl)
      have e7 : wr.cell? ⟨b, o + k * 8 + 7, none⟩ = some (.int .i64 p.node) := (kwr.cell (p := ⟨b, o + k * 8 + 7, none⟩) hb).trans (he 7 _ rfl)
      have hbw : b < wr.heap.size := Nat.lt_of_lt_of_le hb kwr.size
      have ka : Below wr.heap.size wr (wr.alloc (.cells #[.int .i64 p.id, .int .i64 p.load, .int .i64 p.prio, .int .u64 p.req.a, .int .u64 p.req.b, .int .u64 p.req.c, .int .u64 p.req.d, .int .i64 p.node] 79)) := (Below.refl _ wr).alloc (Nat.le_refl _) _
      have TA := T1.keep ka
      have BA : Bf (wr.alloc (.cells #[.int .i64 p.id, .int .i64 p.load, .int .i64 p.prio, .int .u64 p.req.a, .int .u64 p.req.b, .int .u64 p.req.c, .int .u64 p.req.d, .int .i64 p.node] 79)) wr.heap.size (cellsP p) := Bf.new wr (cellsP p) 79 rfl
      have HCA := Lib.hid (HC.out _ TA.below p.node)
      have HTA := Lib.hid TA
      have HBA := Lib.hid BA
      obtain ⟨a0, a1, a2, a3⟩ := TA.one.cells3
      have HPL := Lib.hid (HPG.out p.node)
      have HI1 := Lib.hid (inZ_load (ns := ns) (load := load) (z := z) (p := p))
      have HI2 := Lib.hid (inZ_none (ns := ns) (load := load) (z := z) (p := p))
      have HI3 := Lib.hid (fun y => inZ_other (ns := ns) (load := load) (z := z) (y := y) (p := p))
      have HI4 := Lib.hid (inZ_here (ns := ns) (load := load) (z := z) (p := p))
      have HZ1 := Lib.hid (zoneD_nowhere (ns := ns) (p := p))
      have HZ2 := Lib.hid (zoneD_none (ns := ns) (p := p))
      have HZ3 := Lib.hid (fun i h0 hi => zoneD_some (ns := ns) (p := p) (i := i) h0 hi)
      generalize place NodeD.id p.node ns 0 = pl at *
      clear he hx kwr T1 ka TA BA
      go_wp2_with fail
      refine HCA.out.mono ?_
      rintro e w2 ⟨rfl, hb2⟩
      have T2' := HTA.out.keep hb2
      obtain ⟨⟨q0, q1, q2, q3⟩, q4, q5, q6, q7, q8⟩ := (HBA.out.below hb2 HBA.out.lt).cells8p
      have HT2 := Lib.hid T2'
      clear a0 a1 a2 a3 b0 b1 b2 b3 e0 e1 e2 e3 e4 e5 e6 e7 hbw hb2 HCA HTA HBA HT1
      obtain ⟨a0, a1, a2, a3⟩ := T2'.one.cells3
      clear T2' q0 q2 q3 q4 q5 q6
      by_cases h1 : p.load = load
      case neg =>
        have d1 : (p.load != load) = true := by simp [h1]
        have HE := Lib.hid (HI1.out h1)
        clear h1
        go_wp2
        go_roundw
        case rel => exact ⟨k + 1, by omega, by rw [HNX.out, HE.out]; rfl, by go_num, HT2.out⟩
        case measure => simp [intOf]; omega
      have d1 : (p.load != load) = false := by simp [h1]
      by_cases h2 : p.node = 0
      · have d2 : (p.node == 0) = true := by simp [h2]
        have HE := Lib.hid (HI2.out (HZ1.out h2))
        clear h1 h2
        go_wp2
        go_roundw
        case rel => exact ⟨k + 1, by omega, by rw [HNX.out, HE.out]; rfl, by go_num, HT2.out⟩
        case measure => simp [intOf]; omega
      have d2 : (p.node == 0) = false := by simp [h2]
      by_cases hp : pl < 0
      · have d3 : decide (pl < 0) = true := decide_eq_true hp
        have HE := Lib.hid (HI2.out (HZ2.out hp))
        clear h1 h2 hp
        go_wp2
        go_roundw
        case rel => exact ⟨k + 1, by omega, by rw [HNX.out, HE.out]; rfl, by go_num, HT2.out⟩
        case measure => simp [intOf]; omega
      obtain ⟨i, rfl⟩ : ∃ i : Nat, pl = i := ⟨pl.toNat, by omega⟩
      have hi : i < ns.length := by have := HPL.out; omega
      have d3 : decide ((i : Int) < 0) = false := decide_eq_false hp
      have HZ := Lib.hid (HZ3.out i h2 hi rfl)
      obtain ⟨g, o', rfl, hg, hf⟩ := (HR1.out _ HT2.out.below).at hi
      have hin : i < n1 := by have := HN1.out; omega
      generalize ns[i] = x at *
      have f1 : w2.cell? ⟨g, o' + i * 10 + 1, none⟩ = some (.int .i64 x.zone) := hf 1 _ rfl
      have hi0 : (0 : Int) ≤ (i : Int) := by omega
      have hi1 : (i : Int) < (n1 : Int) := by omega
      clear hf hp
      by_cases hz : x.zone = z
      · have d4 : (x.zone == z) = true := by simp [hz]
        have HE := Lib.hid (HI4.out h1 (by rw [HZ.out, hz]))
        clear h1 h2 hz
        go_wp2
        go_roundw
        case rel => exact ⟨k + 1, by omega, by rw [HNX.out, HE.out]; exact congrArg (Value.int IntKind.i64) (by simp), by go_num, HT2.out⟩
        case measure => simp [intOf]; omega
      · have d4 : (x.zone == z) = false := by simp [hz]
        have HE := Lib.hid (HI3.out x.zone HZ.out hz)
        clear h1 h2 hz
        go_wp2
        go_roundw
        case rel => exact ⟨k + 1, by omega, by rw [HNX.out, HE.out]; rfl, by go_num, HT2.out⟩
        case measure => simp [intOf]; omega
    · have HE := Lib.hid (show l.take k = l from List.take_of_length_le (by have := HN4.out; omega))
      clear T1
      go_wp2
      go_ret
      exact ⟨ret_int (by rw [HE.out]), kwr⟩
end Go.Proofs.YtpfjeoldgcepnaaGreatDoor

/- The reference's Skew of layer 8. -/
namespace Go.Proofs.YtpfjeoldgcepnaaGreatDoor
set_option linter.unusedSimpArgs false
open Go.RowKit
set_option linter.unusedVariables false

/-- The greatest difference so far: of all pairs ahead of place (i, k); 0 at least. -/
def BestD (cs : List Int) (i k : Nat) (best : Int) : Prop :=
  0 ≤ best ∧ (∀ a b, ∀ ha : a < cs.length, ∀ hb : b < cs.length, (a < i ∨ (a = i ∧ b < k)) → cs[a] - cs[b] ≤ best) ∧ (best = 0 ∨ ∃ a b, ∃ ha : a < cs.length, ∃ hb : b < cs.length, best = cs[a] - cs[b])
theorem best_zero (cs : List Int) : BestD cs 0 0 0 := ⟨Int.le_refl _, fun a b _ _ h => by omega, .inl rfl⟩
theorem best_more {cs : List Int} {i k : Nat} {best : Int} (h : BestD cs i k best) (hi : i < cs.length) (hk : k < cs.length) (hd : best < cs[i] - cs[k]) : BestD cs i (k + 1) (cs[i] - cs[k]) := by
  refine ⟨by have := h.1; omega, fun a b ha hb hab => ?_, .inr ⟨i, k, hi, hk, rfl⟩⟩
  by_cases e : a = i ∧ b = k
  · obtain ⟨rfl, rfl⟩ := e
    exact Int.le_refl _
  · have := h.2.1 a b ha hb (by omega)
    omega
theorem best_same {cs : List Int} {i k : Nat} {best : Int} (h : BestD cs i k best) (hi : i < cs.length) (hk : k < cs.length) (hd : ¬ best < cs[i] - cs[k]) : BestD cs i (k + 1) best := by
  refine ⟨h.1, fun a b ha hb hab => ?_, h.2.2⟩
  by_cases e : a = i ∧ b = k
  · obtain ⟨rfl, rfl⟩ := e
    omega
  · exact h.2.1 a b ha hb (by omega)
theorem best_row {cs : List Int} {i : Nat} {best : Int} (h : BestD cs i cs.length best) : BestD cs (i + 1) 0 best := ⟨h.1, fun a b ha hb hab => h.2.1 a b ha hb (by omega), h.2.2⟩
theorem best_all {ns : List NodeD} {load : Int} {zs : List Int} {l : List PodD} {best : Int} (h : BestD (countsD ns load zs l) zs.length 0 best) : best = skewD ns load zs l := by
  have hlen : (countsD ns load zs l).length = zs.length := counts_len
  by_cases hz : zs = []
  · rw [skewD, if_pos hz]
    rcases h.2.2 with e | ⟨a, b, ha, _, _⟩
    · exact e
    · rw [hlen, hz] at ha; simp at ha
  · have hn := counts_ne (ns := ns) (load := load) (l := l) hz
    rw [skewD, if_neg hz]
    obtain ⟨m1, m2⟩ := maxOf_spec hn
    obtain ⟨n1, n2⟩ := minOf_spec hn
    obtain ⟨a, ha, ea⟩ := List.getElem_of_mem m1
    obtain ⟨b, hb, eb⟩ := List.getElem_of_mem n1
    have h1 := h.2.1 a b ha hb (by omega)
    have h2 := m2 _ n1
    rcases h.2.2 with e | ⟨a', b', ha', hb', e⟩
    · omega
    · have h3 := m2 _ (List.getElem_mem ha')
      have h4 := n2 _ (List.getElem_mem hb')
      omega
theorem counts_at {ns : List NodeD} {load : Int} {zs : List Int} {l : List PodD} {i : Nat} (h : i < zs.length) {z : Int} (hz : zs[i] = z) : ∃ hi : i < (countsD ns load zs l).length, (countsD ns load zs l)[i] = (countD ns load z l : Nat) := by
  refine ⟨by rw [counts_len]; exact h, ?_⟩
  simp [countsD, hz]

def RSkewRel (cs : List Int) (m : Nat) (a b : List Value) (w : World) (W : World) (v i : Value) (wr : World) : Prop := ∃ (k : Nat) (best : Int), k ≤ m ∧ v = .int .i64 best ∧ i = .int .i64 k ∧ BestD cs k 0 best ∧ T2 a b w wr ∧ Below W.heap.size W wr
def RSkewIn (cs : List Int) (m k : Nat) (a b : List Value) (w : World) (W : World) (v i : Value) (wr : World) : Prop := ∃ (q : Nat) (best : Int), q ≤ m ∧ v = .int .i64 best ∧ i = .int .i64 q ∧ BestD cs k q best ∧ T2 a b w wr ∧ Below W.heap.size W wr

set_option maxHeartbeats 12800000 in
set_option maxRecDepth 100000 in
theorem rSkew07_any (ns : List NodeD) (l : List PodD) (load : Int) (A1 A4 : Option Addr) (n1 c1 n4 c4 : Nat) (s2 s3 v1 v2 : Value) (w : World)
    (hn1 : n1 = ns.length) (hl1 : n1 ≤ 40) (hr1 : Recs 10 cellsN w w.heap.size A1 ns) (hn4 : n4 = l.length) (hl4 : n4 ≤ 400) (hr4 : Recs 8 cellsP w w.heap.size A4 l) :
    Calls Tryz.prog 74 #[.agg #[.slice A1 n1 c1, s2, s3], .agg #[.slice A4 n4 c4, v1, v2], .int .i64 load] w fun e w' => e = .returned (.int .i64 (skewD ns load (zonesOf ns) l)) ∧ Below w.heap.size w w' := by
  have T0 := T2.new w [.slice A1 n1 c1, s2, s3] [.slice A4 n4 c4, v1, v2] 26 42
  have HZN := Lib.hid (rZones_any ns A1 n1 c1 _ s2 s3 _ hn1 hl1 (Nat.le_refl _) ((hr1.below T0.below (Nat.le_refl _)).more T0.below.size))
  have HC := Lib.hid (fun (V : World) (hV : Below w.heap.size w V) (z : Int) => rCount07_any ns l load z A1 A4 n1 c1 n4 c4 s2 s3 v1 v2 V hn1 (by omega) ((hr1.below hV (Nat.le_refl _)).more hV.size) hn4 hl4 ((hr4.below hV (Nat.le_refl _)).more hV.size))
  have HQ := Lib.hid (fun z : Int => show countD ns load z l ≤ 400 by have := count_le ns load z l; omega)
  have HZL := Lib.hid (show (zonesOf ns).length ≤ 40 by have h := (zones_fold ns [] trivial).2.1; simp only [List.length_nil] at h; show (List.foldl _ [] ns).length ≤ 40; omega)
  have HAT := Lib.hid (fun i h z hz => counts_at (ns := ns) (load := load) (zs := zonesOf ns) (l := l) (i := i) h (z := z) hz)
  have HALL := Lib.hid (fun best h => best_all (ns := ns) (load := load) (zs := zonesOf ns) (l := l) (best := best) h)
  have HCL := Lib.hid (show (countsD ns load (zonesOf ns) l).length = (zonesOf ns).length from counts_len)
  have HT0 := Lib.hid T0
  generalize skewD ns load (zonesOf ns) l = sk at *
  generalize countsD ns load (zonesOf ns) l = cs at *
  clear hr1 hn1 hr4 hn4 T0
  go_enter Tryz.func74, Tryz.ntmps74
  go_wp2_with fail
  refine HZN.out.mono ?_
  rintro e w1 ⟨v, rfl, hown, hb1⟩
  obtain ⟨A, c, rfl, hrec⟩ := recs_codes (by simp) hown
  have e40 : (i64s (zonesOf ns)).length = (zonesOf ns).length := by simp
  rw [e40]
  have T1 := HT0.out.keep hb1
  have HT1 := Lib.hid T1
  have HREC := Lib.hid hrec
  generalize zonesOf ns = zs at *
  clear hown hb1 HT0 HZN T1 hrec e40
  have hm40 : zs.length ≤ 40 := HZL.out
  go_wp2
  go_loopw [8, 9] (RSkewRel cs zs.length [.slice A1 n1 c1, s2, s3] [.slice A4 n4 c4, v1, v2] w w1) (fun _ i _ => zs.length - (intOf i).toNat)
  case atStart => exact ⟨0, 0, by omega, rfl, rfl, best_zero _, HT1.out, Below.refl _ _⟩
  case round =>
    obtain ⟨k, best, hk, rfl, rfl, hbest, T2', hbr⟩ := hrel
    have HB := Lib.hid hbest
    have HT2 := Lib.hid T2'
    have HBR := Lib.hid hbr
    clear hbest T2' hbr
    by_cases hlt : k < zs.length
    · have hkl : k < zs.length := hlt
      go_wp2
      go_loopw [8, 10] (RSkewIn cs zs.length k [.slice A1 n1 c1, s2, s3] [.slice A4 n4 c4, v1, v2] w w1) (fun _ i _ => zs.length - (intOf i).toNat)
      case atStart => exact ⟨0, best, by omega, rfl, rfl, HB.out, HT2.out, HBR.out⟩
      case round =>
        clear HB HT2 HBR
        obtain ⟨q, best2, hq, rfl, rfl, hbest, T3', hbr⟩ := hrel
        have HB := Lib.hid hbest
        have HT3 := Lib.hid T3'
        have HBR := Lib.hid hbr
        clear hbest
        by_cases hqm : q < zs.length
        · have hql : q < zs.length := hqm
          obtain ⟨b, o, rfl, hb, he⟩ := HREC.out.at hkl
          obtain ⟨b', o', hA', hb', hf⟩ := HREC.out.at hql
          injection hA' with hA'
          injection hA' with h1 h2 _
          subst h1 h2
          obtain ⟨i1, i2⟩ := HAT.out k hkl _ rfl
          obtain ⟨j1, j2⟩ := HAT.out q hql _ rfl
          have e0 : wr.cell? ⟨b, o + k, none⟩ = some (.int .i64 zs[k]) := (hbr.cell (p := ⟨b, o + k, none⟩) hb).trans (by simpa using he 0 _ rfl)
          have f0 : wr.cell? ⟨b, o + q, none⟩ = some (.int .i64 zs[q]) := (hbr.cell (p := ⟨b, o + q, none⟩) hb).trans (by simpa using hf 0 _ rfl)
          have hbw : b < wr.heap.size := Nat.lt_of_lt_of_le hb hbr.size
          have hq1 := HQ.out zs[k]
          have hq2 := HQ.out zs[q]
          obtain ⟨a0, a1, a2, a3⟩ := T3'.one.cells3
          obtain ⟨b0, b1, b2, b3⟩ := T3'.two.cells3
          have HCW : Hid (∀ V : World, ((∀ b o, b < wr.heap.size → V.cell? ⟨b, o, none⟩ = wr.cell? ⟨b, o, none⟩) ∧ Below wr.heap.size wr V) → ∀ z : Int, Calls Tryz.prog 117 #[.agg #[.slice A1 n1 c1, s2, s3], .agg #[.slice A4 n4 c4, v1, v2], .int .i64 load, .int .i64 z] V fun e w' => e = .returned (.int .i64 (countD ns load z l : Nat)) ∧ Below V.heap.size V w') := fun V hV z => HC.out V (HT3.out.below.trans (hV.2.mono HT3.out.below.size)) z
          generalize zs[k] = x at *
          generalize zs[q] = y at *
          have HC1 := Lib.hid (fun V hV => HCW.out V hV x)
          have HC2 := Lib.hid (fun V hV => HCW.out V hV y)
          generalize countD ns load x l = p1 at *
          generalize countD ns load y l = p2 at *
          have HM1 := Lib.hid (best_more HB.out i1 j1)
          have HM2 := Lib.hid (best_same HB.out i1 j1)
          rw [i2, j2] at HM1 HM2
          have hk0 : (0 : Int) ≤ (k : Int) := by omega
          have hk1 : (k : Int) < (zs.length : Int) := by omega
          have hq0 : (0 : Int) ≤ (q : Int) := by omega
          have hq1' : (q : Int) < (zs.length : Int) := by omega
          have s1 : IntKind.i64.wrap ((p1 : Int) - (p2 : Int)) = (p1 : Int) - (p2 : Int) := IntWalk.i64_in _ (by omega)
          have s2' : wrap64 ((p1 : Int) - (p2 : Int)) = (p1 : Int) - (p2 : Int) := IntWalk.wrap64_in _ (by omega)
          clear he hf i1 i2 j1 j2 hbr T3' HCW
          go_wp2
          go_region_held3 (fun w' => (∀ b o, b < wr.heap.size → w'.cell? ⟨b, o, none⟩ = wr.cell? ⟨b, o, none⟩) ∧ Below wr.heap.size wr w')
            (first | (with_reducible assumption) | (show Keeps wr _; with_reducible (repeat (first | exact Keeps.refl _ | assumption | refine Keeps.drew ?_ | refine Keeps.alloc ?_ _ | refine Keeps.step ?_ (by assumption)))))
            (first
              | (go_at_call 117; (with_reducible refine (HC1.out _ (by assumption)).mono ?_); rintro e w' ⟨rfl, hb5⟩; obtain ⟨hcx, hfx⟩ := old_cells hb5)
              | (go_at_call 117; (with_reducible refine (HC2.out _ (by assumption)).mono ?_); rintro e w' ⟨rfl, hb6⟩; obtain ⟨hcx6, hfx6⟩ := old_cells hb6))
          all_goals
            rename_i hK
            have HT5 := Lib.hid (HT3.out.keep hK.2)
            have HBR5 := Lib.hid (HBR.out.trans (hK.2.mono HBR.out.size))
            clear hK a0 a1 a2 a3 b0 b1 b2 b3 e0 f0 s1 s2' HC1 HC2
            by_cases hd : best2 < (p1 : Int) - (p2 : Int)
            · have d1 : decide (best2 < (p1 : Int) - (p2 : Int)) = true := decide_eq_true hd
              have HE := Lib.hid (HM1.out hd)
              clear hd
              go_wp2
              go_roundw
              case rel => exact ⟨q + 1, _, by omega, rfl, by go_num, HE.out, HT5.out, HBR5.out⟩
              case measure => simp [intOf]; omega
            · have d1 : decide (best2 < (p1 : Int) - (p2 : Int)) = false := decide_eq_false hd
              have HE := Lib.hid (HM2.out (by omega))
              clear hd
              go_wp2
              go_roundw
              case rel => exact ⟨q + 1, _, by omega, rfl, by go_num, HE.out, HT5.out, HBR5.out⟩
              case measure => simp [intOf]; omega
        · have HE := Lib.hid (show BestD cs (k + 1) 0 best2 from best_row (by have h := HB.out; rw [HCL.out, show zs.length = q by omega]; exact h))
          clear hbr T3'
          go_wp2
          go_roundw
          case rel => exact ⟨k + 1, best2, by omega, rfl, by go_num, HE.out, HT3.out, HBR.out⟩
          case measure => simp [intOf]; omega
    · have HE := Lib.hid (HALL.out best (by rw [show zs.length = k by omega]; exact HB.out))
      go_wp2
      go_ret
      exact ⟨ret_int HE.out, HT2.out.below⟩

end Go.Proofs.YtpfjeoldgcepnaaGreatDoor

namespace Go.Proofs.YtpfjeoldgcepnaaGreatDoor
set_option linter.unusedSimpArgs false
open Go.RowKit
set_option linter.unusedVariables false

def RSpreadRel (ns : List NodeD) (ls : List LoadD) (l : List PodD) (a b : List Value) (w : World) (v : Value) (wr : World) : Prop := ∃ k : Nat, k ≤ ls.length ∧ v = .int .i64 k ∧ spreadFrom ns l (ls.drop k) k = spreadOf ns ls l ∧ T2 a b w wr

set_option maxHeartbeats 12800000 in
set_option maxRecDepth 100000 in
theorem rSpread07_any (ns : List NodeD) (ls : List LoadD) (l : List PodD) (A1 A2 A4 : Option Addr) (n1 c1 n2 c2 n4 c4 : Nat) (s3 v1 v2 : Value) (w : World)
    (hn1 : n1 = ns.length) (hl1 : n1 ≤ 40) (hr1 : Recs 10 cellsN w w.heap.size A1 ns) (hn2 : n2 = ls.length) (hl2 : n2 ≤ 400) (hr2 : Recs 5 cellsL w w.heap.size A2 ls) (hn4 : n4 = l.length) (hl4 : n4 ≤ 400) (hr4 : Recs 8 cellsP w w.heap.size A4 l) :
    Calls Tryz.prog 38 #[.agg #[.slice A1 n1 c1, .slice A2 n2 c2, s3], .agg #[.slice A4 n4 c4, v1, v2]] w fun e w' => e = .returned (.int .i64 (spreadOf ns ls l).2) ∧ Below w.heap.size w w' := by
  have T0 := T2.new w [.slice A1 n1 c1, .slice A2 n2 c2, s3] [.slice A4 n4 c4, v1, v2] 26 42
  have HN2 := Lib.hid hn2
  have HR2 := Lib.hid hr2
  have HC := Lib.hid (fun (V : World) (hV : Below w.heap.size w V) (id : Int) => rSkew07_any ns l id A1 A4 n1 c1 n4 c4 (.slice A2 n2 c2) s3 v1 v2 V hn1 hl1 ((hr1.below hV (Nat.le_refl _)).more hV.size) hn4 hl4 ((hr4.below hV (Nat.le_refl _)).more hV.size))
  have HT0 := Lib.hid T0
  clear hr1 hn1 hr2 hn2 hr4 hn4 T0
  go_enter Tryz.func38, Tryz.ntmps38
  go_wp2
  go_loopw [5] (RSpreadRel ns ls l [.slice A1 n1 c1, .slice A2 n2 c2, s3] [.slice A4 n4 c4, v1, v2] w) (fun v _ => n2 - (intOf v).toNat)
  case atStart => exact ⟨0, by omega, rfl, rfl, HT0.out⟩
  case round =>
    obtain ⟨k, hk, rfl, hp, T1⟩ := hrel
    have HP := Lib.hid hp
    have HT1 := Lib.hid T1
    obtain ⟨a0, a1, a2, a3⟩ := T1.one.cells3
    obtain ⟨b0, b1, b2, b3⟩ := T1.two.cells3
    have kwr := T1.below
    clear hp
    by_cases hlt : k < n2
    · have hkl : k < ls.length := by have := HN2.out; omega
      obtain ⟨b, o, rfl, hb, he⟩ := HR2.out.at hkl
      generalize hx : ls[k] = x at *
      have HX := Lib.hid (spreadFrom_at hkl hx HP.out)
      have e0 : wr.cell? ⟨b, o + k * 5, none⟩ = some (.int .i64 x.id) := (kwr.cell (p := ⟨b, o + k * 5, none⟩) hb).trans (he 0 _ rfl)
      have e2 : wr.cell? ⟨b, o + k * 5 + 2, none⟩ = some (.int .i64 x.skew) := (kwr.cell (p := ⟨b, o + k * 5 + 2, none⟩) hb).trans (he 2 _ rfl)
      have hbw : b < wr.heap.size := Nat.lt_of_lt_of_le hb kwr.size
      have hk0 : (0 : Int) ≤ (k : Int) := by omega
      have hk1 : (k : Int) < (n2 : Int) := by omega
      have HCW : Hid (∀ V : World, ((∀ b o, b < wr.heap.size → V.cell? ⟨b, o, none⟩ = wr.cell? ⟨b, o, none⟩) ∧ Below wr.heap.size wr V) → Calls Tryz.prog 74 #[.agg #[.slice A1 n1 c1, .slice (some ⟨b, o, none⟩) n2 c2, s3], .agg #[.slice A4 n4 c4, v1, v2], .int .i64 x.id] V fun e w' => e = .returned (.int .i64 (skewD ns x.id (zonesOf ns) l)) ∧ Below V.heap.size V w') := fun V hV => HC.out V (HT1.out.below.trans (hV.2.mono HT1.out.below.size)) x.id
      generalize skewD ns x.id (zonesOf ns) l = sk at *
      clear he hx T1 kwr
      by_cases h1 : 0 < x.skew
      · have d1 : decide (0 < x.skew) = true := decide_eq_true h1
        by_cases h2 : x.skew < sk
        · have d2 : decide (x.skew < sk) = true := decide_eq_true h2
          have HE := Lib.hid (HX.out.1 ⟨h1, h2⟩)
          go_wp2
          go_region_held3 (fun w' => (∀ b o, b < wr.heap.size → w'.cell? ⟨b, o, none⟩ = wr.cell? ⟨b, o, none⟩) ∧ Below wr.heap.size wr w')
            (first | (with_reducible assumption) | (show Keeps wr _; with_reducible (repeat (first | exact Keeps.refl _ | assumption | refine Keeps.drew ?_ | refine Keeps.alloc ?_ _ | refine Keeps.step ?_ (by assumption)))))
            (first | (go_at_call 74; (with_reducible refine (HCW.out _ (by assumption)).mono ?_); rintro e w' ⟨rfl, hb5⟩; obtain ⟨hcx, hfx⟩ := old_cells hb5))
          all_goals
            rename_i hK
            have HT5 := Lib.hid (HT1.out.keep hK.2)
            clear hK a0 a1 a2 a3 b0 b1 b2 b3 e0 e2 HCW
            go_wp2
            go_ret
            exact ⟨ret_int (by rw [HE.out]), HT5.out.below⟩
        · have d2 : decide (x.skew < sk) = false := decide_eq_false h2
          have HE := Lib.hid (HX.out.2 (fun h => h2 h.2))
          go_wp2
          go_region_held3 (fun w' => (∀ b o, b < wr.heap.size → w'.cell? ⟨b, o, none⟩ = wr.cell? ⟨b, o, none⟩) ∧ Below wr.heap.size wr w')
            (first | (with_reducible assumption) | (show Keeps wr _; with_reducible (repeat (first | exact Keeps.refl _ | assumption | refine Keeps.drew ?_ | refine Keeps.alloc ?_ _ | refine Keeps.step ?_ (by assumption)))))
            (first | (go_at_call 74; (with_reducible refine (HCW.out _ (by assumption)).mono ?_); rintro e w' ⟨rfl, hb5⟩; obtain ⟨hcx, hfx⟩ := old_cells hb5))
          all_goals
            rename_i hK
            have HT5 := Lib.hid (HT1.out.keep hK.2)
            clear hK a0 a1 a2 a3 b0 b1 b2 b3 e0 e2 HCW
            go_wp2
            go_roundw
            case rel => exact ⟨k + 1, by omega, by go_num, HE.out, HT5.out⟩
            case measure => simp [intOf]; omega
      · have d1 : decide (0 < x.skew) = false := decide_eq_false h1
        have HE := Lib.hid (HX.out.2 (fun h => h1 h.1))
        clear h1
        go_wp2
        go_quiet (fail)
        go_wp2
        go_roundw
        case rel => exact ⟨k + 1, by omega, by go_num, HE.out, HT1.out.keep (below_draws (Below.refl _ _) _)⟩
        case measure => simp [intOf]; omega
    · have HE := Lib.hid (spreadFrom_end (by have := HN2.out; omega) HP.out)
      clear T1
      go_wp2
      go_ret
      exact ⟨ret_int (by rw [HE.out]), kwr⟩
end Go.Proofs.YtpfjeoldgcepnaaGreatDoor
