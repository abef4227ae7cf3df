/- Joined texts, part 8: GEM GH GI GO GJ GK GKM GL GLM GS. -/
import Derived.Test.YtgfleifpblcnfaaGreatDoorZ07

/- The program's each, at one kind of record: the numbers of all, one behind the other. -/
namespace Go.Proofs.YtgfleifpblcnfaaGreatDoor
set_option linter.unusedSimpArgs false
open Go.RowKit
set_option linter.unusedVariables false

def OknM (x : MoveD) : Prop := I31 x.kind ∧ I31 x.pod ∧ I31 x.node ∧ I31 x.over
theorem moveNums_sl (x : MoveD) (w : World) (hx : OknM x) : Calls Tryz.prog 59 #[aggM x] w fun e w' => ∃ A c, e = .returned (.slice A 4 c) ∧ Sl w' (moveK.nums x) A 4 c ∧ Below w.heap.size w w' :=
  (moveNums_any x w (hx.1) (hx.2.1) (hx.2.2.1) (hx.2.2.2)).mono fun _ _ h => SlTo.of h
def FlatMRel (l : List MoveD) (w : World) (v i : Value) (wr : World) : Prop :=
  ∃ k : Nat, k ≤ l.length ∧ i = .int .i64 k ∧ wr.ownsRow w.heap.size 65 1 v (u64s ((l.take k).flatMap moveK.nums)).length (u64s ((l.take k).flatMap moveK.nums)) ∧ Below w.heap.size w wr
set_option maxHeartbeats 3200000 in
set_option maxRecDepth 100000 in
theorem flatM_any (l : List MoveD) (A : Option Addr) (n c : Nat) (w : World) (hn : n = l.length) (hl : n ≤ 1000) (hp : ∀ x ∈ l, OknM x) (hr : Recs 4 cellsM w w.heap.size A l) :
    Calls Tryz.prog 58 #[.slice A n c, .func (.func 59) #[] #[]] w (NumsTo (l.flatMap moveK.nums) w) := by
  have HN := Lib.hid hn
  have HP := Lib.hid hp
  have HR := Lib.hid hr
  clear hn hp hr
  go_enter Tryz.func58, Tryz.ntmps58
  go_wp2
  go_loopw [5, 10] (FlatMRel l w) (fun _ i _ => n - (intOf i).toNat)
  case atStart => exact ⟨0, by omega, rfl, World.ownsRow_nil _ _ _ _, Below.refl _ _⟩
  case round =>
    obtain ⟨k, hk, rfl, hown, hbr⟩ := hrel
    have hz := hbr.size
    by_cases hlt : k < n
    · have hkl : k < l.length := by have := HN.out; omega
      obtain ⟨b, o, rfl, hb, he⟩ := HR.out.at hkl
      have HX := Lib.hid (HP.out l[k] (List.getElem_mem hkl))
      have HT : Hid ((l.take k).flatMap moveK.nums ++ moveK.nums l[k] = (l.take (k + 1)).flatMap moveK.nums) := by
        show _ ++ _ = _
        rw [List.take_succ_eq_append_getElem hkl, List.flatMap_append]; simp
      have HU : Hid ((u64s ((l.take k).flatMap moveK.nums)).length + (u64s (moveK.nums l[k])).length ≤ 2000000) := by
        have e1 : ((l.take k).flatMap moveK.nums).length = (l.take k).length * 4 := flat_length moveK _
        have e2 : (moveK.nums l[k]).length = 4 := rfl
        show _ ≤ _
        rw [List.length_map, List.length_map, e1, e2, List.length_take]
        have : min k l.length ≤ 1000 := by have := HN.out; omega
        omega
      generalize l[k] = x at *
      have e0 : wr.cell? ⟨b, o + k * 4, none⟩ = some (.int .i64 x.kind) := (hbr.cell (p := ⟨b, o + k * 4, none⟩) hb).trans (he 0 _ rfl)
      have e1 : wr.cell? ⟨b, o + k * 4 + 1, none⟩ = some (.int .i64 x.pod) := (hbr.cell (p := ⟨b, o + k * 4 + 1, none⟩) hb).trans (he 1 _ rfl)
      have e2 : wr.cell? ⟨b, o + k * 4 + 2, none⟩ = some (.int .i64 x.node) := (hbr.cell (p := ⟨b, o + k * 4 + 2, none⟩) hb).trans (he 2 _ rfl)
      have e3 : wr.cell? ⟨b, o + k * 4 + 3, none⟩ = some (.int .i64 x.over) := (hbr.cell (p := ⟨b, o + k * 4 + 3, none⟩) hb).trans (he 3 _ rfl)
      have hbw : b < wr.heap.size := by omega
      clear he
      go_wp2_with fail
      go_at_call 59
      refine (moveNums_sl x _ HX.out).mono ?_
      rintro e w1 ⟨A1, c1, rfl, hs1, hb1⟩
      have hz1 : w.heap.size ≤ w1.heap.size := by have := hb1.size; simp at this; omega
      have hown1 := own_below (hown.alloc (.cells #[.int .i64 x.kind, .int .i64 x.pod, .int .i64 x.node, .int .i64 x.over] 111)) hb1 (Nat.le_refl _)
      have kw1 : Below w.heap.size w w1 := (hbr.alloc hz _).trans (hb1.mono (by simp; omega))
      have HS := Lib.hid hs1
      clear hs1 hb1 hown
      go_wp2_with (at_builtin; refine wpList_cat 38 65 (.int .u64 0) 8 Tryz.underlying38 Tryz.info65 rfl (by decide) rfl (.tmp 14) (.tmp 17) rfl w.heap.size w1.heap.size _ (u64s ((l.take k).flatMap moveK.nums)) (u64s (moveK.nums x)) A1 c1 (one_u64s _) HS.out.2.1 hown1 HS.out.2.2 hz1 HU.out rfl rfl rfl ?_; intro v' w2 hown2 hb2 hB2)
      go_roundw
      case rel => exact ⟨k + 1, by omega, by go_num, own_cat hown2 HT.out, kw1.trans hb2⟩
      case measure => simp [intOf]; omega
    · have htk : l.take k = l := List.take_of_length_le (by have := HN.out; omega)
      rw [htk] at hown
      clear htk
      go_wp2
      go_ret
      exact ⟨_, rfl, hown, hbr⟩
end Go.Proofs.YtgfleifpblcnfaaGreatDoor

/- The program's reader: what it has left; next, number, truth. -/
namespace Go.Proofs.YtgfleifpblcnfaaGreatDoor
set_option linter.unusedSimpArgs false
open Go.RowKit
set_option linter.unusedVariables false

/-- Nothing but block r, and what is new, has turned. -/
structure Turn (r : Nat) (w w' : World) : Prop where
  os : w'.os = w.os
  tape : w'.tape = w.tape
  output : w'.output = w.output
  size : w.heap.size ≤ w'.heap.size
  block : ∀ k, k < w.heap.size → k ≠ r → w'.heap[k]? = w.heap[k]?
section
variable {r : Nat} {w w' w'' : World}
theorem Turn.of_below (h : Below w.heap.size w w') : Turn r w w' := ⟨h.os, h.tape, h.output, h.size, fun k hk _ => h.block k hk⟩
theorem Turn.refl : Turn r w w := .of_below (Below.refl _ _)
theorem Turn.trans (h : Turn r w w') (k : Turn r w' w'') : Turn r w w'' :=
  ⟨k.os.trans h.os, k.tape.trans h.tape, k.output.trans h.output, Nat.le_trans h.size k.size, fun i hi hr => (k.block i (Nat.lt_of_lt_of_le hi h.size) hr).trans (h.block i hi hr)⟩
theorem Turn.drew (h : Turn r w w') : Turn r w w'.drew := ⟨h.os, h.tape, h.output, h.size, h.block⟩
theorem Turn.alloc (h : Turn r w w') (o : Obj) : Turn r w (w'.alloc o) := h.trans (.of_below ((Below.refl _ _).alloc (Nat.le_refl _) o))
theorem Turn.set (h : Turn r w w') {p : Addr} (hp : p.block = r ∨ w.heap.size ≤ p.block) (u : Value) : Turn r w (w'.setCell p u) :=
  ⟨h.os, h.tape, h.output, by simpa using h.size, fun k hk hr => (Below.heap_setCell w' p u k (by rcases hp with hp | hp <;> omega)).trans (h.block k hk hr)⟩
theorem Turn.below (h : Turn r w w') (hr : r ≤ w.heap.size) : Below r w w' := ⟨h.os, h.tape, h.output, h.size, fun k hk => h.block k (by omega) (by omega)⟩
theorem Turn.cell (h : Turn r w w') {b o : Nat} (hb : b < w.heap.size) (hr : b ≠ r) : w'.cell? ⟨b, o, none⟩ = w.cell? ⟨b, o, none⟩ := World.cell?_of_block (h.block b hb hr)
theorem Turn.frozen (h : Turn r w w') {b o : Nat} (hb : b < w.heap.size) (hr : b ≠ r) : w'.frozen? ⟨b, o, none⟩ = w.frozen? ⟨b, o, none⟩ := World.frozen?_of_block (h.block b hb hr)
end

/-- The reader in block r has so many numbers left, and so its mark. -/
def RdAt (w : World) (r : Nat) (s : St) : Prop :=
  ∃ A c, w.cell? ⟨r, 0, none⟩ = some (.slice A s.1.length c) ∧ w.cell? ⟨r, 1, none⟩ = some (.bool s.2) ∧ w.frozen? ⟨r, 0, none⟩ = false ∧ w.frozen? ⟨r, 1, none⟩ = false ∧
    s.1.length ≤ c ∧ c ≤ 9223372036854775807 ∧ Row w r A (u64s s.1) ∧ Nums s.1
theorem RdAt.lt {w : World} {r : Nat} {s : St} (h : RdAt w r s) : r < w.heap.size := by
  obtain ⟨A, c, h1, _⟩ := h
  exact World.block_lt_of_cell? w _ h1
theorem RdAt.below {w w' : World} {r B : Nat} {s : St} (h : RdAt w r s) (hb : Below B w w') (hr : r < B) : RdAt w' r s := by
  obtain ⟨A, c, h1, h2, h3, h4, h5, h6, h7, h8⟩ := h
  exact ⟨A, c, (hb.cell (p := ⟨r, 0, none⟩) hr).trans h1, (hb.cell (p := ⟨r, 1, none⟩) hr).trans h2, (hb.frozen (p := ⟨r, 0, none⟩) hr).trans h3, (hb.frozen (p := ⟨r, 1, none⟩) hr).trans h4, h5, h6, h7.below hb (by omega), h8⟩
theorem RdAt.mark {w : World} {r : Nat} {s : St} (h : RdAt w r s) (b : Bool) : RdAt (w.setCell ⟨r, 1, none⟩ (.bool b)) r (s.1, b) := by
  have hr := h.lt
  obtain ⟨A, c, h1, h2, h3, h4, h5, h6, h7, h8⟩ := h
  have hb : Below r w (w.setCell ⟨r, 1, none⟩ (.bool b)) := (Below.refl _ _).setCell (p := ⟨r, 1, none⟩) (Nat.le_refl _) _
  refine ⟨A, c, ?_, World.cell?_setCell_same _ _ _ h2, by simpa using h3, by simpa using h4, h5, h6, h7.below hb (Nat.le_refl _), h8⟩
  rw [World.cell?_setCell_other _ _ _ _ (by simp)]; exact h1
theorem RdAt.left {w : World} {r : Nat} {s : St} (h : RdAt w r s) (l : List Int) (A : Option Addr) (c : Nat) (g1 : l.length ≤ c) (g2 : c ≤ 9223372036854775807) (g3 : Row w r A (u64s l)) (g4 : Nums l) : RdAt (w.setCell ⟨r, 0, none⟩ (.slice A l.length c)) r (l, s.2) := by
  have hr := h.lt
  obtain ⟨A', c', h1, h2, h3, h4, h5, h6, h7, h8⟩ := h
  have hb : Below r w (w.setCell ⟨r, 0, none⟩ (.slice A l.length c)) := (Below.refl _ _).setCell (p := ⟨r, 0, none⟩) (Nat.le_refl _) _
  refine ⟨A, c, World.cell?_setCell_same _ _ _ h1, ?_, by simpa using h3, by simpa using h4, g1, g2, g3.below hb (Nat.le_refl _), g4⟩
  rw [World.cell?_setCell_other _ _ _ _ (by simp)]; exact h2
def RdTo (v : Value) (s : St) (r : Nat) (w : World) (e : Ending) (w' : World) : Prop := e = .returned v ∧ RdAt w' r s ∧ Turn r w w'

theorem next_end {r : Nat} {w : World} {x : Int} {l : List Int} {fl : Bool} {A : Option Addr} {n c : Nat} (h : RdAt w r (x :: l, fl)) (hn : n = l.length) (g1 : n ≤ c) (g2 : c ≤ 9223372036854775807) (g3 : Row w r A (u64s l)) :
    RdTo (.int .u64 (rdNext (x :: l, fl)).1) (rdNext (x :: l, fl)).2 r w (.returned (.int .u64 x)) (w.setCell ⟨r, 0, none⟩ (.slice A n c)) := by
  subst hn
  have h8 : Nums l := by obtain ⟨_, _, _, _, _, _, _, _, _, h8⟩ := h; exact fun n hn => h8 n (by simp [hn])
  have e : rdNext (x :: l, fl) = (x, l, fl) := by simp [rdNext]
  rw [e]
  exact ⟨rfl, h.left l A c g1 g2 g3 h8, Turn.refl.set (p := ⟨r, 0, none⟩) (.inl rfl) _⟩
set_option maxHeartbeats 1600000 in
theorem next_any (s : St) (r : Nat) (w : World) (h : RdAt w r s) :
    Calls Tryz.prog 79 #[.pointer (some ⟨r, 0, none⟩)] w (RdTo (.int .u64 (rdNext s).1) (rdNext s).2 r w) := by
  have H := Lib.hid h
  obtain ⟨l, fl⟩ := s
  obtain ⟨A, c, h1, h2, h3, h4, h5, h6, h7, h8⟩ := h
  simp only at h1 h2 h5 h7 h8
  have hrl := World.block_lt_of_cell? w _ h1
  simp only at hrl
  cases l with
  | nil =>
    clear h7 h8
    go_enter Tryz.func79, Tryz.ntmps79
    go_wp2
    go_ret
    refine ⟨rfl, ?_, Turn.refl.set (p := ⟨r, 1, none⟩) (.inl rfl) _⟩
    have e : (rdNext ([], fl)).2 = ([], true) := by simp [rdNext]
    rw [e]
    exact H.out.mark true
  | cons x l =>
    obtain ⟨b, o, rfl, hb, hcell⟩ := h7.at (k := 0) (by simp)
    have e0 : w.cell? ⟨b, o, none⟩ = some (.int .u64 x) := by simpa using hcell 0 (by simp)
    have HD := Lib.hid (h7.drop (k := 1) (c := c) (by simpa using h5))
    simp only [List.length_cons] at h1 h5
    generalize hn : l.length = n at *
    have HN := Lib.hid hn
    clear h7 h8 hcell hn
    by_cases hc1 : c = 1
    · obtain rfl : n = 0 := by omega
      subst hc1
      go_enter Tryz.func79, Tryz.ntmps79
      go_wp2
      go_ret
      exact next_end H.out HN.out.symm (by omega) (by omega) (by have := HD.out; simpa using this)
    · go_enter Tryz.func79, Tryz.ntmps79
      go_wp2
      go_ret
      exact next_end H.out HN.out.symm (by omega) (by omega) (by have := HD.out; rw [if_neg hc1] at this; simpa [Addr.add_lit] using this)
end Go.Proofs.YtgfleifpblcnfaaGreatDoor

/- The program's reader: number, truth, wellFormed, amount. -/
namespace Go.Proofs.YtgfleifpblcnfaaGreatDoor
set_option linter.unusedSimpArgs false
open Go.RowKit
set_option linter.unusedVariables false

theorem nums_head {l : List Int} (h : Nums l) : 0 ≤ l.headD 0 ∧ l.headD 0 < 18446744073709551616 := by
  cases l with
  | nil => decide
  | cons x l => exact h x (by simp)
theorem RdAt.nums {w : World} {r : Nat} {s : St} (h : RdAt w r s) : Nums s.1 := by
  obtain ⟨_, _, _, _, _, _, _, _, _, h8⟩ := h; exact h8
theorem RdAt.cells {w : World} {r : Nat} {s : St} (h : RdAt w r s) : (∃ v, w.cell? ⟨r, 0, none⟩ = some v) ∧ w.cell? ⟨r, 1, none⟩ = some (.bool s.2) ∧ w.frozen? ⟨r, 0, none⟩ = false ∧ w.frozen? ⟨r, 1, none⟩ = false := by
  obtain ⟨A, c, h1, h2, h3, h4, _⟩ := h
  exact ⟨⟨_, h1⟩, h2, h3, h4⟩
theorem small_false {n : Int} (h : 2147483647 < n) : smallN n = false := by simp [smallN]; omega
theorem bit_true {n : Int} (h0 : 0 ≤ n) (h : n ≤ 1) : bitN n = true := by simp [bitN]; omega
theorem bit_false {n : Int} (h : 1 < n) : bitN n = false := by simp [bitN]; omega

theorem num_lo {s : St} (h : s.1.headD 0 ≤ 2147483647) : rdNum s = (s.1.headD 0, (rdNext s).2) := by
  unfold rdNum rdNext; rw [small_of h]; simp only [if_true, Bool.not_true, Bool.or_false]
theorem num_hi {s : St} (h : 2147483647 < s.1.headD 0) : rdNum s = (0, (rdNext s).2.1, true) := by
  unfold rdNum rdNext; rw [small_false h]; simp only [Bool.false_eq_true, if_false, Bool.not_false, Bool.or_true]
theorem tru_lo {s : St} (h0 : 0 ≤ s.1.headD 0) (h : s.1.headD 0 ≤ 1) : rdTruth s = (s.1.headD 0 == 1, (rdNext s).2) := by
  unfold rdTruth rdNext; rw [bit_true h0 h]; simp only [Bool.not_true, Bool.or_false]
theorem tru_hi {s : St} (h : 1 < s.1.headD 0) : rdTruth s = (s.1.headD 0 == 1, (rdNext s).2.1, true) := by
  unfold rdTruth rdNext; rw [bit_false h]; simp only [Bool.not_false, Bool.or_true]

set_option maxHeartbeats 1600000 in
theorem number_any (s : St) (r : Nat) (w : World) (h : RdAt w r s) :
    Calls Tryz.prog 42 #[.pointer (some ⟨r, 0, none⟩)] w (RdTo (.int .i64 (rdNum s).1) (rdNum s).2 r w) := by
  have H := Lib.hid h
  have hh := nums_head h.nums
  have hx : (rdNext s).1 = s.1.headD 0 := rfl
  clear h
  go_enter Tryz.func42, Tryz.ntmps42
  go_wp2_with fail
  refine (next_any s r w H.out).mono ?_
  rintro e w1 ⟨rfl, hr1, ht1⟩
  rw [hx]
  have hrl := hr1.lt
  obtain ⟨_, g2, g3, g4⟩ := hr1.cells
  have HR1 := Lib.hid hr1
  have HT1 := Lib.hid ht1
  by_cases hs : s.1.headD 0 ≤ 2147483647
  · have HE := Lib.hid (num_lo hs)
    clear hx g2 g3 g4 hr1 ht1
    generalize s.1.headD 0 = n at *
    obtain ⟨hh1, hh2⟩ := hh
    go_wp2
    go_ret
    rw [HE.out]
    exact ⟨rfl, HR1.out, HT1.out⟩
  · have HE := Lib.hid (num_hi (show 2147483647 < s.1.headD 0 by omega))
    clear hx hr1 ht1
    generalize s.1.headD 0 = n at *
    obtain ⟨hh1, hh2⟩ := hh
    go_wp2
    go_ret
    rw [HE.out]
    exact ⟨rfl, HR1.out.mark true, HT1.out.set (p := ⟨r, 1, none⟩) (.inl rfl) _⟩

set_option maxHeartbeats 1600000 in
theorem rtruth_any (s : St) (r : Nat) (w : World) (h : RdAt w r s) :
    Calls Tryz.prog 81 #[.pointer (some ⟨r, 0, none⟩)] w (RdTo (.bool (rdTruth s).1) (rdTruth s).2 r w) := by
  have H := Lib.hid h
  have hh := nums_head h.nums
  have hx : (rdNext s).1 = s.1.headD 0 := rfl
  clear h
  go_enter Tryz.func81, Tryz.ntmps81
  go_wp2_with fail
  refine (next_any s r w H.out).mono ?_
  rintro e w1 ⟨rfl, hr1, ht1⟩
  rw [hx]
  have hrl := hr1.lt
  obtain ⟨_, g2, g3, g4⟩ := hr1.cells
  have HR1 := Lib.hid hr1
  have HT1 := Lib.hid ht1
  by_cases hs : s.1.headD 0 ≤ 1
  · have HE := Lib.hid (tru_lo hh.1 hs)
    clear hx g2 g3 g4 hr1 ht1
    generalize s.1.headD 0 = n at *
    obtain ⟨hh1, hh2⟩ := hh
    go_wp2
    go_ret
    rw [HE.out]
    exact ⟨rfl, HR1.out, HT1.out⟩
  · have HE := Lib.hid (tru_hi (show 1 < s.1.headD 0 by omega))
    clear hx hr1 ht1
    generalize s.1.headD 0 = n at *
    obtain ⟨hh1, hh2⟩ := hh
    go_wp2
    go_ret
    rw [HE.out]
    exact ⟨rfl, HR1.out.mark true, HT1.out.set (p := ⟨r, 1, none⟩) (.inl rfl) _⟩

set_option maxHeartbeats 1600000 in
theorem wellFormed_any (s : St) (r : Nat) (w : World) (h : RdAt w r s) :
    Calls Tryz.prog 49 #[.pointer (some ⟨r, 0, none⟩)] w fun e w' => e = .returned (.bool (wellF s)) ∧ w = w' := by
  obtain ⟨l, f⟩ := s
  obtain ⟨A, c, h1, h2, _⟩ := h
  simp only at h1 h2
  have hrl := World.block_lt_of_cell? w _ h1
  simp only at hrl
  cases f with
  | true =>
    go_enter Tryz.func49, Tryz.ntmps49
    go_wp2
    go_ret
    exact ⟨rfl, rfl⟩
  | false =>
    have HE : Hid (wellF (l, false) = decide (l.length = 0)) := by show _ = _; simp [wellF]
    rw [HE.out]
    generalize l.length = n at *
    by_cases hn : n = 0
    · subst hn
      go_enter Tryz.func49, Tryz.ntmps49
      go_wp2
      go_ret
      exact ⟨rfl, rfl⟩
    · have hb : ((n : Int) == 0) = false := by rw [beq_eq_false_iff_ne]; omega
      have HD := Lib.hid (decide_eq_false hn)
      go_enter Tryz.func49, Tryz.ntmps49
      go_wp2
      go_ret
      first | exact ⟨rfl, rfl⟩ | exact ⟨ret_bool HD.out.symm, rfl⟩
end Go.Proofs.YtgfleifpblcnfaaGreatDoor

/- The program's codec: open. -/
namespace Go.Proofs.YtgfleifpblcnfaaGreatDoor
set_option linter.unusedSimpArgs false
open Go.RowKit
set_option linter.unusedVariables false

theorem own_cap {w : World} {base n : Nat} {e : TypeId} {v : Value} {xs : List Value} (h : w.ownsRow base e 1 v n xs) : ∃ A c, v = .slice A n c ∧ n ≤ c ∧ c ≤ maxLen ∧ n = xs.length ∧ (A = none → c = 0) := by
  have hn : n = xs.length := by have := h.1; omega
  rcases h.2 with ⟨hv, h0⟩ | ⟨g, cap, cur, hv, hb, hg, hc, hm, _⟩
  · exact ⟨none, 0, by rw [hv, h0], by omega, by decide, hn, fun _ => rfl⟩
  · exact ⟨_, cap, hv, hc, hm, hn, fun h => by cases h⟩
def OpenTo (ns rest : List Int) (first : Nat) (ms : List Int) (w : World) (e : Ending) (w' : World) : Prop :=
  ((rest ≠ [] ∧ ∃ u, e = .returned (.tuple #[.pointer none, u]) ∧ Spotted w.heap.size (encs ns).length w' u) ∨
   (rest = [] ∧ ns.length < first ∧ e = .returned (.tuple #[.pointer none, .iface 52 (.int .i64 2)])) ∨
   (rest = [] ∧ first ≤ ns.length ∧ (∃ i, i < ms.length ∧ ms.getD i 0 < ns.getD i 0) ∧ e = .returned (.tuple #[.pointer none, .iface 52 (.int .i64 3)])) ∨
   (rest = [] ∧ first ≤ ns.length ∧ (∀ i, i < ms.length → ns.getD i 0 ≤ ms.getD i 0) ∧ ∃ r, e = .returned (.tuple #[.pointer (some ⟨r, 0, none⟩), .nilIface]) ∧ w.heap.size ≤ r ∧ RdAt w' r (ns, false))) ∧ Below w.heap.size w w'
def OpenRel (ns ms : List Int) (i : Value) : Prop := ∃ k : Nat, k ≤ ms.length ∧ i = .int .i64 k ∧ ∀ i, i < ms.length → i < k → ns.getD i 0 ≤ ms.getD i 0
theorem rd_new (w : World) (A : Option Addr) (n c : Nat) (ns : List Int) (hn : n = ns.length) (hc : n ≤ c) (hm : c ≤ maxLen) (hr : Row w w.heap.size A (u64s ns)) (hns : Nums ns) : RdAt (w.alloc (.cells #[.slice A n c, .bool false] 140)) w.heap.size (ns, false) := by
  subst hn
  exact ⟨A, c, by simp, by simp, by simp, by simp, hc, by unfold maxLen at hm; omega, hr.below ((Below.refl _ _).alloc (Nat.le_refl _) _) (Nat.le_refl _), hns⟩

set_option maxHeartbeats 3200000 in
theorem open_any (ns rest ms : List Int) (first : Nat) (A M : Option Addr) (n c m mc : Nat) (w : World) (hn : n = (encs ns ++ rest).length) (hl : n ≤ 100000) (hc : n ≤ c) (hc' : c ≤ maxLen) (hns : Nums ns) (hb : Octs rest) (hm : rest = [] ∨ (rest ≠ [] ∧ Miss rest)) (hr : Row w w.heap.size A (u8s (encs ns ++ rest)))
    (hmm : m = ms.length) (hf : ms.length ≤ first) (hfl : first ≤ 1000) (hms : Nums ms) (hmr : Row w w.heap.size M (u64s ms)) :
    Calls Tryz.prog 41 #[.slice A n c, .int .i64 (first : Int), .slice M m mc] w (OpenTo ns rest first ms w) := by
  have HALL := Lib.hid (All_any ns rest A n c w hn hl hc hc' hns hb hm hr)
  have HNS := Lib.hid hns
  have HM := Lib.hid hmm
  have HMS := Lib.hid hms
  have HMR := Lib.hid hmr
  have HLN : Hid (ns.length ≤ 100000) := by
    have := encs_len_ge ns
    show _ ≤ _
    simp at hn; omega
  clear hn hl hc hc' hns hb hm hr hmm hms hmr
  go_enter Tryz.func41, Tryz.ntmps41
  go_wp2_with fail
  refine HALL.out.mono ?_
  clear HALL
  rintro e w1 ⟨⟨hre, v, rfl, hown⟩ | ⟨hre, u, rfl, g, rfl, hgB, hblk⟩, hb1⟩
  · obtain ⟨A1, c1, rfl, hc1, hcm1, hn1, _⟩ := own_cap hown
    have hlen : (u64s ns).length = ns.length := by simp
    rw [hlen]
    have HROW := Lib.hid (Row.of_own hown).1
    have HRE := Lib.hid hre
    have HC1 := Lib.hid hc1
    have HCM := Lib.hid hcm1
    have HB1 := Lib.hid hb1
    have hln := HLN.out
    clear hre hown hn1 hc1 hcm1 hb1 hlen
    by_cases hlt : ns.length < first
    · have HLT := Lib.hid hlt
      generalize hq : ns.length = q at *
      have HQ := Lib.hid hq
      clear hq
      go_wp2
      go_ret2
      exact ⟨.inr (.inl ⟨HRE.out, by have := HQ.out; omega, rfl⟩), HB1.out⟩
    · have HLT := Lib.hid hlt
      have HK1 := Lib.hid (rd_new w1 A1 ns.length c1 ns rfl (by have := HC1.out; simpa using this) HCM.out HROW.out HNS.out)
      generalize hq : ns.length = q at *
      have HQ := Lib.hid hq
      clear hq
      go_wp2
      go_loop [27] (OpenRel ns ms) (fun i => m - (intOf i).toNat)
      case atStart => exact ⟨0, by omega, rfl, fun i _ h => by omega⟩
      case round =>
        obtain ⟨k, hk, rfl, hall⟩ := hrel
        have HA := Lib.hid hall
        clear hall
        by_cases hlt2 : k < m
        · have hkm : k < ms.length := by have := HM.out; omega
          have hkn : k < ns.length := by have := HQ.out; omega
          obtain ⟨b, o, rfl, hbb, hcell⟩ := HMR.out.at (k := k) (by simpa using hkm)
          obtain ⟨b', o', rfl, hbb', hcell'⟩ := HROW.out.at (k := k) (by simpa using hkn)
          have e0 : w1.cell? ⟨b, o + k, none⟩ = some (.int .u64 ms[k]) := (HB1.out.cell (p := ⟨b, o + k, none⟩) hbb).trans ((hcell k (by simpa using hkm)).trans (by simp))
          have e1 : w1.cell? ⟨b', o' + k, none⟩ = some (.int .u64 ns[k]) := (hcell' k (by simpa using hkn)).trans (by simp)
          have hg : ns.getD k 0 = ns[k] := by simp [List.getD_eq_getElem?_getD, List.getElem?_eq_getElem hkn]
          have hgm : ms.getD k 0 = ms[k] := by simp [List.getD_eq_getElem?_getD, List.getElem?_eq_getElem hkm]
          have hkq : k < q := by have := HQ.out; omega
          have HKM := Lib.hid hkm
          have HKN := Lib.hid hkn
          clear hcell hcell'
          generalize ms[k] = x at *
          generalize ns[k] = y at *
          have HX := Lib.hid hgm
          have HG := Lib.hid hg
          clear hgm hg
          by_cases hgt : x < y
          · go_wp2
            go_ret2
            exact ⟨.inr (.inr (.inl ⟨HRE.out, by have := HQ.out; have := HLT.out; omega, ⟨k, HKM.out, by rw [HX.out, HG.out]; exact hgt⟩, rfl⟩)), HB1.out⟩
          · go_wp2
            go_round
            case rel => exact ⟨k + 1, by have := HKM.out; omega, by go_num, fun i hi h => by
              by_cases e : i = k
              · subst e; rw [HG.out, HX.out]; omega
              · exact HA.out i hi (by omega)⟩
            case measure => simp [intOf]; omega
        · go_wp2
          go_ret2
          refine ⟨.inr (.inr (.inr ⟨HRE.out, by have := HQ.out; have := HLT.out; omega, fun i hi => HA.out i hi (by have := HM.out; omega), w1.heap.size, rfl, HB1.out.size, HK1.out⟩)), HB1.out.alloc HB1.out.size _⟩
  · have HRE := Lib.hid hre
    have HBLK := Lib.hid hblk
    clear hre hblk
    go_wp2
    go_ret2
    exact ⟨.inl ⟨HRE.out, _, rfl, g, rfl, hgB, HBLK.out⟩, hb1⟩
end Go.Proofs.YtgfleifpblcnfaaGreatDoor

/- The program's reader: amount. -/
namespace Go.Proofs.YtgfleifpblcnfaaGreatDoor
set_option linter.unusedSimpArgs false
open Go.RowKit
set_option linter.unusedVariables false

/-- A box of four numbers. -/
def Box4 (w : World) (b : Nat) (f : Nat → Int) : Prop := ∀ j, j < 4 → w.cell? ⟨b, j, none⟩ = some (.int .u64 (f j)) ∧ w.frozen? ⟨b, j, none⟩ = false
theorem Box4.turn {w w' : World} {r b : Nat} {f : Nat → Int} (h : Box4 w b f) (ht : Turn r w w') (hb : b ≠ r) : Box4 w' b f := fun j hj =>
  ⟨(ht.cell (World.block_lt_of_cell? w _ (h j hj).1) hb).trans (h j hj).1, (ht.frozen (World.block_lt_of_cell? w _ (h j hj).1) hb).trans (h j hj).2⟩
theorem Box4.set {w : World} {b i : Nat} {f : Nat → Int} (h : Box4 w b f) (hi : i < 4) (x : Int) (g : Nat → Int) (hg : ∀ j, j < 4 → g j = if j = i then x else f j) : Box4 (w.setCell ⟨b, i, none⟩ (.int .u64 x)) b g := fun j hj => by
  rw [hg j hj]
  by_cases e : j = i
  · subst e
    rw [if_pos rfl]
    exact ⟨World.cell?_setCell_same _ _ _ (h j hj).1, by simpa using (h j hj).2⟩
  · rw [if_neg e]
    exact ⟨by rw [World.cell?_setCell_other _ _ _ _ (by intro q; injection q with _ q _; exact e q.symm)]; exact (h j hj).1, by simpa using (h j hj).2⟩
theorem Box4.other {w : World} {b : Nat} {f : Nat → Int} (h : Box4 w b f) {p : Addr} (hp : p.block ≠ b) (v : Value) : Box4 (w.setCell p v) b f := fun j hj =>
  ⟨by rw [World.cell?_setCell_other _ _ _ _ (by intro e; exact hp (by rw [e]))]; exact (h j hj).1, by simpa using (h j hj).2⟩
/-- What is left behind k calls of next. -/
def stK (s : St) (k : Nat) : St := (s.1.drop k, s.2 || decide (s.1.length < k))
theorem stK_0 (s : St) : stK s 0 = s := by simp [stK]
theorem stK_next (s : St) (k : Nat) : rdNext (stK s k) = (s.1.getD k 0, stK s (k + 1)) := by
  simp only [rdNext, stK, drop_headD, List.tail_drop, empty_iff]
  refine Prod.ext rfl (Prod.ext rfl ?_)
  show (s.2 || decide (s.1.length < k) || decide (s.1.length ≤ k)) = (s.2 || decide (s.1.length < k + 1))
  rw [Bool.eq_iff_iff]; cases s.2 <;> simp <;> omega
theorem vec_stK (s : St) : rdVec s = (⟨s.1.getD 0 0, s.1.getD 1 0, s.1.getD 2 0, s.1.getD 3 0⟩, stK s 4) := rfl
def AmtRel (s : St) (r : Nat) (w : World) (i : Value) (wr : World) : Prop :=
  ∃ k : Nat, k ≤ 4 ∧ i = .int .i64 k ∧ RdAt wr r (stK s k) ∧ Turn r w wr ∧ w.heap.size + 2 ≤ wr.heap.size ∧ Box4 wr w.heap.size (fun _ => 0) ∧ Box4 wr (w.heap.size + 1) (fun j => if j < k then s.1.getD j 0 else 0)

set_option maxHeartbeats 3200000 in
theorem amount_any (s : St) (r : Nat) (w : World) (h : RdAt w r s) :
    Calls Tryz.prog 80 #[.pointer (some ⟨r, 0, none⟩)] w (RdTo (aggV (rdVec s).1) (rdVec s).2 r w) := by
  have hrl := h.lt
  have H := Lib.hid h
  have b00 := below_two w (.cells #[.int .u64 0, .int .u64 0, .int .u64 0, .int .u64 0] 69) (.cells #[.int .u64 0, .int .u64 0, .int .u64 0, .int .u64 0] 69)
  have HB := Lib.hid b00
  clear h b00
  go_enter Tryz.func80, Tryz.ntmps80
  go_wp2
  go_loopw [5] (AmtRel s r w) (fun i _ => 4 - (intOf i).toNat)
  case atStart =>
    refine ⟨0, by omega, rfl, ?_, .of_below HB.out, by simp, fun j hj => ?_, fun j hj => ?_⟩
    · rw [stK_0]; exact H.out.below HB.out hrl
    · match j, hj with
      | 0, _ => simp
      | 1, _ => simp
      | 2, _ => simp
      | 3, _ => simp
    · match j, hj with
      | 0, _ => simp
      | 1, _ => simp
      | 2, _ => simp
      | 3, _ => simp
  case round =>
    obtain ⟨k, hk, rfl, hrd, ht, hz, hb0, hb1⟩ := hrel
    have HT := Lib.hid ht
    have HB0 := Lib.hid hb0
    have HB1 := Lib.hid hb1
    have HR := Lib.hid hrd
    clear ht hb0 hb1 hrd
    by_cases hlt : k < 4
    · go_wp2_with fail
      refine (next_any (stK s k) r wr HR.out).mono ?_
      rw [stK_next]
      rintro e w1 ⟨rfl, hr1, ht1⟩
      have hz1 := ht1.size
      have q0 := (HB0.out).turn ht1 (by omega)
      have q1 := (HB1.out).turn ht1 (by omega)
      have hc := (q1 k hlt).1
      have hf := (q1 k hlt).2
      have hl : w.heap.size + 1 < w1.heap.size := by omega
      have HR1 := Lib.hid hr1
      have HT1 := Lib.hid (HT.out.trans ht1)
      have HQ0 := Lib.hid q0
      have HQ1 := Lib.hid q1
      clear q0 q1 hr1 ht1
      go_wp2
      go_roundw
      case rel =>
        refine ⟨k + 1, by omega, by go_num, ?_, HT1.out.set (p := ⟨w.heap.size + 1, k, none⟩) (.inr (by simp)) _, by simp; omega, HQ0.out.other (by simp) _, HQ1.out.set hlt _ _ fun j hj => ?_⟩
        · exact HR1.out.below ((Below.refl (r + 1) _).setCell (p := ⟨w.heap.size + 1, k, none⟩) (by simp; omega) _) (by omega)
        · by_cases e : j = k
          · subst e; rw [if_pos (by omega), if_pos rfl]; first | done | simp
          · rw [if_neg e]
            by_cases e2 : j < k
            · rw [if_pos e2, if_pos (by omega)]
            · rw [if_neg e2, if_neg (by omega)]
      case measure => simp [intOf]; omega
    · obtain rfl : k = 4 := by omega
      have c0 : wr.cell? ⟨w.heap.size + 1, 0, none⟩ = some (.int .u64 (s.1.getD 0 0)) := (HB1.out 0 (by omega)).1
      have c1 : wr.cell? ⟨w.heap.size + 1, 1, none⟩ = some (.int .u64 (s.1.getD 1 0)) := (HB1.out 1 (by omega)).1
      have c2 : wr.cell? ⟨w.heap.size + 1, 2, none⟩ = some (.int .u64 (s.1.getD 2 0)) := (HB1.out 2 (by omega)).1
      have c3 : wr.cell? ⟨w.heap.size + 1, 3, none⟩ = some (.int .u64 (s.1.getD 3 0)) := (HB1.out 3 (by omega)).1
      have d0 : wr.cell? ⟨w.heap.size, 0, none⟩ = some (.int .u64 0) := (HB0.out 0 (by omega)).1
      have d1 : wr.cell? ⟨w.heap.size, 1, none⟩ = some (.int .u64 0) := (HB0.out 1 (by omega)).1
      have d2 : wr.cell? ⟨w.heap.size, 2, none⟩ = some (.int .u64 0) := (HB0.out 2 (by omega)).1
      have d3 : wr.cell? ⟨w.heap.size, 3, none⟩ = some (.int .u64 0) := (HB0.out 3 (by omega)).1
      have g0 := (HB0.out 0 (by omega)).2
      have g1 := (HB0.out 1 (by omega)).2
      have g2 := (HB0.out 2 (by omega)).2
      have g3 := (HB0.out 3 (by omega)).2
      have hwl : w.heap.size < wr.heap.size := by omega
      have hwl1 : w.heap.size + 1 < wr.heap.size := by omega
      have HV : Hid ((rdVec s).1 = ⟨s.1.getD 0 0, s.1.getD 1 0, s.1.getD 2 0, s.1.getD 3 0⟩) := rfl
      generalize s.1.getD 0 0 = x0 at *
      generalize s.1.getD 1 0 = x1 at *
      generalize s.1.getD 2 0 = x2 at *
      generalize s.1.getD 3 0 = x3 at *
      go_wp2
      refine bodyPost_ret (v := aggV ⟨x0, x1, x2, x3⟩) ?_ rfl ?_
      · simp [results, Tryz.results80, go_sem, *]
      · refine ⟨by rw [HV.out], ?_, ?_⟩
        · show RdAt _ r (stK s 4)
          refine HR.out.below (B := r + 1) ?_ (by omega)
          repeat (first | with_reducible exact Below.refl _ _ | with_reducible refine Below.setCell ?_ ?_ _)
          all_goals (show r + 1 ≤ w.heap.size; omega)
        · repeat (first | with_reducible exact HT.out | with_reducible refine Turn.set ?_ (.inr ?_) _)
          all_goals (show w.heap.size ≤ w.heap.size; omega)
end Go.Proofs.YtgfleifpblcnfaaGreatDoor

/- The program's reader: a record that is read field by field into a box of the call's own. -/
namespace Go.Proofs.YtgfleifpblcnfaaGreatDoor
set_option linter.unusedSimpArgs false
open Go.RowKit
set_option linter.unusedVariables false

/-- A box that holds these cells. -/
def Box (w : World) (b : Nat) (cs : List Value) : Prop := ∀ j (h : j < cs.length), w.cell? ⟨b, j, none⟩ = some cs[j] ∧ w.frozen? ⟨b, j, none⟩ = false
theorem Box.at {w : World} {b : Nat} {cs : List Value} (h : Box w b cs) (j : Nat) (v : Value) (hv : cs[j]? = some v) : w.cell? ⟨b, j, none⟩ = some v ∧ w.frozen? ⟨b, j, none⟩ = false := by
  obtain ⟨hj, rfl⟩ := List.getElem?_eq_some_iff.1 hv
  exact h j hj
theorem Box.turn {w w' : World} {r b : Nat} {cs : List Value} (h : Box w b cs) (ht : Turn r w w') (hb : b ≠ r) : Box w' b cs := fun j hj =>
  ⟨(ht.cell (World.block_lt_of_cell? w _ (h j hj).1) hb).trans (h j hj).1, (ht.frozen (World.block_lt_of_cell? w _ (h j hj).1) hb).trans (h j hj).2⟩
theorem Box.set {w : World} {b : Nat} {cs : List Value} (h : Box w b cs) (i : Nat) (v : Value) : Box (w.setCell ⟨b, i, none⟩ v) b (cs.set i v) := fun j hj => by
  have hj' : j < cs.length := by simpa using hj
  by_cases e : j = i
  · subst e
    rw [List.getElem_set_self]
    exact ⟨World.cell?_setCell_same _ _ _ (h j hj').1, by simpa using (h j hj').2⟩
  · rw [List.getElem_set_ne (by omega)]
    exact ⟨by rw [World.cell?_setCell_other _ _ _ _ (by intro q; injection q with _ q _; exact e q.symm)]; exact (h j hj').1, by simpa using (h j hj').2⟩
theorem Box.other {w : World} {b : Nat} {cs : List Value} (h : Box w b cs) {p : Addr} (hp : p.block ≠ b) (v : Value) : Box (w.setCell p v) b cs := fun j hj =>
  ⟨by rw [World.cell?_setCell_other _ _ _ _ (by intro e; exact hp (by rw [e]))]; exact (h j hj).1, by simpa using (h j hj).2⟩
theorem Box.new (w : World) (cs : List Value) (t : TypeId) : Box (w.alloc (.cells cs.toArray t)) w.heap.size cs := fun j hj => by
  constructor
  · simp [List.getElem?_eq_getElem hj]
  · simp
theorem Box.alloc {w : World} {b : Nat} {cs : List Value} (h : Box w b cs) (o : Obj) : Box (w.alloc o) b cs := fun j hj => by
  have hl := World.block_lt_of_cell? w _ (h j hj).1
  exact ⟨by rw [World.cell?_alloc_lt _ _ _ hl]; exact (h j hj).1, ((Below.refl _ w).alloc (Nat.le_refl _) o |>.frozen hl).trans (h j hj).2⟩
/-- A record is being read: the reader has s left, the box of the call's own holds cs. -/
structure Reading (r : Nat) (w : World) (s : St) (zs cs : List Value) (wr : World) : Prop where
  rd : RdAt wr r s
  turn : Turn r w wr
  size : w.heap.size + 2 ≤ wr.heap.size
  lt : r < w.heap.size
  res : Box wr w.heap.size zs
  box : Box wr (w.heap.size + 1) cs
theorem Reading.start {r : Nat} {w : World} {s : St} (h : RdAt w r s) (zs : List Value) (t : TypeId) : Reading r w s zs zs ((w.alloc (.cells zs.toArray t)).alloc (.cells zs.toArray t)) := by
  have b00 := below_two w (.cells zs.toArray t) (.cells zs.toArray t)
  refine ⟨h.below b00 h.lt, .of_below b00, by simp, h.lt, (Box.new w zs t).alloc _, ?_⟩
  have := Box.new (w.alloc (.cells zs.toArray t)) zs t
  simpa using this
theorem Reading.call {r : Nat} {w wr w1 : World} {s s' : St} {zs cs : List Value} (h : Reading r w s zs cs wr) (hr : RdAt w1 r s') (ht : Turn r wr w1) : Reading r w s' zs cs w1 :=
  ⟨hr, h.turn.trans ht, Nat.le_trans h.size ht.size, h.lt, h.res.turn ht (by have := h.lt; omega), h.box.turn ht (by have := h.lt; omega)⟩
theorem Reading.store {r : Nat} {w wr : World} {s : St} {zs cs : List Value} (h : Reading r w s zs cs wr) (i : Nat) (v : Value) : Reading r w s zs (cs.set i v) (wr.setCell ⟨w.heap.size + 1, i, none⟩ v) := by
  have hlt := h.lt
  exact ⟨h.rd.below ((Below.refl (r + 1) _).setCell (p := ⟨w.heap.size + 1, i, none⟩) (by simp; omega) _) (by omega), h.turn.set (p := ⟨w.heap.size + 1, i, none⟩) (.inr (by simp)) _, by simpa using h.size, hlt, h.res.other (by simp) _, h.box.set i v⟩
theorem Reading.store4 {r : Nat} {w wr : World} {s : St} {zs cs : List Value} (h : Reading r w s zs cs wr) (i : Nat) (a b c d : Value) :
    Reading r w s zs ((((cs.set i a).set (i + 1) b).set (i + 2) c).set (i + 3) d) ((((wr.setCell ⟨w.heap.size + 1, i, none⟩ a).setCell ⟨w.heap.size + 1, i + 1, none⟩ b).setCell ⟨w.heap.size + 1, i + 2, none⟩ c).setCell ⟨w.heap.size + 1, i + 3, none⟩ d) :=
  (((h.store i a).store (i + 1) b).store (i + 2) c).store (i + 3) d
theorem pair_of {α β : Type} (p : α × β) : ∃ x y, p = (x, y) := ⟨p.1, p.2, rfl⟩
/-- The end: what was read lies in the result's box; nothing else but the reader has turned. -/
theorem Reading.end {r : Nat} {w wr w' : World} {s : St} {zs cs : List Value} (h : Reading r w s zs cs wr) (hb : Below w.heap.size wr w') : RdAt w' r s ∧ Turn r w w' :=
  ⟨h.rd.below hb h.lt, ⟨hb.os.trans h.turn.os, hb.tape.trans h.turn.tape, hb.output.trans h.turn.output, Nat.le_trans h.turn.size hb.size, fun k hk hr => (hb.block k hk).trans (h.turn.block k hk hr)⟩⟩
end Go.Proofs.YtgfleifpblcnfaaGreatDoor

/- The program's reader: a move. -/
namespace Go.Proofs.YtgfleifpblcnfaaGreatDoor
set_option linter.unusedSimpArgs false
open Go.RowKit
set_option linter.unusedVariables false

set_option maxHeartbeats 6400000 in
set_option maxRecDepth 100000 in
theorem readMove_any (s : St) (r : Nat) (w : World) (h : RdAt w r s) :
    Calls Tryz.prog 61 #[.pointer (some ⟨r, 0, none⟩)] w (RdTo (aggM (rdMove s).1) (rdMove s).2 r w) := by
  have K0 := Lib.hid (Reading.start h [.int .i64 0, .int .i64 0, .int .i64 0, .int .i64 0] 111)
  clear h
  go_enter Tryz.func61, Tryz.ntmps61
  go_wp2_with fail
  refine (number_any s r _ K0.out.rd).mono ?_
  obtain ⟨x0, s1, hx⟩ := pair_of (rdNum s)
  rw [hx]
  have HX0 := Lib.hid hx
  clear hx
  rintro e w1 ⟨rfl, hr, ht⟩
  have K1 := Lib.hid (K0.out.call hr ht)
  clear hr ht
  have hz0 : w.heap.size + 1 < w1.heap.size := by have := K1.out.size; omega
  obtain ⟨c0, f0⟩ := K1.out.box.at 0 (.int .i64 0) rfl
  have K2 := Lib.hid (K1.out.store 0 (.int .i64 x0))
  go_wp2_with fail
  refine (number_any s1 r _ K2.out.rd).mono ?_
  obtain ⟨x1, s2, hx⟩ := pair_of (rdNum s1)
  rw [hx]
  have HX1 := Lib.hid hx
  clear hx
  rintro e w2 ⟨rfl, hr, ht⟩
  have K3 := Lib.hid (K2.out.call hr ht)
  clear hr ht
  have hz1 : w.heap.size + 1 < w2.heap.size := by have := K3.out.size; omega
  obtain ⟨c1, f1⟩ := K3.out.box.at 1 (.int .i64 0) rfl
  have K4 := Lib.hid (K3.out.store 1 (.int .i64 x1))
  go_wp2_with fail
  refine (number_any s2 r _ K4.out.rd).mono ?_
  obtain ⟨x2, s3, hx⟩ := pair_of (rdNum s2)
  rw [hx]
  have HX2 := Lib.hid hx
  clear hx
  rintro e w3 ⟨rfl, hr, ht⟩
  have K5 := Lib.hid (K4.out.call hr ht)
  clear hr ht
  have hz2 : w.heap.size + 1 < w3.heap.size := by have := K5.out.size; omega
  obtain ⟨c2, f2⟩ := K5.out.box.at 2 (.int .i64 0) rfl
  have K6 := Lib.hid (K5.out.store 2 (.int .i64 x2))
  go_wp2_with fail
  refine (number_any s3 r _ K6.out.rd).mono ?_
  obtain ⟨x3, s4, hx⟩ := pair_of (rdNum s3)
  rw [hx]
  have HX3 := Lib.hid hx
  clear hx
  rintro e w4 ⟨rfl, hr, ht⟩
  have K7 := Lib.hid (K6.out.call hr ht)
  clear hr ht
  have hz3 : w.heap.size + 1 < w4.heap.size := by have := K7.out.size; omega
  obtain ⟨c3, f3⟩ := K7.out.box.at 3 (.int .i64 0) rfl
  have K8 := Lib.hid (K7.out.store 3 (.int .i64 x3))
  have c0 := (K7.out.box.at 0 (.int .i64 x0) rfl).1
  have c1 := (K7.out.box.at 1 (.int .i64 x1) rfl).1
  have c2 := (K7.out.box.at 2 (.int .i64 x2) rfl).1
  obtain ⟨d0, g0⟩ := K7.out.res.at 0 (.int .i64 0) rfl
  obtain ⟨d1, g1⟩ := K7.out.res.at 1 (.int .i64 0) rfl
  obtain ⟨d2, g2⟩ := K7.out.res.at 2 (.int .i64 0) rfl
  obtain ⟨d3, g3⟩ := K7.out.res.at 3 (.int .i64 0) rfl
  have HE : Hid (rdMove s = (⟨x0, x1, x2, x3⟩, s4)) := by
    show _ = _
    simp only [rdMove, HX0.out, HX1.out, HX2.out, HX3.out]
  have hzz : w.heap.size < w4.heap.size := by omega
  go_wp2
  refine bodyPost_ret (v := aggM ⟨x0, x1, x2, x3⟩) ?_ rfl ?_
  · simp [results, Tryz.results61, go_sem, *]
  · refine ⟨by rw [HE.out], ?_, ?_⟩
    · rw [HE.out]
      refine (K7.out.end ?_).1
      repeat (first | with_reducible exact Below.refl _ _ | with_reducible refine Below.setCell ?_ ?_ _)
      all_goals (first | (show w.heap.size ≤ w.heap.size; omega) | (show w.heap.size ≤ w.heap.size + 1; omega))
    · refine (K7.out.end ?_).2
      repeat (first | with_reducible exact Below.refl _ _ | with_reducible refine Below.setCell ?_ ?_ _)
      all_goals (first | (show w.heap.size ≤ w.heap.size; omega) | (show w.heap.size ≤ w.heap.size + 1; omega))
end Go.Proofs.YtgfleifpblcnfaaGreatDoor

/- Append of one record to a row of the call's own; a row of records. -/
namespace Go.Proofs.YtgfleifpblcnfaaGreatDoor
set_option linter.unusedSimpArgs false
open Go.RowKit
set_option linter.unusedVariables false

theorem info_partsN {P : Program} {t : TypeId} {z : Value} {s b : Nat} (h : (P.info? t).map (fun i => (i.zero, i.size, i.bytes)) = some (some z, s, b)) : ∃ i, P.info? t = some i ∧ i.zero = some z ∧ i.size = s ∧ i.bytes = b := by
  cases hi : P.info? t with
  | none => rw [hi] at h; cases h
  | some i =>
    rw [hi] at h
    have h := Option.some.inj h
    simp only [Prod.mk.injEq] at h
    exact ⟨i, rfl, h.1, h.2.1, h.2.2⟩
section
variable {ops : Array Oper} {rest : List Oper} {o : Oper} {a : Act} {Q : Exit → Act → World → Prop} {wr : World}
theorem wpList_pushN (t e : TypeId) (z : Value) (size bytes : Nat) (ht : Tryz.prog.underlying t = some (.slice e)) (hinfo : (Tryz.prog.info? e).map (fun i => (i.zero, i.size, i.bytes)) = some (some z, size, bytes)) (hz : z.cells.size = size) (hsz : 0 < size) (hby : bytes ≤ 1000)
    (hgd : o.guard = none) (s x : Operand) (ho : o.op = .call { callee := .builtin .append, args := #[s, x], argTypes := #[t, t] })
    (B : Nat) (v : Value) (n : Nat) (xs cs : List Value) (hcs : cs.length = size) (hu : ∀ u ∈ cs, u.oneCell' = true) (hown : wr.ownsRow B e size v n xs) (hB : B ≤ wr.heap.size) (hl : n ≤ 2000000)
    (hs : a.eval s = v) (hx : a.eval x = .slice (some ⟨wr.heap.size, 0, none⟩) 1 1)
    (h : ∀ v' w', w'.ownsRow B e size v' (n + 1) (xs ++ cs) → Below B wr w' → B ≤ w'.heap.size → wpList Tryz.prog ops Q rest (a.put o.dst v') w') :
    wpList Tryz.prog ops Q (o :: rest) a (wr.alloc (.cells cs.toArray e)) := by
  obtain ⟨i0, hi, hz0, hz1, hz2⟩ := info_partsN hinfo
  refine wpList_append_own _ hgd s x t ho B e i0 z size bytes ht hi hz0 hz1 hz2 hz hsz v n xs hs (hown.alloc _) ⟨wr.heap.size, 0, none⟩ 1 1 cs hx (by omega) ?_ hu ?_ ?_ ?_ ?_
  · intro j y hy
    have := cell_of_row (wr.alloc (.cells cs.toArray e)) wr.heap.size j cs.toArray e (0, 0) (heap_alloc_new wr _)
    rw [Addr.add_lit, Nat.zero_add, this]
    simpa using hy
  · unfold maxLen; omega
  · have : (n + 1) * bytes ≤ (n + 1) * 1000 := Nat.mul_le_mul_left _ hby
    omega
  · simp; omega
  · intro v' w' h1 h2 _
    exact h v' w' h1 (((Below.refl B wr).alloc hB _).grown h2 (by simp; omega) (fun j hj => (hown.lt j hj).1)) (by have := h2.size; simp at this; omega)
end
theorem Turn.later {r : Nat} {w wr w' : World} (h : Turn r w wr) (hb : Below w.heap.size wr w') : Turn r w w' :=
  ⟨hb.os.trans h.os, hb.tape.trans h.tape, hb.output.trans h.output, Nat.le_trans h.size hb.size, fun k hk hr => (hb.block k hk).trans (h.block k hk hr)⟩
theorem own_turn {w w' : World} {r B n size : Nat} {e : TypeId} {v : Value} {xs : List Value} (h : w.ownsRow B e size v n xs) (ht : Turn r w w') (hr : r < B) : w'.ownsRow B e size v n xs := by
  refine ⟨h.1, ?_⟩
  rcases h.2 with h0 | ⟨g, cap, cur, hv, hb1, hg, rest⟩
  · exact .inl h0
  · exact .inr ⟨g, cap, cur, hv, hb1, (ht.block g (Array.getElem?_eq_some_iff.1 hg).1 (by omega)).trans hg, rest⟩
/-- Such records in a row of the call's own. -/
def ListTo {α : Type} (e : TypeId) (size : Nat) (cells : α → List Value) (xs : List α) (s : St) (r : Nat) (w : World) (en : Ending) (w' : World) : Prop :=
  ∃ v, en = .returned v ∧ w'.ownsRow w.heap.size e size v xs.length (xs.flatMap cells) ∧ RdAt w' r s ∧ Turn r w w'
def ListRel {α : Type} (e : TypeId) (size : Nat) (cells : α → List Value) (rd : St → α × St) (many : Nat) (s : St) (r : Nat) (w : World) (v i : Value) (wr : World) : Prop :=
  ∃ (k : Nat) (acc : List α) (t : St), k ≤ many ∧ i = .int .i64 k ∧ k = acc.length ∧ acc ++ (rdList rd (many - k) t).1 = (rdList rd many s).1 ∧ (rdList rd (many - k) t).2 = (rdList rd many s).2 ∧
    RdAt wr r t ∧ wr.ownsRow w.heap.size e size v k (acc.flatMap cells) ∧ Turn r w wr
theorem list_step {α : Type} {rd : St → α × St} {many k : Nat} {acc : List α} {t t' : St} {x : α} {p : List α × St} (hk : k < many) (hx : rd t = (x, t')) (h1 : acc ++ (rdList rd (many - k) t).1 = p.1) (h2 : (rdList rd (many - k) t).2 = p.2) :
    (acc ++ [x]) ++ (rdList rd (many - (k + 1)) t').1 = p.1 ∧ (rdList rd (many - (k + 1)) t').2 = p.2 := by
  obtain ⟨m, hm⟩ : ∃ m, many - k = m + 1 := ⟨many - k - 1, by omega⟩
  have e : many - (k + 1) = m := by omega
  rw [hm, rdList, hx] at h1 h2
  rw [e]
  exact ⟨by simpa using h1, h2⟩
theorem list_end {α : Type} {rd : St → α × St} {many : Nat} {acc : List α} {t : St} {p : List α × St} (h1 : acc ++ (rdList rd (many - many) t).1 = p.1) (h2 : (rdList rd (many - many) t).2 = p.2) : p = (acc, t) := by
  rw [Nat.sub_self] at h1 h2
  simp only [rdList, List.append_nil] at h1 h2
  rw [h1, h2]
end Go.Proofs.YtgfleifpblcnfaaGreatDoor

/- The program's list, at one kind of record. -/
namespace Go.Proofs.YtgfleifpblcnfaaGreatDoor
set_option linter.unusedSimpArgs false
open Go.RowKit
set_option linter.unusedVariables false

theorem Tryz.info111 : (Tryz.prog.info? 111).map (fun i => (i.zero, i.size, i.bytes)) = some (some (.agg #[.int .i64 0, .int .i64 0, .int .i64 0, .int .i64 0]), 4, 32) := by kernel_rfl
theorem Tryz.underSlM : Tryz.prog.underlying 60 = some (.slice 111) := by kernel_rfl
theorem one_cellsM (x : MoveD) : ∀ u ∈ cellsM x, u.oneCell' = true := by
  intro u hu; simp only [cellsM, List.mem_cons, List.not_mem_nil, or_false] at hu
  rcases hu with rfl | rfl | rfl | rfl <;> rfl
set_option maxHeartbeats 3200000 in
set_option maxRecDepth 100000 in
theorem listM_any (s : St) (r many : Nat) (w : World) (hm : many ≤ 1000) (h : RdAt w r s) :
    Calls Tryz.prog 60 #[.pointer (some ⟨r, 0, none⟩), .int .i64 (many : Int), .func (.func 61) #[] #[]] w (ListTo 111 4 cellsM (rdList rdMove many s).1 (rdList rdMove many s).2 r w) := by
  have H := Lib.hid h
  have hrl := h.lt
  clear h
  go_enter Tryz.func60, Tryz.ntmps60
  go_wp2
  go_loopw [7, 9] (ListRel 111 4 cellsM rdMove many s r w) (fun _ i _ => many - (intOf i).toNat)
  case atStart => exact ⟨0, [], s, by omega, rfl, rfl, by simp, rfl, H.out, World.ownsRow_nil _ _ _ _, Turn.refl⟩
  case round =>
    obtain ⟨k, acc, t, hk, rfl, hka, he1, he2, hrd, hown, ht⟩ := hrel
    have hz := ht.size
    have HA := Lib.hid hka
    have HE1 := Lib.hid he1
    have HE2 := Lib.hid he2
    have HR := Lib.hid hrd
    have HO := Lib.hid hown
    have HT := Lib.hid ht
    clear hka he1 he2 hrd hown ht
    by_cases hlt : k < many
    · go_wp2_with fail
      go_at_call 61
      refine (readMove_any t r wr HR.out).mono ?_
      obtain ⟨x, t', hx⟩ := pair_of (rdMove t)
      have HS := Lib.hid (list_step hlt hx HE1.out HE2.out)
      rw [hx]
      clear hx
      rintro e w1 ⟨rfl, hr1, ht1⟩
      have hz1 : w.heap.size ≤ w1.heap.size := by have := ht1.size; omega
      have hown1 := own_turn HO.out ht1 hrl
      have HR1 := Lib.hid hr1
      have HT1 := Lib.hid (HT.out.trans ht1)
      clear hr1 ht1
      go_wp2_with (at_builtin; refine wpList_pushN 60 111 (.agg #[.int .i64 0, .int .i64 0, .int .i64 0, .int .i64 0]) 4 32 Tryz.underSlM Tryz.info111 rfl (by decide) (by decide) rfl (.tmp 11) (.tmp 15) rfl w.heap.size _ k (acc.flatMap cellsM) (cellsM x) rfl (one_cellsM x) hown1 hz1 (by omega) rfl rfl ?_; intro v' w2 hown2 hb2 hB2)
      go_roundw
      case rel => exact ⟨k + 1, acc ++ [x], t', by omega, by go_num, by have := HA.out; simp; omega, HS.out.1, HS.out.2, HR1.out.below hb2 hrl, by rw [List.flatMap_append]; simpa using hown2, HT1.out.later hb2⟩
      case measure => simp [intOf]; omega
    · obtain rfl : k = many := by omega
      have HP := Lib.hid (list_end HE1.out HE2.out)
      go_wp2
      go_ret
      unfold ListTo
      rw [HP.out]
      exact ⟨_, rfl, by have := HA.out; rw [← this]; exact HO.out, HR.out, HT.out⟩
end Go.Proofs.YtgfleifpblcnfaaGreatDoor

namespace Go.Proofs.YtgfleifpblcnfaaGreatDoor
set_option linter.unusedSimpArgs false
open Go.RowKit
set_option linter.unusedVariables false

theorem flatMap_get {α : Type} {size : Nat} {cells : α → List Value} (hc : ∀ x, (cells x).length = size) : ∀ {xs : List α} {i j : Nat} (hi : i < xs.length), j < size → (xs.flatMap cells)[i * size + j]? = (cells xs[i])[j]?
  | [], i, j, hi, _ => by simp at hi
  | x :: r, 0, j, _, hj => by
    rw [List.flatMap_cons, Nat.zero_mul, Nat.zero_add, List.getElem?_append_left (by rw [hc]; exact hj)]; rfl
  | x :: r, i + 1, j, hi, hj => by
    rw [List.flatMap_cons, List.getElem?_append_right (by rw [hc, Nat.add_one_mul]; omega), hc]
    have e : (i + 1) * size + j - size = i * size + j := by rw [Nat.add_one_mul]; omega
    rw [e, flatMap_get hc (xs := r) (by simpa using hi) hj]; rfl
theorem recs_of_own {α : Type} {size : Nat} {cells : α → List Value} (hc : ∀ x, (cells x).length = size) {w : World} {B n : Nat} {e : TypeId} {v : Value} {xs : List α} (hn : n = xs.length) (h : w.ownsRow B e size v n (xs.flatMap cells)) :
    ∃ A c, v = .slice A n c ∧ n ≤ c ∧ c ≤ maxLen ∧ (A = none → c = 0) ∧ Recs size cells w w.heap.size A xs := by
  subst hn
  have hcs := fun g hg => h.cells (g := g) hg
  rcases h.2 with ⟨hv, h0⟩ | ⟨g, cap, cur, hv, hb, hg, hnc, hm, _⟩
  · exact ⟨none, 0, by rw [hv, h0], by omega, by decide, fun _ => rfl, .inl (List.eq_nil_of_length_eq_zero h0)⟩
  · refine ⟨_, cap, hv, hnc, hm, (by intro h; cases h), .inr ⟨g, 0, rfl, (Array.getElem?_eq_some_iff.1 hg).1, fun i hi j u hu => ?_⟩⟩
    have hj : j < size := by have := (List.getElem?_eq_some_iff.1 hu).1; rw [hc] at this; exact this
    have := hcs g (by rw [hv]; rfl) (i * size + j) u (by rw [flatMap_get hc hi hj]; exact hu)
    rw [Addr.add_lit] at this
    simpa using this
theorem errIs_spotted {B p : Nat} {w' : World} {u : Value} (h : Spotted B p w' u) : ErrIs (2, (p : Int)) B w' u := by
  obtain ⟨g, rfl, hB, hg⟩ := h
  exact .inr (.inr ⟨p, g, rfl, rfl, hB, hg⟩)
/-- What bytes are read as: an error of wire.All, or what is told of their numbers. -/
def rdB {α : Type} (none : α) (rd : List Int → α × Int × Int) (ns rest : List Int) : α × Int × Int := if rest = [] then rd ns else (none, 2, ((encs ns).length : Nat))
def MovesTo (R : List MoveD × Int × Int) (w : World) (e : Ending) (w' : World) : Prop :=
  ∃ A c u, e = .returned (.tuple #[.slice A R.1.length c, u]) ∧ R.1.length ≤ c ∧ c ≤ maxLen ∧ (A = none → c = 0) ∧ Recs 4 cellsM w' w'.heap.size A R.1 ∧ ErrIs R.2 w.heap.size w' u ∧ Below w.heap.size w w'
theorem movesTo_err {R : List MoveD × Int × Int} {w w' : World} {u : Value} (h1 : R.1 = []) (he : ErrIs R.2 w.heap.size w' u) (hb : Below w.heap.size w w') : MovesTo R w (.returned (.tuple #[.slice none 0 0, u])) w' :=
  ⟨none, 0, u, by rw [h1]; rfl, by rw [h1]; exact Nat.le_refl _, by decide, fun _ => rfl, .inl h1, he, hb⟩
theorem nums_pos {l : List Int} (h : Nums l) : ∀ x ∈ l, 0 ≤ x := fun x hx => (h x hx).1
theorem num_of_open {ns : List Int} (h : ¬ ns.length < 1) {m : Int} (hm : ns.getD 0 0 ≤ m) (hm' : m ≤ 2147483647) : (rdNum (ns, false)).1 = ns.getD 0 0 := by
  rw [num_lo (s := (ns, false)) (by show ns.headD 0 ≤ 2147483647; rw [← getD_zero]; omega), getD_zero]

set_option maxHeartbeats 3200000 in
theorem readMoves_any (ns rest : List Int) (A : Option Addr) (n c : Nat) (w : World) (hn : n = (encs ns ++ rest).length) (hl : n ≤ 100000) (hc : n ≤ c) (hc' : c ≤ maxLen) (hns : Nums ns) (hb : Octs rest) (hm : rest = [] ∨ (rest ≠ [] ∧ Miss rest)) (hr : Row w w.heap.size A (u8s (encs ns ++ rest))) :
    Calls Tryz.prog 21 #[.slice A n c] w (MovesTo (rdB [] rdMoves ns rest) w) := by
  have b0 : Below w.heap.size w (w.alloc (.cells #[.int .u64 40] 65)) := (Below.refl _ _).alloc (Nat.le_refl _) _
  have HB0 := Lib.hid b0
  have HO := Lib.hid (open_any ns rest [40] 1 A (some ⟨w.heap.size, 0, none⟩) n c 1 1 (w.alloc (.cells #[.int .u64 40] 65)) hn hl hc hc' hns hb hm ((hr.below b0 (Nat.le_refl _)).more b0.size) rfl (by decide) (by decide) (by intro x hx; simp at hx; omega) (row_at _ w.heap.size 1 _ (by simp) fun j hj => by
    match j, hj with
    | 0, _ => simp))
  have HP := Lib.hid (nums_pos hns)
  have HNS := Lib.hid hns
  clear hn hl hc hc' hns hb hm hr b0
  go_enter Tryz.func21, Tryz.ntmps21
  go_wp2_with fail
  refine HO.out.mono ?_
  clear HO
  rintro e w1 ⟨h, hb1⟩
  have HB1 := Lib.hid (HB0.out.trans (hb1.mono HB0.out.size))
  have hsz0 : w.heap.size ≤ (w.alloc (.cells #[.int .u64 40] 65)).heap.size := HB0.out.size
  clear hb1
  rcases h with ⟨hre, u, rfl, hsp⟩ | ⟨hre, hlt, rfl⟩ | ⟨hre, hle, ⟨i, hi, hgt⟩, rfl⟩ | ⟨hre, hle, hall, r, rfl, hrB, hrd⟩
  · have HE := Lib.hid (show rdB ([] : List MoveD) rdMoves ns rest = ([], 2, (((encs ns).length : Nat) : Int)) from if_neg hre)
    have hsp' := hsp
    obtain ⟨g, rfl, _, _⟩ := hsp
    have HS := Lib.hid hsp'
    clear hsp' hre
    go_wp2
    go_ret2
    unfold MovesTo
    rw [HE.out]
    refine movesTo_err rfl ?_ HB1.out
    obtain ⟨g', e1, e2, e3⟩ := HS.out
    exact errIs_spotted ⟨g', e1, by omega, e3⟩
  · have HE : Hid (rdB [] rdMoves ns rest = ([], 2, -1)) := by show _ = _; rw [rdB, if_pos hre, rdMoves, if_pos hlt]
    clear hre hlt
    go_wp2
    go_ret2
    unfold MovesTo
    rw [HE.out]
    exact movesTo_err rfl (.inr (.inl ⟨rfl, by decide, by decide, rfl⟩)) HB1.out
  · have HE : Hid (rdB [] rdMoves ns rest = ([], 3, -1)) := by
      have hi0 : i = 0 := by simpa using hi
      subst hi0
      show _ = _
      rw [rdB, if_pos hre, rdMoves, if_neg (by omega), if_pos (by simpa using hgt)]
    clear hre hle hi hgt
    go_wp2
    go_ret2
    unfold MovesTo
    rw [HE.out]
    exact movesTo_err rfl (.inr (.inl ⟨rfl, by decide, by decide, rfl⟩)) HB1.out
  · have h40 : ns.getD 0 0 ≤ 40 := by have := hall 0 (by decide); simpa using this
    have HM : Hid (rdB [] rdMoves ns rest = if wellF (mMoves ns).2 = true then ((mMoves ns).1, 0, -1) else ([], 2, -1)) := by
      show _ = _; rw [rdB, if_pos hre, rdMoves_m HP.out (by omega) (by omega)]
    have hx0 : (rdNum (ns, false)).1 = ns.getD 0 0 := num_of_open (by omega) h40 (by decide)
    have hnn : 0 ≤ ns.getD 0 0 := by
      rw [getD_zero]; exact (nums_head HNS.out).1
    have hmm : mMoves ns = rdList rdMove (ns.getD 0 0).toNat (rdNum (ns, false)).2 := by
      show rdList rdMove (rdNum (ns, false)).1.toNat (rdNum (ns, false)).2 = _
      rw [hx0]
    have hrl := hrd.lt
    have HRB : Hid (w.heap.size ≤ r) := by show _ ≤ _; omega
    have HRD := Lib.hid hrd
    clear hre hle hall hrd hrB
    go_wp2_with fail
    refine (number_any (ns, false) r w1 HRD.out).mono ?_
    rw [hx0]
    generalize (rdNum (ns, false)).2 = t at *
    generalize hq : ns.getD 0 0 = q at *
    obtain ⟨many, rfl⟩ : ∃ many : Nat, q = (many : Int) := ⟨q.toNat, by omega⟩
    rw [Int.toNat_natCast] at hmm
    have HMM := Lib.hid hmm
    clear hmm hx0 hq hnn
    rintro e w2 ⟨rfl, hr2, ht2⟩
    have HR2 := Lib.hid hr2
    have HT2 := Lib.hid ht2
    clear hr2 ht2
    go_wp2_with fail
    refine (listM_any t r many w2 (by omega) HR2.out).mono ?_
    rintro e w3 ⟨v, rfl, ho3, hr3, ht3⟩
    rw [← HMM.out] at ho3 hr3
    have HO3 := Lib.hid ho3
    have HR3 := Lib.hid hr3
    have HT3 := Lib.hid (HT2.out.trans ht3)
    clear ho3 hr3 ht3
    go_wp2_with fail
    refine (wellFormed_any _ r w3 HR3.out).mono ?_
    rintro e w4 ⟨rfl, rfl⟩
    have HB3 : Hid (Below w.heap.size w w3) := HB1.out.trans ((HT3.out.below (by omega)).mono HRB.out)
    cases hw : wellF (mMoves ns).2 with
    | false =>
      have HE := Lib.hid (HM.out.trans (if_neg (by rw [hw]; decide)))
      clear hw
      go_wp2
      go_ret2
      unfold MovesTo
      rw [HE.out]
      exact movesTo_err rfl (.inr (.inl ⟨rfl, by decide, by decide, rfl⟩)) HB3.out
    | true =>
      have HE := Lib.hid (HM.out.trans (if_pos hw))
      clear hw
      obtain ⟨A3, c3, rfl, p1, p2, p3, p4⟩ := recs_of_own (cells := cellsM) (size := 4) (fun _ => rfl) rfl HO3.out
      have P4 := Lib.hid p4
      have P3 := Lib.hid p3
      have P2 := Lib.hid p2
      have P1 := Lib.hid p1
      clear p1 p2 p3 p4 HO3
      go_wp2
      go_ret2
      unfold MovesTo
      rw [HE.out]
      exact ⟨A3, c3, .nilIface, rfl, P1.out, P2.out, P3.out, P4.out, .inl ⟨rfl, rfl⟩, HB3.out⟩
end Go.Proofs.YtgfleifpblcnfaaGreatDoor
