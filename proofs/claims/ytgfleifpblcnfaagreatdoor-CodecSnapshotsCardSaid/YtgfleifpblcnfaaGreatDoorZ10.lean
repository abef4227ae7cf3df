/- Joined texts, part 10: GKP GLP FQ GU GX. -/
import Derived.Test.YtgfleifpblcnfaaGreatDoorZ08
import Derived.Test.YtgfleifpblcnfaaGreatDoorZ01
import Derived.Test.YtgfleifpblcnfaaGreatDoorZ09
import Derived.Test.YtgfleifpblcnfaaGreatDoorZ07

/- The program's reader: a pod. -/
namespace Go.Proofs.YtgfleifpblcnfaaGreatDoor
set_option linter.unusedSimpArgs false
open Go.RowKit
set_option linter.unusedVariables false

set_option maxHeartbeats 6400000 in
set_option maxRecDepth 100000 in
theorem readPod_any (s : St) (r : Nat) (w : World) (h : RdAt w r s) :
    Calls Tryz.prog 48 #[.pointer (some ⟨r, 0, none⟩)] w (RdTo (aggP (rdPod s).1) (rdPod s).2 r w) := by
  have K0 := Lib.hid (Reading.start h [.int .i64 0, .int .i64 0, .int .i64 0, .int .u64 0, .int .u64 0, .int .u64 0, .int .u64 0, .int .i64 0] 79)
  clear h
  go_enter Tryz.func48, Tryz.ntmps48
  go_wp2_with fail
  refine (number_any s r _ K0.out.rd).mono ?_
  obtain ⟨x0, s1, hx⟩ := pair_of (rdNum s)
  rw [hx]
  have HX0 := Lib.hid hx
  clear hx
  rintro e w1 ⟨rfl, hr, ht⟩
  have K1 := Lib.hid (K0.out.call hr ht)
  clear hr ht
  have hz0 : w.heap.size + 1 < w1.heap.size := by have := K1.out.size; omega
  obtain ⟨c0, f0⟩ := K1.out.box.at 0 (.int .i64 0) rfl
  have K2 := Lib.hid (K1.out.store 0 (.int .i64 x0))
  go_wp2_with fail
  refine (number_any s1 r _ K2.out.rd).mono ?_
  obtain ⟨x1, s2, hx⟩ := pair_of (rdNum s1)
  rw [hx]
  have HX1 := Lib.hid hx
  clear hx
  rintro e w2 ⟨rfl, hr, ht⟩
  have K3 := Lib.hid (K2.out.call hr ht)
  clear hr ht
  have hz1 : w.heap.size + 1 < w2.heap.size := by have := K3.out.size; omega
  obtain ⟨c1, f1⟩ := K3.out.box.at 1 (.int .i64 0) rfl
  have K4 := Lib.hid (K3.out.store 1 (.int .i64 x1))
  go_wp2_with fail
  refine (number_any s2 r _ K4.out.rd).mono ?_
  obtain ⟨x2, s3, hx⟩ := pair_of (rdNum s2)
  rw [hx]
  have HX2 := Lib.hid hx
  clear hx
  rintro e w3 ⟨rfl, hr, ht⟩
  have K5 := Lib.hid (K4.out.call hr ht)
  clear hr ht
  have hz2 : w.heap.size + 1 < w3.heap.size := by have := K5.out.size; omega
  obtain ⟨c2, f2⟩ := K5.out.box.at 2 (.int .i64 0) rfl
  have K6 := Lib.hid (K5.out.store 2 (.int .i64 x2))
  go_wp2_with fail
  refine (amount_any s3 r _ K6.out.rd).mono ?_
  obtain ⟨x3, s4, hx⟩ := pair_of (rdVec s3)
  rw [hx]
  have HX3 := Lib.hid hx
  clear hx
  rintro e w4 ⟨rfl, hr, ht⟩
  have K7 := Lib.hid (K6.out.call hr ht)
  clear hr ht
  have hz3 : w.heap.size + 1 < w4.heap.size := by have := K7.out.size; omega
  obtain ⟨c3, f3⟩ := K7.out.box.at 3 (.int .u64 0) rfl
  obtain ⟨c4, f4⟩ := K7.out.box.at 4 (.int .u64 0) rfl
  obtain ⟨c5, f5⟩ := K7.out.box.at 5 (.int .u64 0) rfl
  obtain ⟨c6, f6⟩ := K7.out.box.at 6 (.int .u64 0) rfl
  have K8 := Lib.hid (K7.out.store4 3 (.int .u64 x3.a) (.int .u64 x3.b) (.int .u64 x3.c) (.int .u64 x3.d))
  go_wp2_with fail
  refine (number_any s4 r _ K8.out.rd).mono ?_
  obtain ⟨x4, s5, hx⟩ := pair_of (rdNum s4)
  rw [hx]
  have HX4 := Lib.hid hx
  clear hx
  rintro e w5 ⟨rfl, hr, ht⟩
  have K9 := Lib.hid (K8.out.call hr ht)
  clear hr ht
  have hz4 : w.heap.size + 1 < w5.heap.size := by have := K9.out.size; omega
  obtain ⟨c7, f7⟩ := K9.out.box.at 7 (.int .i64 0) rfl
  have K10 := Lib.hid (K9.out.store 7 (.int .i64 x4))
  have c0 := (K9.out.box.at 0 (.int .i64 x0) rfl).1
  have c1 := (K9.out.box.at 1 (.int .i64 x1) rfl).1
  have c2 := (K9.out.box.at 2 (.int .i64 x2) rfl).1
  have c3 := (K9.out.box.at 3 (.int .u64 x3.a) rfl).1
  have c4 := (K9.out.box.at 4 (.int .u64 x3.b) rfl).1
  have c5 := (K9.out.box.at 5 (.int .u64 x3.c) rfl).1
  have c6 := (K9.out.box.at 6 (.int .u64 x3.d) rfl).1
  obtain ⟨d0, g0⟩ := K9.out.res.at 0 (.int .i64 0) rfl
  obtain ⟨d1, g1⟩ := K9.out.res.at 1 (.int .i64 0) rfl
  obtain ⟨d2, g2⟩ := K9.out.res.at 2 (.int .i64 0) rfl
  obtain ⟨d3, g3⟩ := K9.out.res.at 3 (.int .u64 0) rfl
  obtain ⟨d4, g4⟩ := K9.out.res.at 4 (.int .u64 0) rfl
  obtain ⟨d5, g5⟩ := K9.out.res.at 5 (.int .u64 0) rfl
  obtain ⟨d6, g6⟩ := K9.out.res.at 6 (.int .u64 0) rfl
  obtain ⟨d7, g7⟩ := K9.out.res.at 7 (.int .i64 0) rfl
  have HE : Hid (rdPod s = (⟨x0, x1, x2, x3, x4⟩, s5)) := by
    show _ = _
    simp only [rdPod, HX0.out, HX1.out, HX2.out, HX3.out, HX4.out]
  have hzz : w.heap.size < w5.heap.size := by omega
  go_wp2
  refine bodyPost_ret (v := aggP ⟨x0, x1, x2, x3, x4⟩) ?_ rfl ?_
  · simp [results, Tryz.results48, go_sem, *]
  · refine ⟨by rw [HE.out], ?_, ?_⟩
    · rw [HE.out]
      refine (K9.out.end ?_).1
      repeat (first | with_reducible exact Below.refl _ _ | with_reducible refine Below.setCell ?_ ?_ _)
      all_goals (first | (show w.heap.size ≤ w.heap.size; omega) | (show w.heap.size ≤ w.heap.size + 1; omega))
    · refine (K9.out.end ?_).2
      repeat (first | with_reducible exact Below.refl _ _ | with_reducible refine Below.setCell ?_ ?_ _)
      all_goals (first | (show w.heap.size ≤ w.heap.size; omega) | (show w.heap.size ≤ w.heap.size + 1; omega))
end Go.Proofs.YtgfleifpblcnfaaGreatDoor

/- The program's list, at one kind of record. -/
namespace Go.Proofs.YtgfleifpblcnfaaGreatDoor
set_option linter.unusedSimpArgs false
open Go.RowKit
set_option linter.unusedVariables false

theorem Tryz.info79 : (Tryz.prog.info? 79).map (fun i => (i.zero, i.size, i.bytes)) = some (some (.agg #[.int .i64 0, .int .i64 0, .int .i64 0, .int .u64 0, .int .u64 0, .int .u64 0, .int .u64 0, .int .i64 0]), 8, 64) := by kernel_rfl
theorem Tryz.underSlP : Tryz.prog.underlying 24 = some (.slice 79) := by kernel_rfl
theorem one_cellsP (x : PodD) : ∀ u ∈ cellsP x, u.oneCell' = true := by
  intro u hu; simp only [cellsP, List.mem_cons, List.not_mem_nil, or_false] at hu
  rcases hu with rfl | rfl | rfl | rfl | rfl | rfl | rfl | rfl <;> rfl
set_option maxHeartbeats 3200000 in
set_option maxRecDepth 100000 in
theorem listP_any (s : St) (r many : Nat) (w : World) (hm : many ≤ 1000) (h : RdAt w r s) :
    Calls Tryz.prog 47 #[.pointer (some ⟨r, 0, none⟩), .int .i64 (many : Int), .func (.func 48) #[] #[]] w (ListTo 79 8 cellsP (rdList rdPod many s).1 (rdList rdPod many s).2 r w) := by
  have H := Lib.hid h
  have hrl := h.lt
  clear h
  go_enter Tryz.func47, Tryz.ntmps47
  go_wp2
  go_loopw [7, 9] (ListRel 79 8 cellsP rdPod many s r w) (fun _ i _ => many - (intOf i).toNat)
  case atStart => exact ⟨0, [], s, by omega, rfl, rfl, by simp, rfl, H.out, World.ownsRow_nil _ _ _ _, Turn.refl⟩
  case round =>
    obtain ⟨k, acc, t, hk, rfl, hka, he1, he2, hrd, hown, ht⟩ := hrel
    have hz := ht.size
    have HA := Lib.hid hka
    have HE1 := Lib.hid he1
    have HE2 := Lib.hid he2
    have HR := Lib.hid hrd
    have HO := Lib.hid hown
    have HT := Lib.hid ht
    clear hka he1 he2 hrd hown ht
    by_cases hlt : k < many
    · go_wp2_with fail
      go_at_call 48
      refine (readPod_any t r wr HR.out).mono ?_
      obtain ⟨x, t', hx⟩ := pair_of (rdPod t)
      have HS := Lib.hid (list_step hlt hx HE1.out HE2.out)
      rw [hx]
      clear hx
      rintro e w1 ⟨rfl, hr1, ht1⟩
      have hz1 : w.heap.size ≤ w1.heap.size := by have := ht1.size; omega
      have hown1 := own_turn HO.out ht1 hrl
      have HR1 := Lib.hid hr1
      have HT1 := Lib.hid (HT.out.trans ht1)
      clear hr1 ht1
      go_wp2_with (at_builtin; refine wpList_pushN 24 79 (.agg #[.int .i64 0, .int .i64 0, .int .i64 0, .int .u64 0, .int .u64 0, .int .u64 0, .int .u64 0, .int .i64 0]) 8 64 Tryz.underSlP Tryz.info79 rfl (by decide) (by decide) rfl (.tmp 11) (.tmp 15) rfl w.heap.size _ k (acc.flatMap cellsP) (cellsP x) rfl (one_cellsP x) hown1 hz1 (by omega) rfl rfl ?_; intro v' w2 hown2 hb2 hB2)
      go_roundw
      case rel => exact ⟨k + 1, acc ++ [x], t', by omega, by go_num, by have := HA.out; simp; omega, HS.out.1, HS.out.2, HR1.out.below hb2 hrl, by rw [List.flatMap_append]; simpa using hown2, HT1.out.later hb2⟩
      case measure => simp [intOf]; omega
    · obtain rfl : k = many := by omega
      have HP := Lib.hid (list_end HE1.out HE2.out)
      go_wp2
      go_ret
      unfold ListTo
      rw [HP.out]
      exact ⟨_, rfl, by have := HA.out; rw [← this]; exact HO.out, HR.out, HT.out⟩
end Go.Proofs.YtgfleifpblcnfaaGreatDoor

/- What a reader tells fits its kinds. -/
namespace Go.Proofs.YtgfleifpblcnfaaGreatDoor
set_option linter.unusedSimpArgs false
open Go.RowKit
set_option linter.unusedVariables false

theorem nums_tail {l : List Int} (h : Nums l) : Nums l.tail := fun n hn => h n (List.mem_of_mem_tail hn)
theorem nums_getD {l : List Int} (h : Nums l) (k : Nat) : U64 (l.getD k 0) := by
  rw [← drop_headD]; exact nums_head (nums_drop h k)
theorem num_fit {s : St} (h : Nums s.1) : I64 (rdNum s).1 ∧ Nums (rdNum s).2.1 := by
  refine ⟨?_, nums_tail h⟩
  have := nums_head h
  by_cases hs : s.1.headD 0 ≤ 2147483647
  · rw [num_lo hs]; unfold I64; show -9223372036854775808 ≤ s.1.headD 0 ∧ _; omega
  · rw [num_hi (by omega)]; unfold I64; show (-9223372036854775808 : Int) ≤ 0 ∧ (0 : Int) ≤ _; omega
theorem truth_fit {s : St} (h : Nums s.1) : Nums (rdTruth s).2.1 := nums_tail h
theorem vec_fit {s : St} (h : Nums s.1) : (rdVec s).1.Ok ∧ Nums (rdVec s).2.1 :=
  ⟨⟨nums_getD h 0, nums_getD h 1, nums_getD h 2, nums_getD h 3⟩, nums_drop h 4⟩
theorem node_fit {s : St} (h : Nums s.1) : (rdNode s).1.Ok ∧ Nums (rdNode s).2.1 := by
  have a := num_fit h
  have b := num_fit a.2
  have c := vec_fit b.2
  have d := vec_fit c.2
  exact ⟨⟨a.1, b.1, c.1, d.1⟩, d.2⟩
theorem load_fit {s : St} (h : Nums s.1) : (rdLoad s).1.Ok ∧ Nums (rdLoad s).2.1 := by
  have a := num_fit h
  have b := truth_fit a.2
  have c := num_fit b
  have d := num_fit c.2
  have e := num_fit d.2
  exact ⟨⟨a.1, c.1, d.1, e.1⟩, e.2⟩
theorem pod_fit {s : St} (h : Nums s.1) : (rdPod s).1.Ok ∧ Nums (rdPod s).2.1 := by
  have a := num_fit h
  have b := num_fit a.2
  have c := num_fit b.2
  have d := vec_fit c.2
  have e := num_fit d.2
  exact ⟨⟨a.1, b.1, c.1, d.1, e.1⟩, e.2⟩
theorem want_fit {s : St} (h : Nums s.1) : (rdWant s).1.Ok ∧ Nums (rdWant s).2.1 := by
  have a := num_fit h
  have b := vec_fit a.2
  have c := truth_fit b.2
  exact ⟨⟨a.1, b.1⟩, c⟩
theorem list_fit {α : Type} {rd : St → α × St} {P : α → Prop} (hf : ∀ s : St, Nums s.1 → P (rd s).1 ∧ Nums (rd s).2.1) : ∀ (n : Nat) (s : St), Nums s.1 → (∀ x ∈ (rdList rd n s).1, P x) ∧ Nums (rdList rd n s).2.1
  | 0, s, h => ⟨fun x hx => by simp [rdList] at hx, h⟩
  | n + 1, s, h => by
    have a := hf s h
    have b := list_fit hf n (rd s).2 a.2
    refine ⟨fun x hx => ?_, b.2⟩
    rcases List.mem_cons.1 hx with rfl | hx
    · exact a.1
    · exact b.1 x hx
theorem mSnap_fit {l : List Int} (h : Nums l) : (mSnap l).1.Ok := by
  have a := num_fit (s := (l, false)) h
  have b := num_fit a.2
  have c := num_fit b.2
  have n := list_fit (fun s h => node_fit h) (rdNum (l, false)).1.toNat _ c.2
  have o := list_fit (fun s h => load_fit h) (rdNum (rdNum (l, false)).2).1.toNat _ n.2
  have p := list_fit (fun s h => pod_fit h) (rdNum (rdNum (rdNum (l, false)).2).2).1.toNat _ o.2
  exact ⟨n.1, o.1, p.1⟩
theorem mSpec_fit {l : List Int} (h : Nums l) : I64 (mSpec l).1.preempts ∧ I64 (mSpec l).1.shifts ∧ ∀ x ∈ (mSpec l).1.wants, x.Ok := by
  have a := num_fit (s := (l, false)) h
  have b := num_fit a.2
  have c := num_fit b.2
  have n := list_fit (fun s h => want_fit h) (rdNum (l, false)).1.toNat _ c.2
  exact ⟨b.1, c.1, n.1⟩
end Go.Proofs.YtgfleifpblcnfaaGreatDoor

/- The program's ReadSnapshot. -/
namespace Go.Proofs.YtgfleifpblcnfaaGreatDoor
set_option linter.unusedSimpArgs false
open Go.RowKit
set_option linter.unusedVariables false

def SnapTo (R : SnapD × Int × Int) (w : World) (e : Ending) (w' : World) : Prop :=
  ∃ A1 A2 A3 c1 c2 c3 u, e = .returned (.tuple #[snapV A1 A2 A3 R.1.nodes.length c1 R.1.loads.length c2 R.1.pods.length c3, u]) ∧ Out 10 cellsN w' R.1.nodes A1 c1 ∧ Out 5 cellsL w' R.1.loads A2 c2 ∧ Out 8 cellsP w' R.1.pods A3 c3 ∧
    ErrIs R.2 w.heap.size w' u ∧ Below w.heap.size w w'
theorem snapTo_err {R : SnapD × Int × Int} {w w' : World} {u : Value} (h1 : R.1 = noSnap) (he : ErrIs R.2 w.heap.size w' u) (hb : Below w.heap.size w w') : SnapTo R w (.returned (.tuple #[.agg #[.slice none 0 0, .slice none 0 0, .slice none 0 0], u])) w' :=
  ⟨none, none, none, 0, 0, 0, u, by rw [h1]; rfl, .nil (by rw [h1]), .nil (by rw [h1]), .nil (by rw [h1]), he, hb⟩
theorem ErrIs.set {p : Int × Int} {B : Nat} {w : World} {u : Value} (h : ErrIs p B w u) {q : Addr} (hq : q.block < B) (v : Value) : ErrIs p B (w.setCell q v) u := by
  rcases h with h | h | ⟨k, g, h1, h2, h3, h4⟩
  · exact .inl h
  · exact .inr (.inl h)
  · exact .inr (.inr ⟨k, g, h1, h2, h3, (Below.heap_setCell w q v g (by omega)).trans h4⟩)
theorem ErrIs.less {p : Int × Int} {B B' : Nat} {w : World} {u : Value} (h : ErrIs p B w u) (hB : B' ≤ B) : ErrIs p B' w u := by
  rcases h with h | h | ⟨k, g, h1, h2, h3, h4⟩
  · exact .inl h
  · exact .inr (.inl h)
  · exact .inr (.inr ⟨k, g, h1, h2, by omega, h4⟩)

set_option maxHeartbeats 12800000 in
set_option maxRecDepth 100000 in
theorem readSnapshot_any (ns rest : List Int) (A : Option Addr) (n c : Nat) (w : World) (hn : n = (encs ns ++ rest).length) (hl : n ≤ 100000) (hc : n ≤ c) (hc' : c ≤ maxLen) (hns : Nums ns) (hb : Octs rest) (hm : rest = [] ∨ (rest ≠ [] ∧ Miss rest)) (hr : Row w w.heap.size A (u8s (encs ns ++ rest))) :
    Calls Tryz.prog 12 #[.slice A n c] w (SnapTo (rdB noSnap rdSnap ns rest) w) := by
  have b0 := below_two w (.cells #[.slice none 0 0, .slice none 0 0, .slice none 0 0] 26) (.cells #[.int .u64 8, .int .u64 8, .int .u64 12] 65)
  have HX := Lib.hid ((Box.new w [.slice none 0 0, .slice none 0 0, .slice none 0 0] 26).alloc (.cells #[.int .u64 8, .int .u64 8, .int .u64 12] 65))
  have HB0 := Lib.hid b0
  have HO := Lib.hid (open_any ns rest [8, 8, 12] 3 A (some ⟨w.heap.size + 1, 0, none⟩) n c 3 3 ((w.alloc (.cells #[.slice none 0 0, .slice none 0 0, .slice none 0 0] 26)).alloc (.cells #[.int .u64 8, .int .u64 8, .int .u64 12] 65)) hn hl hc hc' hns hb hm ((hr.below b0 (Nat.le_refl _)).more b0.size) rfl (by decide) (by decide) (by intro x hx; simp at hx; omega) (row_at _ (w.heap.size + 1) 3 _ (by simp) fun j hj => by
    match j, hj with
    | 0, _ => simp
    | 1, _ => simp
    | 2, _ => simp))
  have HP := Lib.hid (nums_pos hns)
  have HNS := Lib.hid hns
  clear hn hl hc hc' hns hb hm hr b0
  go_enter Tryz.func12, Tryz.ntmps12
  go_wp2_with fail
  refine HO.out.mono ?_
  clear HO
  rintro e w1 ⟨h, hb1⟩
  have hz0 : w.heap.size + 2 ≤ w1.heap.size := by have := hb1.size; simpa using this
  have HB1 := Lib.hid (HB0.out.trans (hb1.mono HB0.out.size))
  have HX1 : Hid (Box w1 w.heap.size [.slice none 0 0, .slice none 0 0, .slice none 0 0]) := HX.out.turn (Turn.of_below (r := w1.heap.size) hb1) (by omega)
  obtain ⟨g0, k0⟩ := HX1.out.at 0 (.slice none 0 0) rfl
  obtain ⟨g1, k1⟩ := HX1.out.at 1 (.slice none 0 0) rfl
  obtain ⟨g2, k2⟩ := HX1.out.at 2 (.slice none 0 0) rfl
  have hwl : w.heap.size < w1.heap.size := by omega
  have hsz : w.heap.size + 2 = ((w.alloc (.cells #[.slice none 0 0, .slice none 0 0, .slice none 0 0] 26)).alloc (.cells #[.int .u64 8, .int .u64 8, .int .u64 12] 65)).heap.size := by simp
  rw [← hsz] at h
  clear hb1 HX hsz
  have HBEE : Hid (∀ x0 x1 x2 : Value, Below w.heap.size w (((w1.setCell ⟨w.heap.size, 0, none⟩ x0).setCell ⟨w.heap.size, 1, none⟩ x1).setCell ⟨w.heap.size, 2, none⟩ x2)) := fun x0 x1 x2 => ((HB1.out.setCell (p := ⟨w.heap.size, 0, none⟩) (Nat.le_refl _) x0).setCell (p := ⟨w.heap.size, 1, none⟩) (Nat.le_refl _) x1).setCell (p := ⟨w.heap.size, 2, none⟩) (Nat.le_refl _) x2
  rcases h with ⟨hre, u, rfl, hsp⟩ | ⟨hre, hlt, rfl⟩ | ⟨hre, hle, ⟨i, hi, hgt⟩, rfl⟩ | ⟨hre, hle, hall, r, rfl, hrB, hrd⟩
  · have HE := Lib.hid (show rdB noSnap rdSnap ns rest = (noSnap, 2, (((encs ns).length : Nat) : Int)) from if_neg hre)
    have hsp' := hsp
    obtain ⟨g, rfl, _, _⟩ := hsp
    have HS := Lib.hid hsp'
    clear hsp' hre
    go_wp2
    refine bodyPost_ret (v := .tuple #[.agg #[.slice none 0 0, .slice none 0 0, .slice none 0 0], .iface 131 (.pointer (some ⟨g, 0, none⟩))]) ?_ rfl ?_
    · simp [results, Tryz.results12, go_sem, *]
    · unfold SnapTo
      rw [HE.out]
      refine snapTo_err rfl (errIs_spotted (p := (encs ns).length) ?_) (HBEE.out _ _ _)
      exact (((HS.out.set (by show w.heap.size < w.heap.size + 2; omega) _).set (by show w.heap.size < w.heap.size + 2; omega) _).set (by show w.heap.size < w.heap.size + 2; omega) _).less (by omega)
  · have HE : Hid (rdB noSnap rdSnap ns rest = (noSnap, 2, -1)) := by show _ = _; rw [rdB, if_pos hre, rdSnap, if_pos hlt]
    clear hre hlt
    go_wp2
    refine bodyPost_ret (v := .tuple #[.agg #[.slice none 0 0, .slice none 0 0, .slice none 0 0], .iface 52 (.int .i64 2)]) ?_ rfl ?_
    · simp [results, Tryz.results12, go_sem, *]
    · unfold SnapTo
      rw [HE.out]
      exact snapTo_err rfl (.inr (.inl ⟨rfl, by decide, by decide, rfl⟩)) (HBEE.out _ _ _)
  · have HE : Hid (rdB noSnap rdSnap ns rest = (noSnap, 3, -1)) := by
      have h3 : 8 < ns.getD 0 0 ∨ 8 < ns.getD 1 0 ∨ 12 < ns.getD 2 0 := by
        match i, hi with
        | 0, _ => exact .inl (by simpa using hgt)
        | 1, _ => exact .inr (.inl (by simpa using hgt))
        | 2, _ => exact .inr (.inr (by simpa using hgt))
      show _ = _
      rw [rdB, if_pos hre, rdSnap, if_neg (by omega), if_pos h3]
    clear hre hle hi hgt
    go_wp2
    refine bodyPost_ret (v := .tuple #[.agg #[.slice none 0 0, .slice none 0 0, .slice none 0 0], .iface 52 (.int .i64 3)]) ?_ rfl ?_
    · simp [results, Tryz.results12, go_sem, *]
    · unfold SnapTo
      rw [HE.out]
      exact snapTo_err rfl (.inr (.inl ⟨rfl, by decide, by decide, rfl⟩)) (HBEE.out _ _ _)
  · have q0 : ns.getD 0 0 ≤ 8 := by have := hall 0 (by decide); simpa using this
    have q1 : ns.getD 1 0 ≤ 8 := by have := hall 1 (by decide); simpa using this
    have q2 : ns.getD 2 0 ≤ 12 := by have := hall 2 (by decide); simpa using this
    have HM : Hid (rdB noSnap rdSnap ns rest = if wellF (mSnap ns).2 = true then (if (check (mSnap ns).1).1 ≠ 0 then (noSnap, check (mSnap ns).1) else ((mSnap ns).1, 0, -1)) else (noSnap, 2, -1)) := by
      show _ = _; rw [rdB, if_pos hre, rdSnap_m HP.out (by omega) (by omega)]
    have HFIT := Lib.hid (mSnap_fit HNS.out)
    obtain ⟨a, b, d, l, hl3⟩ : ∃ a b d l, ns = a :: b :: d :: l := by
      match ns, hle with
      | a :: b :: d :: l, _ => exact ⟨a, b, d, l, rfl⟩
    have hpa : 0 ≤ a := HP.out a (by rw [hl3]; simp)
    have hpb : 0 ≤ b := HP.out b (by rw [hl3]; simp)
    have hpd : 0 ≤ d := HP.out d (by rw [hl3]; simp)
    have ha : a ≤ 8 := by rw [hl3] at q0; simpa using q0
    have hb : b ≤ 8 := by rw [hl3] at q1; simpa using q1
    have hd : d ≤ 12 := by rw [hl3] at q2; simpa using q2
    obtain ⟨m1, rfl⟩ : ∃ m : Nat, a = (m : Int) := ⟨a.toNat, by omega⟩
    obtain ⟨m2, rfl⟩ : ∃ m : Nat, b = (m : Int) := ⟨b.toNat, by omega⟩
    obtain ⟨m3, rfl⟩ : ∃ m : Nat, d = (m : Int) := ⟨d.toNat, by omega⟩
    have hn1 : rdNum (ns, false) = ((m1 : Int), (m2 : Int) :: (m3 : Int) :: l, false) := by rw [hl3]; exact num_small (small_of (by omega)) _
    have hn2 : rdNum ((m2 : Int) :: (m3 : Int) :: l, false) = ((m2 : Int), (m3 : Int) :: l, false) := num_small (small_of (by omega)) _
    have hn3 : rdNum ((m3 : Int) :: l, false) = ((m3 : Int), l, false) := num_small (small_of (by omega)) _
    have hmm : mSnap ns = (⟨(rdList rdNode m1 (l, false)).1, (rdList rdLoad m2 (rdList rdNode m1 (l, false)).2).1, (rdList rdPod m3 (rdList rdLoad m2 (rdList rdNode m1 (l, false)).2).2).1⟩, (rdList rdPod m3 (rdList rdLoad m2 (rdList rdNode m1 (l, false)).2).2).2) := by
      unfold mSnap
      simp only [hn1, hn2, hn3, Int.toNat_natCast]
    have HMM := Lib.hid hmm
    have HN1 := Lib.hid hn1
    have HN2 := Lib.hid hn2
    have HN3 := Lib.hid hn3
    have hrl := hrd.lt
    have HRB : Hid (w.heap.size + 2 ≤ r) := hrB
    have HRD := Lib.hid hrd
    clear hre hle hall hrd hrB hmm hn1 hn2 hn3 hpa hpb hpd q0 q1 q2 hl3 g0 g1 g2 k0 k1 k2
    have ha' : m1 ≤ 8 := by omega
    have hb' : m2 ≤ 8 := by omega
    have hd' : m3 ≤ 12 := by omega
    clear ha hb hd
    go_wp2_with fail
    refine (number_any (ns, false) r w1 HRD.out).mono ?_
    rw [HN1.out]
    rintro e w2 ⟨rfl, hr2, ht2⟩
    have HR2 := Lib.hid hr2
    have HT2 := Lib.hid ht2
    clear hr2 ht2
    go_wp2_with fail
    refine (number_any _ r w2 HR2.out).mono ?_
    rw [HN2.out]
    rintro e w3 ⟨rfl, hr3, ht3⟩
    have HR3 := Lib.hid hr3
    have HT3 := Lib.hid (HT2.out.trans ht3)
    clear hr3 ht3
    go_wp2_with fail
    refine (number_any _ r w3 HR3.out).mono ?_
    rw [HN3.out]
    rintro e w4 ⟨rfl, hr4, ht4⟩
    have ht4 := HT3.out.trans ht4
    have hz4 : w.heap.size + 2 ≤ w4.heap.size := by have := ht4.size; omega
    have HX4 := Lib.hid (HX1.out.turn ht4 (by have := HRB.out; omega))
    have K0 := Lib.hid (Putting.start hr4 (HB1.out.trans ((ht4.below (Nat.le_of_lt hrl)).mono (by have := HRB.out; omega))) HX4.out (by have := HRB.out; omega) ⟨Nat.le_refl _, by have := HRB.out; omega⟩ [.slice none 0 0, .slice none 0 0, .slice none 0 0] 26)
    have hxb : r < w4.heap.size := hr4.lt
    have hs4 : (w4.alloc (.cells #[.slice none 0 0, .slice none 0 0, .slice none 0 0] 26)).heap.size = w4.heap.size + 1 := by simp
    clear hr4 ht4 HR2 HR3 HT2 HT3 HN1 HN2 HN3
    go_wp2_with fail
    refine (listN_any (l, false) r m1 _ (by omega) K0.out.rd).mono ?_
    obtain ⟨xs1, t1, hx⟩ := pair_of (rdList rdNode m1 (l, false))
    have HL1 : Hid (xs1.length = m1) := by have := list_length (rd := rdNode) m1 (l, false); rw [hx] at this; exact this
    rw [hx] at HMM ⊢
    clear hx
    rintro e w5 ⟨v, rfl, ho, hr5, ht5⟩
    obtain ⟨A1, c1, rfl, _⟩ := recs_of_own (cells := cellsN) (size := 10) (fun _ => rfl) rfl ho
    simp only [hs4] at ho
    have hll := HL1.out
    generalize hq : xs1.length = n1 at ho hll ⊢
    subst hll
    have K1 := Lib.hid (K0.out.call hr5 ht5)
    clear hr5 ht5
    have hl5 : w4.heap.size < w5.heap.size := K1.out.hxb.2
    obtain ⟨c0, f0⟩ := K1.out.box.at 0 (.slice none 0 0) rfl
    have K2 := Lib.hid (K1.out.store 0 (.slice A1 n1 c1))
    have HO1 := Lib.hid (own_set ho (p := ⟨w4.heap.size, 0, none⟩) (by show w4.heap.size < w4.heap.size + 1; omega) (.slice A1 n1 c1))
    have HQ1 := Lib.hid hq
    have hs5 : (w5.setCell ⟨w4.heap.size, 0, none⟩ (.slice A1 n1 c1)).heap.size = w5.heap.size := by simp
    clear ho hq
    go_wp2_with fail
    refine (listL_any t1 r m2 _ (by omega) K2.out.rd).mono ?_
    obtain ⟨xs2, t2, hx⟩ := pair_of (rdList rdLoad m2 t1)
    have HL2 : Hid (xs2.length = m2) := by have := list_length (rd := rdLoad) m2 t1; rw [hx] at this; exact this
    rw [hx] at HMM ⊢
    clear hx
    rintro e w6 ⟨v, rfl, ho, hr6, ht6⟩
    obtain ⟨A2, c2, rfl, _⟩ := recs_of_own (cells := cellsL) (size := 5) (fun _ => rfl) rfl ho
    simp only [hs5] at ho
    have hll := HL2.out
    generalize hq : xs2.length = n2 at ho hll ⊢
    subst hll
    have K3 := Lib.hid (K2.out.call hr6 ht6)
    have HO2a := Lib.hid (own_turn HO1.out ht6 (by omega))
    clear hr6 ht6 c0 f0
    have hl6 : w4.heap.size < w6.heap.size := K3.out.hxb.2
    obtain ⟨c0, f0⟩ := K3.out.box.at 1 (.slice none 0 0) rfl
    have K4 := Lib.hid (K3.out.store 1 (.slice A2 n2 c2))
    have HO2 := Lib.hid (own_set ho (p := ⟨w4.heap.size, 1, none⟩) (by show w4.heap.size < w5.heap.size; omega) (.slice A2 n2 c2))
    have HO2b := Lib.hid (own_set HO2a.out (p := ⟨w4.heap.size, 1, none⟩) (by show w4.heap.size < w4.heap.size + 1; omega) (.slice A2 n2 c2))
    have HQ2 := Lib.hid hq
    have hs6 : (w6.setCell ⟨w4.heap.size, 1, none⟩ (.slice A2 n2 c2)).heap.size = w6.heap.size := by simp
    clear ho hq HO1 HO2a
    go_wp2_with fail
    refine (listP_any t2 r m3 _ (by omega) K4.out.rd).mono ?_
    obtain ⟨xs3, t3, hx⟩ := pair_of (rdList rdPod m3 t2)
    have HL3 : Hid (xs3.length = m3) := by have := list_length (rd := rdPod) m3 t2; rw [hx] at this; exact this
    rw [hx] at HMM ⊢
    clear hx
    rintro e w7 ⟨v, rfl, ho, hr7, ht7⟩
    obtain ⟨A3, c3, rfl, _⟩ := recs_of_own (cells := cellsP) (size := 8) (fun _ => rfl) rfl ho
    simp only [hs6] at ho
    have hll := HL3.out
    generalize hq : xs3.length = n3 at ho hll ⊢
    subst hll
    have K5 := Lib.hid (K4.out.call hr7 ht7)
    have HO3a := Lib.hid (own_turn HO2.out ht7 (by omega))
    have HO3b := Lib.hid (own_turn HO2b.out ht7 (by omega))
    clear hr7 ht7 c0 f0
    have hl7 : w4.heap.size < w7.heap.size := K5.out.hxb.2
    obtain ⟨c0, f0⟩ := K5.out.box.at 2 (.slice none 0 0) rfl
    have K6 := Lib.hid (K5.out.store 2 (.slice A3 n3 c3))
    have HP3 := Lib.hid (own_set ho (p := ⟨w4.heap.size, 2, none⟩) (by show w4.heap.size < w6.heap.size; omega) (.slice A3 n3 c3))
    have HP2 := Lib.hid (own_set HO3a.out (p := ⟨w4.heap.size, 2, none⟩) (by show w4.heap.size < w5.heap.size; omega) (.slice A3 n3 c3))
    have HP1 := Lib.hid (own_set HO3b.out (p := ⟨w4.heap.size, 2, none⟩) (by show w4.heap.size < w4.heap.size + 1; omega) (.slice A3 n3 c3))
    have HQ3 := Lib.hid hq
    clear ho hq HO2 HO2b HO3a HO3b
    go_wp2_with fail
    refine (wellFormed_any _ r _ K6.out.rd).mono ?_
    rintro e w8 ⟨rfl, rfl⟩
    have hl8 : w4.heap.size < (w7.setCell ⟨w4.heap.size, 2, none⟩ (.slice A3 n3 c3)).heap.size := by simpa using hl7
    generalize hW : w7.setCell ⟨w4.heap.size, 2, none⟩ (.slice A3 n3 c3) = W at *
    clear hW c0 f0
    have hl9 : w.heap.size < W.heap.size := by omega
    obtain ⟨d0, _⟩ := K6.out.box.at 0 (.slice A1 n1 c1) rfl
    obtain ⟨d1, _⟩ := K6.out.box.at 1 (.slice A2 n2 c2) rfl
    obtain ⟨d2, _⟩ := K6.out.box.at 2 (.slice A3 n3 c3) rfl
    obtain ⟨g0, k0⟩ := K6.out.res.at 0 (.slice none 0 0) rfl
    obtain ⟨g1, k1⟩ := K6.out.res.at 1 (.slice none 0 0) rfl
    obtain ⟨g2, k2⟩ := K6.out.res.at 2 (.slice none 0 0) rfl
    clear HBEE HX1 HX4 K0 K1 K2 K3 K4 K5
    cases hw : wellF (mSnap ns).2 with
    | false =>
      have HE := Lib.hid (HM.out.trans (if_neg (by rw [hw]; decide)))
      have hw' : wellF t3 = false := by have := HMM.out; rw [this] at hw; exact hw
      have HBEE : Hid (∀ x0 x1 x2 : Value, Below w.heap.size w (((W.setCell ⟨w.heap.size, 0, none⟩ x0).setCell ⟨w.heap.size, 1, none⟩ x1).setCell ⟨w.heap.size, 2, none⟩ x2)) := fun x0 x1 x2 => ((K6.out.below.setCell (p := ⟨w.heap.size, 0, none⟩) (Nat.le_refl _) x0).setCell (p := ⟨w.heap.size, 1, none⟩) (Nat.le_refl _) x1).setCell (p := ⟨w.heap.size, 2, none⟩) (Nat.le_refl _) x2
      clear hw
      go_wp2
      refine bodyPost_ret (v := .tuple #[.agg #[.slice none 0 0, .slice none 0 0, .slice none 0 0], .iface 52 (.int .i64 2)]) ?_ rfl ?_
      · simp [results, Tryz.results12, go_sem, *]
      · unfold SnapTo
        rw [HE.out]
        exact snapTo_err rfl (.inr (.inl ⟨rfl, by decide, by decide, rfl⟩)) (HBEE.out _ _ _)
    | true =>
      have HE := Lib.hid (HM.out.trans (if_pos hw))
      have hw' : wellF t3 = true := by have := HMM.out; rw [this] at hw; exact hw
      clear hw
      have HS : Hid ((mSnap ns).1 = ⟨xs1, xs2, xs3⟩) := by show _ = _; rw [HMM.out]
      have o1 := out_of_own (cells := cellsN) (size := 10) (fun _ => rfl) HQ1.out.symm HP1.out
      have o2 := out_of_own (cells := cellsL) (size := 5) (fun _ => rfl) HQ2.out.symm HP2.out
      have o3 := out_of_own (cells := cellsP) (size := 8) (fun _ => rfl) HQ3.out.symm HP3.out
      have z1 := HQ1.out
      have z2 := HQ2.out
      have z3 := HQ3.out
      have HC := Lib.hid (check_holds ⟨xs1, xs2, xs3⟩ A1 A2 A3 n1 c1 n2 c2 n3 c3 W.heap.size W (by have := HFIT.out; rw [HS.out] at this; exact this) HQ1.out.symm HQ2.out.symm HQ3.out.symm (by omega) (by omega) (by omega) (by have := o1.1; omega) (by have := o2.1; omega) (by have := o3.1; omega) o1.2.1 o2.2.1 o3.2.1 (Nat.le_refl _) o1.2.2.2 o2.2.2.2 o3.2.2.2)
      clear o1 o2 o3 z1 z2 z3
      go_wp2_with fail
      refine HC.out.mono ?_
      clear HC
      rintro e w9 ⟨u, rfl, hu, hb9⟩
      have hl10 : w.heap.size < w9.heap.size := by have := hb9.size; omega
      have hl11 : w4.heap.size < w9.heap.size := by have := hb9.size; omega
      have j0 : w9.cell? ⟨w4.heap.size, 0, none⟩ = some (.slice A1 n1 c1) := (hb9.cell (p := ⟨w4.heap.size, 0, none⟩) hl8).trans d0
      have j1 : w9.cell? ⟨w4.heap.size, 1, none⟩ = some (.slice A2 n2 c2) := (hb9.cell (p := ⟨w4.heap.size, 1, none⟩) hl8).trans d1
      have j2 : w9.cell? ⟨w4.heap.size, 2, none⟩ = some (.slice A3 n3 c3) := (hb9.cell (p := ⟨w4.heap.size, 2, none⟩) hl8).trans d2
      have g0 : w9.cell? ⟨w.heap.size, 0, none⟩ = some (.slice none 0 0) := (hb9.cell (p := ⟨w.heap.size, 0, none⟩) hl9).trans g0
      have g1 : w9.cell? ⟨w.heap.size, 1, none⟩ = some (.slice none 0 0) := (hb9.cell (p := ⟨w.heap.size, 1, none⟩) hl9).trans g1
      have g2 : w9.cell? ⟨w.heap.size, 2, none⟩ = some (.slice none 0 0) := (hb9.cell (p := ⟨w.heap.size, 2, none⟩) hl9).trans g2
      have k0 : w9.frozen? ⟨w.heap.size, 0, none⟩ = false := (hb9.frozen (p := ⟨w.heap.size, 0, none⟩) hl9).trans k0
      have k1 : w9.frozen? ⟨w.heap.size, 1, none⟩ = false := (hb9.frozen (p := ⟨w.heap.size, 1, none⟩) hl9).trans k1
      have k2 : w9.frozen? ⟨w.heap.size, 2, none⟩ = false := (hb9.frozen (p := ⟨w.heap.size, 2, none⟩) hl9).trans k2
      have HW : Hid (Below w.heap.size w w9) := K6.out.below.trans (hb9.mono K6.out.below.size)
      have HBEE : Hid (∀ x0 x1 x2 : Value, Below w.heap.size w (((w9.setCell ⟨w.heap.size, 0, none⟩ x0).setCell ⟨w.heap.size, 1, none⟩ x1).setCell ⟨w.heap.size, 2, none⟩ x2)) := fun x0 x1 x2 => ((HW.out.setCell (p := ⟨w.heap.size, 0, none⟩) (Nat.le_refl _) x0).setCell (p := ⟨w.heap.size, 1, none⟩) (Nat.le_refl _) x1).setCell (p := ⟨w.heap.size, 2, none⟩) (Nat.le_refl _) x2
      have R1 := Lib.hid (own_later HP1.out hb9)
      have R2 := Lib.hid (own_later HP2.out hb9)
      have R3 := Lib.hid (own_later HP3.out hb9)
      clear d0 d1 d2 HP1 HP2 HP3
      rw [HS.out] at HE
      by_cases hck : (check ⟨xs1, xs2, xs3⟩).1 = 0
      · have HE2 := Lib.hid (HE.out.trans (if_neg (by simpa using hck)))
        obtain rfl := errIs_none hu hck (by rw [check_zero hck])
        clear hu hck hb9
        have S1 := Lib.hid (own_set (own_set (own_set R1.out (p := ⟨w.heap.size, 0, none⟩) (by show w.heap.size < _; omega) (.slice A1 n1 c1)) (p := ⟨w.heap.size, 1, none⟩) (by show w.heap.size < _; omega) (.slice A2 n2 c2)) (p := ⟨w.heap.size, 2, none⟩) (by show w.heap.size < _; omega) (.slice A3 n3 c3))
        have S2 := Lib.hid (own_set (own_set (own_set R2.out (p := ⟨w.heap.size, 0, none⟩) (by show w.heap.size < _; omega) (.slice A1 n1 c1)) (p := ⟨w.heap.size, 1, none⟩) (by show w.heap.size < _; omega) (.slice A2 n2 c2)) (p := ⟨w.heap.size, 2, none⟩) (by show w.heap.size < _; omega) (.slice A3 n3 c3))
        have S3 := Lib.hid (own_set (own_set (own_set R3.out (p := ⟨w.heap.size, 0, none⟩) (by show w.heap.size < _; omega) (.slice A1 n1 c1)) (p := ⟨w.heap.size, 1, none⟩) (by show w.heap.size < _; omega) (.slice A2 n2 c2)) (p := ⟨w.heap.size, 2, none⟩) (by show w.heap.size < _; omega) (.slice A3 n3 c3))
        clear R1 R2 R3
        go_wp2
        refine bodyPost_ret (v := .tuple #[snapV A1 A2 A3 n1 c1 n2 c2 n3 c3, .nilIface]) ?_ rfl ?_
        · simp [results, Tryz.results12, go_sem, *]
        · have o1 := out_of_own (cells := cellsN) (size := 10) (fun _ => rfl) HQ1.out.symm S1.out
          have o2 := out_of_own (cells := cellsL) (size := 5) (fun _ => rfl) HQ2.out.symm S2.out
          have o3 := out_of_own (cells := cellsP) (size := 8) (fun _ => rfl) HQ3.out.symm S3.out
          unfold SnapTo
          rw [HE2.out]
          exact ⟨A1, A2, A3, c1, c2, c3, .nilIface, by rw [← HQ1.out, ← HQ2.out, ← HQ3.out], o1, o2, o3, .inl ⟨rfl, rfl⟩, HBEE.out _ _ _⟩
      · have HE2 := Lib.hid (HE.out.trans (if_pos (by simpa using hck)))
        have HU := Lib.hid hu
        obtain ⟨t, v, rfl⟩ := errIs_some hu hck
        clear hu hck hb9
        go_wp2
        refine bodyPost_ret (v := .tuple #[.agg #[.slice none 0 0, .slice none 0 0, .slice none 0 0], .iface t v]) ?_ rfl ?_
        · simp [results, Tryz.results12, go_sem, *]
        · unfold SnapTo
          rw [HE2.out]
          refine snapTo_err rfl ?_ (HBEE.out _ _ _)
          exact (((HU.out.set (by show w.heap.size < W.heap.size; omega) _).set (by show w.heap.size < W.heap.size; omega) _).set (by show w.heap.size < W.heap.size; omega) _).less (by omega)
end Go.Proofs.YtgfleifpblcnfaaGreatDoor

namespace Go.Proofs.YtgfleifpblcnfaaGreatDoor
set_option linter.unusedSimpArgs false
open Go.RowKit
set_option linter.unusedVariables false

theorem snap_okn {s : SnapD} (h : (check s).1 = 0) (hok : s.Ok) : (∀ x ∈ s.nodes, OknN x) ∧ (∀ x ∈ s.loads, OknL x) ∧ (∀ x ∈ s.pods, OknP x) ∧ Nums (snapNums s) := by
  obtain ⟨hlg, h1, h2, h3⟩ := check_ok.1 h
  have n1 := firstBad_each h1
  have n2 := firstBad_each h2
  have n3 := firstBad_each h3
  have hsz : ¬ (s.nodes.length = 0 ∨ 8 < s.nodes.length ∨ 8 < s.loads.length ∨ 12 < s.pods.length) := by simpa only [large, decide_eq_false_iff_not] using hlg
  have f1 : ∀ x ∈ s.nodes, OknN x := fun x hx => by
    obtain ⟨la, hb⟩ := n1 x hx
    have := node_ok hb
    exact ⟨by omega, by omega⟩
  have f2 : ∀ x ∈ s.loads, OknL x := fun x hx => by
    obtain ⟨la, hb⟩ := n2 x hx
    have := load_ok hb
    exact ⟨by omega, by omega, by omega, by omega⟩
  have f3 : ∀ x ∈ s.pods, OknP x := fun x hx => by
    obtain ⟨la, hb⟩ := n3 x hx
    obtain ⟨a1, a2, a3, ⟨y, hy, ey⟩, a5⟩ := pod_ok hb
    obtain ⟨lb, hlb⟩ := n2 y hy
    have := load_ok hlb
    have hn : 0 ≤ x.node ∧ x.node ≤ 2147483647 := by
      rcases a5 with a5 | ⟨z, hz, ez⟩
      · omega
      · obtain ⟨lc, hlc⟩ := n1 z hz
        have := node_ok hlc
        omega
    exact ⟨by omega, by omega, by omega, by omega⟩
  have t31 : ∀ {n : Int}, I31 n → U64 n := fun h => by unfold U64; omega
  refine ⟨f1, f2, f3, fun n hn => ?_⟩
  rcases List.mem_append.1 hn with hn | hn
  · simp only [List.mem_cons, List.not_mem_nil, or_false] at hn
    rcases hn with rfl | rfl | rfl <;> omega
  rcases List.mem_append.1 hn with hn | hn
  · obtain ⟨y, hy, hn⟩ := List.mem_flatMap.1 hn
    obtain ⟨g1, g2⟩ := f1 y hy
    obtain ⟨o1, o2, ⟨o3, o4, o5, o6⟩, o7, o8, o9, o10⟩ := hok.1 y hy
    simp only [nodeK, List.mem_cons, List.not_mem_nil, or_false] at hn
    rcases hn with rfl | rfl | rfl | rfl | rfl | rfl | rfl | rfl | rfl | rfl
    · exact t31 g1
    · exact t31 g2
    · exact o3
    · exact o4
    · exact o5
    · exact o6
    · exact o7
    · exact o8
    · exact o9
    · exact o10
  rcases List.mem_append.1 hn with hn | hn
  · obtain ⟨y, hy, hn⟩ := List.mem_flatMap.1 hn
    obtain ⟨g1, g2, g3, g4⟩ := f2 y hy
    simp only [loadK, List.mem_cons, List.not_mem_nil, or_false] at hn
    rcases hn with rfl | rfl | rfl | rfl | rfl
    · exact t31 g1
    · exact t31 (i31_truth _)
    · exact t31 g2
    · exact t31 g3
    · exact t31 g4
  · obtain ⟨y, hy, hn⟩ := List.mem_flatMap.1 hn
    obtain ⟨g1, g2, g3, g4⟩ := f3 y hy
    obtain ⟨o1, o2, o3, ⟨o4, o5, o6, o7⟩, o8⟩ := hok.2.2 y hy
    simp only [podK, List.mem_cons, List.not_mem_nil, or_false] at hn
    rcases hn with rfl | rfl | rfl | rfl | rfl | rfl | rfl | rfl
    · exact t31 g1
    · exact t31 g2
    · exact t31 g3
    · exact o4
    · exact o5
    · exact o6
    · exact o7
    · exact t31 g4

def SnapWTo (s : SnapD) (w : World) (e : Ending) (w' : World) : Prop :=
  ((check s).1 = 0 ∧ WriteTo true (snapNums s) w e w') ∨ ((check s).1 ≠ 0 ∧ ∃ u, e = .returned (.tuple #[.slice none 0 0, u]) ∧ ErrIs (check s) w.heap.size w' u ∧ Below w.heap.size w w')

set_option maxHeartbeats 6400000 in
set_option maxRecDepth 100000 in
theorem snapshot_any (s : SnapD) (A1 A2 A3 : Option Addr) (n1 c1 n2 c2 n3 c3 : Nat) (w : World) (hok : s.Ok) (hn1 : n1 = s.nodes.length) (hn2 : n2 = s.loads.length) (hn3 : n3 = s.pods.length) (hl1 : n1 ≤ 40) (hl2 : n2 ≤ 40) (hl3 : n3 ≤ 40)
    (p1 : n1 ≤ c1) (p2 : n2 ≤ c2) (p3 : n3 ≤ c3) (q1 : c1 ≤ maxLen) (q2 : c2 ≤ maxLen) (q3 : c3 ≤ maxLen)
    (hr1 : Recs 10 cellsN w w.heap.size A1 s.nodes) (hr2 : Recs 5 cellsL w w.heap.size A2 s.loads) (hr3 : Recs 8 cellsP w w.heap.size A3 s.pods) :
    Calls Tryz.prog 7 #[snapV A1 A2 A3 n1 c1 n2 c2 n3 c3] w (SnapWTo s w) := by
  have b00 : Below w.heap.size w (w.alloc (.cells #[.slice A1 n1 c1, .slice A2 n2 c2, .slice A3 n3 c3] 26)) := (Below.refl _ _).alloc (Nat.le_refl _) _
  have HC := Lib.hid (check_holds s A1 A2 A3 n1 c1 n2 c2 n3 c3 w.heap.size (w.alloc (.cells #[.slice A1 n1 c1, .slice A2 n2 c2, .slice A3 n3 c3] 26)) hok hn1 hn2 hn3 hl1 hl2 hl3 p1 p2 p3 q1 q2 q3 b00.size (hr1.below b00 (Nat.le_refl _)) (hr2.below b00 (Nat.le_refl _)) (hr3.below b00 (Nat.le_refl _)))
  have HN1 := Lib.hid hn1
  have HN2 := Lib.hid hn2
  have HN3 := Lib.hid hn3
  have HR1 := Lib.hid hr1
  have HR2 := Lib.hid hr2
  have HR3 := Lib.hid hr3
  have HOKS := Lib.hid hok
  have HB0 := Lib.hid b00
  clear hn1 hn2 hn3 hr1 hr2 hr3 hok b00 p1 p2 p3 q1 q2 q3
  go_enter Tryz.func7, Tryz.ntmps7
  go_wp2_with fail
  refine HC.out.mono ?_
  clear HC
  rintro e w1 ⟨u, rfl, hu, hb1⟩
  have k1 : Below (w.heap.size + 1) (w.alloc (.cells #[.slice A1 n1 c1, .slice A2 n2 c2, .slice A3 n3 c3] 26)) w1 := hb1.mono (by simp)
  obtain ⟨b0, b1, b2⟩ := box_cells k1
  have HBW := Lib.hid (HB0.out.trans (k1.mono (by omega)))
  have hz1 : w.heap.size < w1.heap.size := by have := k1.size; simp at this; omega
  clear k1
  by_cases hck : (check s).1 = 0
  · obtain rfl := errIs_none hu hck (by rw [check_zero hck])
    obtain ⟨f1, f2, f3, hnum⟩ := snap_okn hck HOKS.out
    have HF1 := Lib.hid f1
    have HF2 := Lib.hid f2
    have HF3 := Lib.hid f3
    have HNUM := Lib.hid hnum
    have HCK := Lib.hid hck
    have HRN : Hid (∀ v : World, Keeps w1 v → Recs 10 cellsN v v.heap.size A1 s.nodes) := fun v kv => (HR1.out.below (HBW.out.trans (kv.2.mono HBW.out.size)) (Nat.le_refl _)).more (HBW.out.trans (kv.2.mono HBW.out.size)).size
    have HRL : Hid (∀ v : World, Keeps w1 v → Recs 5 cellsL v v.heap.size A2 s.loads) := fun v kv => (HR2.out.below (HBW.out.trans (kv.2.mono HBW.out.size)) (Nat.le_refl _)).more (HBW.out.trans (kv.2.mono HBW.out.size)).size
    have HRP : Hid (∀ v : World, Keeps w1 v → Recs 8 cellsP v v.heap.size A3 s.pods) := fun v kv => (HR3.out.below (HBW.out.trans (kv.2.mono HBW.out.size)) (Nat.le_refl _)).more (HBW.out.trans (kv.2.mono HBW.out.size)).size
    have e1 : (s.nodes.flatMap nodeK.nums).length = s.nodes.length * 10 := flat_length nodeK _
    have e2 : (s.loads.flatMap loadK.nums).length = s.loads.length * 5 := flat_length loadK _
    have e3 : (s.pods.flatMap podK.nums).length = s.pods.length * 8 := flat_length podK _
    obtain ⟨q1, hq1⟩ : ∃ q, (s.nodes.flatMap nodeK.nums).length = q := ⟨_, rfl⟩
    obtain ⟨q2, hq2⟩ : ∃ q, (s.loads.flatMap loadK.nums).length = q := ⟨_, rfl⟩
    obtain ⟨q3, hq3⟩ : ∃ q, (s.pods.flatMap podK.nums).length = q := ⟨_, rfl⟩
    have m1 : q1 ≤ 400 := by have := HN1.out; omega
    have m2 : q2 ≤ 200 := by have := HN2.out; omega
    have m3 : q3 ≤ 320 := by have := HN3.out; omega
    have hsn : [(n1 : Int), (n2 : Int), (n3 : Int)] ++ (s.nodes.flatMap nodeK.nums ++ (s.loads.flatMap loadK.nums ++ s.pods.flatMap podK.nums)) = snapNums s := by rw [HN1.out, HN2.out, HN3.out]; rfl
    have hsq : (snapNums s).length = 3 + (q1 + (q2 + q3)) := by rw [← hsn, ← hq1, ← hq2, ← hq3, List.length_append, List.length_append, List.length_append]; rfl
    obtain ⟨q4, hq4⟩ : ∃ q, (snapNums s).length = q := ⟨_, rfl⟩
    obtain ⟨q5, hq5⟩ : ∃ q, (encs (snapNums s)).length = q := ⟨_, rfl⟩
    have hq4' : q4 ≤ 5000 := by omega
    have HQ1 := Lib.hid hq1
    have HQ2 := Lib.hid hq2
    have HQ3 := Lib.hid hq3
    have HQ4 := Lib.hid hq4
    have HQ5 := Lib.hid hq5
    have HSN := Lib.hid hsn
    clear hu f1 f2 f3 hnum hck e1 e2 e3 hq1 hq2 hq3 hq4 hq5 hsn hsq hb1
    go_wp2
    go_region_held3 (fun w' => (∀ b o, b < w1.heap.size → w'.cell? ⟨b, o, none⟩ = w1.cell? ⟨b, o, none⟩) ∧ Below w1.heap.size w1 w')
      (first | (with_reducible assumption) | (show Keeps w1 _; with_reducible (repeat (first | exact Keeps.refl _ | refine Keeps.drew ?_ | refine Keeps.set ?_ (by simp) _ | refine Keeps.alloc ?_ _ | refine Keeps.step ?_ (by assumption)))))
      (first
        | (go_at_call 25; refine (numbers_3s (n1 : Int) (n2 : Int) (n3 : Int) _ _ (by simp) (by omega) (by omega) (by omega) (by simp) (by simp) (by simp)).mono ?_; rintro e v1 ⟨B1, d1, rfl, hs1, hb1⟩; have HS1 := Lib.hid hs1; clear hs1)
        | (go_at_call 26; refine (flatN_any s.nodes A1 n1 c1 _ HN1.out (by omega) HF1.out (HRN.out _ (by assumption))).mono ?_; rintro e v2 hto; obtain ⟨B2, d2, rfl, hs2, hb2⟩ := hto.q HQ1.out; have HS2 := Lib.hid hs2; have HS1a := Lib.hid (HS1.out.below (by first | exact hb2 | exact (Below.drew (Below.refl _ _)).trans hb2)); clear hto hs2)
        | (go_at_call 28; refine (flatL_any s.loads A2 n2 c2 _ HN2.out (by omega) HF2.out (HRL.out _ (by assumption))).mono ?_; rintro e v3 hto; obtain ⟨B3, d3, rfl, hs3, hb3⟩ := hto.q HQ2.out; have HS3 := Lib.hid hs3; have HS1b := Lib.hid (HS1a.out.below (by first | exact hb3 | exact (Below.drew (Below.refl _ _)).trans hb3)); have HS2b := Lib.hid (HS2.out.below (by first | exact hb3 | exact (Below.drew (Below.refl _ _)).trans hb3)); clear hto hs3)
        | (go_at_call 30; refine (flatP_any s.pods A3 n3 c3 _ HN3.out (by omega) HF3.out (HRP.out _ (by assumption))).mono ?_; rintro e v4 hto; obtain ⟨B4, d4, rfl, hs4, hb4⟩ := hto.q HQ3.out; have HS4 := Lib.hid (hs4.below ((Below.refl _ _).alloc (Nat.le_refl _) (.cells #[.slice B1 3 d1, .slice B2 q1 d2, .slice B3 q2 d3, .slice B4 q3 d4] 38))); have HS1c := Lib.hid ((HS1b.out.below (by first | exact hb4 | exact (Below.drew (Below.refl _ _)).trans hb4)).below ((Below.refl _ _).alloc (Nat.le_refl _) (.cells #[.slice B1 3 d1, .slice B2 q1 d2, .slice B3 q2 d3, .slice B4 q3 d4] 38))); have HS2c := Lib.hid ((HS2b.out.below (by first | exact hb4 | exact (Below.drew (Below.refl _ _)).trans hb4)).below ((Below.refl _ _).alloc (Nat.le_refl _) (.cells #[.slice B1 3 d1, .slice B2 q1 d2, .slice B3 q2 d3, .slice B4 q3 d4] 38))); have HS3c := Lib.hid ((HS3.out.below (by first | exact hb4 | exact (Below.drew (Below.refl _ _)).trans hb4)).below ((Below.refl _ _).alloc (Nat.le_refl _) (.cells #[.slice B1 3 d1, .slice B2 q1 d2, .slice B3 q2 d3, .slice B4 q3 d4] 38))); clear hto hs4)
        | (go_at_call 24; refine (concat_4 [(n1 : Int), (n2 : Int), (n3 : Int)] (s.nodes.flatMap nodeK.nums) (s.loads.flatMap loadK.nums) (s.pods.flatMap podK.nums) B1 B2 B3 B4 3 d1 q1 d2 q2 d3 q3 d4 v4.heap.size _ (by simp) (by rw [HQ1.out, HQ2.out, HQ3.out]; show 3 + (q1 + (q2 + q3)) ≤ 100000; omega) HS1c.out HS2c.out HS3c.out HS4.out (by simp) (by simp) (by simp) (by simp)).mono ?_; rw [HSN.out]; rintro e v5 hto; obtain ⟨B5, d5, rfl, hs5, hb5⟩ := hto.q HQ4.out; have HS5 := Lib.hid hs5; clear hto hs5)
        | (go_at_call 23; have hkp : Keeps w1 _ := (by assumption); refine (Put_q HQ4.out hq4' HNUM.out HS5.out).mono ?_; rintro e v6 hto; obtain ⟨B6, d6, rfl, ho6, hb6⟩ := hto.q HQ5.out; have HO6 := Lib.hid ho6; have HB6 := Lib.hid hb6; have HKP := Lib.hid hkp; clear hto ho6))
    all_goals
      go_wp2
      go_ret2
      exact .inl ⟨HCK.out, write_end HQ5.out.symm (HBW.out.trans (HKP.out.2.mono HBW.out.size)) HO6.out HB6.out rfl⟩
  · have HU := Lib.hid hu
    have HCK := Lib.hid hck
    obtain ⟨t, v, rfl⟩ := errIs_some hu hck
    clear hu hck
    go_wp2
    go_ret2
    exact .inr ⟨HCK.out, _, rfl, HU.out.less (by simp), HBW.out⟩
end Go.Proofs.YtgfleifpblcnfaaGreatDoor
