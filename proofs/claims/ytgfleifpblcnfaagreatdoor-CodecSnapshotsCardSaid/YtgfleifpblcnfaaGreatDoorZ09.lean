/- Joined texts, part 9: GV GKW GLW GT GW GKN GLN GKL GLL. -/
import Derived.Test.YtgfleifpblcnfaaGreatDoorZ08
import Derived.Test.YtgfleifpblcnfaaGreatDoorZ01
import Derived.Test.YtgfleifpblcnfaaGreatDoorZ07

/- The program's Moves: moves as bytes. -/
namespace Go.Proofs.YtgfleifpblcnfaaGreatDoor
set_option linter.unusedSimpArgs false
open Go.RowKit
set_option linter.unusedVariables false

/-- What a writer tells: the bytes of these numbers, in a row of the call's own; ErrArg, if it may not be written. -/
def WriteTo (ok : Bool) (l : List Int) (w : World) (e : Ending) (w' : World) : Prop :=
  ((ok = true ∧ ∃ v, e = .returned (.tuple #[v, .nilIface]) ∧ w'.ownsRow w.heap.size 5 1 v (u8s (encs l)).length (u8s (encs l))) ∨
   (ok = false ∧ e = .returned (.tuple #[.slice none 0 0, .iface 52 (.int .i64 1)]))) ∧ Below w.heap.size w w'
theorem write_end {l : List Int} {w v w' : World} {u : Value} {n : Nat} (hn : n = (encs l).length) (hb : Below w.heap.size w v) (ho : w'.ownsRow v.heap.size 5 1 u n (u8s (encs l))) (hb' : Below v.heap.size v w') {ok : Bool} (hok : ok = true) : WriteTo ok l w (.returned (.tuple #[u, .nilIface])) w' := by
  have hn' : n = (u8s (encs l)).length := by rw [hn]; simp
  subst hn'
  refine ⟨.inl ⟨hok, u, rfl, ho.1, ?_⟩, hb.trans (hb'.mono hb.size)⟩
  rcases ho.2 with h0 | ⟨g, cap, cur, hv, hbg, hg, rest⟩
  · exact .inl h0
  · exact .inr ⟨g, cap, cur, hv, Nat.le_trans hb.size hbg, hg, rest⟩
theorem PutTo.sl {B : Nat} {l : List Int} {w w' : World} {e : Ending} (h : PutTo B l w e w') : ∃ A c, e = .returned (.slice A l.length c) ∧ w'.ownsRow B 5 1 (.slice A l.length c) l.length (u8s l) ∧ Below B w w' := by
  obtain ⟨v, rfl, ho, hb⟩ := h
  obtain ⟨A, c, rfl, _⟩ := own_form ho
  have hlen : (u8s l).length = l.length := by simp
  rw [hlen] at ho ⊢
  exact ⟨A, c, rfl, ho, hb⟩
theorem pos_nums {l : List Int} (h : ∀ x ∈ l, U64 x) : Nums l := fun n hn => h n hn
theorem inId_nums {n : Int} (h : inId n = true) : U64 n := by have := inId_iff.1 h; unfold U64; omega
theorem inId_pos {n : Int} (h : inId n = true) : I31 n := by have := inId_iff.1 h; omega
theorem move_nums {m : List MoveD} (h : movesOk m = true) : Nums (moveNums m) := by
  simp only [movesOk, moveOk, Bool.and_eq_true, decide_eq_true_eq, List.all_eq_true] at h
  intro n hn
  rcases List.mem_cons.1 hn with rfl | hn
  · have := h.1; omega
  · obtain ⟨x, hx, hn⟩ := List.mem_flatMap.1 hn
    have hh := h.2 x hx
    simp only [moveK, List.mem_cons, List.not_mem_nil, or_false] at hn
    rcases hn with rfl | rfl | rfl | rfl
    · exact inId_nums hh.1
    · exact inId_nums hh.2.1
    · exact inId_nums hh.2.2.1
    · exact inId_nums hh.2.2.2
def MovesRel (m : List MoveD) (w : World) (i : Value) (wr : World) : Prop := ∃ k : Nat, k ≤ m.length ∧ i = .int .i64 k ∧ (m.take k).all moveOk = true ∧ Below w.heap.size w wr
theorem moveOk_all (x : MoveD) : [x.kind, x.pod, x.node, x.over].all inId = moveOk x := by simp [moveOk]

set_option maxHeartbeats 6400000 in
set_option maxRecDepth 100000 in
theorem moves_any (m : List MoveD) (A : Option Addr) (n c : Nat) (w : World) (hn : n = m.length) (hl : n ≤ 1000) (hr : Recs 4 cellsM w w.heap.size A m) :
    Calls Tryz.prog 20 #[.slice A n c] w (WriteTo (movesOk m) (moveNums m) w) := by
  have HN := Lib.hid hn
  have HR := Lib.hid hr
  clear hn hr
  by_cases h40 : 40 < n
  · have HE : Hid (movesOk m = false) := by
      have := HN.out
      show _ = _
      simp [movesOk]; omega
    go_enter Tryz.func20, Tryz.ntmps20
    go_wp2
    go_ret2
    exact ⟨.inr ⟨HE.out, rfl⟩, Below.refl _ _⟩
  · go_enter Tryz.func20, Tryz.ntmps20
    go_wp2
    go_loopw [12] (MovesRel m w) (fun i _ => n - (intOf i).toNat)
    case atStart => exact ⟨0, by omega, rfl, rfl, Below.refl _ _⟩
    case round =>
      obtain ⟨k, hk, rfl, hall, hbr⟩ := hrel
      have hz := hbr.size
      have HA := Lib.hid hall
      clear hall
      by_cases hlt : k < n
      · have hkl : k < m.length := by have := HN.out; omega
        obtain ⟨b, o, rfl, hb, he⟩ := HR.out.at hkl
        generalize hx : m[k] = x at *
        have HX := Lib.hid hx
        clear hx
        have e0 : wr.cell? ⟨b, o + k * 4, none⟩ = some (.int .i64 x.kind) := (hbr.cell (p := ⟨b, o + k * 4, none⟩) hb).trans (he 0 _ rfl)
        have e1 : wr.cell? ⟨b, o + k * 4 + 1, none⟩ = some (.int .i64 x.pod) := (hbr.cell (p := ⟨b, o + k * 4 + 1, none⟩) hb).trans (he 1 _ rfl)
        have e2 : wr.cell? ⟨b, o + k * 4 + 2, none⟩ = some (.int .i64 x.node) := (hbr.cell (p := ⟨b, o + k * 4 + 2, none⟩) hb).trans (he 2 _ rfl)
        have e3 : wr.cell? ⟨b, o + k * 4 + 3, none⟩ = some (.int .i64 x.over) := (hbr.cell (p := ⟨b, o + k * 4 + 3, none⟩) hb).trans (he 3 _ rfl)
        have hbw : b < wr.heap.size := by omega
        clear he
        go_wp2_with fail
        refine (writable_any [x.kind, x.pod, x.node, x.over] _ 4 4 _ rfl (by decide) (row_at _ (wr.heap.size + 1) 4 _ (by simp) fun j hj => ?_)).mono ?_
        · match j, hj with
          | 0, _ => simp
          | 1, _ => simp
          | 2, _ => simp
          | 3, _ => simp
        rw [moveOk_all]
        rintro e w1 ⟨rfl, rfl⟩
        cases hok : moveOk x with
        | true =>
          have HT := Lib.hid (all_take hkl HA.out HX.out hok)
          clear hok
          go_wp2
          go_roundw
          case rel => exact ⟨k + 1, by omega, by go_num, HT.out, (hbr.alloc hz _).alloc (by simp; omega) _⟩
          case measure => simp [intOf]; omega
        | false =>
          have HE : Hid (movesOk m = false) := by
            have := all_false hkl HX.out hok
            show _ = _
            rw [movesOk, this]; simp
          clear hok
          go_wp2
          go_ret2
          exact ⟨.inr ⟨HE.out, rfl⟩, (hbr.alloc hz _).alloc (by simp; omega) _⟩
      · have hall : m.all moveOk = true := by
          have := HA.out
          rwa [List.take_of_length_le (by have := HN.out; omega)] at this
        have HOK : Hid (movesOk m = true) := by
          have := HN.out
          show _ = _
          rw [movesOk, hall, decide_eq_true (by omega)]; rfl
        have HP : Hid (∀ x ∈ m, OknM x) := fun x hx => by
          have := List.all_eq_true.1 hall x hx
          simp only [moveOk, Bool.and_eq_true] at this
          exact ⟨inId_pos this.1, inId_pos this.2.1, inId_pos this.2.2.1, inId_pos this.2.2.2⟩
        have hr1 := HR.out.below hbr (Nat.le_refl _)
        have HR1 := Lib.hid (hr1.more hz)
        clear hall hr1
        go_wp2_with fail
        refine (numbers_1s (n : Int) wr.heap.size _ (by simp) (by omega) (by simp)).mono ?_
        rintro e w1 ⟨A1, c1, rfl, hs1, hb1⟩
        have kb1 : Below wr.heap.size wr w1 := ((Below.refl _ _).alloc (Nat.le_refl _) _).trans (hb1.mono (by simp))
        have HK1 := Lib.hid kb1
        have HS1 := Lib.hid hs1
        have hz1 := kb1.size
        clear hs1 hb1 kb1
        go_wp2_with fail
        refine (flatM_any m A n c w1 HN.out (by omega) HP.out ((HR1.out.below HK1.out (Nat.le_refl _)).more hz1)).mono ?_
        rintro e w2 hto
        obtain ⟨A2, c2, rfl, hs2, hb2⟩ := SlTo.of hto
        have HS1' := Lib.hid (HS1.out.below hb2)
        have HS2 := Lib.hid hs2
        have HK2 := Lib.hid (HK1.out.trans (hb2.mono hz1))
        have HF : Hid ((m.flatMap moveK.nums).length ≤ 4000) := by
          have hfl : (m.flatMap moveK.nums).length = m.length * 4 := flat_length moveK m
          have := HN.out; show _ ≤ _; omega
        have hz2 : wr.heap.size ≤ w2.heap.size := HK2.out.size
        clear hto hs2 hb2
        generalize hq : (m.flatMap moveK.nums).length = q at *
        have HQ := Lib.hid hq
        clear hq
        go_wp2_with fail
        refine (concat_2 [(n : Int)] (m.flatMap moveK.nums) A1 A2 1 c1 q c2 w2.heap.size _ (by simp) (by have := HF.out; rw [HQ.out]; simp; omega) (HS1'.out.below ((Below.refl _ _).alloc (Nat.le_refl _) _)) (HS2.out.below ((Below.refl _ _).alloc (Nat.le_refl _) _)) (by simp) (by simp)).mono ?_
        rintro e w3 hto
        have hmn : [(n : Int)] ++ m.flatMap moveK.nums = moveNums m := by rw [HN.out]; rfl
        rw [hmn] at hto
        obtain ⟨A3, c3, rfl, hs3, hb3⟩ := SlTo.of hto
        have HS3 := Lib.hid hs3
        have HK3 : Hid (Below wr.heap.size wr w3) := (HK2.out.alloc hz2 _).trans (hb3.mono (by simp; omega))
        have hml : (moveNums m).length = 1 + q := by rw [← hmn, ← HQ.out, List.length_append]; rfl
        clear hto hs3 hb3 hmn
        have HPU := Lib.hid (Put_any (moveNums m) A3 c3 w3 (by have := HF.out; omega) (move_nums HOK.out) HS3.out.2.2)
        clear hml
        generalize (moveNums m).length = q2 at *
        go_wp2_with fail
        refine HPU.out.mono ?_
        rintro e w4 hto
        obtain ⟨A4, c4, rfl, ho4, hb4⟩ := hto.sl
        have HO4 := Lib.hid ho4
        have HB4 := Lib.hid hb4
        clear hto ho4 hb4
        go_wp2
        go_ret2
        have hfin := write_end rfl (hbr.trans (HK3.out.mono hz)) HO4.out HB4.out HOK.out
        exact hfin
end Go.Proofs.YtgfleifpblcnfaaGreatDoor

/- The program's reader: a want. -/
namespace Go.Proofs.YtgfleifpblcnfaaGreatDoor
set_option linter.unusedSimpArgs false
open Go.RowKit
set_option linter.unusedVariables false

set_option maxHeartbeats 6400000 in
set_option maxRecDepth 100000 in
theorem readWant_any (s : St) (r : Nat) (w : World) (h : RdAt w r s) :
    Calls Tryz.prog 57 #[.pointer (some ⟨r, 0, none⟩)] w (RdTo (aggW (rdWant s).1) (rdWant s).2 r w) := by
  have K0 := Lib.hid (Reading.start h [.int .i64 0, .int .u64 0, .int .u64 0, .int .u64 0, .int .u64 0, .bool false] 105)
  clear h
  go_enter Tryz.func57, Tryz.ntmps57
  go_wp2_with fail
  refine (number_any s r _ K0.out.rd).mono ?_
  obtain ⟨x0, s1, hx⟩ := pair_of (rdNum s)
  rw [hx]
  have HX0 := Lib.hid hx
  clear hx
  rintro e w1 ⟨rfl, hr, ht⟩
  have K1 := Lib.hid (K0.out.call hr ht)
  clear hr ht
  have hz0 : w.heap.size + 1 < w1.heap.size := by have := K1.out.size; omega
  obtain ⟨c0, f0⟩ := K1.out.box.at 0 (.int .i64 0) rfl
  have K2 := Lib.hid (K1.out.store 0 (.int .i64 x0))
  go_wp2_with fail
  refine (amount_any s1 r _ K2.out.rd).mono ?_
  obtain ⟨x1, s2, hx⟩ := pair_of (rdVec s1)
  rw [hx]
  have HX1 := Lib.hid hx
  clear hx
  rintro e w2 ⟨rfl, hr, ht⟩
  have K3 := Lib.hid (K2.out.call hr ht)
  clear hr ht
  have hz1 : w.heap.size + 1 < w2.heap.size := by have := K3.out.size; omega
  obtain ⟨c1, f1⟩ := K3.out.box.at 1 (.int .u64 0) rfl
  obtain ⟨c2, f2⟩ := K3.out.box.at 2 (.int .u64 0) rfl
  obtain ⟨c3, f3⟩ := K3.out.box.at 3 (.int .u64 0) rfl
  obtain ⟨c4, f4⟩ := K3.out.box.at 4 (.int .u64 0) rfl
  have K4 := Lib.hid (K3.out.store4 1 (.int .u64 x1.a) (.int .u64 x1.b) (.int .u64 x1.c) (.int .u64 x1.d))
  go_wp2_with fail
  refine (rtruth_any s2 r _ K4.out.rd).mono ?_
  obtain ⟨x2, s3, hx⟩ := pair_of (rdTruth s2)
  rw [hx]
  have HX2 := Lib.hid hx
  clear hx
  rintro e w3 ⟨rfl, hr, ht⟩
  have K5 := Lib.hid (K4.out.call hr ht)
  clear hr ht
  have hz2 : w.heap.size + 1 < w3.heap.size := by have := K5.out.size; omega
  obtain ⟨c5, f5⟩ := K5.out.box.at 5 (.bool false) rfl
  have K6 := Lib.hid (K5.out.store 5 (.bool x2))
  have c0 := (K5.out.box.at 0 (.int .i64 x0) rfl).1
  have c1 := (K5.out.box.at 1 (.int .u64 x1.a) rfl).1
  have c2 := (K5.out.box.at 2 (.int .u64 x1.b) rfl).1
  have c3 := (K5.out.box.at 3 (.int .u64 x1.c) rfl).1
  have c4 := (K5.out.box.at 4 (.int .u64 x1.d) rfl).1
  obtain ⟨d0, g0⟩ := K5.out.res.at 0 (.int .i64 0) rfl
  obtain ⟨d1, g1⟩ := K5.out.res.at 1 (.int .u64 0) rfl
  obtain ⟨d2, g2⟩ := K5.out.res.at 2 (.int .u64 0) rfl
  obtain ⟨d3, g3⟩ := K5.out.res.at 3 (.int .u64 0) rfl
  obtain ⟨d4, g4⟩ := K5.out.res.at 4 (.int .u64 0) rfl
  obtain ⟨d5, g5⟩ := K5.out.res.at 5 (.bool false) rfl
  have HE : Hid (rdWant s = (⟨x0, x1, x2⟩, s3)) := by
    show _ = _
    simp only [rdWant, HX0.out, HX1.out, HX2.out]
  have hzz : w.heap.size < w3.heap.size := by omega
  go_wp2
  refine bodyPost_ret (v := aggW ⟨x0, x1, x2⟩) ?_ rfl ?_
  · simp [results, Tryz.results57, go_sem, *]
  · refine ⟨by rw [HE.out], ?_, ?_⟩
    · rw [HE.out]
      refine (K5.out.end ?_).1
      repeat (first | with_reducible exact Below.refl _ _ | with_reducible refine Below.setCell ?_ ?_ _)
      all_goals (first | (show w.heap.size ≤ w.heap.size; omega) | (show w.heap.size ≤ w.heap.size + 1; omega))
    · refine (K5.out.end ?_).2
      repeat (first | with_reducible exact Below.refl _ _ | with_reducible refine Below.setCell ?_ ?_ _)
      all_goals (first | (show w.heap.size ≤ w.heap.size; omega) | (show w.heap.size ≤ w.heap.size + 1; omega))
end Go.Proofs.YtgfleifpblcnfaaGreatDoor

/- The program's list, at one kind of record. -/
namespace Go.Proofs.YtgfleifpblcnfaaGreatDoor
set_option linter.unusedSimpArgs false
open Go.RowKit
set_option linter.unusedVariables false

theorem Tryz.info105 : (Tryz.prog.info? 105).map (fun i => (i.zero, i.size, i.bytes)) = some (some (.agg #[.int .i64 0, .int .u64 0, .int .u64 0, .int .u64 0, .int .u64 0, .bool false]), 6, 48) := by kernel_rfl
theorem Tryz.underSlW : Tryz.prog.underlying 46 = some (.slice 105) := by kernel_rfl
theorem one_cellsW (x : WantD) : ∀ u ∈ cellsW x, u.oneCell' = true := by
  intro u hu; simp only [cellsW, List.mem_cons, List.not_mem_nil, or_false] at hu
  rcases hu with rfl | rfl | rfl | rfl | rfl | rfl <;> rfl
set_option maxHeartbeats 3200000 in
set_option maxRecDepth 100000 in
theorem listW_any (s : St) (r many : Nat) (w : World) (hm : many ≤ 1000) (h : RdAt w r s) :
    Calls Tryz.prog 56 #[.pointer (some ⟨r, 0, none⟩), .int .i64 (many : Int), .func (.func 57) #[] #[]] w (ListTo 105 6 cellsW (rdList rdWant many s).1 (rdList rdWant many s).2 r w) := by
  have H := Lib.hid h
  have hrl := h.lt
  clear h
  go_enter Tryz.func56, Tryz.ntmps56
  go_wp2
  go_loopw [7, 9] (ListRel 105 6 cellsW rdWant many s r w) (fun _ i _ => many - (intOf i).toNat)
  case atStart => exact ⟨0, [], s, by omega, rfl, rfl, by simp, rfl, H.out, World.ownsRow_nil _ _ _ _, Turn.refl⟩
  case round =>
    obtain ⟨k, acc, t, hk, rfl, hka, he1, he2, hrd, hown, ht⟩ := hrel
    have hz := ht.size
    have HA := Lib.hid hka
    have HE1 := Lib.hid he1
    have HE2 := Lib.hid he2
    have HR := Lib.hid hrd
    have HO := Lib.hid hown
    have HT := Lib.hid ht
    clear hka he1 he2 hrd hown ht
    by_cases hlt : k < many
    · go_wp2_with fail
      go_at_call 57
      refine (readWant_any t r wr HR.out).mono ?_
      obtain ⟨x, t', hx⟩ := pair_of (rdWant t)
      have HS := Lib.hid (list_step hlt hx HE1.out HE2.out)
      rw [hx]
      clear hx
      rintro e w1 ⟨rfl, hr1, ht1⟩
      have hz1 : w.heap.size ≤ w1.heap.size := by have := ht1.size; omega
      have hown1 := own_turn HO.out ht1 hrl
      have HR1 := Lib.hid hr1
      have HT1 := Lib.hid (HT.out.trans ht1)
      clear hr1 ht1
      go_wp2_with (at_builtin; refine wpList_pushN 46 105 (.agg #[.int .i64 0, .int .u64 0, .int .u64 0, .int .u64 0, .int .u64 0, .bool false]) 6 48 Tryz.underSlW Tryz.info105 rfl (by decide) (by decide) rfl (.tmp 11) (.tmp 15) rfl w.heap.size _ k (acc.flatMap cellsW) (cellsW x) rfl (one_cellsW x) hown1 hz1 (by omega) rfl rfl ?_; intro v' w2 hown2 hb2 hB2)
      go_roundw
      case rel => exact ⟨k + 1, acc ++ [x], t', by omega, by go_num, by have := HA.out; simp; omega, HS.out.1, HS.out.2, HR1.out.below hb2 hrl, by rw [List.flatMap_append]; simpa using hown2, HT1.out.later hb2⟩
      case measure => simp [intOf]; omega
    · obtain rfl : k = many := by omega
      have HP := Lib.hid (list_end HE1.out HE2.out)
      go_wp2
      go_ret
      unfold ListTo
      rw [HP.out]
      exact ⟨_, rfl, by have := HA.out; rw [← this]; exact HO.out, HR.out, HT.out⟩
end Go.Proofs.YtgfleifpblcnfaaGreatDoor

/- The program's ReadSpec. -/
namespace Go.Proofs.YtgfleifpblcnfaaGreatDoor
set_option linter.unusedSimpArgs false
open Go.RowKit
set_option linter.unusedVariables false

theorem own_set {w : World} {base n size : Nat} {e : TypeId} {v : Value} {xs : List Value} (h : w.ownsRow base e size v n xs) {p : Addr} (hp : p.block < base) (u : Value) : (w.setCell p u).ownsRow base e size v n xs := by
  refine ⟨h.1, ?_⟩
  rcases h.2 with h0 | ⟨g, cap, cur, hv, hb, hg, rest⟩
  · exact .inl h0
  · exact .inr ⟨g, cap, cur, hv, hb, (Below.heap_setCell w p u g (by omega)).trans hg, rest⟩
theorem own_later {w w' : World} {base n size : Nat} {e : TypeId} {v : Value} {xs : List Value} (h : w.ownsRow base e size v n xs) (hb : Below w.heap.size w w') : w'.ownsRow base e size v n xs := by
  refine ⟨h.1, ?_⟩
  rcases h.2 with h0 | ⟨g, cap, cur, hv, hbb, hg, rest⟩
  · exact .inl h0
  · exact .inr ⟨g, cap, cur, hv, hbb, (hb.block g (Array.getElem?_eq_some_iff.1 hg).1).trans hg, rest⟩
/-- A record is being put together out of what the reader tells: the result's box rb holds zs, the variable's box xb holds cs. -/
structure Putting (r : Nat) (w : World) (s : St) (rb : Nat) (zs : List Value) (xb : Nat) (cs : List Value) (wr : World) : Prop where
  rd : RdAt wr r s
  below : Below w.heap.size w wr
  res : Box wr rb zs
  box : Box wr xb cs
  hr : w.heap.size ≤ r
  hrb : w.heap.size ≤ rb ∧ rb < r
  hxb : r < xb ∧ xb < wr.heap.size
section
variable {r rb xb : Nat} {w wr w1 : World} {s s' : St} {zs cs : List Value}
theorem Putting.call (h : Putting r w s rb zs xb cs wr) (hr : RdAt w1 r s') (ht : Turn r wr w1) : Putting r w s' rb zs xb cs w1 :=
  ⟨hr, h.below.trans ((ht.below (Nat.le_of_lt h.rd.lt)).mono h.hr), h.res.turn ht (by have := h.hrb; omega), h.box.turn ht (by have := h.hxb; omega), h.hr, h.hrb, ⟨h.hxb.1, Nat.lt_of_lt_of_le h.hxb.2 ht.size⟩⟩
theorem Putting.store (h : Putting r w s rb zs xb cs wr) (i : Nat) (v : Value) : Putting r w s rb zs xb (cs.set i v) (wr.setCell ⟨xb, i, none⟩ v) := by
  have h1 := h.hr
  have h2 := h.hrb
  have h3 := h.hxb
  exact ⟨h.rd.below ((Below.refl (r + 1) _).setCell (p := ⟨xb, i, none⟩) (by show r + 1 ≤ xb; omega) _) (by omega), h.below.setCell (p := ⟨xb, i, none⟩) (by show w.heap.size ≤ xb; omega) _, h.res.other (by show xb ≠ rb; omega) _, h.box.set i v, h1, h2, by simpa using h3⟩
theorem Putting.start (hrd : RdAt wr r s) (hb : Below w.heap.size w wr) (hres : Box wr rb zs) (h1 : w.heap.size ≤ r) (h2 : w.heap.size ≤ rb ∧ rb < r) (xs : List Value) (t : TypeId) : Putting r w s rb zs wr.heap.size xs (wr.alloc (.cells xs.toArray t)) :=
  ⟨hrd.below ((Below.refl _ _).alloc (Nat.le_refl _) _) hrd.lt, hb.alloc hb.size _, hres.alloc _, Box.new wr xs t, h1, h2, ⟨hrd.lt, by simp⟩⟩
end
/-- Records as they are told: a slice that reads as these. -/
def Out {α : Type} (size : Nat) (cells : α → List Value) (w : World) (xs : List α) (A : Option Addr) (c : Nat) : Prop := xs.length ≤ c ∧ c ≤ maxLen ∧ (A = none → c = 0) ∧ Recs size cells w w.heap.size A xs
theorem Out.nil {α : Type} {size : Nat} {cells : α → List Value} {w : World} {xs : List α} (h : xs = []) : Out size cells w xs none 0 := ⟨by rw [h]; exact Nat.le_refl _, by decide, fun _ => rfl, .inl h⟩
theorem out_of_own {α : Type} {size : Nat} {cells : α → List Value} (hc : ∀ x, (cells x).length = size) {w : World} {B n c : Nat} {e : TypeId} {A : Option Addr} {xs : List α} (hn : n = xs.length) (h : w.ownsRow B e size (.slice A n c) n (xs.flatMap cells)) : Out size cells w xs A c := by
  obtain ⟨A', c', e1, p1, p2, p3, p4⟩ := recs_of_own hc hn h
  injection e1 with e1 _ e2
  subst e1 e2 hn
  exact ⟨p1, p2, p3, p4⟩
def SpecTo (R : SpecD × Int × Int) (w : World) (e : Ending) (w' : World) : Prop :=
  ∃ A c u, e = .returned (.tuple #[specV A R.1.wants.length c R.1, u]) ∧ Out 6 cellsW w' R.1.wants A c ∧ ErrIs R.2 w.heap.size w' u ∧ Below w.heap.size w w'
theorem specTo_err {R : SpecD × Int × Int} {w w' : World} {u : Value} (h1 : R.1 = noSpec) (he : ErrIs R.2 w.heap.size w' u) (hb : Below w.heap.size w w') : SpecTo R w (.returned (.tuple #[.agg #[.slice none 0 0, .int .i64 0, .int .i64 0], u])) w' :=
  ⟨none, 0, u, by rw [h1]; rfl, .nil (by rw [h1]), he, hb⟩

theorem Spotted.set {B p : Nat} {w : World} {u : Value} (h : Spotted B p w u) {q : Addr} (hq : q.block < B) (v : Value) : Spotted B p (w.setCell q v) u := by
  obtain ⟨g, e, hB, hg⟩ := h
  exact ⟨g, e, hB, (Below.heap_setCell w q v g (by omega)).trans hg⟩
theorem Spotted.less {B B' p : Nat} {w : World} {u : Value} (h : Spotted B p w u) (hB : B' ≤ B) : Spotted B' p w u := by
  obtain ⟨g, e, h1, hg⟩ := h
  exact ⟨g, e, by omega, hg⟩

set_option maxHeartbeats 6400000 in
set_option maxRecDepth 100000 in
theorem readSpec_any (ns rest : List Int) (A : Option Addr) (n c : Nat) (w : World) (hn : n = (encs ns ++ rest).length) (hl : n ≤ 100000) (hc : n ≤ c) (hc' : c ≤ maxLen) (hns : Nums ns) (hb : Octs rest) (hm : rest = [] ∨ (rest ≠ [] ∧ Miss rest)) (hr : Row w w.heap.size A (u8s (encs ns ++ rest))) :
    Calls Tryz.prog 17 #[.slice A n c] w (SpecTo (rdB noSpec rdSpec ns rest) w) := by
  have b0 := below_two w (.cells #[.slice none 0 0, .int .i64 0, .int .i64 0] 48) (.cells #[.int .u64 12] 65)
  have HX := Lib.hid ((Box.new w [.slice none 0 0, .int .i64 0, .int .i64 0] 48).alloc (.cells #[.int .u64 12] 65))
  have HB0 := Lib.hid b0
  have HO := Lib.hid (open_any ns rest [12] 3 A (some ⟨w.heap.size + 1, 0, none⟩) n c 1 1 ((w.alloc (.cells #[.slice none 0 0, .int .i64 0, .int .i64 0] 48)).alloc (.cells #[.int .u64 12] 65)) hn hl hc hc' hns hb hm ((hr.below b0 (Nat.le_refl _)).more b0.size) rfl (by decide) (by decide) (by intro x hx; simp at hx; omega) (row_at _ (w.heap.size + 1) 1 _ (by simp) fun j hj => by
    match j, hj with
    | 0, _ => simp))
  have HP := Lib.hid (nums_pos hns)
  have HNS := Lib.hid hns
  clear hn hl hc hc' hns hb hm hr b0
  go_enter Tryz.func17, Tryz.ntmps17
  go_wp2_with fail
  refine HO.out.mono ?_
  clear HO
  rintro e w1 ⟨h, hb1⟩
  have hz0 : w.heap.size + 2 ≤ w1.heap.size := by have := hb1.size; simpa using this
  have HB1 := Lib.hid (HB0.out.trans (hb1.mono HB0.out.size))
  have HX1 : Hid (Box w1 w.heap.size [.slice none 0 0, .int .i64 0, .int .i64 0]) := HX.out.turn (Turn.of_below (r := w1.heap.size) hb1) (by omega)
  obtain ⟨g0, k0⟩ := HX1.out.at 0 (.slice none 0 0) rfl
  obtain ⟨g1, k1⟩ := HX1.out.at 1 (.int .i64 0) rfl
  obtain ⟨g2, k2⟩ := HX1.out.at 2 (.int .i64 0) rfl
  have hwl : w.heap.size < w1.heap.size := by omega
  have hsz : w.heap.size + 2 = ((w.alloc (.cells #[.slice none 0 0, .int .i64 0, .int .i64 0] 48)).alloc (.cells #[.int .u64 12] 65)).heap.size := by simp
  rw [← hsz] at h
  clear hb1 HX hsz
  have HBE : ∀ x0 x1 x2 : Value, Hid (Below w.heap.size w (((w1.setCell ⟨w.heap.size, 0, none⟩ x0).setCell ⟨w.heap.size, 1, none⟩ x1).setCell ⟨w.heap.size, 2, none⟩ x2)) := fun x0 x1 x2 => ((HB1.out.setCell (p := ⟨w.heap.size, 0, none⟩) (Nat.le_refl _) x0).setCell (p := ⟨w.heap.size, 1, none⟩) (Nat.le_refl _) x1).setCell (p := ⟨w.heap.size, 2, none⟩) (Nat.le_refl _) x2
  have HBEE := Lib.hid HBE
  clear HBE
  rcases h with ⟨hre, u, rfl, hsp⟩ | ⟨hre, hlt, rfl⟩ | ⟨hre, hle, ⟨i, hi, hgt⟩, rfl⟩ | ⟨hre, hle, hall, r, rfl, hrB, hrd⟩
  · have HE := Lib.hid (show rdB noSpec rdSpec ns rest = (noSpec, 2, (((encs ns).length : Nat) : Int)) from if_neg hre)
    have hsp' := hsp
    obtain ⟨g, rfl, _, _⟩ := hsp
    have HS := Lib.hid hsp'
    clear hsp' hre
    go_wp2
    refine bodyPost_ret (v := .tuple #[.agg #[.slice none 0 0, .int .i64 0, .int .i64 0], .iface 131 (.pointer (some ⟨g, 0, none⟩))]) ?_ rfl ?_
    · simp [results, Tryz.results17, go_sem, *]
    · unfold SpecTo
      rw [HE.out]
      refine specTo_err rfl (errIs_spotted (p := (encs ns).length) ?_) (HBEE.out _ _ _).out
      exact (((HS.out.set (by show w.heap.size < w.heap.size + 2; omega) _).set (by show w.heap.size < w.heap.size + 2; omega) _).set (by show w.heap.size < w.heap.size + 2; omega) _).less (by omega)
  · have HE : Hid (rdB noSpec rdSpec ns rest = (noSpec, 2, -1)) := by show _ = _; rw [rdB, if_pos hre, rdSpec, if_pos hlt]
    clear hre hlt
    go_wp2
    refine bodyPost_ret (v := .tuple #[.agg #[.slice none 0 0, .int .i64 0, .int .i64 0], .iface 52 (.int .i64 2)]) ?_ rfl ?_
    · simp [results, Tryz.results17, go_sem, *]
    · unfold SpecTo
      rw [HE.out]
      exact specTo_err rfl (.inr (.inl ⟨rfl, by decide, by decide, rfl⟩)) (HBEE.out _ _ _).out
  · have HE : Hid (rdB noSpec rdSpec ns rest = (noSpec, 3, -1)) := by
      have hi0 : i = 0 := by simpa using hi
      subst hi0
      show _ = _
      rw [rdB, if_pos hre, rdSpec, if_neg (by omega), if_pos (by simpa using hgt)]
    clear hre hle hi hgt
    go_wp2
    refine bodyPost_ret (v := .tuple #[.agg #[.slice none 0 0, .int .i64 0, .int .i64 0], .iface 52 (.int .i64 3)]) ?_ rfl ?_
    · simp [results, Tryz.results17, go_sem, *]
    · unfold SpecTo
      rw [HE.out]
      exact specTo_err rfl (.inr (.inl ⟨rfl, by decide, by decide, rfl⟩)) (HBEE.out _ _ _).out
  · have h12 : ns.getD 0 0 ≤ 12 := by have := hall 0 (by decide); simpa using this
    have HM : Hid (rdB noSpec rdSpec ns rest = if wellF (mSpec ns).2 = true then ((mSpec ns).1, 0, -1) else (noSpec, 2, -1)) := by
      show _ = _; rw [rdB, if_pos hre, rdSpec_m HP.out (by omega) (by omega)]
    have hx0 : (rdNum (ns, false)).1 = ns.getD 0 0 := num_of_open (by omega) h12 (by decide)
    have hnn : 0 ≤ ns.getD 0 0 := by
      rw [getD_zero]; exact (nums_head HNS.out).1
    have hmm : mSpec ns = (⟨(rdList rdWant (ns.getD 0 0).toNat (rdNum (rdNum (rdNum (ns, false)).2).2).2).1, (rdNum (rdNum (ns, false)).2).1, (rdNum (rdNum (rdNum (ns, false)).2).2).1⟩, (rdList rdWant (ns.getD 0 0).toNat (rdNum (rdNum (rdNum (ns, false)).2).2).2).2) := by
      rw [← hx0]; rfl
    have hrl := hrd.lt
    have HRB : Hid (w.heap.size + 2 ≤ r) := hrB
    have HRD := Lib.hid hrd
    clear hre hle hall hrd hrB
    go_wp2_with fail
    refine (number_any (ns, false) r w1 HRD.out).mono ?_
    rw [hx0]
    generalize (rdNum (ns, false)).2 = t1 at *
    generalize hq : ns.getD 0 0 = q at *
    obtain ⟨many, rfl⟩ : ∃ many : Nat, q = (many : Int) := ⟨q.toNat, by omega⟩
    rw [Int.toNat_natCast] at hmm
    have HMM := Lib.hid hmm
    clear hmm hx0 hq hnn g0 g1 g2 k0 k1 k2
    rintro e w2 ⟨rfl, hr2, ht2⟩
    have hz2 : w.heap.size + 2 ≤ w2.heap.size := by have := ht2.size; omega
    have HX2 := Lib.hid (HX1.out.turn ht2 (by have := HRB.out; omega))
    have K0 := Lib.hid (Putting.start hr2 (HB1.out.trans ((ht2.below (Nat.le_of_lt hrl)).mono (by have := HRB.out; omega))) HX2.out (by have := HRB.out; omega) ⟨Nat.le_refl _, by have := HRB.out; omega⟩ [.slice none 0 0, .int .i64 0, .int .i64 0] 48)
    have hxb : r < w2.heap.size := hr2.lt
    clear hr2 ht2
    go_wp2_with fail
    refine (number_any t1 r _ K0.out.rd).mono ?_
    obtain ⟨x1, t2, hx⟩ := pair_of (rdNum t1)
    rw [hx] at HMM ⊢
    clear hx
    rintro e w3 ⟨rfl, hr3, ht3⟩
    have K1 := Lib.hid (K0.out.call hr3 ht3)
    clear hr3 ht3
    have hl3 : w2.heap.size < w3.heap.size := K1.out.hxb.2
    obtain ⟨c1, f1⟩ := K1.out.box.at 1 (.int .i64 0) rfl
    have K2 := Lib.hid (K1.out.store 1 (.int .i64 x1))
    go_wp2_with fail
    refine (number_any t2 r _ K2.out.rd).mono ?_
    obtain ⟨x2, t3, hx⟩ := pair_of (rdNum t2)
    rw [hx] at HMM ⊢
    clear hx
    rintro e w4 ⟨rfl, hr4, ht4⟩
    have K3 := Lib.hid (K2.out.call hr4 ht4)
    clear hr4 ht4
    have hl4 : w2.heap.size < w4.heap.size := K3.out.hxb.2
    obtain ⟨c2, f2⟩ := K3.out.box.at 2 (.int .i64 0) rfl
    have K4 := Lib.hid (K3.out.store 2 (.int .i64 x2))
    go_wp2_with fail
    refine (listW_any t3 r many _ (by omega) K4.out.rd).mono ?_
    obtain ⟨ys, t4, hx⟩ := pair_of (rdList rdWant many t3)
    rw [hx] at HMM ⊢
    clear hx
    rintro e w5 ⟨v, rfl, ho5, hr5, ht5⟩
    obtain ⟨A3, c3, rfl, _⟩ := recs_of_own (cells := cellsW) (size := 6) (fun _ => rfl) rfl ho5
    have HLY : Hid (ys.length = ys.length) := rfl
    generalize hq : ys.length = q at ho5 ⊢
    have HQ := Lib.hid hq
    clear hq HLY
    have K5 := Lib.hid (K4.out.call hr5 ht5)
    clear hr5 ht5
    have hl5 : w2.heap.size < w5.heap.size := K5.out.hxb.2
    obtain ⟨c0, f0⟩ := K5.out.box.at 0 (.slice none 0 0) rfl
    have K6 := Lib.hid (K5.out.store 0 (.slice A3 q c3))
    have hsz : (w4.setCell ⟨w2.heap.size, 2, none⟩ (.int .i64 x2)).heap.size = w4.heap.size := by simp
    rw [hsz] at ho5
    have HO6 := Lib.hid (own_set ho5 (p := ⟨w2.heap.size, 0, none⟩) (by show w2.heap.size < w4.heap.size; omega) (.slice A3 q c3))
    clear ho5 hsz c0 c1 c2 f1 f2
    obtain ⟨c0', f0⟩ := K5.out.box.at 0 (.slice none 0 0) rfl
    go_wp2_with fail
    refine (wellFormed_any _ r _ K6.out.rd).mono ?_
    rintro e w6 ⟨rfl, rfl⟩
    have hl6 : w2.heap.size < (w5.setCell ⟨w2.heap.size, 0, none⟩ (.slice A3 q c3)).heap.size := by simpa using hl5
    have hl7 : w.heap.size < (w5.setCell ⟨w2.heap.size, 0, none⟩ (.slice A3 q c3)).heap.size := by omega
    generalize hW : w5.setCell ⟨w2.heap.size, 0, none⟩ (.slice A3 q c3) = W at *
    clear hW c0' f0
    obtain ⟨d0, _⟩ := K6.out.box.at 0 (.slice A3 q c3) rfl
    obtain ⟨d1, _⟩ := K6.out.box.at 1 (.int .i64 x1) rfl
    obtain ⟨d2, _⟩ := K6.out.box.at 2 (.int .i64 x2) rfl
    obtain ⟨g0, k0⟩ := K6.out.res.at 0 (.slice none 0 0) rfl
    obtain ⟨g1, k1⟩ := K6.out.res.at 1 (.int .i64 0) rfl
    obtain ⟨g2, k2⟩ := K6.out.res.at 2 (.int .i64 0) rfl
    have HBF : Hid (∀ y0 y1 y2 : Value, Below w.heap.size w (((W.setCell ⟨w.heap.size, 0, none⟩ y0).setCell ⟨w.heap.size, 1, none⟩ y1).setCell ⟨w.heap.size, 2, none⟩ y2)) := fun y0 y1 y2 => ((K6.out.below.setCell (p := ⟨w.heap.size, 0, none⟩) (Nat.le_refl _) y0).setCell (p := ⟨w.heap.size, 1, none⟩) (Nat.le_refl _) y1).setCell (p := ⟨w.heap.size, 2, none⟩) (Nat.le_refl _) y2
    clear HBEE HX1 HX2 K0 K1 K2 K3 K4 K5
    cases hw : wellF (mSpec ns).2 with
    | false =>
      have HE := Lib.hid (HM.out.trans (if_neg (by rw [hw]; decide)))
      have hw' : wellF t4 = false := by have := HMM.out; rw [this] at hw; exact hw
      clear hw
      go_wp2
      refine bodyPost_ret (v := .tuple #[.agg #[.slice none 0 0, .int .i64 0, .int .i64 0], .iface 52 (.int .i64 2)]) ?_ rfl ?_
      · simp [results, Tryz.results17, go_sem, *]
      · unfold SpecTo
        rw [HE.out]
        exact specTo_err rfl (.inr (.inl ⟨rfl, by decide, by decide, rfl⟩)) (HBF.out _ _ _)
    | true =>
      have HE := Lib.hid (HM.out.trans (if_pos hw))
      have hw' : wellF t4 = true := by have := HMM.out; rw [this] at hw; exact hw
      clear hw
      have HO7 := Lib.hid (own_set (own_set (own_set HO6.out (p := ⟨w.heap.size, 0, none⟩) (by show w.heap.size < w4.heap.size; omega) (.slice A3 q c3)) (p := ⟨w.heap.size, 1, none⟩) (by show w.heap.size < w4.heap.size; omega) (.int .i64 x1)) (p := ⟨w.heap.size, 2, none⟩) (by show w.heap.size < w4.heap.size; omega) (.int .i64 x2))
      go_wp2
      refine bodyPost_ret (v := .tuple #[.agg #[.slice A3 q c3, .int .i64 x1, .int .i64 x2], .nilIface]) ?_ rfl ?_
      · simp [results, Tryz.results17, go_sem, *]
      · have hout := out_of_own (cells := cellsW) (size := 6) (fun _ => rfl) HQ.out.symm HO7.out
        unfold SpecTo
        rw [HE.out, HMM.out]
        exact ⟨A3, c3, .nilIface, by rw [← HQ.out], hout, .inl ⟨rfl, rfl⟩, HBF.out _ _ _⟩
end Go.Proofs.YtgfleifpblcnfaaGreatDoor

/- The program's Spec: a spec as bytes. -/
namespace Go.Proofs.YtgfleifpblcnfaaGreatDoor
set_option linter.unusedSimpArgs false
open Go.RowKit
set_option linter.unusedVariables false

theorem NumsTo.q {l : List Int} {q : Nat} {w w' : World} {e : Ending} (hq : l.length = q) (h : NumsTo l w e w') : ∃ A c, e = .returned (.slice A q c) ∧ Sl w' l A q c ∧ Below w.heap.size w w' := by
  subst hq; exact SlTo.of h
theorem Put_q {l : List Int} {q : Nat} (hq : l.length = q) (hl : q ≤ 5000) (hn : Nums l) {A : Option Addr} {c : Nat} {w : World} (hs : Sl w l A q c) :
    Calls Tryz.prog 23 #[.slice A q c] w (PutTo w.heap.size (encs l) w) := by
  subst hq; exact Put_any l A c w hl hn hs.2.2
theorem PutTo.q {B q : Nat} {l : List Int} {w w' : World} {e : Ending} (hq : l.length = q) (h : PutTo B l w e w') : ∃ A c, e = .returned (.slice A q c) ∧ w'.ownsRow B 5 1 (.slice A q c) q (u8s l) ∧ Below B w w' := by
  subst hq; exact h.sl
theorem spec_nums {x : SpecD} (h : specOk x = true) (hq : ∀ y ∈ x.wants, y.Ok) : Nums (specNums x) := by
  simp only [specOk, Bool.and_eq_true, decide_eq_true_eq, List.all_eq_true] at h
  intro n hn
  rcases List.mem_append.1 hn with hn | hn
  · simp only [List.mem_cons, List.not_mem_nil, or_false] at hn
    rcases hn with rfl | rfl | rfl
    · have := h.1; omega
    · exact inId_nums h.2.1
    · exact inId_nums h.2.2.1
  · obtain ⟨y, hy, hn⟩ := List.mem_flatMap.1 hn
    obtain ⟨o1, o2, o3, o4, o5⟩ := hq y hy
    simp only [wantK, List.mem_cons, List.not_mem_nil, or_false] at hn
    rcases hn with rfl | rfl | rfl | rfl | rfl | rfl
    · exact inId_nums (h.2.2.2 y hy)
    · exact o2
    · exact o3
    · exact o4
    · exact o5
    · have := i31_truth y.stay; omega
def SpecRel (x : SpecD) (w W : World) (i : Value) (wr : World) : Prop := ∃ k : Nat, k ≤ x.wants.length ∧ i = .int .i64 k ∧ (x.wants.take k).all (fun y => inId y.pod) = true ∧ Below (w.heap.size + 1) W wr ∧ w.heap.size + 1 ≤ wr.heap.size
theorem wantOk_all (y : WantD) : [y.pod].all inId = inId y.pod := by simp
theorem two_all (a b : Int) : [a, b].all inId = (inId a && inId b) := by simp

set_option maxHeartbeats 6400000 in
set_option maxRecDepth 100000 in
theorem spec_any (x : SpecD) (A : Option Addr) (n c : Nat) (w : World) (hn : n = x.wants.length) (hl : n ≤ 1000) (hok : ∀ y ∈ x.wants, y.Ok) (hr : Recs 6 cellsW w w.heap.size A x.wants) :
    Calls Tryz.prog 15 #[specV A n c x] w (WriteTo (specOk x) (specNums x) w) := by
  have HN := Lib.hid hn
  have HR := Lib.hid hr
  have HOKS := Lib.hid hok
  have b00 : Below w.heap.size w (w.alloc (.cells #[.slice A n c, .int .i64 x.preempts, .int .i64 x.shifts] 48)) := (Below.refl _ _).alloc (Nat.le_refl _) _
  have HB0 := Lib.hid b00
  clear hn hr hok b00
  by_cases h12 : 12 < n
  · have HE : Hid (specOk x = false) := by
      have := HN.out
      show _ = _
      simp [specOk]; omega
    go_enter Tryz.func15, Tryz.ntmps15
    go_wp2
    go_ret2
    exact ⟨.inr ⟨HE.out, rfl⟩, HB0.out⟩
  · go_enter Tryz.func15, Tryz.ntmps15
    go_wp2_with fail
    refine (writable_any [x.preempts, x.shifts] _ 2 2 _ rfl (by decide) (row_at _ (w.heap.size + 1) 2 _ (by simp) fun j hj => ?_)).mono ?_
    · match j, hj with
      | 0, _ => simp
      | 1, _ => simp
    rw [two_all]
    rintro e w1 ⟨rfl, rfl⟩
    cases hps : (inId x.preempts && inId x.shifts) with
    | false =>
      have HE : Hid (specOk x = false) := by
        show _ = _
        rw [specOk, ← Bool.and_assoc (inId x.preempts), hps]; simp
      clear hps
      go_wp2
      go_ret2
      exact ⟨.inr ⟨HE.out, rfl⟩, HB0.out.alloc HB0.out.size _⟩
    | true =>
      have HPS := Lib.hid hps
      clear hps
      go_wp2
      go_loopw [23] (SpecRel x w (w.alloc (.cells #[.slice A n c, .int .i64 x.preempts, .int .i64 x.shifts] 48))) (fun i _ => n - (intOf i).toNat)
      case atStart => exact ⟨0, by omega, rfl, rfl, (Below.refl _ _).alloc (by simp) _, by simp⟩
      case round =>
        obtain ⟨k, hk, rfl, hall, hbr, hzr⟩ := hrel
        have HA := Lib.hid hall
        have HBR := Lib.hid hbr
        have HBW := Lib.hid (HB0.out.trans (hbr.mono (by omega)))
        clear hall
        by_cases hlt : k < n
        · have hkl : k < x.wants.length := by have := HN.out; omega
          obtain ⟨b, o, rfl, hb, he⟩ := HR.out.at hkl
          generalize hx : x.wants[k] = y at *
          have HX := Lib.hid hx
          clear hx
          have e0 : wr.cell? ⟨b, o + k * 6, none⟩ = some (.int .i64 y.pod) := (HBW.out.cell (p := ⟨b, o + k * 6, none⟩) hb).trans (he 0 _ rfl)
          have e1 : wr.cell? ⟨b, o + k * 6 + 1, none⟩ = some (.int .u64 y.req.a) := (HBW.out.cell (p := ⟨b, o + k * 6 + 1, none⟩) hb).trans (he 1 _ rfl)
          have e2 : wr.cell? ⟨b, o + k * 6 + 2, none⟩ = some (.int .u64 y.req.b) := (HBW.out.cell (p := ⟨b, o + k * 6 + 2, none⟩) hb).trans (he 2 _ rfl)
          have e3 : wr.cell? ⟨b, o + k * 6 + 3, none⟩ = some (.int .u64 y.req.c) := (HBW.out.cell (p := ⟨b, o + k * 6 + 3, none⟩) hb).trans (he 3 _ rfl)
          have e4 : wr.cell? ⟨b, o + k * 6 + 4, none⟩ = some (.int .u64 y.req.d) := (HBW.out.cell (p := ⟨b, o + k * 6 + 4, none⟩) hb).trans (he 4 _ rfl)
          have e5 : wr.cell? ⟨b, o + k * 6 + 5, none⟩ = some (.bool y.stay) := (HBW.out.cell (p := ⟨b, o + k * 6 + 5, none⟩) hb).trans (he 5 _ rfl)
          have hbw : b < wr.heap.size := by omega
          clear he hbr
          go_wp2_with fail
          refine (writable_any [y.pod] _ 1 1 _ rfl (by decide) (row_at _ (wr.heap.size + 1) 1 _ (by simp) fun j hj => ?_)).mono ?_
          · match j, hj with
            | 0, _ => simp
          rw [wantOk_all]
          rintro e w1 ⟨rfl, rfl⟩
          cases hok : inId y.pod with
          | true =>
            have HT := Lib.hid (all_take (p := fun y => inId y.pod) hkl HA.out HX.out hok)
            clear hok
            go_wp2
            go_roundw
            case rel => exact ⟨k + 1, by omega, by go_num, HT.out, (HBR.out.alloc hzr _).alloc (by simp; omega) _, by simp; omega⟩
            case measure => simp [intOf]; omega
          | false =>
            have HE : Hid (specOk x = false) := by
              have := all_false (p := fun y => inId y.pod) hkl HX.out hok
              show _ = _
              rw [specOk, this]; simp
            clear hok
            go_wp2
            go_ret2
            exact ⟨.inr ⟨HE.out, rfl⟩, (HBW.out.alloc HBW.out.size _).alloc (by have := HBW.out.size; simp; omega) _⟩
        · have hall : (x.wants.all fun y => inId y.pod) = true := by
            have := HA.out
            rwa [List.take_of_length_le (by have := HN.out; omega)] at this
          have hps := HPS.out
          rw [Bool.and_eq_true] at hps
          have HOK : Hid (specOk x = true) := by
            have := HN.out
            show _ = _
            rw [specOk, hall, hps.1, hps.2, decide_eq_true (by omega)]; rfl
          have HP : Hid (∀ y ∈ x.wants, OknW y) := fun y hy => inId_pos (List.all_eq_true.1 hall y hy)
          have hp1 := inId_pos hps.1
          have hp2 := inId_pos hps.2
          obtain ⟨b0, b1, b2⟩ := box_cells hbr
          have HRW : Hid (∀ v : World, Keeps wr v → Recs 6 cellsW v v.heap.size A x.wants) := fun v kv => (HR.out.below (HBW.out.trans (kv.2.mono HBW.out.size)) (Nat.le_refl _)).more (HBW.out.trans (kv.2.mono HBW.out.size)).size
          have hfl : (x.wants.flatMap wantK.nums).length = x.wants.length * 6 := flat_length wantK _
          obtain ⟨q, hq⟩ : ∃ q, (x.wants.flatMap wantK.nums).length = q := ⟨_, rfl⟩
          have hq6 : q ≤ 6000 := by have := HN.out; omega
          have hsn : [(n : Int), x.preempts, x.shifts] ++ x.wants.flatMap wantK.nums = specNums x := by rw [HN.out]; rfl
          have HSQ : Hid ((specNums x).length = 3 + q) := by show _ = _; rw [← hsn, ← hq, List.length_append]; rfl
          obtain ⟨q2, hq2⟩ : ∃ q2, (specNums x).length = q2 := ⟨_, rfl⟩
          obtain ⟨q3, hq3⟩ : ∃ q3, (encs (specNums x)).length = q3 := ⟨_, rfl⟩
          have hq2' : q2 ≤ 5000 := by have := HSQ.out; have := HN.out; omega
          have HQ := Lib.hid hq
          have HQ2 := Lib.hid hq2
          have HQ3 := Lib.hid hq3
          have HSN := Lib.hid hsn
          have HNUM := Lib.hid (spec_nums HOK.out HOKS.out)
          have hbb : w.heap.size < wr.heap.size := by omega
          clear hall hps hfl hq hsn hq2 hq3 hbr
          go_wp2
          go_region_held3 (fun w' => (∀ b o, b < wr.heap.size → w'.cell? ⟨b, o, none⟩ = wr.cell? ⟨b, o, none⟩) ∧ Below wr.heap.size wr w')
            (first | (with_reducible assumption) | (show Keeps wr _; with_reducible (repeat (first | exact Keeps.refl _ | refine Keeps.drew ?_ | refine Keeps.set ?_ (by simp) _ | refine Keeps.alloc ?_ _ | refine Keeps.step ?_ (by assumption)))))
            (first
              | (go_at_call 25; refine (numbers_3s (n : Int) x.preempts x.shifts _ _ (by simp) (by omega) hp1 hp2 (by simp) (by simp) (by simp)).mono ?_; rintro e w1 ⟨A1, c1, rfl, hs1, hb1⟩; have HS1 := Lib.hid hs1)
              | (go_at_call 53; refine (flatW_any x.wants A n c _ HN.out (by omega) HP.out (HRW.out _ (by assumption))).mono ?_; rintro e w2 hto; obtain ⟨A2, c2, rfl, hs2, hb2⟩ := hto.q HQ.out; have HS2 := Lib.hid hs2; have HS1' := Lib.hid (HS1.out.below (by first | exact hb2 | exact (Below.drew (Below.refl _ _)).trans hb2)); clear hto hs2)
              | (go_at_call 24; refine (concat_2 [(n : Int), x.preempts, x.shifts] (x.wants.flatMap wantK.nums) A1 A2 3 c1 q c2 w2.heap.size _ (by simp) (by rw [HQ.out]; show 3 + q ≤ 100000; omega) (HS1'.out.below ((Below.refl _ _).alloc (Nat.le_refl _) _)) (HS2.out.below ((Below.refl _ _).alloc (Nat.le_refl _) _)) (by simp) (by simp)).mono ?_; rw [HSN.out]; rintro e w3 hto; obtain ⟨A3, c3, rfl, hs3, hb3⟩ := hto.q HQ2.out; have HS3 := Lib.hid hs3; clear hto hs3)
              | (go_at_call 23; have hkp : Keeps wr _ := (by assumption); refine (Put_q HQ2.out hq2' HNUM.out HS3.out).mono ?_; rintro e w4 hto; obtain ⟨A4, c4, rfl, ho4, hb4⟩ := hto.q HQ3.out; have HO4 := Lib.hid ho4; have HB4 := Lib.hid hb4; have HKP := Lib.hid hkp; clear hto ho4))
          all_goals
            go_wp2
            go_ret2
            exact write_end HQ3.out.symm (HBW.out.trans (HKP.out.2.mono HBW.out.size)) HO4.out HB4.out HOK.out
end Go.Proofs.YtgfleifpblcnfaaGreatDoor

/- The program's reader: a node. -/
namespace Go.Proofs.YtgfleifpblcnfaaGreatDoor
set_option linter.unusedSimpArgs false
open Go.RowKit
set_option linter.unusedVariables false

set_option maxHeartbeats 6400000 in
set_option maxRecDepth 100000 in
theorem readNode_any (s : St) (r : Nat) (w : World) (h : RdAt w r s) :
    Calls Tryz.prog 44 #[.pointer (some ⟨r, 0, none⟩)] w (RdTo (aggN (rdNode s).1) (rdNode s).2 r w) := by
  have K0 := Lib.hid (Reading.start h [.int .i64 0, .int .i64 0, .int .u64 0, .int .u64 0, .int .u64 0, .int .u64 0, .int .u64 0, .int .u64 0, .int .u64 0, .int .u64 0] 71)
  clear h
  go_enter Tryz.func44, Tryz.ntmps44
  go_wp2_with fail
  refine (number_any s r _ K0.out.rd).mono ?_
  obtain ⟨x0, s1, hx⟩ := pair_of (rdNum s)
  rw [hx]
  have HX0 := Lib.hid hx
  clear hx
  rintro e w1 ⟨rfl, hr, ht⟩
  have K1 := Lib.hid (K0.out.call hr ht)
  clear hr ht
  have hz0 : w.heap.size + 1 < w1.heap.size := by have := K1.out.size; omega
  obtain ⟨c0, f0⟩ := K1.out.box.at 0 (.int .i64 0) rfl
  have K2 := Lib.hid (K1.out.store 0 (.int .i64 x0))
  go_wp2_with fail
  refine (number_any s1 r _ K2.out.rd).mono ?_
  obtain ⟨x1, s2, hx⟩ := pair_of (rdNum s1)
  rw [hx]
  have HX1 := Lib.hid hx
  clear hx
  rintro e w2 ⟨rfl, hr, ht⟩
  have K3 := Lib.hid (K2.out.call hr ht)
  clear hr ht
  have hz1 : w.heap.size + 1 < w2.heap.size := by have := K3.out.size; omega
  obtain ⟨c1, f1⟩ := K3.out.box.at 1 (.int .i64 0) rfl
  have K4 := Lib.hid (K3.out.store 1 (.int .i64 x1))
  go_wp2_with fail
  refine (amount_any s2 r _ K4.out.rd).mono ?_
  obtain ⟨x2, s3, hx⟩ := pair_of (rdVec s2)
  rw [hx]
  have HX2 := Lib.hid hx
  clear hx
  rintro e w3 ⟨rfl, hr, ht⟩
  have K5 := Lib.hid (K4.out.call hr ht)
  clear hr ht
  have hz2 : w.heap.size + 1 < w3.heap.size := by have := K5.out.size; omega
  obtain ⟨c2, f2⟩ := K5.out.box.at 2 (.int .u64 0) rfl
  obtain ⟨c3, f3⟩ := K5.out.box.at 3 (.int .u64 0) rfl
  obtain ⟨c4, f4⟩ := K5.out.box.at 4 (.int .u64 0) rfl
  obtain ⟨c5, f5⟩ := K5.out.box.at 5 (.int .u64 0) rfl
  have K6 := Lib.hid (K5.out.store4 2 (.int .u64 x2.a) (.int .u64 x2.b) (.int .u64 x2.c) (.int .u64 x2.d))
  go_wp2_with fail
  refine (amount_any s3 r _ K6.out.rd).mono ?_
  obtain ⟨x3, s4, hx⟩ := pair_of (rdVec s3)
  rw [hx]
  have HX3 := Lib.hid hx
  clear hx
  rintro e w4 ⟨rfl, hr, ht⟩
  have K7 := Lib.hid (K6.out.call hr ht)
  clear hr ht
  have hz3 : w.heap.size + 1 < w4.heap.size := by have := K7.out.size; omega
  obtain ⟨c6, f6⟩ := K7.out.box.at 6 (.int .u64 0) rfl
  obtain ⟨c7, f7⟩ := K7.out.box.at 7 (.int .u64 0) rfl
  obtain ⟨c8, f8⟩ := K7.out.box.at 8 (.int .u64 0) rfl
  obtain ⟨c9, f9⟩ := K7.out.box.at 9 (.int .u64 0) rfl
  have K8 := Lib.hid (K7.out.store4 6 (.int .u64 x3.a) (.int .u64 x3.b) (.int .u64 x3.c) (.int .u64 x3.d))
  have c0 := (K7.out.box.at 0 (.int .i64 x0) rfl).1
  have c1 := (K7.out.box.at 1 (.int .i64 x1) rfl).1
  have c2 := (K7.out.box.at 2 (.int .u64 x2.a) rfl).1
  have c3 := (K7.out.box.at 3 (.int .u64 x2.b) rfl).1
  have c4 := (K7.out.box.at 4 (.int .u64 x2.c) rfl).1
  have c5 := (K7.out.box.at 5 (.int .u64 x2.d) rfl).1
  obtain ⟨d0, g0⟩ := K7.out.res.at 0 (.int .i64 0) rfl
  obtain ⟨d1, g1⟩ := K7.out.res.at 1 (.int .i64 0) rfl
  obtain ⟨d2, g2⟩ := K7.out.res.at 2 (.int .u64 0) rfl
  obtain ⟨d3, g3⟩ := K7.out.res.at 3 (.int .u64 0) rfl
  obtain ⟨d4, g4⟩ := K7.out.res.at 4 (.int .u64 0) rfl
  obtain ⟨d5, g5⟩ := K7.out.res.at 5 (.int .u64 0) rfl
  obtain ⟨d6, g6⟩ := K7.out.res.at 6 (.int .u64 0) rfl
  obtain ⟨d7, g7⟩ := K7.out.res.at 7 (.int .u64 0) rfl
  obtain ⟨d8, g8⟩ := K7.out.res.at 8 (.int .u64 0) rfl
  obtain ⟨d9, g9⟩ := K7.out.res.at 9 (.int .u64 0) rfl
  have HE : Hid (rdNode s = (⟨x0, x1, x2, x3⟩, s4)) := by
    show _ = _
    simp only [rdNode, HX0.out, HX1.out, HX2.out, HX3.out]
  have hzz : w.heap.size < w4.heap.size := by omega
  go_wp2
  refine bodyPost_ret (v := aggN ⟨x0, x1, x2, x3⟩) ?_ rfl ?_
  · simp [results, Tryz.results44, go_sem, *]
  · refine ⟨by rw [HE.out], ?_, ?_⟩
    · rw [HE.out]
      refine (K7.out.end ?_).1
      repeat (first | with_reducible exact Below.refl _ _ | with_reducible refine Below.setCell ?_ ?_ _)
      all_goals (first | (show w.heap.size ≤ w.heap.size; omega) | (show w.heap.size ≤ w.heap.size + 1; omega))
    · refine (K7.out.end ?_).2
      repeat (first | with_reducible exact Below.refl _ _ | with_reducible refine Below.setCell ?_ ?_ _)
      all_goals (first | (show w.heap.size ≤ w.heap.size; omega) | (show w.heap.size ≤ w.heap.size + 1; omega))
end Go.Proofs.YtgfleifpblcnfaaGreatDoor

/- The program's list, at one kind of record. -/
namespace Go.Proofs.YtgfleifpblcnfaaGreatDoor
set_option linter.unusedSimpArgs false
open Go.RowKit
set_option linter.unusedVariables false

theorem Tryz.info71 : (Tryz.prog.info? 71).map (fun i => (i.zero, i.size, i.bytes)) = some (some (.agg #[.int .i64 0, .int .i64 0, .int .u64 0, .int .u64 0, .int .u64 0, .int .u64 0, .int .u64 0, .int .u64 0, .int .u64 0, .int .u64 0]), 10, 80) := by kernel_rfl
theorem Tryz.underSlN : Tryz.prog.underlying 22 = some (.slice 71) := by kernel_rfl
theorem one_cellsN (x : NodeD) : ∀ u ∈ cellsN x, u.oneCell' = true := by
  intro u hu; simp only [cellsN, List.mem_cons, List.not_mem_nil, or_false] at hu
  rcases hu with rfl | rfl | rfl | rfl | rfl | rfl | rfl | rfl | rfl | rfl <;> rfl
set_option maxHeartbeats 3200000 in
set_option maxRecDepth 100000 in
theorem listN_any (s : St) (r many : Nat) (w : World) (hm : many ≤ 1000) (h : RdAt w r s) :
    Calls Tryz.prog 43 #[.pointer (some ⟨r, 0, none⟩), .int .i64 (many : Int), .func (.func 44) #[] #[]] w (ListTo 71 10 cellsN (rdList rdNode many s).1 (rdList rdNode many s).2 r w) := by
  have H := Lib.hid h
  have hrl := h.lt
  clear h
  go_enter Tryz.func43, Tryz.ntmps43
  go_wp2
  go_loopw [7, 9] (ListRel 71 10 cellsN rdNode many s r w) (fun _ i _ => many - (intOf i).toNat)
  case atStart => exact ⟨0, [], s, by omega, rfl, rfl, by simp, rfl, H.out, World.ownsRow_nil _ _ _ _, Turn.refl⟩
  case round =>
    obtain ⟨k, acc, t, hk, rfl, hka, he1, he2, hrd, hown, ht⟩ := hrel
    have hz := ht.size
    have HA := Lib.hid hka
    have HE1 := Lib.hid he1
    have HE2 := Lib.hid he2
    have HR := Lib.hid hrd
    have HO := Lib.hid hown
    have HT := Lib.hid ht
    clear hka he1 he2 hrd hown ht
    by_cases hlt : k < many
    · go_wp2_with fail
      go_at_call 44
      refine (readNode_any t r wr HR.out).mono ?_
      obtain ⟨x, t', hx⟩ := pair_of (rdNode t)
      have HS := Lib.hid (list_step hlt hx HE1.out HE2.out)
      rw [hx]
      clear hx
      rintro e w1 ⟨rfl, hr1, ht1⟩
      have hz1 : w.heap.size ≤ w1.heap.size := by have := ht1.size; omega
      have hown1 := own_turn HO.out ht1 hrl
      have HR1 := Lib.hid hr1
      have HT1 := Lib.hid (HT.out.trans ht1)
      clear hr1 ht1
      go_wp2_with (at_builtin; refine wpList_pushN 22 71 (.agg #[.int .i64 0, .int .i64 0, .int .u64 0, .int .u64 0, .int .u64 0, .int .u64 0, .int .u64 0, .int .u64 0, .int .u64 0, .int .u64 0]) 10 80 Tryz.underSlN Tryz.info71 rfl (by decide) (by decide) rfl (.tmp 11) (.tmp 15) rfl w.heap.size _ k (acc.flatMap cellsN) (cellsN x) rfl (one_cellsN x) hown1 hz1 (by omega) rfl rfl ?_; intro v' w2 hown2 hb2 hB2)
      go_roundw
      case rel => exact ⟨k + 1, acc ++ [x], t', by omega, by go_num, by have := HA.out; simp; omega, HS.out.1, HS.out.2, HR1.out.below hb2 hrl, by rw [List.flatMap_append]; simpa using hown2, HT1.out.later hb2⟩
      case measure => simp [intOf]; omega
    · obtain rfl : k = many := by omega
      have HP := Lib.hid (list_end HE1.out HE2.out)
      go_wp2
      go_ret
      unfold ListTo
      rw [HP.out]
      exact ⟨_, rfl, by have := HA.out; rw [← this]; exact HO.out, HR.out, HT.out⟩
end Go.Proofs.YtgfleifpblcnfaaGreatDoor

/- The program's reader: a load. -/
namespace Go.Proofs.YtgfleifpblcnfaaGreatDoor
set_option linter.unusedSimpArgs false
open Go.RowKit
set_option linter.unusedVariables false

set_option maxHeartbeats 6400000 in
set_option maxRecDepth 100000 in
theorem readLoad_any (s : St) (r : Nat) (w : World) (h : RdAt w r s) :
    Calls Tryz.prog 46 #[.pointer (some ⟨r, 0, none⟩)] w (RdTo (aggL (rdLoad s).1) (rdLoad s).2 r w) := by
  have K0 := Lib.hid (Reading.start h [.int .i64 0, .bool false, .int .i64 0, .int .i64 0, .int .i64 0] 75)
  clear h
  go_enter Tryz.func46, Tryz.ntmps46
  go_wp2_with fail
  refine (number_any s r _ K0.out.rd).mono ?_
  obtain ⟨x0, s1, hx⟩ := pair_of (rdNum s)
  rw [hx]
  have HX0 := Lib.hid hx
  clear hx
  rintro e w1 ⟨rfl, hr, ht⟩
  have K1 := Lib.hid (K0.out.call hr ht)
  clear hr ht
  have hz0 : w.heap.size + 1 < w1.heap.size := by have := K1.out.size; omega
  obtain ⟨c0, f0⟩ := K1.out.box.at 0 (.int .i64 0) rfl
  have K2 := Lib.hid (K1.out.store 0 (.int .i64 x0))
  go_wp2_with fail
  refine (rtruth_any s1 r _ K2.out.rd).mono ?_
  obtain ⟨x1, s2, hx⟩ := pair_of (rdTruth s1)
  rw [hx]
  have HX1 := Lib.hid hx
  clear hx
  rintro e w2 ⟨rfl, hr, ht⟩
  have K3 := Lib.hid (K2.out.call hr ht)
  clear hr ht
  have hz1 : w.heap.size + 1 < w2.heap.size := by have := K3.out.size; omega
  obtain ⟨c1, f1⟩ := K3.out.box.at 1 (.bool false) rfl
  have K4 := Lib.hid (K3.out.store 1 (.bool x1))
  go_wp2_with fail
  refine (number_any s2 r _ K4.out.rd).mono ?_
  obtain ⟨x2, s3, hx⟩ := pair_of (rdNum s2)
  rw [hx]
  have HX2 := Lib.hid hx
  clear hx
  rintro e w3 ⟨rfl, hr, ht⟩
  have K5 := Lib.hid (K4.out.call hr ht)
  clear hr ht
  have hz2 : w.heap.size + 1 < w3.heap.size := by have := K5.out.size; omega
  obtain ⟨c2, f2⟩ := K5.out.box.at 2 (.int .i64 0) rfl
  have K6 := Lib.hid (K5.out.store 2 (.int .i64 x2))
  go_wp2_with fail
  refine (number_any s3 r _ K6.out.rd).mono ?_
  obtain ⟨x3, s4, hx⟩ := pair_of (rdNum s3)
  rw [hx]
  have HX3 := Lib.hid hx
  clear hx
  rintro e w4 ⟨rfl, hr, ht⟩
  have K7 := Lib.hid (K6.out.call hr ht)
  clear hr ht
  have hz3 : w.heap.size + 1 < w4.heap.size := by have := K7.out.size; omega
  obtain ⟨c3, f3⟩ := K7.out.box.at 3 (.int .i64 0) rfl
  have K8 := Lib.hid (K7.out.store 3 (.int .i64 x3))
  go_wp2_with fail
  refine (number_any s4 r _ K8.out.rd).mono ?_
  obtain ⟨x4, s5, hx⟩ := pair_of (rdNum s4)
  rw [hx]
  have HX4 := Lib.hid hx
  clear hx
  rintro e w5 ⟨rfl, hr, ht⟩
  have K9 := Lib.hid (K8.out.call hr ht)
  clear hr ht
  have hz4 : w.heap.size + 1 < w5.heap.size := by have := K9.out.size; omega
  obtain ⟨c4, f4⟩ := K9.out.box.at 4 (.int .i64 0) rfl
  have K10 := Lib.hid (K9.out.store 4 (.int .i64 x4))
  have c0 := (K9.out.box.at 0 (.int .i64 x0) rfl).1
  have c1 := (K9.out.box.at 1 (.bool x1) rfl).1
  have c2 := (K9.out.box.at 2 (.int .i64 x2) rfl).1
  have c3 := (K9.out.box.at 3 (.int .i64 x3) rfl).1
  obtain ⟨d0, g0⟩ := K9.out.res.at 0 (.int .i64 0) rfl
  obtain ⟨d1, g1⟩ := K9.out.res.at 1 (.bool false) rfl
  obtain ⟨d2, g2⟩ := K9.out.res.at 2 (.int .i64 0) rfl
  obtain ⟨d3, g3⟩ := K9.out.res.at 3 (.int .i64 0) rfl
  obtain ⟨d4, g4⟩ := K9.out.res.at 4 (.int .i64 0) rfl
  have HE : Hid (rdLoad s = (⟨x0, x1, x2, x3, x4⟩, s5)) := by
    show _ = _
    simp only [rdLoad, HX0.out, HX1.out, HX2.out, HX3.out, HX4.out]
  have hzz : w.heap.size < w5.heap.size := by omega
  go_wp2
  refine bodyPost_ret (v := aggL ⟨x0, x1, x2, x3, x4⟩) ?_ rfl ?_
  · simp [results, Tryz.results46, go_sem, *]
  · refine ⟨by rw [HE.out], ?_, ?_⟩
    · rw [HE.out]
      refine (K9.out.end ?_).1
      repeat (first | with_reducible exact Below.refl _ _ | with_reducible refine Below.setCell ?_ ?_ _)
      all_goals (first | (show w.heap.size ≤ w.heap.size; omega) | (show w.heap.size ≤ w.heap.size + 1; omega))
    · refine (K9.out.end ?_).2
      repeat (first | with_reducible exact Below.refl _ _ | with_reducible refine Below.setCell ?_ ?_ _)
      all_goals (first | (show w.heap.size ≤ w.heap.size; omega) | (show w.heap.size ≤ w.heap.size + 1; omega))
end Go.Proofs.YtgfleifpblcnfaaGreatDoor

namespace Go.Proofs.YtgfleifpblcnfaaGreatDoor
set_option linter.unusedSimpArgs false
open Go.RowKit
set_option linter.unusedVariables false

theorem Tryz.info75 : (Tryz.prog.info? 75).map (fun i => (i.zero, i.size, i.bytes)) = some (some (.agg #[.int .i64 0, .bool false, .int .i64 0, .int .i64 0, .int .i64 0]), 5, 40) := by kernel_rfl
theorem Tryz.underSlL : Tryz.prog.underlying 23 = some (.slice 75) := by kernel_rfl
theorem one_cellsL (x : LoadD) : ∀ u ∈ cellsL x, u.oneCell' = true := by
  intro u hu; simp only [cellsL, List.mem_cons, List.not_mem_nil, or_false] at hu
  rcases hu with rfl | rfl | rfl | rfl | rfl <;> rfl
set_option maxHeartbeats 3200000 in
set_option maxRecDepth 100000 in
theorem listL_any (s : St) (r many : Nat) (w : World) (hm : many ≤ 1000) (h : RdAt w r s) :
    Calls Tryz.prog 45 #[.pointer (some ⟨r, 0, none⟩), .int .i64 (many : Int), .func (.func 46) #[] #[]] w (ListTo 75 5 cellsL (rdList rdLoad many s).1 (rdList rdLoad many s).2 r w) := by
  have H := Lib.hid h
  have hrl := h.lt
  clear h
  go_enter Tryz.func45, Tryz.ntmps45
  go_wp2
  go_loopw [7, 9] (ListRel 75 5 cellsL rdLoad many s r w) (fun _ i _ => many - (intOf i).toNat)
  case atStart => exact ⟨0, [], s, by omega, rfl, rfl, by simp, rfl, H.out, World.ownsRow_nil _ _ _ _, Turn.refl⟩
  case round =>
    obtain ⟨k, acc, t, hk, rfl, hka, he1, he2, hrd, hown, ht⟩ := hrel
    have hz := ht.size
    have HA := Lib.hid hka
    have HE1 := Lib.hid he1
    have HE2 := Lib.hid he2
    have HR := Lib.hid hrd
    have HO := Lib.hid hown
    have HT := Lib.hid ht
    clear hka he1 he2 hrd hown ht
    by_cases hlt : k < many
    · go_wp2_with fail
      go_at_call 46
      refine (readLoad_any t r wr HR.out).mono ?_
      obtain ⟨x, t', hx⟩ := pair_of (rdLoad t)
      have HS := Lib.hid (list_step hlt hx HE1.out HE2.out)
      rw [hx]
      clear hx
      rintro e w1 ⟨rfl, hr1, ht1⟩
      have hz1 : w.heap.size ≤ w1.heap.size := by have := ht1.size; omega
      have hown1 := own_turn HO.out ht1 hrl
      have HR1 := Lib.hid hr1
      have HT1 := Lib.hid (HT.out.trans ht1)
      clear hr1 ht1
      go_wp2_with (at_builtin; refine wpList_pushN 23 75 (.agg #[.int .i64 0, .bool false, .int .i64 0, .int .i64 0, .int .i64 0]) 5 40 Tryz.underSlL Tryz.info75 rfl (by decide) (by decide) rfl (.tmp 11) (.tmp 15) rfl w.heap.size _ k (acc.flatMap cellsL) (cellsL x) rfl (one_cellsL x) hown1 hz1 (by omega) rfl rfl ?_; intro v' w2 hown2 hb2 hB2)
      go_roundw
      case rel => exact ⟨k + 1, acc ++ [x], t', by omega, by go_num, by have := HA.out; simp; omega, HS.out.1, HS.out.2, HR1.out.below hb2 hrl, by rw [List.flatMap_append]; simpa using hown2, HT1.out.later hb2⟩
      case measure => simp [intOf]; omega
    · obtain rfl : k = many := by omega
      have HP := Lib.hid (list_end HE1.out HE2.out)
      go_wp2
      go_ret
      unfold ListTo
      rw [HP.out]
      exact ⟨_, rfl, by have := HA.out; rw [← this]; exact HO.out, HR.out, HT.out⟩
end Go.Proofs.YtgfleifpblcnfaaGreatDoor
