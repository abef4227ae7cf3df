/- Joined texts, part 8: GV GKW GLW GT GW GKN GLN GKL GLL GKP GLP FQ. -/
import Derived.Test.YtjpaeaedfgiomaaDoorZ07
import Derived.Test.YtjpaeaedfgiomaaDoorZ01
import Derived.Test.YtjpaeaedfgiomaaDoorZ06

/- The program's Moves: moves as bytes. -/
namespace Go.Proofs.YtjpaeaedfgiomaaDoor
set_option linter.unusedSimpArgs false
open Go.RowKit
set_option linter.unusedVariables false

/-- What a writer tells: the bytes of these numbers, in a row of the call's own; ErrArg, if it may not be written. -/
def WriteTo (ok : Bool) (l : List Int) (w : World) (e : Ending) (w' : World) : Prop :=
  ((ok = true ∧ ∃ v, e = .returned (.tuple #[v, .nilIface]) ∧ w'.ownsRow w.heap.size 5 1 v (u8s (encs l)).length (u8s (encs l))) ∨
   (ok = false ∧ e = .returned (.tuple #[.slice none 0 0, .iface 33 (.int .i64 1)]))) ∧ Below w.heap.size w w'
theorem write_end {l : List Int} {w v w' : World} {u : Value} {n : Nat} (hn : n = (encs l).length) (hb : Below w.heap.size w v) (ho : w'.ownsRow v.heap.size 5 1 u n (u8s (encs l))) (hb' : Below v.heap.size v w') {ok : Bool} (hok : ok = true) : WriteTo ok l w (.returned (.tuple #[u, .nilIface])) w' := by
  have hn' : n = (u8s (encs l)).length := by rw [hn]; simp
  subst hn'
  refine ⟨.inl ⟨hok, u, rfl, ho.1, ?_⟩, hb.trans (hb'.mono hb.size)⟩
  rcases ho.2 with h0 | ⟨g, cap, cur, hv, hbg, hg, rest⟩
  · exact .inl h0
  · exact .inr ⟨g, cap, cur, hv, Nat.le_trans hb.size hbg, hg, rest⟩
theorem PutTo.sl {B : Nat} {l : List Int} {w w' : World} {e : Ending} (h : PutTo B l w e w') : ∃ A c, e = .returned (.slice A l.length c) ∧ w'.ownsRow B 5 1 (.slice A l.length c) l.length (u8s l) ∧ Below B w w' := by
  obtain ⟨v, rfl, ho, hb⟩ := h
  obtain ⟨A, c, rfl, _⟩ := own_form ho
  have hlen : (u8s l).length = l.length := by simp
  rw [hlen] at ho ⊢
  exact ⟨A, c, rfl, ho, hb⟩
theorem pos_nums {l : List Int} (h : ∀ x ∈ l, U64 x) : Nums l := fun n hn => h n hn
theorem inId_nums {n : Int} (h : inId n = true) : U64 n := by have := inId_iff.1 h; unfold U64; omega
theorem inId_pos {n : Int} (h : inId n = true) : I31 n := by have := inId_iff.1 h; omega
theorem move_nums {m : List MoveD} (h : movesOk m = true) : Nums (moveNums m) := by
  simp only [movesOk, moveOk, Bool.and_eq_true, decide_eq_true_eq, List.all_eq_true] at h
  intro n hn
  rcases List.mem_cons.1 hn with rfl | hn
  · have := h.1; omega
  · obtain ⟨x, hx, hn⟩ := List.mem_flatMap.1 hn
    have hh := h.2 x hx
    simp only [moveK, List.mem_cons, List.not_mem_nil, or_false] at hn
    rcases hn with rfl | rfl | rfl | rfl
    · exact inId_nums hh.1
    · exact inId_nums hh.2.1
    · exact inId_nums hh.2.2.1
    · exact inId_nums hh.2.2.2
def MovesRel (m : List MoveD) (w : World) (i : Value) (wr : World) : Prop := ∃ k : Nat, k ≤ m.length ∧ i = .int .i64 k ∧ (m.take k).all moveOk = true ∧ Below w.heap.size w wr
theorem moveOk_all (x : MoveD) : [x.kind, x.pod, x.node, x.over].all inId = moveOk x := by simp [moveOk]

set_option maxHeartbeats 6400000 in
set_option maxRecDepth 100000 in
theorem moves_any (m : List MoveD) (A : Option Addr) (n c : Nat) (w : World) (hn : n = m.length) (hl : n ≤ 1000) (hr : Recs 4 cellsM w w.heap.size A m) :
    Calls Tryd.prog 5 #[.slice A n c] w (WriteTo (movesOk m) (moveNums m) w) := by
  have HN := Lib.hid hn
  have HR := Lib.hid hr
  clear hn hr
  by_cases h40 : 40 < n
  · have HE : Hid (movesOk m = false) := by
      have := HN.out
      show _ = _
      simp [movesOk]; omega
    go_enter Tryd.func5, Tryd.ntmps5
    go_wp2
    go_ret2
    exact ⟨.inr ⟨HE.out, rfl⟩, Below.refl _ _⟩
  · go_enter Tryd.func5, Tryd.ntmps5
    go_wp2
    go_loopw [12] (MovesRel m w) (fun i _ => n - (intOf i).toNat)
    case atStart => exact ⟨0, by omega, rfl, rfl, Below.refl _ _⟩
    case round =>
      obtain ⟨k, hk, rfl, hall, hbr⟩ := hrel
      have hz := hbr.size
      have HA := Lib.hid hall
      clear hall
      by_cases hlt : k < n
      · have hkl : k < m.length := by have := HN.out; omega
        obtain ⟨b, o, rfl, hb, he⟩ := HR.out.at hkl
        generalize hx : m[k] = x at *
        have HX := Lib.hid hx
        clear hx
        have e0 : wr.cell? ⟨b, o + k * 4, none⟩ = some (.int .i64 x.kind) := (hbr.cell (p := ⟨b, o + k * 4, none⟩) hb).trans (he 0 _ rfl)
        have e1 : wr.cell? ⟨b, o + k * 4 + 1, none⟩ = some (.int .i64 x.pod) := (hbr.cell (p := ⟨b, o + k * 4 + 1, none⟩) hb).trans (he 1 _ rfl)
        have e2 : wr.cell? ⟨b, o + k * 4 + 2, none⟩ = some (.int .i64 x.node) := (hbr.cell (p := ⟨b, o + k * 4 + 2, none⟩) hb).trans (he 2 _ rfl)
        have e3 : wr.cell? ⟨b, o + k * 4 + 3, none⟩ = some (.int .i64 x.over) := (hbr.cell (p := ⟨b, o + k * 4 + 3, none⟩) hb).trans (he 3 _ rfl)
        have hbw : b < wr.heap.size := by omega
        clear he
        go_wp2_with fail
        refine (writable_any [x.kind, x.pod, x.node, x.over] _ 4 4 _ rfl (by decide) (row_at _ (wr.heap.size + 1) 4 _ (by simp) fun j hj => ?_)).mono ?_
        · match j, hj with
          | 0, _ => simp
          | 1, _ => simp
          | 2, _ => simp
          | 3, _ => simp
        rw [moveOk_all]
        rintro e w1 ⟨rfl, rfl⟩
        cases hok : moveOk x with
        | true =>
          have HT := Lib.hid (all_take hkl HA.out HX.out hok)
          clear hok
          go_wp2
          go_roundw
          case rel => exact ⟨k + 1, by omega, by go_num, HT.out, (hbr.alloc hz _).alloc (by simp; omega) _⟩
          case measure => simp [intOf]; omega
        | false =>
          have HE : Hid (movesOk m = false) := by
            have := all_false hkl HX.out hok
            show _ = _
            rw [movesOk, this]; simp
          clear hok
          go_wp2
          go_ret2
          exact ⟨.inr ⟨HE.out, rfl⟩, (hbr.alloc hz _).alloc (by simp; omega) _⟩
      · have hall : m.all moveOk = true := by
          have := HA.out
          rwa [List.take_of_length_le (by have := HN.out; omega)] at this
        have HOK : Hid (movesOk m = true) := by
          have := HN.out
          show _ = _
          rw [movesOk, hall, decide_eq_true (by omega)]; rfl
        have HP : Hid (∀ x ∈ m, OknM x) := fun x hx => by
          have := List.all_eq_true.1 hall x hx
          simp only [moveOk, Bool.and_eq_true] at this
          exact ⟨inId_pos this.1, inId_pos this.2.1, inId_pos this.2.2.1, inId_pos this.2.2.2⟩
        have hr1 := HR.out.below hbr (Nat.le_refl _)
        have HR1 := Lib.hid (hr1.more hz)
        clear hall hr1
        go_wp2_with fail
        refine (numbers_1s (n : Int) wr.heap.size _ (by simp) (by omega) (by simp)).mono ?_
        rintro e w1 ⟨A1, c1, rfl, hs1, hb1⟩
        have kb1 : Below wr.heap.size wr w1 := ((Below.refl _ _).alloc (Nat.le_refl _) _).trans (hb1.mono (by simp))
        have HK1 := Lib.hid kb1
        have HS1 := Lib.hid hs1
        have hz1 := kb1.size
        clear hs1 hb1 kb1
        go_wp2_with fail
        refine (flatM_any m A n c w1 HN.out (by omega) HP.out ((HR1.out.below HK1.out (Nat.le_refl _)).more hz1)).mono ?_
        rintro e w2 hto
        obtain ⟨A2, c2, rfl, hs2, hb2⟩ := SlTo.of hto
        have HS1' := Lib.hid (HS1.out.below hb2)
        have HS2 := Lib.hid hs2
        have HK2 := Lib.hid (HK1.out.trans (hb2.mono hz1))
        have HF : Hid ((m.flatMap moveK.nums).length ≤ 4000) := by
          have hfl : (m.flatMap moveK.nums).length = m.length * 4 := flat_length moveK m
          have := HN.out; show _ ≤ _; omega
        have hz2 : wr.heap.size ≤ w2.heap.size := HK2.out.size
        clear hto hs2 hb2
        generalize hq : (m.flatMap moveK.nums).length = q at *
        have HQ := Lib.hid hq
        clear hq
        go_wp2_with fail
        refine (concat_2 [(n : Int)] (m.flatMap moveK.nums) A1 A2 1 c1 q c2 w2.heap.size _ (by simp) (by have := HF.out; rw [HQ.out]; simp; omega) (HS1'.out.below ((Below.refl _ _).alloc (Nat.le_refl _) _)) (HS2.out.below ((Below.refl _ _).alloc (Nat.le_refl _) _)) (by simp) (by simp)).mono ?_
        rintro e w3 hto
        have hmn : [(n : Int)] ++ m.flatMap moveK.nums = moveNums m := by rw [HN.out]; rfl
        rw [hmn] at hto
        obtain ⟨A3, c3, rfl, hs3, hb3⟩ := SlTo.of hto
        have HS3 := Lib.hid hs3
        have HK3 : Hid (Below wr.heap.size wr w3) := (HK2.out.alloc hz2 _).trans (hb3.mono (by simp; omega))
        have hml : (moveNums m).length = 1 + q := by rw [← hmn, ← HQ.out, List.length_append]; rfl
        clear hto hs3 hb3 hmn
        have HPU := Lib.hid (Put_any (moveNums m) A3 c3 w3 (by have := HF.out; omega) (move_nums HOK.out) HS3.out.2.2)
        clear hml
        generalize (moveNums m).length = q2 at *
        go_wp2_with fail
        refine HPU.out.mono ?_
        rintro e w4 hto
        obtain ⟨A4, c4, rfl, ho4, hb4⟩ := hto.sl
        have HO4 := Lib.hid ho4
        have HB4 := Lib.hid hb4
        clear hto ho4 hb4
        go_wp2
        go_ret2
        have hfin := write_end rfl (hbr.trans (HK3.out.mono hz)) HO4.out HB4.out HOK.out
        exact hfin
end Go.Proofs.YtjpaeaedfgiomaaDoor

/- The program's reader: a want. -/
namespace Go.Proofs.YtjpaeaedfgiomaaDoor
set_option linter.unusedSimpArgs false
open Go.RowKit
set_option linter.unusedVariables false

end Go.Proofs.YtjpaeaedfgiomaaDoor

/- The program's list, at one kind of record. -/
namespace Go.Proofs.YtjpaeaedfgiomaaDoor
set_option linter.unusedSimpArgs false
open Go.RowKit
set_option linter.unusedVariables false

theorem one_cellsW (x : WantD) : ∀ u ∈ cellsW x, u.oneCell' = true := by
  intro u hu; simp only [cellsW, List.mem_cons, List.not_mem_nil, or_false] at hu
  rcases hu with rfl | rfl | rfl | rfl | rfl | rfl <;> rfl
end Go.Proofs.YtjpaeaedfgiomaaDoor

/- The program's ReadSpec. -/
namespace Go.Proofs.YtjpaeaedfgiomaaDoor
set_option linter.unusedSimpArgs false
open Go.RowKit
set_option linter.unusedVariables false

theorem own_set {w : World} {base n size : Nat} {e : TypeId} {v : Value} {xs : List Value} (h : w.ownsRow base e size v n xs) {p : Addr} (hp : p.block < base) (u : Value) : (w.setCell p u).ownsRow base e size v n xs := by
  refine ⟨h.1, ?_⟩
  rcases h.2 with h0 | ⟨g, cap, cur, hv, hb, hg, rest⟩
  · exact .inl h0
  · exact .inr ⟨g, cap, cur, hv, hb, (Below.heap_setCell w p u g (by omega)).trans hg, rest⟩
theorem own_later {w w' : World} {base n size : Nat} {e : TypeId} {v : Value} {xs : List Value} (h : w.ownsRow base e size v n xs) (hb : Below w.heap.size w w') : w'.ownsRow base e size v n xs := by
  refine ⟨h.1, ?_⟩
  rcases h.2 with h0 | ⟨g, cap, cur, hv, hbb, hg, rest⟩
  · exact .inl h0
  · exact .inr ⟨g, cap, cur, hv, hbb, (hb.block g (Array.getElem?_eq_some_iff.1 hg).1).trans hg, rest⟩
/-- A record is being put together out of what the reader tells: the result's box rb holds zs, the variable's box xb holds cs. -/
structure Putting (r : Nat) (w : World) (s : St) (rb : Nat) (zs : List Value) (xb : Nat) (cs : List Value) (wr : World) : Prop where
  rd : RdAt wr r s
  below : Below w.heap.size w wr
  res : Box wr rb zs
  box : Box wr xb cs
  hr : w.heap.size ≤ r
  hrb : w.heap.size ≤ rb ∧ rb < r
  hxb : r < xb ∧ xb < wr.heap.size
section
variable {r rb xb : Nat} {w wr w1 : World} {s s' : St} {zs cs : List Value}
theorem Putting.call (h : Putting r w s rb zs xb cs wr) (hr : RdAt w1 r s') (ht : Turn r wr w1) : Putting r w s' rb zs xb cs w1 :=
  ⟨hr, h.below.trans ((ht.below (Nat.le_of_lt h.rd.lt)).mono h.hr), h.res.turn ht (by have := h.hrb; omega), h.box.turn ht (by have := h.hxb; omega), h.hr, h.hrb, ⟨h.hxb.1, Nat.lt_of_lt_of_le h.hxb.2 ht.size⟩⟩
theorem Putting.store (h : Putting r w s rb zs xb cs wr) (i : Nat) (v : Value) : Putting r w s rb zs xb (cs.set i v) (wr.setCell ⟨xb, i, none⟩ v) := by
  have h1 := h.hr
  have h2 := h.hrb
  have h3 := h.hxb
  exact ⟨h.rd.below ((Below.refl (r + 1) _).setCell (p := ⟨xb, i, none⟩) (by show r + 1 ≤ xb; omega) _) (by omega), h.below.setCell (p := ⟨xb, i, none⟩) (by show w.heap.size ≤ xb; omega) _, h.res.other (by show xb ≠ rb; omega) _, h.box.set i v, h1, h2, by simpa using h3⟩
theorem Putting.start (hrd : RdAt wr r s) (hb : Below w.heap.size w wr) (hres : Box wr rb zs) (h1 : w.heap.size ≤ r) (h2 : w.heap.size ≤ rb ∧ rb < r) (xs : List Value) (t : TypeId) : Putting r w s rb zs wr.heap.size xs (wr.alloc (.cells xs.toArray t)) :=
  ⟨hrd.below ((Below.refl _ _).alloc (Nat.le_refl _) _) hrd.lt, hb.alloc hb.size _, hres.alloc _, Box.new wr xs t, h1, h2, ⟨hrd.lt, by simp⟩⟩
end
/-- Records as they are told: a slice that reads as these. -/
def Out {α : Type} (size : Nat) (cells : α → List Value) (w : World) (xs : List α) (A : Option Addr) (c : Nat) : Prop := xs.length ≤ c ∧ c ≤ maxLen ∧ (A = none → c = 0) ∧ Recs size cells w w.heap.size A xs
theorem Out.nil {α : Type} {size : Nat} {cells : α → List Value} {w : World} {xs : List α} (h : xs = []) : Out size cells w xs none 0 := ⟨by rw [h]; exact Nat.le_refl _, by decide, fun _ => rfl, .inl h⟩
theorem out_of_own {α : Type} {size : Nat} {cells : α → List Value} (hc : ∀ x, (cells x).length = size) {w : World} {B n c : Nat} {e : TypeId} {A : Option Addr} {xs : List α} (hn : n = xs.length) (h : w.ownsRow B e size (.slice A n c) n (xs.flatMap cells)) : Out size cells w xs A c := by
  obtain ⟨A', c', e1, p1, p2, p3, p4⟩ := recs_of_own hc hn h
  injection e1 with e1 _ e2
  subst e1 e2 hn
  exact ⟨p1, p2, p3, p4⟩
def SpecTo (R : SpecD × Int × Int) (w : World) (e : Ending) (w' : World) : Prop :=
  ∃ A c u, e = .returned (.tuple #[specV A R.1.wants.length c R.1, u]) ∧ Out 6 cellsW w' R.1.wants A c ∧ ErrIs R.2 w.heap.size w' u ∧ Below w.heap.size w w'
theorem specTo_err {R : SpecD × Int × Int} {w w' : World} {u : Value} (h1 : R.1 = noSpec) (he : ErrIs R.2 w.heap.size w' u) (hb : Below w.heap.size w w') : SpecTo R w (.returned (.tuple #[.agg #[.slice none 0 0, .int .i64 0, .int .i64 0], u])) w' :=
  ⟨none, 0, u, by rw [h1]; rfl, .nil (by rw [h1]), he, hb⟩

theorem Spotted.set {B p : Nat} {w : World} {u : Value} (h : Spotted B p w u) {q : Addr} (hq : q.block < B) (v : Value) : Spotted B p (w.setCell q v) u := by
  obtain ⟨g, e, hB, hg⟩ := h
  exact ⟨g, e, hB, (Below.heap_setCell w q v g (by omega)).trans hg⟩
theorem Spotted.less {B B' p : Nat} {w : World} {u : Value} (h : Spotted B p w u) (hB : B' ≤ B) : Spotted B' p w u := by
  obtain ⟨g, e, h1, hg⟩ := h
  exact ⟨g, e, by omega, hg⟩

end Go.Proofs.YtjpaeaedfgiomaaDoor

/- The program's Spec: a spec as bytes. -/
namespace Go.Proofs.YtjpaeaedfgiomaaDoor
set_option linter.unusedSimpArgs false
open Go.RowKit
set_option linter.unusedVariables false

theorem NumsTo.q {l : List Int} {q : Nat} {w w' : World} {e : Ending} (hq : l.length = q) (h : NumsTo l w e w') : ∃ A c, e = .returned (.slice A q c) ∧ Sl w' l A q c ∧ Below w.heap.size w w' := by
  subst hq; exact SlTo.of h
theorem Put_q {l : List Int} {q : Nat} (hq : l.length = q) (hl : q ≤ 5000) (hn : Nums l) {A : Option Addr} {c : Nat} {w : World} (hs : Sl w l A q c) :
    Calls Tryd.prog 14 #[.slice A q c] w (PutTo w.heap.size (encs l) w) := by
  subst hq; exact Put_any l A c w hl hn hs.2.2
theorem PutTo.q {B q : Nat} {l : List Int} {w w' : World} {e : Ending} (hq : l.length = q) (h : PutTo B l w e w') : ∃ A c, e = .returned (.slice A q c) ∧ w'.ownsRow B 5 1 (.slice A q c) q (u8s l) ∧ Below B w w' := by
  subst hq; exact h.sl
theorem spec_nums {x : SpecD} (h : specOk x = true) (hq : ∀ y ∈ x.wants, y.Ok) : Nums (specNums x) := by
  simp only [specOk, Bool.and_eq_true, decide_eq_true_eq, List.all_eq_true] at h
  intro n hn
  rcases List.mem_append.1 hn with hn | hn
  · simp only [List.mem_cons, List.not_mem_nil, or_false] at hn
    rcases hn with rfl | rfl | rfl
    · have := h.1; omega
    · exact inId_nums h.2.1
    · exact inId_nums h.2.2.1
  · obtain ⟨y, hy, hn⟩ := List.mem_flatMap.1 hn
    obtain ⟨o1, o2, o3, o4, o5⟩ := hq y hy
    simp only [wantK, List.mem_cons, List.not_mem_nil, or_false] at hn
    rcases hn with rfl | rfl | rfl | rfl | rfl | rfl
    · exact inId_nums (h.2.2.2 y hy)
    · exact o2
    · exact o3
    · exact o4
    · exact o5
    · have := i31_truth y.stay; omega
def SpecRel (x : SpecD) (w W : World) (i : Value) (wr : World) : Prop := ∃ k : Nat, k ≤ x.wants.length ∧ i = .int .i64 k ∧ (x.wants.take k).all (fun y => inId y.pod) = true ∧ Below (w.heap.size + 1) W wr ∧ w.heap.size + 1 ≤ wr.heap.size
theorem wantOk_all (y : WantD) : [y.pod].all inId = inId y.pod := by simp
theorem two_all (a b : Int) : [a, b].all inId = (inId a && inId b) := by simp

end Go.Proofs.YtjpaeaedfgiomaaDoor

/- The program's reader: a node. -/
namespace Go.Proofs.YtjpaeaedfgiomaaDoor
set_option linter.unusedSimpArgs false
open Go.RowKit
set_option linter.unusedVariables false

set_option maxHeartbeats 6400000 in
set_option maxRecDepth 100000 in
theorem readNode_any (s : St) (r : Nat) (w : World) (h : RdAt w r s) :
    Calls Tryd.prog 31 #[.pointer (some ⟨r, 0, none⟩)] w (RdTo (aggN (rdNode s).1) (rdNode s).2 r w) := by
  have K0 := Lib.hid (Reading.start h [.int .i64 0, .int .i64 0, .int .u64 0, .int .u64 0, .int .u64 0, .int .u64 0, .int .u64 0, .int .u64 0, .int .u64 0, .int .u64 0] 74)
  clear h
  go_enter Tryd.func31, Tryd.ntmps31
  go_wp2_with fail
  refine (number_any s r _ K0.out.rd).mono ?_
  obtain ⟨x0, s1, hx⟩ := pair_of (rdNum s)
  rw [hx]
  have HX0 := Lib.hid hx
  clear hx
  rintro e w1 ⟨rfl, hr, ht⟩
  have K1 := Lib.hid (K0.out.call hr ht)
  clear hr ht
  have hz0 : w.heap.size + 1 < w1.heap.size := by have := K1.out.size; omega
  obtain ⟨c0, f0⟩ := K1.out.box.at 0 (.int .i64 0) rfl
  have K2 := Lib.hid (K1.out.store 0 (.int .i64 x0))
  go_wp2_with fail
  refine (number_any s1 r _ K2.out.rd).mono ?_
  obtain ⟨x1, s2, hx⟩ := pair_of (rdNum s1)
  rw [hx]
  have HX1 := Lib.hid hx
  clear hx
  rintro e w2 ⟨rfl, hr, ht⟩
  have K3 := Lib.hid (K2.out.call hr ht)
  clear hr ht
  have hz1 : w.heap.size + 1 < w2.heap.size := by have := K3.out.size; omega
  obtain ⟨c1, f1⟩ := K3.out.box.at 1 (.int .i64 0) rfl
  have K4 := Lib.hid (K3.out.store 1 (.int .i64 x1))
  go_wp2_with fail
  refine (amount_any s2 r _ K4.out.rd).mono ?_
  obtain ⟨x2, s3, hx⟩ := pair_of (rdVec s2)
  rw [hx]
  have HX2 := Lib.hid hx
  clear hx
  rintro e w3 ⟨rfl, hr, ht⟩
  have K5 := Lib.hid (K4.out.call hr ht)
  clear hr ht
  have hz2 : w.heap.size + 1 < w3.heap.size := by have := K5.out.size; omega
  obtain ⟨c2, f2⟩ := K5.out.box.at 2 (.int .u64 0) rfl
  obtain ⟨c3, f3⟩ := K5.out.box.at 3 (.int .u64 0) rfl
  obtain ⟨c4, f4⟩ := K5.out.box.at 4 (.int .u64 0) rfl
  obtain ⟨c5, f5⟩ := K5.out.box.at 5 (.int .u64 0) rfl
  have K6 := Lib.hid (K5.out.store4 2 (.int .u64 x2.a) (.int .u64 x2.b) (.int .u64 x2.c) (.int .u64 x2.d))
  go_wp2_with fail
  refine (amount_any s3 r _ K6.out.rd).mono ?_
  obtain ⟨x3, s4, hx⟩ := pair_of (rdVec s3)
  rw [hx]
  have HX3 := Lib.hid hx
  clear hx
  rintro e w4 ⟨rfl, hr, ht⟩
  have K7 := Lib.hid (K6.out.call hr ht)
  clear hr ht
  have hz3 : w.heap.size + 1 < w4.heap.size := by have := K7.out.size; omega
  obtain ⟨c6, f6⟩ := K7.out.box.at 6 (.int .u64 0) rfl
  obtain ⟨c7, f7⟩ := K7.out.box.at 7 (.int .u64 0) rfl
  obtain ⟨c8, f8⟩ := K7.out.box.at 8 (.int .u64 0) rfl
  obtain ⟨c9, f9⟩ := K7.out.box.at 9 (.int .u64 0) rfl
  have K8 := Lib.hid (K7.out.store4 6 (.int .u64 x3.a) (.int .u64 x3.b) (.int .u64 x3.c) (.int .u64 x3.d))
  have c0 := (K7.out.box.at 0 (.int .i64 x0) rfl).1
  have c1 := (K7.out.box.at 1 (.int .i64 x1) rfl).1
  have c2 := (K7.out.box.at 2 (.int .u64 x2.a) rfl).1
  have c3 := (K7.out.box.at 3 (.int .u64 x2.b) rfl).1
  have c4 := (K7.out.box.at 4 (.int .u64 x2.c) rfl).1
  have c5 := (K7.out.box.at 5 (.int .u64 x2.d) rfl).1
  obtain ⟨d0, g0⟩ := K7.out.res.at 0 (.int .i64 0) rfl
  obtain ⟨d1, g1⟩ := K7.out.res.at 1 (.int .i64 0) rfl
  obtain ⟨d2, g2⟩ := K7.out.res.at 2 (.int .u64 0) rfl
  obtain ⟨d3, g3⟩ := K7.out.res.at 3 (.int .u64 0) rfl
  obtain ⟨d4, g4⟩ := K7.out.res.at 4 (.int .u64 0) rfl
  obtain ⟨d5, g5⟩ := K7.out.res.at 5 (.int .u64 0) rfl
  obtain ⟨d6, g6⟩ := K7.out.res.at 6 (.int .u64 0) rfl
  obtain ⟨d7, g7⟩ := K7.out.res.at 7 (.int .u64 0) rfl
  obtain ⟨d8, g8⟩ := K7.out.res.at 8 (.int .u64 0) rfl
  obtain ⟨d9, g9⟩ := K7.out.res.at 9 (.int .u64 0) rfl
  have HE : Hid (rdNode s = (⟨x0, x1, x2, x3⟩, s4)) := by
    show _ = _
    simp only [rdNode, HX0.out, HX1.out, HX2.out, HX3.out]
  have hzz : w.heap.size < w4.heap.size := by omega
  go_wp2
  refine bodyPost_ret (v := aggN ⟨x0, x1, x2, x3⟩) ?_ rfl ?_
  · simp [results, Tryd.results31, go_sem, *]
  · refine ⟨by rw [HE.out], ?_, ?_⟩
    · rw [HE.out]
      refine (K7.out.end ?_).1
      repeat (first | with_reducible exact Below.refl _ _ | with_reducible refine Below.setCell ?_ ?_ _)
      all_goals (first | (show w.heap.size ≤ w.heap.size; omega) | (show w.heap.size ≤ w.heap.size + 1; omega))
    · refine (K7.out.end ?_).2
      repeat (first | with_reducible exact Below.refl _ _ | with_reducible refine Below.setCell ?_ ?_ _)
      all_goals (first | (show w.heap.size ≤ w.heap.size; omega) | (show w.heap.size ≤ w.heap.size + 1; omega))
end Go.Proofs.YtjpaeaedfgiomaaDoor

/- The program's list, at one kind of record. -/
namespace Go.Proofs.YtjpaeaedfgiomaaDoor
set_option linter.unusedSimpArgs false
open Go.RowKit
set_option linter.unusedVariables false

theorem Tryd.info74 : (Tryd.prog.info? 74).map (fun i => (i.zero, i.size, i.bytes)) = some (some (.agg #[.int .i64 0, .int .i64 0, .int .u64 0, .int .u64 0, .int .u64 0, .int .u64 0, .int .u64 0, .int .u64 0, .int .u64 0, .int .u64 0]), 10, 80) := by kernel_rfl
theorem Tryd.underSlN : Tryd.prog.underlying 41 = some (.slice 74) := by kernel_rfl
theorem one_cellsN (x : NodeD) : ∀ u ∈ cellsN x, u.oneCell' = true := by
  intro u hu; simp only [cellsN, List.mem_cons, List.not_mem_nil, or_false] at hu
  rcases hu with rfl | rfl | rfl | rfl | rfl | rfl | rfl | rfl | rfl | rfl <;> rfl
set_option maxHeartbeats 3200000 in
set_option maxRecDepth 100000 in
theorem listN_any (s : St) (r many : Nat) (w : World) (hm : many ≤ 1000) (h : RdAt w r s) :
    Calls Tryd.prog 30 #[.pointer (some ⟨r, 0, none⟩), .int .i64 (many : Int), .func (.func 31) #[] #[]] w (ListTo 74 10 cellsN (rdList rdNode many s).1 (rdList rdNode many s).2 r w) := by
  have H := Lib.hid h
  have hrl := h.lt
  clear h
  go_enter Tryd.func30, Tryd.ntmps30
  go_wp2
  go_loopw [7, 9] (ListRel 74 10 cellsN rdNode many s r w) (fun _ i _ => many - (intOf i).toNat)
  case atStart => exact ⟨0, [], s, by omega, rfl, rfl, by simp, rfl, H.out, World.ownsRow_nil _ _ _ _, Turn.refl⟩
  case round =>
    obtain ⟨k, acc, t, hk, rfl, hka, he1, he2, hrd, hown, ht⟩ := hrel
    have hz := ht.size
    have HA := Lib.hid hka
    have HE1 := Lib.hid he1
    have HE2 := Lib.hid he2
    have HR := Lib.hid hrd
    have HO := Lib.hid hown
    have HT := Lib.hid ht
    clear hka he1 he2 hrd hown ht
    by_cases hlt : k < many
    · go_wp2_with fail
      go_at_call 31
      refine (readNode_any t r wr HR.out).mono ?_
      obtain ⟨x, t', hx⟩ := pair_of (rdNode t)
      have HS := Lib.hid (list_step hlt hx HE1.out HE2.out)
      rw [hx]
      clear hx
      rintro e w1 ⟨rfl, hr1, ht1⟩
      have hz1 : w.heap.size ≤ w1.heap.size := by have := ht1.size; omega
      have hown1 := own_turn HO.out ht1 hrl
      have HR1 := Lib.hid hr1
      have HT1 := Lib.hid (HT.out.trans ht1)
      clear hr1 ht1
      go_wp2_with (at_builtin; refine wpList_pushN 41 74 (.agg #[.int .i64 0, .int .i64 0, .int .u64 0, .int .u64 0, .int .u64 0, .int .u64 0, .int .u64 0, .int .u64 0, .int .u64 0, .int .u64 0]) 10 80 Tryd.underSlN Tryd.info74 rfl (by decide) (by decide) rfl (.tmp 11) (.tmp 15) rfl w.heap.size _ k (acc.flatMap cellsN) (cellsN x) rfl (one_cellsN x) hown1 hz1 (by omega) rfl rfl ?_; intro v' w2 hown2 hb2 hB2)
      go_roundw
      case rel => exact ⟨k + 1, acc ++ [x], t', by omega, by go_num, by have := HA.out; simp; omega, HS.out.1, HS.out.2, HR1.out.below hb2 hrl, by rw [List.flatMap_append]; simpa using hown2, HT1.out.later hb2⟩
      case measure => simp [intOf]; omega
    · obtain rfl : k = many := by omega
      have HP := Lib.hid (list_end HE1.out HE2.out)
      go_wp2
      go_ret
      unfold ListTo
      rw [HP.out]
      exact ⟨_, rfl, by have := HA.out; rw [← this]; exact HO.out, HR.out, HT.out⟩
end Go.Proofs.YtjpaeaedfgiomaaDoor

/- The program's reader: a load. -/
namespace Go.Proofs.YtjpaeaedfgiomaaDoor
set_option linter.unusedSimpArgs false
open Go.RowKit
set_option linter.unusedVariables false

set_option maxHeartbeats 6400000 in
set_option maxRecDepth 100000 in
theorem readLoad_any (s : St) (r : Nat) (w : World) (h : RdAt w r s) :
    Calls Tryd.prog 33 #[.pointer (some ⟨r, 0, none⟩)] w (RdTo (aggL (rdLoad s).1) (rdLoad s).2 r w) := by
  have K0 := Lib.hid (Reading.start h [.int .i64 0, .bool false, .int .i64 0, .int .i64 0, .int .i64 0] 78)
  clear h
  go_enter Tryd.func33, Tryd.ntmps33
  go_wp2_with fail
  refine (number_any s r _ K0.out.rd).mono ?_
  obtain ⟨x0, s1, hx⟩ := pair_of (rdNum s)
  rw [hx]
  have HX0 := Lib.hid hx
  clear hx
  rintro e w1 ⟨rfl, hr, ht⟩
  have K1 := Lib.hid (K0.out.call hr ht)
  clear hr ht
  have hz0 : w.heap.size + 1 < w1.heap.size := by have := K1.out.size; omega
  obtain ⟨c0, f0⟩ := K1.out.box.at 0 (.int .i64 0) rfl
  have K2 := Lib.hid (K1.out.store 0 (.int .i64 x0))
  go_wp2_with fail
  refine (rtruth_any s1 r _ K2.out.rd).mono ?_
  obtain ⟨x1, s2, hx⟩ := pair_of (rdTruth s1)
  rw [hx]
  have HX1 := Lib.hid hx
  clear hx
  rintro e w2 ⟨rfl, hr, ht⟩
  have K3 := Lib.hid (K2.out.call hr ht)
  clear hr ht
  have hz1 : w.heap.size + 1 < w2.heap.size := by have := K3.out.size; omega
  obtain ⟨c1, f1⟩ := K3.out.box.at 1 (.bool false) rfl
  have K4 := Lib.hid (K3.out.store 1 (.bool x1))
  go_wp2_with fail
  refine (number_any s2 r _ K4.out.rd).mono ?_
  obtain ⟨x2, s3, hx⟩ := pair_of (rdNum s2)
  rw [hx]
  have HX2 := Lib.hid hx
  clear hx
  rintro e w3 ⟨rfl, hr, ht⟩
  have K5 := Lib.hid (K4.out.call hr ht)
  clear hr ht
  have hz2 : w.heap.size + 1 < w3.heap.size := by have := K5.out.size; omega
  obtain ⟨c2, f2⟩ := K5.out.box.at 2 (.int .i64 0) rfl
  have K6 := Lib.hid (K5.out.store 2 (.int .i64 x2))
  go_wp2_with fail
  refine (number_any s3 r _ K6.out.rd).mono ?_
  obtain ⟨x3, s4, hx⟩ := pair_of (rdNum s3)
  rw [hx]
  have HX3 := Lib.hid hx
  clear hx
  rintro e w4 ⟨rfl, hr, ht⟩
  have K7 := Lib.hid (K6.out.call hr ht)
  clear hr ht
  have hz3 : w.heap.size + 1 < w4.heap.size := by have := K7.out.size; omega
  obtain ⟨c3, f3⟩ := K7.out.box.at 3 (.int .i64 0) rfl
  have K8 := Lib.hid (K7.out.store 3 (.int .i64 x3))
  go_wp2_with fail
  refine (number_any s4 r _ K8.out.rd).mono ?_
  obtain ⟨x4, s5, hx⟩ := pair_of (rdNum s4)
  rw [hx]
  have HX4 := Lib.hid hx
  clear hx
  rintro e w5 ⟨rfl, hr, ht⟩
  have K9 := Lib.hid (K8.out.call hr ht)
  clear hr ht
  have hz4 : w.heap.size + 1 < w5.heap.size := by have := K9.out.size; omega
  obtain ⟨c4, f4⟩ := K9.out.box.at 4 (.int .i64 0) rfl
  have K10 := Lib.hid (K9.out.store 4 (.int .i64 x4))
  have c0 := (K9.out.box.at 0 (.int .i64 x0) rfl).1
  have c1 := (K9.out.box.at 1 (.bool x1) rfl).1
  have c2 := (K9.out.box.at 2 (.int .i64 x2) rfl).1
  have c3 := (K9.out.box.at 3 (.int .i64 x3) rfl).1
  obtain ⟨d0, g0⟩ := K9.out.res.at 0 (.int .i64 0) rfl
  obtain ⟨d1, g1⟩ := K9.out.res.at 1 (.bool false) rfl
  obtain ⟨d2, g2⟩ := K9.out.res.at 2 (.int .i64 0) rfl
  obtain ⟨d3, g3⟩ := K9.out.res.at 3 (.int .i64 0) rfl
  obtain ⟨d4, g4⟩ := K9.out.res.at 4 (.int .i64 0) rfl
  have HE : Hid (rdLoad s = (⟨x0, x1, x2, x3, x4⟩, s5)) := by
    show _ = _
    simp only [rdLoad, HX0.out, HX1.out, HX2.out, HX3.out, HX4.out]
  have hzz : w.heap.size < w5.heap.size := by omega
  go_wp2
  refine bodyPost_ret (v := aggL ⟨x0, x1, x2, x3, x4⟩) ?_ rfl ?_
  · simp [results, Tryd.results33, go_sem, *]
  · refine ⟨by rw [HE.out], ?_, ?_⟩
    · rw [HE.out]
      refine (K9.out.end ?_).1
      repeat (first | with_reducible exact Below.refl _ _ | with_reducible refine Below.setCell ?_ ?_ _)
      all_goals (first | (show w.heap.size ≤ w.heap.size; omega) | (show w.heap.size ≤ w.heap.size + 1; omega))
    · refine (K9.out.end ?_).2
      repeat (first | with_reducible exact Below.refl _ _ | with_reducible refine Below.setCell ?_ ?_ _)
      all_goals (first | (show w.heap.size ≤ w.heap.size; omega) | (show w.heap.size ≤ w.heap.size + 1; omega))
end Go.Proofs.YtjpaeaedfgiomaaDoor

/- The program's list, at one kind of record. -/
namespace Go.Proofs.YtjpaeaedfgiomaaDoor
set_option linter.unusedSimpArgs false
open Go.RowKit
set_option linter.unusedVariables false

theorem Tryd.info78 : (Tryd.prog.info? 78).map (fun i => (i.zero, i.size, i.bytes)) = some (some (.agg #[.int .i64 0, .bool false, .int .i64 0, .int .i64 0, .int .i64 0]), 5, 40) := by kernel_rfl
theorem Tryd.underSlL : Tryd.prog.underlying 42 = some (.slice 78) := by kernel_rfl
theorem one_cellsL (x : LoadD) : ∀ u ∈ cellsL x, u.oneCell' = true := by
  intro u hu; simp only [cellsL, List.mem_cons, List.not_mem_nil, or_false] at hu
  rcases hu with rfl | rfl | rfl | rfl | rfl <;> rfl
set_option maxHeartbeats 3200000 in
set_option maxRecDepth 100000 in
theorem listL_any (s : St) (r many : Nat) (w : World) (hm : many ≤ 1000) (h : RdAt w r s) :
    Calls Tryd.prog 32 #[.pointer (some ⟨r, 0, none⟩), .int .i64 (many : Int), .func (.func 33) #[] #[]] w (ListTo 78 5 cellsL (rdList rdLoad many s).1 (rdList rdLoad many s).2 r w) := by
  have H := Lib.hid h
  have hrl := h.lt
  clear h
  go_enter Tryd.func32, Tryd.ntmps32
  go_wp2
  go_loopw [7, 9] (ListRel 78 5 cellsL rdLoad many s r w) (fun _ i _ => many - (intOf i).toNat)
  case atStart => exact ⟨0, [], s, by omega, rfl, rfl, by simp, rfl, H.out, World.ownsRow_nil _ _ _ _, Turn.refl⟩
  case round =>
    obtain ⟨k, acc, t, hk, rfl, hka, he1, he2, hrd, hown, ht⟩ := hrel
    have hz := ht.size
    have HA := Lib.hid hka
    have HE1 := Lib.hid he1
    have HE2 := Lib.hid he2
    have HR := Lib.hid hrd
    have HO := Lib.hid hown
    have HT := Lib.hid ht
    clear hka he1 he2 hrd hown ht
    by_cases hlt : k < many
    · go_wp2_with fail
      go_at_call 33
      refine (readLoad_any t r wr HR.out).mono ?_
      obtain ⟨x, t', hx⟩ := pair_of (rdLoad t)
      have HS := Lib.hid (list_step hlt hx HE1.out HE2.out)
      rw [hx]
      clear hx
      rintro e w1 ⟨rfl, hr1, ht1⟩
      have hz1 : w.heap.size ≤ w1.heap.size := by have := ht1.size; omega
      have hown1 := own_turn HO.out ht1 hrl
      have HR1 := Lib.hid hr1
      have HT1 := Lib.hid (HT.out.trans ht1)
      clear hr1 ht1
      go_wp2_with (at_builtin; refine wpList_pushN 42 78 (.agg #[.int .i64 0, .bool false, .int .i64 0, .int .i64 0, .int .i64 0]) 5 40 Tryd.underSlL Tryd.info78 rfl (by decide) (by decide) rfl (.tmp 11) (.tmp 15) rfl w.heap.size _ k (acc.flatMap cellsL) (cellsL x) rfl (one_cellsL x) hown1 hz1 (by omega) rfl rfl ?_; intro v' w2 hown2 hb2 hB2)
      go_roundw
      case rel => exact ⟨k + 1, acc ++ [x], t', by omega, by go_num, by have := HA.out; simp; omega, HS.out.1, HS.out.2, HR1.out.below hb2 hrl, by rw [List.flatMap_append]; simpa using hown2, HT1.out.later hb2⟩
      case measure => simp [intOf]; omega
    · obtain rfl : k = many := by omega
      have HP := Lib.hid (list_end HE1.out HE2.out)
      go_wp2
      go_ret
      unfold ListTo
      rw [HP.out]
      exact ⟨_, rfl, by have := HA.out; rw [← this]; exact HO.out, HR.out, HT.out⟩
end Go.Proofs.YtjpaeaedfgiomaaDoor

/- The program's reader: a pod. -/
namespace Go.Proofs.YtjpaeaedfgiomaaDoor
set_option linter.unusedSimpArgs false
open Go.RowKit
set_option linter.unusedVariables false

set_option maxHeartbeats 6400000 in
set_option maxRecDepth 100000 in
theorem readPod_any (s : St) (r : Nat) (w : World) (h : RdAt w r s) :
    Calls Tryd.prog 35 #[.pointer (some ⟨r, 0, none⟩)] w (RdTo (aggP (rdPod s).1) (rdPod s).2 r w) := by
  have K0 := Lib.hid (Reading.start h [.int .i64 0, .int .i64 0, .int .i64 0, .int .u64 0, .int .u64 0, .int .u64 0, .int .u64 0, .int .i64 0] 82)
  clear h
  go_enter Tryd.func35, Tryd.ntmps35
  go_wp2_with fail
  refine (number_any s r _ K0.out.rd).mono ?_
  obtain ⟨x0, s1, hx⟩ := pair_of (rdNum s)
  rw [hx]
  have HX0 := Lib.hid hx
  clear hx
  rintro e w1 ⟨rfl, hr, ht⟩
  have K1 := Lib.hid (K0.out.call hr ht)
  clear hr ht
  have hz0 : w.heap.size + 1 < w1.heap.size := by have := K1.out.size; omega
  obtain ⟨c0, f0⟩ := K1.out.box.at 0 (.int .i64 0) rfl
  have K2 := Lib.hid (K1.out.store 0 (.int .i64 x0))
  go_wp2_with fail
  refine (number_any s1 r _ K2.out.rd).mono ?_
  obtain ⟨x1, s2, hx⟩ := pair_of (rdNum s1)
  rw [hx]
  have HX1 := Lib.hid hx
  clear hx
  rintro e w2 ⟨rfl, hr, ht⟩
  have K3 := Lib.hid (K2.out.call hr ht)
  clear hr ht
  have hz1 : w.heap.size + 1 < w2.heap.size := by have := K3.out.size; omega
  obtain ⟨c1, f1⟩ := K3.out.box.at 1 (.int .i64 0) rfl
  have K4 := Lib.hid (K3.out.store 1 (.int .i64 x1))
  go_wp2_with fail
  refine (number_any s2 r _ K4.out.rd).mono ?_
  obtain ⟨x2, s3, hx⟩ := pair_of (rdNum s2)
  rw [hx]
  have HX2 := Lib.hid hx
  clear hx
  rintro e w3 ⟨rfl, hr, ht⟩
  have K5 := Lib.hid (K4.out.call hr ht)
  clear hr ht
  have hz2 : w.heap.size + 1 < w3.heap.size := by have := K5.out.size; omega
  obtain ⟨c2, f2⟩ := K5.out.box.at 2 (.int .i64 0) rfl
  have K6 := Lib.hid (K5.out.store 2 (.int .i64 x2))
  go_wp2_with fail
  refine (amount_any s3 r _ K6.out.rd).mono ?_
  obtain ⟨x3, s4, hx⟩ := pair_of (rdVec s3)
  rw [hx]
  have HX3 := Lib.hid hx
  clear hx
  rintro e w4 ⟨rfl, hr, ht⟩
  have K7 := Lib.hid (K6.out.call hr ht)
  clear hr ht
  have hz3 : w.heap.size + 1 < w4.heap.size := by have := K7.out.size; omega
  obtain ⟨c3, f3⟩ := K7.out.box.at 3 (.int .u64 0) rfl
  obtain ⟨c4, f4⟩ := K7.out.box.at 4 (.int .u64 0) rfl
  obtain ⟨c5, f5⟩ := K7.out.box.at 5 (.int .u64 0) rfl
  obtain ⟨c6, f6⟩ := K7.out.box.at 6 (.int .u64 0) rfl
  have K8 := Lib.hid (K7.out.store4 3 (.int .u64 x3.a) (.int .u64 x3.b) (.int .u64 x3.c) (.int .u64 x3.d))
  go_wp2_with fail
  refine (number_any s4 r _ K8.out.rd).mono ?_
  obtain ⟨x4, s5, hx⟩ := pair_of (rdNum s4)
  rw [hx]
  have HX4 := Lib.hid hx
  clear hx
  rintro e w5 ⟨rfl, hr, ht⟩
  have K9 := Lib.hid (K8.out.call hr ht)
  clear hr ht
  have hz4 : w.heap.size + 1 < w5.heap.size := by have := K9.out.size; omega
  obtain ⟨c7, f7⟩ := K9.out.box.at 7 (.int .i64 0) rfl
  have K10 := Lib.hid (K9.out.store 7 (.int .i64 x4))
  have c0 := (K9.out.box.at 0 (.int .i64 x0) rfl).1
  have c1 := (K9.out.box.at 1 (.int .i64 x1) rfl).1
  have c2 := (K9.out.box.at 2 (.int .i64 x2) rfl).1
  have c3 := (K9.out.box.at 3 (.int .u64 x3.a) rfl).1
  have c4 := (K9.out.box.at 4 (.int .u64 x3.b) rfl).1
  have c5 := (K9.out.box.at 5 (.int .u64 x3.c) rfl).1
  have c6 := (K9.out.box.at 6 (.int .u64 x3.d) rfl).1
  obtain ⟨d0, g0⟩ := K9.out.res.at 0 (.int .i64 0) rfl
  obtain ⟨d1, g1⟩ := K9.out.res.at 1 (.int .i64 0) rfl
  obtain ⟨d2, g2⟩ := K9.out.res.at 2 (.int .i64 0) rfl
  obtain ⟨d3, g3⟩ := K9.out.res.at 3 (.int .u64 0) rfl
  obtain ⟨d4, g4⟩ := K9.out.res.at 4 (.int .u64 0) rfl
  obtain ⟨d5, g5⟩ := K9.out.res.at 5 (.int .u64 0) rfl
  obtain ⟨d6, g6⟩ := K9.out.res.at 6 (.int .u64 0) rfl
  obtain ⟨d7, g7⟩ := K9.out.res.at 7 (.int .i64 0) rfl
  have HE : Hid (rdPod s = (⟨x0, x1, x2, x3, x4⟩, s5)) := by
    show _ = _
    simp only [rdPod, HX0.out, HX1.out, HX2.out, HX3.out, HX4.out]
  have hzz : w.heap.size < w5.heap.size := by omega
  go_wp2
  refine bodyPost_ret (v := aggP ⟨x0, x1, x2, x3, x4⟩) ?_ rfl ?_
  · simp [results, Tryd.results35, go_sem, *]
  · refine ⟨by rw [HE.out], ?_, ?_⟩
    · rw [HE.out]
      refine (K9.out.end ?_).1
      repeat (first | with_reducible exact Below.refl _ _ | with_reducible refine Below.setCell ?_ ?_ _)
      all_goals (first | (show w.heap.size ≤ w.heap.size; omega) | (show w.heap.size ≤ w.heap.size + 1; omega))
    · refine (K9.out.end ?_).2
      repeat (first | with_reducible exact Below.refl _ _ | with_reducible refine Below.setCell ?_ ?_ _)
      all_goals (first | (show w.heap.size ≤ w.heap.size; omega) | (show w.heap.size ≤ w.heap.size + 1; omega))
end Go.Proofs.YtjpaeaedfgiomaaDoor

/- The program's list, at one kind of record. -/
namespace Go.Proofs.YtjpaeaedfgiomaaDoor
set_option linter.unusedSimpArgs false
open Go.RowKit
set_option linter.unusedVariables false

theorem Tryd.info82 : (Tryd.prog.info? 82).map (fun i => (i.zero, i.size, i.bytes)) = some (some (.agg #[.int .i64 0, .int .i64 0, .int .i64 0, .int .u64 0, .int .u64 0, .int .u64 0, .int .u64 0, .int .i64 0]), 8, 64) := by kernel_rfl
theorem Tryd.underSlP : Tryd.prog.underlying 43 = some (.slice 82) := by kernel_rfl
theorem one_cellsP (x : PodD) : ∀ u ∈ cellsP x, u.oneCell' = true := by
  intro u hu; simp only [cellsP, List.mem_cons, List.not_mem_nil, or_false] at hu
  rcases hu with rfl | rfl | rfl | rfl | rfl | rfl | rfl | rfl <;> rfl
set_option maxHeartbeats 3200000 in
set_option maxRecDepth 100000 in
theorem listP_any (s : St) (r many : Nat) (w : World) (hm : many ≤ 1000) (h : RdAt w r s) :
    Calls Tryd.prog 34 #[.pointer (some ⟨r, 0, none⟩), .int .i64 (many : Int), .func (.func 35) #[] #[]] w (ListTo 82 8 cellsP (rdList rdPod many s).1 (rdList rdPod many s).2 r w) := by
  have H := Lib.hid h
  have hrl := h.lt
  clear h
  go_enter Tryd.func34, Tryd.ntmps34
  go_wp2
  go_loopw [7, 9] (ListRel 82 8 cellsP rdPod many s r w) (fun _ i _ => many - (intOf i).toNat)
  case atStart => exact ⟨0, [], s, by omega, rfl, rfl, by simp, rfl, H.out, World.ownsRow_nil _ _ _ _, Turn.refl⟩
  case round =>
    obtain ⟨k, acc, t, hk, rfl, hka, he1, he2, hrd, hown, ht⟩ := hrel
    have hz := ht.size
    have HA := Lib.hid hka
    have HE1 := Lib.hid he1
    have HE2 := Lib.hid he2
    have HR := Lib.hid hrd
    have HO := Lib.hid hown
    have HT := Lib.hid ht
    clear hka he1 he2 hrd hown ht
    by_cases hlt : k < many
    · go_wp2_with fail
      go_at_call 35
      refine (readPod_any t r wr HR.out).mono ?_
      obtain ⟨x, t', hx⟩ := pair_of (rdPod t)
      have HS := Lib.hid (list_step hlt hx HE1.out HE2.out)
      rw [hx]
      clear hx
      rintro e w1 ⟨rfl, hr1, ht1⟩
      have hz1 : w.heap.size ≤ w1.heap.size := by have := ht1.size; omega
      have hown1 := own_turn HO.out ht1 hrl
      have HR1 := Lib.hid hr1
      have HT1 := Lib.hid (HT.out.trans ht1)
      clear hr1 ht1
      go_wp2_with (at_builtin; refine wpList_pushN 43 82 (.agg #[.int .i64 0, .int .i64 0, .int .i64 0, .int .u64 0, .int .u64 0, .int .u64 0, .int .u64 0, .int .i64 0]) 8 64 Tryd.underSlP Tryd.info82 rfl (by decide) (by decide) rfl (.tmp 11) (.tmp 15) rfl w.heap.size _ k (acc.flatMap cellsP) (cellsP x) rfl (one_cellsP x) hown1 hz1 (by omega) rfl rfl ?_; intro v' w2 hown2 hb2 hB2)
      go_roundw
      case rel => exact ⟨k + 1, acc ++ [x], t', by omega, by go_num, by have := HA.out; simp; omega, HS.out.1, HS.out.2, HR1.out.below hb2 hrl, by rw [List.flatMap_append]; simpa using hown2, HT1.out.later hb2⟩
      case measure => simp [intOf]; omega
    · obtain rfl : k = many := by omega
      have HP := Lib.hid (list_end HE1.out HE2.out)
      go_wp2
      go_ret
      unfold ListTo
      rw [HP.out]
      exact ⟨_, rfl, by have := HA.out; rw [← this]; exact HO.out, HR.out, HT.out⟩
end Go.Proofs.YtjpaeaedfgiomaaDoor

namespace Go.Proofs.YtjpaeaedfgiomaaDoor
set_option linter.unusedSimpArgs false
open Go.RowKit
set_option linter.unusedVariables false

theorem nums_tail {l : List Int} (h : Nums l) : Nums l.tail := fun n hn => h n (List.mem_of_mem_tail hn)
theorem nums_getD {l : List Int} (h : Nums l) (k : Nat) : U64 (l.getD k 0) := by
  rw [← drop_headD]; exact nums_head (nums_drop h k)
theorem num_fit {s : St} (h : Nums s.1) : I64 (rdNum s).1 ∧ Nums (rdNum s).2.1 := by
  refine ⟨?_, nums_tail h⟩
  have := nums_head h
  by_cases hs : s.1.headD 0 ≤ 2147483647
  · rw [num_lo hs]; unfold I64; show -9223372036854775808 ≤ s.1.headD 0 ∧ _; omega
  · rw [num_hi (by omega)]; unfold I64; show (-9223372036854775808 : Int) ≤ 0 ∧ (0 : Int) ≤ _; omega
theorem truth_fit {s : St} (h : Nums s.1) : Nums (rdTruth s).2.1 := nums_tail h
theorem vec_fit {s : St} (h : Nums s.1) : (rdVec s).1.Ok ∧ Nums (rdVec s).2.1 :=
  ⟨⟨nums_getD h 0, nums_getD h 1, nums_getD h 2, nums_getD h 3⟩, nums_drop h 4⟩
theorem node_fit {s : St} (h : Nums s.1) : (rdNode s).1.Ok ∧ Nums (rdNode s).2.1 := by
  have a := num_fit h
  have b := num_fit a.2
  have c := vec_fit b.2
  have d := vec_fit c.2
  exact ⟨⟨a.1, b.1, c.1, d.1⟩, d.2⟩
theorem load_fit {s : St} (h : Nums s.1) : (rdLoad s).1.Ok ∧ Nums (rdLoad s).2.1 := by
  have a := num_fit h
  have b := truth_fit a.2
  have c := num_fit b
  have d := num_fit c.2
  have e := num_fit d.2
  exact ⟨⟨a.1, c.1, d.1, e.1⟩, e.2⟩
theorem pod_fit {s : St} (h : Nums s.1) : (rdPod s).1.Ok ∧ Nums (rdPod s).2.1 := by
  have a := num_fit h
  have b := num_fit a.2
  have c := num_fit b.2
  have d := vec_fit c.2
  have e := num_fit d.2
  exact ⟨⟨a.1, b.1, c.1, d.1, e.1⟩, e.2⟩
theorem want_fit {s : St} (h : Nums s.1) : (rdWant s).1.Ok ∧ Nums (rdWant s).2.1 := by
  have a := num_fit h
  have b := vec_fit a.2
  have c := truth_fit b.2
  exact ⟨⟨a.1, b.1⟩, c⟩
theorem list_fit {α : Type} {rd : St → α × St} {P : α → Prop} (hf : ∀ s : St, Nums s.1 → P (rd s).1 ∧ Nums (rd s).2.1) : ∀ (n : Nat) (s : St), Nums s.1 → (∀ x ∈ (rdList rd n s).1, P x) ∧ Nums (rdList rd n s).2.1
  | 0, s, h => ⟨fun x hx => by simp [rdList] at hx, h⟩
  | n + 1, s, h => by
    have a := hf s h
    have b := list_fit hf n (rd s).2 a.2
    refine ⟨fun x hx => ?_, b.2⟩
    rcases List.mem_cons.1 hx with rfl | hx
    · exact a.1
    · exact b.1 x hx
theorem mSnap_fit {l : List Int} (h : Nums l) : (mSnap l).1.Ok := by
  have a := num_fit (s := (l, false)) h
  have b := num_fit a.2
  have c := num_fit b.2
  have n := list_fit (fun s h => node_fit h) (rdNum (l, false)).1.toNat _ c.2
  have o := list_fit (fun s h => load_fit h) (rdNum (rdNum (l, false)).2).1.toNat _ n.2
  have p := list_fit (fun s h => pod_fit h) (rdNum (rdNum (rdNum (l, false)).2).2).1.toNat _ o.2
  exact ⟨n.1, o.1, p.1⟩
theorem mSpec_fit {l : List Int} (h : Nums l) : I64 (mSpec l).1.preempts ∧ I64 (mSpec l).1.shifts ∧ ∀ x ∈ (mSpec l).1.wants, x.Ok := by
  have a := num_fit (s := (l, false)) h
  have b := num_fit a.2
  have c := num_fit b.2
  have n := list_fit (fun s h => want_fit h) (rdNum (l, false)).1.toNat _ c.2
  exact ⟨b.1, c.1, n.1⟩
end Go.Proofs.YtjpaeaedfgiomaaDoor
