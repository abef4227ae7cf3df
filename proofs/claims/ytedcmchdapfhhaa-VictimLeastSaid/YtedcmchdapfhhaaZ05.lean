/- Joined texts, part 5: WU UJ WR EC WS WB WC WA IC ID PB PC. -/
import Derived.Test.YtedcmchdapfhhaaZ04
import Derived.Test.YtedcmchdapfhhaaZ01
import Derived.Deep.CutRange
import Derived.Test.YtedcmchdapfhhaaZ02
import Derived.Maps.AppendAt
import Derived.Test.YtedcmchdapfhhaaZ03
import Derived.Lib.AppendZerosOnto
import Derived.Lib.Walk
import Derived.Laws.Cover3
import Derived.Sort.Grow

/- The use of a node: the program's and the reference's. -/
namespace Go.Proofs.Ytedcmchdapfhhaa
set_option linter.unusedSimpArgs false
open Go.RowKit
set_option linter.unusedVariables false

theorem infoVec : (Try.prog.info? 36).map (fun i => (i.zero, i.size, i.bytes)) = some (some (.agg #[.int .u64 0, .int .u64 0, .int .u64 0, .int .u64 0]), 4, 32) := by kernel_rfl
theorem underVecs : Try.prog.underlying 96 = some (.slice 36) := by kernel_rfl
theorem oneVec (x : V4) : ∀ u ∈ cellsV x, u.oneCell' = true := by
  intro u hu; simp only [cellsV, List.mem_cons, List.not_mem_nil, or_false] at hu
  rcases hu with rfl | rfl | rfl | rfl <;> rfl
theorem lenVec (x : V4) : (cellsV x).length = 4 := rfl
section
variable {ops : Array Oper} {rest : List Oper} {o : Oper} {a : Act} {Q : Exit → Act → World → Prop} {wr : World}
/-- append of one record of a literal to a row of the call's own. -/
theorem wpList_pushR (t e : TypeId) (z : Value) (size bytes : Nat) (ht : Try.prog.underlying t = some (.slice e)) (hinfo : (Try.prog.info? e).map (fun i => (i.zero, i.size, i.bytes)) = some (some z, size, bytes)) (hz : z.cells.size = size) (hsz : 0 < size) (hby : bytes ≤ 1000)
    (hgd : o.guard = none) (s x : Operand) (ho : o.op = .call { callee := .builtin .append, args := #[s, x], argTypes := #[t, t] })
    (B : Nat) (v : Value) (n : Nat) (xs cs : List Value) (hcs : cs.length = size) (hu : ∀ u ∈ cs, u.oneCell' = true) (hown : wr.ownsRow B e size v n xs) (hB : B ≤ wr.heap.size) (hl : n ≤ 2000000)
    (hs : a.eval s = v) (hx : a.eval x = .slice (some ⟨wr.heap.size, 0, none⟩) 1 1)
    (h : ∀ v' w', w'.ownsRow B e size v' (n + 1) (xs ++ cs) → Below B wr w' → B ≤ w'.heap.size → wpList Try.prog ops Q rest (a.put o.dst v') w') :
    wpList Try.prog ops Q (o :: rest) a (wr.alloc (.cells cs.toArray e)) := by
  obtain ⟨i0, hi, hz0, hz1, hz2⟩ : ∃ i, Try.prog.info? e = some i ∧ i.zero = some z ∧ i.size = size ∧ i.bytes = bytes := by
    cases hi : Try.prog.info? e with
    | none => rw [hi] at hinfo; cases hinfo
    | some i =>
      rw [hi] at hinfo
      have h := Option.some.inj hinfo
      simp only [Prod.mk.injEq] at h
      exact ⟨i, rfl, h.1, h.2.1, h.2.2⟩
  refine wpList_append_own _ hgd s x t ho B e i0 z size bytes ht hi hz0 hz1 hz2 hz hsz v n xs hs (hown.alloc _) ⟨wr.heap.size, 0, none⟩ 1 1 cs hx (by omega) ?_ hu ?_ ?_ ?_ ?_
  · intro j y hy
    have := cell_of_row (wr.alloc (.cells cs.toArray e)) wr.heap.size j cs.toArray e (0, 0) (heap_alloc_new wr _)
    rw [Addr.add_lit, Nat.zero_add, this]
    simpa using hy
  · unfold maxLen; omega
  · have : (n + 1) * bytes ≤ (n + 1) * 1000 := Nat.mul_le_mul_left _ hby
    omega
  · simp; omega
  · intro v' w' h1 h2 _
    exact h v' w' h1 (((Below.refl B wr).alloc hB _).grown h2 (by simp; omega) (fun j hj => (hown.lt j hj).1)) (by have := h2.size; simp at this; omega)
end
theorem two_head (w : World) (v0 v1 v2 : Value) (t t' : TypeId) : Row4 ((w.alloc (.cells #[v0, v1, v2] t)).alloc (.cells #[.int .u64 0, .int .u64 0, .int .u64 0, .int .u64 0] t')) (w.heap.size + 1) (.int .u64 0) (.int .u64 0) (.int .u64 0) (.int .u64 0) :=
  ⟨by simp, by simp, by simp, by simp, by simp, by simp, by simp, by simp⟩
theorem own_reqs {B m : Nat} {e : TypeId} {w1 : World} {v : Value} {xs ys : List V4} {x : V4} (hm : m = xs.length) (h : w1.ownsRow B e 4 v (m + 1) (xs.flatMap cellsV ++ cellsV x)) (he : ys = xs ++ [x]) : w1.ownsRow B e 4 v (m + 1) (ys.flatMap cellsV) ∧ m + 1 = ys.length := by
  subst he hm; simpa using h

def UseRel (l : List PodD) (node : Int) (W : World) (B : Nat) (v i : Value) (wr : World) : Prop :=
  ∃ k m : Nat, k ≤ l.length ∧ i = .int .i64 k ∧ m = (reqsAt node (l.take k)).length ∧ wr.ownsRow B 36 4 v m ((reqsAt node (l.take k)).flatMap cellsV) ∧ Below B W wr
theorem makeVecs (w : World) : (Instr.makeSlice 96 (.int .i64 0) (.int .i64 12)).run Try.prog w = .ok (.slice (some ⟨w.heap.size, 0, none⟩) 0 12) (w.alloc (.cells (Array.replicate 48 (Value.int .u64 0)) 36)) := by kernel_rfl
set_option maxHeartbeats 3200000 in
set_option maxRecDepth 100000 in
theorem roomUse_walk (l : List PodD) (node : Int) (ho : ∀ p ∈ l, p.Ok) (A : Option Addr) (n c : Nat) (v1 v2 z e8 : Value) (w : World) (hn : n = l.length) (hl : n ≤ 400) (hr : Recs 8 cellsP w w.heap.size A l)
    (hsum : ∀ (A' : Option Addr) (n' c' : Nat) (w' : World), n' = (reqsAt node l).length → n' ≤ 500 → Recs 4 cellsV w' w'.heap.size A' (reqsAt node l) →
      Calls Try.prog 43 #[.slice A' n' c'] w' fun e w'' => ∃ u : V4, z = aggV u ∧ e = .returned (.tuple #[aggV u, e8]) ∧ Below w'.heap.size w' w'') :
    Calls Try.prog 27 #[.agg #[.slice A n c, v1, v2], .int .i64 node] w fun e w' => e = .returned (.tuple #[z, e8]) ∧ Below w.heap.size w w' := by
  have HR := Lib.hid hr
  have HN := Lib.hid hn
  have HS := Lib.hid hsum
  have b00 := below_two w (.cells #[.slice A n c, v1, v2] 31) (.cells #[.int .u64 0, .int .u64 0, .int .u64 0, .int .u64 0] 36)
  have hmk := makeVecs
  have HT := Lib.hid (two_head w (.slice A n c) v1 v2 31 36)
  have HM := Lib.hid (World.ownsRow_made (base := w.heap.size + 2) (e := 36) (size := 4) ((w.alloc (.cells #[.slice A n c, v1, v2] 31)).alloc (.cells #[.int .u64 0, .int .u64 0, .int .u64 0, .int .u64 0] 36)) (Array.replicate 48 (Value.int .u64 0)) 12 (by simp) (by decide) (by simp))
  clear hr hn hsum ho
  go_enter Try.func27, Try.ntmps27
  go_wp2
  go_loopw [6, 13] (UseRel l node ((w.alloc (.cells #[.slice A n c, v1, v2] 31)).alloc (.cells #[.int .u64 0, .int .u64 0, .int .u64 0, .int .u64 0] 36)) (w.heap.size + 2)) (fun _ i _ => n - (intOf i).toNat)
  case atStart => exact ⟨0, 0, by omega, rfl, rfl, by simpa [reqsAt] using HM.out, (Below.refl _ _).alloc (by simp) _⟩
  case round =>
    obtain ⟨k, m, hk, rfl, hm, hown, hbr⟩ := hrel
    have HMM := Lib.hid hm
    have HOW := Lib.hid hown
    have hz := hbr.size
    have hz2 : w.heap.size + 2 ≤ wr.heap.size := by simpa using hz
    have kwr := b00.trans (hbr.mono (by omega))
    clear hm hown hz hmk
    by_cases hlt : k < n
    · have hkl : k < l.length := by have := HN.out; omega
      obtain ⟨b, o, rfl, hb, he⟩ := HR.out.at hkl
      generalize hx : l[k] = y at *
      have HXX := Lib.hid (reqs_take (node := node) hkl hx)
      clear hx
      have e0 : wr.cell? ⟨b, o + k * 8, none⟩ = some (.int .i64 y.id) := (kwr.cell (p := ⟨b, o + k * 8, none⟩) hb).trans (he 0 _ rfl)
      have e1 : wr.cell? ⟨b, o + k * 8 + 1, none⟩ = some (.int .i64 y.load) := (kwr.cell (p := ⟨b, o + k * 8 + 1, none⟩) hb).trans (he 1 _ rfl)
      have e2 : wr.cell? ⟨b, o + k * 8 + 2, none⟩ = some (.int .i64 y.prio) := (kwr.cell (p := ⟨b, o + k * 8 + 2, none⟩) hb).trans (he 2 _ rfl)
      have e3 : wr.cell? ⟨b, o + k * 8 + 3, none⟩ = some (.int .u64 y.req.a) := (kwr.cell (p := ⟨b, o + k * 8 + 3, none⟩) hb).trans (he 3 _ rfl)
      have e4 : wr.cell? ⟨b, o + k * 8 + 4, none⟩ = some (.int .u64 y.req.b) := (kwr.cell (p := ⟨b, o + k * 8 + 4, none⟩) hb).trans (he 4 _ rfl)
      have e5 : wr.cell? ⟨b, o + k * 8 + 5, none⟩ = some (.int .u64 y.req.c) := (kwr.cell (p := ⟨b, o + k * 8 + 5, none⟩) hb).trans (he 5 _ rfl)
      have e6 : wr.cell? ⟨b, o + k * 8 + 6, none⟩ = some (.int .u64 y.req.d) := (kwr.cell (p := ⟨b, o + k * 8 + 6, none⟩) hb).trans (he 6 _ rfl)
      have e7 : wr.cell? ⟨b, o + k * 8 + 7, none⟩ = some (.int .i64 y.node) := (kwr.cell (p := ⟨b, o + k * 8 + 7, none⟩) hb).trans (he 7 _ rfl)
      have hbw : b < wr.heap.size := by omega
      have HL : Hid (m ≤ 2000000) := by
        have h1 := reqs_len node (l.take k)
        have h2 := HMM.out
        have h3 := List.length_take_le k l
        have h4 := HN.out
        show _ ≤ _
        rw [List.length_take] at h1
        omega
      clear he
      by_cases hy : y.node = node
      · have hd : (y.node == node) = true := by simp [hy]
        have HE := Lib.hid (HXX.out.1 hy)
        have d3 : (wr.alloc (.cells #[.int .i64 y.id, .int .i64 y.load, .int .i64 y.prio, .int .u64 y.req.a, .int .u64 y.req.b, .int .u64 y.req.c, .int .u64 y.req.d, .int .i64 y.node] 38)).cell? ⟨wr.heap.size, 3, none⟩ = some (.int .u64 y.req.a) := by simp
        have d4 : (wr.alloc (.cells #[.int .i64 y.id, .int .i64 y.load, .int .i64 y.prio, .int .u64 y.req.a, .int .u64 y.req.b, .int .u64 y.req.c, .int .u64 y.req.d, .int .i64 y.node] 38)).cell? ⟨wr.heap.size, 4, none⟩ = some (.int .u64 y.req.b) := by simp
        have d5 : (wr.alloc (.cells #[.int .i64 y.id, .int .i64 y.load, .int .i64 y.prio, .int .u64 y.req.a, .int .u64 y.req.b, .int .u64 y.req.c, .int .u64 y.req.d, .int .i64 y.node] 38)).cell? ⟨wr.heap.size, 5, none⟩ = some (.int .u64 y.req.c) := by simp
        have d6 : (wr.alloc (.cells #[.int .i64 y.id, .int .i64 y.load, .int .i64 y.prio, .int .u64 y.req.a, .int .u64 y.req.b, .int .u64 y.req.c, .int .u64 y.req.d, .int .i64 y.node] 38)).cell? ⟨wr.heap.size, 6, none⟩ = some (.int .u64 y.req.d) := by simp
        have d7 : (wr.alloc (.cells #[.int .i64 y.id, .int .i64 y.load, .int .i64 y.prio, .int .u64 y.req.a, .int .u64 y.req.b, .int .u64 y.req.c, .int .u64 y.req.d, .int .i64 y.node] 38)).cell? ⟨wr.heap.size, 7, none⟩ = some (.int .i64 y.node) := by simp
        have hbl : wr.heap.size < (wr.alloc (.cells #[.int .i64 y.id, .int .i64 y.load, .int .i64 y.prio, .int .u64 y.req.a, .int .u64 y.req.b, .int .u64 y.req.c, .int .u64 y.req.d, .int .i64 y.node] 38)).heap.size := by simp
        have HOWN := Lib.hid (HOW.out.alloc (.cells #[.int .i64 y.id, .int .i64 y.load, .int .i64 y.prio, .int .u64 y.req.a, .int .u64 y.req.b, .int .u64 y.req.c, .int .u64 y.req.d, .int .i64 y.node] 38))
        have HBW := Lib.hid (hbr.alloc (by omega) (.cells #[.int .i64 y.id, .int .i64 y.load, .int .i64 y.prio, .int .u64 y.req.a, .int .u64 y.req.b, .int .u64 y.req.c, .int .u64 y.req.d, .int .i64 y.node] 38))
        clear hy
        go_upto_region 6 with fail
        generalize (wr.alloc (.cells #[.int .i64 y.id, .int .i64 y.load, .int .i64 y.prio, .int .u64 y.req.a, .int .u64 y.req.b, .int .u64 y.req.c, .int .u64 y.req.d, .int .i64 y.node] 38)) = W at *
        have HZW : Hid (w.heap.size + 2 ≤ W.heap.size) := by have h1 := hbl; show _ ≤ _; omega
        go_wp2_with (at_builtin; refine wpList_pushR 96 36 (.agg #[.int .u64 0, .int .u64 0, .int .u64 0, .int .u64 0]) 4 32 underVecs infoVec rfl (by decide) (by decide) rfl (.tmp 21) (.tmp 24) rfl (w.heap.size + 2) _ m _ (cellsV y.req) rfl (oneVec _) HOWN.out HZW.out HL.out rfl rfl ?_; intro v' w2 hown2 hb2 hB2)
        have HO2 := Lib.hid (own_reqs HMM.out hown2 HE.out)
        clear hown2
        go_wp2
        go_roundw
        case rel => exact ⟨k + 1, m + 1, by omega, by go_num, HO2.out.2, (by have h := HO2.out.1; exact h), HBW.out.trans hb2⟩
        case measure => simp [intOf]; omega
      · have hd : (y.node == node) = false := by simp [hy]
        have HE := Lib.hid (HXX.out.2 hy)
        clear hy
        go_wp2
        go_roundw
        case rel => exact ⟨k + 1, m, by omega, by go_num, by rw [HE.out]; exact HMM.out, by rw [HE.out]; exact HOW.out.alloc _, hbr.alloc (by omega) _⟩
        case measure => simp [intOf]; omega
    · have htk : l.take k = l := List.take_of_length_le (by have := HN.out; omega)
      have hm' := HMM.out
      have how := HOW.out
      rw [htk] at hm' how
      obtain ⟨A', c', rfl, hc1, hc2, hc3, hrec⟩ := recs_of_own lenVec hm' how
      have HRE := Lib.hid hrec
      have HMM' := Lib.hid hm'
      have HLL : Hid (m ≤ 500) := by
        have h1 := reqs_len node l
        have h4 := HN.out
        have h5 := HMM'.out
        show _ ≤ _
        omega
      have hr4 := HT.out.below hbr (by simp)
      obtain ⟨g0, g1, g2, g3, f0, f1, f2, f3⟩ := hr4
      have hwl : w.heap.size + 1 < wr.heap.size := by omega
      clear how hm' htk hrec
      go_wp2_with fail
      refine (HS.out A' m c' _ HMM'.out HLL.out HRE.out).mono ?_
      rintro e w1 ⟨u, hu, rfl, hb1⟩
      have HU := Lib.hid hu
      clear hu
      have g0 : w1.cell? ⟨w.heap.size + 1, 0, none⟩ = some (.int .u64 0) := (hb1.cell (p := ⟨w.heap.size + 1, 0, none⟩) hwl).trans g0
      have g1 : w1.cell? ⟨w.heap.size + 1, 1, none⟩ = some (.int .u64 0) := (hb1.cell (p := ⟨w.heap.size + 1, 1, none⟩) hwl).trans g1
      have g2 : w1.cell? ⟨w.heap.size + 1, 2, none⟩ = some (.int .u64 0) := (hb1.cell (p := ⟨w.heap.size + 1, 2, none⟩) hwl).trans g2
      have g3 : w1.cell? ⟨w.heap.size + 1, 3, none⟩ = some (.int .u64 0) := (hb1.cell (p := ⟨w.heap.size + 1, 3, none⟩) hwl).trans g3
      have f0 : w1.frozen? ⟨w.heap.size + 1, 0, none⟩ = false := (hb1.frozen (p := ⟨w.heap.size + 1, 0, none⟩) hwl).trans f0
      have f1 : w1.frozen? ⟨w.heap.size + 1, 1, none⟩ = false := (hb1.frozen (p := ⟨w.heap.size + 1, 1, none⟩) hwl).trans f1
      have f2 : w1.frozen? ⟨w.heap.size + 1, 2, none⟩ = false := (hb1.frozen (p := ⟨w.heap.size + 1, 2, none⟩) hwl).trans f2
      have f3 : w1.frozen? ⟨w.heap.size + 1, 3, none⟩ = false := (hb1.frozen (p := ⟨w.heap.size + 1, 3, none⟩) hwl).trans f3
      have kw1 : Below w.heap.size w w1 := kwr.trans (hb1.mono (by omega))
      go_wp2
      refine bodyPost_ret (v := .tuple #[aggV u, e8]) ?_ rfl ?_
      · simp [results, Try.results27, go_sem, *]
      · refine ⟨by rw [HU.out], ?_⟩
        repeat (first | with_reducible exact kw1 | with_reducible refine Below.setCell ?_ ?_ _)
        all_goals (show w.heap.size ≤ w.heap.size + 1; omega)
theorem roomUse_some {l : List PodD} {node : Int} {u : V4} (ho : ∀ p ∈ l, p.Ok) (h : useD l node = some u) (A : Option Addr) (n c : Nat) (v1 v2 : Value) (w : World) (hn : n = l.length) (hl : n ≤ 400) (hr : Recs 8 cellsP w w.heap.size A l) :
    Calls Try.prog 27 #[.agg #[.slice A n c, v1, v2], .int .i64 node] w fun e w' => e = .returned (.tuple #[aggV u, .nilIface]) ∧ Below w.heap.size w w' :=
  roomUse_walk l node ho A n c v1 v2 (aggV u) .nilIface w hn hl hr fun A' n' c' w' h1 h2 h3 => (vSum_some (reqs_ok ho) h A' n' c' w' h1 h2 h3).mono fun e w'' ⟨he, hb⟩ => ⟨u, rfl, he, hb⟩
theorem roomUse_none {l : List PodD} {node : Int} (ho : ∀ p ∈ l, p.Ok) (h : useD l node = none) (A : Option Addr) (n c : Nat) (v1 v2 : Value) (w : World) (hn : n = l.length) (hl : n ≤ 400) (hr : Recs 8 cellsP w w.heap.size A l) :
    Calls Try.prog 27 #[.agg #[.slice A n c, v1, v2], .int .i64 node] w fun e w' => e = .returned (.tuple #[zeroV, .iface 49 (.int .i64 8)]) ∧ Below w.heap.size w w' :=
  roomUse_walk l node ho A n c v1 v2 zeroV _ w hn hl hr fun A' n' c' w' h1 h2 h3 => (vSum_none (reqs_ok ho) h A' n' c' w' h1 h2 h3).mono fun e w'' ⟨he, hb⟩ => ⟨.zer, rfl, he, hb⟩
end Go.Proofs.Ytedcmchdapfhhaa

/- What a move comes to: the program's Make of layer 5. -/
namespace Go.Proofs.Ytedcmchdapfhhaa
set_option linter.unusedSimpArgs false
open Go.RowKit
set_option linter.unusedVariables false

def codeV (c : Int) : Value := if c = 0 then .nilIface else .iface 49 (.int .i64 c)
/-- What stands while Make is at work. -/
structure Mk (snap spec state move : List Value) (w V : World) : Prop where
  snap : Bf V w.heap.size snap
  spec : Bf V (w.heap.size + 1) spec
  state : Bf V (w.heap.size + 2) state
  move : Bf V (w.heap.size + 3) move
  res : Bf V (w.heap.size + 4) [.slice none 0 0, .int .i64 0, .int .i64 0]
  below : Below w.heap.size w V
section
variable {a b c d : List Value} {w V V' : World}
theorem Mk.keep (h : Mk a b c d w V) (hb : Below V.heap.size V V') : Mk a b c d w V' :=
  ⟨h.snap.below hb h.snap.lt, h.spec.below hb h.spec.lt, h.state.below hb h.state.lt, h.move.below hb h.move.lt, h.res.below hb h.res.lt, h.below.trans (hb.mono h.below.size)⟩
theorem Mk.new (w : World) (a b c d : List Value) (t1 t2 t3 t4 t5 : TypeId) : Mk a b c d w (((((w.alloc (.cells a.toArray t1)).alloc (.cells b.toArray t2)).alloc (.cells c.toArray t3)).alloc (.cells d.toArray t4)).alloc (.cells #[.slice none 0 0, .int .i64 0, .int .i64 0] t5)) :=
  ⟨((((Bf.new w a t1 rfl).alloc _).alloc _).alloc _).alloc _, (((Bf.new (w.alloc (.cells a.toArray t1)) b t2 (b := w.heap.size + 1) (by simp)).alloc _).alloc _).alloc _,
    ((Bf.new ((w.alloc (.cells a.toArray t1)).alloc (.cells b.toArray t2)) c t3 (b := w.heap.size + 2) (by simp)).alloc _).alloc _, (Bf.new (((w.alloc (.cells a.toArray t1)).alloc (.cells b.toArray t2)).alloc (.cells c.toArray t3)) d t4 (b := w.heap.size + 3) (by simp)).alloc _,
    Bf.new ((((w.alloc (.cells a.toArray t1)).alloc (.cells b.toArray t2)).alloc (.cells c.toArray t3)).alloc (.cells d.toArray t4)) [.slice none 0 0, .int .i64 0, .int .i64 0] t5 (b := w.heap.size + 4) (by simp),
    (below_four w _ _ _ _).alloc (by simp; omega) _⟩
end
theorem Out.set {l : List PodD} {w : World} {A : Option Addr} {c : Nat} (h : Out 8 cellsP w l A c) {p : Addr} (hp : ∀ a, A = some a → a.block ≠ p.block) (v : Value) : Out 8 cellsP (w.setCell p v) l A c := by
  refine ⟨h.1, h.2.1, h.2.2.1, ?_⟩
  rcases h.2.2.2 with h0 | ⟨b, o, e, hb, hc⟩
  · exact .inl h0
  · refine .inr ⟨b, o, e, by simpa using hb, fun i hi j u hu => ?_⟩
    have := hp _ e
    rw [World.cell?_setCell_other _ _ _ _ (by intro e'; rw [e'] at this; exact this rfl)]
    exact hc i hi j u hu
end Go.Proofs.Ytedcmchdapfhhaa

/- A node's rest: the program's Rest. -/
namespace Go.Proofs.Ytedcmchdapfhhaa
set_option linter.unusedSimpArgs false
open Go.RowKit
set_option linter.unusedVariables false

section
variable {V : World}
theorem Bf.cells10 {b : Nat} {x : NodeD} (h : Bf V b (cellsN x)) : (V.cell? ⟨b, 0, none⟩ = some (.int .i64 x.id) ∧ V.cell? ⟨b, 1, none⟩ = some (.int .i64 x.zone) ∧ V.cell? ⟨b, 2, none⟩ = some (.int .u64 x.cap.a) ∧ V.cell? ⟨b, 3, none⟩ = some (.int .u64 x.cap.b) ∧ V.cell? ⟨b, 4, none⟩ = some (.int .u64 x.cap.c) ∧ V.cell? ⟨b, 5, none⟩ = some (.int .u64 x.cap.d)) ∧
    V.cell? ⟨b, 6, none⟩ = some (.int .u64 x.held.a) ∧ V.cell? ⟨b, 7, none⟩ = some (.int .u64 x.held.b) ∧ V.cell? ⟨b, 8, none⟩ = some (.int .u64 x.held.c) ∧ V.cell? ⟨b, 9, none⟩ = some (.int .u64 x.held.d) ∧ b < V.heap.size :=
  ⟨⟨h.cell 0 _ rfl, h.cell 1 _ rfl, h.cell 2 _ rfl, h.cell 3 _ rfl, h.cell 4 _ rfl, h.cell 5 _ rfl⟩, h.cell 6 _ rfl, h.cell 7 _ rfl, h.cell 8 _ rfl, h.cell 9 _ rfl, h.lt⟩
end
theorem rest_ret {p : V4 × Int} {a : Value} {b : Value} (q : V4 × Int) (h : p = q) (ha : a = aggV q.1) (hb : b = codeV q.2) : Ending.returned (.tuple #[a, b]) = .returned (.tuple #[aggV p.1, codeV p.2]) := by subst h ha hb; rfl

set_option maxHeartbeats 6400000 in
set_option maxRecDepth 100000 in
theorem roomRest_any (ns : List NodeD) (l : List PodD) (id : Int) (hno : ∀ x ∈ ns, x.Ok) (hlo : ∀ p ∈ l, p.Ok) (A1 A4 : Option Addr) (n1 c1 n4 c4 : Nat) (s2 s3 v1 v2 : Value) (w : World)
    (hn1 : n1 = ns.length) (hl1 : n1 ≤ 400) (hr1 : Recs 10 cellsN w w.heap.size A1 ns) (hn4 : n4 = l.length) (hl4 : n4 ≤ 400) (hr4 : Recs 8 cellsP w w.heap.size A4 l) :
    Calls Try.prog 16 #[.agg #[.slice A1 n1 c1, s2, s3], .agg #[.slice A4 n4 c4, v1, v2], .int .i64 id] w fun e w' => e = .returned (.tuple #[aggV (restD ns l id).1, codeV (restD ns l id).2]) ∧ Below w.heap.size w w' := by
  have HR1 := Lib.hid hr1
  have HR4 := Lib.hid hr4
  have HN1 := Lib.hid hn1
  have HN4 := Lib.hid hn4
  have HNO := Lib.hid hno
  have HLO := Lib.hid hlo
  have T0 := T3.new w [.slice A1 n1 c1, s2, s3] [.slice A4 n4 c4, v1, v2] (cellsV .zer) 26 31 36
  have HF := Lib.hid (fun W (h1 : Recs 10 cellsN W W.heap.size A1 ns) => node_any ns id A1 n1 c1 s2 s3 W hn1 (by omega) h1)
  clear hr1 hr4 hn1 hn4 hno hlo
  go_enter Try.func16, Try.ntmps16
  go_wp2_with fail
  refine (HF.out _ ((HR1.out.below T0.below (Nat.le_refl _)).more T0.below.size)).mono ?_
  rintro e w1 ⟨hh, hb1⟩
  have T1 := T0.keep hb1
  clear hb1 T0 HF
  obtain ⟨a0, a1, a2, a3⟩ := T1.two.cells3
  obtain ⟨⟨g0, g1, g2, g3⟩, g4⟩ := T1.three.zero4
  obtain ⟨f0, f1, f2, f3⟩ := T1.three.free4
  have hwl1 : w.heap.size + 1 < w1.heap.size := T1.two.lt
  rcases hh with ⟨hp, rfl⟩ | ⟨i, hi, hp, rfl⟩
  · have HE := Lib.hid (rest_none (l := l) (nodeAt_no (k := 0) (Int.le_refl _) hp))
    have kw2 := T1.below
    clear hp T1
    go_wp2
    refine bodyPost_ret (v := .tuple #[zeroV, .iface 49 (.int .i64 4)]) ?_ rfl ?_
    · simp [results, Try.results16, go_sem, *]
    · refine ⟨rest_ret _ HE.out rfl rfl, ?_⟩
      repeat (first | with_reducible exact kw2 | with_reducible refine Below.setCell ?_ ?_ _ | with_reducible refine Below.alloc ?_ ?_ _)
      all_goals first | (show w.heap.size ≤ w.heap.size + 2; omega) | (simp; omega) | omega
  · have HP := Lib.hid (nodeAt_yes (k := 0) hi (Int.le_refl _) (by rw [hp]; omega))
    have HX := Lib.hid (HNO.out _ (List.getElem_mem hi))
    generalize hx : ns[i] = x at *
    clear hp hx
    have NB := Bf.new w1 (cellsN x) 48 rfl
    rcases hu : useD l id with _ | u
    · have HC := Lib.hid (fun W (h1 : Recs 8 cellsP W W.heap.size A4 l) => roomUse_none HLO.out hu A4 n4 c4 v1 v2 W HN4.out hl4 h1)
      have HE := Lib.hid (rest_over HP.out hu)
      clear hu NB
      have T1a := T1.alloc (.cells (cellsN x).toArray 48)
      have HRR := Lib.hid ((HR4.out.below T1a.below (Nat.le_refl _)).more T1a.below.size)
      have HT := Lib.hid T1a
      clear T1a T1
      go_wp2_with fail
      refine (HC.out _ HRR.out).mono ?_
      rintro e w2 ⟨rfl, hb2⟩
      have T2 := HT.out.keep hb2
      clear hb2 HT HRR a0 a1 a2 a3 g0 g1 g2 g3 g4 f0 f1 f2 f3 hwl1
      obtain ⟨⟨g0, g1, g2, g3⟩, g4⟩ := T2.three.zero4
      obtain ⟨f0, f1, f2, f3⟩ := T2.three.free4
      have kw2 := T2.below
      clear T2
      go_wp2
      refine bodyPost_ret (v := .tuple #[zeroV, .iface 49 (.int .i64 8)]) ?_ rfl ?_
      · simp [results, Try.results16, go_sem, *]
      · refine ⟨rest_ret _ HE.out rfl rfl, ?_⟩
        repeat (first | with_reducible exact kw2 | with_reducible refine Below.setCell ?_ ?_ _ | with_reducible refine Below.alloc ?_ ?_ _)
        all_goals first | (show w.heap.size ≤ w.heap.size + 2; omega) | (simp; omega) | omega
    · have HC := Lib.hid (fun W (h1 : Recs 8 cellsP W W.heap.size A4 l) => roomUse_some HLO.out hu A4 n4 c4 v1 v2 W HN4.out hl4 h1)
      have HUO := Lib.hid (use_ok HLO.out hu)
      have HL : Hid (∀ W, Calls Try.prog 28 #[aggN x, aggV u] W fun e w' => e = .returned (.tuple #[aggV (restD ns l id).1, codeV (restD ns l id).2]) ∧ Below W.heap.size W w') := by
        intro W
        rcases hl : leftD x u with _ | r
        · rw [rest_room HP.out hu hl]; exact leftW_none HX.out HUO.out hl W
        · rw [rest_some HP.out hu hl]; exact leftW_some HX.out HUO.out hl W
      generalize hz : (restD ns l id) = z at *
      obtain ⟨r, code⟩ := z
      have HZ := Lib.hid hz
      clear hu hz
      have T1a := T1.alloc (.cells (cellsN x).toArray 48)
      have HRR := Lib.hid ((HR4.out.below T1a.below (Nat.le_refl _)).more T1a.below.size)
      have HT := Lib.hid T1a
      have HNB := Lib.hid NB
      clear T1a T1 NB
      go_wp2_with fail
      refine (HC.out _ HRR.out).mono ?_
      rintro e w2 ⟨rfl, hb2⟩
      have T2 := HT.out.keep hb2
      have N2 := HNB.out.below hb2 HNB.out.lt
      clear hb2 HT HNB HRR a0 a1 a2 a3 g0 g1 g2 g3 g4 f0 f1 f2 f3 hwl1
      obtain ⟨⟨n0, n1', n2, n3, n4', n5⟩, n6, n7, n8, n9, n10⟩ := N2.cells10
      go_wp2_with fail
      refine (HL.out _).mono ?_
      rintro e w3 ⟨rfl, hb3⟩
      have T3' := (T2.alloc _).keep hb3
      clear hb3 T2 N2 n0 n1' n2 n3 n4' n5 n6 n7 n8 n9 n10
      obtain ⟨⟨g0, g1, g2, g3⟩, g4⟩ := T3'.three.zero4
      obtain ⟨f0, f1, f2, f3⟩ := T3'.three.free4
      have kw2 := T3'.below
      clear T3'
      go_wp2
      refine bodyPost_ret (v := .tuple #[aggV r, codeV code]) ?_ rfl ?_
      · simp [results, Try.results16, go_sem, *]
      · refine ⟨by rw [HZ.out], ?_⟩
        repeat (first | with_reducible exact kw2 | with_reducible refine Below.setCell ?_ ?_ _ | with_reducible refine Below.alloc ?_ ?_ _)
        all_goals first | (show w.heap.size ≤ w.heap.size + 2; omega) | (simp; omega) | omega
end Go.Proofs.Ytedcmchdapfhhaa

/- errors.As of a Code itself, into a variable of type Code. -/
namespace Go.Proofs.Ytedcmchdapfhhaa
set_option linter.unusedSimpArgs false
open Go.RowKit Go.Extern.Stop Go.Stop Go.Extern
set_option linter.unusedVariables false

end Go.Proofs.Ytedcmchdapfhhaa

/- A node's error with its place: the program's spot. -/
namespace Go.Proofs.Ytedcmchdapfhhaa
set_option linter.unusedSimpArgs false
open Go.RowKit
set_option linter.unusedVariables false

end Go.Proofs.Ytedcmchdapfhhaa

/- A box of four cells that a statement makes behind its call, or ahead of it. -/
namespace Go.Proofs.Ytedcmchdapfhhaa
set_option linter.unusedSimpArgs false
open Go.RowKit
set_option linter.unusedVariables false

/-- A box that a statement makes behind its call, or ahead of it. -/
theorem Bf.later {W v w' : World} {z : V4} (h0 : Bf v W.heap.size (cellsV .zer)) (hb : Below v.heap.size v w') :
    Bf ((((w'.setCell ⟨W.heap.size, 0, none⟩ (.int .u64 z.a)).setCell ⟨W.heap.size, 1, none⟩ (.int .u64 z.b)).setCell ⟨W.heap.size, 2, none⟩ (.int .u64 z.c)).setCell ⟨W.heap.size, 3, none⟩ (.int .u64 z.d)) W.heap.size (cellsV z) :=
  (((((h0.below hb h0.lt).set 0 (.int .u64 z.a)).set 1 (.int .u64 z.b)).set 2 (.int .u64 z.c)).set 3 (.int .u64 z.d))
theorem Bf.drew {V : World} {b : Nat} {cs : List Value} (h : Bf V b cs) : Bf V.drew b cs := h.below (Below.refl _ V).drew h.lt
end Go.Proofs.Ytedcmchdapfhhaa

/- The first node at fault: the program's Check of layer 6. -/
namespace Go.Proofs.Ytedcmchdapfhhaa
set_option linter.unusedSimpArgs false
open Go.RowKit
set_option linter.unusedVariables false

/-- Two boxes of the call's own. -/
structure T2 (a b : List Value) (w V : World) : Prop where
  one : Bf V w.heap.size a
  two : Bf V (w.heap.size + 1) b
  below : Below w.heap.size w V
section
variable {a b : List Value} {w V V' : World}
theorem T2.keep (h : T2 a b w V) (hb : Below V.heap.size V V') : T2 a b w V' := ⟨h.one.below hb h.one.lt, h.two.below hb h.two.lt, h.below.trans (hb.mono h.below.size)⟩
theorem T2.alloc (h : T2 a b w V) (o : Obj) : T2 a b w (V.alloc o) := h.keep ((Below.refl _ V).alloc (Nat.le_refl _) o)
theorem T2.new (w : World) (a b : List Value) (t1 t2 : TypeId) : T2 a b w ((w.alloc (.cells a.toArray t1)).alloc (.cells b.toArray t2)) :=
  ⟨(Bf.new w a t1 rfl).alloc _, Bf.new (w.alloc (.cells a.toArray t1)) b t2 (b := w.heap.size + 1) (by simp), ((Below.refl _ w).alloc (Nat.le_refl _) _).alloc (by simp) _⟩
end
end Go.Proofs.Ytedcmchdapfhhaa

/- append of all records of a slice at a step of a region that draws its order; slices of slices of records. -/
namespace Go.Proofs.Ytedcmchdapfhhaa
set_option linter.unusedSimpArgs false
open Go.RowKit
set_option linter.unusedVariables false

section
variable {α : Type} {size : Nat} {cells : α → List Value} {w : World} {B : Nat} {xs : List α}
theorem Recs.drop {b o : Nat} (h : Recs size cells w B (some ⟨b, o, none⟩) xs) (k : Nat) : Recs size cells w B (some ⟨b, o + k * size, none⟩) (xs.drop k) := by
  rcases h with h | ⟨b', o', h1, h2, h3⟩
  · exact .inl (by simp [h])
  · injection h1 with h1
    injection h1 with h1 h1'
    subst h1 h1'
    refine .inr ⟨b, o + k * size, rfl, h2, fun i hi j u hu => ?_⟩
    have hi' : k + i < xs.length := by simp at hi; omega
    rw [List.getElem_drop] at hu
    have := h3 (k + i) hi' j u hu
    rwa [Nat.add_mul, ← Nat.add_assoc] at this
end
theorem Keeps.grow {W v v' : World} {B : Nat} (h : Keeps W v) (hb : Below B v v') (hB : W.heap.size ≤ B) : Keeps W v' := Keeps.of (h.2.trans (hb.mono hB))
section
variable {ops : Array Oper} {o : Oper} {a : Act} {Q : Exit → Act → World → Prop} {wr : World} {K : Act → World → Prop} {E : Prop}
set_option maxRecDepth 100000 in
theorem step_recsA {α : Type} {cells : α → List Value} (t e : TypeId) (z : Value) (size bytes : Nat) (ht : Try.prog.underlying t = some (.slice e)) (hinfo : (Try.prog.info? e).map (fun i => (i.zero, i.size, i.bytes)) = some (some z, size, bytes)) (hz : z.cells.size = size) (hsz : 0 < size) (hby : bytes ≤ 1000)
    (hc : ∀ x, (cells x).length = size) (hu : ∀ x, ∀ u ∈ cells x, u.oneCell' = true)
    (hgd : o.guard = none) (s x : Operand) (ho : o.op = .call { callee := .builtin .append, args := #[s, x], argTypes := #[t, t] })
    (B R : Nat) (gv cv n m : Nat) (xs ys : List α) (ad : Addr) (c : Nat) (hown : wr.ownsRow B e size (.slice (some ⟨gv, 0, none⟩) n cv) n (xs.flatMap cells)) (hrow : Recs size cells wr R (some ad) ys) (hB : B ≤ wr.heap.size) (hl : n + m ≤ 2000000)
    (hs : a.eval s = .slice (some ⟨gv, 0, none⟩) n cv) (hx : a.eval x = .slice (some ad) m c) (hm : m = ys.length)
    (h : ∀ g cap w', w'.ownsRow B e size (.slice (some ⟨g, 0, none⟩) (n + m) cap) (n + m) ((xs ++ ys).flatMap cells) → Below B wr w' → (g = gv ∨ g = wr.heap.size) → g < w'.heap.size →
      (∀ b o', b ≠ gv → b < wr.heap.size → w'.cell? ⟨b, o', none⟩ = wr.cell? ⟨b, o', none⟩ ∧ w'.frozen? ⟨b, o', none⟩ = wr.frozen? ⟨b, o', none⟩) → wr.heap.size ≤ w'.heap.size → K (a.put o.dst (.slice (some ⟨g, 0, none⟩) (n + m) cap)) w') :
    if Region.wanted o (yielded ops a.tmps) = true then Oper.wp Try.prog o a wr K Q else E := by
  obtain ⟨i0, hi, hz0, hz1, hz2⟩ := info_parts3 hinfo
  have hw : Region.wanted o (yielded ops a.tmps) = true := by simp [Region.wanted, hgd]
  rw [if_pos hw]
  have hn1 : ∀ j u, (ys.flatMap cells)[j]? = some u → wr.cell? (ad.add j) = some u := by
    intro j y hy
    rcases hrow with h0 | ⟨b, o', h0, hb, h1⟩
    · rw [h0] at hy; simp at hy
    · injection h0 with h0
      subst h0
      have hj := (List.getElem?_eq_some_iff.1 hy).1
      rw [flatMap_len hc] at hj
      have hi' : j / size < ys.length := Nat.div_lt_of_lt_mul (by rw [Nat.mul_comm]; exact hj)
      have hjm : j % size < size := Nat.mod_lt _ hsz
      have hdm : j / size * size + j % size = j := by rw [Nat.mul_comm]; exact Nat.div_add_mod j size
      have e1 := flatMap_get (size := size) hc hi' hjm
      rw [hdm] at e1
      have := h1 (j / size) hi' (j % size) y (by rw [← e1]; exact hy)
      rw [Addr.add_lit, ← hdm]
      rwa [Nat.add_assoc] at this
  have hn2 : ∀ u ∈ ys.flatMap cells, u.oneCell' = true := by
    intro u hu'
    rcases List.mem_flatMap.1 hu' with ⟨x, _, hx'⟩
    exact hu x u hx'
  obtain ⟨v', w', hr, h2, h3, h4, h5⟩ := run_append_own_at (P := Try.prog) wr B t o.type e i0 z size bytes ht hi hz0 hz1 hz2 hz hsz _ n (xs.flatMap cells) hown ad m c (ys.flatMap cells) (by rw [flatMap_len hc, hm]) hn1 hn2 (by unfold maxLen; omega) (by have : (n + m) * bytes ≤ (n + m) * 1000 := Nat.mul_le_mul_left _ hby; omega) hB
  have h1 : ∃ g cap, v' = .slice (some ⟨g, 0, none⟩) (n + m) cap ∧ g < w'.heap.size := by
    rcases h2.2 with ⟨hv, _⟩ | ⟨g, cap, cur, hv, _, hg, _⟩
    · have := (h4.1 hv).1; cases this
    · exact ⟨g, cap, hv, (Array.getElem?_eq_some_iff.1 hg).1⟩
  obtain ⟨g, cap, rfl, hlt⟩ := h1
  unfold Oper.wp execOp
  simp only [ho, resolve, invoke, builtin, Sem.run_bind, Sem.run_pure, Result.andThen_ok, List.map_toArray, List.map_cons, List.map_nil, hs, hx, hr]
  refine h g cap w' (by rw [List.flatMap_append]; exact h2) ((Below.refl B wr).grown h3 hB (fun j hj => (hown.lt j hj).1)) ?_ hlt (fun b o' hne hb => ?_) h3.size
  · rcases h5 with h5 | h5
    · left; simpa [Value.ownBlock] using h5
    · right; simpa [Value.ownBlock] using h5
  · have hne' : some b ≠ (Value.slice (some ⟨gv, 0, none⟩) n cv).ownBlock := by simpa [Value.ownBlock] using hne
    exact ⟨World.cell?_of_block (h3.block b hb hne'), World.frozen?_of_block (h3.block b hb hne')⟩
end
end Go.Proofs.Ytedcmchdapfhhaa

/- What Makes and its like call of the library: slices.BinarySearch of a row in order, slices.Clone of pods, slices.Concat of two slices of ints. -/
namespace Go.Proofs.Ytedcmchdapfhhaa
set_option linter.unusedSimpArgs false
open Go.RowKit Go.Shelf
set_option linter.unusedVariables false

set_option maxHeartbeats 1600000 in
theorem searchNil (x : Int) (A : Option Addr) (c : Nat) (w : World) : Calls Try.prog 32 #[.slice A 0 c, .int .i64 x] w fun e w' => e = .returned (.tuple #[.int .i64 0, .bool false]) ∧ Below w.heap.size w w' := by
  go_enter Try.func32, Try.ntmps32
  go_wp2
  go_loopw [7, 8] (fun i j wr => i = .int .i64 0 ∧ j = .int .i64 0 ∧ Below w.heap.size w wr) (fun _ _ _ => 0)
  case atStart => exact ⟨rfl, rfl, Below.refl _ _⟩
  case round =>
    obtain ⟨rfl, rfl, hb⟩ := hrel
    go_wp2
    refine bodyPost_ret (v := .tuple #[.int .i64 0, .bool false]) ?_ rfl ?_
    · simp [results, Try.results32, go_sem, *]
    · refine ⟨rfl, ?_⟩
      repeat (first | exact hb | refine Below.drew ?_)
/-- Is it among them? -/
theorem searchG_any (zs : List Int) (x : Int) (A : Option Addr) (n c : Nat) (w : World) (hn : n = zs.length) (hl : n ≤ 1000) (hs : zs.Pairwise (· ≤ ·)) {B : Nat} (hr : Recs 1 cellG w B A zs) :
    Calls Try.prog 32 #[.slice A n c, .int .i64 x] w fun e w' => (∃ k : Int, e = .returned (.tuple #[.int .i64 k, .bool (zs.contains x)])) ∧ Below w.heap.size w w' := by
  subst hn
  rcases hr with hz | ⟨b, o, rfl, hb, hc⟩
  · subst hz
    exact (searchNil x A c w).mono fun e w' ⟨h1, h2⟩ => ⟨⟨0, h1⟩, h2⟩
  · have h := Any.slices_BinarySearch_int Try.laysSearch b o zs.length c zs x w (Nat.le_refl _) (by omega) (fun j hj => by
      have := hc j hj 0 _ rfl
      rw [Nat.mul_one, Nat.add_zero] at this
      rw [← List.getElem_eq_getD (h := hj)]; exact this) (by rw [List.take_length]; exact hs)
    rw [List.take_length] at h
    exact h.mono fun e w' ⟨h1, q, h2⟩ => ⟨⟨_, h1⟩, by rw [h2]; exact below_draws (Below.refl _ _) q⟩

theorem own_emptyP (w : World) (B g : Nat) (e : TypeId) (hg : g = w.heap.size) (hB : B ≤ w.heap.size) : (w.alloc (.cells #[] e)).ownsRow B e 8 (.slice (some ⟨g, 0, none⟩) 0 0) 0 (([] : List PodD).flatMap cellsP) := by
  subst hg
  exact ⟨by simp, .inr ⟨w.heap.size, 0, #[], rfl, hB, heap_alloc_new w _, Nat.le_refl _, by decide, by simp, by simp⟩⟩
theorem slP_some (ad : Addr) (n c : Nat) (w : World) : (binOp .eql 24 (.slice (some ad) n c) (.slice none 0 0)).run Try.prog w = .ok (.bool false) w := by
  simp only [binOp]
  rw [Sem.run_bind, run_equal_slice_nil w 24 38 _ n c (by kernel_rfl)]
  rfl
theorem slP_none (n c : Nat) (w : World) : (binOp .eql 24 (.slice none n c) (.slice none 0 0)).run Try.prog w = .ok (.bool true) w := by
  simp only [binOp]
  rw [Sem.run_bind, run_equal_slice_nil w 24 38 _ n c (by kernel_rfl)]
  rfl
set_option maxHeartbeats 800000 in
set_option maxRecDepth 100000 in
theorem cloneP_any (l : List PodD) (A : Option Addr) (n c : Nat) (w : World) (hn : n = l.length) (hl : n ≤ 1000) (h0 : A = none → c = 0) (hr : Recs 8 cellsP w w.heap.size A l) :
    Calls Try.prog 31 #[.slice A n c] w fun e w' => ∃ A' c', e = .returned (.slice A' n c') ∧ w'.ownsRow w.heap.size 38 8 (.slice A' n c') n (l.flatMap cellsP) ∧ Below w.heap.size w w' := by
  have HR := Lib.hid hr
  have HN := Lib.hid hn
  have H0 := Lib.hid h0
  have hb1 : Below w.heap.size w (w.alloc (.cells #[] 38)) := (Below.refl _ w).alloc (Nat.le_refl _) _
  have HB1 := Lib.hid hb1
  clear hr hn h0 hb1
  rcases A with _ | ad
  · have hnil : l = [] := by
      rcases HR.out with h | ⟨_, _, h, _⟩
      · exact h
      · cases h
    have hn0 : n = 0 := by rw [HN.out, hnil]; rfl
    subst hn0 hnil
    have hq := slP_none 0 c w
    go_enter Try.func31, Try.ntmps31
    go_wp2
    go_ret
    exact ⟨none, 0, rfl, ⟨rfl, .inl ⟨rfl, rfl⟩⟩, Below.refl _ _⟩
  · have hq := slP_some ad n c w
    go_enter Try.func31, Try.ntmps31
    go_wp2_with (at_builtin; refine wpList_recs 24 38 (.agg #[.int .i64 0, .int .i64 0, .int .i64 0, .int .u64 0, .int .u64 0, .int .u64 0, .int .u64 0, .int .i64 0]) 8 64 (by kernel_rfl) infoPod rfl (by decide) (by decide) (cells := cellsP) (fun _ => rfl) onePod rfl (.tmp 5) (.tmp 6) rfl w.heap.size w.heap.size _ 0 n [] l (some ad) c H0.out (own_emptyP w _ _ _ (by rfl) (Nat.le_refl _)) (HR.out.below HB1.out (Nat.le_refl _)) (by simp) (by omega) rfl rfl HN.out ?_; intro v' w' hown hb hB)
    obtain ⟨A', c', rfl, _⟩ := own_form3 hown
    rw [Nat.zero_add] at hown
    go_ret
    exact ⟨A', c', congrArg (fun k => Ending.returned (.slice A' k c')) (Nat.zero_add n), hown, HB1.out.trans hb⟩
end Go.Proofs.Ytedcmchdapfhhaa

/- slices.Grow of nil and slices.Concat, at []int: what they tell is a row of the call's own. -/
namespace Go.Proofs.Ytedcmchdapfhhaa
set_option linter.unusedSimpArgs false
open Go.RowKit
set_option linter.unusedVariables false

/-- What is told is a row of the call's own that holds these. -/
def NumsITo (l : List Int) (w : World) (e : Ending) (w' : World) : Prop := ∃ v, e = .returned v ∧ w'.ownsRow w.heap.size 3 1 v (i64s l).length (i64s l) ∧ Below w.heap.size w w'
def GrowITo (w : World) (e : Ending) (w' : World) : Prop := ∃ v, e = .returned v ∧ w'.ownsRow w.heap.size 3 1 v 0 [] ∧ Below w.heap.size w w'
theorem growI_end (w : World) (n G : Nat) (h : n ≤ G) (hG : G ≤ maxLen) : GrowITo w (.returned (.slice (some ⟨w.heap.size, 0, none⟩) 0 G)) (w.alloc (.cells (Builtin.zeroCells #[Value.int .i64 0] n ++ Builtin.zeroCells #[Value.int .i64 0] (G - n)) 3)).drew := by
  refine ⟨_, rfl, World.ownsRow_made w.drew (Builtin.zeroCells #[Value.int .i64 0] n ++ Builtin.zeroCells #[Value.int .i64 0] (G - n)) G (Nat.le_refl _) hG ?_, ((Below.refl _ w).alloc (Nat.le_refl _) _).drew⟩
  simp [size_zeroCells]
  omega
set_option maxHeartbeats 1600000 in
theorem growI_any (n : Nat) (w : World) (hn : n ≤ 1000000) :
    Calls Try.prog 40 #[.slice none 0 0, .int .i64 (n : Int)] w (GrowITo w) := by
  rcases Nat.eq_zero_or_pos n with h0 | h0
  · subst h0
    go_enter Try.func40, Try.ntmps40
    go_wp2
    go_ret
    exact ⟨_, rfl, World.ownsRow_nil _ _ _ _, Below.refl _ _⟩
  · obtain ⟨i0, hi, hz0, hz1, hz2⟩ := info_parts Try.info3
    have hrz : ∀ ty, (Builtin.append_ #[39, 3] ty #[.slice none 0 0, .int .i64 (n : Int)]).run Try.prog w =
        .ok (.slice (some ⟨w.heap.size, 0, none⟩) n (grownCap w n 0 3)) (w.drew.alloc (.cells (([] : List Value).toArray ++ Builtin.zeroCells (Value.int .i64 0).cells n ++ Builtin.zeroCells (Value.int .i64 0).cells (grownCap w n 0 3 - n)) 3)) := fun ty => by
      have hf : (Builtin.firstCells i0.size 0 (.slice none 0 0)).run Try.prog w.drew = .ok ([] : List Value).toArray w.drew := run_firstCells_none w.drew i0.size 0 0 0
      have h := Lib.run_append_grow_zeros w 39 3 ty 3 i0 (.int .i64 0) .i64 .i64 Try.underlying39 Try.underlying3 hi hz0 none 0 0 [] hf n h0 (by omega) (by omega) (by omega)
        (by rw [hz2]; omega)
        (by rw [hz2]; exact growslice_fits (by omega) (by omega))
      simpa only [Nat.zero_add] using h
    have hge : n ≤ grownCap w n 0 3 := grownCap_ge w _ _ _
    have hm : grownCap w n 0 3 ≤ maxLen := grownCap_le_maxLen w n 0 3 (by unfold maxLen; omega)
    generalize grownCap w n 0 3 = G at *
    have hm' : G ≤ 9223372036854775807 := by unfold maxLen at hm; omega
    have HZ := Lib.hid hrz
    have HM := Lib.hid hm
    clear hrz hi hz0 hz1 hz2 hm
    go_enter Try.func40, Try.ntmps40
    go_wp2_with (at_builtin; refine Lib.wpList_append_run _ rfl _ _ _ _ rfl _ _ rfl rfl _ _ (HZ.out _) ?_)
    all_goals
      go_ret
      exact growI_end w n G hge HM.out

/-- A row of slices of numbers. -/
def PartsI (w : World) (B : Nat) (vs : List Value) (ls : List (List Int)) : Prop :=
  vs.length = ls.length ∧ ∀ i (h : i < ls.length), ∃ A c, vs[i]? = some (.slice A ls[i].length c) ∧ (A = none → c = 0) ∧ Row w B A (i64s ls[i])
theorem PartsI.below {w w' : World} {B B' : Nat} {vs : List Value} {ls : List (List Int)} (h : PartsI w B vs ls) (hb : Below B' w w') (hB : B ≤ B') : PartsI w' B vs ls :=
  ⟨h.1, fun i hi => by obtain ⟨A, c, h1, h2, h3⟩ := h.2 i hi; exact ⟨A, c, h1, h2, h3.below hb hB⟩⟩
theorem PartsI.more {w : World} {B B' : Nat} {vs : List Value} {ls : List (List Int)} (h : PartsI w B vs ls) (hB : B ≤ B') : PartsI w B' vs ls :=
  ⟨h.1, fun i hi => by obtain ⟨A, c, h1, h2, h3⟩ := h.2 i hi; exact ⟨A, c, h1, h2, h3.more hB⟩⟩
theorem PartsI.nil {w : World} {B : Nat} : PartsI w B [] [] := ⟨rfl, fun i h => by simp at h⟩
theorem PartsI.cons {w : World} {B : Nat} {A : Option Addr} {n c : Nat} {l : List Int} {vs : List Value} {ls : List (List Int)} (hn : n = l.length) (hc : A = none → c = 0) (hr : Row w B A (i64s l)) (h : PartsI w B vs ls) : PartsI w B (.slice A n c :: vs) (l :: ls) := by
  subst hn
  refine ⟨by simp [h.1], fun i hi => ?_⟩
  rcases i with _ | i
  · exact ⟨A, c, rfl, hc, hr⟩
  · obtain ⟨A', c', h1, h2, h3⟩ := h.2 i (by simpa using hi)
    exact ⟨A', c', by simpa using h1, h2, h3⟩

theorem flatI_take {ls : List (List Int)} {k : Nat} (hk : k < ls.length) {x : List Int} (hx : ls[k] = x) : (ls.take k).flatten ++ x = (ls.take (k + 1)).flatten := by
  rw [List.take_succ_eq_append_getElem hk, List.flatten_append, hx]; simp
theorem flatI_le {ls : List (List Int)} (k : Nat) : (ls.take k).flatten.length ≤ ls.flatten.length := by
  have : ls.flatten = (ls.take k).flatten ++ (ls.drop k).flatten := by rw [← List.flatten_append, List.take_append_drop]
  rw [this, List.length_append]; omega
def CatILen (ls : List (List Int)) (s i : Value) : Prop := ∃ k : Nat, k ≤ ls.length ∧ i = .int .i64 k ∧ s = .int .i64 ((ls.take k).flatten.length : Nat)
def CatIRel (ls : List (List Int)) (w : World) (v i : Value) (wr : World) : Prop :=
  ∃ k : Nat, k ≤ ls.length ∧ i = .int .i64 k ∧ wr.ownsRow w.heap.size 3 1 v (i64s (ls.take k).flatten).length (i64s (ls.take k).flatten) ∧ Below w.heap.size w wr
theorem ownI_cat {B : Nat} {w1 : World} {v : Value} {xs ys zs : List Int} (h : w1.ownsRow B 3 1 v (i64s xs ++ i64s ys).length (i64s xs ++ i64s ys)) (e : xs ++ ys = zs) : w1.ownsRow B 3 1 v (i64s zs).length (i64s zs) := by
  subst e; simpa using h

set_option maxHeartbeats 3200000 in
theorem concatI_any (ls : List (List Int)) (vs : List Value) (A : Option Addr) (n c : Nat) (w : World) (hn : n = ls.length) (hl : n ≤ 100) (hs : ls.flatten.length ≤ 100000) (hr : Row w w.heap.size A vs) (hp : PartsI w w.heap.size vs ls) :
    Calls Try.prog 25 #[.slice A n c] w (NumsITo ls.flatten w) := by
  have HN := Lib.hid hn
  have HS := Lib.hid hs
  have HR := Lib.hid hr
  have HP := Lib.hid hp
  clear hn hs hr hp
  go_enter Try.func25, Try.ntmps25
  go_wp2
  go_loop [3, 11] (CatILen ls) (fun _ i => n - (intOf i).toNat)
  case atStart => exact ⟨0, by omega, rfl, rfl⟩
  case round =>
    obtain ⟨k, hk, rfl, rfl⟩ := hrel
    by_cases hlt : k < n
    · have hkl : k < ls.length := by have := HN.out; omega
      obtain ⟨A', c', h1, _, _⟩ := HP.out.2 k hkl
      obtain ⟨hkv, h1⟩ := List.getElem?_eq_some_iff.1 h1
      obtain ⟨b, o, rfl, hb, hcell⟩ := HR.out.at hkv
      have hc : w.cell? ⟨b, o + k, none⟩ = some (.slice A' ls[k].length c') := (hcell k hkv).trans (by rw [h1])
      have HE := Lib.hid (congrArg List.length (flatI_take hkl rfl))
      have g1 : (ls.take k).flatten.length + ls[k].length ≤ 100000 := by have := HE.out; have h3 := flatI_le (ls := ls) (k + 1); have h4 := HS.out; simp only [List.length_append] at this; omega
      clear hcell h1
      generalize hq : (ls.take k).flatten.length = q at *
      generalize hr : ls[k].length = r at *
      have HQ := Lib.hid hq
      have HR' := Lib.hid hr
      clear hq hr
      go_wp2
      go_round
      case rel => exact ⟨k + 1, by omega, by go_num, by have := HE.out; have h2 := HQ.out; have h3 := HR'.out; rw [List.length_append] at this; rw [← this, h2, h3]; go_num⟩
      case measure => simp [intOf]; omega
    · have htk : ls.take k = ls := List.take_of_length_le (by have := HN.out; omega)
      have hs' := HS.out
      rw [htk]
      generalize hq : ls.flatten.length = q at *
      have HQ := Lib.hid hq
      clear hq htk
      go_wp2_with fail
      refine (growI_any q w (by omega)).mono ?_
      rintro e w1 ⟨v, rfl, hown1, hb1⟩
      have HB1 := Lib.hid hb1
      have HO1 := Lib.hid hown1
      clear hown1 hb1
      go_wp2
      go_loopw [6, 27] (CatIRel ls w) (fun _ i _ => n - (intOf i).toNat)
      case atStart => exact ⟨0, by omega, rfl, HO1.out, HB1.out⟩
      case round =>
        obtain ⟨k, hk, rfl, hown, hbr⟩ := hrel
        have hz := hbr.size
        by_cases hlt : k < n
        · have hkl : k < ls.length := by have := HN.out; omega
          obtain ⟨A', c', h1, h2, h3⟩ := HP.out.2 k hkl
          obtain ⟨hkv, h1⟩ := List.getElem?_eq_some_iff.1 h1
          obtain ⟨b, o, rfl, hb, hcell⟩ := HR.out.at hkv
          have hc : wr.cell? ⟨b, o + k, none⟩ = some (.slice A' ls[k].length c') := (hbr.cell (p := ⟨b, o + k, none⟩) hb).trans ((hcell k hkv).trans (by rw [h1]))
          have HE := Lib.hid (flatI_take hkl rfl)
          have HG : Hid ((i64s (ls.take k).flatten).length + (i64s ls[k]).length ≤ 2000000) := by
            have := congrArg List.length HE.out; have h3 := flatI_le (ls := ls) (k + 1); have h4 := HS.out; have h5 := HQ.out
            rw [List.length_append] at this
            show _ ≤ _
            simp only [List.length_map]; omega
          have H3 := Lib.hid (h3.below hbr (Nat.le_refl _))
          have H2 := Lib.hid h2
          clear hcell h1 h3 h2
          generalize hl : ls[k] = x at *
          generalize hr : x.length = r at *
          have HR' := Lib.hid hr
          clear hl hr
          go_wp2_with (at_builtin; refine wpList_cat 39 3 (.int .i64 0) 8 Try.underlying39 Try.info3 rfl (by decide) rfl (.tmp 31) (.tmp 32) rfl w.heap.size w.heap.size _ (i64s (ls.take k).flatten) (i64s x) A' c' (one_i64s _) H2.out hown H3.out hz HG.out rfl rfl ((HR'.out.symm).trans (by simp)) ?_; intro v' w2 hown2 hb2 hB2)
          go_roundw
          case rel => exact ⟨k + 1, by omega, by go_num, ownI_cat hown2 HE.out, hbr.trans hb2⟩
          case measure => simp [intOf]; omega
        · have htk : ls.take k = ls := List.take_of_length_le (by have := HN.out; omega)
          rw [htk] at hown
          clear htk
          go_wp2
          go_ret
          exact ⟨_, rfl, hown, hbr⟩
theorem rowG {w : World} {B : Nat} {A : Option Addr} {zs : List Int} (h : Recs 1 cellG w B A zs) : Row w B A (i64s zs) := by
  rcases h with h | ⟨b, o, h1, h2, h3⟩
  · exact .inl (by rw [h]; rfl)
  · exact .inr ⟨b, o, h1, h2, fun j hj => by
      have := h3 j (by simpa using hj) 0 _ rfl
      rw [Nat.mul_one, Nat.add_zero] at this
      rw [List.getElem_map]; exact this⟩
/-- slices.Concat of two slices of ints. -/
theorem concat2_any (xs ys : List Int) (A1 A2 : Option Addr) (n1 c1 n2 c2 g c : Nat) (w : World) (hn1 : n1 = xs.length) (hn2 : n2 = ys.length) (hl1 : n1 ≤ 1000) (hl2 : n2 ≤ 1000) (h01 : A1 = none → c1 = 0) (h02 : A2 = none → c2 = 0) (hg : g < w.heap.size)
    (k0 : w.cell? ⟨g, 0, none⟩ = some (.slice A1 n1 c1)) (k1 : w.cell? ⟨g, 1, none⟩ = some (.slice A2 n2 c2)) (hr1 : Recs 1 cellG w w.heap.size A1 xs) (hr2 : Recs 1 cellG w w.heap.size A2 ys) :
    Calls Try.prog 25 #[.slice (some ⟨g, 0, none⟩) 2 c] w fun e w' => ∃ A c, e = .returned (.slice A (xs ++ ys).length c) ∧ (A = none → c = 0) ∧ w'.ownsRow w.heap.size 3 1 (.slice A (xs ++ ys).length c) (xs ++ ys).length (i64s (xs ++ ys)) ∧ Below w.heap.size w w' := by
  have hf : [xs, ys].flatten = xs ++ ys := by simp
  refine (concatI_any [xs, ys] [.slice A1 n1 c1, .slice A2 n2 c2] (some ⟨g, 0, none⟩) 2 c w rfl (by omega) (by rw [hf, List.length_append]; omega) (.inr ⟨g, 0, rfl, hg, fun j hj => ?_⟩) (PartsI.cons hn1 h01 (rowG hr1) (PartsI.cons hn2 h02 (rowG hr2) PartsI.nil))).mono ?_
  · rw [Nat.zero_add]
    rcases j with _ | _ | j
    · exact k0
    · exact k1
    · simp at hj; omega
  · rintro e w' ⟨v, rfl, ho, hb⟩
    rw [hf, List.length_map] at ho
    obtain ⟨A, c, rfl, p1, p2, p3, _⟩ := recsG rfl ho
    exact ⟨A, c, rfl, p3, ho, hb⟩
end Go.Proofs.Ytedcmchdapfhhaa

/- The program's mayGo, May and Check of layer 10. -/
namespace Go.Proofs.Ytedcmchdapfhhaa
set_option linter.unusedSimpArgs false
open Go.RowKit
set_option linter.unusedVariables false

section
variable {V : World}
theorem Bf.cells8p {b : Nat} {x : PodD} (h : Bf V b (cellsP x)) : (V.cell? ⟨b, 0, none⟩ = some (.int .i64 x.id) ∧ V.cell? ⟨b, 1, none⟩ = some (.int .i64 x.load) ∧ V.cell? ⟨b, 2, none⟩ = some (.int .i64 x.prio) ∧ V.cell? ⟨b, 3, none⟩ = some (.int .u64 x.req.a)) ∧
    V.cell? ⟨b, 4, none⟩ = some (.int .u64 x.req.b) ∧ V.cell? ⟨b, 5, none⟩ = some (.int .u64 x.req.c) ∧ V.cell? ⟨b, 6, none⟩ = some (.int .u64 x.req.d) ∧ V.cell? ⟨b, 7, none⟩ = some (.int .i64 x.node) ∧ b < V.heap.size :=
  ⟨⟨h.cell 0 _ rfl, h.cell 1 _ rfl, h.cell 2 _ rfl, h.cell 3 _ rfl⟩, h.cell 4 _ rfl, h.cell 5 _ rfl, h.cell 6 _ rfl, h.cell 7 _ rfl, h.lt⟩
end
theorem mayGo_any (x y : PodD) (w : World) : Calls Try.prog 20 #[aggP x, aggP y] w fun e w' => e = .returned (.bool (goV x y)) ∧ Below w.heap.size w w' := by
  by_cases h : x.prio < y.prio
  · have HE := Lib.hid (show goV x y = true from decide_eq_true h)
    have hd : decide (x.prio < y.prio) = true := decide_eq_true h
    clear h
    go_enter Try.func20, Try.ntmps20
    go_wp2
    go_ret
    exact ⟨ret_bool HE.out.symm, below_two _ _ _⟩
  · have HE := Lib.hid (show goV x y = false from decide_eq_false h)
    have hd : decide (x.prio < y.prio) = false := decide_eq_false h
    clear h
    go_enter Try.func20, Try.ntmps20
    go_wp2
    go_ret
    exact ⟨ret_bool HE.out.symm, below_two _ _ _⟩
/-- state.Pod, as one answer. -/
theorem podOf_any (l : List PodD) (id : Int) (A : Option Addr) (n c : Nat) (v1 v2 : Value) (w : World) (hn : n = l.length) (hl : n ≤ 1000) (hr : Recs 8 cellsP w w.heap.size A l) :
    Calls Try.prog 15 #[.agg #[.slice A n c, v1, v2], .int .i64 id] w fun e w' => e = .returned (.tuple #[aggP (podZ id l), .bool (hasP id l)]) ∧ Below w.heap.size w w' :=
  (statePod_any l id A n c v1 v2 w hn hl hr).mono fun e w' ⟨h, hb⟩ => by
    rcases h with ⟨hp, rfl⟩ | ⟨i, hi, hp, rfl⟩
    · rw [podZ_none hp, has_none hp]; exact ⟨rfl, hb⟩
    · rw [podZ_some hi hp, has_some hp]; exact ⟨rfl, hb⟩

set_option maxHeartbeats 3200000 in
set_option maxRecDepth 100000 in
theorem priorMay_any (l : List PodD) (a b : Int) (A : Option Addr) (n c : Nat) (v1 v2 : Value) (w : World) (hn : n = l.length) (hl : n ≤ 1000) (hr : Recs 8 cellsP w w.heap.size A l) :
    Calls Try.prog 8 #[.agg #[.slice A n c, v1, v2], .int .i64 a, .int .i64 b] w fun e w' => e = .returned (.bool (mayD a b l)) ∧ Below w.heap.size w w' := by
  have B0 : Bf (w.alloc (.cells #[.slice A n c, v1, v2] 31)) w.heap.size [.slice A n c, v1, v2] := Bf.new w [.slice A n c, v1, v2] 31 rfl
  have k0 : Below w.heap.size w (w.alloc (.cells #[.slice A n c, v1, v2] 31)) := (Below.refl _ _).alloc (Nat.le_refl _) _
  have HC := Lib.hid (fun (id : Int) (V : World) (hV : Below w.heap.size w V) => podOf_any l id A n c v1 v2 V hn hl ((hr.below hV (Nat.le_refl _)).more hV.size))
  have HC1 := Lib.hid (HC.out a _ k0)
  have HC2 := Lib.hid (fun V hV => HC.out b V hV)
  have HE := Lib.hid (show mayD a b l = ((hasP a l && hasP b l) && goV (podZ b l) (podZ a l)) from rfl)
  clear hn hr HC
  generalize mayD a b l = r at *
  generalize podZ a l = x at *
  generalize podZ b l = y at *
  generalize hasP a l = s at *
  generalize hasP b l = t at *
  go_enter Try.func8, Try.ntmps8
  go_wp2_with fail
  refine HC1.out.mono ?_
  rintro e w1 ⟨rfl, hb1⟩
  have k1 := k0.trans (hb1.mono k0.size)
  have B1 := B0.below hb1 B0.lt
  obtain ⟨a0, a1, a2, a3⟩ := B1.cells3
  have X1 : Bf (w1.alloc (.cells #[.int .i64 x.id, .int .i64 x.load, .int .i64 x.prio, .int .u64 x.req.a, .int .u64 x.req.b, .int .u64 x.req.c, .int .u64 x.req.d, .int .i64 x.node] 38)) w1.heap.size (cellsP x) := Bf.new w1 (cellsP x) 38 rfl
  have k1a : Below w.heap.size w (w1.alloc (.cells #[.int .i64 x.id, .int .i64 x.load, .int .i64 x.prio, .int .u64 x.req.a, .int .u64 x.req.b, .int .u64 x.req.c, .int .u64 x.req.d, .int .i64 x.node] 38)) := k1.alloc k1.size _
  have HC3 := Lib.hid (HC2.out _ k1a)
  clear hb1 B0 k0
  go_wp2_with fail
  refine HC3.out.mono ?_
  rintro e w2 ⟨rfl, hb2⟩
  have k2 := k1a.trans (hb2.mono k1a.size)
  obtain ⟨⟨x0, x1, x2, x3⟩, x4, x5, x6, x7, x8⟩ := (X1.below hb2 X1.lt).cells8p
  have hne : w1.heap.size ≠ w2.heap.size := by omega
  clear hb2 a0 a1 a2 a3 B1 X1
  have k3 : Below w.heap.size w (w2.alloc (.cells #[.int .i64 y.id, .int .i64 y.load, .int .i64 y.prio, .int .u64 y.req.a, .int .u64 y.req.b, .int .u64 y.req.c, .int .u64 y.req.d, .int .i64 y.node] 38)) := k2.alloc k2.size _
  cases s with
  | false =>
    go_wp2
    go_ret
    exact ⟨ret_bool (by rw [HE.out]; rfl), k3⟩
  | true =>
    cases t with
    | false =>
      go_wp2
      go_ret
      exact ⟨ret_bool (by rw [HE.out]; rfl), k3⟩
    | true =>
      go_wp2_with fail
      refine (mayGo_any y x _).mono ?_
      rintro e w3 ⟨rfl, hb3⟩
      go_wp2
      go_ret
      exact ⟨ret_bool (by rw [HE.out]; rfl), k3.trans (hb3.mono k3.size)⟩

end Go.Proofs.Ytedcmchdapfhhaa

namespace Go.Proofs.Ytedcmchdapfhhaa
set_option linter.unusedSimpArgs false
open Go.RowKit
set_option linter.unusedVariables false

theorem orInt_any (a b : Int) (g : Nat) (w : World) (h0 : w.cell? ⟨g, 0, none⟩ = some (.int .i64 a)) (h1 : w.cell? ⟨g, 1, none⟩ = some (.int .i64 b)) :
    Calls Try.prog 38 #[.slice (some ⟨g, 0, none⟩) 2 2] w fun e w' => e = .returned (.int .i64 (orI a b)) ∧ w = w' := by
  by_cases ha : a = 0
  · subst ha
    by_cases hb : b = 0
    · subst hb
      go_enter Try.func38, Try.ntmps38
      go_wp2
      refine wp_loop_rounds 3 ?_
      rw [rounds_succ]
      go_wp2
      rw [rounds_succ]
      go_wp2
      rw [rounds_succ]
      go_wp2
      go_ret
      exact ⟨rfl, rfl⟩
    · have hm : (b != 0) = true := by simpa using hb
      have HE := Lib.hid (show orI 0 b = b from rfl)
      clear hb
      go_enter Try.func38, Try.ntmps38
      go_wp2
      refine wp_loop_rounds 3 ?_
      rw [rounds_succ]
      go_wp2
      rw [rounds_succ]
      go_wp2
      go_ret
      exact ⟨ret_int HE.out.symm, rfl⟩
  · have hm : (a != 0) = true := by simpa using ha
    have HE := Lib.hid (show orI a b = a by simp [orI, ha])
    clear ha
    go_enter Try.func38, Try.ntmps38
    go_wp2
    refine wp_loop_rounds 3 ?_
    rw [rounds_succ]
    go_wp2
    go_ret
    exact ⟨ret_int HE.out.symm, rfl⟩
theorem ordV_is (x y : PodD) : ordV x y = orI (cmpI x.prio y.prio) (cmpI x.id y.id) := by
  unfold ordV orI cmpI
  by_cases h1 : x.prio < y.prio
  · simp [h1]
  · by_cases h2 : y.prio < x.prio
    · simp [h1, h2]
    · simp [h1, h2]

/-- More of the tape is drawn, and there are new blocks: nothing else. -/
def Grew (W v : World) : Prop := ∃ q os, v = Sort.grow (W.drewN q) os
/-- What a region of loads and calls leaves. -/
def GrewK (W v : World) : Prop := (∀ b o, b < W.heap.size → v.cell? ⟨b, o, none⟩ = W.cell? ⟨b, o, none⟩) ∧ Grew W v
theorem Grew.refl (W : World) : Grew W W := ⟨0, #[], by rw [Sort.grow_empty]; rfl⟩
theorem Grew.trans {W v u : World} (h : Grew W v) (k : Grew v u) : Grew W u := by
  obtain ⟨q, os, rfl⟩ := h
  obtain ⟨q', os', rfl⟩ := k
  refine ⟨q + q', os ++ os', ?_⟩
  rw [← Sort.grow_grow]
  show Sort.grow (Sort.grow ((W.drewN q).drewN q') os) os' = _
  rw [show (W.drewN q).drewN q' = W.drewN (q + q') by simp [World.drewN, Nat.add_assoc]]
theorem Grew.drew (W : World) : Grew W W.drew := ⟨1, #[], by rw [Sort.grow_empty]; rfl⟩
theorem Grew.alloc (W : World) (o : Obj) : Grew W (W.alloc o) := ⟨0, #[o], by rw [Sort.alloc_eq_grow]; rfl⟩
theorem Grew.cells {W v : World} (h : Grew W v) : GrewK W v := by
  refine ⟨fun b o hb => ?_, h⟩
  obtain ⟨q, os, rfl⟩ := h
  exact Sort.cell?_grow (W.drewN q) os ⟨b, o, none⟩ hb
theorem GrewK.drew {W v : World} (h : GrewK W v) : GrewK W v.drew := (h.2.trans (Grew.drew v)).cells
theorem GrewK.alloc {W v : World} (h : GrewK W v) (o : Obj) : GrewK W (v.alloc o) := (h.2.trans (Grew.alloc v o)).cells

set_option maxHeartbeats 3200000 in
set_option maxRecDepth 100000 in
theorem inOrder_any (x y : PodD) (w : World) : Calls Try.prog 23 #[aggP x, aggP y] w fun e w' => e = .returned (.int .i64 (ordV x y)) ∧ Grew w w' := by
  have HE := Lib.hid (ordV_is x y)
  have H1 := Lib.hid (fun W => compare_any x.prio y.prio W)
  have H2 := Lib.hid (fun W => compare_any x.id y.id W)
  generalize ordV x y = z at *
  generalize hp : cmpI x.prio y.prio = p at *
  generalize hq : cmpI x.id y.id = q at *
  clear hp hq
  go_enter Try.func23, Try.ntmps23
  go_upto_region 1 with fail
  generalize hW : ((w.alloc (.cells #[.int .i64 x.id, .int .i64 x.load, .int .i64 x.prio, .int .u64 x.req.a, .int .u64 x.req.b, .int .u64 x.req.c, .int .u64 x.req.d, .int .i64 x.node] 38)).alloc (.cells #[.int .i64 y.id, .int .i64 y.load, .int .i64 y.prio, .int .u64 y.req.a, .int .u64 y.req.b, .int .u64 y.req.c, .int .u64 y.req.d, .int .i64 y.node] 38)) = W at *
  have HK : Hid (Grew w W) := by show Grew w W; rw [← hW]; exact (Grew.alloc _ _).trans (Grew.alloc _ _)
  have hz1 : w.heap.size < W.heap.size := by rw [← hW]; simp; omega
  have hz2 : w.heap.size + 1 < W.heap.size := by rw [← hW]; simp
  have x0 : W.cell? ⟨w.heap.size, 0, none⟩ = some (.int .i64 x.id) := by rw [← hW]; simp
  have x2 : W.cell? ⟨w.heap.size, 2, none⟩ = some (.int .i64 x.prio) := by rw [← hW]; simp
  have y0 : W.cell? ⟨w.heap.size + 1, 0, none⟩ = some (.int .i64 y.id) := by rw [← hW]; simp
  have y2 : W.cell? ⟨w.heap.size + 1, 2, none⟩ = some (.int .i64 y.prio) := by rw [← hW]; simp
  clear hW
  go_region_held3 (fun w' => (∀ b o, b < W.heap.size → w'.cell? ⟨b, o, none⟩ = W.cell? ⟨b, o, none⟩) ∧ Grew W w')
    (first | (with_reducible assumption) | exact (Grew.refl _).cells | exact (Grew.drew _).cells | exact GrewK.drew (by assumption) | exact GrewK.alloc (by assumption) _)
    (first
      | (go_at_call 39; first
          | ((with_reducible refine (H1.out _).mono ?_); rintro e w' ⟨rfl, rfl⟩)
          | ((with_reducible refine (H2.out _).mono ?_); rintro e w' ⟨rfl, rfl⟩))
      | (go_at_call 38; refine (orInt_any p q _ _ (by simp) (by simp)).mono ?_; rintro e w' ⟨rfl, rfl⟩))
  go_wp2
  go_ret
  exact ⟨ret_int HE.out.symm, HK.out.trans (by assumption : GrewK W _).2⟩
end Go.Proofs.Ytedcmchdapfhhaa
