/- Joined texts, part 4: WU UJ WR EC WS WB WC FD EPG FB. -/
import Derived.Test.YtffdemagdagmpaaZ02
import Derived.Test.YtffdemagdagmpaaZ03
import Derived.Deep.CutRange
import Derived.Test.YtffdemagdagmpaaZ01
import Derived.Shelf.SlSortCmp.Small
import Derived.Test.YtffdemagdagmpaaProg

/- The use of a node: the program's and the reference's. -/
namespace Go.Proofs.Ytffdemagdagmpaa
set_option linter.unusedSimpArgs false
open Go.RowKit
set_option linter.unusedVariables false

theorem infoVec : (Try.prog.info? 31).map (fun i => (i.zero, i.size, i.bytes)) = some (some (.agg #[.int .u64 0, .int .u64 0, .int .u64 0, .int .u64 0]), 4, 32) := by kernel_rfl
theorem underVecs : Try.prog.underlying 77 = some (.slice 31) := by kernel_rfl
theorem oneVec (x : V4) : ∀ u ∈ cellsV x, u.oneCell' = true := by
  intro u hu; simp only [cellsV, List.mem_cons, List.not_mem_nil, or_false] at hu
  rcases hu with rfl | rfl | rfl | rfl <;> rfl
theorem lenVec (x : V4) : (cellsV x).length = 4 := rfl
section
variable {ops : Array Oper} {rest : List Oper} {o : Oper} {a : Act} {Q : Exit → Act → World → Prop} {wr : World}
/-- append of one record of a literal to a row of the call's own. -/
theorem wpList_pushR (t e : TypeId) (z : Value) (size bytes : Nat) (ht : Try.prog.underlying t = some (.slice e)) (hinfo : (Try.prog.info? e).map (fun i => (i.zero, i.size, i.bytes)) = some (some z, size, bytes)) (hz : z.cells.size = size) (hsz : 0 < size) (hby : bytes ≤ 1000)
    (hgd : o.guard = none) (s x : Operand) (ho : o.op = .call { callee := .builtin .append, args := #[s, x], argTypes := #[t, t] })
    (B : Nat) (v : Value) (n : Nat) (xs cs : List Value) (hcs : cs.length = size) (hu : ∀ u ∈ cs, u.oneCell' = true) (hown : wr.ownsRow B e size v n xs) (hB : B ≤ wr.heap.size) (hl : n ≤ 2000000)
    (hs : a.eval s = v) (hx : a.eval x = .slice (some ⟨wr.heap.size, 0, none⟩) 1 1)
    (h : ∀ v' w', w'.ownsRow B e size v' (n + 1) (xs ++ cs) → Below B wr w' → B ≤ w'.heap.size → wpList Try.prog ops Q rest (a.put o.dst v') w') :
    wpList Try.prog ops Q (o :: rest) a (wr.alloc (.cells cs.toArray e)) := by
  obtain ⟨i0, hi, hz0, hz1, hz2⟩ : ∃ i, Try.prog.info? e = some i ∧ i.zero = some z ∧ i.size = size ∧ i.bytes = bytes := by
    cases hi : Try.prog.info? e with
    | none => rw [hi] at hinfo; cases hinfo
    | some i =>
      rw [hi] at hinfo
      have h := Option.some.inj hinfo
      simp only [Prod.mk.injEq] at h
      exact ⟨i, rfl, h.1, h.2.1, h.2.2⟩
  refine wpList_append_own _ hgd s x t ho B e i0 z size bytes ht hi hz0 hz1 hz2 hz hsz v n xs hs (hown.alloc _) ⟨wr.heap.size, 0, none⟩ 1 1 cs hx (by omega) ?_ hu ?_ ?_ ?_ ?_
  · intro j y hy
    have := cell_of_row (wr.alloc (.cells cs.toArray e)) wr.heap.size j cs.toArray e (0, 0) (heap_alloc_new wr _)
    rw [Addr.add_lit, Nat.zero_add, this]
    simpa using hy
  · unfold maxLen; omega
  · have : (n + 1) * bytes ≤ (n + 1) * 1000 := Nat.mul_le_mul_left _ hby
    omega
  · simp; omega
  · intro v' w' h1 h2 _
    exact h v' w' h1 (((Below.refl B wr).alloc hB _).grown h2 (by simp; omega) (fun j hj => (hown.lt j hj).1)) (by have := h2.size; simp at this; omega)
end
theorem two_head (w : World) (v0 v1 v2 : Value) (t t' : TypeId) : Row4 ((w.alloc (.cells #[v0, v1, v2] t)).alloc (.cells #[.int .u64 0, .int .u64 0, .int .u64 0, .int .u64 0] t')) (w.heap.size + 1) (.int .u64 0) (.int .u64 0) (.int .u64 0) (.int .u64 0) :=
  ⟨by simp, by simp, by simp, by simp, by simp, by simp, by simp, by simp⟩
theorem own_reqs {B m : Nat} {e : TypeId} {w1 : World} {v : Value} {xs ys : List V4} {x : V4} (hm : m = xs.length) (h : w1.ownsRow B e 4 v (m + 1) (xs.flatMap cellsV ++ cellsV x)) (he : ys = xs ++ [x]) : w1.ownsRow B e 4 v (m + 1) (ys.flatMap cellsV) ∧ m + 1 = ys.length := by
  subst he hm; simpa using h

def UseRel (l : List PodD) (node : Int) (W : World) (B : Nat) (v i : Value) (wr : World) : Prop :=
  ∃ k m : Nat, k ≤ l.length ∧ i = .int .i64 k ∧ m = (reqsAt node (l.take k)).length ∧ wr.ownsRow B 31 4 v m ((reqsAt node (l.take k)).flatMap cellsV) ∧ Below B W wr
theorem makeVecs (w : World) : (Instr.makeSlice 77 (.int .i64 0) (.int .i64 12)).run Try.prog w = .ok (.slice (some ⟨w.heap.size, 0, none⟩) 0 12) (w.alloc (.cells (Array.replicate 48 (Value.int .u64 0)) 31)) := by kernel_rfl
set_option maxHeartbeats 3200000 in
set_option maxRecDepth 100000 in
theorem roomUse_walk (l : List PodD) (node : Int) (ho : ∀ p ∈ l, p.Ok) (A : Option Addr) (n c : Nat) (v1 v2 z e8 : Value) (w : World) (hn : n = l.length) (hl : n ≤ 400) (hr : Recs 8 cellsP w w.heap.size A l)
    (hsum : ∀ (A' : Option Addr) (n' c' : Nat) (w' : World), n' = (reqsAt node l).length → n' ≤ 500 → Recs 4 cellsV w' w'.heap.size A' (reqsAt node l) →
      Calls Try.prog 34 #[.slice A' n' c'] w' fun e w'' => ∃ u : V4, z = aggV u ∧ e = .returned (.tuple #[aggV u, e8]) ∧ Below w'.heap.size w' w'') :
    Calls Try.prog 25 #[.agg #[.slice A n c, v1, v2], .int .i64 node] w fun e w' => e = .returned (.tuple #[z, e8]) ∧ Below w.heap.size w w' := by
  have HR := Lib.hid hr
  have HN := Lib.hid hn
  have HS := Lib.hid hsum
  have b00 := below_two w (.cells #[.slice A n c, v1, v2] 28) (.cells #[.int .u64 0, .int .u64 0, .int .u64 0, .int .u64 0] 31)
  have hmk := makeVecs
  have HT := Lib.hid (two_head w (.slice A n c) v1 v2 28 31)
  have HM := Lib.hid (World.ownsRow_made (base := w.heap.size + 2) (e := 31) (size := 4) ((w.alloc (.cells #[.slice A n c, v1, v2] 28)).alloc (.cells #[.int .u64 0, .int .u64 0, .int .u64 0, .int .u64 0] 31)) (Array.replicate 48 (Value.int .u64 0)) 12 (by simp) (by decide) (by simp))
  clear hr hn hsum ho
  go_enter Try.func25, Try.ntmps25
  go_wp2
  go_loopw [6, 13] (UseRel l node ((w.alloc (.cells #[.slice A n c, v1, v2] 28)).alloc (.cells #[.int .u64 0, .int .u64 0, .int .u64 0, .int .u64 0] 31)) (w.heap.size + 2)) (fun _ i _ => n - (intOf i).toNat)
  case atStart => exact ⟨0, 0, by omega, rfl, rfl, by simpa [reqsAt] using HM.out, (Below.refl _ _).alloc (by simp) _⟩
  case round =>
    obtain ⟨k, m, hk, rfl, hm, hown, hbr⟩ := hrel
    have HMM := Lib.hid hm
    have HOW := Lib.hid hown
    have hz := hbr.size
    have hz2 : w.heap.size + 2 ≤ wr.heap.size := by simpa using hz
    have kwr := b00.trans (hbr.mono (by omega))
    clear hm hown hz hmk
    by_cases hlt : k < n
    · have hkl : k < l.length := by have := HN.out; omega
      obtain ⟨b, o, rfl, hb, he⟩ := HR.out.at hkl
      generalize hx : l[k] = y at *
      have HXX := Lib.hid (reqs_take (node := node) hkl hx)
      clear hx
      have e0 : wr.cell? ⟨b, o + k * 8, none⟩ = some (.int .i64 y.id) := (kwr.cell (p := ⟨b, o + k * 8, none⟩) hb).trans (he 0 _ rfl)
      have e1 : wr.cell? ⟨b, o + k * 8 + 1, none⟩ = some (.int .i64 y.load) := (kwr.cell (p := ⟨b, o + k * 8 + 1, none⟩) hb).trans (he 1 _ rfl)
      have e2 : wr.cell? ⟨b, o + k * 8 + 2, none⟩ = some (.int .i64 y.prio) := (kwr.cell (p := ⟨b, o + k * 8 + 2, none⟩) hb).trans (he 2 _ rfl)
      have e3 : wr.cell? ⟨b, o + k * 8 + 3, none⟩ = some (.int .u64 y.req.a) := (kwr.cell (p := ⟨b, o + k * 8 + 3, none⟩) hb).trans (he 3 _ rfl)
      have e4 : wr.cell? ⟨b, o + k * 8 + 4, none⟩ = some (.int .u64 y.req.b) := (kwr.cell (p := ⟨b, o + k * 8 + 4, none⟩) hb).trans (he 4 _ rfl)
      have e5 : wr.cell? ⟨b, o + k * 8 + 5, none⟩ = some (.int .u64 y.req.c) := (kwr.cell (p := ⟨b, o + k * 8 + 5, none⟩) hb).trans (he 5 _ rfl)
      have e6 : wr.cell? ⟨b, o + k * 8 + 6, none⟩ = some (.int .u64 y.req.d) := (kwr.cell (p := ⟨b, o + k * 8 + 6, none⟩) hb).trans (he 6 _ rfl)
      have e7 : wr.cell? ⟨b, o + k * 8 + 7, none⟩ = some (.int .i64 y.node) := (kwr.cell (p := ⟨b, o + k * 8 + 7, none⟩) hb).trans (he 7 _ rfl)
      have hbw : b < wr.heap.size := by omega
      have HL : Hid (m ≤ 2000000) := by
        have h1 := reqs_len node (l.take k)
        have h2 := HMM.out
        have h3 := List.length_take_le k l
        have h4 := HN.out
        show _ ≤ _
        rw [List.length_take] at h1
        omega
      clear he
      by_cases hy : y.node = node
      · have hd : (y.node == node) = true := by simp [hy]
        have HE := Lib.hid (HXX.out.1 hy)
        have d3 : (wr.alloc (.cells #[.int .i64 y.id, .int .i64 y.load, .int .i64 y.prio, .int .u64 y.req.a, .int .u64 y.req.b, .int .u64 y.req.c, .int .u64 y.req.d, .int .i64 y.node] 79)).cell? ⟨wr.heap.size, 3, none⟩ = some (.int .u64 y.req.a) := by simp
        have d4 : (wr.alloc (.cells #[.int .i64 y.id, .int .i64 y.load, .int .i64 y.prio, .int .u64 y.req.a, .int .u64 y.req.b, .int .u64 y.req.c, .int .u64 y.req.d, .int .i64 y.node] 79)).cell? ⟨wr.heap.size, 4, none⟩ = some (.int .u64 y.req.b) := by simp
        have d5 : (wr.alloc (.cells #[.int .i64 y.id, .int .i64 y.load, .int .i64 y.prio, .int .u64 y.req.a, .int .u64 y.req.b, .int .u64 y.req.c, .int .u64 y.req.d, .int .i64 y.node] 79)).cell? ⟨wr.heap.size, 5, none⟩ = some (.int .u64 y.req.c) := by simp
        have d6 : (wr.alloc (.cells #[.int .i64 y.id, .int .i64 y.load, .int .i64 y.prio, .int .u64 y.req.a, .int .u64 y.req.b, .int .u64 y.req.c, .int .u64 y.req.d, .int .i64 y.node] 79)).cell? ⟨wr.heap.size, 6, none⟩ = some (.int .u64 y.req.d) := by simp
        have d7 : (wr.alloc (.cells #[.int .i64 y.id, .int .i64 y.load, .int .i64 y.prio, .int .u64 y.req.a, .int .u64 y.req.b, .int .u64 y.req.c, .int .u64 y.req.d, .int .i64 y.node] 79)).cell? ⟨wr.heap.size, 7, none⟩ = some (.int .i64 y.node) := by simp
        have hbl : wr.heap.size < (wr.alloc (.cells #[.int .i64 y.id, .int .i64 y.load, .int .i64 y.prio, .int .u64 y.req.a, .int .u64 y.req.b, .int .u64 y.req.c, .int .u64 y.req.d, .int .i64 y.node] 79)).heap.size := by simp
        have HOWN := Lib.hid (HOW.out.alloc (.cells #[.int .i64 y.id, .int .i64 y.load, .int .i64 y.prio, .int .u64 y.req.a, .int .u64 y.req.b, .int .u64 y.req.c, .int .u64 y.req.d, .int .i64 y.node] 79))
        have HBW := Lib.hid (hbr.alloc (by omega) (.cells #[.int .i64 y.id, .int .i64 y.load, .int .i64 y.prio, .int .u64 y.req.a, .int .u64 y.req.b, .int .u64 y.req.c, .int .u64 y.req.d, .int .i64 y.node] 79))
        clear hy
        go_upto_region 6 with fail
        generalize (wr.alloc (.cells #[.int .i64 y.id, .int .i64 y.load, .int .i64 y.prio, .int .u64 y.req.a, .int .u64 y.req.b, .int .u64 y.req.c, .int .u64 y.req.d, .int .i64 y.node] 79)) = W at *
        have HZW : Hid (w.heap.size + 2 ≤ W.heap.size) := by have h1 := hbl; show _ ≤ _; omega
        go_wp2_with (at_builtin; refine wpList_pushR 77 31 (.agg #[.int .u64 0, .int .u64 0, .int .u64 0, .int .u64 0]) 4 32 underVecs infoVec rfl (by decide) (by decide) rfl (.tmp 21) (.tmp 24) rfl (w.heap.size + 2) _ m _ (cellsV y.req) rfl (oneVec _) HOWN.out HZW.out HL.out rfl rfl ?_; intro v' w2 hown2 hb2 hB2)
        have HO2 := Lib.hid (own_reqs HMM.out hown2 HE.out)
        clear hown2
        go_wp2
        go_roundw
        case rel => exact ⟨k + 1, m + 1, by omega, by go_num, HO2.out.2, (by have h := HO2.out.1; exact h), HBW.out.trans hb2⟩
        case measure => simp [intOf]; omega
      · have hd : (y.node == node) = false := by simp [hy]
        have HE := Lib.hid (HXX.out.2 hy)
        clear hy
        go_wp2
        go_roundw
        case rel => exact ⟨k + 1, m, by omega, by go_num, by rw [HE.out]; exact HMM.out, by rw [HE.out]; exact HOW.out.alloc _, hbr.alloc (by omega) _⟩
        case measure => simp [intOf]; omega
    · have htk : l.take k = l := List.take_of_length_le (by have := HN.out; omega)
      have hm' := HMM.out
      have how := HOW.out
      rw [htk] at hm' how
      obtain ⟨A', c', rfl, hc1, hc2, hc3, hrec⟩ := recs_of_own lenVec hm' how
      have HRE := Lib.hid hrec
      have HMM' := Lib.hid hm'
      have HLL : Hid (m ≤ 500) := by
        have h1 := reqs_len node l
        have h4 := HN.out
        have h5 := HMM'.out
        show _ ≤ _
        omega
      have hr4 := HT.out.below hbr (by simp)
      obtain ⟨g0, g1, g2, g3, f0, f1, f2, f3⟩ := hr4
      have hwl : w.heap.size + 1 < wr.heap.size := by omega
      clear how hm' htk hrec
      go_wp2_with fail
      refine (HS.out A' m c' _ HMM'.out HLL.out HRE.out).mono ?_
      rintro e w1 ⟨u, hu, rfl, hb1⟩
      have HU := Lib.hid hu
      clear hu
      have g0 : w1.cell? ⟨w.heap.size + 1, 0, none⟩ = some (.int .u64 0) := (hb1.cell (p := ⟨w.heap.size + 1, 0, none⟩) hwl).trans g0
      have g1 : w1.cell? ⟨w.heap.size + 1, 1, none⟩ = some (.int .u64 0) := (hb1.cell (p := ⟨w.heap.size + 1, 1, none⟩) hwl).trans g1
      have g2 : w1.cell? ⟨w.heap.size + 1, 2, none⟩ = some (.int .u64 0) := (hb1.cell (p := ⟨w.heap.size + 1, 2, none⟩) hwl).trans g2
      have g3 : w1.cell? ⟨w.heap.size + 1, 3, none⟩ = some (.int .u64 0) := (hb1.cell (p := ⟨w.heap.size + 1, 3, none⟩) hwl).trans g3
      have f0 : w1.frozen? ⟨w.heap.size + 1, 0, none⟩ = false := (hb1.frozen (p := ⟨w.heap.size + 1, 0, none⟩) hwl).trans f0
      have f1 : w1.frozen? ⟨w.heap.size + 1, 1, none⟩ = false := (hb1.frozen (p := ⟨w.heap.size + 1, 1, none⟩) hwl).trans f1
      have f2 : w1.frozen? ⟨w.heap.size + 1, 2, none⟩ = false := (hb1.frozen (p := ⟨w.heap.size + 1, 2, none⟩) hwl).trans f2
      have f3 : w1.frozen? ⟨w.heap.size + 1, 3, none⟩ = false := (hb1.frozen (p := ⟨w.heap.size + 1, 3, none⟩) hwl).trans f3
      have kw1 : Below w.heap.size w w1 := kwr.trans (hb1.mono (by omega))
      go_wp2
      refine bodyPost_ret (v := .tuple #[aggV u, e8]) ?_ rfl ?_
      · simp [results, Try.results25, go_sem, *]
      · refine ⟨by rw [HU.out], ?_⟩
        repeat (first | with_reducible exact kw1 | with_reducible refine Below.setCell ?_ ?_ _)
        all_goals (show w.heap.size ≤ w.heap.size + 1; omega)
theorem roomUse_some {l : List PodD} {node : Int} {u : V4} (ho : ∀ p ∈ l, p.Ok) (h : useD l node = some u) (A : Option Addr) (n c : Nat) (v1 v2 : Value) (w : World) (hn : n = l.length) (hl : n ≤ 400) (hr : Recs 8 cellsP w w.heap.size A l) :
    Calls Try.prog 25 #[.agg #[.slice A n c, v1, v2], .int .i64 node] w fun e w' => e = .returned (.tuple #[aggV u, .nilIface]) ∧ Below w.heap.size w w' :=
  roomUse_walk l node ho A n c v1 v2 (aggV u) .nilIface w hn hl hr fun A' n' c' w' h1 h2 h3 => (vSum_some (reqs_ok ho) h A' n' c' w' h1 h2 h3).mono fun e w'' ⟨he, hb⟩ => ⟨u, rfl, he, hb⟩
theorem roomUse_none {l : List PodD} {node : Int} (ho : ∀ p ∈ l, p.Ok) (h : useD l node = none) (A : Option Addr) (n c : Nat) (v1 v2 : Value) (w : World) (hn : n = l.length) (hl : n ≤ 400) (hr : Recs 8 cellsP w w.heap.size A l) :
    Calls Try.prog 25 #[.agg #[.slice A n c, v1, v2], .int .i64 node] w fun e w' => e = .returned (.tuple #[zeroV, .iface 65 (.int .i64 8)]) ∧ Below w.heap.size w w' :=
  roomUse_walk l node ho A n c v1 v2 zeroV _ w hn hl hr fun A' n' c' w' h1 h2 h3 => (vSum_none (reqs_ok ho) h A' n' c' w' h1 h2 h3).mono fun e w'' ⟨he, hb⟩ => ⟨.zer, rfl, he, hb⟩
end Go.Proofs.Ytffdemagdagmpaa

/- What a move comes to: the program's Make of layer 5. -/
namespace Go.Proofs.Ytffdemagdagmpaa
set_option linter.unusedSimpArgs false
open Go.RowKit
set_option linter.unusedVariables false

def codeV (c : Int) : Value := if c = 0 then .nilIface else .iface 65 (.int .i64 c)
/-- What stands while Make is at work. -/
structure Mk (snap spec state move : List Value) (w V : World) : Prop where
  snap : Bf V w.heap.size snap
  spec : Bf V (w.heap.size + 1) spec
  state : Bf V (w.heap.size + 2) state
  move : Bf V (w.heap.size + 3) move
  res : Bf V (w.heap.size + 4) [.slice none 0 0, .int .i64 0, .int .i64 0]
  below : Below w.heap.size w V
section
variable {a b c d : List Value} {w V V' : World}
theorem Mk.keep (h : Mk a b c d w V) (hb : Below V.heap.size V V') : Mk a b c d w V' :=
  ⟨h.snap.below hb h.snap.lt, h.spec.below hb h.spec.lt, h.state.below hb h.state.lt, h.move.below hb h.move.lt, h.res.below hb h.res.lt, h.below.trans (hb.mono h.below.size)⟩
theorem Mk.new (w : World) (a b c d : List Value) (t1 t2 t3 t4 t5 : TypeId) : Mk a b c d w (((((w.alloc (.cells a.toArray t1)).alloc (.cells b.toArray t2)).alloc (.cells c.toArray t3)).alloc (.cells d.toArray t4)).alloc (.cells #[.slice none 0 0, .int .i64 0, .int .i64 0] t5)) :=
  ⟨((((Bf.new w a t1 rfl).alloc _).alloc _).alloc _).alloc _, (((Bf.new (w.alloc (.cells a.toArray t1)) b t2 (b := w.heap.size + 1) (by simp)).alloc _).alloc _).alloc _,
    ((Bf.new ((w.alloc (.cells a.toArray t1)).alloc (.cells b.toArray t2)) c t3 (b := w.heap.size + 2) (by simp)).alloc _).alloc _, (Bf.new (((w.alloc (.cells a.toArray t1)).alloc (.cells b.toArray t2)).alloc (.cells c.toArray t3)) d t4 (b := w.heap.size + 3) (by simp)).alloc _,
    Bf.new ((((w.alloc (.cells a.toArray t1)).alloc (.cells b.toArray t2)).alloc (.cells c.toArray t3)).alloc (.cells d.toArray t4)) [.slice none 0 0, .int .i64 0, .int .i64 0] t5 (b := w.heap.size + 4) (by simp),
    (below_four w _ _ _ _).alloc (by simp; omega) _⟩
end
theorem Out.set {l : List PodD} {w : World} {A : Option Addr} {c : Nat} (h : Out 8 cellsP w l A c) {p : Addr} (hp : ∀ a, A = some a → a.block ≠ p.block) (v : Value) : Out 8 cellsP (w.setCell p v) l A c := by
  refine ⟨h.1, h.2.1, h.2.2.1, ?_⟩
  rcases h.2.2.2 with h0 | ⟨b, o, e, hb, hc⟩
  · exact .inl h0
  · refine .inr ⟨b, o, e, by simpa using hb, fun i hi j u hu => ?_⟩
    have := hp _ e
    rw [World.cell?_setCell_other _ _ _ _ (by intro e'; rw [e'] at this; exact this rfl)]
    exact hc i hi j u hu
end Go.Proofs.Ytffdemagdagmpaa

/- A node's rest: the program's Rest. -/
namespace Go.Proofs.Ytffdemagdagmpaa
set_option linter.unusedSimpArgs false
open Go.RowKit
set_option linter.unusedVariables false

section
variable {V : World}
theorem Bf.cells10 {b : Nat} {x : NodeD} (h : Bf V b (cellsN x)) : (V.cell? ⟨b, 0, none⟩ = some (.int .i64 x.id) ∧ V.cell? ⟨b, 1, none⟩ = some (.int .i64 x.zone) ∧ V.cell? ⟨b, 2, none⟩ = some (.int .u64 x.cap.a) ∧ V.cell? ⟨b, 3, none⟩ = some (.int .u64 x.cap.b) ∧ V.cell? ⟨b, 4, none⟩ = some (.int .u64 x.cap.c) ∧ V.cell? ⟨b, 5, none⟩ = some (.int .u64 x.cap.d)) ∧
    V.cell? ⟨b, 6, none⟩ = some (.int .u64 x.held.a) ∧ V.cell? ⟨b, 7, none⟩ = some (.int .u64 x.held.b) ∧ V.cell? ⟨b, 8, none⟩ = some (.int .u64 x.held.c) ∧ V.cell? ⟨b, 9, none⟩ = some (.int .u64 x.held.d) ∧ b < V.heap.size :=
  ⟨⟨h.cell 0 _ rfl, h.cell 1 _ rfl, h.cell 2 _ rfl, h.cell 3 _ rfl, h.cell 4 _ rfl, h.cell 5 _ rfl⟩, h.cell 6 _ rfl, h.cell 7 _ rfl, h.cell 8 _ rfl, h.cell 9 _ rfl, h.lt⟩
end
theorem rest_ret {p : V4 × Int} {a : Value} {b : Value} (q : V4 × Int) (h : p = q) (ha : a = aggV q.1) (hb : b = codeV q.2) : Ending.returned (.tuple #[a, b]) = .returned (.tuple #[aggV p.1, codeV p.2]) := by subst h ha hb; rfl

set_option maxHeartbeats 6400000 in
set_option maxRecDepth 100000 in
theorem roomRest_any (ns : List NodeD) (l : List PodD) (id : Int) (hno : ∀ x ∈ ns, x.Ok) (hlo : ∀ p ∈ l, p.Ok) (A1 A4 : Option Addr) (n1 c1 n4 c4 : Nat) (s2 s3 v1 v2 : Value) (w : World)
    (hn1 : n1 = ns.length) (hl1 : n1 ≤ 400) (hr1 : Recs 10 cellsN w w.heap.size A1 ns) (hn4 : n4 = l.length) (hl4 : n4 ≤ 400) (hr4 : Recs 8 cellsP w w.heap.size A4 l) :
    Calls Try.prog 15 #[.agg #[.slice A1 n1 c1, s2, s3], .agg #[.slice A4 n4 c4, v1, v2], .int .i64 id] w fun e w' => e = .returned (.tuple #[aggV (restD ns l id).1, codeV (restD ns l id).2]) ∧ Below w.heap.size w w' := by
  have HR1 := Lib.hid hr1
  have HR4 := Lib.hid hr4
  have HN1 := Lib.hid hn1
  have HN4 := Lib.hid hn4
  have HNO := Lib.hid hno
  have HLO := Lib.hid hlo
  have T0 := T3.new w [.slice A1 n1 c1, s2, s3] [.slice A4 n4 c4, v1, v2] (cellsV .zer) 26 28 31
  have HF := Lib.hid (fun W (h1 : Recs 10 cellsN W W.heap.size A1 ns) => node_any ns id A1 n1 c1 s2 s3 W hn1 (by omega) h1)
  clear hr1 hr4 hn1 hn4 hno hlo
  go_enter Try.func15, Try.ntmps15
  go_wp2_with fail
  refine (HF.out _ ((HR1.out.below T0.below (Nat.le_refl _)).more T0.below.size)).mono ?_
  rintro e w1 ⟨hh, hb1⟩
  have T1 := T0.keep hb1
  clear hb1 T0 HF
  obtain ⟨a0, a1, a2, a3⟩ := T1.two.cells3
  obtain ⟨⟨g0, g1, g2, g3⟩, g4⟩ := T1.three.zero4
  obtain ⟨f0, f1, f2, f3⟩ := T1.three.free4
  have hwl1 : w.heap.size + 1 < w1.heap.size := T1.two.lt
  rcases hh with ⟨hp, rfl⟩ | ⟨i, hi, hp, rfl⟩
  · have HE := Lib.hid (rest_none (l := l) (nodeAt_no (k := 0) (Int.le_refl _) hp))
    have kw2 := T1.below
    clear hp T1
    go_wp2
    refine bodyPost_ret (v := .tuple #[zeroV, .iface 65 (.int .i64 4)]) ?_ rfl ?_
    · simp [results, Try.results15, go_sem, *]
    · refine ⟨rest_ret _ HE.out rfl rfl, ?_⟩
      repeat (first | with_reducible exact kw2 | with_reducible refine Below.setCell ?_ ?_ _ | with_reducible refine Below.alloc ?_ ?_ _)
      all_goals first | (show w.heap.size ≤ w.heap.size + 2; omega) | (simp; omega) | omega
  · have HP := Lib.hid (nodeAt_yes (k := 0) hi (Int.le_refl _) (by rw [hp]; omega))
    have HX := Lib.hid (HNO.out _ (List.getElem_mem hi))
    generalize hx : ns[i] = x at *
    clear hp hx
    have NB := Bf.new w1 (cellsN x) 51 rfl
    rcases hu : useD l id with _ | u
    · have HC := Lib.hid (fun W (h1 : Recs 8 cellsP W W.heap.size A4 l) => roomUse_none HLO.out hu A4 n4 c4 v1 v2 W HN4.out hl4 h1)
      have HE := Lib.hid (rest_over HP.out hu)
      clear hu NB
      have T1a := T1.alloc (.cells (cellsN x).toArray 51)
      have HRR := Lib.hid ((HR4.out.below T1a.below (Nat.le_refl _)).more T1a.below.size)
      have HT := Lib.hid T1a
      clear T1a T1
      go_wp2_with fail
      refine (HC.out _ HRR.out).mono ?_
      rintro e w2 ⟨rfl, hb2⟩
      have T2 := HT.out.keep hb2
      clear hb2 HT HRR a0 a1 a2 a3 g0 g1 g2 g3 g4 f0 f1 f2 f3 hwl1
      obtain ⟨⟨g0, g1, g2, g3⟩, g4⟩ := T2.three.zero4
      obtain ⟨f0, f1, f2, f3⟩ := T2.three.free4
      have kw2 := T2.below
      clear T2
      go_wp2
      refine bodyPost_ret (v := .tuple #[zeroV, .iface 65 (.int .i64 8)]) ?_ rfl ?_
      · simp [results, Try.results15, go_sem, *]
      · refine ⟨rest_ret _ HE.out rfl rfl, ?_⟩
        repeat (first | with_reducible exact kw2 | with_reducible refine Below.setCell ?_ ?_ _ | with_reducible refine Below.alloc ?_ ?_ _)
        all_goals first | (show w.heap.size ≤ w.heap.size + 2; omega) | (simp; omega) | omega
    · have HC := Lib.hid (fun W (h1 : Recs 8 cellsP W W.heap.size A4 l) => roomUse_some HLO.out hu A4 n4 c4 v1 v2 W HN4.out hl4 h1)
      have HUO := Lib.hid (use_ok HLO.out hu)
      have HL : Hid (∀ W, Calls Try.prog 26 #[aggN x, aggV u] W fun e w' => e = .returned (.tuple #[aggV (restD ns l id).1, codeV (restD ns l id).2]) ∧ Below W.heap.size W w') := by
        intro W
        rcases hl : leftD x u with _ | r
        · rw [rest_room HP.out hu hl]; exact leftW_none HX.out HUO.out hl W
        · rw [rest_some HP.out hu hl]; exact leftW_some HX.out HUO.out hl W
      generalize hz : (restD ns l id) = z at *
      obtain ⟨r, code⟩ := z
      have HZ := Lib.hid hz
      clear hu hz
      have T1a := T1.alloc (.cells (cellsN x).toArray 51)
      have HRR := Lib.hid ((HR4.out.below T1a.below (Nat.le_refl _)).more T1a.below.size)
      have HT := Lib.hid T1a
      have HNB := Lib.hid NB
      clear T1a T1 NB
      go_wp2_with fail
      refine (HC.out _ HRR.out).mono ?_
      rintro e w2 ⟨rfl, hb2⟩
      have T2 := HT.out.keep hb2
      have N2 := HNB.out.below hb2 HNB.out.lt
      clear hb2 HT HNB HRR a0 a1 a2 a3 g0 g1 g2 g3 g4 f0 f1 f2 f3 hwl1
      obtain ⟨⟨n0, n1', n2, n3, n4', n5⟩, n6, n7, n8, n9, n10⟩ := N2.cells10
      go_wp2_with fail
      refine (HL.out _).mono ?_
      rintro e w3 ⟨rfl, hb3⟩
      have T3' := (T2.alloc _).keep hb3
      clear hb3 T2 N2 n0 n1' n2 n3 n4' n5 n6 n7 n8 n9 n10
      obtain ⟨⟨g0, g1, g2, g3⟩, g4⟩ := T3'.three.zero4
      obtain ⟨f0, f1, f2, f3⟩ := T3'.three.free4
      have kw2 := T3'.below
      clear T3'
      go_wp2
      refine bodyPost_ret (v := .tuple #[aggV r, codeV code]) ?_ rfl ?_
      · simp [results, Try.results15, go_sem, *]
      · refine ⟨by rw [HZ.out], ?_⟩
        repeat (first | with_reducible exact kw2 | with_reducible refine Below.setCell ?_ ?_ _ | with_reducible refine Below.alloc ?_ ?_ _)
        all_goals first | (show w.heap.size ≤ w.heap.size + 2; omega) | (simp; omega) | omega
end Go.Proofs.Ytffdemagdagmpaa

/- errors.As of a Code itself, into a variable of type Code. -/
namespace Go.Proofs.Ytffdemagdagmpaa
set_option linter.unusedSimpArgs false
open Go.RowKit Go.Extern.Stop Go.Stop Go.Extern
set_option linter.unusedVariables false

end Go.Proofs.Ytffdemagdagmpaa

/- A node's error with its place: the program's spot. -/
namespace Go.Proofs.Ytffdemagdagmpaa
set_option linter.unusedSimpArgs false
open Go.RowKit
set_option linter.unusedVariables false

end Go.Proofs.Ytffdemagdagmpaa

/- A box of four cells that a statement makes behind its call, or ahead of it. -/
namespace Go.Proofs.Ytffdemagdagmpaa
set_option linter.unusedSimpArgs false
open Go.RowKit
set_option linter.unusedVariables false

/-- A box that a statement makes behind its call, or ahead of it. -/
theorem Bf.later {W v w' : World} {z : V4} (h0 : Bf v W.heap.size (cellsV .zer)) (hb : Below v.heap.size v w') :
    Bf ((((w'.setCell ⟨W.heap.size, 0, none⟩ (.int .u64 z.a)).setCell ⟨W.heap.size, 1, none⟩ (.int .u64 z.b)).setCell ⟨W.heap.size, 2, none⟩ (.int .u64 z.c)).setCell ⟨W.heap.size, 3, none⟩ (.int .u64 z.d)) W.heap.size (cellsV z) :=
  (((((h0.below hb h0.lt).set 0 (.int .u64 z.a)).set 1 (.int .u64 z.b)).set 2 (.int .u64 z.c)).set 3 (.int .u64 z.d))
theorem Bf.drew {V : World} {b : Nat} {cs : List Value} (h : Bf V b cs) : Bf V.drew b cs := h.below (Below.refl _ V).drew h.lt
end Go.Proofs.Ytffdemagdagmpaa

/- The first node at fault: the program's Check of layer 6. -/
namespace Go.Proofs.Ytffdemagdagmpaa
set_option linter.unusedSimpArgs false
open Go.RowKit
set_option linter.unusedVariables false

/-- Two boxes of the call's own. -/
structure T2 (a b : List Value) (w V : World) : Prop where
  one : Bf V w.heap.size a
  two : Bf V (w.heap.size + 1) b
  below : Below w.heap.size w V
section
variable {a b : List Value} {w V V' : World}
theorem T2.keep (h : T2 a b w V) (hb : Below V.heap.size V V') : T2 a b w V' := ⟨h.one.below hb h.one.lt, h.two.below hb h.two.lt, h.below.trans (hb.mono h.below.size)⟩
theorem T2.alloc (h : T2 a b w V) (o : Obj) : T2 a b w (V.alloc o) := h.keep ((Below.refl _ V).alloc (Nat.le_refl _) o)
theorem T2.new (w : World) (a b : List Value) (t1 t2 : TypeId) : T2 a b w ((w.alloc (.cells a.toArray t1)).alloc (.cells b.toArray t2)) :=
  ⟨(Bf.new w a t1 rfl).alloc _, Bf.new (w.alloc (.cells a.toArray t1)) b t2 (b := w.heap.size + 1) (by simp), ((Below.refl _ w).alloc (Nat.le_refl _) _).alloc (by simp) _⟩
end
theorem codeV_zero : codeV 0 = .nilIface := rfl
end Go.Proofs.Ytffdemagdagmpaa

/- The nodes where a request fits, and what is left there: the program's sites. -/
namespace Go.Proofs.Ytffdemagdagmpaa
set_option linter.unusedSimpArgs false
open Go.RowKit
set_option linter.unusedVariables false

def cellsS (x : SiteD) : List Value := [.int .i64 x.node, .int .u64 x.left.a, .int .u64 x.left.b, .int .u64 x.left.c, .int .u64 x.left.d]
theorem lenSite (x : SiteD) : (cellsS x).length = 5 := rfl
theorem oneSite (x : SiteD) : ∀ u ∈ cellsS x, u.oneCell' = true := by
  intro u hu; simp only [cellsS, List.mem_cons, List.not_mem_nil, or_false] at hu
  rcases hu with rfl | rfl | rfl | rfl | rfl <;> rfl
theorem infoSite : (Try.prog.info? 58).map (fun i => (i.zero, i.size, i.bytes)) = some (some (.agg #[.int .i64 0, .int .u64 0, .int .u64 0, .int .u64 0, .int .u64 0]), 5, 40) := by kernel_rfl
theorem underSites : Try.prog.underlying 55 = some (.slice 58) := by kernel_rfl
theorem codeF_pos {c : Int} (h : c ≠ 0) : codeV c = .iface 65 (.int .i64 c) := by unfold codeV; rw [if_neg h]
theorem zerF_ok : V4.zer.Ok := ⟨⟨by decide, by decide⟩, ⟨by decide, by decide⟩, ⟨by decide, by decide⟩, ⟨by decide, by decide⟩⟩
theorem rest_ok {ns : List NodeD} {l : List PodD} (hn : ∀ x ∈ ns, x.Ok) (hl : ∀ p ∈ l, p.Ok) (id : Int) : (restD ns l id).1.Ok := by
  rcases rest_vals ns l id with h | ⟨h, _⟩
  · obtain ⟨n, u, r, h1, h2, h3, h4⟩ := rest_zero.1 h
    rw [h4]
    exact left_ok (nodeAt_ok hn h1) (use_ok hl h2) h3
  · rw [h]; exact zerF_ok
theorem left_no {ns : List NodeD} {l : List PodD} {req : V4} {id : Int} (h : (restD ns l id).2 ≠ 0) : leftAt ns l req id = none := by unfold leftAt; rw [if_neg h]
theorem left_yes {ns : List NodeD} {l : List PodD} {req : V4} {id : Int} (h : (restD ns l id).2 = 0) : leftAt ns l req id = subV (restD ns l id).1 req := by unfold leftAt; rw [if_pos h]

theorem own_belowF {w w' : World} {B B' size n : Nat} {e : TypeId} {v : Value} {xs : List Value} (h : w.ownsRow B e size v n xs) (hb : Below B' w w') (hB : w.heap.size ≤ B') : w'.ownsRow B e size v n xs := by
  refine ⟨h.1, ?_⟩
  rcases h.2 with h0 | ⟨g, cap, cur, hv, hg0, hg, hnc, hm, hsz, hts⟩
  · exact .inl h0
  · exact .inr ⟨g, cap, cur, hv, hg0, by rw [hb.block g (Nat.lt_of_lt_of_le (Array.getElem?_eq_some_iff.1 hg).1 hB)]; exact hg, hnc, hm, hsz, hts⟩
def SitesRel (ns : List NodeD) (l : List PodD) (req : V4) (W : World) (B : Nat) (v i : Value) (wr : World) : Prop :=
  ∃ k m : Nat, k ≤ ns.length ∧ i = .int .i64 k ∧ m = (sitesD ns l req (ns.take k)).length ∧ wr.ownsRow B 58 5 v m ((sitesD ns l req (ns.take k)).flatMap cellsS) ∧ Below B W wr
theorem own_sites {B m : Nat} {e : TypeId} {w1 : World} {v : Value} {xs ys : List SiteD} {x : SiteD} (hm : m = xs.length) (h : w1.ownsRow B e 5 v (m + 1) (xs.flatMap cellsS ++ cellsS x)) (he : ys = xs ++ [x]) : w1.ownsRow B e 5 v (m + 1) (ys.flatMap cellsS) ∧ m + 1 = ys.length := by
  subst he hm; simpa using h
/-- A row of sites of the call's own. -/
def SitesTo (xs : List SiteD) (w : World) (e : Ending) (w' : World) : Prop := ∃ A c, e = .returned (.slice A xs.length c) ∧ Out 5 cellsS w' xs A c ∧ Below w.heap.size w w'

set_option maxHeartbeats 6400000 in
set_option maxRecDepth 100000 in
theorem sites_any (ns : List NodeD) (l : List PodD) (req : V4) (hno : ∀ x ∈ ns, x.Ok) (hlo : ∀ p ∈ l, p.Ok) (hq : req.Ok) (A1 A4 : Option Addr) (n1 c1 n4 c4 : Nat) (s2 s3 v1 v2 : Value) (w : World)
    (hn1 : n1 = ns.length) (hl1 : n1 ≤ 400) (hr1 : Recs 10 cellsN w w.heap.size A1 ns) (hn4 : n4 = l.length) (hl4 : n4 ≤ 400) (hr4 : Recs 8 cellsP w w.heap.size A4 l) :
    Calls Try.prog 20 #[.agg #[.slice A1 n1 c1, s2, s3], .agg #[.slice A4 n4 c4, v1, v2], aggV req] w (SitesTo (sitesD ns l req ns) w) := by
  have T0 := T3.new w [.slice A1 n1 c1, s2, s3] [.slice A4 n4 c4, v1, v2] (cellsV req) 26 28 31
  have HREST : Hid (∀ (id : Int) (V : World), Below w.heap.size w V → Calls Try.prog 15 #[.agg #[.slice A1 n1 c1, s2, s3], .agg #[.slice A4 n4 c4, v1, v2], .int .i64 id] V fun e w' => e = .returned (.tuple #[aggV (restD ns l id).1, codeV (restD ns l id).2]) ∧ Below V.heap.size V w') := fun id V hV =>
    roomRest_any ns l id hno hlo A1 A4 n1 c1 n4 c4 s2 s3 v1 v2 V hn1 hl1 ((hr1.below hV (Nat.le_refl _)).more hV.size) hn4 hl4 ((hr4.below hV (Nat.le_refl _)).more hV.size)
  have HOK := Lib.hid (fun id => rest_ok hno hlo id)
  have HQ := Lib.hid hq
  have HN1 := Lib.hid hn1
  have HL1 := Lib.hid hl1
  have HR1 := Lib.hid hr1
  have hq3 : w.heap.size + 3 ≤ (((w.alloc (.cells #[.slice A1 n1 c1, s2, s3] 26)).alloc (.cells #[.slice A4 n4 c4, v1, v2] 28)).alloc (.cells #[.int .u64 req.a, .int .u64 req.b, .int .u64 req.c, .int .u64 req.d] 31)).heap.size := by simp
  replace T0 : T3 [.slice A1 n1 c1, s2, s3] [.slice A4 n4 c4, v1, v2] (cellsV req) w (((w.alloc (.cells #[.slice A1 n1 c1, s2, s3] 26)).alloc (.cells #[.slice A4 n4 c4, v1, v2] 28)).alloc (.cells #[.int .u64 req.a, .int .u64 req.b, .int .u64 req.c, .int .u64 req.d] 31)) := T0
  obtain ⟨a0, a1, a2, a3⟩ := T0.one.cells3
  have HT := Lib.hid T0
  clear hn1 hl1 hr1 hn4 hl4 hr4 hno hlo hq T0
  go_enter Try.func20, Try.ntmps20
  go_upto_region 2 with fail
  generalize hW : (((w.alloc (.cells #[.slice A1 n1 c1, s2, s3] 26)).alloc (.cells #[.slice A4 n4 c4, v1, v2] 28)).alloc (.cells #[.int .u64 req.a, .int .u64 req.b, .int .u64 req.c, .int .u64 req.d] 31)) = W at *
  clear hW
  go_wp2
  go_loopw [7, 17] (SitesRel ns l req W (w.heap.size + 3)) (fun _ i _ => n1 - (intOf i).toNat)
  case atStart => exact ⟨0, 0, by omega, rfl, rfl, ⟨by simp [sitesD], .inl ⟨rfl, by simp⟩⟩, Below.refl _ _⟩
  case round =>
    obtain ⟨k, m, hk, rfl, hm, hown, hbr⟩ := hrel
    have hl1 : n1 ≤ 400 := HL1.out
    have HMM := Lib.hid hm
    have HOW := Lib.hid hown
    have HBR := Lib.hid hbr
    have TR := HT.out
    have hT3 : T3 [.slice A1 n1 c1, s2, s3] [.slice A4 n4 c4, v1, v2] (cellsV req) w wr := ⟨TR.one.below hbr (by omega), TR.two.below hbr (by omega), TR.three.below hbr (by omega), TR.below.trans (hbr.mono (by omega))⟩
    have hzr : w.heap.size + 3 ≤ wr.heap.size := Nat.le_trans hq3 hbr.size
    clear hm hown hbr TR
    by_cases hlt : k < n1
    · have hkl : k < ns.length := by have := HN1.out; omega
      obtain ⟨b, o, rfl, hb, he⟩ := HR1.out.at hkl
      generalize hx : ns[k] = x at *
      have HXX := Lib.hid (sites_take (ns := ns) (l := l) (req := req) hkl hx)
      clear hx
      have kwr := hT3.below
      have e0 : wr.cell? ⟨b, o + k * 10, none⟩ = some (.int .i64 x.id) := (kwr.cell (p := ⟨b, o + k * 10, none⟩) hb).trans (he 0 _ rfl)
      have e1 : wr.cell? ⟨b, o + k * 10 + 1, none⟩ = some (.int .i64 x.zone) := (kwr.cell (p := ⟨b, o + k * 10 + 1, none⟩) hb).trans (he 1 _ rfl)
      have e2 : wr.cell? ⟨b, o + k * 10 + 2, none⟩ = some (.int .u64 x.cap.a) := (kwr.cell (p := ⟨b, o + k * 10 + 2, none⟩) hb).trans (he 2 _ rfl)
      have e3 : wr.cell? ⟨b, o + k * 10 + 3, none⟩ = some (.int .u64 x.cap.b) := (kwr.cell (p := ⟨b, o + k * 10 + 3, none⟩) hb).trans (he 3 _ rfl)
      have e4 : wr.cell? ⟨b, o + k * 10 + 4, none⟩ = some (.int .u64 x.cap.c) := (kwr.cell (p := ⟨b, o + k * 10 + 4, none⟩) hb).trans (he 4 _ rfl)
      have e5 : wr.cell? ⟨b, o + k * 10 + 5, none⟩ = some (.int .u64 x.cap.d) := (kwr.cell (p := ⟨b, o + k * 10 + 5, none⟩) hb).trans (he 5 _ rfl)
      have e6 : wr.cell? ⟨b, o + k * 10 + 6, none⟩ = some (.int .u64 x.held.a) := (kwr.cell (p := ⟨b, o + k * 10 + 6, none⟩) hb).trans (he 6 _ rfl)
      have e7 : wr.cell? ⟨b, o + k * 10 + 7, none⟩ = some (.int .u64 x.held.b) := (kwr.cell (p := ⟨b, o + k * 10 + 7, none⟩) hb).trans (he 7 _ rfl)
      have e8 : wr.cell? ⟨b, o + k * 10 + 8, none⟩ = some (.int .u64 x.held.c) := (kwr.cell (p := ⟨b, o + k * 10 + 8, none⟩) hb).trans (he 8 _ rfl)
      have e9 : wr.cell? ⟨b, o + k * 10 + 9, none⟩ = some (.int .u64 x.held.d) := (kwr.cell (p := ⟨b, o + k * 10 + 9, none⟩) hb).trans (he 9 _ rfl)
      have hbw : b < wr.heap.size := Nat.lt_of_lt_of_le hb kwr.size
      have NB : Bf (wr.alloc (.cells #[.int .i64 x.id, .int .i64 x.zone, .int .u64 x.cap.a, .int .u64 x.cap.b, .int .u64 x.cap.c, .int .u64 x.cap.d, .int .u64 x.held.a, .int .u64 x.held.b, .int .u64 x.held.c, .int .u64 x.held.d] 51)) wr.heap.size (cellsN x) := Bf.new wr (cellsN x) 51 rfl
      have TN := hT3.alloc (.cells #[.int .i64 x.id, .int .i64 x.zone, .int .u64 x.cap.a, .int .u64 x.cap.b, .int .u64 x.cap.c, .int .u64 x.cap.d, .int .u64 x.held.a, .int .u64 x.held.b, .int .u64 x.held.c, .int .u64 x.held.d] 51)
      have ON := HOW.out.alloc (.cells #[.int .i64 x.id, .int .i64 x.zone, .int .u64 x.cap.a, .int .u64 x.cap.b, .int .u64 x.cap.c, .int .u64 x.cap.d, .int .u64 x.held.a, .int .u64 x.held.b, .int .u64 x.held.c, .int .u64 x.held.d] 51)
      have BN := HBR.out.alloc hzr (.cells #[.int .i64 x.id, .int .i64 x.zone, .int .u64 x.cap.a, .int .u64 x.cap.b, .int .u64 x.cap.c, .int .u64 x.cap.d, .int .u64 x.held.a, .int .u64 x.held.b, .int .u64 x.held.c, .int .u64 x.held.d] 51)
      clear he kwr HOW HBR hT3
      obtain ⟨a0', a1', a2', a3'⟩ := TN.one.cells3
      obtain ⟨b0, b1, b2, b3⟩ := TN.two.cells3
      obtain ⟨n0, nz⟩ := (⟨NB.cell 0 _ rfl, NB.lt⟩ : _ ∧ _)
      go_upto_region 5 with fail
      generalize hV : wr.alloc (.cells #[.int .i64 x.id, .int .i64 x.zone, .int .u64 x.cap.a, .int .u64 x.cap.b, .int .u64 x.cap.c, .int .u64 x.cap.d, .int .u64 x.held.a, .int .u64 x.held.b, .int .u64 x.held.c, .int .u64 x.held.d] 51) = V at *
      generalize hh : wr.heap.size = h at *
      have HTN := Lib.hid TN
      have HON := Lib.hid ON
      have HBN := Lib.hid BN
      have HNB := Lib.hid NB
      have hzV : w.heap.size + 3 ≤ V.heap.size := by have := nz; omega
      have HC := Lib.hid (HREST.out x.id V TN.below)
      have HE := Lib.hid (show siteAt ns l req x.id = siteAt ns l req x.id from rfl)
      have HRO := Lib.hid (HOK.out x.id)
      have HLY := Lib.hid (fun hz => left_yes (ns := ns) (l := l) (req := req) (id := x.id) hz)
      have HLN := Lib.hid (fun hz => left_no (ns := ns) (l := l) (req := req) (id := x.id) hz)
      clear TN ON BN NB hV a0 a1 a2 a3 e0 e1 e2 e3 e4 e5 e6 e7 e8 e9 hbw HREST HOK
      generalize restD ns l x.id = rc at *
      obtain ⟨r, cd⟩ := rc
      go_wp2_with fail
      refine HC.out.mono ?_
      rintro e w1 ⟨rfl, hb1⟩
      have T1 := (HTN.out.keep hb1).alloc (.cells #[.int .u64 r.a, .int .u64 r.b, .int .u64 r.c, .int .u64 r.d] 31)
      have R1 : Bf (w1.alloc (.cells #[.int .u64 r.a, .int .u64 r.b, .int .u64 r.c, .int .u64 r.d] 31)) w1.heap.size (cellsV r) := Bf.new w1 (cellsV r) 31 rfl
      have N1 := (HNB.out.below hb1 HNB.out.lt).alloc (.cells #[.int .u64 r.a, .int .u64 r.b, .int .u64 r.c, .int .u64 r.d] 31)
      have O1 := (own_belowF HON.out hb1 (Nat.le_refl _)).alloc (.cells #[.int .u64 r.a, .int .u64 r.b, .int .u64 r.c, .int .u64 r.d] 31)
      have K1 := (HBN.out.trans (hb1.mono hzV)).alloc (Nat.le_trans hzV hb1.size) (.cells #[.int .u64 r.a, .int .u64 r.b, .int .u64 r.c, .int .u64 r.d] 31)
      have hzU : w.heap.size + 3 ≤ (w1.alloc (.cells #[.int .u64 r.a, .int .u64 r.b, .int .u64 r.c, .int .u64 r.d] 31)).heap.size := by have h1 := hzV; have h2 := hb1.size; simp; omega
      have hnz : h < (w1.alloc (.cells #[.int .u64 r.a, .int .u64 r.b, .int .u64 r.c, .int .u64 r.d] 31)).heap.size := N1.lt
      by_cases hc : cd = 0
      · subst hc
        rw [codeV_zero]
        have HLR : Hid (leftAt ns l req x.id = subV r req) := HLY.out rfl
        obtain ⟨d0, d1, d2, d3, d4⟩ := R1.cells4
        obtain ⟨p0, p1, p2, p3, p4⟩ := T1.three.cells4
        go_upto_region 7 with fail
        generalize hU : w1.alloc (.cells #[.int .u64 r.a, .int .u64 r.b, .int .u64 r.c, .int .u64 r.d] 31) = U at *
        generalize hg : w1.heap.size = g at *
        have HT1 := Lib.hid T1
        have HN1' := Lib.hid N1
        have HO1 := Lib.hid O1
        have HK1 := Lib.hid K1
        clear T1 N1 O1 K1 R1 hU hg hb1 HTN HNB HON HBN HLY HLN HC a0' a1' a2' a3' b0 b1 b2 b3 n0
        rcases hs : subV r req with _ | v
        · have HC2 := Lib.hid (vSub_none HRO.out HQ.out hs U)
          have HX2 := Lib.hid (siteAt_none (HLR.out.trans hs))
          clear hs
          go_wp2_with fail
          refine HC2.out.mono ?_
          rintro e w2 ⟨rfl, hb2⟩
          have T2 := HT1.out.keep hb2
          have O2 := own_belowF HO1.out hb2 (Nat.le_refl _)
          have K2 := HK1.out.trans (hb2.mono hzU)
          have hz2 := Nat.le_trans hzU hb2.size
          clear hb2 HC2 d0 d1 d2 d3 d4 p0 p1 p2 p3 p4
          have HXX' := Lib.hid (show sitesD ns l req (ns.take (k + 1)) = sitesD ns l req (ns.take k) by rw [HXX.out, HX2.out, List.append_nil])
          go_wp2
          go_roundw
          case rel => exact ⟨k + 1, m, by omega, by go_num, by rw [HXX'.out]; exact HMM.out, by rw [HXX'.out]; exact O2.alloc _, K2.alloc hz2 _⟩
          case measure => simp [intOf]; omega
        · have HC2 := Lib.hid (vSub_some HRO.out HQ.out hs U)
          have HX2 := Lib.hid (siteAt_some (HLR.out.trans hs))
          clear hs
          go_wp2_with fail
          refine HC2.out.mono ?_
          rintro e w2 ⟨rfl, hb2⟩
          have N2 := (HN1'.out.below hb2 HN1'.out.lt).alloc (.cells #[.int .u64 v.a, .int .u64 v.b, .int .u64 v.c, .int .u64 v.d] 31)
          have O2 := (own_belowF HO1.out hb2 (Nat.le_refl _)).alloc (.cells #[.int .u64 v.a, .int .u64 v.b, .int .u64 v.c, .int .u64 v.d] 31)
          have K2 := (HK1.out.trans (hb2.mono hzU)).alloc (Nat.le_trans hzU hb2.size) (.cells #[.int .u64 v.a, .int .u64 v.b, .int .u64 v.c, .int .u64 v.d] 31)
          have V2 : Bf (w2.alloc (.cells #[.int .u64 v.a, .int .u64 v.b, .int .u64 v.c, .int .u64 v.d] 31)) w2.heap.size (cellsV v) := Bf.new w2 (cellsV v) 31 rfl
          have hz2 : w.heap.size + 3 ≤ (w2.alloc (.cells #[.int .u64 v.a, .int .u64 v.b, .int .u64 v.c, .int .u64 v.d] 31)).heap.size := by have h1 := hzU; have h2 := hb2.size; simp; omega
          have HXX' := Lib.hid (show sitesD ns l req (ns.take (k + 1)) = sitesD ns l req (ns.take k) ++ [⟨x.id, v⟩] by rw [HXX.out, HX2.out])
          have HL : Hid (m ≤ 2000000) := by
            have h1 := sites_len ns l req (ns.take k)
            have h2 := HMM.out
            have h3 := List.length_take_le k ns
            have h4 := HN1.out
            have h5 := HL1.out
            show _ ≤ _
            rw [List.length_take] at h1
            omega
          clear hb2 HC2 d0 d1 d2 d3 d4 p0 p1 p2 p3 p4
          go_upto_region 9 with fail
          generalize hU2 : w2.alloc (.cells #[.int .u64 v.a, .int .u64 v.b, .int .u64 v.c, .int .u64 v.d] 31) = U2 at *
          generalize hg2 : w2.heap.size = g2 at *
          have n0 : U2.cell? ⟨h, 0, none⟩ = some (.int .i64 x.id) := N2.cell 0 _ rfl
          have n1' := N2.lt
          obtain ⟨d0, d1, d2, d3, d4⟩ := V2.cells4
          have HO2 := Lib.hid O2
          have HK2 := Lib.hid K2
          have HZ2 := Lib.hid hz2
          clear N2 O2 K2 V2 hU2 hg2
          go_wp2_with (at_builtin; refine wpList_pushR 55 58 (.agg #[.int .i64 0, .int .u64 0, .int .u64 0, .int .u64 0, .int .u64 0]) 5 40 underSites infoSite rfl (by decide) (by decide) rfl (.tmp 39) (.tmp 44) rfl (w.heap.size + 3) _ m _ (cellsS ⟨x.id, v⟩) rfl (oneSite _) HO2.out HZ2.out HL.out rfl rfl ?_; intro v' w3 hown3 hb3 hB3)
          have HO3 := Lib.hid (own_sites HMM.out hown3 HXX'.out)
          clear hown3
          go_wp2
          go_roundw
          case rel => exact ⟨k + 1, m + 1, by omega, by go_num, HO3.out.2, HO3.out.1, HK2.out.trans hb3⟩
          case measure => simp [intOf]; omega
      · rw [codeF_pos hc]
        have HX2 := Lib.hid (siteAt_none (HLN.out hc))
        have HXX' := Lib.hid (show sitesD ns l req (ns.take (k + 1)) = sitesD ns l req (ns.take k) by rw [HXX.out, HX2.out, List.append_nil])
        have HO1 := Lib.hid O1
        have HK1 := Lib.hid K1
        clear T1 N1 O1 K1 R1 hb1 HTN HNB HON HBN HLY HLN HC a0' a1' a2' a3' b0 b1 b2 b3 n0 hc
        go_wp2
        go_roundw
        case rel => exact ⟨k + 1, m, by omega, by go_num, by rw [HXX'.out]; exact HMM.out, by rw [HXX'.out]; exact HO1.out, HK1.out⟩
        case measure => simp [intOf]; omega
    · have htk : ns.take k = ns := List.take_of_length_le (by have := HN1.out; omega)
      have hm' := HMM.out
      have how := HOW.out
      rw [htk] at hm' how
      obtain ⟨A', c', rfl, hc1, hc2, hc3, hrec⟩ := recs_of_own lenSite hm' how
      have kwr := hT3.below
      have HRE := Lib.hid hrec
      have HMM' := Lib.hid hm'
      have hc1' : (sitesD ns l req ns).length ≤ c' := by rw [← hm']; exact hc1
      clear how hm' htk hrec hT3
      go_wp2
      go_ret
      exact ⟨A', c', by rw [HMM'.out]; rfl, ⟨hc1', hc2, hc3, HRE.out⟩, kwr⟩
end Go.Proofs.Ytffdemagdagmpaa

/- The library's generic functions at records as they stand in this program: the tables of numbers under which its contracts hold here. -/
namespace Go.Proofs.Ytffdemagdagmpaa
set_option linter.unusedSimpArgs false
open Go.Shelf
def Try.laysSortU_ren : Go.Shelf.Ren := ⟨fun | 6 => 35 | 15 => 43 | 14 => 42 | 28 => 55 | 29 => 56 | 20 => 47 | 21 => 48 | 22 => 49 | 23 => 50 | 24 => 51 | 25 => 52 | 26 => 53 | 27 => 54 | 46 => 58 | 47 => 59 | 48 => 60 | 49 => 61 | 50 => 62 | 57 => 64 | n => n, fun | 22 => 71 | 24 => 29 | 25 => 82 | 3 => 3 | 39 => 87 | 0 => 0 | 53 => 99 | 55 => 29 | 4 => 4 | 46 => 92 | 45 => 91 | 50 => 96 | 5 => 5 | 9 => 9 | 66 => 101 | 70 => 105 | 76 => 109 | 77 => 110 | n => n, fun | n => n⟩
theorem Try.laysSortU : Go.Proofs.SlLaysF.n6 Try.prog Try.laysSortU_ren := {
  mixed := by kernel_rfl
  f6 := ⟨Try.f35.name, by decide, Try.func35.trans (congrArg some (by kernel_rfl))⟩
  f14 := ⟨Try.f42.name, by decide, Try.func42.trans (congrArg some (by kernel_rfl))⟩
  f15 := Try.func43.trans (congrArg some (by kernel_rfl))
  f20 := ⟨Try.f47.name, by decide, Try.func47.trans (congrArg some (by kernel_rfl))⟩
  f21 := ⟨Try.f48.name, by decide, Try.func48.trans (congrArg some (by kernel_rfl))⟩
  f22 := ⟨Try.f49.name, by decide, Try.func49.trans (congrArg some (by kernel_rfl))⟩
  f23 := ⟨Try.f50.name, by decide, Try.func50.trans (congrArg some (by kernel_rfl))⟩
  f24 := ⟨Try.f51.name, by decide, Try.func51.trans (congrArg some (by kernel_rfl))⟩
  f25 := ⟨Try.f52.name, by decide, Try.func52.trans (congrArg some (by kernel_rfl))⟩
  f26 := ⟨Try.f53.name, by decide, Try.func53.trans (congrArg some (by kernel_rfl))⟩
  f27 := ⟨Try.f54.name, by decide, Try.func54.trans (congrArg some (by kernel_rfl))⟩
  f28 := Try.func55.trans (congrArg some (by kernel_rfl))
  f29 := Try.func56.trans (congrArg some (by kernel_rfl))
  f46 := ⟨Try.f58.name, by decide, Try.func58.trans (congrArg some (by kernel_rfl))⟩
  f47 := Try.func59.trans (congrArg some (by kernel_rfl))
  f48 := Try.func60.trans (congrArg some (by kernel_rfl))
  f49 := ⟨Try.f61.name, by decide, Try.func61.trans (congrArg some (by kernel_rfl))⟩
  f50 := ⟨Try.f62.name, by decide, Try.func62.trans (congrArg some (by kernel_rfl))⟩
  f57 := ⟨Try.f64.name, by decide, Try.func64.trans (congrArg some (by kernel_rfl))⟩
  t0 := Try.underlying0
  a0 := Try.isAgg0
  z0 := Try.sizeOf0
  v0 := Try.zeroValue0
  t3 := Try.underlying3
  a3 := Try.isAgg3
  z3 := Try.sizeOf3
  v3 := Try.zeroValue3
  t4 := Try.underlying4
  a4 := Try.isAgg4
  z4 := Try.sizeOf4
  v4 := Try.zeroValue4
  t5 := Try.underlying5
  a5 := Try.isAgg5
  z5 := Try.sizeOf5
  v5 := Try.zeroValue5
  t9 := Try.underlying9
  a9 := Try.isAgg9
  z9 := Try.sizeOf9
  v9 := Try.zeroValue9
  t22 := Try.underlying71
  a22 := Try.isAgg71
  z22 := Try.sizeOf71
  v22 := Try.zeroValue71
  a24 := Try.isAgg29
  z24 := Try.sizeOf29
  t25 := Try.underlying82
  a25 := Try.isAgg82
  z25 := Try.sizeOf82
  v25 := Try.zeroValue82
  t39 := Try.underlying87
  a39 := Try.isAgg87
  z39 := Try.sizeOf87
  v39 := Try.zeroValue87
  t45 := Try.underlying91
  a45 := Try.isAgg91
  z45 := Try.sizeOf91
  v45 := Try.zeroValue91
  t46 := Try.underlying92
  a46 := Try.isAgg92
  z46 := Try.sizeOf92
  v46 := Try.zeroValue92
  t50 := Try.underlying96
  a50 := Try.isAgg96
  z50 := Try.sizeOf96
  v50 := Try.zeroValue96
  t53 := Try.underlying99
  a53 := Try.isAgg99
  z53 := Try.sizeOf99
  v53 := Try.zeroValue99
  t55 := Try.underlying29
  a55 := Try.isAgg29
  z55 := Try.sizeOf29
  v55 := Try.zeroValue29
  t66 := Try.underlying101
  a66 := Try.isAgg101
  z66 := Try.sizeOf101
  v66 := Try.zeroValue101
  t70 := Try.underlying105
  a70 := Try.isAgg105
  z70 := Try.sizeOf105
  v70 := Try.zeroValue105
  t76 := Try.underlying109
  a76 := Try.isAgg109
  z76 := Try.sizeOf109
  v76 := Try.zeroValue109
  t77 := Try.underlying110
  a77 := Try.isAgg110
  z77 := Try.sizeOf110
  v77 := Try.zeroValue110 }
end Go.Proofs.Ytffdemagdagmpaa

namespace Go.Proofs.Ytffdemagdagmpaa
set_option linter.unusedSimpArgs false
open Go.RowKit Go.Shelf
set_option linter.unusedVariables false

theorem isNaNU_any (n : Int) (w : World) : Calls Try.prog 44 #[.int .u64 n] w fun e w' => e = .returned (.bool false) ∧ w = w' := by
  have hd : (n != n) = false := by simp
  go_enter Try.func44, Try.ntmps44
  go_wp2
  go_ret
  exact ⟨rfl, rfl⟩
theorem compareU_any (a b : Int) (w : World) : Calls Try.prog 37 #[.int .u64 a, .int .u64 b] w fun e w' => e = .returned (.int .i64 (cmpI a b)) ∧ w = w' := by
  by_cases h1 : a < b
  · have HE := Lib.hid (show cmpI a b = -1 by simp [cmpI, h1])
    go_enter Try.func37, Try.ntmps37
    go_wp2_with (go_at_call 44; refine (isNaNU_any _ _).mono ?_; rintro e w' ⟨rfl, rfl⟩)
    go_ret
    exact ⟨ret_int HE.out.symm, rfl⟩
  · by_cases h2 : b < a
    · have HE := Lib.hid (show cmpI a b = 1 by simp [cmpI, h1, h2])
      go_enter Try.func37, Try.ntmps37
      go_wp2_with (go_at_call 44; refine (isNaNU_any _ _).mono ?_; rintro e w' ⟨rfl, rfl⟩)
      go_ret
      exact ⟨ret_int HE.out.symm, rfl⟩
    · have HE := Lib.hid (show cmpI a b = 0 by simp [cmpI, h1, h2])
      go_enter Try.func37, Try.ntmps37
      go_wp2_with (go_at_call 44; refine (isNaNU_any _ _).mono ?_; rintro e w' ⟨rfl, rfl⟩)
      go_ret
      exact ⟨ret_int HE.out.symm, rfl⟩
theorem fallsU_any (a b : Int) (w : World) : Calls Try.prog 36 #[.int .u64 a, .int .u64 b] w fun e w' => e = .returned (.int .i64 (cmpI b a)) ∧ ∃ q, w' = w.drewN q := by
  have HC := Lib.hid (compareU_any b a w)
  generalize cmpI b a = c at *
  go_enter Try.func36, Try.ntmps36
  go_wp2_with (go_at_call 37; refine HC.out.mono ?_; rintro e w' ⟨rfl, rfl⟩)
  go_ret
  exact ⟨rfl, 0, rfl⟩

/-- math/bits.Len of few. -/
theorem len64_any (n : Nat) (w : World) (h : n ≤ 12) : Calls Try.prog 56 #[.int .u64 n] w fun e w' => (∃ l : Int, e = .returned (.int .i64 l)) ∧ w' = w := by
  have h1 : decide ((n : Int) ≥ 4294967296) = false := decide_eq_false (by omega)
  have h2 : decide ((n : Int) ≥ 65536) = false := decide_eq_false (by omega)
  have h3 : decide ((n : Int) ≥ 256) = false := decide_eq_false (by omega)
  rcases (show n = 0 ∨ n = 1 ∨ n = 2 ∨ n = 3 ∨ n = 4 ∨ n = 5 ∨ n = 6 ∨ n = 7 ∨ n = 8 ∨ n = 9 ∨ n = 10 ∨ n = 11 ∨ n = 12 by omega) with rfl | rfl | rfl | rfl | rfl | rfl | rfl | rfl | rfl | rfl | rfl | rfl | rfl
  all_goals
    clear h h1 h2 h3
    go_enter Try.func56, Try.ntmps56
    go_wp2
    go_ret
    exact ⟨⟨_, rfl⟩, rfl⟩
theorem len_any (n : Nat) (w : World) (h : n ≤ 12) : Calls Try.prog 43 #[.int .u64 n] w fun e w' => (∃ l : Int, e = .returned (.int .i64 l)) ∧ w' = w := by
  have HC := Lib.hid (len64_any n w h)
  clear h
  go_enter Try.func43, Try.ntmps43
  go_wp2_with (go_at_call 56; refine HC.out.mono ?_; rintro e w' ⟨⟨l, rfl⟩, rfl⟩)
  go_ret
  exact ⟨⟨_, rfl⟩, rfl⟩

theorem fallU_lt (x y : Int) : ltOf (fun a b => cmpI b a) x y = decide (y < x) := by
  unfold ltOf
  refine decide_eq_decide.2 ?_
  show cmpI y x < 0 ↔ y < x
  rcases cmpI_cases y x with ⟨h1, h2⟩ | ⟨h1, h2⟩ | ⟨h1, h2⟩ <;> rw [h2] <;> simp <;> omega
theorem swoU : Sort.SWO (ltOf fun a b => cmpI b a) where
  irrefl x := by rw [fallU_lt]; simp
  trans x y z h1 h2 := by rw [fallU_lt, decide_eq_true_eq] at *; omega
  ntrans x y z h1 h2 := by rw [fallU_lt, decide_eq_false_iff_not] at *; omega
theorem holdsU {V : World} {b : Nat} {x : V4} (h : Bf V b (cellsV x)) : Sort.Holds (Value.int .u64) V b 0 #[x.a, x.b, x.c, x.d] := by
  intro j hj
  have hj' : j < 4 := hj
  refine ⟨?_, h.frozen _⟩
  rcases (show j = 0 ∨ j = 1 ∨ j = 2 ∨ j = 3 by omega) with rfl | rfl | rfl | rfl
  · exact h.cell 0 _ rfl
  · exact h.cell 1 _ rfl
  · exact h.cell 2 _ rfl
  · exact h.cell 3 _ rfl
theorem downU {x : V4} {d : Array Int} (hp : Sort.PermIn 0 4 #[x.a, x.b, x.c, x.d] d) (hs : Sort.SortedIn (ltOf fun a b => cmpI b a) 0 4 d) : d = #[(downV x).a, (downV x).b, (downV x).c, (downV x).d] := by
  obtain ⟨h1, _, h3⟩ := hp
  have h1' : d.size = 4 := h1
  rw [Array.extract_eq_self_of_le (by omega), Array.extract_eq_self_of_le (by simp)] at h3
  have h4 : d.toList = (downV x).row := by
    refine down_is (v := x) h3 ?_
    rw [List.pairwise_iff_getElem]
    intro i j hi hj hij
    have hl : d.toList.length = 4 := by simpa using h1'
    have h := hs i j (Nat.zero_le _) hij (by omega)
    rw [fallU_lt, getElem!_pos d j (by simpa using hj), getElem!_pos d i (by simpa using hi)] at h
    simpa using h
  rw [← Array.toArray_toList (xs := d), h4]; rfl

/-- slices.SortFunc at a box of four. -/
theorem sortU_any (x : V4) (b : Nat) (W : World) (h : Bf W b (cellsV x)) :
    Calls Try.prog 35 #[.slice (some ⟨b, 0, none⟩) 4 4, .func (.func 36) #[] #[]] W fun e w' => e = .returned (.tuple #[]) ∧ Bf w' b (cellsV (downV x)) ∧ (∀ b' cs, b' ≠ b → Bf W b' cs → Bf w' b' cs) ∧ (∀ B, B ≤ b → Below B W w') ∧ w'.heap.size = W.heap.size := by
  have eg : ∀ args w, (callFunc 36 args).run Try.prog w = .ok (.enter 36 args) w := enters_of Try.func36 (by kernel_rfl) rfl
  have hH := holdsU h
  have hcon := Any.slices_SortFunc_small_sorted Try.laysSortU (Value.int .u64) (fun _ => rfl) (fun a b => cmpI b a) swoU 36 #[] b 0 4 #[x.a, x.b, x.c, x.d] W eg (fun _ _ _ _ p q => fallsU_any p q _) hH (by simp) (fun n V hn => len_any n V hn)
  change Calls Try.prog 35 _ _ _ at hcon
  refine hcon.mono fun e w' ⟨he, d', n, hp, hs, hw⟩ => ?_
  have hd := downU hp hs
  subst hd hw
  refine ⟨he, ⟨?_, ?_, ?_⟩, ?_, ?_, ?_⟩
  · show b < (Sort.putRow (Value.int .u64) W b 0 _).heap.size
    rw [Sort.size_putRow]; exact h.lt
  · intro j u hu
    have hj : j < 4 := by have := (List.getElem?_eq_some_iff.1 hu).1; simpa [cellsV] using this
    have hc := Sort.cell?_putRow (Value.int .u64) W b 0 _ #[(downV x).a, (downV x).b, (downV x).c, (downV x).d] hH rfl j hj
    rw [Nat.zero_add] at hc
    show (Sort.putRow (Value.int .u64) W b 0 _).cell? _ = _
    rw [hc]
    rcases (show j = 0 ∨ j = 1 ∨ j = 2 ∨ j = 3 by omega) with rfl | rfl | rfl | rfl <;> exact hu
  · intro o
    show (Sort.putRow (Value.int .u64) W b 0 _).frozen? _ = false
    rw [Sort.frozen?_putRow]
    exact h.frozen o
  · intro b' cs hne h'
    refine ⟨?_, ?_, ?_⟩
    · show b' < (Sort.putRow (Value.int .u64) W b 0 _).heap.size
      rw [Sort.size_putRow]; exact h'.lt
    · intro j u hu
      show (Sort.putRow (Value.int .u64) W b 0 _).cell? _ = _
      rw [Sort.cell?_putRow_other _ _ _ _ _ _ (.inl hne)]
      exact h'.cell j u hu
    · intro o
      show (Sort.putRow (Value.int .u64) W b 0 _).frozen? _ = false
      rw [Sort.frozen?_putRow]
      exact h'.frozen o
  · intro B hB
    refine ⟨rfl, rfl, rfl, ?_, fun k hk => ?_⟩
    · show W.heap.size ≤ (Sort.putRow (Value.int .u64) W b 0 _).heap.size
      rw [Sort.size_putRow]; exact Nat.le_refl _
    · show (Sort.putRow (Value.int .u64) W b 0 _).heap[k]? = _
      have hne : b ≠ k := by omega
      simp [Sort.putRow, Sort.mapBlock, Array.getElem?_modify, hne]
  · show (Sort.putRow (Value.int .u64) W b 0 _).heap.size = _
    rw [Sort.size_putRow]

set_option maxHeartbeats 3200000 in
set_option maxRecDepth 100000 in
theorem falling_any (x : V4) (w : World) : Calls Try.prog 28 #[aggV x] w fun e w' => e = .returned (aggV (downV x)) ∧ Below w.heap.size w w' := by
  have B0 : Bf (w.alloc (.cells (cellsV x).toArray 31)) w.heap.size (cellsV x) := Bf.new w (cellsV x) 31 rfl
  have B1 := B0.alloc (.cells (cellsV .zer).toArray 31)
  have Z1 : Bf ((w.alloc (.cells (cellsV x).toArray 31)).alloc (.cells (cellsV .zer).toArray 31)) (w.heap.size + 1) (cellsV .zer) := Bf.new _ (cellsV .zer) 31 (by simp)
  have k1 : Below w.heap.size w ((w.alloc (.cells (cellsV x).toArray 31)).alloc (.cells (cellsV .zer).toArray 31)) := ((Below.refl _ w).alloc (Nat.le_refl _) _).alloc (by simp) _
  have HC := Lib.hid (sortU_any x w.heap.size _ B1)
  have hz := B1.lt
  have HZ := Lib.hid Z1
  clear B0 B1 Z1
  go_enter Try.func28, Try.ntmps28
  go_wp2_with fail
  refine HC.out.mono ?_
  rintro e w1 ⟨rfl, hb1, ho1, hk1, hs1⟩
  have Z2 := ho1 _ _ (by omega) HZ.out
  have k2 := k1.trans (hk1 _ (Nat.le_refl _))
  obtain ⟨a0, a1, a2, a3, a4⟩ := hb1.cells4
  obtain ⟨⟨g0, g1, g2, g3⟩, g4⟩ := Z2.zero4
  obtain ⟨f0, f1, f2, f3⟩ := Z2.free4
  clear hb1 ho1 hk1 hs1 Z2 k1 hz
  go_wp2
  refine bodyPost_ret (v := aggV (downV x)) ?_ rfl ?_
  · simp [results, Try.results28, go_sem, *]
  · refine ⟨rfl, ?_⟩
    repeat (first | with_reducible exact k2 | with_reducible refine Below.setCell ?_ ?_ _)
    all_goals first | (show w.heap.size ≤ w.heap.size + 1; omega) | (simp; omega) | omega
end Go.Proofs.Ytffdemagdagmpaa
