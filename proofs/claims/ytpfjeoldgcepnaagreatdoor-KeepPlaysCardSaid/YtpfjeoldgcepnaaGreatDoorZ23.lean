/- Joined texts, part 23: VY V0 VZ VZB UE WA WP WT WY XK. -/
import Derived.Test.YtpfjeoldgcepnaaGreatDoorZ21
import Derived.Test.YtpfjeoldgcepnaaGreatDoorZ22
import Derived.Test.YtpfjeoldgcepnaaGreatDoorZ19
import Derived.Test.YtpfjeoldgcepnaaGreatDoorZ06
import Derived.Test.YtpfjeoldgcepnaaGreatDoorZ14
import Derived.Test.YtpfjeoldgcepnaaGreatDoorZ03
import Derived.Test.YtpfjeoldgcepnaaGreatDoorZ13
import Derived.Laws.OwnMore
import Derived.Test.YtpfjeoldgcepnaaGreatDoorZ04
import Derived.Test.YtpfjeoldgcepnaaGreatDoorZ09
import Derived.Maps.AppendAt
import Derived.Test.YtpfjeoldgcepnaaGreatDoorZ02
import Derived.Test.YtpfjeoldgcepnaaGreatDoorZ12
import Derived.Deep.CutRange
import Derived.Test.YtpfjeoldgcepnaaGreatDoorZ15
import Derived.Deep.RegionHeld3

/- The head of layer 13's laws: a keeper of one node without pods. -/
namespace Go.Proofs.YtpfjeoldgcepnaaGreatDoor
set_option linter.unusedSimpArgs false
open Go.RowKit
set_option linter.unusedVariables false

def upN13 : NodeD := ⟨3, 1, ⟨4, 0, 0, 0⟩, ⟨0, 0, 0, 0⟩⟩
def upS13 : SnapD := ⟨[upN13], [], []⟩
def upX13 : SpecD := ⟨[], 0, 0⟩
theorem up13_fair : (fair upS13 upX13).1 = 0 := by decide
theorem up13_safe : codeS upS13.nodes upS13.loads upX13 (firstD upS13) = 0 := by decide
theorem up13_rest : restD [upN13] [] 3 = (⟨4, 0, 0, 0⟩, 0) := by rfl
theorem upN13_ok : ∀ x ∈ [upN13], x.Ok := by
  intro x hx
  obtain rfl := List.mem_singleton.1 hx
  exact ⟨⟨by decide, by decide⟩, ⟨by decide, by decide⟩, ⟨⟨by decide, by decide⟩, ⟨by decide, by decide⟩, ⟨by decide, by decide⟩, ⟨by decide, by decide⟩⟩, ⟨⟨by decide, by decide⟩, ⟨by decide, by decide⟩, ⟨by decide, by decide⟩, ⟨by decide, by decide⟩⟩⟩

set_option maxHeartbeats 6400000 in
set_option maxRecDepth 100000 in
theorem up13_any (w : World) (hg : Laid w) : Calls Tryz.prog 5 #[] w fun e w' => e = .returned (.bool true) ∧ Below w.heap.size w w' := by
  have hb0 := below_new w (.cells #[.int .i64 3, .int .i64 1, .int .u64 4, .int .u64 0, .int .u64 0, .int .u64 0, .int .u64 0, .int .u64 0, .int .u64 0, .int .u64 0] 63)
  have hr0 : Recs 10 cellsN (w.alloc (.cells #[.int .i64 3, .int .i64 1, .int .u64 4, .int .u64 0, .int .u64 0, .int .u64 0, .int .u64 0, .int .u64 0, .int .u64 0, .int .u64 0] 63)) (w.heap.size + 1) (some ⟨w.heap.size, 0, none⟩) [upN13] := recs_one (cells := cellsN) (size := 10) w upN13 63 rfl
  have hsz : (w.alloc (.cells #[.int .i64 3, .int .i64 1, .int .u64 4, .int .u64 0, .int .u64 0, .int .u64 0, .int .u64 0, .int .u64 0, .int .u64 0, .int .u64 0] 63)).heap.size = w.heap.size + 1 := by simp
  have HN := Lib.hid (keepNew_any upS13 upX13 (some ⟨w.heap.size, 0, none⟩) none none none 1 1 0 0 0 0 0 0 _ ⟨Laid.below hg hb0 (Nat.le_refl _), ⟨upN13_ok, fun _ h => by simp [upS13] at h, fun _ h => by simp [upS13] at h⟩, (fun _ h => by simp [upX13] at h), ⟨by decide, by decide⟩, ⟨by decide, by decide⟩, ⟨rfl, by decide, by decide, by decide⟩, ⟨rfl, by decide, by decide, by decide⟩, ⟨rfl, by decide, by decide, by decide, fun _ => rfl⟩, ⟨rfl, by decide, by decide, by decide⟩, hr0.more (by simp), Recs.nil, Recs.nil, Recs.nil⟩ (fun h => by cases h) (fun _ => rfl) (fun _ => rfl))
  have HB0 := Lib.hid hb0
  clear hr0 hg hb0 hsz
  have hve := fun w => vec_is ⟨4, 0, 0, 0⟩ ⟨4, 0, 0, 0⟩ w
  go_enter Tryz.func5, Tryz.ntmps5
  go_wp2_with fail
  refine HN.out.mono ?_
  rintro e w1 ⟨hb1, h⟩
  rcases h with ⟨h, _⟩ | ⟨_, h, _⟩ | ⟨_, _, K, rfl, hk, hfar, hF⟩
  · exact absurd up13_fair h
  · exact absurd up13_safe h
  have HK := Lib.hid hk
  have HF := Lib.hid hF
  have HB1 := Lib.hid (HB0.out.trans (hb1.mono HB0.out.size))
  have HR := Lib.hid (keepRest_any 3 w1 hk hF)
  clear hb1 hk hF hfar HN HB0
  rw [show restD upS13.nodes (firstD upS13).pods 3 = (⟨4, 0, 0, 0⟩, 0) from up13_rest] at HR
  go_wp2_with fail
  refine HR.out.mono ?_
  rintro e w2 ⟨rfl, hb2⟩
  have kb := below_new w2 (.cells #[.int .u64 4, .int .u64 0, .int .u64 0, .int .u64 0] 59)
  have hbv : Bf (w2.alloc (.cells #[.int .u64 4, .int .u64 0, .int .u64 0, .int .u64 0] 59)) w2.heap.size (cellsV ⟨4, 0, 0, 0⟩) := Bf.new w2 (cellsV ⟨4, 0, 0, 0⟩) 59 rfl
  have HK2 := Lib.hid ((HK.out.below hb2).below kb)
  have HB2 := Lib.hid ((HB1.out.trans (hb2.mono HB1.out.size)).trans (kb.mono (HB1.out.trans (hb2.mono HB1.out.size)).size))
  have HV := Lib.hid hbv
  clear hb2 kb hbv HK HB1 HR
  go_upto_region 5 with fail
  generalize (w2.alloc (.cells #[.int .u64 4, .int .u64 0, .int .u64 0, .int .u64 0] 59)) = W at *
  generalize w2.heap.size = g at *
  have HUN := Lib.hid (keepUndo_any W HK2.out HF.out (by unfold maxLen; omega))
  go_wp2_with fail
  refine HUN.out.mono ?_
  rintro e w3 h
  rcases h with ⟨_, rfl, hb3⟩ | ⟨ds', d, h, _⟩
  · have HK3 := Lib.hid (HK2.out.below hb3)
    have HB3 := Lib.hid (HB2.out.trans (hb3.mono HB2.out.size))
    have HV3 := Lib.hid (HV.out.below hb3 HV.out.lt)
    have HD := Lib.hid (keepDone_any w3 HK3.out)
    clear hb3 HUN HK2 HB2 HV
    go_wp2_with fail
    refine HD.out.mono ?_
    rintro e w4 ⟨rfl, hb4⟩
    have HB4 := Lib.hid (HB3.out.trans (hb4.mono HB3.out.size))
    have hv := HV3.out.below hb4 HV3.out.lt
    obtain ⟨b0, b1, b2, b3, b4⟩ := hv.cells4
    clear hb4 hv
    go_wp2
    go_ret
    exact ⟨rfl, HB4.out⟩
  · exact absurd h (by simp)
end Go.Proofs.YtpfjeoldgcepnaaGreatDoor

/- What stands beside a keeper in a law: the call's boxes, and the first state that was told. -/
namespace Go.Proofs.YtpfjeoldgcepnaaGreatDoor
set_option linter.unusedSimpArgs false
open Go.RowKit
set_option linter.unusedVariables false

/-- The call's two boxes, and a third one with a state that was told. -/
structure BackB (a b : List Value) (l0 : List PodD) (p1 p2 : Int) (g : Nat) (A : Option Addr) (c : Nat) (w V : World) : Prop where
  two : T2 a b w V
  box : Bf V g [.slice A l0.length c, .int .i64 p1, .int .i64 p2]
  out : Out 8 cellsP V l0 A c
/-- The keeper's memory lies apart from it. -/
def Aside (K : KAddr) (l0 : List PodD) (g : Nat) (A : Option Addr) (w : World) : Prop := ∀ i ∈ K.all, w.heap.size + 2 ≤ i ∧ i ≠ g ∧ ∀ e, A = some e → l0 ≠ [] → e.block ≠ i
section
variable {a b : List Value} {l0 : List PodD} {p1 p2 : Int} {g : Nat} {A : Option Addr} {c : Nat} {w V V' : World} {K K' : KAddr}
theorem BackB.keep (h : BackB a b l0 p1 p2 g A c w V) (hb : Below V.heap.size V V') : BackB a b l0 p1 p2 g A c w V' := ⟨h.two.keep hb, h.box.below hb h.box.lt, h.out.later hb⟩
theorem BackB.only (h : BackB a b l0 p1 p2 g A c w V) (hs : Aside K l0 g A w) (ho : Only K.all V V') : BackB a b l0 p1 p2 g A c w V' := by
  refine ⟨⟨h.two.one.only ho (fun e => by have := (hs _ e).1; omega), h.two.two.only ho (fun e => by have := (hs _ e).1; omega), h.two.below.trans (ho.below h.two.below.size (fun i hi => by have := (hs i hi).1; omega))⟩, h.box.only ho (fun e => (hs _ e).2.1 rfl), h.out.1, h.out.2.1, h.out.2.2.1, ?_⟩
  by_cases hl : l0 = []
  · exact .inl hl
  · exact recs_only h.out.2.2.2 ho (fun e he hi => (hs _ hi).2.2 e he hl rfl)
theorem BackB.past {V0 : World} {S : List Nat} (h0 : BackB a b l0 p1 p2 g A c w V0) (h : BackB a b l0 p1 p2 g A c w V) (ho : Only S V V') (hS : ∀ i ∈ S, V0.heap.size ≤ i) : BackB a b l0 p1 p2 g A c w V' := by
  have h1 := h0.two.two.lt
  have h2 := h0.box.lt
  refine ⟨⟨h.two.one.only ho (fun e => by have := hS _ e; omega), h.two.two.only ho (fun e => by have := hS _ e; omega), h.two.below.trans (ho.below h.two.below.size (fun i hi => by have := hS i hi; omega))⟩, h.box.only ho (fun e => by have := hS _ e; omega), h.out.1, h.out.2.1, h.out.2.2.1, ?_⟩
  by_cases hl : l0 = []
  · exact .inl hl
  · exact recs_only h.out.2.2.2 ho (fun e he hi => by have := hS _ hi; have := recs_ltK h0.out.2.2.2 hl he; omega)
theorem Aside.more (h : BackB a b l0 p1 p2 g A c w V) (hs : Aside K l0 g A w) (hK : ∀ i ∈ K'.all, i ∈ K.all ∨ V.heap.size ≤ i) : Aside K' l0 g A w := fun i hi => by
  rcases hK i hi with e | e
  · exact hs i e
  · have h1 := h.two.two.lt
    have h2 := h.box.lt
    exact ⟨by omega, by omega, fun e' he hl => by have := recs_ltK h.out.2.2.2 hl he; omega⟩
end
theorem Out.only {α : Type} {size : Nat} {cells : α → List Value} {l : List α} {w w' : World} {A : Option Addr} {c : Nat} {S : List Nat} (h : Out size cells w l A c) (ho : Only S w w') (hA : ∀ a, A = some a → a.block ∉ S) : Out size cells w' l A c := ⟨h.1, h.2.1, h.2.2.1, recs_only h.2.2.2 ho hA⟩
theorem Kp.blk_lt {K : KAddr} {s : SnapD} {x : SpecD} {t : StateD} {ds : List DeedD} {N : Nat} {w : World} (h : Kp K s x t ds N w) {i : Nat} (hi : KBlk K ds i) : i < w.heap.size := by
  rcases hi with hi | hi | ⟨a, ha, e⟩
  · exact h.all_lt i hi
  · rw [hi]; exact h.k.zone.lt
  · rw [← e]; exact h.low a ha
theorem KBlk.pop {K : KAddr} {ds : List DeedD} {d : DeedD} {i : Nat} (h : KBlk K ds i) : KBlk K (ds ++ [d]) i := by
  rcases h with h | h | ⟨a, ha, e⟩
  · exact .inl h
  · exact .inr (.inl h)
  · exact .inr (.inr ⟨a, ha.imp id (fun h => h.imp id (fun h => h.imp id (fun h => h.imp id (fun ⟨d', hd, e⟩ => ⟨d', List.mem_append.2 (.inl hd), e⟩)))), e⟩)
/-- A keeper stays where other blocks are written. -/
theorem Kp.only {K : KAddr} {s : SnapD} {x : SpecD} {t : StateD} {ds : List DeedD} {N : Nat} {w w' : World} {S : List Nat} (h : Kp K s x t ds N w) (ho : Only S w w') (hS : ∀ i ∈ S, ¬ KBlk K ds i) : Kp K s x t ds N w' := by
  have hs := h.k.sep
  have hn : ∀ i, KBlk K ds i → i ∉ S := fun i hi e => hS i e hi
  have hall : ∀ i ∈ K.all, i ∉ S := fun i hi => hn i (.inl hi)
  have h4 : ∀ i ∈ K.M.four, i ∉ S := fun i hi => hall i (mem_all.2 (.inr (.inr (.inr hi))))
  refine ⟨⟨hs, h.k.box.only ho (hall _ (mem_all.2 (.inl rfl))), h.k.pods.kept ho (fun a ha => hall _ (mem_all.2 (.inr (.inl ⟨a, ha, rfl⟩)))), h.k.cnt.kept ho (h4 _ (by simp)) (h4 _ (by simp)) (h4 _ (by simp)) (h4 _ (by simp)), h.k.zone.kept ho (hn _ (.inr (.inl rfl))), recs_only h.k.r1 ho (fun a ha => hn _ (.inr (.inr ⟨a, .inl ha, rfl⟩))), recs_only h.k.r2 ho (fun a ha => hn _ (.inr (.inr ⟨a, .inr (.inl ha), rfl⟩))), recs_only h.k.r3 ho (fun a ha => hn _ (.inr (.inr ⟨a, .inr (.inr (.inl ha)), rfl⟩))), recs_only h.k.r5 ho (fun a ha => hn _ (.inr (.inr ⟨a, .inr (.inr (.inr (.inl ha))), rfl⟩)))⟩,
    h.row.kept ho (fun a ha => hall _ (mem_all.2 (.inr (.inr (.inl ⟨a, ha, rfl⟩))))), fun d hd => ⟨recs_only (h.parts d hd).1 ho (fun a ha => hn _ (.inr (.inr ⟨a, .inr (.inr (.inr (.inr ⟨d, hd, ha⟩))), rfl⟩))), (h.parts d hd).2⟩, h.fine, h.safe, h.chain, fun a ha => Nat.lt_of_lt_of_le (h.low a ha) ho.size⟩
end Go.Proofs.YtpfjeoldgcepnaaGreatDoor

/- What stands beside a keeper while a law plays moves, done and taken back: the state at hand, and the states ahead. -/
namespace Go.Proofs.YtpfjeoldgcepnaaGreatDoor
set_option linter.unusedSimpArgs false
open Go.RowKit
set_option linter.unusedVariables false

/-- A state that was kept, and where its pods lie. -/
structure TD where
  t : StateD
  A : Option Addr
  c : Nat
def cellsTD (d : TD) : List Value := [.slice d.A d.t.pods.length d.c, .int .i64 d.t.preempts, .int .i64 d.t.shifts]
theorem lenTD (d : TD) : (cellsTD d).length = 3 := rfl
theorem oneTD (d : TD) : ∀ u ∈ cellsTD d, u.oneCell' = true := by
  intro u hu; simp only [cellsTD, List.mem_cons, List.not_mem_nil, or_false] at hu
  rcases hu with rfl | rfl | rfl <;> rfl
theorem infoStateT : (Tryz.prog.info? 42).map (fun i => (i.zero, i.size, i.bytes)) = some (some (.agg #[.slice none 0 0, .int .i64 0, .int .i64 0]), 3, 40) := by kernel_rfl
theorem info_partsT : ∃ i, Tryz.prog.info? 42 = some i ∧ i.zero = some (.agg #[.slice none 0 0, .int .i64 0, .int .i64 0]) ∧ i.size = 3 ∧ i.bytes = 40 := by
  have hinfo := infoStateT
  cases hi : Tryz.prog.info? 42 with
  | none => rw [hi] at hinfo; cases hinfo
  | some i =>
    rw [hi] at hinfo
    have h := Option.some.inj hinfo
    simp only [Prod.mk.injEq] at h
    exact ⟨i, rfl, h.1, h.2.1, h.2.2⟩
theorem own_formT {w : World} {B : Nat} {v : Value} {n : Nat} {xs : List Value} {e : TypeId} {size : Nat} (h : w.ownsRow B e size v n xs) (hn : v ≠ .slice none 0 0) : ∃ g cap, v = .slice (some ⟨g, 0, none⟩) n cap ∧ B ≤ g := by
  rcases h.2 with ⟨hv, _⟩ | ⟨g, cap, cur, hv, hb, _⟩
  · exact absurd hv hn
  · exact ⟨g, cap, hv, hb⟩
section
variable {o : Oper} {a : Act} {Q : Exit → Act → World → Prop} {ops : Array Oper} {wr : World} {K : Act → World → Prop} {E : Prop}
set_option maxRecDepth 100000 in
/-- append of all states of a row, nil or not, to an empty row of the call's own, at a step of a region that draws its order. -/
theorem step_copyT (hgd : o.guard = none) (s x : Operand) (ho : o.op = .call { callee := .builtin .append, args := #[s, x], argTypes := #[46, 46] })
    {A : Option Addr} {c : Nat} {tds : List TD} (B : Nat) (hout : Out 3 cellsTD wr tds A c) {g0 : Nat} (hown : wr.ownsRow B 42 3 (.slice (some ⟨g0, 0, none⟩) 0 0) 0 []) (hs : a.eval s = .slice (some ⟨g0, 0, none⟩) 0 0) (hx : a.eval x = .slice A tds.length c) (hB : B ≤ wr.heap.size) (hl : tds.length ≤ 1000)
    (h : ∀ g c' w', w'.ownsRow B 42 3 (.slice (some ⟨g, 0, none⟩) tds.length c') tds.length (tds.flatMap cellsTD) → wr.grownBy w' (some g0) → K (a.put o.dst (.slice (some ⟨g, 0, none⟩) tds.length c')) w') :
    if Region.wanted o (yielded ops a.tmps) = true then Oper.wp Tryz.prog o a wr K Q else E := by
  obtain ⟨i0, hi, hz0, hz1, hz2⟩ := info_partsT
  have hw : Region.wanted o (yielded ops a.tmps) = true := by simp [Region.wanted, hgd]
  rw [if_pos hw]
  cases A with
  | none =>
    have h0 : tds = [] := by
      rcases hout.2.2.2 with h0 | ⟨_, _, h0, _⟩
      · exact h0
      · cases h0
    subst h0
    have hc0 := hout.2.2.1 rfl
    subst hc0
    have hr := run_append_owned_none (P := Tryz.prog) (w := wr) B 46 o.type 42 i0 3 Tryz.underlying46 hi _ 0 [] hown
    have hx' : a.eval x = .slice none 0 0 := hx
    unfold Oper.wp execOp
    simp only [ho, resolve, invoke, builtin, Sem.run_bind, Sem.run_pure, Result.andThen_ok, List.map_toArray, List.map_cons, List.map_nil, hs, hx', hr]
    exact h g0 0 wr hown (World.grownBy.refl _ _)
  | some ad =>
    have hn1 : ∀ j u, (tds.flatMap cellsTD)[j]? = some u → wr.cell? (ad.add j) = some u := by
      intro j y hy
      rcases hout.2.2.2 with h0 | ⟨b, o', h0, hb, h1⟩
      · rw [h0] at hy; simp at hy
      · injection h0 with h0
        subst h0
        have hj := (List.getElem?_eq_some_iff.1 hy).1
        rw [flatMap_len lenTD] at hj
        have hi' : j / 3 < tds.length := Nat.div_lt_of_lt_mul (by rw [Nat.mul_comm]; exact hj)
        have hjm : j % 3 < 3 := Nat.mod_lt _ (by decide)
        have hdm : j / 3 * 3 + j % 3 = j := by rw [Nat.mul_comm]; exact Nat.div_add_mod j 3
        have e1 := flatMap_get (size := 3) lenTD hi' hjm
        rw [hdm] at e1
        have := h1 (j / 3) hi' (j % 3) y (by rw [← e1]; exact hy)
        rw [Addr.add_lit, ← hdm]
        rwa [Nat.add_assoc] at this
    have hn2 : ∀ u ∈ tds.flatMap cellsTD, u.oneCell' = true := by
      intro u hu'
      rcases List.mem_flatMap.1 hu' with ⟨x, _, hx'⟩
      exact oneTD x u hx'
    obtain ⟨v', w', hr, h2, h3, h4, _⟩ := run_append_own_at (P := Tryz.prog) wr B 46 o.type 42 i0 _ 3 40 Tryz.underlying46 hi hz0 hz1 hz2 rfl (by decide) _ 0 [] hown ad tds.length c (tds.flatMap cellsTD) (flatMap_len lenTD _) hn1 hn2 (by unfold maxLen; omega) (by omega) hB
    obtain ⟨g, cap, rfl, _⟩ := own_formT h2 (fun e => by have := (h4.1 e).1; cases this)
    unfold Oper.wp execOp
    simp only [ho, resolve, invoke, builtin, Sem.run_bind, Sem.run_pure, Result.andThen_ok, List.map_toArray, List.map_cons, List.map_nil, hs, hx, hr]
    have e0 : (0 + tds.length) = tds.length := Nat.zero_add _
    rw [e0] at h2 ⊢
    exact h g cap w' h2 h3
/-- append of one state. -/
theorem step_moreT (hgd : o.guard = none) (s x : Operand) (ho : o.op = .call { callee := .builtin .append, args := #[s, x], argTypes := #[46, 46] })
    (B : Nat) {n gv cv : Nat} {xs : List Value} (hown : wr.ownsRow B 42 3 (.slice (some ⟨gv, 0, none⟩) n cv) n xs) (hs : a.eval s = .slice (some ⟨gv, 0, none⟩) n cv) {g0 : Nat} (hx : a.eval x = .slice (some ⟨g0, 0, none⟩) 1 1) (ys : List Value) (hu : ∀ u ∈ ys, u.oneCell' = true) (hn : ys.length = 3) (hc : ∀ j u, ys[j]? = some u → wr.cell? ⟨g0, j, none⟩ = some u) (hB : B ≤ wr.heap.size) (hl : n ≤ 1000)
    (h : ∀ g cap w', w'.ownsRow B 42 3 (.slice (some ⟨g, 0, none⟩) (n + 1) cap) (n + 1) (xs ++ ys) → wr.grownBy w' (some gv) → K (a.put o.dst (.slice (some ⟨g, 0, none⟩) (n + 1) cap)) w') :
    if Region.wanted o (yielded ops a.tmps) = true then Oper.wp Tryz.prog o a wr K Q else E := by
  obtain ⟨i0, hi, hz0, hz1, hz2⟩ := info_partsT
  refine step_append_lies wr hgd s x 46 ho B 42 i0 _ 3 40 Tryz.underlying46 hi hz0 hz1 hz2 rfl (by decide) (.slice (some ⟨gv, 0, none⟩) n cv) n xs hs hown ⟨g0, 0, none⟩ 1 1 ys hx (by rw [hn]) ?_ hu (by decide) (by unfold maxLen; omega) (by omega) hB _ rfl (fun g cap w' h1 h2 _ _ => h g cap w' h1 h2)
  intro j u hj
  have e : Addr.add ⟨g0, 0, none⟩ j = ⟨g0, j, none⟩ := by
    simp only [Addr.add, Nat.zero_add]
    split
    · rename_i e; rw [e]
    · rfl
  rw [e]
  exact hc j u hj
end

theorem Out.onlyN {α : Type} {size : Nat} {cells : α → List Value} {l : List α} {w w' : World} {A : Option Addr} {c : Nat} {S : List Nat} (h : Out size cells w l A c) (ho : Only S w w') (hA : ∀ e, A = some e → l ≠ [] → e.block ∉ S) : Out size cells w' l A c := by
  refine ⟨h.1, h.2.1, h.2.2.1, ?_⟩
  by_cases hl : l = []
  · exact .inl hl
  · exact recs_only h.2.2.2 ho (fun e he => hA e he hl)
theorem out_lt {α : Type} {size : Nat} {cells : α → List Value} {l : List α} {w : World} {A : Option Addr} {c : Nat} (h : Out size cells w l A c) (hl : l ≠ []) {e : Addr} (he : A = some e) : e.block < w.heap.size := by
  rcases h.2.2.2 with h0 | ⟨b, o, e2, hb, _⟩
  · exact absurd h0 hl
  · rw [he] at e2; injection e2 with e2; rw [e2]; exact hb
/-- The law's memory: its boxes, the state at hand in one of them, and the states ahead. -/
structure PlayB (a b : List Value) (g : Nat) (t : StateD) (A : Option Addr) (c : Nat) (Ad : Option Addr) (cd : Nat) (tds : List TD) (w V : World) : Prop where
  two : T2 a b w V
  box : Bf V g [.slice A t.pods.length c, .int .i64 t.preempts, .int .i64 t.shifts]
  out : Out 8 cellsP V t.pods A c
  row : Out 3 cellsTD V tds Ad cd
  rows : ∀ d ∈ tds, Out 8 cellsP V d.t.pods d.A d.c
def PBlk (t : StateD) (A Ad : Option Addr) (tds : List TD) (i : Nat) : Prop :=
  (∃ e, A = some e ∧ t.pods ≠ [] ∧ e.block = i) ∨ (∃ e, Ad = some e ∧ tds ≠ [] ∧ e.block = i) ∨ ∃ d ∈ tds, ∃ e, d.A = some e ∧ d.t.pods ≠ [] ∧ e.block = i
/-- The keeper's memory, the law's, and the box lie apart. -/
structure AsideP (K : KAddr) (ds : List DeedD) (g : Nat) (t : StateD) (A Ad : Option Addr) (tds : List TD) (w : World) : Prop where
  k : ∀ i ∈ K.all, w.heap.size + 2 ≤ i ∧ i ≠ g ∧ ¬ PBlk t A Ad tds i
  hg : ¬ KBlk K ds g
  hp : ¬ PBlk t A Ad tds g
section
variable {a b : List Value} {g : Nat} {t : StateD} {A : Option Addr} {c : Nat} {Ad : Option Addr} {cd : Nat} {tds : List TD} {w V V' : World} {K : KAddr} {ds : List DeedD}
theorem PlayB.keep (h : PlayB a b g t A c Ad cd tds w V) (hb : Below V.heap.size V V') : PlayB a b g t A c Ad cd tds w V' := ⟨h.two.keep hb, h.box.below hb h.box.lt, h.out.later hb, h.row.later hb, fun d hd => (h.rows d hd).later hb⟩
theorem PlayB.blk_lt (h : PlayB a b g t A c Ad cd tds w V) {i : Nat} (hi : PBlk t A Ad tds i) : i < V.heap.size := by
  rcases hi with ⟨e, he, hl, hi⟩ | ⟨e, he, hl, hi⟩ | ⟨d, hd, e, he, hl, hi⟩
  · rw [← hi]; exact out_lt h.out hl he
  · rw [← hi]; exact out_lt h.row hl he
  · rw [← hi]; exact out_lt (h.rows d hd) hl he
/-- What is told of rows, where other blocks are written. -/
theorem PlayB.rowsAt {S : List Nat} (h : PlayB a b g t A c Ad cd tds w V) (ho : Only S V V') (hS : ∀ i ∈ S, ¬ PBlk t A Ad tds i) : Out 8 cellsP V' t.pods A c ∧ Out 3 cellsTD V' tds Ad cd ∧ ∀ d ∈ tds, Out 8 cellsP V' d.t.pods d.A d.c :=
  ⟨h.out.onlyN ho (fun e he hl hi => hS _ hi (.inl ⟨e, he, hl, rfl⟩)), h.row.onlyN ho (fun e he hl hi => hS _ hi (.inr (.inl ⟨e, he, hl, rfl⟩))), fun d hd => (h.rows d hd).onlyN ho (fun e he hl hi => hS _ hi (.inr (.inr ⟨d, hd, e, he, hl, rfl⟩)))⟩
theorem T2.only {S : List Nat} (h : T2 a b w V) (ho : Only S V V') (hS : ∀ i ∈ S, w.heap.size + 2 ≤ i) : T2 a b w V' :=
  ⟨h.one.only ho (fun e => by have := hS _ e; omega), h.two.only ho (fun e => by have := hS _ e; omega), h.below.trans (ho.below h.below.size (fun i hi => by have := hS i hi; omega))⟩
theorem PlayB.only (h : PlayB a b g t A c Ad cd tds w V) (hs : AsideP K ds g t A Ad tds w) (ho : Only K.all V V') : PlayB a b g t A c Ad cd tds w V' := by
  obtain ⟨h1, h2, h3⟩ := h.rowsAt ho (fun i hi => (hs.k i hi).2.2)
  exact ⟨h.two.only ho (fun i hi => (hs.k i hi).1), h.box.only ho (fun e => (hs.k _ e).2.1 rfl), h1, h2, h3⟩
end
theorem map_snoc {tds : List TD} {ds : List DeedD} {d : DeedD} (h : tds.map TD.t = (ds ++ [d]).map DeedD.t) : ∃ tds' td, tds = tds' ++ [td] ∧ td.t = d.t ∧ tds'.map TD.t = ds.map DeedD.t := by
  rcases List.eq_nil_or_concat tds with rfl | ⟨tds', td, rfl⟩
  · simp at h
  · rw [List.concat_eq_append] at *
    simp only [List.map_append, List.map_cons, List.map_nil] at h
    obtain ⟨h1, h2⟩ := List.append_inj' h rfl
    exact ⟨tds', td, rfl, by simpa using h2, h1⟩
theorem Out.pop {α : Type} {size : Nat} {cells : α → List Value} {l : List α} {x : α} {w : World} {A : Option Addr} {c : Nat} (h : Out size cells w (l ++ [x]) A c) : Out size cells w l A c := by
  have h1 := h.1
  simp at h1
  refine ⟨by omega, h.2.1, h.2.2.1, ?_⟩
  rcases h.2.2.2 with h0 | ⟨b, o, e, hb, hc⟩
  · simp at h0
  · exact .inr ⟨b, o, e, hb, fun i hi j u hu => hc i (by simp; omega) j u (by rw [List.getElem_append_left hi]; exact hu)⟩
end Go.Proofs.YtpfjeoldgcepnaaGreatDoor

/- What stands beside a keeper behind a move that is done, and behind one that is taken back. -/
namespace Go.Proofs.YtpfjeoldgcepnaaGreatDoor
set_option linter.unusedSimpArgs false
open Go.RowKit
set_option linter.unusedVariables false

/-- What stands while moves are played. -/
def PlaySt (s : SnapD) (x : SpecD) (a b : List Value) (kb g i N : Nat) (w : World) (v : Value) (V : World) : Prop :=
  ∃ (t : StateD) (ds : List DeedD) (K : KAddr) (A : Option Addr) (c : Nat) (Ad : Option Addr) (cd : Nat) (tds : List TD), v = .slice Ad tds.length cd ∧ tds.map TD.t = ds.map DeedD.t ∧ ds.length ≤ i ∧ Kp K s x t ds N V ∧ AsideP K ds g t A Ad tds w ∧ K.kb = kb ∧ w.heap.size + 2 ≤ g ∧ PlayB a b g t A c Ad cd tds w V
section
variable {s : SnapD} {x : SpecD} {a b : List Value} {kb g i N N' : Nat} {w V V' : World} {v : Value}
theorem PlaySt.below (h : PlaySt s x a b kb g i N w v V) (hb : Below V.heap.size V V') : PlaySt s x a b kb g i N w v V' := by
  obtain ⟨t, ds, K, A, c, Ad, cd, tds, h1, h2, h3, h4, h5, h6, h7, h8⟩ := h
  exact ⟨t, ds, K, A, c, Ad, cd, tds, h1, h2, h3, h4.below hb, h5, h6, h7, h8.keep hb⟩
theorem play_undo {K : KAddr} {t : StateD} {A Ad : Option Addr} {c cd : Nat} {tds : List TD} {td : TD} {ds : List DeedD} {d : DeedD} (hs : AsideP K (ds ++ [d]) g t A Ad (tds ++ [td]) w) (hB : PlayB a b g t A c Ad cd (tds ++ [td]) w V) (hk : Kp K s x d.t ds N V) (htd : td.t = d.t) (hm : tds.map TD.t = ds.map DeedD.t) (hl : ds.length ≤ i) (hkb : K.kb = kb) (hg : w.heap.size + 2 ≤ g)
    (ho : Only [g] V V') (hbx : Bf V' g [.slice td.A td.t.pods.length td.c, .int .i64 td.t.preempts, .int .i64 td.t.shifts]) : PlaySt s x a b kb g i N w (.slice Ad tds.length cd) V' := by
  have hsub : ∀ j, PBlk td.t td.A Ad tds j → PBlk t A Ad (tds ++ [td]) j := fun j hj => by
    rcases hj with ⟨e, he, hn, hj⟩ | ⟨e, he, hn, hj⟩ | ⟨d', hd, e, he, hn, hj⟩
    · exact .inr (.inr ⟨td, by simp, e, he, hn, hj⟩)
    · exact .inr (.inl ⟨e, he, by simp, hj⟩)
    · exact .inr (.inr ⟨d', by simp [hd], e, he, hn, hj⟩)
  obtain ⟨_, h2, h3⟩ := hB.rowsAt ho (fun j hj => by rw [List.mem_singleton.1 hj]; exact hs.hp)
  have hkg : ¬ KBlk K ds g := fun e => hs.hg e.pop
  refine ⟨td.t, ds, K, td.A, td.c, Ad, cd, tds, rfl, hm, hl, ?_, ⟨fun j hj => ⟨(hs.k j hj).1, (hs.k j hj).2.1, fun e => (hs.k j hj).2.2 (hsub j e)⟩, hkg, fun e => hs.hp (hsub g e)⟩, hkb, hg, ⟨hB.two.only ho (fun j hj => by rw [List.mem_singleton.1 hj]; exact hg), hbx, h3 td (by simp), h2.pop, fun d' hd => h3 d' (by simp [hd])⟩⟩
  rw [htd]
  exact hk.only ho (fun j hj => by rw [List.mem_singleton.1 hj]; exact hkg)
theorem play_do {K K' : KAddr} {t u : StateD} {A Ad A8 Ad' : Option Addr} {c cd c8 cd' : Nat} {tds : List TD} {ds : List DeedD} {d : DeedD} {W Vc V7 V8 : World} (hs : AsideP K ds g t A Ad tds w) (hB : PlayB a b g t A c Ad cd tds w Vc) (hd : d.t = t) (hm : tds.map TD.t = ds.map DeedD.t) (hl : ds.length + 1 ≤ i) (hkb : K'.kb = kb) (hg : w.heap.size + 2 ≤ g) (hgW : g < W.heap.size) (hKW : ∀ j ∈ K.all, j < W.heap.size) (hWc : W.heap.size ≤ Vc.heap.size)
    (o8 : Out 8 cellsP Vc u.pods A8 c8) (f8 : ∀ e, A8 = some e → W.heap.size ≤ e.block) (ho7 : Only K.all Vc V7) (hk : Kp K' s x u (ds ++ [d]) N V7) (hall : ∀ j ∈ K'.all, j ∈ K.all ∨ Vc.heap.size ≤ j) (hblk : ∀ j, KBlk K' (ds ++ [d]) j → KBlk K ds j ∨ Vc.heap.size ≤ j)
    (hb8 : Below V7.heap.size V7 V8) (hown : V8.ownsRow V7.heap.size 42 3 (.slice Ad' (tds.length + 1) cd') (tds.length + 1) ((tds ++ [TD.mk t A c]).flatMap cellsTD))
    (ho : Only [g] V8 V') (hbx : Bf V' g [.slice A8 u.pods.length c8, .int .i64 u.preempts, .int .i64 u.shifts]) : PlaySt s x a b kb g i N w (.slice Ad' (tds.length + 1) cd') V' := by
  have hlen : (tds ++ [TD.mk t A c]).length = tds.length + 1 := by simp
  have hgc : g < Vc.heap.size := hB.box.lt
  have h7c : Vc.heap.size ≤ V7.heap.size := ho7.size
  have hAd : ∀ e, Ad' = some e → V7.heap.size ≤ e.block := fun e he => by
    rcases hown.2 with ⟨hv, _⟩ | ⟨g', cap, cur, hv, hb, _⟩
    · injection hv with h1 _ _; rw [he] at h1; cases h1
    · injection hv with h1 _ _; rw [he] at h1; injection h1 with h1; rw [h1]; exact hb
  have hgS : ∀ {j}, j ∈ [g] → j = g := fun h => List.mem_singleton.1 h
  -- rows of old
  obtain ⟨p1, p2, p3⟩ := hB.rowsAt ho7 (fun j hj => (hs.k j hj).2.2)
  have q1 : Out 8 cellsP V' t.pods A c := (p1.later hb8).onlyN ho (fun e he hn hi => hs.hp (.inl ⟨e, he, hn, hgS hi⟩))
  have q3 : ∀ d' ∈ tds, Out 8 cellsP V' d'.t.pods d'.A d'.c := fun d' hd' => ((p3 d' hd').later hb8).onlyN ho (fun e he hn hi => hs.hp (.inr (.inr ⟨d', hd', e, he, hn, hgS hi⟩)))
  have q8 : Out 8 cellsP V' u.pods A8 c8 := ((o8.onlyN ho7 (fun e he hn hi => by have h1 := hKW _ hi; have h2 := f8 e he; omega)).later hb8).onlyN ho (fun e he hn hi => by have h1 := f8 e he; have h2 := hgS hi; omega)
  have qr : Out 3 cellsTD V' (tds ++ [TD.mk t A c]) Ad' cd' := (out_of_own lenTD hlen.symm hown).onlyN ho (fun e he hn hi => by have h1 := hAd e he; have h2 := hgS hi; omega)
  have hkg : ¬ KBlk K' (ds ++ [d]) g := fun e => by
    rcases hblk g e with e | e
    · exact hs.hg e
    · omega
  have hblt : ∀ j, PBlk t A Ad tds j → j < Vc.heap.size := fun j hj => hB.blk_lt hj
  have hcase : ∀ j, PBlk u A8 Ad' (tds ++ [TD.mk t A c]) j → (W.heap.size ≤ j ∧ j < Vc.heap.size) ∨ V7.heap.size ≤ j ∨ PBlk t A Ad tds j := fun j hj => by
    rcases hj with ⟨e, he, hn, hj⟩ | ⟨e, he, hn, hj⟩ | ⟨d', hd', e, he, hn, hj⟩
    · exact .inl ⟨by rw [← hj]; exact f8 e he, by rw [← hj]; exact out_lt o8 hn he⟩
    · exact .inr (.inl (by rw [← hj]; exact hAd e he))
    · rcases List.mem_append.1 hd' with hd' | hd'
      · exact .inr (.inr (.inr (.inr ⟨d', hd', e, he, hn, hj⟩)))
      · obtain rfl := List.mem_singleton.1 hd'
        exact .inr (.inr (.inl ⟨e, he, hn, hj⟩))
  have hlt7 := hk.all_lt
  rw [← hlen] at hown ⊢
  refine ⟨u, ds ++ [d], K', A8, c8, Ad', cd', tds ++ [TD.mk t A c], rfl, by simp [hm, hd], by simpa using hl, (hk.below hb8).only ho (fun j hj => by rw [hgS hj]; exact hkg), ⟨fun j hj => ?_, hkg, fun e => ?_⟩, hkb, hg, ⟨?_, hbx, q8, qr, fun d' hd' => ?_⟩⟩
  · have h7 := hlt7 j hj
    refine ⟨?_, ?_, fun e => ?_⟩
    · rcases hall j hj with h | h
      · exact (hs.k j h).1
      · have := hB.two.two.lt; omega
    · rcases hall j hj with h | h
      · exact (hs.k j h).2.1
      · omega
    · rcases hcase j e with h1 | h1 | h1
      · rcases hall j hj with h | h
        · have := hKW j h; omega
        · omega
      · omega
      · rcases hall j hj with h | h
        · exact (hs.k j h).2.2 h1
        · have := hblt j h1; omega
  · rcases hcase g e with h1 | h1 | h1
    · omega
    · omega
    · exact hs.hp h1
  · exact ((hB.two.only ho7 (fun j hj => (hs.k j hj).1)).keep hb8).only ho (fun j hj => by rw [hgS hj]; exact hg)
  · rcases List.mem_append.1 hd' with hd' | hd'
    · exact q3 d' hd'
    · obtain rfl := List.mem_singleton.1 hd'
      exact q1
end
end Go.Proofs.YtpfjeoldgcepnaaGreatDoor

/- The reference's Place and Goal of layer 5. -/
namespace Go.Proofs.YtpfjeoldgcepnaaGreatDoor
set_option linter.unusedSimpArgs false
open Go.RowKit
set_option linter.unusedVariables false

set_option maxHeartbeats 800000 in
/-- dunnageref05.Place. -/
theorem rPlace05_any (l : List PodD) (id : Int) (A : Option Addr) (n c B : Nat) (v1 v2 : Value) (w : World) (hn : n = l.length) (hl : n ≤ 1000) (hB : B ≤ w.heap.size) (hr : Recs 8 cellsP w B A l) :
    Calls Tryz.prog 80 #[.agg #[.slice A n c, v1, v2], .int .i64 id] w fun e w' => e = .returned (.int .i64 (place PodD.id id l 0)) ∧ Below w.heap.size w w' := by
  have HR := Lib.hid hr
  have HL := Lib.hid hn
  clear hr hn
  go_enter Tryz.func80, Tryz.ntmps80
  go_wp2
  go_loop [5] (FindRel PodD.id id l) (fun i => n - (intOf i).toNat)
  case atStart => exact ⟨0, by omega, rfl, rfl⟩
  case round =>
    obtain ⟨k, hk, rfl, hp⟩ := hrel
    have HP := Lib.hid hp
    clear hp
    by_cases hlt : k < n
    · have hkl : k < l.length := by have := HL.out; omega
      obtain ⟨b, o, rfl, hb, hcell⟩ := HR.out.at hkl
      have hc : w.cell? ⟨b, o + k * 8, none⟩ = some (.int .i64 l[k].id) := hcell 0 _ rfl
      have hbl : b < w.heap.size := by omega
      clear hcell
      by_cases he : l[k].id = id
      · have HE := Lib.hid (place_here hkl he HP.out)
        obtain rfl := he
        go_wp2
        go_ret
        exact ⟨ret_int HE.out.symm, (Below.refl _ _).alloc (Nat.le_refl _) _⟩
      · have HE := Lib.hid (place_step hkl he HP.out)
        go_wp2
        go_round
        case rel => exact ⟨k + 1, by omega, by go_num, HE.out⟩
        case measure => simp [intOf]; omega
    · have HE := Lib.hid (place_end (by have := HL.out; omega) HP.out)
      go_wp2
      go_ret
      exact ⟨ret_int HE.out.symm, (Below.refl _ _).alloc (Nat.le_refl _) _⟩
end Go.Proofs.YtpfjeoldgcepnaaGreatDoor

/- append of all records of a slice at a step of a region that draws its order; slices of slices of records. -/
namespace Go.Proofs.YtpfjeoldgcepnaaGreatDoor
set_option linter.unusedSimpArgs false
open Go.RowKit
set_option linter.unusedVariables false

section
variable {α : Type} {size : Nat} {cells : α → List Value} {w : World} {B : Nat} {xs : List α}
theorem Recs.drop {b o : Nat} (h : Recs size cells w B (some ⟨b, o, none⟩) xs) (k : Nat) : Recs size cells w B (some ⟨b, o + k * size, none⟩) (xs.drop k) := by
  rcases h with h | ⟨b', o', h1, h2, h3⟩
  · exact .inl (by simp [h])
  · injection h1 with h1
    injection h1 with h1 h1'
    subst h1 h1'
    refine .inr ⟨b, o + k * size, rfl, h2, fun i hi j u hu => ?_⟩
    have hi' : k + i < xs.length := by simp at hi; omega
    rw [List.getElem_drop] at hu
    have := h3 (k + i) hi' j u hu
    rwa [Nat.add_mul, ← Nat.add_assoc] at this
end
theorem Keeps.grow {W v v' : World} {B : Nat} (h : Keeps W v) (hb : Below B v v') (hB : W.heap.size ≤ B) : Keeps W v' := Keeps.of (h.2.trans (hb.mono hB))
section
variable {ops : Array Oper} {o : Oper} {a : Act} {Q : Exit → Act → World → Prop} {wr : World} {K : Act → World → Prop} {E : Prop}
set_option maxRecDepth 100000 in
theorem step_recsA {α : Type} {cells : α → List Value} (t e : TypeId) (z : Value) (size bytes : Nat) (ht : Tryz.prog.underlying t = some (.slice e)) (hinfo : (Tryz.prog.info? e).map (fun i => (i.zero, i.size, i.bytes)) = some (some z, size, bytes)) (hz : z.cells.size = size) (hsz : 0 < size) (hby : bytes ≤ 1000)
    (hc : ∀ x, (cells x).length = size) (hu : ∀ x, ∀ u ∈ cells x, u.oneCell' = true)
    (hgd : o.guard = none) (s x : Operand) (ho : o.op = .call { callee := .builtin .append, args := #[s, x], argTypes := #[t, t] })
    (B R : Nat) (gv cv n m : Nat) (xs ys : List α) (ad : Addr) (c : Nat) (hown : wr.ownsRow B e size (.slice (some ⟨gv, 0, none⟩) n cv) n (xs.flatMap cells)) (hrow : Recs size cells wr R (some ad) ys) (hB : B ≤ wr.heap.size) (hl : n + m ≤ 2000000)
    (hs : a.eval s = .slice (some ⟨gv, 0, none⟩) n cv) (hx : a.eval x = .slice (some ad) m c) (hm : m = ys.length)
    (h : ∀ g cap w', w'.ownsRow B e size (.slice (some ⟨g, 0, none⟩) (n + m) cap) (n + m) ((xs ++ ys).flatMap cells) → Below B wr w' → (g = gv ∨ g = wr.heap.size) → g < w'.heap.size →
      (∀ b o', b ≠ gv → b < wr.heap.size → w'.cell? ⟨b, o', none⟩ = wr.cell? ⟨b, o', none⟩ ∧ w'.frozen? ⟨b, o', none⟩ = wr.frozen? ⟨b, o', none⟩) → wr.heap.size ≤ w'.heap.size → K (a.put o.dst (.slice (some ⟨g, 0, none⟩) (n + m) cap)) w') :
    if Region.wanted o (yielded ops a.tmps) = true then Oper.wp Tryz.prog o a wr K Q else E := by
  obtain ⟨i0, hi, hz0, hz1, hz2⟩ := info_parts3 hinfo
  have hw : Region.wanted o (yielded ops a.tmps) = true := by simp [Region.wanted, hgd]
  rw [if_pos hw]
  have hn1 : ∀ j u, (ys.flatMap cells)[j]? = some u → wr.cell? (ad.add j) = some u := by
    intro j y hy
    rcases hrow with h0 | ⟨b, o', h0, hb, h1⟩
    · rw [h0] at hy; simp at hy
    · injection h0 with h0
      subst h0
      have hj := (List.getElem?_eq_some_iff.1 hy).1
      rw [flatMap_len hc] at hj
      have hi' : j / size < ys.length := Nat.div_lt_of_lt_mul (by rw [Nat.mul_comm]; exact hj)
      have hjm : j % size < size := Nat.mod_lt _ hsz
      have hdm : j / size * size + j % size = j := by rw [Nat.mul_comm]; exact Nat.div_add_mod j size
      have e1 := flatMap_get (size := size) hc hi' hjm
      rw [hdm] at e1
      have := h1 (j / size) hi' (j % size) y (by rw [← e1]; exact hy)
      rw [Addr.add_lit, ← hdm]
      rwa [Nat.add_assoc] at this
  have hn2 : ∀ u ∈ ys.flatMap cells, u.oneCell' = true := by
    intro u hu'
    rcases List.mem_flatMap.1 hu' with ⟨x, _, hx'⟩
    exact hu x u hx'
  obtain ⟨v', w', hr, h2, h3, h4, h5⟩ := run_append_own_at (P := Tryz.prog) wr B t o.type e i0 z size bytes ht hi hz0 hz1 hz2 hz hsz _ n (xs.flatMap cells) hown ad m c (ys.flatMap cells) (by rw [flatMap_len hc, hm]) hn1 hn2 (by unfold maxLen; omega) (by have : (n + m) * bytes ≤ (n + m) * 1000 := Nat.mul_le_mul_left _ hby; omega) hB
  have h1 : ∃ g cap, v' = .slice (some ⟨g, 0, none⟩) (n + m) cap ∧ g < w'.heap.size := by
    rcases h2.2 with ⟨hv, _⟩ | ⟨g, cap, cur, hv, _, hg, _⟩
    · have := (h4.1 hv).1; cases this
    · exact ⟨g, cap, hv, (Array.getElem?_eq_some_iff.1 hg).1⟩
  obtain ⟨g, cap, rfl, hlt⟩ := h1
  unfold Oper.wp execOp
  simp only [ho, resolve, invoke, builtin, Sem.run_bind, Sem.run_pure, Result.andThen_ok, List.map_toArray, List.map_cons, List.map_nil, hs, hx, hr]
  refine h g cap w' (by rw [List.flatMap_append]; exact h2) ((Below.refl B wr).grown h3 hB (fun j hj => (hown.lt j hj).1)) ?_ hlt (fun b o' hne hb => ?_) h3.size
  · rcases h5 with h5 | h5
    · left; simpa [Value.ownBlock] using h5
    · right; simpa [Value.ownBlock] using h5
  · have hne' : some b ≠ (Value.slice (some ⟨gv, 0, none⟩) n cv).ownBlock := by simpa [Value.ownBlock] using hne
    exact ⟨World.cell?_of_block (h3.block b hb hne'), World.frozen?_of_block (h3.block b hb hne')⟩
end
end Go.Proofs.YtpfjeoldgcepnaaGreatDoor

/- The head of layer 6's laws: the document's example, and a node without room. -/
namespace Go.Proofs.YtpfjeoldgcepnaaGreatDoor
set_option linter.unusedSimpArgs false
open Go.RowKit
set_option linter.unusedVariables false

end Go.Proofs.YtpfjeoldgcepnaaGreatDoor

/- The law RoomTells. -/
namespace Go.Proofs.YtpfjeoldgcepnaaGreatDoor
set_option linter.unusedSimpArgs false
open Go.RowKit
set_option linter.unusedVariables false

end Go.Proofs.YtpfjeoldgcepnaaGreatDoor

/- The law RoomLess. -/
namespace Go.Proofs.YtpfjeoldgcepnaaGreatDoor
set_option linter.unusedSimpArgs false
open Go.RowKit
set_option linter.unusedVariables false

theorem own_emptyR (V : World) (B g : Nat) (e : TypeId) (hB : B ≤ V.heap.size) (hg : g = V.heap.size) : (V.alloc (.cells #[] e)).ownsRow B e 8 (.slice (some ⟨g, 0, none⟩) 0 0) 0 (([] : List PodD).flatMap cellsP) := by
  subst hg
  exact World.ownsRow_made V #[] 0 hB (by decide) rfl
theorem far_cells {wr w' : World} {gv : Nat} (h : ∀ b o', b ≠ gv → b < wr.heap.size → w'.cell? ⟨b, o', none⟩ = wr.cell? ⟨b, o', none⟩ ∧ w'.frozen? ⟨b, o', none⟩ = wr.frozen? ⟨b, o', none⟩) :
    (∀ b o', b ≠ gv → b < wr.heap.size → w'.cell? ⟨b, o', none⟩ = wr.cell? ⟨b, o', none⟩) ∧ (∀ b o', b ≠ gv → b < wr.heap.size → w'.frozen? ⟨b, o', none⟩ = wr.frozen? ⟨b, o', none⟩) :=
  ⟨fun b o' h1 h2 => (h b o' h1 h2).1, fun b o' h1 h2 => (h b o' h1 h2).2⟩
theorem Bf.far {V V' : World} {gv b : Nat} {cs : List Value} (h : Bf V b cs) (hne : b ≠ gv) (hcx : ∀ b o', b ≠ gv → b < V.heap.size → V'.cell? ⟨b, o', none⟩ = V.cell? ⟨b, o', none⟩) (hfx : ∀ b o', b ≠ gv → b < V.heap.size → V'.frozen? ⟨b, o', none⟩ = V.frozen? ⟨b, o', none⟩) (hsz : V.heap.size ≤ V'.heap.size) : Bf V' b cs :=
  ⟨Nat.lt_of_lt_of_le h.lt hsz, fun j u hu => (hcx b j hne h.lt).trans (h.cell j u hu), fun o => (hfx b o hne h.lt).trans (h.frozen o)⟩
theorem own_drew {V : World} {B e size n : Nat} {v : Value} {xs : List Value} (h : V.ownsRow B e size v n xs) : V.drew.ownsRow B e size v n xs := h
end Go.Proofs.YtpfjeoldgcepnaaGreatDoor

namespace Go.Proofs.YtpfjeoldgcepnaaGreatDoor
set_option linter.unusedSimpArgs false
open Go.RowKit
set_option linter.unusedVariables false

theorem makeD_1 {ns : List NodeD} {x : List WantD} {t : StateD} {m : MoveD} (h : wellD m = false) : makeD ns x t m = (noState, 1) := by rw [makeD, if_pos h]
theorem makeD_4 {ns : List NodeD} {x : List WantD} {t : StateD} {m : MoveD} (h : wellD m = true) (h2 : hereD ns t.pods m = false) : makeD ns x t m = (noState, 4) := by rw [makeD, if_neg (by simp [h]), if_pos h2]
theorem makeD_7 {ns : List NodeD} {x : List WantD} {t : StateD} {m : MoveD} (h : wellD m = true) (h2 : hereD ns t.pods m = true) (h3 : canD t.pods m = false) : makeD ns x t m = (noState, 7) := by rw [makeD, if_neg (by simp [h]), if_neg (by simp [h2]), if_pos h3]
theorem makeD_0 {ns : List NodeD} {x : List WantD} {t : StateD} {m : MoveD} (h : wellD m = true) (h2 : hereD ns t.pods m = true) (h3 : canD t.pods m = true) : makeD ns x t m = (behindD x t m, 0) := by rw [makeD, if_neg (by simp [h]), if_neg (by simp [h2]), if_neg (by simp [h3])]
theorem idxD_at {id : Int} {l : List PodD} {i : Nat} (h : place PodD.id id l 0 = i) : idxD id l = i := by rw [idxD, h]; rfl
/-- The state, and an error's number. -/
def RMakeTo (r : StateD × Int) (w : World) (e : Ending) (w' : World) : Prop := ∃ v, e = .returned (.tuple #[v, .int .i64 r.2]) ∧ StateTo r.1 w v w'
/-- What stands while Make is at work: its boxes, the pod's, the next state's, and its pods. -/
structure Nx (a b c d : List Value) (p : PodD) (pb h g n cap : Nat) (pre sh : Int) (l : List PodD) (w V : World) : Prop where
  bx : Mk a b c d w V
  pod : Bf V pb (cellsP p)
  nxt : Bf V h [.slice (some ⟨g, 0, none⟩) n cap, .int .i64 pre, .int .i64 sh]
  lst : Lst g l V
  h1 : w.heap.size + 5 ≤ pb
  h2 : w.heap.size + 5 ≤ h
  h3 : w.heap.size + 5 ≤ g
  n1 : h ≠ g
  n2 : pb ≠ g
  n3 : pb ≠ h
section
variable {a b c d : List Value} {p : PodD} {pb h g n cap : Nat} {pre sh : Int} {l : List PodD} {w V V' : World}
theorem Nx.keep (k : Nx a b c d p pb h g n cap pre sh l w V) (hb : Below V.heap.size V V') : Nx a b c d p pb h g n cap pre sh l w V' :=
  ⟨k.bx.keep hb, k.pod.below hb k.pod.lt, k.nxt.below hb k.nxt.lt, k.lst.below hb, k.h1, k.h2, k.h3, k.n1, k.n2, k.n3⟩
theorem Mk.past (k : Mk a b c d w V) {q : Addr} (hq : w.heap.size + 5 ≤ q.block) (v : Value) : Mk a b c d w (V.setCell q v) :=
  ⟨k.snap.other (by omega) v, k.spec.other (by omega) v, k.state.other (by omega) v, k.move.other (by omega) v, k.res.other (by omega) v, k.below.setCell (by omega) v⟩
theorem Nx.setPre (k : Nx a b c d p pb h g n cap pre sh l w V) (z : Int) : Nx a b c d p pb h g n cap z sh l w (V.setCell ⟨h, 1, none⟩ (.int .i64 z)) :=
  ⟨k.bx.past k.h2 _, k.pod.other (fun e => k.n3 e.symm) _, k.nxt.set 1 _, k.lst.other k.n1 _, k.h1, k.h2, k.h3, k.n1, k.n2, k.n3⟩
theorem Nx.setSh (k : Nx a b c d p pb h g n cap pre sh l w V) (z : Int) : Nx a b c d p pb h g n cap pre z l w (V.setCell ⟨h, 2, none⟩ (.int .i64 z)) :=
  ⟨k.bx.past k.h2 _, k.pod.other (fun e => k.n3 e.symm) _, k.nxt.set 2 _, k.lst.other k.n1 _, k.h1, k.h2, k.h3, k.n1, k.n2, k.n3⟩
theorem Nx.put (k : Nx a b c d p pb h g n cap pre sh l w V) {i j : Nat} (hi : i < l.length) (hj : j < 8) (u : Value) (p' : PodD) (hp : cellsP p' = (cellsP l[i]).set j u) : Nx a b c d p pb h g n cap pre sh (l.set i p') w (V.setCell ⟨g, i * 8 + j, none⟩ u) :=
  ⟨k.bx.past k.h3 _, k.pod.other (fun e => k.n2 e.symm) _, k.nxt.other (fun e => k.n1 e.symm) _, k.lst.put hi hj u p' hp, k.h1, k.h2, k.h3, k.n1, k.n2, k.n3⟩
theorem Nx.facts (k : Nx a b c d p pb h g n cap pre sh l w V) :
    (V.cell? ⟨pb, 7, none⟩ = some (.int .i64 p.node) ∧ pb < V.heap.size) ∧
    (V.cell? ⟨h, 0, none⟩ = some (.slice (some ⟨g, 0, none⟩) n cap) ∧ V.cell? ⟨h, 1, none⟩ = some (.int .i64 pre) ∧ V.cell? ⟨h, 2, none⟩ = some (.int .i64 sh) ∧ h < V.heap.size) ∧
    (V.frozen? ⟨h, 1, none⟩ = false ∧ V.frozen? ⟨h, 2, none⟩ = false) ∧ g < V.heap.size :=
  ⟨⟨k.pod.cell 7 _ rfl, k.pod.lt⟩, ⟨k.nxt.cell 0 _ rfl, k.nxt.cell 1 _ rfl, k.nxt.cell 2 _ rfl, k.nxt.lt⟩, ⟨k.nxt.frozen 1, k.nxt.frozen 2⟩, k.lst.lt⟩
theorem Nx.cells7 (k : Nx a b c d p pb h g n cap pre sh l w V) {i : Nat} (hi : i < l.length) {q : PodD} (hq : l[i] = q) : V.cell? ⟨g, i * 8 + 7, none⟩ = some (.int .i64 q.node) ∧ V.frozen? ⟨g, i * 8 + 7, none⟩ = false :=
  ⟨k.lst.at hi hq 7 _ rfl, k.lst.frozen _⟩
theorem Nx.cells4 (k : Nx a b c d p pb h g n cap pre sh l w V) {i : Nat} (hi : i < l.length) {q : PodD} (hq : l[i] = q) :
    (V.cell? ⟨g, i * 8 + 3, none⟩ = some (.int .u64 q.req.a) ∧ V.cell? ⟨g, i * 8 + 4, none⟩ = some (.int .u64 q.req.b) ∧ V.cell? ⟨g, i * 8 + 5, none⟩ = some (.int .u64 q.req.c) ∧ V.cell? ⟨g, i * 8 + 6, none⟩ = some (.int .u64 q.req.d)) ∧
    (V.frozen? ⟨g, i * 8 + 3, none⟩ = false ∧ V.frozen? ⟨g, i * 8 + 4, none⟩ = false ∧ V.frozen? ⟨g, i * 8 + 5, none⟩ = false ∧ V.frozen? ⟨g, i * 8 + 6, none⟩ = false) :=
  ⟨⟨k.lst.at hi hq 3 _ rfl, k.lst.at hi hq 4 _ rfl, k.lst.at hi hq 5 _ rfl, k.lst.at hi hq 6 _ rfl⟩, k.lst.frozen _, k.lst.frozen _, k.lst.frozen _, k.lst.frozen _⟩
theorem Nx.node (k : Nx a b c d p pb h g n cap pre sh l w V) {i : Nat} (hi : i < l.length) {q : PodD} (hq : l[i] = q) (z : Int) : Nx a b c d p pb h g n cap pre sh (l.set i ⟨q.id, q.load, q.prio, q.req, z⟩) w (V.setCell ⟨g, i * 8 + 7, none⟩ (.int .i64 z)) :=
  k.put hi (j := 7) (by omega) (.int .i64 z) ⟨q.id, q.load, q.prio, q.req, z⟩ (by rw [hq]; rfl)
theorem Nx.req (k : Nx a b c d p pb h g n cap pre sh l w V) {i : Nat} (hi : i < l.length) {q : PodD} (hq : l[i] = q) (r : V4) : Nx a b c d p pb h g n cap pre sh (l.set i ⟨q.id, q.load, q.prio, r, q.node⟩) w ((((V.setCell ⟨g, i * 8 + 3, none⟩ (.int .u64 r.a)).setCell ⟨g, i * 8 + 4, none⟩ (.int .u64 r.b)).setCell ⟨g, i * 8 + 5, none⟩ (.int .u64 r.c)).setCell ⟨g, i * 8 + 6, none⟩ (.int .u64 r.d)) := by
  have k1 := k.put hi (j := 3) (by omega) (.int .u64 r.a) ⟨q.id, q.load, q.prio, ⟨r.a, q.req.b, q.req.c, q.req.d⟩, q.node⟩ (by rw [hq]; rfl)
  have k2 := k1.put (i := i) (by simpa using hi) (j := 4) (by omega) (.int .u64 r.b) ⟨q.id, q.load, q.prio, ⟨r.a, r.b, q.req.c, q.req.d⟩, q.node⟩ (by rw [List.getElem_set_self]; rfl)
  have k3 := k2.put (i := i) (by simpa using hi) (j := 5) (by omega) (.int .u64 r.c) ⟨q.id, q.load, q.prio, ⟨r.a, r.b, r.c, q.req.d⟩, q.node⟩ (by rw [List.getElem_set_self]; rfl)
  have k4 := k3.put (i := i) (by simpa using hi) (j := 6) (by omega) (.int .u64 r.d) ⟨q.id, q.load, q.prio, r, q.node⟩ (by rw [List.getElem_set_self]; rfl)
  rw [List.set_set, List.set_set, List.set_set] at k4
  exact k4
/-- What is told at the end. -/
theorem Nx.done (k : Nx a b c d p pb h g n cap pre sh l w V) (hn : n = l.length) (hc : n ≤ cap) (hm : cap ≤ maxLen) {x y z : Value} :
    StateTo ⟨l, pre, sh⟩ w (stateV (some ⟨g, 0, none⟩) n cap pre sh) (((V.setCell ⟨w.heap.size + 4, 0, none⟩ x).setCell ⟨w.heap.size + 4, 1, none⟩ y).setCell ⟨w.heap.size + 4, 2, none⟩ z) := by
  subst hn
  have hg := k.h3
  have hl := (((k.lst.other (p := ⟨w.heap.size + 4, 0, none⟩) (by show w.heap.size + 4 ≠ g; omega) x).other (p := ⟨w.heap.size + 4, 1, none⟩) (by show w.heap.size + 4 ≠ g; omega) y).other (p := ⟨w.heap.size + 4, 2, none⟩) (by show w.heap.size + 4 ≠ g; omega) z)
  exact ⟨_, _, rfl, ⟨hc, hm, (by intro e; cases e), hl.recs⟩, (by intro a e; injection e with e; subst e; show w.heap.size ≤ g; omega), ((k.bx.below.setCell (by show w.heap.size ≤ w.heap.size + 4; omega) _).setCell (by show w.heap.size ≤ w.heap.size + 4; omega) _).setCell (by show w.heap.size ≤ w.heap.size + 4; omega) _⟩
theorem Mk.no0 (k : Mk a b c d w V) : StateTo noState w (stateV none 0 0 0 0) V := ⟨none, 0, rfl, Out.nil rfl, (by intro a e; cases e), k.below⟩
end
theorem Lst.own {l : List PodD} {w : World} {B g n cap : Nat} (hn : n = l.length) (h : w.ownsRow B 79 8 (.slice (some ⟨g, 0, none⟩) n cap) n (l.flatMap cellsP)) : Lst g l w ∧ n ≤ cap ∧ cap ≤ maxLen ∧ B ≤ g := by
  have ho := out_of_own lenP hn h
  rcases h.2 with ⟨hv, _⟩ | ⟨g', cap', cur, hv, hb, hg, hnc, hm, _⟩
  · cases hv
  · injection hv with e1 _ e2
    injection e1 with e1
    injection e1 with e1 _ _
    subst e1 e2
    refine ⟨⟨(Array.getElem?_eq_some_iff.1 hg).1, fun i hi j u hu => ?_, fun o => by simp [World.frozen?, hg]⟩, hnc, hm, hb⟩
    obtain ⟨b, o, e, _, hc⟩ := ho.2.2.2.at hi
    injection e with e
    injection e with e1 e2
    subst e1 e2
    simpa using hc j u hu
end Go.Proofs.YtpfjeoldgcepnaaGreatDoor
