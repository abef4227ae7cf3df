/- Joined texts, part 23: VY V0 V8. -/
import Derived.Test.YtpfjeoldgcepnaaGreatDoorZ21
import Derived.Test.YtpfjeoldgcepnaaGreatDoorZ22
import Derived.Test.YtpfjeoldgcepnaaGreatDoorZ19
import Derived.Test.YtpfjeoldgcepnaaGreatDoorZ04
import Derived.Test.YtpfjeoldgcepnaaGreatDoorZ15
import Derived.Test.YtpfjeoldgcepnaaGreatDoorZ01
import Derived.Deep.CutRange
import Derived.Deep.DeepCutAuto

/- The head of layer 13's laws: a keeper of one node without pods. -/
namespace Go.Proofs.YtpfjeoldgcepnaaGreatDoor
set_option linter.unusedSimpArgs false
open Go.RowKit
set_option linter.unusedVariables false

def upN13 : NodeD := ⟨3, 1, ⟨4, 0, 0, 0⟩, ⟨0, 0, 0, 0⟩⟩
def upS13 : SnapD := ⟨[upN13], [], []⟩
def upX13 : SpecD := ⟨[], 0, 0⟩
theorem up13_fair : (fair upS13 upX13).1 = 0 := by decide
theorem up13_safe : codeS upS13.nodes upS13.loads upX13 (firstD upS13) = 0 := by decide
theorem up13_rest : restD [upN13] [] 3 = (⟨4, 0, 0, 0⟩, 0) := by rfl
theorem upN13_ok : ∀ x ∈ [upN13], x.Ok := by
  intro x hx
  obtain rfl := List.mem_singleton.1 hx
  exact ⟨⟨by decide, by decide⟩, ⟨by decide, by decide⟩, ⟨⟨by decide, by decide⟩, ⟨by decide, by decide⟩, ⟨by decide, by decide⟩, ⟨by decide, by decide⟩⟩, ⟨⟨by decide, by decide⟩, ⟨by decide, by decide⟩, ⟨by decide, by decide⟩, ⟨by decide, by decide⟩⟩⟩

set_option maxHeartbeats 6400000 in
set_option maxRecDepth 100000 in
theorem up13_any (w : World) (hg : Laid w) : Calls Tryz.prog 5 #[] w fun e w' => e = .returned (.bool true) ∧ Below w.heap.size w w' := by
  have hb0 := below_new w (.cells #[.int .i64 3, .int .i64 1, .int .u64 4, .int .u64 0, .int .u64 0, .int .u64 0, .int .u64 0, .int .u64 0, .int .u64 0, .int .u64 0] 63)
  have hr0 : Recs 10 cellsN (w.alloc (.cells #[.int .i64 3, .int .i64 1, .int .u64 4, .int .u64 0, .int .u64 0, .int .u64 0, .int .u64 0, .int .u64 0, .int .u64 0, .int .u64 0] 63)) (w.heap.size + 1) (some ⟨w.heap.size, 0, none⟩) [upN13] := recs_one (cells := cellsN) (size := 10) w upN13 63 rfl
  have hsz : (w.alloc (.cells #[.int .i64 3, .int .i64 1, .int .u64 4, .int .u64 0, .int .u64 0, .int .u64 0, .int .u64 0, .int .u64 0, .int .u64 0, .int .u64 0] 63)).heap.size = w.heap.size + 1 := by simp
  have HN := Lib.hid (keepNew_any upS13 upX13 (some ⟨w.heap.size, 0, none⟩) none none none 1 1 0 0 0 0 0 0 _ ⟨Laid.below hg hb0 (Nat.le_refl _), ⟨upN13_ok, fun _ h => by simp [upS13] at h, fun _ h => by simp [upS13] at h⟩, (fun _ h => by simp [upX13] at h), ⟨by decide, by decide⟩, ⟨by decide, by decide⟩, ⟨rfl, by decide, by decide, by decide⟩, ⟨rfl, by decide, by decide, by decide⟩, ⟨rfl, by decide, by decide, by decide, fun _ => rfl⟩, ⟨rfl, by decide, by decide, by decide⟩, hr0.more (by simp), Recs.nil, Recs.nil, Recs.nil⟩ (fun h => by cases h) (fun _ => rfl) (fun _ => rfl))
  have HB0 := Lib.hid hb0
  clear hr0 hg hb0 hsz
  have hve := fun w => vec_is ⟨4, 0, 0, 0⟩ ⟨4, 0, 0, 0⟩ w
  go_enter Tryz.func5, Tryz.ntmps5
  go_wp2_with fail
  refine HN.out.mono ?_
  rintro e w1 ⟨hb1, h⟩
  rcases h with ⟨h, _⟩ | ⟨_, h, _⟩ | ⟨_, _, K, rfl, hk, hfar, hF⟩
  · exact absurd up13_fair h
  · exact absurd up13_safe h
  have HK := Lib.hid hk
  have HF := Lib.hid hF
  have HB1 := Lib.hid (HB0.out.trans (hb1.mono HB0.out.size))
  have HR := Lib.hid (keepRest_any 3 w1 hk hF)
  clear hb1 hk hF hfar HN HB0
  rw [show restD upS13.nodes (firstD upS13).pods 3 = (⟨4, 0, 0, 0⟩, 0) from up13_rest] at HR
  go_wp2_with fail
  refine HR.out.mono ?_
  rintro e w2 ⟨rfl, hb2⟩
  have kb := below_new w2 (.cells #[.int .u64 4, .int .u64 0, .int .u64 0, .int .u64 0] 59)
  have hbv : Bf (w2.alloc (.cells #[.int .u64 4, .int .u64 0, .int .u64 0, .int .u64 0] 59)) w2.heap.size (cellsV ⟨4, 0, 0, 0⟩) := Bf.new w2 (cellsV ⟨4, 0, 0, 0⟩) 59 rfl
  have HK2 := Lib.hid ((HK.out.below hb2).below kb)
  have HB2 := Lib.hid ((HB1.out.trans (hb2.mono HB1.out.size)).trans (kb.mono (HB1.out.trans (hb2.mono HB1.out.size)).size))
  have HV := Lib.hid hbv
  clear hb2 kb hbv HK HB1 HR
  go_upto_region 5 with fail
  generalize (w2.alloc (.cells #[.int .u64 4, .int .u64 0, .int .u64 0, .int .u64 0] 59)) = W at *
  generalize w2.heap.size = g at *
  have HUN := Lib.hid (keepUndo_any W HK2.out HF.out (by unfold maxLen; omega))
  go_wp2_with fail
  refine HUN.out.mono ?_
  rintro e w3 h
  rcases h with ⟨_, rfl, hb3⟩ | ⟨ds', d, h, _⟩
  · have HK3 := Lib.hid (HK2.out.below hb3)
    have HB3 := Lib.hid (HB2.out.trans (hb3.mono HB2.out.size))
    have HV3 := Lib.hid (HV.out.below hb3 HV.out.lt)
    have HD := Lib.hid (keepDone_any w3 HK3.out)
    clear hb3 HUN HK2 HB2 HV
    go_wp2_with fail
    refine HD.out.mono ?_
    rintro e w4 ⟨rfl, hb4⟩
    have HB4 := Lib.hid (HB3.out.trans (hb4.mono HB3.out.size))
    have hv := HV3.out.below hb4 HV3.out.lt
    obtain ⟨b0, b1, b2, b3, b4⟩ := hv.cells4
    clear hb4 hv
    go_wp2
    go_ret
    exact ⟨rfl, HB4.out⟩
  · exact absurd h (by simp)
end Go.Proofs.YtpfjeoldgcepnaaGreatDoor

/- What stands beside a keeper in a law: the call's boxes, and the first state that was told. -/
namespace Go.Proofs.YtpfjeoldgcepnaaGreatDoor
set_option linter.unusedSimpArgs false
open Go.RowKit
set_option linter.unusedVariables false

/-- The state behind the first of the moves that were done, or the one at hand. -/
def rootOf (t : StateD) : List DeedD → StateD
  | [] => t
  | d :: _ => d.t
theorem root_snoc {u : StateD} {ds : List DeedD} {d : DeedD} : rootOf u (ds ++ [d]) = rootOf d.t ds := by
  cases ds with
  | nil => rfl
  | cons e r => rfl
/-- The call's two boxes, and a third one with a state that was told. -/
structure BackB (a b : List Value) (l0 : List PodD) (p1 p2 : Int) (g : Nat) (A : Option Addr) (c : Nat) (w V : World) : Prop where
  two : T2 a b w V
  box : Bf V g [.slice A l0.length c, .int .i64 p1, .int .i64 p2]
  out : Out 8 cellsP V l0 A c
/-- The keeper's memory lies apart from it. -/
def Aside (K : KAddr) (l0 : List PodD) (g : Nat) (A : Option Addr) (w : World) : Prop := ∀ i ∈ K.all, w.heap.size + 2 ≤ i ∧ i ≠ g ∧ ∀ e, A = some e → l0 ≠ [] → e.block ≠ i
section
variable {a b : List Value} {l0 : List PodD} {p1 p2 : Int} {g : Nat} {A : Option Addr} {c : Nat} {w V V' : World} {K K' : KAddr}
theorem BackB.keep (h : BackB a b l0 p1 p2 g A c w V) (hb : Below V.heap.size V V') : BackB a b l0 p1 p2 g A c w V' := ⟨h.two.keep hb, h.box.below hb h.box.lt, h.out.later hb⟩
theorem BackB.only (h : BackB a b l0 p1 p2 g A c w V) (hs : Aside K l0 g A w) (ho : Only K.all V V') : BackB a b l0 p1 p2 g A c w V' := by
  refine ⟨⟨h.two.one.only ho (fun e => by have := (hs _ e).1; omega), h.two.two.only ho (fun e => by have := (hs _ e).1; omega), h.two.below.trans (ho.below h.two.below.size (fun i hi => by have := (hs i hi).1; omega))⟩, h.box.only ho (fun e => (hs _ e).2.1 rfl), h.out.1, h.out.2.1, h.out.2.2.1, ?_⟩
  by_cases hl : l0 = []
  · exact .inl hl
  · exact recs_only h.out.2.2.2 ho (fun e he hi => (hs _ hi).2.2 e he hl rfl)
theorem BackB.past {V0 : World} {S : List Nat} (h0 : BackB a b l0 p1 p2 g A c w V0) (h : BackB a b l0 p1 p2 g A c w V) (ho : Only S V V') (hS : ∀ i ∈ S, V0.heap.size ≤ i) : BackB a b l0 p1 p2 g A c w V' := by
  have h1 := h0.two.two.lt
  have h2 := h0.box.lt
  refine ⟨⟨h.two.one.only ho (fun e => by have := hS _ e; omega), h.two.two.only ho (fun e => by have := hS _ e; omega), h.two.below.trans (ho.below h.two.below.size (fun i hi => by have := hS i hi; omega))⟩, h.box.only ho (fun e => by have := hS _ e; omega), h.out.1, h.out.2.1, h.out.2.2.1, ?_⟩
  by_cases hl : l0 = []
  · exact .inl hl
  · exact recs_only h.out.2.2.2 ho (fun e he hi => by have := hS _ hi; have := recs_ltK h0.out.2.2.2 hl he; omega)
theorem Aside.more (h : BackB a b l0 p1 p2 g A c w V) (hs : Aside K l0 g A w) (hK : ∀ i ∈ K'.all, i ∈ K.all ∨ V.heap.size ≤ i) : Aside K' l0 g A w := fun i hi => by
  rcases hK i hi with e | e
  · exact hs i e
  · have h1 := h.two.two.lt
    have h2 := h.box.lt
    exact ⟨by omega, by omega, fun e' he hl => by have := recs_ltK h.out.2.2.2 hl he; omega⟩
end
theorem Out.only {α : Type} {size : Nat} {cells : α → List Value} {l : List α} {w w' : World} {A : Option Addr} {c : Nat} {S : List Nat} (h : Out size cells w l A c) (ho : Only S w w') (hA : ∀ a, A = some a → a.block ∉ S) : Out size cells w' l A c := ⟨h.1, h.2.1, h.2.2.1, recs_only h.2.2.2 ho hA⟩
theorem Kp.blk_lt {K : KAddr} {s : SnapD} {x : SpecD} {t : StateD} {ds : List DeedD} {N : Nat} {w : World} (h : Kp K s x t ds N w) {i : Nat} (hi : KBlk K ds i) : i < w.heap.size := by
  rcases hi with hi | hi | ⟨a, ha, e⟩
  · exact h.all_lt i hi
  · rw [hi]; exact h.k.zone.lt
  · rw [← e]; exact h.low a ha
theorem KBlk.pop {K : KAddr} {ds : List DeedD} {d : DeedD} {i : Nat} (h : KBlk K ds i) : KBlk K (ds ++ [d]) i := by
  rcases h with h | h | ⟨a, ha, e⟩
  · exact .inl h
  · exact .inr (.inl h)
  · exact .inr (.inr ⟨a, ha.imp id (fun h => h.imp id (fun h => h.imp id (fun h => h.imp id (fun ⟨d', hd, e⟩ => ⟨d', List.mem_append.2 (.inl hd), e⟩)))), e⟩)
/-- A keeper stays where other blocks are written. -/
theorem Kp.only {K : KAddr} {s : SnapD} {x : SpecD} {t : StateD} {ds : List DeedD} {N : Nat} {w w' : World} {S : List Nat} (h : Kp K s x t ds N w) (ho : Only S w w') (hS : ∀ i ∈ S, ¬ KBlk K ds i) : Kp K s x t ds N w' := by
  have hs := h.k.sep
  have hn : ∀ i, KBlk K ds i → i ∉ S := fun i hi e => hS i e hi
  have hall : ∀ i ∈ K.all, i ∉ S := fun i hi => hn i (.inl hi)
  have h4 : ∀ i ∈ K.M.four, i ∉ S := fun i hi => hall i (mem_all.2 (.inr (.inr (.inr hi))))
  refine ⟨⟨hs, h.k.box.only ho (hall _ (mem_all.2 (.inl rfl))), h.k.pods.kept ho (fun a ha => hall _ (mem_all.2 (.inr (.inl ⟨a, ha, rfl⟩)))), h.k.cnt.kept ho (h4 _ (by simp)) (h4 _ (by simp)) (h4 _ (by simp)) (h4 _ (by simp)), h.k.zone.kept ho (hn _ (.inr (.inl rfl))), recs_only h.k.r1 ho (fun a ha => hn _ (.inr (.inr ⟨a, .inl ha, rfl⟩))), recs_only h.k.r2 ho (fun a ha => hn _ (.inr (.inr ⟨a, .inr (.inl ha), rfl⟩))), recs_only h.k.r3 ho (fun a ha => hn _ (.inr (.inr ⟨a, .inr (.inr (.inl ha)), rfl⟩))), recs_only h.k.r5 ho (fun a ha => hn _ (.inr (.inr ⟨a, .inr (.inr (.inr (.inl ha))), rfl⟩)))⟩,
    h.row.kept ho (fun a ha => hall _ (mem_all.2 (.inr (.inr (.inl ⟨a, ha, rfl⟩))))), fun d hd => ⟨recs_only (h.parts d hd).1 ho (fun a ha => hn _ (.inr (.inr ⟨a, .inr (.inr (.inr (.inr ⟨d, hd, ha⟩))), rfl⟩))), (h.parts d hd).2⟩, h.fine, h.safe, h.chain, fun a ha => Nat.lt_of_lt_of_le (h.low a ha) ho.size⟩
end Go.Proofs.YtpfjeoldgcepnaaGreatDoor

namespace Go.Proofs.YtpfjeoldgcepnaaGreatDoor
set_option linter.unusedSimpArgs false
open Go.RowKit
set_option linter.unusedVariables false

/-- What stands while moves are done. -/
def BackRel (s : SnapD) (x : SpecD) (len : Nat) (a b : List Value) (kb g : Nat) (A : Option Addr) (c : Nat) (w : World) (v12 v13 : Value) (wr : World) : Prop :=
  ∃ (i : Nat) (t : StateD) (ds : List DeedD) (K : KAddr), i ≤ len ∧ v12 = .int .i64 ds.length ∧ v13 = .int .i64 i ∧ ds.length ≤ i ∧ Kp K s x t ds (100 + 16 * i) wr ∧ rootOf t ds = firstD s ∧ Aside K s.pods g A w ∧ K.kb = kb ∧ BackB a b s.pods 0 0 g A c w wr
/-- What stands while they are taken back. -/
def UndoRel (s : SnapD) (x : SpecD) (n : Nat) (a b : List Value) (kb g : Nat) (A : Option Addr) (c : Nat) (w : World) (v18 : Value) (wr : World) : Prop :=
  ∃ (j : Nat) (t : StateD) (ds : List DeedD) (K : KAddr), v18 = .int .i64 j ∧ ds.length + j = n ∧ Kp K s x t ds (2000 + 8 * j) wr ∧ rootOf t ds = firstD s ∧ Aside K s.pods g A w ∧ K.kb = kb ∧ BackB a b s.pods 0 0 g A c w wr

set_option maxHeartbeats 25600000 in
set_option maxRecDepth 100000 in
theorem keepBack_in (s : SnapD) (x : SpecD) (l : List MoveD) (hs : s.Ok) (hx : ∀ a ∈ x.wants, a.Ok) (hi1 : I64 x.preempts) (hi2 : I64 x.shifts) (A1 A2 A3 A5 A6 : Option Addr) (n1 c1 n2 c2 n3 c3 n5 c5 n6 c6 : Nat) (w : World) (hg : Laid w)
    (h1 : n1 = s.nodes.length ∧ n1 ≤ c1 ∧ c1 ≤ maxLen ∧ (A1 = none → c1 = 0)) (h2 : n2 = s.loads.length ∧ n2 ≤ c2 ∧ c2 ≤ maxLen ∧ (A2 = none → c2 = 0)) (h3 : n3 = s.pods.length ∧ n3 ≤ c3 ∧ c3 ≤ maxLen ∧ (A3 = none → c3 = 0)) (h5 : n5 = x.wants.length ∧ n5 ≤ c5 ∧ c5 ≤ maxLen ∧ (A5 = none → c5 = 0)) (h6 : n6 = l.length ∧ n6 ≤ c6 ∧ c6 ≤ maxLen)
    (hr1 : Recs 10 cellsN w w.heap.size A1 s.nodes) (hr2 : Recs 5 cellsL w w.heap.size A2 s.loads) (hr3 : Recs 8 cellsP w w.heap.size A3 s.pods) (hr5 : Recs 6 cellsW w w.heap.size A5 x.wants) (hr6 : Recs 4 cellsM w w.heap.size A6 l) :
    Calls Tryz.prog 4 #[.agg #[.slice A1 n1 c1, .slice A2 n2 c2, .slice A3 n3 c3], .agg #[.slice A5 n5 c5, .int .i64 x.preempts, .int .i64 x.shifts], .slice A6 n6 c6] w fun e w' => e = .returned (.bool true) ∧ Below w.heap.size w w' := by
  obtain ⟨rfl, h1b, h1c, z1⟩ := h1
  obtain ⟨rfl, h2b, h2c, z2⟩ := h2
  obtain ⟨rfl, h3b, h3c, z3⟩ := h3
  obtain ⟨rfl, h5b, h5c, z5⟩ := h5
  obtain ⟨rfl, h6b, h6c⟩ := h6
  have T0 := T2.new w [.slice A1 s.nodes.length c1, .slice A2 s.loads.length c2, .slice A3 s.pods.length c3] [.slice A5 x.wants.length c5, .int .i64 x.preempts, .int .i64 x.shifts] 26 29
  have HUP := Lib.hid (up13_any _ (Laid.below hg T0.below (Nat.le_refl _)))
  have HS : Hid (s.nodes.length ≤ 40 → s.loads.length ≤ 40 → s.pods.length ≤ 40 → x.wants.length ≤ 40 → WalkArgs s x A1 A2 A3 A5 s.nodes.length c1 s.loads.length c2 s.pods.length c3 x.wants.length c5 w) := fun l1 l2 l3 l5 =>
    ⟨hg, hs, hx, hi1, hi2, ⟨rfl, l1, h1b, h1c⟩, ⟨rfl, l2, h2b, h2c⟩, ⟨rfl, l3, h3b, h3c, z3⟩, ⟨rfl, l5, h5b, h5c⟩, hr1, hr2, hr3, hr5⟩
  have HZ := Lib.hid (And.intro z1 (And.intro z2 z5))
  have HR6 := Lib.hid hr6
  have HT0 := Lib.hid T0
  have hm6 : l.length ≤ maxLen := by omega
  clear hg hs hx hi1 hi2 h1b h1c z1 h2b h2c z2 h3b h3c z3 h5b h5c z5 h6b h6c hr1 hr2 hr3 hr5 hr6 T0
  go_enter Tryz.func4, Tryz.ntmps4
  go_wp2_with fail
  refine HUP.out.mono ?_
  rintro e w1 ⟨rfl, hb1⟩
  have T1 := HT0.out.keep hb1
  have HT1 := Lib.hid T1
  clear hb1 HT0 HUP
  obtain ⟨a0, a1, a2, a3⟩ := T1.one.cells3
  obtain ⟨b0, b1, b2, b3⟩ := T1.two.cells3
  clear T1
  go_wp2_with fail
  refine (few_any _ _ _ _ _ _ _ _ _ _).mono ?_
  rintro e w2 ⟨rfl, hb2⟩
  have T2' := HT1.out.keep hb2
  have HT2 := Lib.hid T2'
  clear hb2 HT1 a0 a1 a2 a3 b0 b1 b2 b3
  obtain ⟨a0, a1, a2, a3⟩ := T2'.one.cells3
  obtain ⟨b0, b1, b2, b3⟩ := T2'.two.cells3
  clear T2'
  by_cases hfw : s.nodes.length ≤ 40 ∧ s.loads.length ≤ 40 ∧ s.pods.length ≤ 40
  case neg =>
    have hfew : decide (s.nodes.length ≤ 40 ∧ s.loads.length ≤ 40 ∧ s.pods.length ≤ 40) = false := decide_eq_false hfw
    rw [hfew]
    clear hfew hfw
    go_wp2
    go_ret
    exact ⟨rfl, HT2.out.below⟩
  have hfew : decide (s.nodes.length ≤ 40 ∧ s.loads.length ≤ 40 ∧ s.pods.length ≤ 40) = true := decide_eq_true hfw
  rw [hfew]
  obtain ⟨hl1, hl2, hl3⟩ := hfw
  clear hfew
  by_cases q1 : (40 : Int) < (x.wants.length : Int)
  · have d1 : decide ((40 : Int) < (x.wants.length : Int)) = true := decide_eq_true q1
    clear q1
    go_wp2
    go_ret
    exact ⟨rfl, HT2.out.below⟩
  have e1 : decide ((40 : Int) < (x.wants.length : Int)) = false := decide_eq_false q1
  by_cases q2 : (60 : Int) < (l.length : Int)
  · have d2 : decide ((60 : Int) < (l.length : Int)) = true := decide_eq_true q2
    clear q1 q2
    go_wp2
    go_ret
    exact ⟨rfl, HT2.out.below⟩
  have e2 : decide ((60 : Int) < (l.length : Int)) = false := decide_eq_false q2
  have HA := Lib.hid (HS.out hl1 hl2 hl3 (by omega))
  have hl6 : l.length ≤ 60 := by omega
  have HNE := Lib.hid (keepNew_any s x A1 A2 A3 A5 _ c1 _ c2 _ c3 _ c5 w2 (HA.out.at HT2.out.below) HZ.out.1 HZ.out.2.1 HZ.out.2.2)
  clear q1 q2 hl1 hl2 hl3 HS
  go_wp2_with fail
  refine HNE.out.mono ?_
  rintro e w3 ⟨hb3, hnew⟩
  have HT3 := Lib.hid (HT2.out.keep hb3)
  clear a0 a1 a2 a3 b0 b1 b2 b3 e1 e2 HNE
  rcases hnew with ⟨hc, u, rfl, hu⟩ | ⟨_, hc, rfl⟩ | ⟨_, _, K, rfl, hk, hfar, hF⟩
  · obtain ⟨t1, v1, rfl⟩ := errIs_iface hu (by
      cases hok : okP (fair s x) with
      | false => rfl
      | true => exact absurd (by rw [okP_true hok]) hc)
    clear hc hu hb3 HT2
    go_wp2
    go_ret
    exact ⟨rfl, HT3.out.below⟩
  · rw [codeV_pos hc]
    clear hc hb3 HT2
    go_wp2
    go_ret
    exact ⟨rfl, HT3.out.below⟩
  have HK := Lib.hid hk
  have HF := Lib.hid hF
  have hfr : ∀ i ∈ K.all, w.heap.size + 2 ≤ i := fun i hi => by have h1 := hfar i hi; have h2 := HT2.out.two.lt; omega
  have HFR := Lib.hid hfr
  have HST := Lib.hid (keepState_any w3 hk)
  clear hk hF hfar hfr hb3 HT2
  go_wp2_with fail
  refine HST.out.mono ?_
  rintro e w4 ⟨_, rfl, A0, c0, rfl, ho4, hf4, hb4⟩
  change Out 8 cellsP w4 s.pods A0 c0 at ho4
  rw [show stateV A0 (firstD s).pods.length c0 (firstD s).preempts (firstD s).shifts = .agg #[.slice A0 s.pods.length c0, .int .i64 0, .int .i64 0] from rfl]
  have kb := below_new w4 (.cells #[.slice A0 s.pods.length c0, .int .i64 0, .int .i64 0] 42)
  have hbg : Bf (w4.alloc (.cells #[.slice A0 s.pods.length c0, .int .i64 0, .int .i64 0] 42)) w4.heap.size [.slice A0 s.pods.length c0, .int .i64 0, .int .i64 0] := Bf.new w4 [.slice A0 s.pods.length c0, .int .i64 0, .int .i64 0] 42 rfl
  have HAT : Hid (BackRel s x l.length [.slice A1 s.nodes.length c1, .slice A2 s.loads.length c2, .slice A3 s.pods.length c3] [.slice A5 x.wants.length c5, .int .i64 x.preempts, .int .i64 x.shifts] K.kb w4.heap.size A0 c0 w (.int .i64 0) (.int .i64 0) (w4.alloc (.cells #[.slice A0 s.pods.length c0, .int .i64 0, .int .i64 0] 42))) := by
    refine Lib.hid ⟨0, firstD s, [], K, Nat.zero_le _, rfl, rfl, Nat.le_refl _, (HK.out.below hb4).below kb, rfl, fun i hi => ⟨HFR.out i hi, ?_, fun e he hl => ?_⟩, rfl, ⟨(HT3.out.keep hb4).keep kb, hbg, ho4.later kb⟩⟩
    · have h1 := HK.out.all_lt i hi
      have h2 := hb4.size
      omega
    · have h1 := HK.out.all_lt i hi
      have h2 := hf4 e he
      omega
  clear ho4 hf4 hb4 hbg kb HST HK HFR HT3
  go_upto_region 11 with fail
  generalize (w4.alloc (.cells #[.slice A0 s.pods.length c0, .int .i64 0, .int .i64 0] 42)) = W4 at *
  generalize w4.heap.size = g0 at *
  generalize K.kb = kb0 at *
  clear K
  go_wp2
  go_loopw [12, 13] (BackRel s x l.length [.slice A1 s.nodes.length c1, .slice A2 s.loads.length c2, .slice A3 s.pods.length c3] [.slice A5 x.wants.length c5, .int .i64 x.preempts, .int .i64 x.shifts] kb0 g0 A0 c0 w) (fun _ v _ => l.length - (intOf v).toNat)
  case atStart => exact HAT.out
  case round =>
    obtain ⟨i, t, ds, K, hi, rfl, rfl, hdi, hk, hroot, hasd, hkb, hbb⟩ := hrel
    subst hkb
    have HK := Lib.hid hk
    have HRT := Lib.hid hroot
    have HAS := Lib.hid hasd
    have HBB := Lib.hid hbb
    have HLT := Lib.hid hk.all_lt
    have HLB : Hid (∀ i, KBlk K ds i → i < wr.heap.size) := Lib.hid (fun i hi => hk.blk_lt hi)
    clear HAT hk hroot hasd hbb
    by_cases hlt : i < l.length
    · obtain ⟨b6, o6, rfl, hb6, he6⟩ := HR6.out.at hlt
      generalize l[i] = m at *
      have HL6 : Hid (∀ V, Below w.heap.size w V → b6 < V.heap.size ∧ ∀ j u, (cellsM m)[j]? = some u → V.cell? ⟨b6, o6 + i * 4 + j, none⟩ = some u) := Lib.hid (fun V hV => ⟨Nat.lt_of_lt_of_le hb6 hV.size, fun j u hu => (hV.cell (p := ⟨b6, o6 + i * 4 + j, none⟩) hb6).trans (he6 j u hu)⟩)
      have HST := Lib.hid (keepState_any wr HK.out)
      clear hb6 he6
      go_wp2_with fail
      refine HST.out.mono ?_
      rintro e w5 ⟨_, rfl, A4, c4, rfl, ho4, hf4, hb4⟩
      have kb := below_new w5 (.cells #[.slice A4 t.pods.length c4, .int .i64 t.preempts, .int .i64 t.shifts] 42)
      have hb14 : Bf (w5.alloc (.cells #[.slice A4 t.pods.length c4, .int .i64 t.preempts, .int .i64 t.shifts] 42)) w5.heap.size [.slice A4 t.pods.length c4, .int .i64 t.preempts, .int .i64 t.shifts] := Bf.new w5 [.slice A4 t.pods.length c4, .int .i64 t.preempts, .int .i64 t.shifts] 42 rfl
      have HK5 := Lib.hid ((HK.out.below hb4).below kb)
      have HBB5 := Lib.hid ((HBB.out.keep hb4).keep kb)
      have HO4 := Lib.hid (ho4.later kb)
      have HF4 := Lib.hid hf4
      have HB14 := Lib.hid hb14
      have hsz5 : wr.heap.size ≤ w5.heap.size := hb4.size
      have HSZ5 : Hid (w5.heap.size < (w5.alloc (.cells #[.slice A4 t.pods.length c4, .int .i64 t.preempts, .int .i64 t.shifts] 42)).heap.size) := Lib.hid (by simp)
      clear kb hb14 hb4 ho4 hf4 HST HK
      go_upto_region 16 with fail
      generalize (w5.alloc (.cells #[.slice A4 t.pods.length c4, .int .i64 t.preempts, .int .i64 t.shifts] 42)) = W at *
      generalize w5.heap.size = g14 at *
      have hgW : g14 < W.heap.size := HSZ5.out
      have HDO : Hid (∀ V, Below W.heap.size W V → Calls Tryz.prog 22 #[.agg #[.slice A1 s.nodes.length c1, .slice A2 s.loads.length c2, .slice A3 s.pods.length c3], .agg #[.slice A5 x.wants.length c5, .int .i64 x.preempts, .int .i64 x.shifts], .agg #[.slice A4 t.pods.length c4, .int .i64 t.preempts, .int .i64 t.shifts], .agg #[.int .i64 m.kind, .int .i64 m.pod, .int .i64 m.node, .int .i64 m.over]] V (DoTo (doD s.nodes s.loads x t m) V)) := Lib.hid (fun V hV => by
        have k := HA.out.at (HBB5.out.two.below.trans (hV.mono HBB5.out.two.below.size))
        have ho := HO4.out.later hV
        exact stepDo_any s.nodes s.loads x t m A1 A2 A3 A4 A5 _ c1 _ c2 _ c3 _ c4 _ c5 V ⟨k.g, k.ok.1, HK5.out.fine.ok, rfl, by have := k.s1.2.1; omega, k.r1, rfl, by have := k.s2.2.1; omega, k.r2, rfl, by have := HK5.out.fine.len; omega, ho.1, ho.2.2.2⟩ ho.2.2.1 rfl (by have := k.s5.2.1; omega) k.r5 k.wo)
      have HKD : Hid (∀ V, Below W.heap.size W V → Calls Tryz.prog 15 #[.pointer (some ⟨K.kb, 0, none⟩), .agg #[.int .i64 m.kind, .int .i64 m.pod, .int .i64 m.node, .int .i64 m.over]] V fun e w' => e = .returned (codeV (doD s.nodes s.loads x t m).2) ∧ Only K.all V w' ∧ (((doD s.nodes s.loads x t m).2 ≠ 0 ∧ Kp K s x t ds (100 + 16 * i + 16) w') ∨ ((doD s.nodes s.loads x t m).2 = 0 ∧ ∃ (K' : KAddr) (d : DeedD), d.t = t ∧ d.m = m ∧ Kp K' s x (doD s.nodes s.loads x t m).1 (ds ++ [d]) (100 + 16 * i + 16) w' ∧ K'.kb = K.kb ∧ (∀ i ∈ K'.all, i ∈ K.all ∨ V.heap.size ≤ i) ∧ ∀ i, KBlk K' (ds ++ [d]) i → KBlk K ds i ∨ V.heap.size ≤ i))) := Lib.hid (fun V hV => keepDo_any m V (HK5.out.below hV) HF.out (by unfold maxLen; omega) (by omega))
      have HDV := Lib.hid (do_vals s.nodes s.loads x t m)
      have k16 : W.drew.cell? ⟨w.heap.size, 0, none⟩ = some (.slice A1 s.nodes.length c1) ∧ W.drew.cell? ⟨w.heap.size, 1, none⟩ = some (.slice A2 s.loads.length c2) ∧ W.drew.cell? ⟨w.heap.size, 2, none⟩ = some (.slice A3 s.pods.length c3) ∧ W.drew.cell? ⟨w.heap.size + 1, 0, none⟩ = some (.slice A5 x.wants.length c5) ∧ W.drew.cell? ⟨w.heap.size + 1, 1, none⟩ = some (.int .i64 x.preempts) ∧ W.drew.cell? ⟨w.heap.size + 1, 2, none⟩ = some (.int .i64 x.shifts) ∧ W.drew.cell? ⟨g14, 0, none⟩ = some (.slice A4 t.pods.length c4) ∧ W.drew.cell? ⟨g14, 1, none⟩ = some (.int .i64 t.preempts) ∧ W.drew.cell? ⟨g14, 2, none⟩ = some (.int .i64 t.shifts) ∧ W.drew.cell? ⟨b6, o6 + i * 4, none⟩ = some (.int .i64 m.kind) ∧ W.drew.cell? ⟨b6, o6 + i * 4 + 1, none⟩ = some (.int .i64 m.pod) ∧ W.drew.cell? ⟨b6, o6 + i * 4 + 2, none⟩ = some (.int .i64 m.node) ∧ W.drew.cell? ⟨b6, o6 + i * 4 + 3, none⟩ = some (.int .i64 m.over) := (by obtain ⟨a0, a1, a2, -⟩ := HBB5.out.two.one.cells3; obtain ⟨d0, d1, d2, -⟩ := HBB5.out.two.two.cells3; obtain ⟨t0, t1, t2, -⟩ := HB14.out.cells3; have e0 := (HL6.out W HBB5.out.two.below).2 0 _ rfl; rw [Nat.add_zero] at e0; exact ⟨a0, a1, a2, d0, d1, d2, t0, t1, t2, e0, (HL6.out W HBB5.out.two.below).2 1 _ rfl, (HL6.out W HBB5.out.two.below).2 2 _ rfl, (HL6.out W HBB5.out.two.below).2 3 _ rfl⟩)
      have l16 : W.cell? ⟨w.heap.size, 0, none⟩ = some (.slice A1 s.nodes.length c1) ∧ W.cell? ⟨w.heap.size, 1, none⟩ = some (.slice A2 s.loads.length c2) ∧ W.cell? ⟨w.heap.size, 2, none⟩ = some (.slice A3 s.pods.length c3) ∧ W.cell? ⟨w.heap.size + 1, 0, none⟩ = some (.slice A5 x.wants.length c5) ∧ W.cell? ⟨w.heap.size + 1, 1, none⟩ = some (.int .i64 x.preempts) ∧ W.cell? ⟨w.heap.size + 1, 2, none⟩ = some (.int .i64 x.shifts) ∧ W.cell? ⟨g14, 0, none⟩ = some (.slice A4 t.pods.length c4) ∧ W.cell? ⟨g14, 1, none⟩ = some (.int .i64 t.preempts) ∧ W.cell? ⟨g14, 2, none⟩ = some (.int .i64 t.shifts) ∧ W.cell? ⟨b6, o6 + i * 4, none⟩ = some (.int .i64 m.kind) ∧ W.cell? ⟨b6, o6 + i * 4 + 1, none⟩ = some (.int .i64 m.pod) ∧ W.cell? ⟨b6, o6 + i * 4 + 2, none⟩ = some (.int .i64 m.node) ∧ W.cell? ⟨b6, o6 + i * 4 + 3, none⟩ = some (.int .i64 m.over) := k16
      generalize doD s.nodes s.loads x t m = z at *
      obtain ⟨hbw0, hbw1, hbw2⟩ : w.heap.size ≠ W.heap.size ∧ w.heap.size + 1 ≠ W.heap.size ∧ g14 ≠ W.heap.size := by have h1 := HBB5.out.two.two.lt; exact ⟨by omega, by omega, by omega⟩
      have hbw3 : b6 ≠ W.heap.size := by have h1 := (HL6.out W HBB5.out.two.below).1; omega
      go_cut [15, 16] from 61 to 71 (fun v15 v16 wx => ∃ g15 A15 c15, v15 = .pointer (some ⟨g15, 0, none⟩) ∧ v16 = codeV z.2 ∧ Bf wx g15 [.slice A15 z.1.pods.length c15, .int .i64 z.1.preempts, .int .i64 z.1.shifts] ∧ Out 8 cellsP wx z.1.pods A15 c15 ∧ (∀ a, A15 = some a → W.heap.size ≤ a.block) ∧ W.heap.size ≤ g15 ∧ Below W.heap.size W wx)
      case first =>
        have hbz : Bf (W.alloc (.cells #[.slice none 0 0, .int .i64 0, .int .i64 0] 42)).drew W.heap.size [.slice none 0 0, .int .i64 0, .int .i64 0] := (Bf.new W [.slice none 0 0, .int .i64 0, .int .i64 0] 42 rfl).drew
        have hb0 : Below W.heap.size W (W.alloc (.cells #[.slice none 0 0, .int .i64 0, .int .i64 0] 42)).drew := ((Below.refl _ W).alloc (Nat.le_refl _) _).drew
        have HBZ := Lib.hid hbz
        have HB0Z := Lib.hid hb0
        clear hbz hb0
        go_region_held3 (fun w' => w'.cell? ⟨w.heap.size, 0, none⟩ = some (.slice A1 s.nodes.length c1) ∧ w'.cell? ⟨w.heap.size, 1, none⟩ = some (.slice A2 s.loads.length c2) ∧ w'.cell? ⟨w.heap.size, 2, none⟩ = some (.slice A3 s.pods.length c3) ∧ w'.cell? ⟨w.heap.size + 1, 0, none⟩ = some (.slice A5 x.wants.length c5) ∧ w'.cell? ⟨w.heap.size + 1, 1, none⟩ = some (.int .i64 x.preempts) ∧ w'.cell? ⟨w.heap.size + 1, 2, none⟩ = some (.int .i64 x.shifts) ∧ w'.cell? ⟨g14, 0, none⟩ = some (.slice A4 t.pods.length c4) ∧ w'.cell? ⟨g14, 1, none⟩ = some (.int .i64 t.preempts) ∧ w'.cell? ⟨g14, 2, none⟩ = some (.int .i64 t.shifts) ∧ w'.cell? ⟨b6, o6 + i * 4, none⟩ = some (.int .i64 m.kind) ∧ w'.cell? ⟨b6, o6 + i * 4 + 1, none⟩ = some (.int .i64 m.pod) ∧ w'.cell? ⟨b6, o6 + i * 4 + 2, none⟩ = some (.int .i64 m.node) ∧ w'.cell? ⟨b6, o6 + i * 4 + 3, none⟩ = some (.int .i64 m.over))
          (first | with_reducible assumption | ((repeat' apply And.intro) <;> with_reducible assumption) | (simp only [cell_off3 hbw0, cell_off3 hbw1, cell_off3 hbw2, cell_off3 hbw3]; with_reducible assumption) | go_keep)
          (first
            | (go_at_call 22; have hbV : Below W.heap.size W (W.alloc (.cells #[.slice none 0 0, .int .i64 0, .int .i64 0] 42)).drew := HB0Z.out; refine (HDO.out _ hbV).mono ?_; rintro e w6 ⟨_, rfl, A15, c15, rfl, ho6, hf6, hb6⟩; have HW6 := Lib.hid (hbV.trans (hb6.mono hbV.size)); clear hbV; have k17 : w6.cell? ⟨w.heap.size, 0, none⟩ = some (.slice A1 s.nodes.length c1) ∧ w6.cell? ⟨w.heap.size, 1, none⟩ = some (.slice A2 s.loads.length c2) ∧ w6.cell? ⟨w.heap.size, 2, none⟩ = some (.slice A3 s.pods.length c3) ∧ w6.cell? ⟨w.heap.size + 1, 0, none⟩ = some (.slice A5 x.wants.length c5) ∧ w6.cell? ⟨w.heap.size + 1, 1, none⟩ = some (.int .i64 x.preempts) ∧ w6.cell? ⟨w.heap.size + 1, 2, none⟩ = some (.int .i64 x.shifts) ∧ w6.cell? ⟨g14, 0, none⟩ = some (.slice A4 t.pods.length c4) ∧ w6.cell? ⟨g14, 1, none⟩ = some (.int .i64 t.preempts) ∧ w6.cell? ⟨g14, 2, none⟩ = some (.int .i64 t.shifts) ∧ w6.cell? ⟨b6, o6 + i * 4, none⟩ = some (.int .i64 m.kind) ∧ w6.cell? ⟨b6, o6 + i * 4 + 1, none⟩ = some (.int .i64 m.pod) ∧ w6.cell? ⟨b6, o6 + i * 4 + 2, none⟩ = some (.int .i64 m.node) ∧ w6.cell? ⟨b6, o6 + i * 4 + 3, none⟩ = some (.int .i64 m.over) := (by obtain ⟨a0, a1, a2, -⟩ := (HBB5.out.keep HW6.out).two.one.cells3; obtain ⟨d0, d1, d2, -⟩ := (HBB5.out.keep HW6.out).two.two.cells3; obtain ⟨t0, t1, t2, -⟩ := (HB14.out.below HW6.out HB14.out.lt).cells3; have e0 := (HL6.out w6 (HBB5.out.keep HW6.out).two.below).2 0 _ rfl; rw [Nat.add_zero] at e0; exact ⟨a0, a1, a2, d0, d1, d2, t0, t1, t2, e0, (HL6.out w6 (HBB5.out.keep HW6.out).two.below).2 1 _ rfl, (HL6.out w6 (HBB5.out.keep HW6.out).two.below).2 2 _ rfl, (HL6.out w6 (HBB5.out.keep HW6.out).two.below).2 3 _ rfl⟩); have HO6 := Lib.hid ho6; have HF6 := Lib.hid hf6; have HBX := Lib.hid (HBZ.out.below hb6 HBZ.out.lt); have y0 := HBX.out.cell 0 _ rfl; have y1 := HBX.out.cell 1 _ rfl; have y2 := HBX.out.cell 2 _ rfl; have z0 := HBX.out.frozen 0; have z1 := HBX.out.frozen 1; have z2 := HBX.out.frozen 2; have hlb := HBX.out.lt)
            | (go_at_call 22; have hbV : Below W.heap.size W W.drew := (Below.refl _ W).drew; refine (HDO.out _ hbV).mono ?_; rintro e w6 ⟨_, rfl, A15, c15, rfl, ho6, hf6, hb6⟩; have HW6 := Lib.hid (hbV.trans (hb6.mono hbV.size)); clear hbV; have k17 : w6.cell? ⟨w.heap.size, 0, none⟩ = some (.slice A1 s.nodes.length c1) ∧ w6.cell? ⟨w.heap.size, 1, none⟩ = some (.slice A2 s.loads.length c2) ∧ w6.cell? ⟨w.heap.size, 2, none⟩ = some (.slice A3 s.pods.length c3) ∧ w6.cell? ⟨w.heap.size + 1, 0, none⟩ = some (.slice A5 x.wants.length c5) ∧ w6.cell? ⟨w.heap.size + 1, 1, none⟩ = some (.int .i64 x.preempts) ∧ w6.cell? ⟨w.heap.size + 1, 2, none⟩ = some (.int .i64 x.shifts) ∧ w6.cell? ⟨g14, 0, none⟩ = some (.slice A4 t.pods.length c4) ∧ w6.cell? ⟨g14, 1, none⟩ = some (.int .i64 t.preempts) ∧ w6.cell? ⟨g14, 2, none⟩ = some (.int .i64 t.shifts) ∧ w6.cell? ⟨b6, o6 + i * 4, none⟩ = some (.int .i64 m.kind) ∧ w6.cell? ⟨b6, o6 + i * 4 + 1, none⟩ = some (.int .i64 m.pod) ∧ w6.cell? ⟨b6, o6 + i * 4 + 2, none⟩ = some (.int .i64 m.node) ∧ w6.cell? ⟨b6, o6 + i * 4 + 3, none⟩ = some (.int .i64 m.over) := (by obtain ⟨a0, a1, a2, -⟩ := (HBB5.out.keep HW6.out).two.one.cells3; obtain ⟨d0, d1, d2, -⟩ := (HBB5.out.keep HW6.out).two.two.cells3; obtain ⟨t0, t1, t2, -⟩ := (HB14.out.below HW6.out HB14.out.lt).cells3; have e0 := (HL6.out w6 (HBB5.out.keep HW6.out).two.below).2 0 _ rfl; rw [Nat.add_zero] at e0; exact ⟨a0, a1, a2, d0, d1, d2, t0, t1, t2, e0, (HL6.out w6 (HBB5.out.keep HW6.out).two.below).2 1 _ rfl, (HL6.out w6 (HBB5.out.keep HW6.out).two.below).2 2 _ rfl, (HL6.out w6 (HBB5.out.keep HW6.out).two.below).2 3 _ rfl⟩); have HO6 := Lib.hid ho6; have HF6 := Lib.hid hf6))
        all_goals
          go_wp2_with fail
          go_meet
        · exact ⟨w6.heap.size, A15, c15, rfl, rfl, Bf.new w6 [.slice A15 z.1.pods.length c15, .int .i64 z.1.preempts, .int .i64 z.1.shifts] 42 rfl, HO6.out.alloc _, HF6.out, HW6.out.size, HW6.out.alloc HW6.out.size _⟩
        · have hA : ∀ a, A15 = some a → a.block ≠ W.heap.size := fun a ha => by have h1 := HF6.out a ha; simp at h1; omega
          exact ⟨W.heap.size, A15, c15, rfl, rfl, bf_set3 HBX.out, ((HO6.out.set hA _).set hA _).set hA _, (fun a ha => by have h1 := HF6.out a ha; simp at h1; omega), Nat.le_refl _, ((HW6.out.setCell (p := ⟨W.heap.size, 0, none⟩) (Nat.le_refl _) _).setCell (p := ⟨W.heap.size, 1, none⟩) (Nat.le_refl _) _).setCell (p := ⟨W.heap.size, 2, none⟩) (Nat.le_refl _) _⟩
      case rest =>
      obtain ⟨g15, A15, c15, rfl, rfl, hb15, ho15, hf15, hg15, hbW⟩ := hcut
      obtain ⟨u, c⟩ := z
      dsimp only at HKD HDV hb15 ho15
      have HB15 := Lib.hid hb15
      have HO15 := Lib.hid ho15
      have HF15 := Lib.hid hf15
      have HBW := Lib.hid hbW
      have HBBc := Lib.hid (HBB5.out.keep hbW)
      have HB14c := Lib.hid (HB14.out.below hbW HB14.out.lt)
      have HO4c := Lib.hid (HO4.out.later hbW)
      have he := (HL6.out wc HBBc.out.two.below).2
      have e0 := he 0 _ rfl
      have e1 := he 1 _ rfl
      have e2 := he 2 _ rfl
      have e3 := he 3 _ rfl
      rw [Nat.add_zero] at e0
      have hb6c := (HL6.out wc HBBc.out.two.below).1
      clear hb15 ho15 hf15 hbW he k16 l16 HDO HBB5 HB14 HO4 hbw0 hbw1 hbw2 hbw3
      go_wp2_with fail
      refine (HKD.out _ HBW.out).mono ?_
      rintro e w7 ⟨rfl, ho7, h7⟩
      have HBB7 := Lib.hid (HBBc.out.only HAS.out ho7)
      have hnot : ∀ j, wr.heap.size ≤ j → j ∉ K.all := fun j hj e => by have h1 := HLT.out j e; omega
      have HB147 := Lib.hid (HB14c.out.only ho7 (hnot _ (by omega)))
      have HB157 := Lib.hid (HB15.out.only ho7 (hnot _ (by omega)))
      have HO47 := Lib.hid (HO4c.out.only ho7 (fun a ha => hnot _ (HF4.out a ha)))
      have HO157 := Lib.hid (HO15.out.only ho7 (fun a ha => hnot _ (by have h1 := HF15.out a ha; omega)))
      have hsz7 : wc.heap.size ≤ w7.heap.size := ho7.size
      clear ho7 hnot e0 e1 e2 e3 hb6c HKD HB14c HO4c HB15 HO15
      by_cases hc : c = 0
      case neg =>
        rcases h7 with ⟨_, hk7⟩ | ⟨h, _⟩
        case inr => exact absurd h hc
        have HK7 := Lib.hid hk7
        have HCA := Lib.hid (fun V => code_any c (by have := HDV.out; omega) (by have := HDV.out; omega) V)
        rw [codeV_pos hc]
        clear hk7 hc HDV
        go_wp2_with fail
        refine (HCA.out _).mono ?_
        rintro e w8 ⟨rfl, rfl⟩
        go_wp2_with fail
        refine (HCA.out _).mono ?_
        rintro e w8 ⟨rfl, rfl⟩
        have HST := Lib.hid (keepState_any w7.drew (HK7.out.below (Below.refl _ w7).drew))
        have HSM : Hid (∀ V A' c', Below w7.drew.heap.size w7.drew V → Recs 8 cellsP V V.heap.size A' t.pods → Calls Tryz.prog 17 #[stateV A' t.pods.length c' t.preempts t.shifts, .agg #[.slice A4 t.pods.length c4, .int .i64 t.preempts, .int .i64 t.shifts]] V fun e w' => e = .returned (.bool true) ∧ Below V.heap.size V w') := Lib.hid (fun V A' c' hV hr => by
          have h1 := rSame05_any t t A' A4 _ c' _ c4 V rfl (by have := HK7.out.fine.len; omega) rfl (by have := HK7.out.fine.len; omega) hr ((HO47.out.later (Below.refl _ w7).drew).later hV).2.2.2
          rw [stateEq_self] at h1
          exact h1)
        have k23 : w7.drew.cell? ⟨g14, 0, none⟩ = some (.slice A4 t.pods.length c4) ∧ w7.drew.cell? ⟨g14, 1, none⟩ = some (.int .i64 t.preempts) ∧ w7.drew.cell? ⟨g14, 2, none⟩ = some (.int .i64 t.shifts) := (by obtain ⟨t0, t1, t2, -⟩ := HB147.out.cells3; exact ⟨t0, t1, t2⟩)
        go_upto_region 23 with fail
        go_region_held3 (fun w' => w'.cell? ⟨g14, 0, none⟩ = some (.slice A4 t.pods.length c4) ∧ w'.cell? ⟨g14, 1, none⟩ = some (.int .i64 t.preempts) ∧ w'.cell? ⟨g14, 2, none⟩ = some (.int .i64 t.shifts))
          (first | with_reducible assumption | ((repeat' apply And.intro) <;> with_reducible assumption) | go_keep)
          (first
            | (go_at_call 18; refine HST.out.mono ?_; rintro e w9 ⟨_, rfl, A', c', rfl, ho9, hf9, hb9⟩; have HB9 := Lib.hid hb9; have HR9 := Lib.hid ho9.2.2.2; have k24 : w9.cell? ⟨g14, 0, none⟩ = some (.slice A4 t.pods.length c4) ∧ w9.cell? ⟨g14, 1, none⟩ = some (.int .i64 t.preempts) ∧ w9.cell? ⟨g14, 2, none⟩ = some (.int .i64 t.shifts) := (by obtain ⟨t0, t1, t2, -⟩ := (HB147.out.drew.below hb9 HB147.out.drew.lt).cells3; exact ⟨t0, t1, t2⟩); clear ho9 hf9 hb9)
            | (go_at_call 17; refine (HSM.out _ _ _ HB9.out HR9.out).mono ?_; rintro e w10 ⟨rfl, hb10⟩; have HB10 : Hid (Below w7.heap.size w7 w10) := Lib.hid ((Below.refl _ w7).drew.trans (HB9.out.trans (hb10.mono HB9.out.size))); have k25 : w10.cell? ⟨g14, 0, none⟩ = some (.slice A4 t.pods.length c4) ∧ w10.cell? ⟨g14, 1, none⟩ = some (.int .i64 t.preempts) ∧ w10.cell? ⟨g14, 2, none⟩ = some (.int .i64 t.shifts) := (by obtain ⟨t0, t1, t2, -⟩ := (HB147.out.below HB10.out HB147.out.lt).cells3; exact ⟨t0, t1, t2⟩); clear hb10))
        clear k23 k24 k25 HST HSM HB9 HR9
        go_wp2
        go_roundw
        case rel => exact ⟨i + 1, t, ds, K, by omega, rfl, by go_num, by omega, (HK7.out.below HB10.out).same (by omega), HRT.out, HAS.out, rfl, HBB7.out.keep HB10.out⟩
        case measure => simp [intOf]; omega
      rcases h7 with ⟨h, _⟩ | ⟨_, K', d, hdt, hdm, hk7, hkb', hall, hblk⟩
      · exact absurd hc h
      have HK7 := Lib.hid hk7
      have HRT7 : Hid (rootOf u (ds ++ [d]) = firstD s) := Lib.hid (by rw [root_snoc, hdt]; exact HRT.out)
      have HAS7 : Hid (Aside K' s.pods g0 A0 w) := Lib.hid (Aside.more HBBc.out HAS.out hall)
      subst hc
      rw [codeV_zero]
      have hg14 : ¬ KBlk K' (ds ++ [d]) g14 := fun e => by
        rcases hblk _ e with e | e
        · have h1 := HLB.out _ e; omega
        · have h1 := HBW.out.size; omega
      have HG14 := Lib.hid hg14
      have HKB := Lib.hid hkb'
      obtain ⟨t0, t1, t2, t3⟩ := HB147.out.cells3
      have z0 := HB147.out.frozen 0
      have z1 := HB147.out.frozen 1
      have z2 := HB147.out.frozen 2
      obtain ⟨f0, f1, f2, f3⟩ := HB157.out.cells3
      clear hk7 hg14 hblk hall hdt hdm hkb' HBBc HBW HLB HLT HDV HO47
      go_wp2_with fail
      refine (code_nil _).mono ?_
      rintro e w8 ⟨rfl, rfl⟩
      go_wp2_with fail
      refine (code_nil _).mono ?_
      rintro e w8 ⟨rfl, rfl⟩
      go_upto_region 23 with fail
      have ho8 : Only [g14] w7 (((w7.setCell ⟨g14, 0, none⟩ (.slice A15 u.pods.length c15)).setCell ⟨g14, 1, none⟩ (.int .i64 u.preempts)).setCell ⟨g14, 2, none⟩ (.int .i64 u.shifts)) := (((Only.refl [g14] w7).setCell (p := ⟨g14, 0, none⟩) (List.mem_singleton.2 rfl) _).setCell (p := ⟨g14, 1, none⟩) (List.mem_singleton.2 rfl) _).setCell (p := ⟨g14, 2, none⟩) (List.mem_singleton.2 rfl) _
      have HB148 : Hid (Bf (((w7.setCell ⟨g14, 0, none⟩ (.slice A15 u.pods.length c15)).setCell ⟨g14, 1, none⟩ (.int .i64 u.preempts)).setCell ⟨g14, 2, none⟩ (.int .i64 u.shifts)) g14 [.slice A15 u.pods.length c15, .int .i64 u.preempts, .int .i64 u.shifts]) := Lib.hid (bf_set3 HB147.out)
      have HK8 := Lib.hid (HK7.out.only ho8 (fun i hi e => HG14.out (by rw [← List.mem_singleton.1 hi]; exact e)))
      have HO158 := Lib.hid (HO157.out.only ho8 (fun a ha e => by have h1 := HF15.out a ha; have h2 := List.mem_singleton.1 e; omega))
      have HBB8 := Lib.hid (HBB.out.past HBB7.out ho8 (fun i hi => by have h2 := List.mem_singleton.1 hi; omega))
      clear ho8 t0 t1 t2 t3 z0 z1 z2 f0 f1 f2 f3 HB147 HB157 HK7 HO157 HBB7 HG14
      generalize (((w7.setCell ⟨g14, 0, none⟩ (.slice A15 u.pods.length c15)).setCell ⟨g14, 1, none⟩ (.int .i64 u.preempts)).setCell ⟨g14, 2, none⟩ (.int .i64 u.shifts)) = W8 at *
      have HST := Lib.hid (keepState_any W8.drew (HK8.out.below (Below.refl _ W8).drew))
      have HSM : Hid (∀ V A' c', Below W8.drew.heap.size W8.drew V → Recs 8 cellsP V V.heap.size A' u.pods → Calls Tryz.prog 17 #[stateV A' u.pods.length c' u.preempts u.shifts, .agg #[.slice A15 u.pods.length c15, .int .i64 u.preempts, .int .i64 u.shifts]] V fun e w' => e = .returned (.bool true) ∧ Below V.heap.size V w') := Lib.hid (fun V A' c' hV hr => by
        have h1 := rSame05_any u u A' A15 _ c' _ c15 V rfl (by have := HK8.out.fine.len; omega) rfl (by have := HK8.out.fine.len; omega) hr ((HO158.out.later (Below.refl _ W8).drew).later hV).2.2.2
        rw [stateEq_self] at h1
        exact h1)
      rw [HKB.out] at HST
      have k23 : W8.drew.cell? ⟨g14, 0, none⟩ = some (.slice A15 u.pods.length c15) ∧ W8.drew.cell? ⟨g14, 1, none⟩ = some (.int .i64 u.preempts) ∧ W8.drew.cell? ⟨g14, 2, none⟩ = some (.int .i64 u.shifts) := (by obtain ⟨t0, t1, t2, -⟩ := HB148.out.cells3; exact ⟨t0, t1, t2⟩)
      go_region_held3 (fun w' => w'.cell? ⟨g14, 0, none⟩ = some (.slice A15 u.pods.length c15) ∧ w'.cell? ⟨g14, 1, none⟩ = some (.int .i64 u.preempts) ∧ w'.cell? ⟨g14, 2, none⟩ = some (.int .i64 u.shifts))
        (first | with_reducible assumption | ((repeat' apply And.intro) <;> with_reducible assumption) | go_keep)
        (first
          | (go_at_call 18; refine HST.out.mono ?_; rintro e w9 ⟨_, rfl, A', c', rfl, ho9, hf9, hb9⟩; have HB9 := Lib.hid hb9; have HR9 := Lib.hid ho9.2.2.2; have k24 : w9.cell? ⟨g14, 0, none⟩ = some (.slice A15 u.pods.length c15) ∧ w9.cell? ⟨g14, 1, none⟩ = some (.int .i64 u.preempts) ∧ w9.cell? ⟨g14, 2, none⟩ = some (.int .i64 u.shifts) := (by obtain ⟨t0, t1, t2, -⟩ := (HB148.out.drew.below hb9 HB148.out.drew.lt).cells3; exact ⟨t0, t1, t2⟩); clear ho9 hf9 hb9)
          | (go_at_call 17; refine (HSM.out _ _ _ HB9.out HR9.out).mono ?_; rintro e w10 ⟨rfl, hb10⟩; have HB10 : Hid (Below W8.heap.size W8 w10) := Lib.hid ((Below.refl _ W8).drew.trans (HB9.out.trans (hb10.mono HB9.out.size))); have k25 : w10.cell? ⟨g14, 0, none⟩ = some (.slice A15 u.pods.length c15) ∧ w10.cell? ⟨g14, 1, none⟩ = some (.int .i64 u.preempts) ∧ w10.cell? ⟨g14, 2, none⟩ = some (.int .i64 u.shifts) := (by obtain ⟨t0, t1, t2, -⟩ := (HB148.out.below HB10.out HB148.out.lt).cells3; exact ⟨t0, t1, t2⟩); clear hb10))
      clear k23 k24 k25 HST HSM HB9 HR9
      go_wp2
      go_roundw
      case rel => exact ⟨i + 1, u, ds ++ [d], K', by omega, by simp, by go_num, by simp; omega, (HK8.out.below HB10.out).same (by omega), HRT7.out, HAS7.out, HKB.out, HBB8.out.keep HB10.out⟩
      case measure => simp [intOf]; omega
    · have HAT : Hid (UndoRel s x ds.length [.slice A1 s.nodes.length c1, .slice A2 s.loads.length c2, .slice A3 s.pods.length c3] [.slice A5 x.wants.length c5, .int .i64 x.preempts, .int .i64 x.shifts] K.kb g0 A0 c0 w (.int .i64 0) wr) := Lib.hid ⟨0, t, ds, K, rfl, rfl, HK.out.same (by omega), HRT.out, HAS.out, rfl, HBB.out⟩
      clear HK HRT HAS HBB HLT HLB
      generalize ds.length = nd at *
      generalize K.kb = kb1 at *
      clear K
      go_wp2
      go_loopw [18] (UndoRel s x nd [.slice A1 s.nodes.length c1, .slice A2 s.loads.length c2, .slice A3 s.pods.length c3] [.slice A5 x.wants.length c5, .int .i64 x.preempts, .int .i64 x.shifts] kb1 g0 A0 c0 w) (fun v _ => nd - (intOf v).toNat)
      case atStart => exact HAT.out
      case round =>
        obtain ⟨j, t2, ds2, K2, rfl, hj, hk, hroot, has, hkb, hbb⟩ := hrel
        subst hkb
        have HK := Lib.hid hk
        have HRT := Lib.hid hroot
        have HAS := Lib.hid has
        have HBB := Lib.hid hbb
        clear HAT hk hroot has hbb
        by_cases hlt2 : j < nd
        · have HUN := Lib.hid (keepUndo_any wr HK.out HF.out (by unfold maxLen; omega))
          have HJ := Lib.hid hj
          clear hj
          go_wp2_with fail
          refine HUN.out.mono ?_
          rintro e w9 h
          rcases h with ⟨he, _⟩ | ⟨ds3, d, he, rfl, hk9, ho9⟩
          · exact absurd (by have h1 := HJ.out; rw [he] at h1; simp at h1; omega : ¬ j < nd) (by simp [hlt2])
          · have HK9 := Lib.hid hk9
            have HBB9 := Lib.hid (HBB.out.only HAS.out ho9)
            have HRT9 : Hid (rootOf d.t ds3 = firstD s) := Lib.hid (by have h1 := HRT.out; rw [he, root_snoc] at h1; exact h1)
            have hln : ds3.length + (j + 1) = nd := by have h1 := HJ.out; rw [he] at h1; simp at h1; omega
            have HLN := Lib.hid hln
            clear hk9 ho9 he hln HUN
            go_wp2
            go_roundw
            case rel => exact ⟨j + 1, d.t, ds3, K2, by go_num, HLN.out, HK9.out.same (by omega), HRT9.out, HAS.out, rfl, HBB9.out⟩
            case measure => simp [intOf]; omega
        · have hds : ds2 = [] := List.eq_nil_of_length_eq_zero (by omega)
          subst hds
          have hr : t2 = firstD s := HRT.out
          subst hr
          have HBR : Hid (Below wr.heap.size wr wr.drew) := Lib.hid (Below.refl _ wr).drew
          have HUN : Hid (∀ V, Below wr.heap.size wr V → Calls Tryz.prog 13 #[.pointer (some ⟨K2.kb, 0, none⟩)] V fun e w' => e = .returned (.bool false) ∧ Below V.heap.size V w') := Lib.hid (fun V hV => (keepUndo_any V (HK.out.below hV) HF.out (by unfold maxLen; omega)).mono (fun e w' h => by
            rcases h with ⟨_, h1, h2⟩ | ⟨ds3, d, h1, _⟩
            · exact ⟨h1, h2⟩
            · exact absurd h1 (by simp)))
          have HDN : Hid (∀ V, Below wr.heap.size wr V → Calls Tryz.prog 16 #[.pointer (some ⟨K2.kb, 0, none⟩)] V fun e w' => e = .returned (.int .i64 0) ∧ Below V.heap.size V w') := Lib.hid (fun V hV => keepDone_any V (HK.out.below hV))
          have HST : Hid (∀ V, Below wr.heap.size wr V → Calls Tryz.prog 18 #[.pointer (some ⟨K2.kb, 0, none⟩)] V fun e w' => ∃ v, e = .returned v ∧ StateTo (firstD s) V v w') := Lib.hid (fun V hV => keepState_any V (HK.out.below hV))
          have HSM : Hid (∀ V A' c', Below wr.heap.size wr V → Recs 8 cellsP V V.heap.size A' s.pods → Calls Tryz.prog 17 #[stateV A' s.pods.length c' 0 0, .agg #[.slice A0 s.pods.length c0, .int .i64 0, .int .i64 0]] V fun e w' => e = .returned (.bool true) ∧ Below V.heap.size V w') := Lib.hid (fun V A' c' hV hr => by
            have h1 := rSame05_any (firstD s) (firstD s) A' A0 _ c' _ c0 V rfl (by have := HK.out.fine.len; omega) rfl (by have := HK.out.fine.len; omega) hr (HBB.out.out.later hV).2.2.2
            rw [stateEq_self] at h1
            exact h1)
          have k30 : wr.drew.cell? ⟨g0, 0, none⟩ = some (.slice A0 s.pods.length c0) ∧ wr.drew.cell? ⟨g0, 1, none⟩ = some (.int .i64 0) ∧ wr.drew.cell? ⟨g0, 2, none⟩ = some (.int .i64 0) := (by obtain ⟨t0, t1, t2, -⟩ := HBB.out.box.cells3; exact ⟨t0, t1, t2⟩)
          clear HRT HAS hj
          go_upto_region 30 with fail
          go_region_held3 (fun w' => w'.cell? ⟨g0, 0, none⟩ = some (.slice A0 s.pods.length c0) ∧ w'.cell? ⟨g0, 1, none⟩ = some (.int .i64 0) ∧ w'.cell? ⟨g0, 2, none⟩ = some (.int .i64 0))
            (first | with_reducible assumption | ((repeat' apply And.intro) <;> with_reducible assumption) | go_keep)
            (first
              | (go_at_call 13; refine (HUN.out _ HBR.out).mono ?_; rintro e w11 ⟨rfl, hb⟩; have HBR := Lib.hid (HBR.out.trans (hb.mono HBR.out.size)); have k31 : w11.cell? ⟨g0, 0, none⟩ = some (.slice A0 s.pods.length c0) ∧ w11.cell? ⟨g0, 1, none⟩ = some (.int .i64 0) ∧ w11.cell? ⟨g0, 2, none⟩ = some (.int .i64 0) := (by obtain ⟨t0, t1, t2, -⟩ := (HBB.out.keep HBR.out).box.cells3; exact ⟨t0, t1, t2⟩); clear hb)
              | (go_at_call 16; refine (HDN.out _ HBR.out).mono ?_; rintro e w12 ⟨rfl, hb⟩; have HBR := Lib.hid (HBR.out.trans (hb.mono HBR.out.size)); have k32 : w12.cell? ⟨g0, 0, none⟩ = some (.slice A0 s.pods.length c0) ∧ w12.cell? ⟨g0, 1, none⟩ = some (.int .i64 0) ∧ w12.cell? ⟨g0, 2, none⟩ = some (.int .i64 0) := (by obtain ⟨t0, t1, t2, -⟩ := (HBB.out.keep HBR.out).box.cells3; exact ⟨t0, t1, t2⟩); clear hb)
              | (go_at_call 18; refine (HST.out _ HBR.out).mono ?_; rintro e w13 ⟨_, rfl, A', c', rfl, ho9, hf9, hb⟩; have HR9 : Hid (Recs 8 cellsP w13 w13.heap.size A' s.pods) := Lib.hid ho9.2.2.2; have HBR := Lib.hid (HBR.out.trans (hb.mono HBR.out.size)); have k33 : w13.cell? ⟨g0, 0, none⟩ = some (.slice A0 s.pods.length c0) ∧ w13.cell? ⟨g0, 1, none⟩ = some (.int .i64 0) ∧ w13.cell? ⟨g0, 2, none⟩ = some (.int .i64 0) := (by obtain ⟨t0, t1, t2, -⟩ := (HBB.out.keep HBR.out).box.cells3; exact ⟨t0, t1, t2⟩); clear ho9 hf9 hb)
              | (go_at_call 17; refine (HSM.out _ _ _ HBR.out HR9.out).mono ?_; rintro e w14 ⟨rfl, hb⟩; have HBR := Lib.hid (HBR.out.trans (hb.mono HBR.out.size)); have k34 : w14.cell? ⟨g0, 0, none⟩ = some (.slice A0 s.pods.length c0) ∧ w14.cell? ⟨g0, 1, none⟩ = some (.int .i64 0) ∧ w14.cell? ⟨g0, 2, none⟩ = some (.int .i64 0) := (by obtain ⟨t0, t1, t2, -⟩ := (HBB.out.keep HBR.out).box.cells3; exact ⟨t0, t1, t2⟩); clear hb))
          go_wp2
          go_ret
          exact ⟨rfl, (HBB.out.keep HBR.out).two.below⟩

end Go.Proofs.YtpfjeoldgcepnaaGreatDoor
