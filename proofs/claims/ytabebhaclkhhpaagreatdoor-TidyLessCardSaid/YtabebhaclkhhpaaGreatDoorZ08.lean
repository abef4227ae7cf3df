/- Joined texts, part 8: WC WA QL ZA EM YA CZ EZ BA. -/
import Derived.Test.YtabebhaclkhhpaaGreatDoorZ07
import Derived.Test.YtabebhaclkhhpaaGreatDoorZ02
import Derived.Maps.AppendAt
import Derived.RangeFuncNested
import Derived.RangeFuncLeaves
import Derived.Below
import Derived.Lib.SlicesCompact
import Derived.Test.YtabebhaclkhhpaaGreatDoorZ01
import Derived.Lib.Slices
import Derived.Deep.QuietTactic
import Derived.BigQuiet

/- The first node at fault: the program's Check of layer 6. -/
namespace Go.Proofs.YtabebhaclkhhpaaGreatDoor
set_option linter.unusedSimpArgs false
open Go.RowKit
set_option linter.unusedVariables false

/-- Two boxes of the call's own. -/
structure T2 (a b : List Value) (w V : World) : Prop where
  one : Bf V w.heap.size a
  two : Bf V (w.heap.size + 1) b
  below : Below w.heap.size w V
section
variable {a b : List Value} {w V V' : World}
theorem T2.keep (h : T2 a b w V) (hb : Below V.heap.size V V') : T2 a b w V' := ⟨h.one.below hb h.one.lt, h.two.below hb h.two.lt, h.below.trans (hb.mono h.below.size)⟩
theorem T2.alloc (h : T2 a b w V) (o : Obj) : T2 a b w (V.alloc o) := h.keep ((Below.refl _ V).alloc (Nat.le_refl _) o)
theorem T2.new (w : World) (a b : List Value) (t1 t2 : TypeId) : T2 a b w ((w.alloc (.cells a.toArray t1)).alloc (.cells b.toArray t2)) :=
  ⟨(Bf.new w a t1 rfl).alloc _, Bf.new (w.alloc (.cells a.toArray t1)) b t2 (b := w.heap.size + 1) (by simp), ((Below.refl _ w).alloc (Nat.le_refl _) _).alloc (by simp) _⟩
end
theorem codeV_zero : codeV 0 = .nilIface := rfl
theorem codeV_pos {c : Int} (h : c ≠ 0) : codeV c = .iface 60 (.int .i64 c) := by unfold codeV; rw [if_neg h]
theorem rest_code {ns : List NodeD} {l : List PodD} {id : Int} (h : (restD ns l id).2 ≠ 0) : 1 ≤ (restD ns l id).2 ∧ (restD ns l id).2 ≤ 17 := by
  rcases rest_vals ns l id with h1 | ⟨_, h1 | h1 | h1⟩
  · exact absurd h1 h
  · omega
  · omega
  · omega
def RoomRel (ns : List NodeD) (l : List PodD) (a b : List Value) (w : World) (i : Value) (wr : World) : Prop := ∃ k : Nat, k ≤ ns.length ∧ i = .int .i64 k ∧ roomD ns l (ns.drop k) k = roomOf ns l ∧ T2 a b w wr

set_option maxHeartbeats 6400000 in
set_option maxRecDepth 100000 in
theorem roomCheck_any (ns : List NodeD) (l : List PodD) (hno : ∀ x ∈ ns, x.Ok) (hlo : ∀ p ∈ l, p.Ok) (A1 A4 : Option Addr) (n1 c1 n4 c4 : Nat) (s2 s3 v1 v2 : Value) (w : World) (hg : Laid w)
    (hn1 : n1 = ns.length) (hl1 : n1 ≤ 400) (hr1 : Recs 10 cellsN w w.heap.size A1 ns) (hn4 : n4 = l.length) (hl4 : n4 ≤ 400) (hr4 : Recs 8 cellsP w w.heap.size A4 l) :
    Calls Tryz.prog 75 #[.agg #[.slice A1 n1 c1, s2, s3], .agg #[.slice A4 n4 c4, v1, v2]] w (ErrTo (roomOf ns l) w) := by
  have HR1 := Lib.hid hr1
  have HN1 := Lib.hid hn1
  have HG := Lib.hid hg
  have HC := Lib.hid (fun (W : World) (hW : Below w.heap.size w W) (id : Int) => roomRest_any ns l id hno hlo A1 A4 n1 c1 n4 c4 s2 s3 v1 v2 W hn1 hl1 ((hr1.below hW (Nat.le_refl _)).more hW.size) hn4 hl4 ((hr4.below hW (Nat.le_refl _)).more hW.size))
  have T0 := T2.new w [.slice A1 n1 c1, s2, s3] [.slice A4 n4 c4, v1, v2] 26 31
  have HT0 := Lib.hid T0
  clear hr1 hr4 hn1 hn4 hno hlo hg T0
  go_enter Tryz.func75, Tryz.ntmps75
  go_wp2
  go_loopw [12] (RoomRel ns l [.slice A1 n1 c1, s2, s3] [.slice A4 n4 c4, v1, v2] w) (fun i _ => n1 - (intOf i).toNat)
  case atStart => exact ⟨0, by omega, rfl, rfl, HT0.out⟩
  case round =>
    obtain ⟨k, hk, rfl, hp, T1⟩ := hrel
    have HP := Lib.hid hp
    have HT1 := Lib.hid T1
    clear hp
    by_cases hlt : k < n1
    · have hkl : k < ns.length := by have := HN1.out; omega
      obtain ⟨b, o, rfl, hb, he⟩ := HR1.out.at hkl
      generalize hx : ns[k] = y at *
      have HX := Lib.hid (roomD_at hkl hx HP.out)
      clear hx
      have kwr := T1.below
      have e0 : wr.cell? ⟨b, o + k * 10, none⟩ = some (.int .i64 y.id) := (kwr.cell (p := ⟨b, o + k * 10, none⟩) hb).trans (he 0 _ rfl)
      have e1 : wr.cell? ⟨b, o + k * 10 + 1, none⟩ = some (.int .i64 y.zone) := (kwr.cell (p := ⟨b, o + k * 10 + 1, none⟩) hb).trans (he 1 _ rfl)
      have e2 : wr.cell? ⟨b, o + k * 10 + 2, none⟩ = some (.int .u64 y.cap.a) := (kwr.cell (p := ⟨b, o + k * 10 + 2, none⟩) hb).trans (he 2 _ rfl)
      have e3 : wr.cell? ⟨b, o + k * 10 + 3, none⟩ = some (.int .u64 y.cap.b) := (kwr.cell (p := ⟨b, o + k * 10 + 3, none⟩) hb).trans (he 3 _ rfl)
      have e4 : wr.cell? ⟨b, o + k * 10 + 4, none⟩ = some (.int .u64 y.cap.c) := (kwr.cell (p := ⟨b, o + k * 10 + 4, none⟩) hb).trans (he 4 _ rfl)
      have e5 : wr.cell? ⟨b, o + k * 10 + 5, none⟩ = some (.int .u64 y.cap.d) := (kwr.cell (p := ⟨b, o + k * 10 + 5, none⟩) hb).trans (he 5 _ rfl)
      have e6 : wr.cell? ⟨b, o + k * 10 + 6, none⟩ = some (.int .u64 y.held.a) := (kwr.cell (p := ⟨b, o + k * 10 + 6, none⟩) hb).trans (he 6 _ rfl)
      have e7 : wr.cell? ⟨b, o + k * 10 + 7, none⟩ = some (.int .u64 y.held.b) := (kwr.cell (p := ⟨b, o + k * 10 + 7, none⟩) hb).trans (he 7 _ rfl)
      have e8 : wr.cell? ⟨b, o + k * 10 + 8, none⟩ = some (.int .u64 y.held.c) := (kwr.cell (p := ⟨b, o + k * 10 + 8, none⟩) hb).trans (he 8 _ rfl)
      have e9 : wr.cell? ⟨b, o + k * 10 + 9, none⟩ = some (.int .u64 y.held.d) := (kwr.cell (p := ⟨b, o + k * 10 + 9, none⟩) hb).trans (he 9 _ rfl)
      have hbw : b < wr.heap.size := Nat.lt_of_lt_of_le hb kwr.size
      obtain ⟨a0, a1, a2, a3⟩ := T1.one.cells3
      obtain ⟨b0, b1, b2, b3⟩ := T1.two.cells3
      have HCR := Lib.hid (HC.out (wr.alloc (.cells (cellsN y).toArray 53)) (kwr.alloc kwr.size _) y.id)
      have HRC := Lib.hid (fun h => rest_code (ns := ns) (l := l) (id := y.id) h)
      clear he T1 kwr
      generalize hz : restD ns l y.id = z at *
      obtain ⟨r, code⟩ := z
      clear hz
      by_cases hc : code = 0
      · subst hc
        have HE := Lib.hid (HX.out.2 rfl)
        have HCC : Hid (Calls Tryz.prog 106 #[.agg #[.slice (some ⟨b, o, none⟩) n1 c1, s2, s3], .agg #[.slice A4 n4 c4, v1, v2], .int .i64 y.id] (wr.alloc (.cells #[.int .i64 y.id, .int .i64 y.zone, .int .u64 y.cap.a, .int .u64 y.cap.b, .int .u64 y.cap.c, .int .u64 y.cap.d, .int .u64 y.held.a, .int .u64 y.held.b, .int .u64 y.held.c, .int .u64 y.held.d] 53)) fun e w' => e = .returned (.tuple #[aggV r, .nilIface]) ∧ Below (wr.alloc (.cells #[.int .i64 y.id, .int .i64 y.zone, .int .u64 y.cap.a, .int .u64 y.cap.b, .int .u64 y.cap.c, .int .u64 y.cap.d, .int .u64 y.held.a, .int .u64 y.held.b, .int .u64 y.held.c, .int .u64 y.held.d] 53)).heap.size (wr.alloc (.cells #[.int .i64 y.id, .int .i64 y.zone, .int .u64 y.cap.a, .int .u64 y.cap.b, .int .u64 y.cap.c, .int .u64 y.cap.d, .int .u64 y.held.a, .int .u64 y.held.b, .int .u64 y.held.c, .int .u64 y.held.d] 53)) w') := HCR.out
        clear HCR
        go_wp2_with fail
        refine HCC.out.mono ?_
        rintro e w1 ⟨rfl, hb1⟩
        have HTT := Lib.hid (((HT1.out.alloc _).keep hb1).alloc (.cells #[.int .u64 r.a, .int .u64 r.b, .int .u64 r.c, .int .u64 r.d] 39))
        clear hb1 e0 e1 e2 e3 e4 e5 e6 e7 e8 e9 a0 a1 a2 a3 b0 b1 b2 b3
        go_wp2
        go_roundw
        case rel => exact ⟨k + 1, by omega, by go_num, HE.out, HTT.out⟩
        case measure => simp [intOf]; omega
      · have HE := Lib.hid (HX.out.1 hc)
        have HCO := Lib.hid (HRC.out hc)
        have HCC : Hid (Calls Tryz.prog 106 #[.agg #[.slice (some ⟨b, o, none⟩) n1 c1, s2, s3], .agg #[.slice A4 n4 c4, v1, v2], .int .i64 y.id] (wr.alloc (.cells #[.int .i64 y.id, .int .i64 y.zone, .int .u64 y.cap.a, .int .u64 y.cap.b, .int .u64 y.cap.c, .int .u64 y.cap.d, .int .u64 y.held.a, .int .u64 y.held.b, .int .u64 y.held.c, .int .u64 y.held.d] 53)) fun e w' => e = .returned (.tuple #[aggV r, .iface 60 (.int .i64 code)]) ∧ Below (wr.alloc (.cells #[.int .i64 y.id, .int .i64 y.zone, .int .u64 y.cap.a, .int .u64 y.cap.b, .int .u64 y.cap.c, .int .u64 y.cap.d, .int .u64 y.held.a, .int .u64 y.held.b, .int .u64 y.held.c, .int .u64 y.held.d] 53)).heap.size (wr.alloc (.cells #[.int .i64 y.id, .int .i64 y.zone, .int .u64 y.cap.a, .int .u64 y.cap.b, .int .u64 y.cap.c, .int .u64 y.cap.d, .int .u64 y.held.a, .int .u64 y.held.b, .int .u64 y.held.c, .int .u64 y.held.d] 53)) w') := by
          have h := HCR.out
          rw [codeV_pos hc] at h
          exact h
        clear HCR hc
        go_wp2_with fail
        refine HCC.out.mono ?_
        rintro e w1 ⟨rfl, hb1⟩
        have TT := ((HT1.out.alloc _).keep hb1).alloc (.cells #[.int .u64 r.a, .int .u64 r.b, .int .u64 r.c, .int .u64 r.d] 39)
        have HSP := Lib.hid (roomSpot_any k code (w1.alloc (.cells #[.int .u64 r.a, .int .u64 r.b, .int .u64 r.c, .int .u64 r.d] 39)) (Laid.below HG.out TT.below (Nat.le_refl _)))
        have HTT := Lib.hid TT
        clear hb1 e0 e1 e2 e3 e4 e5 e6 e7 e8 e9 a0 a1 a2 a3 b0 b1 b2 b3 TT
        go_wp2_with fail
        refine HSP.out.mono ?_
        rintro e w2 ⟨g, rfl, hg1, hg2, hb2⟩
        have HG1 := Lib.hid hg1
        have HG2 := Lib.hid hg2
        have HB2 := Lib.hid hb2
        clear hg1 hg2 hb2
        go_wp2
        go_ret
        refine ⟨_, rfl, .inr (.inr ⟨k, g, by rw [HE.out], rfl, Nat.le_trans HTT.out.below.size HG1.out, by rw [HE.out]; exact HG2.out⟩), (HTT.out.keep HB2.out).below⟩
    · have HE := Lib.hid (roomD_end (by have := HN1.out; omega) HP.out)
      have kwr := T1.below
      clear T1
      go_wp2
      go_ret
      exact ⟨_, rfl, .inl ⟨HE.out, rfl⟩, kwr⟩
end Go.Proofs.YtabebhaclkhhpaaGreatDoor

/- append of all records of a slice at a step of a region that draws its order; slices of slices of records. -/
namespace Go.Proofs.YtabebhaclkhhpaaGreatDoor
set_option linter.unusedSimpArgs false
open Go.RowKit
set_option linter.unusedVariables false

section
variable {α : Type} {size : Nat} {cells : α → List Value} {w : World} {B : Nat} {xs : List α}
theorem Recs.drop {b o : Nat} (h : Recs size cells w B (some ⟨b, o, none⟩) xs) (k : Nat) : Recs size cells w B (some ⟨b, o + k * size, none⟩) (xs.drop k) := by
  rcases h with h | ⟨b', o', h1, h2, h3⟩
  · exact .inl (by simp [h])
  · injection h1 with h1
    injection h1 with h1 h1'
    subst h1 h1'
    refine .inr ⟨b, o + k * size, rfl, h2, fun i hi j u hu => ?_⟩
    have hi' : k + i < xs.length := by simp at hi; omega
    rw [List.getElem_drop] at hu
    have := h3 (k + i) hi' j u hu
    rwa [Nat.add_mul, ← Nat.add_assoc] at this
end
section
variable {ops : Array Oper} {o : Oper} {a : Act} {Q : Exit → Act → World → Prop} {wr : World} {K : Act → World → Prop} {E : Prop}
end
end Go.Proofs.YtabebhaclkhhpaaGreatDoor

/- A loop over a function whose rounds are told what holds, in memory, of what they are handed: what such a function promises, and a law for its caller. -/
namespace Go.Proofs.YtabebhaclkhhpaaGreatDoor
set_option linter.unusedSimpArgs false
open Go.RowKit
set_option linter.unusedVariables false

/-- All blocks of W but those of O lie in W' as they lay. -/
structure But (O : Nat → Prop) (W W' : World) : Prop where
  os : W'.os = W.os
  tape : W'.tape = W.tape
  output : W'.output = W.output
  size : W.heap.size ≤ W'.heap.size
  block : ∀ k, k < W.heap.size → ¬ O k → W'.heap[k]? = W.heap[k]?
theorem But.refl (O : Nat → Prop) (W : World) : But O W W := ⟨rfl, rfl, rfl, Nat.le_refl _, fun _ _ _ => rfl⟩
theorem But.trans {O O' : Nat → Prop} {A B C : World} (h : But O A B) (k : But O' B C) (hO : ∀ b, b < A.heap.size → O' b → O b) : But O A C :=
  ⟨k.os.trans h.os, k.tape.trans h.tape, k.output.trans h.output, Nat.le_trans h.size k.size, fun b hb hn => (k.block b (Nat.lt_of_lt_of_le hb h.size) (fun hc => hn (hO b hb hc))).trans (h.block b hb hn)⟩
theorem But.of {O : Nat → Prop} {W W' : World} (h : Below W.heap.size W W') : But O W W' := ⟨h.os, h.tape, h.output, h.size, fun b hb _ => h.block b hb⟩
theorem But.put {O : Nat → Prop} {W : World} {l : Nat} (o : Obj) (hl : O l) : But O W (W.putObj l o) :=
  ⟨rfl, rfl, rfl, by simp, fun b _ hn => World.putObj_heap_other (fun e => hn (by rw [e]; exact hl))⟩
theorem But.set {O : Nat → Prop} {W : World} (p : Addr) (v : Value) (hl : O p.block) : But O W (W.setCell p v) :=
  ⟨rfl, rfl, rfl, by simp [World.setCell], fun b _ hn => Below.heap_setCell _ _ _ _ (fun e => hn (by rw [e]; exact hl))⟩
theorem But.imp {O O' : Nat → Prop} {W W' : World} (h : But O W W') (hO : ∀ b, b < W.heap.size → O b → O' b) : But O' W W' :=
  ⟨h.os, h.tape, h.output, h.size, fun b hb hn => h.block b hb (fun hc => hn (hO b hb hc))⟩
theorem But.below {O : Nat → Prop} {n₀ : Nat} {W W' : World} (h : But O W W') (hn : n₀ ≤ W.heap.size) (hO : ∀ k, O k → n₀ ≤ k) : Below n₀ W W' :=
  ⟨h.os, h.tape, h.output, h.size, fun k hk => h.block k (by omega) (fun hc => by have := hO k hc; omega)⟩
theorem But.cell {O : Nat → Prop} {W W' : World} (h : But O W W') {p : Addr} (hb : p.block < W.heap.size) (hO : ¬ O p.block) : W'.cell? p = W.cell? p := World.cell?_of_block (h.block _ hb hO)
theorem But.frozen {O : Nat → Prop} {W W' : World} (h : But O W W') {p : Addr} (hb : p.block < W.heap.size) (hO : ¬ O p.block) : W'.frozen? p = W.frozen? p := World.frozen?_of_block (h.block _ hb hO)

/-- What an iterator promises that hands on such as G holds of (the Nat: how great the heap was as it was called); what lies in D it reads between two rounds; O: what the rounds may turn. -/
def SeqQ {α : Type} (F : Fence) (n : Nat) (P : Program) (g : Nat) (lb : Array Value) (encs : α → Array Value) (D : Nat → Prop) (G : α → Nat → World → Prop) (S Sp : List α → Prop) (N : Nat) (w : World) : Prop :=
  ∀ (l : Nat) (J : List α → (Nat → Prop) → World → Prop) (Jx : List α → World → Prop) (O : Nat → Prop) (W : World), Below w.heap.size w W →
    (∀ s O A B, J s O A → Below A.heap.size A B → J s O B) → (∀ s A B, Jx s A → Below A.heap.size A B → Jx s B) → (∀ k, O k → k < W.heap.size ∧ ¬ D k) →
    (∀ pre O x V, J pre O V → (∀ k, O k → k < V.heap.size) → G x W.heap.size V → pre.length < N → YieldAt F (n - 1) P l (encs x) V fun e V' =>
      (e = .returned (.bool true) ∧ But O V V' ∧ ∃ O', J (pre ++ [x]) O' V' ∧ ∀ k, O' k → k < V'.heap.size ∧ (O k ∨ V.heap.size ≤ k)) ∨ (e = .returned (.bool false) ∧ Jx (pre ++ [x]) V')) →
    J [] O W →
    CallsIn F n P g (#[.func (.yield l) #[] #[]] ++ lb) W fun e W' => (∃ v, e = .returned v) ∧ ((∃ xs O', S xs ∧ J xs O' W') ∨ ∃ pre, Sp pre ∧ Jx pre W')

/-- How a round's body may be left. -/
def postQ {α : Type} (O : Nat → Prop) (I : List α → (Nat → Prop) → World → Prop) (Ix : List α → World → Prop) (xs : List α) (W : World) : Exit → Act → World → Prop
  | .normal, _, W' => But O W W' ∧ ∃ O', I xs O' W' ∧ ∀ k, O' k → k < W'.heap.size ∧ (O k ∨ W.heap.size ≤ k)
  | .ret, _, W' => But O W W' ∧ Ix xs W'
  | _, _, _ => False
/-- The two blocks of the loop's own. -/
def RecQ (w : World) (k : Nat) : Prop := k = w.heap.size ∨ k = w.heap.size + 1

theorem loopQ {α : Type} {F : Fence} {n : Nat} {P : Program} {g : Operand} {ps : Array Tmp} {assign body : Code} {Q : Exit → Act → World → Prop} {a : Act} {w : World}
    (hro : F.round = none) (h1 : 1 ≤ n) {gf : Nat} {lb : Array Value} (hg : a.eval g = .func (.func gf) #[] lb) (hFg : F.fn gf) (eg : ∀ args w, (callFunc gf args).run P w = .ok (.enter gf args) w)
    {encs : α → Array Value} {D : Nat → Prop} {G : α → Nat → World → Prop} {S Sp : List α → Prop} {N : Nat} {w0 : World} (hseq : SeqQ F (n - 1) P gf lb encs D G S Sp N w0) (hb0 : Below w0.heap.size w0 w) (hD : ∀ k, D k → k < w0.heap.size) (hps : ∀ x, (encs x).size = ps.size)
    (I : List α → (Nat → Prop) → World → Prop) (Ix : List α → World → Prop) (Ax : α → Act → World → Prop)
    (hI : ∀ s O A B, I s O A → But (RecQ w) A B → I s O B) (hIx : ∀ s A B, Ix s A → But (RecQ w) A B → Ix s B) (hAx : ∀ x a' A B, Ax x a' A → But (RecQ w) A B → Ax x a' B)
    (O0 : Nat → Prop) (hO0 : ∀ k, O0 k → k < w.heap.size ∧ ¬ D k) (h0 : I [] O0 w)
    (hassign : ∀ (l : Nat) (pre : List α) (O : Nat → Prop) (x : α) (W : World) (K : Act → World → Prop), I pre O W → G x (w.heap.size + 2) W → w.heap.size + 2 ≤ W.heap.size → (∀ a' W', Below W.heap.size W W' → Ax x a' W' → K a' W') →
      assign.wpIn (F.inRound l) (n - 1 - 1) P (Exit.then K (fun _ _ _ => False)) { tmps := (ps.zip (encs x)).foldl (fun t (p, v) => t.setIfInBounds p v) a.tmps, defers := [] } W)
    (hbody : ∀ (l : Nat) (pre : List α) (O : Nat → Prop) (x : α) (a' : Act) (W : World), I pre O W → Ax x a' W → (∀ k, O k → k < W.heap.size) → w.heap.size + 2 ≤ W.heap.size → pre.length < N →
      body.wpIn (F.inRound l) (n - 1 - 1) P (postQ O I Ix (pre ++ [x]) W) a' W)
    (hdone : ∀ (d : Nat) (xs : List α) (O : Nat → Prop) (W : World), d = w.heap.size → S xs → I xs O W → W.heap[d]? = some (.deferred (some [])) → Q .normal { a with defers := { target := .collected d, args := #[] } :: a.defers } W)
    (hstop : ∀ (d : Nat) (pre : List α) (W : World), d = w.heap.size → Sp pre → Ix pre W → W.heap[d]? = some (.deferred (some [])) → Code.ret.wpIn F n P Q { a with defers := { target := .collected d, args := #[] } :: a.defers } W) :
    (Code.rangeFunc g ps assign body).wpIn F n P Q a w := by
  refine wpIn_rangeFunc fun fn hfn => ?_
  rw [hro]
  obtain ⟨lp, hlp⟩ : ∃ lp : LoopState → Option Code → Loop, lp = fun st pe => { state := st, pending := pe, fn, tmps := a.tmps, params := ps, assign, body, defers := w.heap.size } := ⟨_, rfl⟩
  obtain ⟨V, hV⟩ : ∃ V, (w.alloc (.deferred (some []))).alloc (.loop (lp .ready none)) = V := ⟨_, rfl⟩
  have hbV : Below w.heap.size w V := by rw [← hV]; exact ((Below.refl _ w).alloc (Nat.le_refl _) _).alloc (by simp) _
  have hsV : V.heap.size = w.heap.size + 2 := by rw [← hV]; simp
  have hl0 : V.heap[w.heap.size + 1]? = some (.loop (lp .ready none)) := by
    rw [← hV]
    have := World.alloc_heap_new (w.alloc (.deferred (some []))) (.loop (lp .ready none))
    rwa [World.size_alloc] at this
  have hd0 : V.heap[w.heap.size]? = some (.deferred (some [])) := by
    rw [← hV]; exact (Below.heap_alloc _ _ _ (by simp)).trans (World.alloc_heap_new w _)
  have hDw : ∀ k, D k → k < w.heap.size := fun k hk => Nat.lt_of_lt_of_le (hD k hk) hb0.size
  refine ⟨w.heap.size + 1, [{ target := .collected w.heap.size, args := #[] }], V, { target := .fn (.func gf) lb, args := #[.func (.yield (w.heap.size + 1)) #[] #[]] }, V, gf,
    #[.func (.yield (w.heap.size + 1)) #[] #[]] ++ lb, V, ?_, ?_, ?_, ?_, fun _ => h1, ?_⟩
  · rw [← hV, hlp]; exact run_enterLoop_outer _ _ _ _ _
  · simp only [resolve, hg]
    simp [go_sem]
  · intro f' hf'
    simp [Target.leads] at hf'
    subst hf'
    exact hFg
  · simp [invoke, go_sem, eg]
  -- What stands between two rounds, and once a round has left.
  have st : ∀ {A B : World} {o : Obj} {b : Nat}, A.heap[b]? = some o → Below A.heap.size A B → B.heap[b]? = some o := fun h hb => (hb.block _ (Array.getElem?_eq_some_iff.1 h).1).trans h
  refine (hseq (w.heap.size + 1)
    (fun pre O W => ∃ O1, I pre O1 W ∧ (∀ k, O k ↔ O1 k ∨ RecQ w k) ∧ (∀ k, O1 k → ¬ RecQ w k) ∧ W.heap[w.heap.size + 1]? = some (.loop (lp .ready none)) ∧ W.heap[w.heap.size]? = some (.deferred (some [])))
    (fun pre W => Ix pre W ∧ W.heap[w.heap.size + 1]? = some (.loop (lp .done (some .ret))) ∧ W.heap[w.heap.size]? = some (.deferred (some [])))
    (fun k => O0 k ∨ RecQ w k) V (hb0.trans (hbV.mono hb0.size))
    (fun s O A B ⟨O1, hi, ho, hn, hl, hd⟩ hb => ⟨O1, hI s O1 A B hi (.of hb), ho, hn, st hl hb, st hd hb⟩)
    (fun s A B ⟨hi, hl, hd⟩ hb => ⟨hIx s A B hi (.of hb), st hl hb, st hd hb⟩)
    (fun k hk => by
      rcases hk with hk | hk
      · exact ⟨by have := (hO0 k hk).1; omega, (hO0 k hk).2⟩
      · refine ⟨by unfold RecQ at hk; omega, fun hc => ?_⟩
        have := hDw k hc
        unfold RecQ at hk
        omega)
    ?_ ⟨O0, hI _ _ _ _ h0 (.of hbV), fun _ => Iff.rfl, fun k hk hc => by have := (hO0 k hk).1; unfold RecQ at hc; omega, hl0, hd0⟩).mono ?_
  · rintro pre O x W ⟨O1, hi, ho, hn, hl, hd⟩ hsz hG hlen
    rw [hsV] at hG
    have hlt : w.heap.size + 1 < W.heap.size := (Array.getElem?_eq_some_iff.1 hl).1
    have hy := run_yield (P := P) (args := encs x) hl (by rw [hlp]; exact hps x)
    rw [hlp] at hy
    refine ⟨fn, _, assign, body, hy, roundIn_of_wpIn hfn (hassign _ pre O1 x W _ hi hG (by omega) fun a' W2 hb2 hax => ?_)⟩
    have hl2 := st hl hb2
    have hd2 := st hd hb2
    have hlt2 : w.heap.size + 1 < W2.heap.size := Nat.lt_of_lt_of_le hlt hb2.size
    refine ⟨_, run_beginRound hl2 (by rw [hlp]), ?_⟩
    obtain ⟨W3, hW3⟩ : ∃ W3, W2.putObj (w.heap.size + 1) (.loop { lp .ready none with state := .busy }) = W3 := ⟨_, rfl⟩
    have k3 : But (RecQ w) W2 W3 := by rw [← hW3]; exact .put _ (.inr rfl)
    have hs3 : W3.heap.size = W2.heap.size := by rw [← hW3]; simp
    have hl3 : W3.heap[w.heap.size + 1]? = some (.loop { lp .ready none with state := .busy }) := by rw [← hW3]; exact World.putObj_heap_same hlt2
    have hd3 : W3.heap[w.heap.size]? = some (.deferred (some [])) := by rw [← hW3]; exact (World.putObj_heap_other (by omega)).trans hd2
    rw [hW3]
    have hO1 : ∀ k, O1 k → k < W.heap.size := fun k hk => hsz k ((ho k).2 (.inl hk))
    have hO3 : ∀ k, O1 k → k < W3.heap.size := fun k hk => by have := hO1 k hk; have := hb2.size; omega
    refine wpIn_mono (hbody _ pre O1 x a' W3 (hI _ _ _ _ (hI _ _ _ _ hi (.of hb2)) k3) (hAx _ _ _ _ hax k3) hO3 (by omega) hlen) ?_
    have fin : ∀ (jump : Option Code) (W4 : World), But O1 W3 W4 → ∃ W5, (Instr.endRound (w.heap.size + 1) jump).run P W4 = .ok (.bool jump.isNone) W5 ∧ But (RecQ w) W4 W5 ∧ But O W W5 ∧ W5.heap.size = W4.heap.size ∧
        W5.heap[w.heap.size + 1]? = some (.loop (lp (if jump.isNone then .ready else .done) jump)) ∧ W5.heap[w.heap.size]? = some (.deferred (some [])) := fun jump W4 k4 => by
      have hl4 := (k4.block _ (by omega) (fun hc => hn _ hc (.inr rfl))).trans hl3
      have hd4 := (k4.block _ (by omega) (fun hc => hn _ hc (.inl rfl))).trans hd3
      have hlt4 : w.heap.size + 1 < W4.heap.size := (Array.getElem?_eq_some_iff.1 hl4).1
      have hr := run_endRound (P := P) jump hl4
      refine ⟨_, hr, .put _ (.inr rfl), ?_, by simp, ?_, ?_⟩
      · refine ((But.of hb2 : But O W W2).trans k3 fun b hb hc => (ho b).2 (.inr hc)).trans ((k4.imp (O' := O) fun b _ hc => (ho b).2 (.inl hc)).trans (O' := O) (.put _ ((ho _).2 (.inr (.inr rfl)))) fun _ _ h => h) fun _ _ h => h
      · rw [World.putObj_heap_same hlt4, hlp]
      · exact (World.putObj_heap_other (by omega)).trans hd4
    rintro e a3 W4 hp
    cases e with
    | normal =>
      obtain ⟨k4, O', hi4, ho4⟩ := hp
      obtain ⟨W5, hr, k5, kW, hs5, hl5, hd5⟩ := fin none W4 k4
      refine ⟨_, _, hr, .inl ⟨rfl, kW, fun k => O' k ∨ RecQ w k, ⟨O', hI _ _ _ _ hi4 k5, fun _ => Iff.rfl, fun k hk => ?_, hl5, hd5⟩, fun k hk => ?_⟩⟩
      · rcases (ho4 k hk).2 with h | h
        · exact hn k h
        · intro hc; unfold RecQ at hc; omega
      · rcases hk with hk | hk
        · refine ⟨by have := (ho4 k hk).1; omega, ?_⟩
          rcases (ho4 k hk).2 with h | h
          · exact .inl ((ho k).2 (.inl h))
          · exact .inr (by have := hb2.size; omega)
        · exact ⟨by have := (Array.getElem?_eq_some_iff.1 hl5).1; unfold RecQ at hk; omega, .inl ((ho k).2 (.inr hk))⟩
    | ret =>
      obtain ⟨k4, hi4⟩ := hp
      obtain ⟨W5, hr, k5, _, _, hl5, hd5⟩ := fin (some .ret) W4 k4
      exact ⟨_, _, hr, .inr ⟨rfl, hIx _ _ _ hi4 k5, hl5, hd5⟩⟩
    | exit id => exact hp.elim
    | goto t => exact hp.elim
    | panic ch => exact hp.elim
    | outgrown => exact hp.elim
  · rintro e W2 ⟨⟨v, rfl⟩, ⟨xs, O, hS, O1, hi, _, _, hl, hd⟩ | ⟨pre, hSp, hi, hl, hd⟩⟩
    · refine ⟨none, _, by have := run_endLoop (P := P) hl (by rw [hlp]; simp); rw [hlp] at this; exact this, ?_⟩
      exact hdone _ xs O1 _ rfl hS (hI _ _ _ _ hi (.put _ (.inr rfl))) ((World.putObj_heap_other (by omega)).trans hd)
    · refine ⟨some .ret, _, by have := run_endLoop (P := P) hl (by rw [hlp]; simp); rw [hlp] at this; exact this, ?_⟩
      exact hstop _ pre _ rfl hSp (hIx _ _ _ hi (.put _ (.inr rfl))) ((World.putObj_heap_other (by omega)).trans hd)
end Go.Proofs.YtabebhaclkhhpaaGreatDoor

/- Plain mathematics of how many of a load are somewhere. -/
namespace Go.Proofs.YtabebhaclkhhpaaGreatDoor
set_option linter.unusedSimpArgs false
open Go.RowKit
set_option linter.unusedVariables false

/-- Is a pod of this load, somewhere? -/
def inS (load : Int) (p : PodD) : Bool := p.load == load && p.node != 0
/-- A load's size. -/
def sizeD (load : Int) (l : List PodD) : Nat := l.countP (inS load)
theorem size_le9 (load : Int) (l : List PodD) : sizeD load l ≤ l.length := List.countP_le_length
theorem size_next9 {load : Int} {l : List PodD} {k : Nat} (h : k < l.length) {p : PodD} (hx : l[k] = p) : sizeD load (l.take (k + 1)) = sizeD load (l.take k) + if inS load p = true then 1 else 0 := by
  unfold sizeD
  rw [List.take_succ_eq_append_getElem h, hx, List.countP_append]
  simp [List.countP_cons]
theorem size_in9 {load : Int} {l : List PodD} {k : Nat} (h : k < l.length) {p : PodD} (hx : l[k] = p) (hl : p.load = load) (hn : p.node ≠ 0) : sizeD load (l.take (k + 1)) = sizeD load (l.take k) + 1 := by
  rw [size_next9 h hx, if_pos (by simp [inS, hl, hn])]
theorem size_out9 {load : Int} {l : List PodD} {k : Nat} (h : k < l.length) {p : PodD} (hx : l[k] = p) (ho : p.load = load → p.node = 0) : sizeD load (l.take (k + 1)) = sizeD load (l.take k) := by
  rw [size_next9 h hx, if_neg (by simp [inS]; exact ho)]
  rfl
theorem size_end9 {load : Int} {l : List PodD} {k : Nat} (h : l.length ≤ k) : sizeD load (l.take k) = sizeD load l := by rw [List.take_of_length_le h]
theorem made_len9 {ns : List NodeD} {x : List WantD} {t : StateD} {m : MoveD} (h : (makeD ns x t m).2 = 0) : (makeD ns x t m).1.pods.length = t.pods.length := by
  have e : (makeD ns x t m).1 = behindD x t m := by
    unfold makeD at h ⊢
    split at h
    · cases h
    · split at h
      · cases h
      · split at h
        · cases h
        · rename_i q1 q2 q3
          rw [if_neg q1, if_neg q2, if_neg q3]
  rw [e]
  unfold behindD
  split
  · simp
  · split
    · simp
    · split <;> simp

/-! Which load is at fault. -/
def fault9 (x : LoadD) (n : Int) : Int := if n < x.min then 12 else if x.max < n then 13 else 0
theorem fault9_few {x : LoadD} {n : Int} (h : n < x.min) : fault9 x n = 12 := by rw [fault9, if_pos h]
theorem fault9_many {x : LoadD} {n : Int} (h1 : ¬ n < x.min) (h : x.max < n) : fault9 x n = 13 := by rw [fault9, if_neg h1, if_pos h]
theorem fault9_none {x : LoadD} {n : Int} (h1 : ¬ n < x.min) (h : ¬ x.max < n) : fault9 x n = 0 := by rw [fault9, if_neg h1, if_neg h]
/-- The first load, behind k others, whose size is at fault. -/
def budgetFrom (l : List PodD) : List LoadD → Nat → Int × Int
  | [], _ => (0, -1)
  | x :: r, k => if fault9 x (sizeD x.id l : Nat) = 0 then budgetFrom l r (k + 1) else (fault9 x (sizeD x.id l : Nat), (k : Int))
def budgetOf (ls : List LoadD) (l : List PodD) : Int × Int := budgetFrom l ls 0
theorem budgetFrom_at {l : List PodD} {ls : List LoadD} {k : Nat} {z : Int × Int} (h : k < ls.length) {x : LoadD} (hx : ls[k] = x) (hp : budgetFrom l (ls.drop k) k = z) :
    (fault9 x (sizeD x.id l : Nat) ≠ 0 → z = (fault9 x (sizeD x.id l : Nat), (k : Int))) ∧ (fault9 x (sizeD x.id l : Nat) = 0 → budgetFrom l (ls.drop (k + 1)) (k + 1) = z) := by
  rw [List.drop_eq_getElem_cons h, hx, budgetFrom] at hp
  constructor
  · intro e; rw [if_neg e] at hp; exact hp.symm
  · intro e; rw [if_pos e] at hp; exact hp
theorem budgetFrom_end {l : List PodD} {ls : List LoadD} {k : Nat} {z : Int × Int} (h : ls.length ≤ k) (hp : budgetFrom l (ls.drop k) k = z) : z = (0, -1) := by
  rw [List.drop_of_length_le h] at hp
  exact hp.symm
def usedD (x1 x2 t1 t2 : Int) : Bool := decide (x1 < t1) || decide (x2 < t2)
end Go.Proofs.YtabebhaclkhhpaaGreatDoor

/- Plain mathematics: a sorted list without its repetitions is the list of all, rising, each once. -/
namespace Go.Proofs.YtabebhaclkhhpaaGreatDoor
set_option linter.unusedSimpArgs false
open Go.Lib

theorem rising_eq : ∀ {a b : List Int}, Rising a → Rising b → (∀ y, y ∈ a ↔ y ∈ b) → a = b
  | [], [], _, _, _ => rfl
  | [], y :: r, _, _, h => by have := (h y).2 (by simp); simp at this
  | x :: r, [], _, _, h => by have := (h x).1 (by simp); simp at this
  | x :: r, y :: t, ha, hb, h => by
    have hxy : x = y := by
      rcases List.mem_cons.1 ((h x).1 (by simp)) with e | e
      · exact e
      · rcases List.mem_cons.1 ((h y).2 (by simp)) with f | f
        · exact f.symm
        · have h1 := hb.1 x e
          have h2 := ha.1 y f
          omega
    subst hxy
    have hr : r = t := rising_eq ha.2 hb.2 fun z => by
      constructor
      · intro hz
        rcases List.mem_cons.1 ((h z).1 (by simp [hz])) with e | e
        · have := ha.1 z hz; omega
        · exact e
      · intro hz
        rcases List.mem_cons.1 ((h z).2 (by simp [hz])) with e | e
        · have := hb.1 z hz; omega
        · exact e
    rw [hr]
theorem rising_snoc {z : Int} : ∀ {l : List Int}, Rising l → (∀ y ∈ l, y < z) → Rising (l ++ [z])
  | [], _, _ => ⟨by simp, trivial⟩
  | x :: r, h, hz => by
    refine ⟨fun y hy => ?_, rising_snoc h.2 fun y hy => hz y (by simp [hy])⟩
    rcases List.mem_append.1 hy with hy | hy
    · exact h.1 y hy
    · rw [List.mem_singleton.1 hy]; exact hz x (by simp)

theorem compact_upTo (d : Array Int) (hs : ∀ i j, i ≤ j → j < d.size → d[i]! ≤ d[j]!) : ∀ m, m ≤ d.size → Rising (compactUpTo d m) ∧ ∀ y, y ∈ compactUpTo d m ↔ ∃ j, j < m ∧ d[j]! = y
  | 0, _ => ⟨by simp [compactUpTo, Rising], fun y => by simp [compactUpTo]⟩
  | m + 1, hm => by
    obtain ⟨h1, h2⟩ := compact_upTo d hs m (by omega)
    rw [compactUpTo_succ]
    by_cases hk : keeps d m = true
    · rw [if_pos hk]
      refine ⟨rising_snoc h1 fun y hy => ?_, fun y => ?_⟩
      · obtain ⟨j, hj, rfl⟩ := (h2 y).1 hy
        have hne : d[m]! ≠ d[m - 1]! := by
          have := hk
          unfold keeps at this
          rcases of_decide_eq_true this with e | e
          · omega
          · exact e
        have a1 := hs j (m - 1) (by omega) (by omega)
        have a2 := hs (m - 1) m (by omega) (by omega)
        omega
      · constructor
        · intro hy
          rcases List.mem_append.1 hy with hy | hy
          · obtain ⟨j, hj, e⟩ := (h2 y).1 hy
            exact ⟨j, by omega, e⟩
          · exact ⟨m, by omega, (List.mem_singleton.1 hy).symm⟩
        · rintro ⟨j, hj, e⟩
          by_cases hjm : j = m
          · subst hjm; simp [e]
          · exact List.mem_append.2 (.inl ((h2 y).2 ⟨j, by omega, e⟩))
    · rw [if_neg hk, List.append_nil]
      refine ⟨h1, fun y => ?_⟩
      have hk' : m ≠ 0 ∧ d[m]! = d[m - 1]! := by
        have e : ¬ (m = 0 ∨ d[m]! ≠ d[m - 1]!) := fun e => hk (by unfold keeps; exact decide_eq_true e)
        refine ⟨fun h => e (.inl h), ?_⟩
        by_cases q : d[m]! = d[m - 1]!
        · exact q
        · exact absurd (.inr q) e
      constructor
      · intro hy
        obtain ⟨j, hj, e⟩ := (h2 y).1 hy
        exact ⟨j, by omega, e⟩
      · rintro ⟨j, hj, e⟩
        by_cases hjm : j = m
        · subst hjm
          exact (h2 y).2 ⟨j - 1, by omega, by rw [← hk'.2]; exact e⟩
        · exact (h2 y).2 ⟨j, by omega, e⟩

theorem compact_sorted (ts : List Int) (hs : ts.Pairwise (· ≤ ·)) : Rising (compact ts) ∧ ∀ y, y ∈ compact ts ↔ y ∈ ts := by
  have hget : ∀ i, ∀ h : i < ts.length, ts.toArray[i]! = ts[i] := fun i h => by simp [h]
  have key := compact_upTo ts.toArray (fun i j hij hj => by
    have hj' : j < ts.length := by simpa using hj
    rw [hget i (by omega), hget j hj']
    by_cases e : i = j
    · subst e; exact Int.le_refl _
    · exact List.pairwise_iff_getElem.1 hs i j (by omega) hj' (by omega)) ts.length (by simp)
  refine ⟨key.1, fun y => (key.2 y).trans ?_⟩
  constructor
  · rintro ⟨j, hj, rfl⟩
    rw [hget j hj]
    exact List.getElem_mem hj
  · intro hy
    obtain ⟨j, hj, rfl⟩ := List.mem_iff_getElem.1 hy
    exact ⟨j, hj, hget j hj⟩
theorem zones_mem (l : List NodeD) : ∀ (acc : List Int) (y : Int), y ∈ l.foldl (fun acc n => insZ n.zone acc) acc ↔ y ∈ l.map NodeD.zone ∨ y ∈ acc := by
  induction l with
  | nil => intro acc y; simp
  | cons n r ih =>
    intro acc y
    simp only [List.foldl_cons, ih, insZ_mem, List.map_cons, List.mem_cons]
    constructor
    · rintro (h | h | h)
      · exact .inl (.inr h)
      · exact .inl (.inl h)
      · exact .inr h
    · rintro ((h | h) | h)
      · exact .inr (.inl h)
      · exact .inl h
      · exact .inr (.inr h)
theorem zones_compact (l : List NodeD) : compact ((l.map NodeD.zone).mergeSort fun x y => decide (x ≤ y)) = zonesOf l := by
  have hs : ((l.map NodeD.zone).mergeSort fun x y => decide (x ≤ y)).Pairwise (· ≤ ·) := by
    have := List.pairwise_mergeSort (le := fun x y : Int => decide (x ≤ y)) (fun a b c h1 h2 => by simp at *; omega) (fun a b => by simp; omega) (l.map NodeD.zone)
    exact this.imp fun h => by simpa using h
  obtain ⟨h1, h2⟩ := compact_sorted _ hs
  refine rising_eq h1 (zones_fold l [] trivial).1 fun y => (h2 y).trans ?_
  rw [List.mem_mergeSort]
  unfold zonesOf
  rw [zones_mem]
  simp
end Go.Proofs.YtabebhaclkhhpaaGreatDoor

/- Plain mathematics of loads over zones. -/
namespace Go.Proofs.YtabebhaclkhhpaaGreatDoor
set_option linter.unusedSimpArgs false
open Go.RowKit
set_option linter.unusedVariables false

/-- The zone that a pod is in. -/
def zoneD (ns : List NodeD) (p : PodD) : Option Int :=
  if p.node = 0 then none else
    if place NodeD.id p.node ns 0 < 0 then none else (ns[(place NodeD.id p.node ns 0).toNat]?).map NodeD.zone
theorem zoneD_nowhere {ns : List NodeD} {p : PodD} (h : p.node = 0) : zoneD ns p = none := by simp [zoneD, h]
theorem zoneD_none {ns : List NodeD} {p : PodD} (h : place NodeD.id p.node ns 0 < 0) : zoneD ns p = none := by simp [zoneD, h]
theorem zoneD_some {ns : List NodeD} {p : PodD} {i : Nat} (h0 : p.node ≠ 0) (hi : i < ns.length) (h : place NodeD.id p.node ns 0 = i) : zoneD ns p = some ns[i].zone := by
  have : ¬ (i : Int) < 0 := by omega
  simp [zoneD, h0, h, this, hi]
def inZ (ns : List NodeD) (load z : Int) (p : PodD) : Bool := p.load == load && zoneD ns p == some z
/-- A load's count in a zone. -/
def countD (ns : List NodeD) (load z : Int) (l : List PodD) : Nat := l.countP (inZ ns load z)
def countsD (ns : List NodeD) (load : Int) (zs : List Int) (l : List PodD) : List Int := zs.map fun z => (countD ns load z l : Int)
theorem counts_len {ns : List NodeD} {load : Int} {zs : List Int} {l : List PodD} : (countsD ns load zs l).length = zs.length := by simp [countsD]
theorem count_le (ns : List NodeD) (load z : Int) (l : List PodD) : countD ns load z l ≤ l.length := List.countP_le_length
theorem count_next {ns : List NodeD} {load z : Int} {l : List PodD} {k : Nat} (h : k < l.length) {p : PodD} (hx : l[k] = p) : countD ns load z (l.take (k + 1)) = countD ns load z (l.take k) + if inZ ns load z p = true then 1 else 0 := by
  unfold countD
  rw [List.take_succ_eq_append_getElem h, hx, List.countP_append]
  simp [List.countP_cons]
theorem counts_zero (ns : List NodeD) (load : Int) (zs : List Int) (l : List PodD) : countsD ns load zs (l.take 0) = List.replicate zs.length 0 := by
  simp [countsD, countD, List.map_const']
theorem counts_skip {ns : List NodeD} {load : Int} {zs : List Int} {l : List PodD} {k : Nat} (h : k < l.length) {p : PodD} (hx : l[k] = p) (hno : ∀ z ∈ zs, inZ ns load z p = false) : countsD ns load zs (l.take (k + 1)) = countsD ns load zs (l.take k) := by
  unfold countsD
  refine List.map_congr_left fun z hz => ?_
  rw [count_next h hx, hno z hz]
  simp
theorem inZ_load {ns : List NodeD} {load z : Int} {p : PodD} (h : p.load ≠ load) : inZ ns load z p = false := by simp [inZ, h]
theorem inZ_none {ns : List NodeD} {load z : Int} {p : PodD} (h : zoneD ns p = none) : inZ ns load z p = false := by simp [inZ, h]
theorem inZ_other {ns : List NodeD} {load z y : Int} {p : PodD} (h : zoneD ns p = some y) (hy : y ≠ z) : inZ ns load z p = false := by simp [inZ, h, hy]
theorem inZ_here {ns : List NodeD} {load z : Int} {p : PodD} (hl : p.load = load) (h : zoneD ns p = some z) : inZ ns load z p = true := by simp [inZ, h, hl]
theorem rising_at8 {z : Int} : ∀ {zs : List Int}, Rising zs → z ∈ zs → ∃ hi : zs.countP (· < z) < zs.length, zs[zs.countP (· < z)] = z ∧ ∀ j, ∀ hj : j < zs.length, j ≠ zs.countP (· < z) → zs[j] ≠ z
  | [], _, h => by simp at h
  | x :: r, hr, h => by
    by_cases hx : x = z
    · subst hx
      have h0 : r.countP (· < x) = 0 := by
        rw [List.countP_eq_zero]
        intro y hy
        have := hr.1 y hy
        simp; omega
      have e : (x :: r).countP (· < x) = 0 := by simp [h0]
      refine ⟨by rw [e]; simp, by simp [e], fun j hj hne => ?_⟩
      rw [e] at hne
      cases j with
      | zero => exact absurd rfl hne
      | succ j =>
        have := hr.1 _ (List.getElem_mem (l := r) (n := j) (by simpa using hj))
        simp only [List.getElem_cons_succ]
        omega
    · have hm : z ∈ r := by
        rcases List.mem_cons.1 h with e | e
        · exact absurd e.symm hx
        · exact e
      obtain ⟨i1, i2, i3⟩ := rising_at8 hr.2 hm
      have hlt := hr.1 z hm
      have e : (x :: r).countP (· < z) = r.countP (· < z) + 1 := by simp [hlt]
      refine ⟨by rw [e]; simpa using i1, by simp only [e, List.getElem_cons_succ]; exact i2, fun j hj hne => ?_⟩
      rw [e] at hne
      cases j with
      | zero => simpa using hx
      | succ j => simp only [List.getElem_cons_succ]; exact i3 j (by simpa using hj) (by omega)
theorem counts_bump {ns : List NodeD} {load z : Int} {zs : List Int} {l : List PodD} {k : Nat} (h : k < l.length) {p : PodD} (hx : l[k] = p) (hl : p.load = load) (hz : zoneD ns p = some z) (hr : Rising zs) (hm : z ∈ zs) :
    zs.countP (· < z) < zs.length ∧ (countsD ns load zs (l.take k))[zs.countP (· < z)]? = some (countD ns load z (l.take k) : Int) ∧ countsD ns load zs (l.take (k + 1)) = (countsD ns load zs (l.take k)).set (zs.countP (· < z)) ((countD ns load z (l.take k) : Int) + 1) := by
  obtain ⟨hi, he, hne⟩ := rising_at8 hr hm
  refine ⟨hi, ?_, ?_⟩
  · unfold countsD
    rw [List.getElem?_map, List.getElem?_eq_getElem hi, he]
    rfl
  · refine List.ext_getElem (by simp [counts_len]) fun j h1 h2 => ?_
    have hj : j < zs.length := by simpa [counts_len] using h1
    rw [List.getElem_set]
    by_cases e : zs.countP (· < z) = j
    · subst e
      rw [if_pos rfl]
      simp only [countsD, List.getElem_map, he]
      rw [count_next h hx, inZ_here hl hz]
      simp
    · rw [if_neg e]
      simp only [countsD, List.getElem_map]
      rw [count_next h hx, inZ_other hz (fun q => hne j hj (fun w => e w.symm) q.symm)]
      simp
theorem rising_le : ∀ {zs : List Int}, Rising zs → zs.Pairwise (· ≤ ·)
  | [], _ => List.Pairwise.nil
  | x :: r, h => List.Pairwise.cons (fun y hy => by have := h.1 y hy; omega) (rising_le h.2)
/-! The greatest and the least one. -/
theorem foldl_max : ∀ (r : List Int) (a : Int), a ≤ r.foldl max a ∧ (∀ x ∈ r, x ≤ r.foldl max a) ∧ (r.foldl max a = a ∨ r.foldl max a ∈ r)
  | [], a => ⟨Int.le_refl _, by simp, .inl rfl⟩
  | y :: r, a => by
    obtain ⟨h1, h2, h3⟩ := foldl_max r (max a y)
    refine ⟨by simp only [List.foldl_cons]; omega, fun x hx => ?_, ?_⟩
    · simp only [List.foldl_cons]
      rcases List.mem_cons.1 hx with e | e
      · omega
      · exact h2 x e
    · simp only [List.foldl_cons]
      rcases h3 with e | e
      · rw [e]
        by_cases q : y ≤ a
        · left; omega
        · right; rw [show max a y = y by omega]; simp
      · right; simp [e]
theorem foldl_min : ∀ (r : List Int) (a : Int), r.foldl min a ≤ a ∧ (∀ x ∈ r, r.foldl min a ≤ x) ∧ (r.foldl min a = a ∨ r.foldl min a ∈ r)
  | [], a => ⟨Int.le_refl _, by simp, .inl rfl⟩
  | y :: r, a => by
    obtain ⟨h1, h2, h3⟩ := foldl_min r (min a y)
    refine ⟨by simp only [List.foldl_cons]; omega, fun x hx => ?_, ?_⟩
    · simp only [List.foldl_cons]
      rcases List.mem_cons.1 hx with e | e
      · omega
      · exact h2 x e
    · simp only [List.foldl_cons]
      rcases h3 with e | e
      · rw [e]
        by_cases q : a ≤ y
        · left; omega
        · right; rw [show min a y = y by omega]; simp
      · right; simp [e]
theorem maxOf_spec {zs : List Int} (h : zs ≠ []) : Lib.maxOf zs ∈ zs ∧ ∀ x ∈ zs, x ≤ Lib.maxOf zs := by
  obtain ⟨a, r, rfl⟩ := List.exists_cons_of_ne_nil h
  obtain ⟨h1, h2, h3⟩ := foldl_max (a :: r) a
  refine ⟨?_, h2⟩
  rcases h3 with e | e
  · unfold Lib.maxOf; rw [List.headD_cons, e]; simp
  · exact e
theorem minOf_spec {zs : List Int} (h : zs ≠ []) : Lib.minOf zs ∈ zs ∧ ∀ x ∈ zs, Lib.minOf zs ≤ x := by
  obtain ⟨a, r, rfl⟩ := List.exists_cons_of_ne_nil h
  obtain ⟨h1, h2, h3⟩ := foldl_min (a :: r) a
  refine ⟨?_, h2⟩
  rcases h3 with e | e
  · unfold Lib.minOf; rw [List.headD_cons, e]; simp
  · exact e
/-- How unlike zones are. -/
def skewD (ns : List NodeD) (load : Int) (zs : List Int) (l : List PodD) : Int := if zs = [] then 0 else Lib.maxOf (countsD ns load zs l) - Lib.minOf (countsD ns load zs l)
theorem counts_ne {ns : List NodeD} {load : Int} {zs : List Int} {l : List PodD} (h : zs ≠ []) : countsD ns load zs l ≠ [] := by
  intro e
  exact h (List.eq_nil_of_length_eq_zero (by rw [← counts_len (ns := ns) (load := load) (l := l), e]; rfl))
theorem counts_bounds {ns : List NodeD} {load : Int} {zs : List Int} {l : List PodD} {x : Int} (h : x ∈ countsD ns load zs l) : 0 ≤ x ∧ x ≤ l.length := by
  simp only [countsD, List.mem_map] at h
  obtain ⟨z, _, rfl⟩ := h
  have := count_le ns load z l
  omega
theorem skew_max {ns : List NodeD} {load : Int} {zs : List Int} {l : List PodD} (h : zs ≠ []) : skewD ns load zs l = Lib.maxOf (countsD ns load zs l) - Lib.minOf (countsD ns load zs l) ∧ 0 ≤ Lib.minOf (countsD ns load zs l) ∧ Lib.minOf (countsD ns load zs l) ≤ Lib.maxOf (countsD ns load zs l) ∧ Lib.maxOf (countsD ns load zs l) ≤ l.length := by
  have hn := counts_ne (ns := ns) (load := load) (l := l) h
  obtain ⟨m1, m2⟩ := maxOf_spec hn
  obtain ⟨n1, n2⟩ := minOf_spec hn
  exact ⟨by rw [skewD, if_neg h], (counts_bounds n1).1, m2 _ n1, (counts_bounds m1).2⟩
/-! All counts together. -/
/-! What a move changes. -/
end Go.Proofs.YtabebhaclkhhpaaGreatDoor

/- dunnageref03.Zones. -/
namespace Go.Proofs.YtabebhaclkhhpaaGreatDoor
set_option linter.unusedSimpArgs false
open Go.RowKit
set_option linter.unusedVariables false

abbrev i64s (l : List Int) : List Value := l.map (Value.int .i64)
theorem Tryz.info3 : (Tryz.prog.info? 3).map (fun i => (i.zero, i.size, i.bytes)) = some (some (.int .i64 0), 1, 8) := by kernel_rfl

def ZonesTo (l : List NodeD) (w : World) (e : Ending) (w' : World) : Prop :=
  ∃ v, e = .returned v ∧ w'.ownsRow (w.heap.size + 1) 3 1 v (i64s (zonesOf l)).length (i64s (zonesOf l)) ∧ Below w.heap.size w w'

end Go.Proofs.YtabebhaclkhhpaaGreatDoor

/- The program's Zones, from what slices.Sort and slices.Compact come to. -/
namespace Go.Proofs.YtabebhaclkhhpaaGreatDoor
set_option linter.unusedSimpArgs false
open Go.RowKit
set_option linter.unusedVariables false

abbrev sortI (zs : List Int) : List Int := zs.mergeSort fun x y => decide (x ≤ y)
/-- slices.Sort at a slice of the call's own. -/
def SortOwn : Prop := ∀ (B : Nat) (v : Value) (zs : List Int) (w : World), B ≤ w.heap.size → w.ownsRow B 3 1 v zs.length (i64s zs) → zs.length ≤ 1000 →
  Calls Tryz.prog 43 #[v] w fun e w' => e = .returned (.tuple #[]) ∧ w'.ownsRow B 3 1 v zs.length (i64s (sortI zs)) ∧ Below B w w'
def CompTo (zs : List Int) (B : Nat) (w : World) (e : Ending) (w' : World) : Prop := ∃ v', e = .returned v' ∧ w'.ownsRow B 3 1 v' (Lib.compact zs).length (i64s (Lib.compact zs)) ∧ Below B w w'
/-- slices.Compact at a slice of the call's own. -/
def CompOwn : Prop := ∀ (B : Nat) (v : Value) (zs : List Int) (w : World), B ≤ w.heap.size → w.ownsRow B 3 1 v zs.length (i64s zs) → zs.length ≤ 1000 → Calls Tryz.prog 44 #[v] w (CompTo zs B w)

def ZoRel (l : List NodeD) (W : World) (B : Nat) (v i : Value) (wr : World) : Prop :=
  ∃ k : Nat, k ≤ l.length ∧ i = .int .i64 k ∧ wr.ownsRow B 3 1 v (i64s ((l.take k).map NodeD.zone)).length (i64s ((l.take k).map NodeD.zone)) ∧ Below B W wr
theorem zones_more {l : List NodeD} {k : Nat} {nd : NodeD} (h : k < l.length) (hx : l[k] = nd) : i64s ((l.take (k + 1)).map NodeD.zone) = i64s ((l.take k).map NodeD.zone) ++ [.int .i64 nd.zone] := by
  rw [List.take_succ_eq_append_getElem h, hx]; simp

set_option maxHeartbeats 3200000 in
set_option maxRecDepth 100000 in
theorem zones_any (HS : SortOwn) (HC : CompOwn) (l : List NodeD) (A : Option Addr) (n c : Nat) (v2 v3 : Value) (w : World) (hn : n = l.length) (hl : n ≤ 1000) (hr : Recs 10 cellsN w w.heap.size A l) :
    Calls Tryz.prog 123 #[.agg #[.slice A n c, v2, v3]] w (ZonesTo l w) := by
  have HSS := Lib.hid HS
  have HCC := Lib.hid HC
  have HR := Lib.hid hr
  have HN := Lib.hid hn
  clear hr hn HS HC
  have b00 : Below w.heap.size w (w.alloc (.cells #[.slice A n c, v2, v3] 26)) := (Below.refl _ _).alloc (Nat.le_refl _) _
  go_enter Tryz.func123, Tryz.ntmps123
  go_wp2
  go_loopw [3, 9] (ZoRel l (w.alloc (.cells #[.slice A n c, v2, v3] 26)) (w.heap.size + 1)) (fun _ i _ => n - (intOf i).toNat)
  case atStart => exact ⟨0, by omega, rfl, ⟨by simp, .inl ⟨rfl, by simp⟩⟩, Below.refl _ _⟩
  case round =>
    obtain ⟨k, hk, rfl, hown, hbr⟩ := hrel
    have HOWN := Lib.hid hown
    have hzr : w.heap.size + 1 ≤ wr.heap.size := by have := hbr.size; simpa using this
    have kwr : Below w.heap.size w wr := b00.trans (hbr.mono (by omega))
    clear hown
    by_cases hlt : k < n
    · have hkl : k < l.length := by have := HN.out; omega
      obtain ⟨b, o, rfl, hb, he⟩ := HR.out.at hkl
      generalize hx : l[k] = nd at *
      have HX := Lib.hid hx
      clear hx
      have e0 : wr.cell? ⟨b, o + k * 10, none⟩ = some (.int .i64 nd.id) := (kwr.cell (p := ⟨b, o + k * 10, none⟩) hb).trans (he 0 _ rfl)
      have e1 : wr.cell? ⟨b, o + k * 10 + 1, none⟩ = some (.int .i64 nd.zone) := (kwr.cell (p := ⟨b, o + k * 10 + 1, none⟩) hb).trans (he 1 _ rfl)
      have e2 : wr.cell? ⟨b, o + k * 10 + 2, none⟩ = some (.int .u64 nd.cap.a) := (kwr.cell (p := ⟨b, o + k * 10 + 2, none⟩) hb).trans (he 2 _ rfl)
      have e3 : wr.cell? ⟨b, o + k * 10 + 3, none⟩ = some (.int .u64 nd.cap.b) := (kwr.cell (p := ⟨b, o + k * 10 + 3, none⟩) hb).trans (he 3 _ rfl)
      have e4 : wr.cell? ⟨b, o + k * 10 + 4, none⟩ = some (.int .u64 nd.cap.c) := (kwr.cell (p := ⟨b, o + k * 10 + 4, none⟩) hb).trans (he 4 _ rfl)
      have e5 : wr.cell? ⟨b, o + k * 10 + 5, none⟩ = some (.int .u64 nd.cap.d) := (kwr.cell (p := ⟨b, o + k * 10 + 5, none⟩) hb).trans (he 5 _ rfl)
      have e6 : wr.cell? ⟨b, o + k * 10 + 6, none⟩ = some (.int .u64 nd.held.a) := (kwr.cell (p := ⟨b, o + k * 10 + 6, none⟩) hb).trans (he 6 _ rfl)
      have e7 : wr.cell? ⟨b, o + k * 10 + 7, none⟩ = some (.int .u64 nd.held.b) := (kwr.cell (p := ⟨b, o + k * 10 + 7, none⟩) hb).trans (he 7 _ rfl)
      have e8 : wr.cell? ⟨b, o + k * 10 + 8, none⟩ = some (.int .u64 nd.held.c) := (kwr.cell (p := ⟨b, o + k * 10 + 8, none⟩) hb).trans (he 8 _ rfl)
      have e9 : wr.cell? ⟨b, o + k * 10 + 9, none⟩ = some (.int .u64 nd.held.d) := (kwr.cell (p := ⟨b, o + k * 10 + 9, none⟩) hb).trans (he 9 _ rfl)
      have hbw : b < wr.heap.size := by omega
      have HM := Lib.hid (zones_more hkl HX.out)
      have HL : Hid ((i64s ((l.take k).map NodeD.zone)).length ≤ 2000000) := by show _ ≤ _; simp; omega
      have k1 : Below (w.heap.size + 1) (w.alloc (.cells #[.slice (some ⟨b, o, none⟩) n c, v2, v3] 26)) (wr.alloc (.cells #[.int .i64 nd.id, .int .i64 nd.zone, .int .u64 nd.cap.a, .int .u64 nd.cap.b, .int .u64 nd.cap.c, .int .u64 nd.cap.d, .int .u64 nd.held.a, .int .u64 nd.held.b, .int .u64 nd.held.c, .int .u64 nd.held.d] 53)) := hbr.alloc hzr _
      have HO1 := Lib.hid (HOWN.out.alloc (.cells #[.int .i64 nd.id, .int .i64 nd.zone, .int .u64 nd.cap.a, .int .u64 nd.cap.b, .int .u64 nd.cap.c, .int .u64 nd.cap.d, .int .u64 nd.held.a, .int .u64 nd.held.b, .int .u64 nd.held.c, .int .u64 nd.held.d] 53))
      clear he
      go_wp2_with (at_builtin; refine wpList_push 71 3 (.int .i64 0) 8 Tryz.underlying71 Tryz.info3 rfl (by decide) rfl (.tmp 13) (.tmp 16) rfl (w.heap.size + 1) _ (i64s ((l.take k).map NodeD.zone)) (.int .i64 nd.zone) rfl HO1.out (by show w.heap.size + 1 ≤ (wr.alloc _).heap.size; simp; omega) HL.out rfl (by simp [go_sem]) ?_; intro v5 w3 hown3 hb3 hB3)
      have HO3 := Lib.hid hown3
      clear hown3
      go_wp2
      go_roundw
      case rel => exact ⟨k + 1, by omega, by go_num, by rw [HM.out]; exact HO3.out, k1.trans hb3⟩
      case measure => simp [intOf]; omega
    · have HK : Hid (l.take k = l) := List.take_of_length_le (by have := HN.out; omega)
      have HO : Hid (wr.ownsRow (w.heap.size + 1) 3 1 u3 (l.map NodeD.zone).length (i64s (l.map NodeD.zone))) := by
        have h := HOWN.out
        rw [HK.out, List.length_map (f := Value.int .i64)] at h
        exact h
      have HLL : Hid ((l.map NodeD.zone).length ≤ 1000) := by show _ ≤ _; have := HN.out; simp; omega
      go_wp2_with fail
      refine (HSS.out _ _ _ _ hzr HO.out HLL.out).mono ?_
      rintro e w1 ⟨rfl, hown1, hb1⟩
      have HO1 : Hid (w1.ownsRow (w.heap.size + 1) 3 1 u3 (sortI (l.map NodeD.zone)).length (i64s (sortI (l.map NodeD.zone)))) := by
        rw [show (sortI (l.map NodeD.zone)).length = (l.map NodeD.zone).length from List.length_mergeSort _]; exact hown1
      have HL1 : Hid ((sortI (l.map NodeD.zone)).length ≤ 1000) := by
        show _ ≤ _; rw [show (sortI (l.map NodeD.zone)).length = (l.map NodeD.zone).length from List.length_mergeSort _]; exact HLL.out
      clear hown1
      have hz1 : w.heap.size + 1 ≤ w1.heap.size := Nat.le_trans hzr hb1.size
      go_wp2_with fail
      refine (HCC.out _ _ _ _ hz1 HO1.out HL1.out).mono ?_
      rintro e w2 ⟨v', rfl, hown2, hb2⟩
      rw [zones_compact] at hown2
      have HO2 := Lib.hid hown2
      clear hown2
      have kw2 : Below w.heap.size w w2 := b00.trans (((hbr.trans hb1).trans hb2).mono (by omega))
      go_wp2
      go_ret
      exact ⟨_, rfl, by rw [List.length_map]; exact HO2.out, kw2⟩
end Go.Proofs.YtabebhaclkhhpaaGreatDoor

namespace Go.Proofs.YtabebhaclkhhpaaGreatDoor
set_option linter.unusedSimpArgs false
open Go.RowKit
set_option linter.unusedVariables false

/-- Has the first load of this Id Apart? -/
def apartD (id : Int) : List LoadD → Bool
  | [] => false
  | x :: r => if x.id = id then x.apart else apartD id r
theorem apartD_no {id : Int} : ∀ {l : List LoadD} {k : Int}, 0 ≤ k → place LoadD.id id l k < 0 → apartD id l = false
  | [], _, _, _ => rfl
  | x :: r, k, hk, h => by
    by_cases hx : x.id = id
    · simp [place, hx] at h; omega
    · simp only [place, if_neg hx] at h
      simp only [apartD, if_neg hx]
      exact apartD_no (by omega) h
theorem apartD_yes {id : Int} : ∀ {l : List LoadD} {k : Int} {i : Nat} (hi : i < l.length), place LoadD.id id l k = k + i → 0 ≤ k → apartD id l = l[i].apart
  | [], _, _, hi, _, _ => by simp at hi
  | x :: r, k, i, hi, h, hk => by
    by_cases hx : x.id = id
    · simp only [place, if_pos hx] at h
      obtain rfl : i = 0 := by omega
      simp [apartD, hx]
    · simp only [place, if_neg hx] at h
      cases i with
      | zero =>
        have h3 : place LoadD.id id r (k + 1) < 0 ∨ k + 1 ≤ place LoadD.id id r (k + 1) := place_or r (k + 1) (by omega)
        omega
      | succ i =>
        simp only [apartD, if_neg hx, List.getElem_cons_succ]
        exact apartD_yes (by simpa using hi) (by rw [h]; omega) (by omega)
/-- Do two pods clash? -/
def clashD (ls : List LoadD) (a b : PodD) : Bool := a.node != 0 && (a.node == b.node && (a.load == b.load && apartD a.load ls))
/-- The first pod, behind k others, that clashes with one ahead of it. -/
def apartFrom (ls : List LoadD) (l : List PodD) : List PodD → Nat → Int × Int
  | [], _ => (0, -1)
  | p :: r, k => if (l.take k).any (clashD ls p) = true then (10, (k : Int)) else apartFrom ls l r (k + 1)
def apartOf (ls : List LoadD) (l : List PodD) : Int × Int := apartFrom ls l l 0
theorem apartFrom_at {ls : List LoadD} {l : List PodD} {k : Nat} {z : Int × Int} (h : k < l.length) {p : PodD} (hx : l[k] = p) (hp : apartFrom ls l (l.drop k) k = z) :
    ((l.take k).any (clashD ls p) = true → z = (10, (k : Int))) ∧ ((l.take k).any (clashD ls p) = false → apartFrom ls l (l.drop (k + 1)) (k + 1) = z) := by
  rw [List.drop_eq_getElem_cons h, hx, apartFrom] at hp
  constructor
  · intro e; rw [if_pos e] at hp; exact hp.symm
  · intro e; rw [if_neg (by rw [e]; decide)] at hp; exact hp
theorem apartFrom_end {ls : List LoadD} {l : List PodD} {k : Nat} {z : Int × Int} (h : l.length ≤ k) (hp : apartFrom ls l (l.drop k) k = z) : z = (0, -1) := by
  rw [List.drop_of_length_le h] at hp
  exact hp.symm
/-- The place of the first one of which it is true; -1: of none. -/
def idxF (f : PodD → Bool) : List PodD → Int → Int
  | [], _ => -1
  | q :: r, k => if f q = true then k else idxF f r (k + 1)
theorem idxF_at {f : PodD → Bool} {l : List PodD} {k : Nat} {z : Int} (h : k < l.length) {q : PodD} (hx : l[k] = q) (hp : idxF f (l.drop k) k = z) :
    (f q = true → z = k) ∧ (f q = false → idxF f (l.drop (k + 1)) ((k + 1 : Nat) : Int) = z) := by
  rw [List.drop_eq_getElem_cons h, hx, idxF] at hp
  constructor
  · intro e; rw [if_pos e] at hp; exact hp.symm
  · intro e; rw [if_neg (by rw [e]; decide)] at hp; exact hp
theorem idxF_end {f : PodD → Bool} {l : List PodD} {k : Nat} {z : Int} (h : l.length ≤ k) (hp : idxF f (l.drop k) k = z) : z = -1 := by
  rw [List.drop_of_length_le h] at hp
  exact hp.symm
theorem idxF_any {f : PodD → Bool} : ∀ (l : List PodD) (k : Int), 0 ≤ k → (decide (0 ≤ idxF f l k) = l.any f)
  | [], k, hk => by simp [idxF]
  | q :: r, k, hk => by
    cases h : f q with
    | true => simp [idxF, h, hk]
    | false => simp only [idxF, h, List.any_cons, Bool.false_or]; rw [if_neg (by decide)]; exact idxF_any r (k + 1) (by omega)
theorem apartFrom_pair {ls : List LoadD} {l : List PodD} : ∀ (r : List PodD) (k : Nat), ((apartFrom ls l r k).1 = 0 ∧ apartFrom ls l r k = (0, -1)) ∨ ∃ j : Nat, apartFrom ls l r k = (10, (j : Int))
  | [], _ => .inl ⟨rfl, rfl⟩
  | p :: r, k => by
    unfold apartFrom
    split
    · exact .inr ⟨k, rfl⟩
    · exact apartFrom_pair r (k + 1)
end Go.Proofs.YtabebhaclkhhpaaGreatDoor
