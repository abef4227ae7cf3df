/- Joined texts, part 19: VW V1 V2 V3. -/
import Derived.Test.YtpfjeoldgcepnaaGreatDoorZ18
import Derived.Test.YtpfjeoldgcepnaaGreatDoorZ16
import Derived.Test.YtpfjeoldgcepnaaGreatDoorZ05
import Derived.Test.YtpfjeoldgcepnaaGreatDoorZ12
import Derived.Deep.AppendLies
import Derived.Deep.CutRange
import Derived.Deep.DeepCutAuto
import Derived.Test.YtpfjeoldgcepnaaGreatDoorZ07
import Derived.Test.YtpfjeoldgcepnaaGreatDoorZ11

/- A keeper with the moves that were done; its State, Done and Rest. -/
namespace Go.Proofs.YtpfjeoldgcepnaaGreatDoor
set_option linter.unusedSimpArgs false
open Go.RowKit
set_option linter.unusedVariables false

/-- A move that was done: the state ahead of it, and where what it changed of that lies. -/
structure DeedD where
  m : MoveD
  t : StateD
  A : Option Addr
  c : Nat
abbrev DeedD.part (d : DeedD) : List PodD := partD d.t.pods d.m
def cellsDd (d : DeedD) : List Value := [.int .i64 d.m.kind, .int .i64 d.m.pod, .int .i64 d.m.node, .int .i64 d.m.over, .slice d.A d.part.length d.c, .int .i64 d.t.preempts, .int .i64 d.t.shifts]
theorem lenDd (d : DeedD) : (cellsDd d).length = 7 := rfl
theorem flat7 : ∀ ds : List DeedD, (ds.flatMap cellsDd).length = ds.length * 7
  | [] => rfl
  | d :: r => by rw [List.flatMap_cons, List.length_append, flat7 r, lenDd, List.length_cons]; omega
def DeedRow (A : Option Addr) (c : Nat) (ds : List DeedD) (w : World) : Prop := w.ownsRow 0 103 7 (.slice A ds.length c) ds.length (ds.flatMap cellsDd)
section
variable {A : Option Addr} {c : Nat} {ds : List DeedD} {w w' : World}
theorem DeedRow.kept {S : List Nat} (h : DeedRow A c ds w) (ho : Only S w w') (hA : ∀ a, A = some a → a.block ∉ S) : DeedRow A c ds w' := by
  refine ⟨h.1, ?_⟩
  rcases h.2 with hn | ⟨g, cap, cur, hv, hb, hg, rest⟩
  · exact .inl hn
  · refine .inr ⟨g, cap, cur, hv, hb, ?_, rest⟩
    have hv' := hv
    injection hv' with e _ _
    rw [ho.block g (Array.getElem?_eq_some_iff.1 hg).1 (hA _ e)]
    exact hg
theorem DeedRow.below (h : DeedRow A c ds w) (hb : Below w.heap.size w w') : DeedRow A c ds w' := h.kept (S := []) (Only.of_below hb (fun i h1 h2 => by omega)) (by simp)
theorem DeedRow.out (h : DeedRow A c ds w) : Out 7 cellsDd w ds A c := out_of_own lenDd rfl h
theorem DeedRow.pop {d : DeedD} (h : DeedRow A c (ds ++ [d]) w) : DeedRow A c ds w := by
  rcases h.2 with ⟨_, hn⟩ | ⟨g, cap, cur, hv, hb, hg, hnc, hcm, hcs, ht⟩
  · simp at hn
  · refine ⟨flat7 ds, .inr ⟨g, cap, cur, ?_, hb, hg, ?_, hcm, hcs, ?_⟩⟩
    · injection hv with e1 _ e2
      rw [e1, e2]
    · have h1 : (ds ++ [d]).length = ds.length + 1 := by simp
      omega
    · have h1 := congrArg (List.take (ds.length * 7)) ht
      have h2 : min (ds.length * 7) ((ds ++ [d]).length * 7) = ds.length * 7 := by simp
      rw [List.take_take, h2, List.flatMap_append, ← flat7 ds, List.take_left, flat7] at h1
      exact h1
end
/-- Each state came of the one ahead of it by a move, the latest first. -/
def Chain (s : SnapD) (x : SpecD) : StateD → List DeedD → Prop
  | _, [] => True
  | t, d :: r => doD s.nodes s.loads x d.t d.m = (t, 0) ∧ FineP s.nodes d.t.pods ∧ codeS s.nodes s.loads x d.t = 0 ∧ Chain s x d.t r
structure FineK (s : SnapD) (x : SpecD) : Prop where
  n : FineN s.nodes
  l : FineL s.loads
  wo : ∀ y ∈ x.wants, y.Ok
  lo : ∀ y ∈ s.loads, y.Ok
  n40 : s.nodes.length ≤ 40
  x40 : x.wants.length ≤ 40
/-- What is only read lies in the world. -/
def LowK (K : KAddr) (ds : List DeedD) (n : Nat) : Prop := ∀ a, (K.a1 = some a ∨ K.a2 = some a ∨ K.a3 = some a ∨ K.a5 = some a ∨ ∃ d ∈ ds, d.A = some a) → a.block < n
/-- A keeper. -/
structure Kp (K : KAddr) (s : SnapD) (x : SpecD) (t : StateD) (ds : List DeedD) (N : Nat) (w : World) : Prop where
  k : Kc K s x t.pods t.preempts t.shifts (cntOf (zmOf s.nodes) t.pods) N ds.length w
  row : DeedRow K.ad K.cd ds w
  parts : ∀ d ∈ ds, Recs 8 cellsP w w.heap.size d.A d.part ∧ ∀ a, d.A = some a → a.block ∉ K.all
  fine : FineP s.nodes t.pods
  safe : codeS s.nodes s.loads x t = 0
  chain : Chain s x t ds.reverse
  low : LowK K ds w.heap.size
section
variable {K : KAddr} {s : SnapD} {x : SpecD} {t : StateD} {ds : List DeedD} {N : Nat} {w w' : World}
theorem Kp.below (h : Kp K s x t ds N w) (hb : Below w.heap.size w w') : Kp K s x t ds N w' :=
  ⟨h.k.below hb, h.row.below hb, fun d hd => ⟨((h.parts d hd).1.below hb (Nat.le_refl _)).more hb.size, (h.parts d hd).2⟩, h.fine, h.safe, h.chain, fun a ha => Nat.lt_of_lt_of_le (h.low a ha) hb.size⟩
theorem Kp.room (h : Kp K s x t ds N w) (hF : FineK s x) : (roomOf s.nodes t.pods).1 = 0 := (safe_of hF.n hF.l h.fine h.safe).1
end

/-! What a part is. -/
theorem podAt_memK {id : Int} : ∀ {l : List PodD} {p : PodD}, podAt id l = some p → p ∈ l
  | [], p, h => by cases h
  | q :: r, p, h => by
    unfold podAt at h
    split at h
    · injection h with h; simp [h]
    · exact List.mem_cons_of_mem _ (podAt_memK h)
theorem part_mem {l : List PodD} {m : MoveD} {p : PodD} (h : p ∈ partD l m) : p ∈ l := by
  unfold partD at h
  rcases List.mem_append.1 h with h | h
  · exact podAt_memK (Option.mem_toList.1 h)
  · exact podAt_memK (Option.mem_toList.1 h)
theorem part_len (l : List PodD) (m : MoveD) : (partD l m).length ≤ 2 := by rw [partD_is]; exact partF_len l m 2 (by omega)
theorem allIn_of {l b : List PodD} (h : ∀ p ∈ b, ∃ q ∈ l, q.id = p.id) : AllIn l b := fun p hp hlt => by
  rw [place_neg (by omega)] at hlt
  obtain ⟨q, hq, e⟩ := h p hp
  exact hlt q hq e
theorem Turned.ins {ns : List NodeD} {l l' : List PodD} {m : MoveD} (h : Turned ns l l' m) : AllIn l (partD l' m) ∧ AllIn l' (partD l m) := by
  have key : ∀ {a b la : List PodD}, (∀ p ∈ a, p ∈ la) → b.map PodD.id = a.map PodD.id → ∀ p ∈ b, ∃ q ∈ la, q.id = p.id := fun hp he p hb => by
    have h1 : p.id ∈ _ := List.mem_map.2 ⟨p, hb, rfl⟩
    rw [he] at h1
    obtain ⟨q, hq, e⟩ := List.mem_map.1 h1
    exact ⟨q, hp q hq, e⟩
  exact ⟨allIn_of (key (fun p hp => part_mem hp) h.ids), allIn_of (key (fun p hp => part_mem hp) h.ids.symm)⟩

section
variable {K : KAddr} {s : SnapD} {x : SpecD} {t : StateD} {ds : List DeedD} {N : Nat}
theorem keepDone_any (w : World) (h : Kp K s x t ds N w) : Calls Tryz.prog 16 #[.pointer (some ⟨K.kb, 0, none⟩)] w fun e w' => e = .returned (.int .i64 ds.length) ∧ Below w.heap.size w w' := by
  obtain ⟨-, -, -, d0, -, hkb⟩ := h.k.facts
  generalize ds.length = n at *
  clear h
  go_enter Tryz.func16, Tryz.ntmps16
  go_wp2
  go_ret
  exact ⟨rfl, Below.refl _ w⟩

set_option maxHeartbeats 1600000 in
theorem keepState_any (w : World) (h : Kp K s x t ds N w) : Calls Tryz.prog 18 #[.pointer (some ⟨K.kb, 0, none⟩)] w fun e w' => ∃ v, e = .returned v ∧ StateTo t w v w' := by
  obtain ⟨-, -, ⟨t0, t1, t2⟩, -, -, hkb⟩ := h.k.facts
  have T0 := T2.new w [.slice none 0 0, .int .i64 0, .int .i64 0] [.slice K.a4 t.pods.length K.c4, .int .i64 t.preempts, .int .i64 t.shifts] 42 42
  have HP := h.k.pods.out
  have HSZ : Hid (((w.alloc (.cells #[.slice none 0 0, .int .i64 0, .int .i64 0] 42)).alloc (.cells #[.slice K.a4 t.pods.length K.c4, .int .i64 t.preempts, .int .i64 t.shifts] 42)).heap.size = w.heap.size + 2) := by show _ = _; simp
  have HCL := Lib.hid (clonePod_any t.pods K.a4 t.pods.length K.c4 ((w.alloc (.cells #[.slice none 0 0, .int .i64 0, .int .i64 0] 42)).alloc (.cells #[.slice K.a4 t.pods.length K.c4, .int .i64 t.preempts, .int .i64 t.shifts] 42)) rfl (by have := h.fine.len; omega) HP.2.2.1 ((HP.2.2.2.below T0.below (Nat.le_refl _)).more T0.below.size))
  have HT0 := Lib.hid T0
  clear h HP T0
  go_enter Tryz.func18, Tryz.ntmps18
  go_wp2_with fail
  refine HCL.out.mono ?_
  rintro e w1 ⟨A', c', rfl, hown, hb1⟩
  have T1 := HT0.out.keep hb1
  have HO : Hid (OwnAt (w.heap.size + 2) t.pods w1 A' c') := by
    have h1 := hown
    rw [HSZ.out] at h1
    exact h1
  have HK1 := Lib.hid T1.below
  have g0 := T1.one.cell 0 _ rfl
  have g1 := T1.one.cell 1 _ rfl
  have g2 := T1.one.cell 2 _ rfl
  have z0 := T1.one.frozen 0
  have z1 := T1.one.frozen 1
  have z2 := T1.one.frozen 2
  have b0 := T1.two.cell 0 _ rfl
  have b1 := T1.two.cell 1 _ rfl
  have b2 := T1.two.cell 2 _ rfl
  have y0 := T1.two.frozen 0
  have hlt := T1.two.lt
  clear hown hb1 T1 HT0 HCL t0 t1 t2
  go_wp2
  refine bodyPost_ret (v := stateV A' t.pods.length c' t.preempts t.shifts) ?_ rfl ?_
  · simp [results, Tryz.results18, go_sem, *]
  · refine ⟨_, rfl, A', c', rfl, ((((HO.out.set (by simp) _).set (by simp) _).set (by simp) _).set (by simp) _).out, (fun a ha => by have := HO.out.from a ha; omega), ?_⟩
    exact (((HK1.out.setCell (by show w.heap.size ≤ w.heap.size + 1; omega) _).setCell (Nat.le_refl _) _).setCell (Nat.le_refl _) _).setCell (Nat.le_refl _) _
end
end Go.Proofs.YtpfjeoldgcepnaaGreatDoor

/- A keeper's Rest. -/
namespace Go.Proofs.YtpfjeoldgcepnaaGreatDoor
set_option linter.unusedSimpArgs false
open Go.RowKit
set_option linter.unusedVariables false

theorem cell_off4 {V : World} {b g j : Nat} {x0 x1 x2 x3 : Value} (h : b ≠ g) : ((((V.setCell ⟨g, 0, none⟩ x0).setCell ⟨g, 1, none⟩ x1).setCell ⟨g, 2, none⟩ x2).setCell ⟨g, 3, none⟩ x3).cell? ⟨b, j, none⟩ = V.cell? ⟨b, j, none⟩ := by
  have k : ∀ (W : World) (i : Nat) (x : Value), (W.setCell ⟨g, i, none⟩ x).cell? ⟨b, j, none⟩ = W.cell? ⟨b, j, none⟩ := fun W i x => World.cell?_setCell_other _ _ _ _ (by intro e; apply h; have e1 := congrArg Addr.block e; first | exact e1 | exact e1.symm)
  rw [k, k, k, k]
theorem place_orG {α : Type} {f : α → Int} {id : Int} : ∀ (l : List α) (k : Int), 0 ≤ k → place f id l k < 0 ∨ k ≤ place f id l k
  | [], k, h => .inl (by simp [place])
  | y :: r, k, h => by
    unfold place
    split
    · exact .inr (Int.le_refl _)
    · rcases place_orG r (k + 1) (by omega) with h1 | h1
      · exact .inl h1
      · exact .inr (by omega)
theorem placeN_is {l : List NodeD} {id : Int} {i : Nat} (hi : i < l.length) (h : place NodeD.id id l 0 = i) : l[i].id = id := by
  have key : ∀ (l : List NodeD) (k : Int) (i : Nat) (hi : i < l.length), 0 ≤ k → place NodeD.id id l k = k + i → l[i].id = id := by
    intro l
    induction l with
    | nil => intro k i hi; simp at hi
    | cons y r ih =>
      intro k i hi hk h
      unfold place at h
      split at h
      · rename_i e
        have : i = 0 := by omega
        subst this; exact e
      · cases i with
        | zero =>
          exfalso
          have h2 := place_orG (f := NodeD.id) (id := id) r (k + 1) (by omega)
          omega
        | succ j => exact ih (k + 1) j (by simpa using hi) (by omega) (by rw [h]; push_cast; omega)
  exact key l 0 i hi (Int.le_refl _) (by rw [h]; omega)
set_option maxHeartbeats 3200000 in
set_option maxRecDepth 100000 in
theorem keepRest_any {K : KAddr} {s : SnapD} {x : SpecD} {t : StateD} {ds : List DeedD} {N : Nat} (id : Int) (w : World) (h : Kp K s x t ds N w) (hF : FineK s x) :
    Calls Tryz.prog 19 #[.pointer (some ⟨K.kb, 0, none⟩), .int .i64 id] w fun e w' => e = .returned (.tuple #[aggV (restD s.nodes t.pods id).1, .bool (decide ((restD s.nodes t.pods id).2 = 0))]) ∧ Below w.heap.size w w' := by
  have B0 : Bf (w.alloc (.cells #[.int .u64 0, .int .u64 0, .int .u64 0, .int .u64 0] 59)) w.heap.size (cellsV .zer) := Bf.new w (cellsV .zer) 59 rfl
  have k0 : Below w.heap.size w (w.alloc (.cells #[.int .u64 0, .int .u64 0, .int .u64 0, .int .u64 0] 59)) := (Below.refl _ w).alloc (Nat.le_refl _) _
  have HN := Lib.hid (node_any s.nodes id K.a1 s.nodes.length K.c1 (.slice K.a2 s.loads.length K.c2) (.slice K.a3 s.pods.length K.c3) (w.alloc (.cells #[.int .u64 0, .int .u64 0, .int .u64 0, .int .u64 0] 59)) rfl (by have := hF.n40; omega) ((h.k.r1.below k0 (Nat.le_refl _)).more k0.size))
  have HKP := Lib.hid (h.below k0)
  have HFN : Hid (∀ n ∈ s.nodes, restD s.nodes t.pods n.id = (lessV (lessV n.cap n.held) ((cntOf (zmOf s.nodes) t.pods).use n.id), 0)) := fun n hn => rest_K hF.n (h.room hF) hn
  have HCO := Lib.hid (cntOk_of hF.n h.fine (h.room hF)).use
  have HNO := Lib.hid hF.n.ok
  have HB0 := Lib.hid B0
  have HK0 := Lib.hid k0
  obtain ⟨⟨r1, r2, r3⟩, -, -, -, -, hkb⟩ := h.k.facts
  clear h hF B0 k0
  go_enter Tryz.func19, Tryz.ntmps19
  go_wp2_with fail
  refine HN.out.mono ?_
  rintro e w1 ⟨hh, hb1⟩
  have HP1 := Lib.hid (HKP.out.below hb1)
  have B1 := HB0.out.below hb1 HB0.out.lt
  have HB1 := Lib.hid B1
  have HK1 := Lib.hid (HK0.out.trans (hb1.mono HK0.out.size))
  clear hb1 HKP HB0 HK0 HN r1 r2 r3
  have z0 := B1.frozen 0
  have z1 := B1.frozen 1
  have z2 := B1.frozen 2
  have z3 := B1.frozen 3
  have g0 := B1.cell 0 _ rfl
  have g1 := B1.cell 1 _ rfl
  have g2 := B1.cell 2 _ rfl
  have g3 := B1.cell 3 _ rfl
  have hlt := B1.lt
  clear B1
  rcases hh with ⟨hp, rfl⟩ | ⟨i, hi, hp, rfl⟩
  · have HE := Lib.hid (rest_none (l := t.pods) (nodeAt_no (k := 0) (Int.le_refl _) hp))
    clear hp
    go_wp2
    refine bodyPost_ret (v := .tuple #[.agg #[.int .u64 0, .int .u64 0, .int .u64 0, .int .u64 0], .bool false]) ?_ rfl ?_
    · simp [results, Tryz.results19, go_sem, *]
    · rw [HE.out]
      refine ⟨rfl, ?_⟩
      repeat (first | with_reducible exact HK1.out | with_reducible refine Below.setCell ?_ ?_ _ | with_reducible refine Below.alloc ?_ ?_ _)
      all_goals (first | exact Nat.le_refl _ | (have := HK1.out.size; simp; omega))
  · generalize hy : s.nodes[i] = y at *
    have hmem : y ∈ s.nodes := by rw [← hy]; exact List.getElem_mem hi
    obtain rfl : y.id = id := by rw [← hy]; exact placeN_is hi hp
    have HFE := Lib.hid (HFN.out y hmem)
    have hno := HNO.out y hmem
    clear hy hi hp
    have bn : Bf (w1.alloc (.cells #[.int .i64 y.id, .int .i64 y.zone, .int .u64 y.cap.a, .int .u64 y.cap.b, .int .u64 y.cap.c, .int .u64 y.cap.d, .int .u64 y.held.a, .int .u64 y.held.b, .int .u64 y.held.c, .int .u64 y.held.d] 63)) w1.heap.size (cellsN y) := Bf.new w1 (cellsN y) 63 rfl
    have kn : Below w1.heap.size w1 (w1.alloc (.cells #[.int .i64 y.id, .int .i64 y.zone, .int .u64 y.cap.a, .int .u64 y.cap.b, .int .u64 y.cap.c, .int .u64 y.cap.d, .int .u64 y.held.a, .int .u64 y.held.b, .int .u64 y.held.c, .int .u64 y.held.d] 63)) := (Below.refl _ w1).alloc (Nat.le_refl _) _
    have HP2 := Lib.hid (HP1.out.below kn)
    have HB2 := Lib.hid (HB1.out.below kn HB1.out.lt)
    have HK2 := Lib.hid (HK1.out.trans (kn.mono HK1.out.size))
    have HBN := Lib.hid bn
    clear bn kn HP1 HB1 HK1 z0 z1 z2 z3 g0 g1 g2 g3
    go_upto_region 4 with fail
    generalize (w1.alloc (.cells #[.int .i64 y.id, .int .i64 y.zone, .int .u64 y.cap.a, .int .u64 y.cap.b, .int .u64 y.cap.c, .int .u64 y.cap.d, .int .u64 y.held.a, .int .u64 y.held.b, .int .u64 y.held.c, .int .u64 y.held.d] 63)) = W at *
    have HRK := Lib.hid (restK_any (M := K.M) (C := cntOf (zmOf s.nodes) t.pods) hno HCO.out W.drew (HP2.out.k.drew.cnt))
    have HPD := Lib.hid (HP2.out.below (Below.refl _ W).drew)
    have hne0 : K.kb ≠ w.heap.size := by omega
    have hne1 : w1.heap.size ≠ w.heap.size := by omega
    generalize w1.heap.size = g at *
    obtain ⟨-, -, -, -, ⟨q0, q1, q2, q3, q4⟩, -⟩ := HP2.out.k.drew.facts
    obtain ⟨⟨b0, b1, b2, b3, b4, b5⟩, b6, b7, b8, b9, b10⟩ := (HBN.out.drew).cells10
    generalize lessV (lessV y.cap y.held) ((cntOf (zmOf s.nodes) t.pods).use y.id) = z at *
    go_region_held3 (fun w' => (w'.cell? ⟨K.kb, 10, none⟩ = some (.map (some K.M.z)) ∧ w'.cell? ⟨K.kb, 11, none⟩ = some (.map (some K.M.u)) ∧ w'.cell? ⟨K.kb, 12, none⟩ = some (.map (some K.M.a)) ∧ w'.cell? ⟨K.kb, 13, none⟩ = some (.map (some K.M.i)) ∧ w'.cell? ⟨K.kb, 14, none⟩ = some (.map (some K.M.s))) ∧ w'.cell? ⟨g, 0, none⟩ = some (.int .i64 y.id) ∧ w'.cell? ⟨g, 1, none⟩ = some (.int .i64 y.zone) ∧ w'.cell? ⟨g, 2, none⟩ = some (.int .u64 y.cap.a) ∧ w'.cell? ⟨g, 3, none⟩ = some (.int .u64 y.cap.b) ∧ w'.cell? ⟨g, 4, none⟩ = some (.int .u64 y.cap.c) ∧ w'.cell? ⟨g, 5, none⟩ = some (.int .u64 y.cap.d) ∧ w'.cell? ⟨g, 6, none⟩ = some (.int .u64 y.held.a) ∧ w'.cell? ⟨g, 7, none⟩ = some (.int .u64 y.held.b) ∧ w'.cell? ⟨g, 8, none⟩ = some (.int .u64 y.held.c) ∧ w'.cell? ⟨g, 9, none⟩ = some (.int .u64 y.held.d))
      (first | with_reducible assumption | ((repeat' apply And.intro) <;> with_reducible assumption) | (simp only [cell_off4 hne0, cell_off4 hne1]; with_reducible assumption))
      (first
        | (go_at_call 49; refine HRK.out.mono ?_; rintro e w3 ⟨rfl, hb3⟩; have k3 : (w3.cell? ⟨K.kb, 10, none⟩ = some (.map (some K.M.z)) ∧ w3.cell? ⟨K.kb, 11, none⟩ = some (.map (some K.M.u)) ∧ w3.cell? ⟨K.kb, 12, none⟩ = some (.map (some K.M.a)) ∧ w3.cell? ⟨K.kb, 13, none⟩ = some (.map (some K.M.i)) ∧ w3.cell? ⟨K.kb, 14, none⟩ = some (.map (some K.M.s))) ∧ w3.cell? ⟨g, 0, none⟩ = some (.int .i64 y.id) ∧ w3.cell? ⟨g, 1, none⟩ = some (.int .i64 y.zone) ∧ w3.cell? ⟨g, 2, none⟩ = some (.int .u64 y.cap.a) ∧ w3.cell? ⟨g, 3, none⟩ = some (.int .u64 y.cap.b) ∧ w3.cell? ⟨g, 4, none⟩ = some (.int .u64 y.cap.c) ∧ w3.cell? ⟨g, 5, none⟩ = some (.int .u64 y.cap.d) ∧ w3.cell? ⟨g, 6, none⟩ = some (.int .u64 y.held.a) ∧ w3.cell? ⟨g, 7, none⟩ = some (.int .u64 y.held.b) ∧ w3.cell? ⟨g, 8, none⟩ = some (.int .u64 y.held.c) ∧ w3.cell? ⟨g, 9, none⟩ = some (.int .u64 y.held.d) := (by obtain ⟨-, -, -, -, q, -⟩ := (HPD.out.below hb3).k.facts; obtain ⟨⟨b0, b1, b2, b3, b4, b5⟩, b6, b7, b8, b9, b10⟩ := ((HBN.out.drew).below hb3 HBN.out.lt).cells10; exact ⟨q, b0, b1, b2, b3, b4, b5, b6, b7, b8, b9⟩); have HB3 := Lib.hid ((HB2.out.drew).below hb3 HB2.out.lt); have HK3 := Lib.hid (HK2.out.drew.trans (hb3.mono HK2.out.size)); have z0 := HB3.out.frozen 0; have z1 := HB3.out.frozen 1; have z2 := HB3.out.frozen 2; have z3 := HB3.out.frozen 3; have hl3 := HB3.out.lt; have g0 := HB3.out.cell 0 _ rfl; have g1 := HB3.out.cell 1 _ rfl; have g2 := HB3.out.cell 2 _ rfl; have g3 := HB3.out.cell 3 _ rfl))
    all_goals
      go_wp2
      refine bodyPost_ret (v := .tuple #[aggV z, .bool true]) ?_ rfl ?_
      · simp [results, Tryz.results19, go_sem, *]
      · rw [HFE.out]
        refine ⟨rfl, ?_⟩
        repeat (first | with_reducible exact HK3.out | with_reducible refine Below.setCell ?_ ?_ _)
        all_goals exact Nat.le_refl _
end Go.Proofs.YtpfjeoldgcepnaaGreatDoor

/- A keeper's Undo. -/
namespace Go.Proofs.YtpfjeoldgcepnaaGreatDoor
set_option linter.unusedSimpArgs false
open Go.RowKit
set_option linter.unusedVariables false

theorem chain_back {s : SnapD} {x : SpecD} {d : DeedD} {t : StateD} (hF : FineK s x) (h : doD s.nodes s.loads x d.t d.m = (t, 0)) (hP : FineP s.nodes d.t.pods) (hs : codeS s.nodes s.loads x d.t = 0) :
    Turned s.nodes d.t.pods t.pods d.m ∧ comesC (zmOf s.nodes) (leavesC (zmOf s.nodes) (cntOf (zmOf s.nodes) t.pods) (partD t.pods d.m)) d.part = cntOf (zmOf s.nodes) d.t.pods := by
  by_cases h1 : (makeD s.nodes x.wants d.t d.m).2 = 0
  · by_cases h2 : prioD d.t.pods d.m = true
    · rw [do_no2 h1 h2] at h
      injection h with _ h; cases h
    · have h2 : prioD d.t.pods d.m = false := by simpa using h2
      by_cases h3 : codeS s.nodes s.loads x (makeD s.nodes x.wants d.t d.m).1 = 0
      · rw [do_yes h1 h2 h3] at h
        injection h with h _
        obtain ⟨k1, k2, k3⟩ := do_K hF.n hF.l hF.wo hP hs h1
        rw [h] at k1 k2 k3 h3
        by_cases h4 : roomAt s.nodes (cntOf (zmOf s.nodes) d.t.pods) d.m.node (partD d.t.pods d.m) (partD t.pods d.m) = 0
        · exact ⟨k1, (k3 h4).2.1⟩
        · exact absurd ((k2 h4).symm.trans h3) h4
      · rw [do_no3 h1 h2 h3] at h
        injection h with _ h; exact absurd h h3
  · rw [do_no1 h1] at h
    injection h with _ h; exact absurd h h1
theorem Kc.mono {K : KAddr} {s : SnapD} {x : SpecD} {l : List PodD} {p1 p2 : Int} {C : CntD} {N N' nd : Nat} {w : World} (h : Kc K s x l p1 p2 C N nd w) (hN : N ≤ N') : Kc K s x l p1 p2 C N' nd w :=
  ⟨h.sep, h.box, h.pods, h.cnt.mono hN, h.zone, h.r1, h.r2, h.r3, h.r5⟩
/-- Fewer moves that were done. -/
theorem Kc.fewer {K : KAddr} {s : SnapD} {x : SpecD} {l : List PodD} {p1 p2 : Int} {C : CntD} {N nd nd' : Nat} {w : World} (h : Kc K s x l p1 p2 C N nd w) : Kc K s x l p1 p2 C N nd' (w.setCell ⟨K.kb, 9, none⟩ (.slice K.ad nd' K.cd)).drew := by
  have ho : Only [K.kb] w (w.setCell ⟨K.kb, 9, none⟩ (.slice K.ad nd' K.cd)).drew := ((Only.refl [K.kb] w).setCell (List.mem_singleton.2 rfl) _).drew
  exact h.used (n' := 0) (h.box.set 9 (.slice K.ad nd' K.cd)).drew ho
theorem maxLen_1 {n : Nat} (h : n ≤ maxLen) (h0 : 1 ≤ n) : IntKind.i64.wrap ((n : Int) - 1) = ((n - 1 : Nat) : Int) := by
  rw [IntWalk.i64_in _ (by unfold maxLen at h; omega)]
  omega
theorem ad_muts {K : KAddr} (hs : KSep K) : ∀ a, K.ad = some a → a.block ∉ K.muts := fun a ha e => by
  simp only [KAddr.muts, blk, List.mem_cons, List.mem_append, List.mem_map, Option.mem_toList] at e
  obtain ⟨h1, h2, h3⟩ := hs.d a ha
  rcases e with e | ⟨b, hb, e⟩ | e
  · exact h1 e
  · exact h3 b hb e.symm
  · exact h2 (List.mem_cons_of_mem _ (by simpa [MapsB.four] using e))
theorem Kc.muts_lt {K : KAddr} {s : SnapD} {x : SpecD} {l : List PodD} {p1 p2 : Int} {C : CntD} {N nd : Nat} {w : World} (h : Kc K s x l p1 p2 C N nd w) : ∀ i ∈ K.muts, i < w.heap.size := fun i hi => by
  have hlts := And.intro h.box.lt (And.intro h.cnt.use.lt (And.intro h.cnt.ats.lt (And.intro h.cnt.inz.lt (And.intro h.cnt.size.lt h.zone.lt))))
  simp only [KAddr.muts, blk, List.mem_cons, List.mem_append, List.mem_map, Option.mem_toList] at hi
  rcases hi with e | ⟨a, ha, e⟩ | e
  · rw [e]; exact hlts.1
  · rw [← e]
    rcases h.pods with ⟨_, e, _⟩ | ⟨g, e, _, _, hL⟩
    · rw [ha] at e; cases e
    · rw [ha] at e; injection e with e; rw [e]; exact hL.lt
  · simp only [MapsB.four, List.mem_cons, List.not_mem_nil, or_false] at e
    omega
theorem LowK.pop {K : KAddr} {ds : List DeedD} {d : DeedD} {n : Nat} (h : LowK K (ds ++ [d]) n) : LowK K ds n := fun a ha =>
  h a (ha.imp id fun h1 => h1.imp id fun h2 => h2.imp id fun h3 => h3.imp id fun ⟨d', hd, e⟩ => ⟨d', List.mem_append.2 (.inl hd), e⟩)
/-- The moves that were done, in memory. -/
structure Kr (K : KAddr) (ds : List DeedD) (w : World) : Prop where
  row : DeedRow K.ad K.cd ds w
  parts : ∀ d ∈ ds, Recs 8 cellsP w w.heap.size d.A d.part ∧ ∀ a, d.A = some a → a.block ∉ K.all
  low : LowK K ds w.heap.size
theorem Kr.only {K : KAddr} {ds : List DeedD} {w w' : World} (h : Kr K ds w) (hs : KSep K) (ho : Only K.muts w w') : Kr K ds w' :=
  ⟨h.row.kept ho (ad_muts hs), fun d hd => ⟨recs_only (h.parts d hd).1 ho (fun a ha e => (h.parts d hd).2 a ha (muts_all e)), (h.parts d hd).2⟩, fun a ha => Nat.lt_of_lt_of_le (h.low a ha) ho.size⟩
theorem Kr.below {K : KAddr} {ds : List DeedD} {w w' : World} (h : Kr K ds w) (hb : Below w.heap.size w w') : Kr K ds w' :=
  ⟨h.row.below hb, fun d hd => ⟨((h.parts d hd).1.below hb (Nat.le_refl _)).more hb.size, (h.parts d hd).2⟩, fun a ha => Nat.lt_of_lt_of_le (h.low a ha) hb.size⟩
theorem Kp.rest {K : KAddr} {s : SnapD} {x : SpecD} {t : StateD} {ds : List DeedD} {N : Nat} {w : World} (h : Kp K s x t ds N w) : Kr K ds w := ⟨h.row, h.parts, h.low⟩
/-- turn, from one state to another one. -/
theorem turnK_any {K : KAddr} {s : SnapD} {x : SpecD} {t u : StateD} {m : MoveD} {N nd : Nat} (w : World) (h : Kc K s x t.pods t.preempts t.shifts (cntOf (zmOf s.nodes) t.pods) N nd w) (hF : FineK s x) (hP : FineP s.nodes t.pods) (hPu : FineP s.nodes u.pods) (hR : (roomOf s.nodes t.pods).1 = 0)
    (A1 A2 : Option Addr) (c1 c2 : Nat) (v1 v2 : Value) (hr1 : Recs 8 cellsP w w.heap.size A1 (partD t.pods m)) (hA1 : ∀ a, A1 = some a → a.block ∉ K.muts) (hr2 : Recs 8 cellsP w w.heap.size A2 (partD u.pods m)) (hA2 : ∀ a, A2 = some a → a.block ∉ K.muts)
    (hin : AllIn t.pods (partD u.pods m)) (hto : turnP t.pods (partD u.pods m) = u.pods) (hC : comesC (zmOf s.nodes) (leavesC (zmOf s.nodes) (cntOf (zmOf s.nodes) t.pods) (partD t.pods m)) (partD u.pods m) = cntOf (zmOf s.nodes) u.pods) (hN : N + 1000 < maxLen) :
    Calls Tryz.prog 41 #[.pointer (some ⟨K.kb, 0, none⟩), .agg #[.slice A1 (partD t.pods m).length c1, v1, v2], .agg #[.slice A2 (partD u.pods m).length c2, .int .i64 u.preempts, .int .i64 u.shifts]] w fun e w' => e = .returned (.tuple #[]) ∧ Kc K s x u.pods u.preempts u.shifts (cntOf (zmOf s.nodes) u.pods) (N + 8) nd w' ∧ Only K.muts w w' := by
  have l1 := part_len t.pods m
  have l2 := part_len u.pods m
  refine (turn_any A1 A2 _ c1 _ c2 v1 v2 w h hF.n (cntOk_of hF.n hP hR).use (by have := hP.len; omega) rfl (by omega) hr1 hA1 (fun p hp => hP.ok p (part_mem hp)) rfl (by omega) hr2 hA2 (fun p hp => hPu.ok p (part_mem hp)) hin hN).mono ?_
  rintro e w' ⟨rfl, hk, ho⟩
  rw [hto, hC] at hk
  exact ⟨rfl, hk.mono (by omega), ho⟩
structure UndoB (d : DeedD) (w V : World) : Prop where
  box : Bf V w.heap.size (cellsDd d)
  below : Below w.heap.size w V

set_option maxHeartbeats 6400000 in
set_option maxRecDepth 100000 in
theorem keepUndo_any {K : KAddr} {s : SnapD} {x : SpecD} {t : StateD} {ds : List DeedD} {N : Nat} (w : World) (h : Kp K s x t ds N w) (hF : FineK s x) (hN : N + 1000 < maxLen) :
    Calls Tryz.prog 13 #[.pointer (some ⟨K.kb, 0, none⟩)] w fun e w' => (ds = [] ∧ e = .returned (.bool false) ∧ Below w.heap.size w w') ∨ ∃ (ds' : List DeedD) (d : DeedD), ds = ds' ++ [d] ∧ e = .returned (.bool true) ∧ Kp K s x d.t ds' (N + 8) w' ∧ Only K.all w w' := by
  obtain ⟨-, -, ⟨t0, t1, t2⟩, d0, -, hkb⟩ := h.k.facts
  rcases List.eq_nil_or_concat ds with rfl | ⟨ds', d, rfl⟩
  · have hd0 : w.cell? ⟨K.kb, 9, none⟩ = some (.slice K.ad 0 K.cd) := d0
    clear h t0 t1 t2 d0
    go_enter Tryz.func13, Tryz.ntmps13
    go_wp2
    go_ret
    exact .inl ⟨by trivial, by trivial, Below.refl _ w⟩
  · rw [List.concat_eq_append] at *
    have hlen : (ds' ++ [d]).length = ds'.length + 1 := by simp
    have HO := h.row.out
    have hch := h.chain
    rw [List.reverse_append] at hch
    obtain ⟨c1, c2, c3, c4⟩ : doD s.nodes s.loads x d.t d.m = (t, 0) ∧ FineP s.nodes d.t.pods ∧ codeS s.nodes s.loads x d.t = 0 ∧ Chain s x d.t ds'.reverse := hch
    obtain ⟨hT, hC⟩ := chain_back hF c1 c2 c3
    obtain ⟨b, o, had, hb, he⟩ := HO.2.2.2.at (show ds'.length < (ds' ++ [d]).length by omega)
    have hel : (ds' ++ [d])[ds'.length]'(by omega) = d := by simp
    rw [hel] at he
    have e0 := he 0 _ rfl
    have e1 := he 1 _ rfl
    have e2 := he 2 _ rfl
    have e3 := he 3 _ rfl
    have e4 := he 4 _ rfl
    have e5 := he 5 _ rfl
    have e6 := he 6 _ rfl
    rw [Nat.add_zero] at e0
    have hmx : ds'.length + 1 ≤ maxLen := by have h1 := HO.1; have h2 := HO.2.1; omega
    have hcd : ds'.length ≤ K.cd := by have h1 := HO.1; omega
    rw [hlen, had] at d0
    have HP := Lib.hid h
    have HT := Lib.hid hT
    have HC := Lib.hid hC
    have HC4 := Lib.hid c4
    have HC3 := Lib.hid c3
    have HC2 := Lib.hid c2
    have HAD := Lib.hid had
    have HND : Hid (d ∈ ds' ++ [d]) := List.mem_append.2 (.inr (List.mem_singleton.2 rfl))
    clear h c1 c2 c3 c4 hT hC HO he hel had
    obtain ⟨n, hn⟩ : ∃ n, ds'.length = n := ⟨_, rfl⟩
    obtain ⟨q, hq⟩ : ∃ q, n + 1 = q := ⟨_, rfl⟩
    rw [hn] at d0 hmx hcd hlen e0 e1 e2 e3 e4 e5 e6
    rw [hq] at d0 hmx hlen
    have HLEN := Lib.hid hlen
    have HNN := Lib.hid hn
    have hw : IntKind.i64.wrap ((q : Int) - 1) = (n : Int) := by
      rw [maxLen_1 hmx (by omega)]
      congr 1; omega
    have hq0 : ¬ ((q : Int) = 0) := by omega
    have hq1 : (n : Int) < (q : Int) := by omega
    have hq2 : (0 : Int) ≤ (n : Int) := by omega
    have hq3 : (n : Int) ≤ (K.cd : Int) := by omega
    have HQ : Hid (n + 1 = q) := hq
    have B0 : Bf (w.alloc (.cells #[.int .i64 d.m.kind, .int .i64 d.m.pod, .int .i64 d.m.node, .int .i64 d.m.over, .slice d.A d.part.length d.c, .int .i64 d.t.preempts, .int .i64 d.t.shifts] 103)).drew w.heap.size (cellsDd d) := (Bf.new w (cellsDd d) 103 rfl).drew
    have k0 : Below w.heap.size w (w.alloc (.cells #[.int .i64 d.m.kind, .int .i64 d.m.pod, .int .i64 d.m.node, .int .i64 d.m.over, .slice d.A d.part.length d.c, .int .i64 d.t.preempts, .int .i64 d.t.shifts] 103)).drew := ((Below.refl _ w).alloc (Nat.le_refl _) _).drew
    have HB0 := Lib.hid B0
    have HP0 := Lib.hid (HP.out.below k0)
    have HK0 := Lib.hid k0
    have hbk : b ≠ K.kb := HP.out.k.sep.d ⟨b, o, none⟩ HAD.out |>.1
    clear B0 k0 hlen hn hq hmx hcd t0 t1 t2
    go_enter Tryz.func13, Tryz.ntmps13
    go_upto_region 3 with fail
    go_region_held3 (fun w' => w'.cell? ⟨K.kb, 9, none⟩ = some (.slice (some ⟨b, o, none⟩) q K.cd) ∧ w'.cell? ⟨b, o + n * 7, none⟩ = some (.int .i64 d.m.kind) ∧ w'.cell? ⟨b, o + n * 7 + 1, none⟩ = some (.int .i64 d.m.pod) ∧ w'.cell? ⟨b, o + n * 7 + 2, none⟩ = some (.int .i64 d.m.node) ∧ w'.cell? ⟨b, o + n * 7 + 3, none⟩ = some (.int .i64 d.m.over) ∧ w'.cell? ⟨b, o + n * 7 + 4, none⟩ = some (.slice d.A d.part.length d.c) ∧ w'.cell? ⟨b, o + n * 7 + 5, none⟩ = some (.int .i64 d.t.preempts) ∧ w'.cell? ⟨b, o + n * 7 + 6, none⟩ = some (.int .i64 d.t.shifts))
      (go_keep)
      (fail)
    go_upto_region 4 with fail
    generalize (w.alloc (.cells #[.int .i64 d.m.kind, .int .i64 d.m.pod, .int .i64 d.m.node, .int .i64 d.m.over, .slice d.A d.part.length d.c, .int .i64 d.t.preempts, .int .i64 d.t.shifts] 103)).drew = W at *
    have d1 : W.cell? ⟨K.kb, 9, none⟩ = some (.slice (some ⟨b, o, none⟩) q K.cd) := by
      obtain ⟨-, -, -, d1, -, -⟩ := HP0.out.k.facts
      rw [HAD.out, HLEN.out] at d1
      exact d1
    have d2 : W.drew.cell? ⟨K.kb, 9, none⟩ = some (.slice (some ⟨b, o, none⟩) q K.cd) := d1
    have z9 := HP0.out.k.box.frozen 9
    have z8 : W.drew.frozen? ⟨K.kb, 9, none⟩ = false := z9
    have hkb9 : K.kb < W.drew.heap.size := HP0.out.k.box.lt
    clear d0 e0 e1 e2 e3 e4 e5 e6
    go_cut [2] from 22 to 35 (fun v2 wx => v2 = .bool false ∧ wx = (W.setCell ⟨K.kb, 9, none⟩ (.slice (some ⟨b, o, none⟩) n K.cd)).drew)
    case first =>
      go_region_with fail
      all_goals
        go_wp2_with fail
        go_meet
        exact ⟨rfl, rfl⟩
    case rest =>
    obtain ⟨rfl, rfl⟩ := hcut
    go_upto_region 5 with fail
    have hk4 : Kc K s x t.pods t.preempts t.shifts (cntOf (zmOf s.nodes) t.pods) N n (W.setCell ⟨K.kb, 9, none⟩ (.slice (some ⟨b, o, none⟩) n K.cd)).drew := by
      have h1 := HP0.out.k.fewer (nd' := n)
      rw [HAD.out] at h1
      exact h1
    have ho4 : Only [K.kb] W (W.setCell ⟨K.kb, 9, none⟩ (.slice (some ⟨b, o, none⟩) n K.cd)).drew := ((Only.refl [K.kb] W).setCell (List.mem_singleton.2 rfl) _).drew
    have hb4 : Bf (W.setCell ⟨K.kb, 9, none⟩ (.slice (some ⟨b, o, none⟩) n K.cd)).drew w.heap.size (cellsDd d) := HB0.out.only ho4 (fun e => by have := List.mem_singleton.1 e; omega)
    have hkm := (lookK_muts HP0.out.k.sep).2.2.2
    have hom : Only K.muts W (W.setCell ⟨K.kb, 9, none⟩ (.slice (some ⟨b, o, none⟩) n K.cd)).drew := ho4.mono (fun j hj => by rw [List.mem_singleton.1 hj]; exact hkm)
    have hr4 : Kr K (ds' ++ [d]) (W.setCell ⟨K.kb, 9, none⟩ (.slice (some ⟨b, o, none⟩) n K.cd)).drew := HP0.out.rest.only HP0.out.k.sep hom
    generalize (W.setCell ⟨K.kb, 9, none⟩ (.slice (some ⟨b, o, none⟩) n K.cd)).drew = W4 at *
    have HK4 := Lib.hid hk4.drew
    have HR4 := Lib.hid (hr4.below (Below.refl _ W4).drew)
    have HB4 := Lib.hid hb4.drew
    have HO4 := Lib.hid (((Only.of_below (S := K.muts) HK0.out (fun j h1 h2 => by omega)).trans hom).drew)
    have hp4 := hk4.drew.pods.out
    have HPA := Lib.hid (part_any t.pods d.m K.a4 t.pods.length K.c4 t.preempts t.shifts W4.drew rfl (by have := HP0.out.fine.len; omega) hp4.2.2.2)
    have HTU : Hid (∀ V A' c', Below W4.drew.heap.size W4.drew V → Recs 8 cellsP V V.heap.size A' (partD t.pods d.m) → (∀ a, A' = some a → W4.drew.heap.size ≤ a.block) → Calls Tryz.prog 41 #[.pointer (some ⟨K.kb, 0, none⟩), .agg #[.slice A' (partD t.pods d.m).length c', .int .i64 t.preempts, .int .i64 t.shifts], .agg #[.slice d.A d.part.length d.c, .int .i64 d.t.preempts, .int .i64 d.t.shifts]] V fun e w' => e = .returned (.tuple #[]) ∧ Kc K s x d.t.pods d.t.preempts d.t.shifts (cntOf (zmOf s.nodes) d.t.pods) (N + 8) n w' ∧ Only K.muts V w') := fun V A' c' hV hA hfr =>
      turnK_any V (HK4.out.below hV) hF HP0.out.fine HC2.out (HP0.out.room hF) A' d.A c' d.c _ _ hA (fun a ha e => by have h1 := HK4.out.muts_lt _ e; have h2 := hfr a ha; omega) ((HR4.out.below hV).parts d HND.out).1 (fun a ha e => (HR4.out.parts d HND.out).2 a ha (muts_all e)) HT.out.ins.2 HT.out.back HC.out hN
    obtain ⟨-, -, ⟨t0, t1, t2⟩, -, -, hkb4⟩ := hk4.drew.facts
    obtain ⟨b0, b1, b2, b3, b4, b5, b6⟩ : W4.drew.cell? ⟨w.heap.size, 0, none⟩ = some (.int .i64 d.m.kind) ∧ W4.drew.cell? ⟨w.heap.size, 1, none⟩ = some (.int .i64 d.m.pod) ∧ W4.drew.cell? ⟨w.heap.size, 2, none⟩ = some (.int .i64 d.m.node) ∧ W4.drew.cell? ⟨w.heap.size, 3, none⟩ = some (.int .i64 d.m.over) ∧ W4.drew.cell? ⟨w.heap.size, 4, none⟩ = some (.slice d.A d.part.length d.c) ∧ W4.drew.cell? ⟨w.heap.size, 5, none⟩ = some (.int .i64 d.t.preempts) ∧ W4.drew.cell? ⟨w.heap.size, 6, none⟩ = some (.int .i64 d.t.shifts) := ⟨HB4.out.cell 0 _ rfl, HB4.out.cell 1 _ rfl, HB4.out.cell 2 _ rfl, HB4.out.cell 3 _ rfl, HB4.out.cell 4 _ rfl, HB4.out.cell 5 _ rfl, HB4.out.cell 6 _ rfl⟩
    clear hk4 ho4 hb4 hkm hom hr4 hp4 d1 d2 z8 z9 hkb9
    go_cut [2] from 36 to 46 (fun v2 wx => v2 = .bool false ∧ Kc K s x d.t.pods d.t.preempts d.t.shifts (cntOf (zmOf s.nodes) d.t.pods) (N + 8) n wx ∧ Kr K (ds' ++ [d]) wx ∧ Only K.muts w wx)
    case first =>
      go_region_with (first
          | (go_at_call 42; refine HPA.out.mono ?_; rintro e w5 ⟨_, rfl, A', c', rfl, hoA, hfA, hb5⟩; have HB5 := Lib.hid (HB4.out.below hb5 HB4.out.lt); have k5 : w5.cell? ⟨w.heap.size, 0, none⟩ = some (.int .i64 d.m.kind) ∧ w5.cell? ⟨w.heap.size, 1, none⟩ = some (.int .i64 d.m.pod) ∧ w5.cell? ⟨w.heap.size, 2, none⟩ = some (.int .i64 d.m.node) ∧ w5.cell? ⟨w.heap.size, 3, none⟩ = some (.int .i64 d.m.over) ∧ w5.cell? ⟨w.heap.size, 4, none⟩ = some (.slice d.A d.part.length d.c) ∧ w5.cell? ⟨w.heap.size, 5, none⟩ = some (.int .i64 d.t.preempts) ∧ w5.cell? ⟨w.heap.size, 6, none⟩ = some (.int .i64 d.t.shifts) := ⟨HB5.out.cell 0 _ rfl, HB5.out.cell 1 _ rfl, HB5.out.cell 2 _ rfl, HB5.out.cell 3 _ rfl, HB5.out.cell 4 _ rfl, HB5.out.cell 5 _ rfl, HB5.out.cell 6 _ rfl⟩; have HTUa := Lib.hid (HTU.out w5 A' c' hb5 hoA.2.2.2 hfA); have HK5 := Lib.hid (HK4.out.below hb5); have HR5 := Lib.hid (HR4.out.below hb5); have HO5 := Lib.hid (HO4.out.trans (Only.of_below (S := K.muts) hb5 (fun j h1 h2 => by omega))))
          | (go_at_call 41; refine HTUa.out.mono ?_; rintro e w6 ⟨rfl, hK6, ho6⟩; have HB6 := Lib.hid (HB5.out.only ho6 (fun e => by have h1 := HP.out.k.muts_lt _ e; omega)); have k6 : w6.cell? ⟨w.heap.size, 0, none⟩ = some (.int .i64 d.m.kind) ∧ w6.cell? ⟨w.heap.size, 1, none⟩ = some (.int .i64 d.m.pod) ∧ w6.cell? ⟨w.heap.size, 2, none⟩ = some (.int .i64 d.m.node) ∧ w6.cell? ⟨w.heap.size, 3, none⟩ = some (.int .i64 d.m.over) ∧ w6.cell? ⟨w.heap.size, 4, none⟩ = some (.slice d.A d.part.length d.c) ∧ w6.cell? ⟨w.heap.size, 5, none⟩ = some (.int .i64 d.t.preempts) ∧ w6.cell? ⟨w.heap.size, 6, none⟩ = some (.int .i64 d.t.shifts) := ⟨HB6.out.cell 0 _ rfl, HB6.out.cell 1 _ rfl, HB6.out.cell 2 _ rfl, HB6.out.cell 3 _ rfl, HB6.out.cell 4 _ rfl, HB6.out.cell 5 _ rfl, HB6.out.cell 6 _ rfl⟩; have HK6 := Lib.hid hK6; have HR6 := Lib.hid (HR5.out.only HK5.out.sep ho6); have HO6 := Lib.hid (HO5.out.trans ho6)))
      all_goals
        go_wp2_with fail
        go_meet
        exact ⟨rfl, HK6.out, HR6.out, HO6.out⟩
    case rest =>
    obtain ⟨rfl, hk6', hr6', ho6'⟩ := hcut
    have HK6 := Lib.hid hk6'
    have HR6 := Lib.hid hr6'
    have HO6 := Lib.hid ho6'
    clear hk6' hr6' ho6'
    go_wp2
    go_ret
    have hk6 := HK6.out
    rw [← HNN.out] at hk6
    exact .inr ⟨ds', d, rfl, rfl, ⟨hk6, HR6.out.row.pop, fun d' hd => HR6.out.parts d' (List.mem_append.2 (.inl hd)), HC2.out, HC3.out, HC4.out, HR6.out.low.pop⟩, HO6.out.mono (fun j hj => muts_all hj)⟩
end Go.Proofs.YtpfjeoldgcepnaaGreatDoor

namespace Go.Proofs.YtpfjeoldgcepnaaGreatDoor
set_option linter.unusedSimpArgs false
open Go.RowKit
set_option linter.unusedVariables false

theorem part_some {ns : List NodeD} {x : List WantD} {t : StateD} {m : MoveD} (h : (makeD ns x t m).2 = 0) : partD t.pods m ≠ [] := by
  obtain ⟨_, hh, _, _⟩ := made_is h
  obtain ⟨i, hi, hp⟩ := place_hit (here_pod hh)
  unfold partD
  rw [podAt_place hi hp]
  simp
/-- The blocks that a keeper lies in. -/
def KBlk (K : KAddr) (ds : List DeedD) (i : Nat) : Prop := i ∈ K.all ∨ i = K.M.z ∨ ∃ a, (K.a1 = some a ∨ K.a2 = some a ∨ K.a3 = some a ∨ K.a5 = some a ∨ ∃ d ∈ ds, d.A = some a) ∧ a.block = i
/-- What a keeper's Do comes to. -/
def KDoTo (K : KAddr) (s : SnapD) (x : SpecD) (t : StateD) (m : MoveD) (ds : List DeedD) (N : Nat) (w : World) (e : Ending) (w' : World) : Prop :=
  e = .returned (codeV (doD s.nodes s.loads x t m).2) ∧ Only K.all w w' ∧
  (((doD s.nodes s.loads x t m).2 ≠ 0 ∧ Kp K s x t ds (N + 16) w') ∨ ((doD s.nodes s.loads x t m).2 = 0 ∧ ∃ (K' : KAddr) (d : DeedD), d.t = t ∧ d.m = m ∧ Kp K' s x (doD s.nodes s.loads x t m).1 (ds ++ [d]) (N + 16) w' ∧ K'.kb = K.kb ∧ (∀ i ∈ K'.all, i ∈ K.all ∨ w.heap.size ≤ i) ∧ ∀ i, KBlk K' (ds ++ [d]) i → KBlk K ds i ∨ w.heap.size ≤ i))
theorem Kp.same {K : KAddr} {s : SnapD} {x : SpecD} {t : StateD} {ds : List DeedD} {N N' : Nat} {w : World} (h : Kp K s x t ds N w) (hN : N ≤ N') : Kp K s x t ds N' w := ⟨h.k.mono hN, h.row, h.parts, h.fine, h.safe, h.chain, h.low⟩

/-- A part of a state, in a box. -/
def PartIn (V w : World) (g : Nat) (l : List PodD) (p1 p2 : Int) : Prop := ∃ A c, Bf V g [.slice A l.length c, .int .i64 p1, .int .i64 p2] ∧ Recs 8 cellsP V V.heap.size A l ∧ ∀ a, A = some a → w.heap.size ≤ a.block
structure PartsB (K : KAddr) (s : SnapD) (x : SpecD) (t : StateD) (ds : List DeedD) (N : Nat) (m : MoveD) (u : StateD) (w : World) (g8 g9 : Nat) (V : World) : Prop where
  kp : Kp K s x t ds N V
  bm : Bf V w.heap.size (cellsM m)
  bel : Below w.heap.size w V
  one : PartIn V w g8 (partD t.pods m) t.preempts t.shifts
  two : PartIn V w g9 (partD u.pods m) u.preempts u.shifts
  gt : w.heap.size < g8 ∧ w.heap.size < g9
theorem kdo_no {K : KAddr} {s : SnapD} {x : SpecD} {t : StateD} {m : MoveD} {ds : List DeedD} {N : Nat} {w V : World} {e : Ending} {c : Int} (hd : doD s.nodes s.loads x t m = (noState, c)) (hc : c ≠ 0) (hk : Kp K s x t ds N V) (hb : Below w.heap.size w V) (he : e = .returned (codeV c)) : KDoTo K s x t m ds N w e V := by
  unfold KDoTo
  rw [hd]
  exact ⟨he, Only.of_below hb (fun i h1 h2 => by omega), .inl ⟨hc, hk.same (by omega)⟩⟩
theorem below_allocK {w V : World} (h : Below w.heap.size w V) (o : Obj) : Below w.heap.size w (V.alloc o) := h.alloc h.size o
theorem below_thenK {w V V' : World} (h : Below w.heap.size w V) (hb : Below V.heap.size V V') : Below w.heap.size w V' := h.trans (hb.mono h.size)
theorem cell_off3 {V : World} {b g j : Nat} {x0 x1 x2 : Value} (h : b ≠ g) : (((V.setCell ⟨g, 0, none⟩ x0).setCell ⟨g, 1, none⟩ x1).setCell ⟨g, 2, none⟩ x2).cell? ⟨b, j, none⟩ = V.cell? ⟨b, j, none⟩ := by
  have k : ∀ (W : World) (i : Nat) (x : Value), (W.setCell ⟨g, i, none⟩ x).cell? ⟨b, j, none⟩ = W.cell? ⟨b, j, none⟩ := fun W i x => World.cell?_setCell_other _ _ _ _ (by intro e; apply h; have e1 := congrArg Addr.block e; first | exact e1 | exact e1.symm)
  rw [k, k, k]
/-- The state that was made, in a box. -/
structure MadeB (K : KAddr) (s : SnapD) (x : SpecD) (t : StateD) (ds : List DeedD) (N : Nat) (m : MoveD) (u : StateD) (w : World) (g : Nat) (V : World) : Prop where
  kp : Kp K s x t ds N V
  bm : Bf V w.heap.size (cellsM m)
  bel : Below w.heap.size w V
  box : ∃ A c, Bf V g [.slice A u.pods.length c, .int .i64 u.preempts, .int .i64 u.shifts] ∧ Out 8 cellsP V u.pods A c
  gt : w.heap.size < g
theorem MadeB.below {K : KAddr} {s : SnapD} {x : SpecD} {t : StateD} {ds : List DeedD} {N : Nat} {m : MoveD} {u : StateD} {w V V' : World} {g : Nat} (h : MadeB K s x t ds N m u w g V) (hb : Below V.heap.size V V') : MadeB K s x t ds N m u w g V' := by
  obtain ⟨A, c, h1, h2⟩ := h.box
  exact ⟨h.kp.below hb, h.bm.below hb h.bm.lt, h.bel.trans (hb.mono h.bel.size), ⟨A, c, h1.below hb h1.lt, h2.later hb⟩, h.gt⟩

theorem recs_ltK {l : List PodD} {V : World} {A : Option Addr} {a : Addr} (h : Recs 8 cellsP V V.heap.size A l) (hl : l ≠ []) (ha : A = some a) : a.block < V.heap.size := by
  rcases h with h | ⟨b, o, e, hb, _⟩
  · exact absurd h hl
  · rw [ha] at e; injection e with e; rw [e]; exact hb
theorem recs_off3 {l : List PodD} {V : World} {A : Option Addr} {g : Nat} {x y z : Value} (h : Recs 8 cellsP V V.heap.size A l) (hA : ∀ a, A = some a → l ≠ [] → a.block ≠ g) : Recs 8 cellsP (((V.setCell ⟨g, 0, none⟩ x).setCell ⟨g, 1, none⟩ y).setCell ⟨g, 2, none⟩ z) (((V.setCell ⟨g, 0, none⟩ x).setCell ⟨g, 1, none⟩ y).setCell ⟨g, 2, none⟩ z).heap.size A l := by
  by_cases hl : l = []
  · exact .inl hl
  · have hm := List.mem_singleton.2 (rfl : g = g)
    exact recs_only h ((((Only.refl [g] V).setCell hm x).setCell hm y).setCell hm z) (fun a ha e => hA a ha hl (List.mem_singleton.1 e))
theorem recs_allocK {l : List PodD} {V : World} {A : Option Addr} (h : Recs 8 cellsP V V.heap.size A l) (o : Obj) : Recs 8 cellsP (V.alloc o) (V.alloc o).heap.size A l := (h.below ((Below.refl _ V).alloc (Nat.le_refl _) o) (Nat.le_refl _)).more (by simp)
theorem below_off3 {w V : World} {g : Nat} {x y z : Value} (h : Below w.heap.size w V) (hg : w.heap.size < g) : Below w.heap.size w (((V.setCell ⟨g, 0, none⟩ x).setCell ⟨g, 1, none⟩ y).setCell ⟨g, 2, none⟩ z) :=
  ((h.setCell (p := ⟨g, 0, none⟩) (Nat.le_of_lt hg) _).setCell (p := ⟨g, 1, none⟩) (Nat.le_of_lt hg) _).setCell (p := ⟨g, 2, none⟩) (Nat.le_of_lt hg) _
theorem bf_off3 {V : World} {b g : Nat} {cs : List Value} {x y z : Value} (h : Bf V b cs) (hg : g ≠ b) : Bf (((V.setCell ⟨g, 0, none⟩ x).setCell ⟨g, 1, none⟩ y).setCell ⟨g, 2, none⟩ z) b cs := ((h.other (p := ⟨g, 0, none⟩) hg _).other (p := ⟨g, 1, none⟩) hg _).other (p := ⟨g, 2, none⟩) hg _
theorem bf_set3 {V : World} {g : Nat} {a b c x y z : Value} (h : Bf V g [a, b, c]) : Bf (((V.setCell ⟨g, 0, none⟩ x).setCell ⟨g, 1, none⟩ y).setCell ⟨g, 2, none⟩ z) g [x, y, z] := ((h.set 0 _).set 1 _).set 2 _
section
variable {K : KAddr} {s : SnapD} {x : SpecD} {t u : StateD} {ds : List DeedD} {N : Nat} {m : MoveD} {w V : World} {g5 g8 g9 : Nat} {A8 A9 : Option Addr} {c8 c9 : Nat} {z0 z1 z2 z3 z4 z5 : Value}
theorem parts_two (hP : Kp K s x t ds N w) (hM : MadeB K s x t ds N m u w g5 V) (h8 : Bf V g8 [z0, z1, z2]) (h9 : Bf V g9 [z3, z4, z5]) (hne : g8 ≠ g9) (hg : w.heap.size < g8 ∧ w.heap.size < g9) (r8 : Recs 8 cellsP V V.heap.size A8 (partD t.pods m)) (r9 : Recs 8 cellsP V V.heap.size A9 (partD u.pods m)) (n8 : ∀ a, A8 = some a → partD t.pods m ≠ [] → a.block ≠ g8 ∧ a.block ≠ g9) (n9 : ∀ a, A9 = some a → partD u.pods m ≠ [] → a.block ≠ g8 ∧ a.block ≠ g9) (f8 : ∀ a, A8 = some a → w.heap.size ≤ a.block) (f9 : ∀ a, A9 = some a → w.heap.size ≤ a.block) :
    PartsB K s x t ds N m u w g8 g9 ((((((V.setCell ⟨g8, 0, none⟩ (.slice A8 (partD t.pods m).length c8)).setCell ⟨g8, 1, none⟩ (.int .i64 t.preempts)).setCell ⟨g8, 2, none⟩ (.int .i64 t.shifts)).setCell ⟨g9, 0, none⟩ (.slice A9 (partD u.pods m).length c9)).setCell ⟨g9, 1, none⟩ (.int .i64 u.preempts)).setCell ⟨g9, 2, none⟩ (.int .i64 u.shifts)) :=
  ⟨hP.below (below_off3 (below_off3 hM.bel hg.1) hg.2), bf_off3 (bf_off3 hM.bm (by omega)) (by omega), below_off3 (below_off3 hM.bel hg.1) hg.2,
    ⟨A8, c8, bf_off3 (bf_set3 h8) (by omega), recs_off3 (recs_off3 r8 (fun a h1 h2 => (n8 a h1 h2).1)) (fun a h1 h2 => (n8 a h1 h2).2), f8⟩,
    ⟨A9, c9, bf_set3 (bf_off3 h9 (by omega)), recs_off3 (recs_off3 r9 (fun a h1 h2 => (n9 a h1 h2).1)) (fun a h1 h2 => (n9 a h1 h2).2), f9⟩, hg⟩
theorem parts_one8 (hP : Kp K s x t ds N w) (hM : MadeB K s x t ds N m u w g5 V) (h8 : Bf V g8 [z0, z1, z2]) (hg : w.heap.size < g8) (r8 : Recs 8 cellsP V V.heap.size A8 (partD t.pods m)) (r9 : Recs 8 cellsP V V.heap.size A9 (partD u.pods m)) (n8 : ∀ a, A8 = some a → partD t.pods m ≠ [] → a.block ≠ g8) (n9 : ∀ a, A9 = some a → partD u.pods m ≠ [] → a.block ≠ g8) (f8 : ∀ a, A8 = some a → w.heap.size ≤ a.block) (f9 : ∀ a, A9 = some a → w.heap.size ≤ a.block) :
    PartsB K s x t ds N m u w g8 V.heap.size ((((V.setCell ⟨g8, 0, none⟩ (.slice A8 (partD t.pods m).length c8)).setCell ⟨g8, 1, none⟩ (.int .i64 t.preempts)).setCell ⟨g8, 2, none⟩ (.int .i64 t.shifts)).alloc (.cells #[.slice A9 (partD u.pods m).length c9, .int .i64 u.preempts, .int .i64 u.shifts] 42)) := by
  have hs : (((V.setCell ⟨g8, 0, none⟩ (.slice A8 (partD t.pods m).length c8)).setCell ⟨g8, 1, none⟩ (.int .i64 t.preempts)).setCell ⟨g8, 2, none⟩ (.int .i64 t.shifts)).heap.size = V.heap.size := by simp
  have hb := below_off3 (x := .slice A8 (partD t.pods m).length c8) (y := .int .i64 t.preempts) (z := .int .i64 t.shifts) hM.bel hg
  refine ⟨hP.below (below_allocK hb _), (bf_off3 hM.bm (by omega)).alloc _, below_allocK hb _, ⟨A8, c8, (bf_set3 h8).alloc _, recs_allocK (recs_off3 r8 n8) _, f8⟩, ⟨A9, c9, ?_, recs_allocK (recs_off3 r9 n9) _, f9⟩, hg, hM.bm.lt⟩
  rw [← hs]
  exact Bf.new _ [.slice A9 (partD u.pods m).length c9, .int .i64 u.preempts, .int .i64 u.shifts] 42 rfl
theorem parts_one9 (hP : Kp K s x t ds N w) (hM : MadeB K s x t ds N m u w g5 V) (h9 : Bf V g9 [z0, z1, z2]) (hg : w.heap.size < g9) (r8 : Recs 8 cellsP V V.heap.size A8 (partD t.pods m)) (r9 : Recs 8 cellsP V V.heap.size A9 (partD u.pods m)) (n8 : ∀ a, A8 = some a → partD t.pods m ≠ [] → a.block ≠ g9) (n9 : ∀ a, A9 = some a → partD u.pods m ≠ [] → a.block ≠ g9) (f8 : ∀ a, A8 = some a → w.heap.size ≤ a.block) (f9 : ∀ a, A9 = some a → w.heap.size ≤ a.block) :
    PartsB K s x t ds N m u w V.heap.size g9 ((((V.setCell ⟨g9, 0, none⟩ (.slice A9 (partD u.pods m).length c9)).setCell ⟨g9, 1, none⟩ (.int .i64 u.preempts)).setCell ⟨g9, 2, none⟩ (.int .i64 u.shifts)).alloc (.cells #[.slice A8 (partD t.pods m).length c8, .int .i64 t.preempts, .int .i64 t.shifts] 42)) := by
  have hs : (((V.setCell ⟨g9, 0, none⟩ (.slice A9 (partD u.pods m).length c9)).setCell ⟨g9, 1, none⟩ (.int .i64 u.preempts)).setCell ⟨g9, 2, none⟩ (.int .i64 u.shifts)).heap.size = V.heap.size := by simp
  have hb := below_off3 (x := .slice A9 (partD u.pods m).length c9) (y := .int .i64 u.preempts) (z := .int .i64 u.shifts) hM.bel hg
  refine ⟨hP.below (below_allocK hb _), (bf_off3 hM.bm (by omega)).alloc _, below_allocK hb _, ⟨A8, c8, ?_, recs_allocK (recs_off3 r8 n8) _, f8⟩, ⟨A9, c9, (bf_set3 h9).alloc _, recs_allocK (recs_off3 r9 n9) _, f9⟩, hM.bm.lt, hg⟩
  rw [← hs]
  exact Bf.new _ [.slice A8 (partD t.pods m).length c8, .int .i64 t.preempts, .int .i64 t.shifts] 42 rfl
theorem parts_none8 (hP : Kp K s x t ds N w) (hM : MadeB K s x t ds N m u w g5 V) (r8 : Recs 8 cellsP V V.heap.size A8 (partD t.pods m)) (r9 : Recs 8 cellsP V V.heap.size A9 (partD u.pods m)) (f8 : ∀ a, A8 = some a → w.heap.size ≤ a.block) (f9 : ∀ a, A9 = some a → w.heap.size ≤ a.block) :
    PartsB K s x t ds N m u w V.heap.size (V.heap.size + 1) ((V.alloc (.cells #[.slice A8 (partD t.pods m).length c8, .int .i64 t.preempts, .int .i64 t.shifts] 42)).alloc (.cells #[.slice A9 (partD u.pods m).length c9, .int .i64 u.preempts, .int .i64 u.shifts] 42)) :=
  ⟨hP.below (below_allocK (below_allocK hM.bel _) _), (hM.bm.alloc _).alloc _, below_allocK (below_allocK hM.bel _) _, ⟨A8, c8, (Bf.new V [.slice A8 (partD t.pods m).length c8, .int .i64 t.preempts, .int .i64 t.shifts] 42 rfl).alloc _, recs_allocK (recs_allocK r8 _) _, f8⟩, ⟨A9, c9, Bf.new _ [.slice A9 (partD u.pods m).length c9, .int .i64 u.preempts, .int .i64 u.shifts] 42 (b := V.heap.size + 1) (by simp), recs_allocK (recs_allocK r9 _) _, f9⟩, hM.bm.lt, Nat.lt_succ_of_lt hM.bm.lt⟩
theorem parts_none9 (hP : Kp K s x t ds N w) (hM : MadeB K s x t ds N m u w g5 V) (r8 : Recs 8 cellsP V V.heap.size A8 (partD t.pods m)) (r9 : Recs 8 cellsP V V.heap.size A9 (partD u.pods m)) (f8 : ∀ a, A8 = some a → w.heap.size ≤ a.block) (f9 : ∀ a, A9 = some a → w.heap.size ≤ a.block) :
    PartsB K s x t ds N m u w (V.heap.size + 1) V.heap.size ((V.alloc (.cells #[.slice A9 (partD u.pods m).length c9, .int .i64 u.preempts, .int .i64 u.shifts] 42)).alloc (.cells #[.slice A8 (partD t.pods m).length c8, .int .i64 t.preempts, .int .i64 t.shifts] 42)) :=
  ⟨hP.below (below_allocK (below_allocK hM.bel _) _), (hM.bm.alloc _).alloc _, below_allocK (below_allocK hM.bel _) _, ⟨A8, c8, Bf.new _ [.slice A8 (partD t.pods m).length c8, .int .i64 t.preempts, .int .i64 t.shifts] 42 (b := V.heap.size + 1) (by simp), recs_allocK (recs_allocK r8 _) _, f8⟩, ⟨A9, c9, (Bf.new V [.slice A9 (partD u.pods m).length c9, .int .i64 u.preempts, .int .i64 u.shifts] 42 rfl).alloc _, recs_allocK (recs_allocK r9 _) _, f9⟩, Nat.lt_succ_of_lt hM.bm.lt, hM.bm.lt⟩
end
end Go.Proofs.YtpfjeoldgcepnaaGreatDoor
