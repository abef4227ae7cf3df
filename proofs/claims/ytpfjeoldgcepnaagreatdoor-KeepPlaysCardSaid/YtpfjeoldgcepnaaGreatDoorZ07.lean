/- Joined texts, part 7: UH UI UJ ZA. -/
import Derived.Test.YtpfjeoldgcepnaaGreatDoorZ06

/- What a move does: the program's come and behind of layer 5. -/
namespace Go.Proofs.YtpfjeoldgcepnaaGreatDoor
set_option linter.unusedSimpArgs false
open Go.RowKit
set_option linter.unusedVariables false

/-- A row of the call's own in block g that holds these pods. -/
structure Lst (g : Nat) (l : List PodD) (w : World) : Prop where
  lt : g < w.heap.size
  cell : ∀ i (h : i < l.length) j u, (cellsP l[i])[j]? = some u → w.cell? ⟨g, i * 8 + j, none⟩ = some u
  frozen : ∀ o, w.frozen? ⟨g, o, none⟩ = false
section
variable {g : Nat} {l : List PodD} {w w' : World}
theorem Lst.below (h : Lst g l w) (hb : Below w.heap.size w w') : Lst g l w' :=
  ⟨Nat.lt_of_lt_of_le h.lt hb.size, fun i hi j u hu => (hb.cell (p := ⟨g, i * 8 + j, none⟩) h.lt).trans (h.cell i hi j u hu), fun o => (hb.frozen (p := ⟨g, o, none⟩) h.lt).trans (h.frozen o)⟩
theorem Lst.alloc (h : Lst g l w) (o : Obj) : Lst g l (w.alloc o) := h.below ((Below.refl _ w).alloc (Nat.le_refl _) o)
theorem Lst.drew (h : Lst g l w) : Lst g l w.drew := ⟨h.lt, h.cell, h.frozen⟩
theorem Lst.other (h : Lst g l w) {p : Addr} (hp : p.block ≠ g) (v : Value) : Lst g l (w.setCell p v) :=
  ⟨by simpa using h.lt, fun i hi j u hu => by rw [World.cell?_setCell_other _ _ _ _ (by intro e; exact hp (by rw [e]))]; exact h.cell i hi j u hu, fun o => by simpa using h.frozen o⟩
theorem Lst.put (h : Lst g l w) {i j : Nat} (hi : i < l.length) (hj : j < 8) (u : Value) (p' : PodD) (hp : cellsP p' = (cellsP l[i]).set j u) : Lst g (l.set i p') (w.setCell ⟨g, i * 8 + j, none⟩ u) := by
  refine ⟨by simpa using h.lt, fun i' hi' j' u' hu => ?_, fun o => by simpa using h.frozen o⟩
  have hl' : i' < l.length := by simpa using hi'
  have hj' : j' < 8 := by have := (List.getElem?_eq_some_iff.1 hu).1; simpa [cellsP] using this
  by_cases e : i' = i
  · subst e
    rw [List.getElem_set_self, hp] at hu
    by_cases ej : j' = j
    · subst ej
      rw [List.getElem?_set_self (by simpa [cellsP] using hj)] at hu
      obtain rfl := Option.some.inj hu
      have hc : ∃ u0, (cellsP l[i'])[j']? = some u0 := ⟨_, List.getElem?_eq_getElem (by simpa [cellsP] using hj)⟩
      obtain ⟨u0, hu0⟩ := hc
      exact World.cell?_setCell_same _ _ _ (h.cell i' hl' j' u0 hu0)
    · rw [List.getElem?_set_ne (fun e => ej e.symm)] at hu
      rw [World.cell?_setCell_other _ _ _ _ (by intro e; injection e; omega)]
      exact h.cell i' hl' j' u' hu
  · rw [List.getElem_set_ne (fun e' => e e'.symm)] at hu
    rw [World.cell?_setCell_other _ _ _ _ (by intro e'; injection e'; omega)]
    exact h.cell i' hl' j' u' hu
theorem Lst.at (h : Lst g l w) {i : Nat} (hi : i < l.length) {p : PodD} (hp : l[i] = p) (j : Nat) (u : Value) (hu : (cellsP p)[j]? = some u) : w.cell? ⟨g, i * 8 + j, none⟩ = some u := h.cell i hi j u (by rw [hp]; exact hu)
theorem Lst.recs (h : Lst g l w) : Recs 8 cellsP w w.heap.size (some ⟨g, 0, none⟩) l := .inr ⟨g, 0, rfl, h.lt, fun i hi j u hu => by rw [Nat.zero_add]; exact h.cell i hi j u hu⟩
theorem Lst.fresh {A : Option Addr} {c : Nat} {w0 : World} (h : Fresh l w0 A c w) (hl : 0 < l.length) : ∃ g, A = some ⟨g, 0, none⟩ ∧ w0.heap.size ≤ g ∧ l.length ≤ c ∧ c ≤ maxLen ∧ Lst g l w := by
  have h1 := h.recs
  rcases h.2 with ⟨_, h0⟩ | ⟨g, cap, cur, hv, hb, hg, hnc, hm, _⟩
  · omega
  · injection hv with e1 _ e2
    subst e1 e2
    refine ⟨g, rfl, hb, hnc, hm, ?_, fun i hi j u hu => ?_, fun o => by simp [World.frozen?, hg]⟩
    · exact (Array.getElem?_eq_some_iff.1 hg).1
    · obtain ⟨b, o, e, _, hc⟩ := h1.at hi
      injection e with e
      injection e with e1 e2
      subst e1 e2
      simpa using hc j u hu
end
/-- A pod that comes to a node. -/
def comeD (x : List WantD) (node : Int) (p : PodD) : PodD :=
  let k := place WantD.pod p.id x 0
  let req := if k < 0 then p.req else match x[k.toNat]? with
    | some y => if y.stay then y.req else p.req
    | none => p.req
  ⟨p.id, p.load, p.prio, req, node⟩
theorem come_none {x : List WantD} {node : Int} {p : PodD} (h : place WantD.pod p.id x 0 < 0) : comeD x node p = ⟨p.id, p.load, p.prio, p.req, node⟩ := by simp [comeD, h]
theorem come_some {x : List WantD} {node : Int} {p : PodD} {i : Nat} (hi : i < x.length) (h : place WantD.pod p.id x 0 = i) : comeD x node p = ⟨p.id, p.load, p.prio, if x[i].stay then x[i].req else p.req, node⟩ := by
  have : ¬ (i : Int) < 0 := by omega
  simp [comeD, h, this, hi]
set_option maxHeartbeats 3200000 in
set_option maxRecDepth 100000 in
theorem come_any (x : List WantD) (l : List PodD) (g i : Nat) (hi : i < l.length) (node : Int) (A : Option Addr) (n c : Nat) (v1 v2 : Value) (w : World) (hn : n = x.length) (hl : n ≤ 1000) (hr : Recs 6 cellsW w g A x) (hL : Lst g l w) :
    Calls Tryz.prog 120 #[.agg #[.slice A n c, v1, v2], .pointer (some ⟨g, i * 8, none⟩), .int .i64 node] w fun e w' => e = .returned (.tuple #[]) ∧ Lst g (l.set i (comeD x node l[i])) w' ∧ Below g w w' := by
  have hgl := hL.lt
  have HR := Lib.hid hr
  have HN := Lib.hid hn
  have HL := Lib.hid hL
  clear hr hn hL
  generalize hp : l[i] = p at *
  have c7 := HL.out.at hi hp 7 _ rfl
  have z7 := HL.out.frozen (i * 8 + 7)
  have c0 := HL.out.at hi hp 0 _ rfl
  rw [Nat.add_zero] at c0
  have hgne : w.heap.size ≠ g := by omega
  have hL1 := (HL.out.put hi (j := 7) (by omega) (.int .i64 node) ⟨p.id, p.load, p.prio, p.req, node⟩ (by rw [hp]; rfl)).alloc (.cells #[.slice A n c, v1, v2] 29)
  have kW : Below g w ((w.setCell ⟨g, i * 8 + 7, none⟩ (.int .i64 node)).alloc (.cells #[.slice A n c, v1, v2] 29)) := ((Below.refl g w).setCell (Nat.le_refl _) _).alloc (by simp; omega) _
  go_enter Tryz.func120, Tryz.ntmps120
  go_wp2
  generalize hW : (w.setCell ⟨g, i * 8 + 7, none⟩ (.int .i64 node)).alloc (.cells #[.slice A n c, v1, v2] 29) = W at *
  have hWs : W.heap.size = w.heap.size + 1 := by rw [← hW]; simp
  have a0 : W.cell? ⟨w.heap.size, 0, none⟩ = some (.slice A n c) := by rw [← hW, World.cell?_alloc_at _ _ _ _ (by simp)]; simp
  have a1 : W.cell? ⟨w.heap.size, 1, none⟩ = some v1 := by rw [← hW, World.cell?_alloc_at _ _ _ _ (by simp)]; simp
  have a2 : W.cell? ⟨w.heap.size, 2, none⟩ = some v2 := by rw [← hW, World.cell?_alloc_at _ _ _ _ (by simp)]; simp
  have HL1 := Lib.hid hL1
  have hi1 : i < (l.set i ⟨p.id, p.load, p.prio, p.req, node⟩).length := by simpa using hi
  have c0' := HL1.out.at hi1 (p := ⟨p.id, p.load, p.prio, p.req, node⟩) (by simp) 0 _ rfl
  rw [Nat.add_zero] at c0'
  have hwW : w.heap.size < W.heap.size := by omega
  have hgW : g < W.heap.size := by omega
  have HWS := Lib.hid hWs
  clear hL1 hW c7 z7 c0 hWs
  have HWT0 := Lib.hid (fun (v : World) (hv : Keeps W v) => want_any x p.id A n c v1 v2 v HN.out hl ((HR.out.below (kW.trans (hv.2.mono (by have := HWS.out; omega))) (Nat.le_refl _)).more (by have := hv.2.size; have := HWS.out; omega)))
  obtain ⟨q, b, hq⟩ : ∃ (q : WantD) (b : Bool), (b = false ∧ place WantD.pod p.id x 0 < 0 ∧ q = ⟨0, ⟨0, 0, 0, 0⟩, false⟩) ∨ (b = true ∧ ∃ (j : Nat) (hj : j < x.length), place WantD.pod p.id x 0 = j ∧ q = x[j]) := by
    by_cases h : place WantD.pod p.id x 0 < 0
    · exact ⟨_, _, .inl ⟨rfl, h, rfl⟩⟩
    · have := place_ge (f := WantD.pod) (id := p.id) (l := x) (k := 0) (by omega)
      exact ⟨_, _, .inr ⟨rfl, (place WantD.pod p.id x 0).toNat, by omega, by omega, rfl⟩⟩
  have HQ := Lib.hid hq
  have HWT : Hid (∀ v : World, Keeps W v → Calls Tryz.prog 135 #[.agg #[.slice A n c, v1, v2], .int .i64 p.id] v fun e w' => e = .returned (.tuple #[aggW q, .bool b]) ∧ Below v.heap.size v w') := fun v hv =>
    (HWT0.out v hv).mono fun e w' ⟨h, hb⟩ => by
      refine ⟨?_, hb⟩
      rcases HQ.out with ⟨rfl, h0, rfl⟩ | ⟨rfl, j, hj, h0, rfl⟩
      · rcases h with ⟨_, rfl⟩ | ⟨j, hj, h1, _⟩
        · rfl
        · omega
      · rcases h with ⟨h1, _⟩ | ⟨j', hj', h1, rfl⟩
        · omega
        · have : j' = j := by omega
          subst this
          rfl
  clear HWT0 hq
  go_region_held3 (fun w' => (∀ b o, b < W.heap.size → w'.cell? ⟨b, o, none⟩ = W.cell? ⟨b, o, none⟩) ∧ Below W.heap.size W w')
    (first | (with_reducible assumption) | (show Keeps W _; with_reducible (repeat (first | exact Keeps.refl _ | refine Keeps.drew ?_ | refine Keeps.set ?_ (by simp) _ | refine Keeps.alloc ?_ _ | refine Keeps.step ?_ (by assumption)))))
    (first
      | (go_at_call 135; refine (HWT.out _ (by assumption)).mono ?_; rintro e w' ⟨rfl, hb⟩; obtain ⟨hcx, hfx⟩ := old_cells hb))
  · rename_i hK
    have q0 : (w'.alloc (.cells #[.int .i64 q.pod, .int .u64 q.req.a, .int .u64 q.req.b, .int .u64 q.req.c, .int .u64 q.req.d, .bool q.stay] 82)).cell? ⟨w'.heap.size, 0, none⟩ = some (.int .i64 q.pod) := by simp
    have q1 : (w'.alloc (.cells #[.int .i64 q.pod, .int .u64 q.req.a, .int .u64 q.req.b, .int .u64 q.req.c, .int .u64 q.req.d, .bool q.stay] 82)).cell? ⟨w'.heap.size, 1, none⟩ = some (.int .u64 q.req.a) := by simp
    have q2 : (w'.alloc (.cells #[.int .i64 q.pod, .int .u64 q.req.a, .int .u64 q.req.b, .int .u64 q.req.c, .int .u64 q.req.d, .bool q.stay] 82)).cell? ⟨w'.heap.size, 2, none⟩ = some (.int .u64 q.req.b) := by simp
    have q3 : (w'.alloc (.cells #[.int .i64 q.pod, .int .u64 q.req.a, .int .u64 q.req.b, .int .u64 q.req.c, .int .u64 q.req.d, .bool q.stay] 82)).cell? ⟨w'.heap.size, 3, none⟩ = some (.int .u64 q.req.c) := by simp
    have q4 : (w'.alloc (.cells #[.int .i64 q.pod, .int .u64 q.req.a, .int .u64 q.req.b, .int .u64 q.req.c, .int .u64 q.req.d, .bool q.stay] 82)).cell? ⟨w'.heap.size, 4, none⟩ = some (.int .u64 q.req.d) := by simp
    have q5 : (w'.alloc (.cells #[.int .i64 q.pod, .int .u64 q.req.a, .int .u64 q.req.b, .int .u64 q.req.c, .int .u64 q.req.d, .bool q.stay] 82)).cell? ⟨w'.heap.size, 5, none⟩ = some (.bool q.stay) := by simp
    have LV := HL1.out.below hK.2
    have KV := kW.trans (hK.2.mono (by have := HWS.out; omega))
    generalize hV : w'.alloc (.cells #[.int .i64 q.pod, .int .u64 q.req.a, .int .u64 q.req.b, .int .u64 q.req.c, .int .u64 q.req.d, .bool q.stay] 82) = V at *
    have HLV := Lib.hid LV
    clear hK LV hV hcx hfx hb
    generalize w'.heap.size = h at *
    rcases HQ.out with ⟨hbe, h0, he⟩ | ⟨hbe, j, hj, h0, he⟩
    · have HE := Lib.hid (come_none (x := x) (node := node) (p := p) h0)
      subst hbe
      clear he
      go_wp2
      go_end0
      exact ⟨rfl, by rw [HE.out]; exact HLV.out, KV⟩
    · have HE := Lib.hid (come_some (x := x) (node := node) (p := p) hj h0)
      rw [← he] at HE
      subst hbe
      clear he
      cases hs : q.stay with
      | false =>
        go_wp2
        go_end0
        exact ⟨rfl, by rw [HE.out, hs]; exact HLV.out, KV⟩
      | true =>
        have c3 := HLV.out.at hi1 (p := ⟨p.id, p.load, p.prio, p.req, node⟩) (by simp) 3 _ rfl
        have z3 := HLV.out.frozen (i * 8 + 3)
        have c4 := HLV.out.at hi1 (p := ⟨p.id, p.load, p.prio, p.req, node⟩) (by simp) 4 _ rfl
        have z4 := HLV.out.frozen (i * 8 + 4)
        have c5 := HLV.out.at hi1 (p := ⟨p.id, p.load, p.prio, p.req, node⟩) (by simp) 5 _ rfl
        have z5 := HLV.out.frozen (i * 8 + 5)
        have c6 := HLV.out.at hi1 (p := ⟨p.id, p.load, p.prio, p.req, node⟩) (by simp) 6 _ rfl
        have z6 := HLV.out.frozen (i * 8 + 6)
        have hz : h < V.heap.size := World.block_lt_of_cell? V _ q0
        go_wp2
        go_end0
        refine ⟨rfl, ?_, ?_⟩
        · have L3 := HLV.out.put hi1 (j := 3) (by omega) (.int .u64 q.req.a) ⟨p.id, p.load, p.prio, ⟨q.req.a, p.req.b, p.req.c, p.req.d⟩, node⟩ (by simp; rfl)
          have L4 := L3.put (i := i) (by simpa using hi) (j := 4) (by omega) (.int .u64 q.req.b) ⟨p.id, p.load, p.prio, ⟨q.req.a, q.req.b, p.req.c, p.req.d⟩, node⟩ (by simp; rfl)
          have L5 := L4.put (i := i) (by simpa using hi) (j := 5) (by omega) (.int .u64 q.req.c) ⟨p.id, p.load, p.prio, ⟨q.req.a, q.req.b, q.req.c, p.req.d⟩, node⟩ (by simp; rfl)
          have L6 := L5.put (i := i) (by simpa using hi) (j := 6) (by omega) (.int .u64 q.req.d) ⟨p.id, p.load, p.prio, ⟨q.req.a, q.req.b, q.req.c, q.req.d⟩, node⟩ (by simp; rfl)
          rw [HE.out, hs]
          simpa using L6
        · repeat (first | with_reducible exact KV | with_reducible refine Below.setCell ?_ ?_ _)
          all_goals exact Nat.le_refl _
  · rename_i hK
    have hzn : W.heap.size < w'.heap.size := by have := hb.size; simp at this; omega
    have hc0 : w'.cell? ⟨W.heap.size, 0, none⟩ = some (.int .i64 0) := (hcx _ _ (by simp)).trans (by simp)
    have hc1 : w'.cell? ⟨W.heap.size, 1, none⟩ = some (.int .u64 0) := (hcx _ _ (by simp)).trans (by simp)
    have hc2 : w'.cell? ⟨W.heap.size, 2, none⟩ = some (.int .u64 0) := (hcx _ _ (by simp)).trans (by simp)
    have hc3 : w'.cell? ⟨W.heap.size, 3, none⟩ = some (.int .u64 0) := (hcx _ _ (by simp)).trans (by simp)
    have hc4 : w'.cell? ⟨W.heap.size, 4, none⟩ = some (.int .u64 0) := (hcx _ _ (by simp)).trans (by simp)
    have hc5 : w'.cell? ⟨W.heap.size, 5, none⟩ = some (.bool false) := (hcx _ _ (by simp)).trans (by simp)
    have q0 : ((((((w'.setCell ⟨W.heap.size, 0, none⟩ (.int .i64 q.pod)).setCell ⟨W.heap.size, 1, none⟩ (.int .u64 q.req.a)).setCell ⟨W.heap.size, 2, none⟩ (.int .u64 q.req.b)).setCell ⟨W.heap.size, 3, none⟩ (.int .u64 q.req.c)).setCell ⟨W.heap.size, 4, none⟩ (.int .u64 q.req.d)).setCell ⟨W.heap.size, 5, none⟩ (.bool q.stay)).cell? ⟨W.heap.size, 0, none⟩ = some (.int .i64 q.pod) := by simp [go_sem, *]
    have q1 : ((((((w'.setCell ⟨W.heap.size, 0, none⟩ (.int .i64 q.pod)).setCell ⟨W.heap.size, 1, none⟩ (.int .u64 q.req.a)).setCell ⟨W.heap.size, 2, none⟩ (.int .u64 q.req.b)).setCell ⟨W.heap.size, 3, none⟩ (.int .u64 q.req.c)).setCell ⟨W.heap.size, 4, none⟩ (.int .u64 q.req.d)).setCell ⟨W.heap.size, 5, none⟩ (.bool q.stay)).cell? ⟨W.heap.size, 1, none⟩ = some (.int .u64 q.req.a) := by simp [go_sem, *]
    have q2 : ((((((w'.setCell ⟨W.heap.size, 0, none⟩ (.int .i64 q.pod)).setCell ⟨W.heap.size, 1, none⟩ (.int .u64 q.req.a)).setCell ⟨W.heap.size, 2, none⟩ (.int .u64 q.req.b)).setCell ⟨W.heap.size, 3, none⟩ (.int .u64 q.req.c)).setCell ⟨W.heap.size, 4, none⟩ (.int .u64 q.req.d)).setCell ⟨W.heap.size, 5, none⟩ (.bool q.stay)).cell? ⟨W.heap.size, 2, none⟩ = some (.int .u64 q.req.b) := by simp [go_sem, *]
    have q3 : ((((((w'.setCell ⟨W.heap.size, 0, none⟩ (.int .i64 q.pod)).setCell ⟨W.heap.size, 1, none⟩ (.int .u64 q.req.a)).setCell ⟨W.heap.size, 2, none⟩ (.int .u64 q.req.b)).setCell ⟨W.heap.size, 3, none⟩ (.int .u64 q.req.c)).setCell ⟨W.heap.size, 4, none⟩ (.int .u64 q.req.d)).setCell ⟨W.heap.size, 5, none⟩ (.bool q.stay)).cell? ⟨W.heap.size, 3, none⟩ = some (.int .u64 q.req.c) := by simp [go_sem, *]
    have q4 : ((((((w'.setCell ⟨W.heap.size, 0, none⟩ (.int .i64 q.pod)).setCell ⟨W.heap.size, 1, none⟩ (.int .u64 q.req.a)).setCell ⟨W.heap.size, 2, none⟩ (.int .u64 q.req.b)).setCell ⟨W.heap.size, 3, none⟩ (.int .u64 q.req.c)).setCell ⟨W.heap.size, 4, none⟩ (.int .u64 q.req.d)).setCell ⟨W.heap.size, 5, none⟩ (.bool q.stay)).cell? ⟨W.heap.size, 4, none⟩ = some (.int .u64 q.req.d) := by simp [go_sem, *]
    have q5 : ((((((w'.setCell ⟨W.heap.size, 0, none⟩ (.int .i64 q.pod)).setCell ⟨W.heap.size, 1, none⟩ (.int .u64 q.req.a)).setCell ⟨W.heap.size, 2, none⟩ (.int .u64 q.req.b)).setCell ⟨W.heap.size, 3, none⟩ (.int .u64 q.req.c)).setCell ⟨W.heap.size, 4, none⟩ (.int .u64 q.req.d)).setCell ⟨W.heap.size, 5, none⟩ (.bool q.stay)).cell? ⟨W.heap.size, 5, none⟩ = some (.bool q.stay) := by simp [go_sem, *]
    clear hc0 hc1 hc2 hc3 hc4 hc5 hzn
    have LV := HL1.out.below hK.2
    have KV := kW.trans (hK.2.mono (by have := HWS.out; omega))
    generalize hV : (((((w'.setCell ⟨W.heap.size, 0, none⟩ (.int .i64 q.pod)).setCell ⟨W.heap.size, 1, none⟩ (.int .u64 q.req.a)).setCell ⟨W.heap.size, 2, none⟩ (.int .u64 q.req.b)).setCell ⟨W.heap.size, 3, none⟩ (.int .u64 q.req.c)).setCell ⟨W.heap.size, 4, none⟩ (.int .u64 q.req.d)).setCell ⟨W.heap.size, 5, none⟩ (.bool q.stay) = V at *
    have HLV := Lib.hid LV
    clear hK LV hV hcx hfx hb
    generalize hh : W.heap.size = h at *
    clear hh
    rcases HQ.out with ⟨hbe, h0, he⟩ | ⟨hbe, j, hj, h0, he⟩
    · have HE := Lib.hid (come_none (x := x) (node := node) (p := p) h0)
      subst hbe
      clear he
      go_wp2
      go_end0
      exact ⟨rfl, by rw [HE.out]; exact HLV.out, KV⟩
    · have HE := Lib.hid (come_some (x := x) (node := node) (p := p) hj h0)
      rw [← he] at HE
      subst hbe
      clear he
      cases hs : q.stay with
      | false =>
        go_wp2
        go_end0
        exact ⟨rfl, by rw [HE.out, hs]; exact HLV.out, KV⟩
      | true =>
        have c3 := HLV.out.at hi1 (p := ⟨p.id, p.load, p.prio, p.req, node⟩) (by simp) 3 _ rfl
        have z3 := HLV.out.frozen (i * 8 + 3)
        have c4 := HLV.out.at hi1 (p := ⟨p.id, p.load, p.prio, p.req, node⟩) (by simp) 4 _ rfl
        have z4 := HLV.out.frozen (i * 8 + 4)
        have c5 := HLV.out.at hi1 (p := ⟨p.id, p.load, p.prio, p.req, node⟩) (by simp) 5 _ rfl
        have z5 := HLV.out.frozen (i * 8 + 5)
        have c6 := HLV.out.at hi1 (p := ⟨p.id, p.load, p.prio, p.req, node⟩) (by simp) 6 _ rfl
        have z6 := HLV.out.frozen (i * 8 + 6)
        have hz : h < V.heap.size := World.block_lt_of_cell? V _ q0
        go_wp2
        go_end0
        refine ⟨rfl, ?_, ?_⟩
        · have L3 := HLV.out.put hi1 (j := 3) (by omega) (.int .u64 q.req.a) ⟨p.id, p.load, p.prio, ⟨q.req.a, p.req.b, p.req.c, p.req.d⟩, node⟩ (by simp; rfl)
          have L4 := L3.put (i := i) (by simpa using hi) (j := 4) (by omega) (.int .u64 q.req.b) ⟨p.id, p.load, p.prio, ⟨q.req.a, q.req.b, p.req.c, p.req.d⟩, node⟩ (by simp; rfl)
          have L5 := L4.put (i := i) (by simpa using hi) (j := 5) (by omega) (.int .u64 q.req.c) ⟨p.id, p.load, p.prio, ⟨q.req.a, q.req.b, q.req.c, p.req.d⟩, node⟩ (by simp; rfl)
          have L6 := L5.put (i := i) (by simpa using hi) (j := 6) (by omega) (.int .u64 q.req.d) ⟨p.id, p.load, p.prio, ⟨q.req.a, q.req.b, q.req.c, q.req.d⟩, node⟩ (by simp; rfl)
          rw [HE.out, hs]
          simpa using L6
        · repeat (first | with_reducible exact KV | with_reducible refine Below.setCell ?_ ?_ _)
          all_goals exact Nat.le_refl _
end Go.Proofs.YtpfjeoldgcepnaaGreatDoor

/- What a move does: the program's behind of layer 5. -/
namespace Go.Proofs.YtpfjeoldgcepnaaGreatDoor
set_option linter.unusedSimpArgs false
open Go.RowKit
set_option linter.unusedVariables false

/-- A box of the call's own that holds these cells. -/
structure Bf (V : World) (b : Nat) (cs : List Value) : Prop where
  lt : b < V.heap.size
  cell : ∀ j u, cs[j]? = some u → V.cell? ⟨b, j, none⟩ = some u
  frozen : ∀ o, V.frozen? ⟨b, o, none⟩ = false
section
variable {V V' : World} {b B : Nat} {cs : List Value}
theorem Bf.below (h : Bf V b cs) (hb : Below B V V') (hB : b < B) : Bf V' b cs :=
  ⟨Nat.lt_of_lt_of_le h.lt hb.size, fun j u hu => (hb.cell (p := ⟨b, j, none⟩) hB).trans (h.cell j u hu), fun o => (hb.frozen (p := ⟨b, o, none⟩) hB).trans (h.frozen o)⟩
theorem Bf.new (w : World) (cs : List Value) (t : TypeId) {b : Nat} (hb : b = w.heap.size) : Bf (w.alloc (.cells cs.toArray t)) b cs := by
  subst hb
  exact ⟨by simp, fun j u hu => by simpa using hu, fun o => by simp⟩
theorem Bf.alloc (h : Bf V b cs) (o : Obj) : Bf (V.alloc o) b cs := h.below ((Below.refl _ V).alloc (Nat.le_refl _) o) h.lt
theorem Bf.other (h : Bf V b cs) {p : Addr} (hp : p.block ≠ b) (v : Value) : Bf (V.setCell p v) b cs :=
  ⟨by simpa using h.lt, fun j u hu => by rw [World.cell?_setCell_other _ _ _ _ (by intro e; exact hp (by rw [e]))]; exact h.cell j u hu, fun o => by simpa using h.frozen o⟩
theorem Bf.set (h : Bf V b cs) (i : Nat) (v : Value) : Bf (V.setCell ⟨b, i, none⟩ v) b (cs.set i v) := by
  refine ⟨by simpa using h.lt, fun j u hu => ?_, fun o => by simpa using h.frozen o⟩
  by_cases e : j = i
  · subst e
    have hj : j < cs.length := by have := (List.getElem?_eq_some_iff.1 hu).1; simpa using this
    rw [List.getElem?_set_self hj] at hu
    obtain rfl := Option.some.inj hu
    exact World.cell?_setCell_same _ _ _ (h.cell j _ (List.getElem?_eq_getElem hj))
  · rw [List.getElem?_set_ne (fun e' => e e'.symm)] at hu
    rw [World.cell?_setCell_other _ _ _ _ (by intro e'; injection e'; omega)]
    exact h.cell j u hu
end
/-- What stands while behind is at work. -/
structure Beh (A : Option Addr) (n c : Nat) (v1 v2 : Value) (g c' k : Nat) (p s : Int) (m : MoveD) (l : List PodD) (w V : World) : Prop where
  spec : Bf V w.heap.size [.slice A n c, v1, v2]
  state : Bf V (w.heap.size + 1) [.slice (some ⟨g, 0, none⟩) k c', .int .i64 p, .int .i64 s]
  move : Bf V (w.heap.size + 2) [.int .i64 m.kind, .int .i64 m.pod, .int .i64 m.node, .int .i64 m.over]
  res : Bf V (w.heap.size + 3) [.slice none 0 0, .int .i64 0, .int .i64 0]
  lst : Lst g l V
  below : Below w.heap.size w V
  hg : w.heap.size + 4 ≤ g
section
variable {A : Option Addr} {n c : Nat} {v1 v2 : Value} {g c' k : Nat} {p s : Int} {m : MoveD} {l : List PodD} {w V V' : World}
theorem Beh.keep (h : Beh A n c v1 v2 g c' k p s m l w V) (hb : Below V.heap.size V V') : Beh A n c v1 v2 g c' k p s m l w V' :=
  ⟨h.spec.below hb h.spec.lt, h.state.below hb h.state.lt, h.move.below hb h.move.lt, h.res.below hb h.res.lt, h.lst.below hb, h.below.trans (hb.mono h.below.size), h.hg⟩
theorem Beh.turn {l' : List PodD} (h : Beh A n c v1 v2 g c' k p s m l w V) (hb : Below g V V') (hl : Lst g l' V') : Beh A n c v1 v2 g c' k p s m l' w V' := by
  have hg := h.hg
  exact ⟨h.spec.below hb (by omega), h.state.below hb (by omega), h.move.below hb (by omega), h.res.below hb (by omega), hl, h.below.trans (hb.mono (by omega)), h.hg⟩
theorem Beh.shift (h : Beh A n c v1 v2 g c' k p s m l w V) (s' : Int) : Beh A n c v1 v2 g c' k p s' m l w (V.setCell ⟨w.heap.size + 1, 2, none⟩ (.int .i64 s')) := by
  have hg := h.hg
  exact ⟨h.spec.other (by simp) _, h.state.set 2 _, h.move.other (by simp) _, h.res.other (by simp) _, h.lst.other (by show w.heap.size + 1 ≠ g; omega) _, h.below.setCell (by simp) _, h.hg⟩
theorem Beh.pre (h : Beh A n c v1 v2 g c' k p s m l w V) (p' : Int) : Beh A n c v1 v2 g c' k p' s m l w (V.setCell ⟨w.heap.size + 1, 1, none⟩ (.int .i64 p')) := by
  have hg := h.hg
  exact ⟨h.spec.other (by simp) _, h.state.set 1 _, h.move.other (by simp) _, h.res.other (by simp) _, h.lst.other (by show w.heap.size + 1 ≠ g; omega) _, h.below.setCell (by simp) _, h.hg⟩
theorem Beh.facts (h : Beh A n c v1 v2 g c' k p s m l w V) :
    (V.cell? ⟨w.heap.size, 0, none⟩ = some (.slice A n c) ∧ V.cell? ⟨w.heap.size, 1, none⟩ = some v1 ∧ V.cell? ⟨w.heap.size, 2, none⟩ = some v2) ∧
    (V.cell? ⟨w.heap.size + 1, 0, none⟩ = some (.slice (some ⟨g, 0, none⟩) k c') ∧ V.cell? ⟨w.heap.size + 1, 1, none⟩ = some (.int .i64 p) ∧ V.cell? ⟨w.heap.size + 1, 2, none⟩ = some (.int .i64 s)) ∧
    (V.cell? ⟨w.heap.size + 2, 0, none⟩ = some (.int .i64 m.kind) ∧ V.cell? ⟨w.heap.size + 2, 1, none⟩ = some (.int .i64 m.pod) ∧ V.cell? ⟨w.heap.size + 2, 2, none⟩ = some (.int .i64 m.node) ∧ V.cell? ⟨w.heap.size + 2, 3, none⟩ = some (.int .i64 m.over)) ∧
    w.heap.size < V.heap.size ∧ w.heap.size + 1 < V.heap.size ∧ w.heap.size + 2 < V.heap.size ∧ w.heap.size + 3 < V.heap.size ∧ g < V.heap.size :=
  ⟨⟨h.spec.cell 0 _ rfl, h.spec.cell 1 _ rfl, h.spec.cell 2 _ rfl⟩, ⟨h.state.cell 0 _ rfl, h.state.cell 1 _ rfl, h.state.cell 2 _ rfl⟩, ⟨h.move.cell 0 _ rfl, h.move.cell 1 _ rfl, h.move.cell 2 _ rfl, h.move.cell 3 _ rfl⟩, h.spec.lt, h.state.lt, h.move.lt, h.res.lt, h.lst.lt⟩
theorem Beh.facts2 (h : Beh A n c v1 v2 g c' k p s m l w V) :
    (V.cell? ⟨w.heap.size + 3, 0, none⟩ = some (.slice none 0 0) ∧ V.cell? ⟨w.heap.size + 3, 1, none⟩ = some (.int .i64 0) ∧ V.cell? ⟨w.heap.size + 3, 2, none⟩ = some (.int .i64 0)) ∧
    (V.frozen? ⟨w.heap.size + 3, 0, none⟩ = false ∧ V.frozen? ⟨w.heap.size + 3, 1, none⟩ = false ∧ V.frozen? ⟨w.heap.size + 3, 2, none⟩ = false) ∧
    (V.frozen? ⟨w.heap.size + 1, 1, none⟩ = false ∧ V.frozen? ⟨w.heap.size + 1, 2, none⟩ = false) :=
  ⟨⟨h.res.cell 0 _ rfl, h.res.cell 1 _ rfl, h.res.cell 2 _ rfl⟩, ⟨h.res.frozen 0, h.res.frozen 1, h.res.frozen 2⟩, h.state.frozen 1, h.state.frozen 2⟩
end
theorem place_eq {id : Int} : ∀ {l : List PodD} {k : Int} {i : Nat} (hi : i < l.length), place PodD.id id l k = k + i → 0 ≤ k → l[i].id = id
  | [], _, _, hi, _, _ => by simp at hi
  | x :: r, k, i, hi, h, hk => by
    by_cases hx : x.id = id
    · simp only [place, if_pos hx] at h
      obtain rfl : i = 0 := by omega
      exact hx
    · simp only [place, if_neg hx] at h
      cases i with
      | zero =>
        have h3 : place PodD.id id r (k + 1) < 0 ∨ k + 1 ≤ place PodD.id id r (k + 1) := place_or r (k + 1) (by omega)
        omega
      | succ i =>
        simp only [List.getElem_cons_succ]
        exact place_eq (k := k + 1) (by simpa using hi) (by rw [h]; omega) (by omega)
theorem place_is {l : List PodD} {id : Int} {i : Nat} (hi : i < l.length) (h : place PodD.id id l 0 = i) : l[i].id = id := by
  have := place_eq (l := l) (id := id) (k := 0) hi (by omega) (by omega)
  exact this
/-- A pod that goes. -/
def goD (p : PodD) : PodD := ⟨p.id, p.load, p.prio, p.req, 0⟩
def idxD (id : Int) (l : List PodD) : Nat := (place PodD.id id l 0).toNat
def behindD (x : List WantD) (t : StateD) (m : MoveD) : StateD :=
  if m.kind = 2 then ⟨t.pods.set (idxD m.pod t.pods) (goD (podZ m.pod t.pods)), t.preempts, t.shifts⟩
  else if m.kind = 3 then ⟨t.pods.set (idxD m.pod t.pods) (comeD x m.node (podZ m.pod t.pods)), t.preempts, wrap64 (t.shifts + 1)⟩
  else if m.kind = 4 then ⟨(t.pods.set (idxD m.over t.pods) (goD (podZ m.over t.pods))).set (idxD m.pod t.pods) (comeD x m.node (podZ m.pod t.pods)), wrap64 (t.preempts + 1), t.shifts⟩
  else ⟨t.pods.set (idxD m.pod t.pods) (comeD x m.node (podZ m.pod t.pods)), t.preempts, t.shifts⟩
/-- A state that is told: its pods in new memory. -/
def StateTo (u : StateD) (w : World) (v : Value) (w' : World) : Prop := ∃ A c, v = stateV A u.pods.length c u.preempts u.shifts ∧ Out 8 cellsP w' u.pods A c ∧ (∀ a, A = some a → w.heap.size ≤ a.block) ∧ Below w.heap.size w w'
theorem Beh.done {A : Option Addr} {n c : Nat} {v1 v2 : Value} {g c' k : Nat} {p s : Int} {m : MoveD} {l : List PodD} {w V : World} (h : Beh A n c v1 v2 g c' k p s m l w V) (hk : k = l.length) (hc : k ≤ c') (hm : c' ≤ maxLen) {x y z : Value} :
    StateTo ⟨l, p, s⟩ w (stateV (some ⟨g, 0, none⟩) k c' p s) (((V.setCell ⟨w.heap.size + 3, 0, none⟩ x).setCell ⟨w.heap.size + 3, 1, none⟩ y).setCell ⟨w.heap.size + 3, 2, none⟩ z) := by
  subst hk
  have hg := h.hg
  have hl := (((h.lst.other (p := ⟨w.heap.size + 3, 0, none⟩) (by show w.heap.size + 3 ≠ g; omega) x).other (p := ⟨w.heap.size + 3, 1, none⟩) (by show w.heap.size + 3 ≠ g; omega) y).other (p := ⟨w.heap.size + 3, 2, none⟩) (by show w.heap.size + 3 ≠ g; omega) z)
  exact ⟨_, _, rfl, ⟨hc, hm, (by intro e; cases e), hl.recs⟩, (by intro a e; injection e with e; subst e; show w.heap.size ≤ g; omega), ((h.below.setCell (by simp) _).setCell (by simp) _).setCell (by simp) _⟩
set_option maxHeartbeats 6400000 in
set_option maxRecDepth 100000 in
theorem behind_any (x : List WantD) (t : StateD) (m : MoveD) (hk1 : m.kind = 1 ∨ m.kind = 2 ∨ m.kind = 3 ∨ m.kind = 4) (hpod : ¬ place PodD.id m.pod t.pods 0 < 0) (hover : m.kind = 4 → ¬ place PodD.id m.over t.pods 0 < 0 ∧ m.over ≠ m.pod)
    (A A2 : Option Addr) (n c n2 c2 : Nat) (v1 v2 : Value) (w : World) (hn : n = x.length) (hl : n ≤ 1000) (hr : Recs 6 cellsW w w.heap.size A x) (hn2 : n2 = t.pods.length) (hl2 : n2 ≤ 1000) (h02 : A2 = none → c2 = 0) (hr2 : Recs 8 cellsP w w.heap.size A2 t.pods) :
    Calls Tryz.prog 85 #[.agg #[.slice A n c, v1, v2], stateV A2 n2 c2 t.preempts t.shifts, aggM m] w fun e w' => ∃ v, e = .returned v ∧ StateTo (behindD x t m) w v w' := by
  obtain ⟨i, hi, hpi⟩ := place_hit hpod
  obtain ⟨l, p, s⟩ := t
  have HR := Lib.hid hr
  have HN := Lib.hid hn
  have HO := Lib.hid hover
  have b00 := below_four w (.cells #[.slice A n c, v1, v2] 29) (.cells #[.slice A2 n2 c2, .int .i64 p, .int .i64 s] 42) (.cells #[.int .i64 m.kind, .int .i64 m.pod, .int .i64 m.node, .int .i64 m.over] 48) (.cells #[.slice none 0 0, .int .i64 0, .int .i64 0] 42)
  have HC := Lib.hid (clone_any l A2 n2 c2 _ hn2 hl2 h02 ((hr2.below b00 (Nat.le_refl _)).more b00.size))
  have HN2 := Lib.hid hn2
  clear hr hn hover hr2 hn2 h02 hpod
  go_enter Tryz.func85, Tryz.ntmps85
  go_wp2_with fail
  refine HC.out.mono ?_
  rintro e w1 ⟨A3, c3, rfl, hfr, hb1⟩
  obtain ⟨g, rfl, hg, hc3, hm3, hL⟩ := Lst.fresh hfr (by omega)
  have hlen : l.length = n2 := HN2.out.symm
  rw [hlen] at hc3
  have s0 := ((((Bf.new w [.slice A n c, v1, v2] 29 rfl).alloc (.cells #[.slice A2 n2 c2, .int .i64 p, .int .i64 s] 42)).alloc (.cells #[.int .i64 m.kind, .int .i64 m.pod, .int .i64 m.node, .int .i64 m.over] 48)).alloc (.cells #[.slice none 0 0, .int .i64 0, .int .i64 0] 42)).below hb1 (by first | (simp; done) | (simp; omega))
  have s1 := (((Bf.new (w.alloc (.cells #[.slice A n c, v1, v2] 29)) [.slice A2 n2 c2, .int .i64 p, .int .i64 s] 42 (b := w.heap.size + 1) (by simp)).alloc (.cells #[.int .i64 m.kind, .int .i64 m.pod, .int .i64 m.node, .int .i64 m.over] 48)).alloc (.cells #[.slice none 0 0, .int .i64 0, .int .i64 0] 42)).below hb1 (by first | (simp; done) | (simp; omega))
  have s2 := ((Bf.new ((w.alloc (.cells #[.slice A n c, v1, v2] 29)).alloc (.cells #[.slice A2 n2 c2, .int .i64 p, .int .i64 s] 42)) [.int .i64 m.kind, .int .i64 m.pod, .int .i64 m.node, .int .i64 m.over] 48 (b := w.heap.size + 2) (by simp)).alloc (.cells #[.slice none 0 0, .int .i64 0, .int .i64 0] 42)).below hb1 (by first | (simp; done) | (simp; omega))
  have s3 := (Bf.new (((w.alloc (.cells #[.slice A n c, v1, v2] 29)).alloc (.cells #[.slice A2 n2 c2, .int .i64 p, .int .i64 s] 42)).alloc (.cells #[.int .i64 m.kind, .int .i64 m.pod, .int .i64 m.node, .int .i64 m.over] 48)) [.slice none 0 0, .int .i64 0, .int .i64 0] 42 (b := w.heap.size + 3) (by simp)).below hb1 (by first | (simp; done) | (simp; omega))
  have hg4 : w.heap.size + 4 ≤ g := by simpa using hg
  have B1 : Beh A n c v1 v2 g c3 n2 p s m l w (w1.setCell ⟨w.heap.size + 1, 0, none⟩ (.slice (some ⟨g, 0, none⟩) n2 c3)) :=
    ⟨s0.other (by simp) _, s1.set 0 _, s2.other (by simp) _, s3.other (by simp) _, hL.other (by show w.heap.size + 1 ≠ g; omega) _, (b00.trans (hb1.mono b00.size)).setCell (by simp) _, hg4⟩
  have fc := s1.cell 0 _ rfl
  have fz := s1.frozen 0
  have S1 := Lib.hid hlen
  clear s0 s1 s2 s3 hg hL hfr hb1 HC b00 hlen
  go_wp2
  generalize hW : w1.setCell ⟨w.heap.size + 1, 0, none⟩ (.slice (some ⟨g, 0, none⟩) n2 c3) = W at *
  clear hW fc fz
  have HB1 := Lib.hid B1
  obtain ⟨⟨a0, a1, a2⟩, ⟨a3, a4, a5⟩, ⟨a6, a7, a8, a9⟩, hz0, hz1, hz2, hz3, hzg⟩ := B1.facts
  have HPP : Hid (∀ (id : Int) (v : World), Keeps W v → Calls Tryz.prog 118 #[stateV (some ⟨g, 0, none⟩) n2 c3 p s, .int .i64 id] v fun e w' => e = .returned (.int .i64 (place PodD.id id l 0)) ∧ Below v.heap.size v w') :=
    fun id v hv => place_any l id (some ⟨g, 0, none⟩) n2 c3 (.int .i64 p) (.int .i64 s) v HN2.out hl2 (HB1.out.keep hv.2).lst.recs
  have HP1 : Hid (∀ (v : World), Keeps W v → Calls Tryz.prog 118 #[stateV (some ⟨g, 0, none⟩) n2 c3 p s, .int .i64 m.pod] v fun e w' => e = .returned (.int .i64 (i : Int)) ∧ Below v.heap.size v w') := by
    have := HPP.out m.pod
    rw [hpi] at this
    exact this
  have hin : i < n2 := by have := S1.out; omega
  have hi0 : (0 : Int) ≤ (i : Int) := by omega
  have hi1 : (i : Int) < (n2 : Int) := by omega
  have HPI := Lib.hid hpi
  clear hpi B1 HPP
  go_region_held3 (fun w' => (∀ b o, b < W.heap.size → w'.cell? ⟨b, o, none⟩ = W.cell? ⟨b, o, none⟩) ∧ Below W.heap.size W w')
    (first | (with_reducible assumption) | (show Keeps W _; with_reducible (repeat (first | exact Keeps.refl _ | refine Keeps.drew ?_ | refine Keeps.set ?_ (by simp) _ | refine Keeps.alloc ?_ _ | refine Keeps.step ?_ (by assumption)))))
    (first
      | (go_at_call 118; refine (HP1.out _ (by assumption)).mono ?_; rintro e w' ⟨rfl, hb⟩))
  rename_i hK
  have B2 := HB1.out.keep hK.2
  have HB2 := Lib.hid B2
  clear hK hb HP1 a0 a1 a2 a3 a4 a5 a6 a7 a8 a9 hz0 hz1 hz2 hz3 hzg HB1
  generalize hV : w' = V at *
  clear hV
  obtain ⟨⟨a0, a1, a2⟩, ⟨a3, a4, a5⟩, ⟨a6, a7, a8, a9⟩, hz0, hz1, hz2, hz3, hzg⟩ := B2.facts
  obtain ⟨⟨r0, r1, r2⟩, ⟨z0, z1, z2⟩, z3, z4⟩ := B2.facts2
  have hgn1 : g ≠ w.heap.size + 1 := by omega
  have hgn2 : g ≠ w.heap.size + 2 := by omega
  have hgn3 : g ≠ w.heap.size + 3 := by omega
  have hgn0 : g ≠ w.heap.size := by omega
  have hon1 : w.heap.size + 1 ≠ g := by omega
  have hon2 : w.heap.size + 2 ≠ g := by omega
  have hon3 : w.heap.size + 3 ≠ g := by omega
  have HIX : Hid (idxD m.pod l = i) := by show _ = _; rw [idxD, HPI.out]; rfl
  have HPZ := Lib.hid (podZ_some hi HPI.out)
  have HLEN : Hid (n2 ≤ c3 ∧ c3 ≤ maxLen) := ⟨hc3, hm3⟩
  clear hc3 hm3
  have HCM := Lib.hid (fun (l' : List PodD) (i' : Nat) (hi' : i' < l'.length) (p' s' : Int) (v : World) (hB : Beh A n c v1 v2 g c3 n2 p' s' m l' w v) => come_any x l' g i' hi' m.node A n c v1 v2 v HN.out hl ((HR.out.below hB.below (Nat.le_refl _)).more (by have := hB.hg; omega)) hB.lst)
  by_cases h2 : m.kind = 2
  · have HE := Lib.hid (show behindD x ⟨l, p, s⟩ m = ⟨l.set i (goD l[i]), p, s⟩ by simp only [behindD, if_pos h2, HIX.out, HPZ.out])
    have d2 : (m.kind == 2) = true := by simp [h2]
    have c7 := HB2.out.lst.at hi rfl 7 _ rfl
    have zz7 := HB2.out.lst.frozen (i * 8 + 7)
    clear h2
    go_wp2
    refine bodyPost_ret (v := stateV (some ⟨g, 0, none⟩) n2 c3 p s) ?_ rfl ⟨_, rfl, ?_⟩
    · simp [results, Tryz.results85, go_sem, *]
    · rw [HE.out]
      exact (HB2.out.turn ((Below.refl g V).setCell (Nat.le_refl _) _) (HB2.out.lst.put hi (j := 7) (by omega) (.int .i64 0) (goD l[i]) rfl)).done (by simpa using S1.out.symm) HLEN.out.1 HLEN.out.2
  have d2 : (m.kind == 2) = false := by simp [h2]
  by_cases h3 : m.kind = 3
  · have HE := Lib.hid (show behindD x ⟨l, p, s⟩ m = ⟨l.set i (comeD x m.node l[i]), p, wrap64 (s + 1)⟩ by simp only [behindD, if_neg h2, if_pos h3, HIX.out, HPZ.out])
    have d3 : (m.kind == 3) = true := by simp [h3]
    have B3 := HB2.out.shift (wrap64 (s + 1))
    clear h2 h3
    go_wp2_with fail
    refine (HCM.out l i hi _ _ _ B3).mono ?_
    rintro e w5 ⟨rfl, hL5, hb5⟩
    have B5 := B3.turn hb5 hL5
    have HB5 := Lib.hid B5
    clear r0 r1 r2 z0 z1 z2 z3 z4 a0 a1 a2 a3 a4 a5 a6 a7 a8 a9 B3 B2 hL5 hb5
    obtain ⟨⟨a0, a1, a2⟩, ⟨a3, a4, a5⟩, ⟨a6, a7, a8, a9⟩, _⟩ := B5.facts
    obtain ⟨⟨r0, r1, r2⟩, ⟨z0, z1, z2⟩, z3, z4⟩ := B5.facts2
    go_wp2
    refine bodyPost_ret (v := stateV (some ⟨g, 0, none⟩) n2 c3 p (wrap64 (s + 1))) ?_ rfl ⟨_, rfl, ?_⟩
    · simp [results, Tryz.results85, go_sem, *]
    · rw [HE.out]
      exact HB5.out.done (by simpa using S1.out.symm) HLEN.out.1 HLEN.out.2
  have d3 : (m.kind == 3) = false := by simp [h3]
  by_cases h4 : m.kind = 4
  · obtain ⟨hov, hne⟩ := HO.out h4
    obtain ⟨k, hk, hpk⟩ := place_hit (l := l) (id := m.over) (by omega)
    have HPK := Lib.hid (podZ_some hk hpk)
    have HIK : Hid (idxD m.over l = k) := by show _ = _; rw [idxD, hpk]; rfl
    have HNE : Hid (k ≠ i) := by
      show k ≠ i
      intro e
      subst e
      have e1 := place_is hk hpk
      have e2 := place_is hk HPI.out
      exact hne (e1.symm.trans e2)
    have HE := Lib.hid (show behindD x ⟨l, p, s⟩ m = ⟨(l.set k (goD l[k])).set i (comeD x m.node l[i]), wrap64 (p + 1), s⟩ by simp only [behindD, if_neg h2, if_neg h3, if_pos h4, HIX.out, HPZ.out, HIK.out, HPK.out])
    have d4 : (m.kind == 4) = true := by simp [h4]
    have B3 := HB2.out.pre (wrap64 (p + 1))
    clear h2 h3 h4 hov hne
    go_wp2
    generalize hW : V.setCell ⟨w.heap.size + 1, 1, none⟩ (.int .i64 (wrap64 (p + 1))) = U at *
    clear hW r0 r1 r2 z0 z1 z2 z3 z4 a0 a1 a2 a3 a4 a5 a6 a7 a8 a9 B2 hz0 hz1 hz2 hz3 hzg
    obtain ⟨⟨a0, a1, a2⟩, ⟨a3, a4, a5⟩, ⟨a6, a7, a8, a9⟩, hz0, hz1, hz2, hz3, hzg⟩ := B3.facts
    have HB3 := Lib.hid B3
    have c7 := B3.lst.at hk rfl 7 _ rfl
    have zz7 := B3.lst.frozen (k * 8 + 7)
    have hk0 : (0 : Int) ≤ (k : Int) := by omega
    have hk1 : (k : Int) < (n2 : Int) := by have := S1.out; omega
    have HPO : Hid (∀ (v : World), Keeps U v → Calls Tryz.prog 118 #[stateV (some ⟨g, 0, none⟩) n2 c3 (wrap64 (p + 1)) s, .int .i64 m.over] v fun e w' => e = .returned (.int .i64 (k : Int)) ∧ Below v.heap.size v w') := by
      have := fun (v : World) (hv : Keeps U v) => place_any l m.over (some ⟨g, 0, none⟩) n2 c3 (.int .i64 (wrap64 (p + 1))) (.int .i64 s) v HN2.out hl2 (HB3.out.keep hv.2).lst.recs
      rw [hpk] at this
      exact this
    have HBK := Lib.hid (fun (v : World) (hb : Below U.drew.heap.size U.drew v) => let B4 := HB3.out.keep (V' := v) ⟨hb.os, hb.tape, hb.output, hb.size, hb.block⟩; And.intro B4.facts (And.intro (B4.lst.at hk rfl 7 _ rfl) (B4.lst.frozen (k * 8 + 7))))
    clear hpk B3
    go_region_with (go_at_call 118; refine (HPO.out _ (Keeps.drew (Keeps.refl _))).mono ?_; rintro e w' ⟨rfl, hb⟩; obtain ⟨⟨⟨f0, f1, f2⟩, ⟨f3, f4, f5⟩, ⟨f6, f7, f8, f9⟩, y0, y1, y2, y3, y4⟩, q7, qq7⟩ := HBK.out w' hb)
    all_goals
      have B4 := HB3.out.keep (V' := w') ⟨hb.os, hb.tape, hb.output, hb.size, hb.block⟩
      have B5 := B4.turn ((Below.refl g w').setCell (p := ⟨g, k * 8 + 7, none⟩) (Nat.le_refl _) (.int .i64 0)) (B4.lst.put hk (j := 7) (by omega) (.int .i64 0) (goD l[k]) rfl)
      clear f0 f1 f2 f3 f4 f5 f6 f7 f8 f9 y0 y1 y2 y3 y4 q7 qq7 hb B4 a0 a1 a2 a3 a4 a5 a6 a7 a8 a9 c7 zz7 hz0 hz1 hz2 hz3 hzg
      generalize w'.setCell ⟨g, k * 8 + 7, none⟩ (.int .i64 0) = Y at *
      obtain ⟨⟨a0, a1, a2⟩, ⟨a3, a4, a5⟩, ⟨a6, a7, a8, a9⟩, hz0, hz1, hz2, hz3, hzg⟩ := B5.facts
      have HB5 := Lib.hid B5
      clear B5
      go_wp2_with fail
      refine (HCM.out (l.set k (goD l[k])) i (by simpa using hi) _ _ _ HB5.out).mono ?_
      rintro e w5 ⟨rfl, hL5, hb5⟩
      have B6 := HB5.out.turn hb5 hL5
      rw [List.getElem_set_ne HNE.out] at B6
      have HB6 := Lib.hid B6
      clear a0 a1 a2 a3 a4 a5 a6 a7 a8 a9 hz0 hz1 hz2 hz3 hzg hL5 hb5
      obtain ⟨⟨a0, a1, a2⟩, ⟨a3, a4, a5⟩, ⟨a6, a7, a8, a9⟩, _⟩ := B6.facts
      obtain ⟨⟨r0, r1, r2⟩, ⟨z0, z1, z2⟩, z3, z4⟩ := B6.facts2
      clear B6
      go_wp2
      refine bodyPost_ret (v := stateV (some ⟨g, 0, none⟩) n2 c3 (wrap64 (p + 1)) s) ?_ rfl ⟨_, rfl, ?_⟩
      · simp [results, Tryz.results85, go_sem, *]
      · rw [HE.out]
        exact HB6.out.done (by simpa using S1.out.symm) HLEN.out.1 HLEN.out.2
  have d4 : (m.kind == 4) = false := by simp [h4]
  have d1 : (m.kind == 1) = true := by rcases hk1 with h | h | h | h <;> simp_all
  have HE := Lib.hid (show behindD x ⟨l, p, s⟩ m = ⟨l.set i (comeD x m.node l[i]), p, s⟩ by simp only [behindD, if_neg h2, if_neg h3, if_neg h4, HIX.out, HPZ.out])
  clear h2 h3 h4 hk1
  go_wp2_with fail
  refine (HCM.out l i hi _ _ _ HB2.out).mono ?_
  rintro e w5 ⟨rfl, hL5, hb5⟩
  have B5 := HB2.out.turn hb5 hL5
  have HB5 := Lib.hid B5
  clear r0 r1 r2 z0 z1 z2 z3 z4 a0 a1 a2 a3 a4 a5 a6 a7 a8 a9 B2 hL5 hb5
  obtain ⟨⟨a0, a1, a2⟩, ⟨a3, a4, a5⟩, ⟨a6, a7, a8, a9⟩, _⟩ := B5.facts
  obtain ⟨⟨r0, r1, r2⟩, ⟨z0, z1, z2⟩, z3, z4⟩ := B5.facts2
  go_wp2
  refine bodyPost_ret (v := stateV (some ⟨g, 0, none⟩) n2 c3 p s) ?_ rfl ⟨_, rfl, ?_⟩
  · simp [results, Tryz.results85, go_sem, *]
  · rw [HE.out]
    exact HB5.out.done (by simpa using S1.out.symm) HLEN.out.1 HLEN.out.2
end Go.Proofs.YtpfjeoldgcepnaaGreatDoor

/- What a move comes to: the program's Make of layer 5. -/
namespace Go.Proofs.YtpfjeoldgcepnaaGreatDoor
set_option linter.unusedSimpArgs false
open Go.RowKit
set_option linter.unusedVariables false

/-- What a move comes to: the state, and an error's number. -/
def noState : StateD := ⟨[], 0, 0⟩
def makeD (nodes : List NodeD) (x : List WantD) (t : StateD) (m : MoveD) : StateD × Int :=
  if wellD m = false then (noState, 1) else if hereD nodes t.pods m = false then (noState, 4) else if canD t.pods m = false then (noState, 7) else (behindD x t m, 0)
def codeV (c : Int) : Value := if c = 0 then .nilIface else .iface 98 (.int .i64 c)
theorem well_kinds {m : MoveD} (h : wellD m = true) : m.kind = 1 ∨ m.kind = 2 ∨ m.kind = 3 ∨ m.kind = 4 := by
  unfold wellD at h
  split at h
  · omega
  · split at h
    · omega
    · have : m.kind = 4 := by simpa using h
      omega
theorem here_pod {nodes : List NodeD} {l : List PodD} {m : MoveD} (h : hereD nodes l m = true) : ¬ place PodD.id m.pod l 0 < 0 := by
  intro e
  simp [hereD, e] at h
theorem here_over {nodes : List NodeD} {l : List PodD} {m : MoveD} (h : hereD nodes l m = true) (hc : canD l m = true) : m.kind = 4 → ¬ place PodD.id m.over l 0 < 0 ∧ m.over ≠ m.pod := by
  intro h4
  constructor
  · intro e
    simp [hereD, e, h4] at h
  · intro e
    simp [canD, h4, e] at hc
/-- What stands while Make is at work. -/
structure Mk (snap spec state move : List Value) (w V : World) : Prop where
  snap : Bf V w.heap.size snap
  spec : Bf V (w.heap.size + 1) spec
  state : Bf V (w.heap.size + 2) state
  move : Bf V (w.heap.size + 3) move
  res : Bf V (w.heap.size + 4) [.slice none 0 0, .int .i64 0, .int .i64 0]
  below : Below w.heap.size w V
section
variable {a b c d : List Value} {w V V' : World}
theorem Mk.keep (h : Mk a b c d w V) (hb : Below V.heap.size V V') : Mk a b c d w V' :=
  ⟨h.snap.below hb h.snap.lt, h.spec.below hb h.spec.lt, h.state.below hb h.state.lt, h.move.below hb h.move.lt, h.res.below hb h.res.lt, h.below.trans (hb.mono h.below.size)⟩
theorem Mk.new (w : World) (a b c d : List Value) (t1 t2 t3 t4 t5 : TypeId) : Mk a b c d w (((((w.alloc (.cells a.toArray t1)).alloc (.cells b.toArray t2)).alloc (.cells c.toArray t3)).alloc (.cells d.toArray t4)).alloc (.cells #[.slice none 0 0, .int .i64 0, .int .i64 0] t5)) :=
  ⟨((((Bf.new w a t1 rfl).alloc _).alloc _).alloc _).alloc _, (((Bf.new (w.alloc (.cells a.toArray t1)) b t2 (b := w.heap.size + 1) (by simp)).alloc _).alloc _).alloc _,
    ((Bf.new ((w.alloc (.cells a.toArray t1)).alloc (.cells b.toArray t2)) c t3 (b := w.heap.size + 2) (by simp)).alloc _).alloc _, (Bf.new (((w.alloc (.cells a.toArray t1)).alloc (.cells b.toArray t2)).alloc (.cells c.toArray t3)) d t4 (b := w.heap.size + 3) (by simp)).alloc _,
    Bf.new ((((w.alloc (.cells a.toArray t1)).alloc (.cells b.toArray t2)).alloc (.cells c.toArray t3)).alloc (.cells d.toArray t4)) [.slice none 0 0, .int .i64 0, .int .i64 0] t5 (b := w.heap.size + 4) (by simp),
    (below_four w _ _ _ _).alloc (by simp; omega) _⟩
theorem Mk.facts {a0 a1 a2 b0 b1 b2 c0 c1 c2 d0 d1 d2 d3 : Value} (h : Mk [a0, a1, a2] [b0, b1, b2] [c0, c1, c2] [d0, d1, d2, d3] w V) :
    (V.cell? ⟨w.heap.size, 0, none⟩ = some a0 ∧ V.cell? ⟨w.heap.size, 1, none⟩ = some a1 ∧ V.cell? ⟨w.heap.size, 2, none⟩ = some a2) ∧
    (V.cell? ⟨w.heap.size + 1, 0, none⟩ = some b0 ∧ V.cell? ⟨w.heap.size + 1, 1, none⟩ = some b1 ∧ V.cell? ⟨w.heap.size + 1, 2, none⟩ = some b2) ∧
    (V.cell? ⟨w.heap.size + 2, 0, none⟩ = some c0 ∧ V.cell? ⟨w.heap.size + 2, 1, none⟩ = some c1 ∧ V.cell? ⟨w.heap.size + 2, 2, none⟩ = some c2) ∧
    (V.cell? ⟨w.heap.size + 3, 0, none⟩ = some d0 ∧ V.cell? ⟨w.heap.size + 3, 1, none⟩ = some d1 ∧ V.cell? ⟨w.heap.size + 3, 2, none⟩ = some d2 ∧ V.cell? ⟨w.heap.size + 3, 3, none⟩ = some d3) :=
  ⟨⟨h.snap.cell 0 _ rfl, h.snap.cell 1 _ rfl, h.snap.cell 2 _ rfl⟩, ⟨h.spec.cell 0 _ rfl, h.spec.cell 1 _ rfl, h.spec.cell 2 _ rfl⟩, ⟨h.state.cell 0 _ rfl, h.state.cell 1 _ rfl, h.state.cell 2 _ rfl⟩, ⟨h.move.cell 0 _ rfl, h.move.cell 1 _ rfl, h.move.cell 2 _ rfl, h.move.cell 3 _ rfl⟩⟩
theorem Mk.facts2 (h : Mk a b c d w V) :
    (V.cell? ⟨w.heap.size + 4, 0, none⟩ = some (.slice none 0 0) ∧ V.cell? ⟨w.heap.size + 4, 1, none⟩ = some (.int .i64 0) ∧ V.cell? ⟨w.heap.size + 4, 2, none⟩ = some (.int .i64 0)) ∧
    (V.frozen? ⟨w.heap.size + 4, 0, none⟩ = false ∧ V.frozen? ⟨w.heap.size + 4, 1, none⟩ = false ∧ V.frozen? ⟨w.heap.size + 4, 2, none⟩ = false) ∧ w.heap.size + 4 < V.heap.size :=
  ⟨⟨h.res.cell 0 _ rfl, h.res.cell 1 _ rfl, h.res.cell 2 _ rfl⟩, ⟨h.res.frozen 0, h.res.frozen 1, h.res.frozen 2⟩, h.res.lt⟩
theorem Mk.no (h : Mk a b c d w V) {x y z : Value} : StateTo noState w (stateV none 0 0 0 0) (((V.setCell ⟨w.heap.size + 4, 0, none⟩ x).setCell ⟨w.heap.size + 4, 1, none⟩ y).setCell ⟨w.heap.size + 4, 2, none⟩ z) :=
  ⟨none, 0, rfl, Out.nil rfl, (by intro a e; cases e), ((h.below.setCell (by simp) _).setCell (by simp) _).setCell (by simp) _⟩
end
theorem Out.set {l : List PodD} {w : World} {A : Option Addr} {c : Nat} (h : Out 8 cellsP w l A c) {p : Addr} (hp : ∀ a, A = some a → a.block ≠ p.block) (v : Value) : Out 8 cellsP (w.setCell p v) l A c := by
  refine ⟨h.1, h.2.1, h.2.2.1, ?_⟩
  rcases h.2.2.2 with h0 | ⟨b, o, e, hb, hc⟩
  · exact .inl h0
  · refine .inr ⟨b, o, e, by simpa using hb, fun i hi j u hu => ?_⟩
    have := hp _ e
    rw [World.cell?_setCell_other _ _ _ _ (by intro e'; rw [e'] at this; exact this rfl)]
    exact hc i hi j u hu
set_option maxHeartbeats 6400000 in
set_option maxRecDepth 100000 in
theorem make_any (nodes : List NodeD) (x : List WantD) (t : StateD) (m : MoveD) (A1 A2 A3 A A4 : Option Addr) (n1 c1 n2 c2 n3 c3 n c n4 c4 : Nat) (v1 v2 : Value) (w : World)
    (hn1 : n1 = nodes.length) (hl1 : n1 ≤ 1000) (hr1 : Recs 10 cellsN w w.heap.size A1 nodes) (hn : n = x.length) (hl : n ≤ 1000) (hr : Recs 6 cellsW w w.heap.size A x) (hn4 : n4 = t.pods.length) (hl4 : n4 ≤ 1000) (h04 : A4 = none → c4 = 0) (hr4 : Recs 8 cellsP w w.heap.size A4 t.pods) :
    Calls Tryz.prog 45 #[.agg #[.slice A1 n1 c1, .slice A2 n2 c2, .slice A3 n3 c3], .agg #[.slice A n c, v1, v2], stateV A4 n4 c4 t.preempts t.shifts, aggM m] w
      fun e w' => ∃ v, e = .returned (.tuple #[v, codeV (makeD nodes x t m).2]) ∧ StateTo (makeD nodes x t m).1 w v w' := by
  have HR1 := Lib.hid hr1
  have HR := Lib.hid hr
  have HR4 := Lib.hid hr4
  have HN1 := Lib.hid hn1
  have HN := Lib.hid hn
  have HN4 := Lib.hid hn4
  have H04 := Lib.hid h04
  clear hr1 hr hr4 hn1 hn hn4 h04
  have M0 := Mk.new w [.slice A1 n1 c1, .slice A2 n2 c2, .slice A3 n3 c3] [.slice A n c, v1, v2] [.slice A4 n4 c4, .int .i64 t.preempts, .int .i64 t.shifts] [.int .i64 m.kind, .int .i64 m.pod, .int .i64 m.node, .int .i64 m.over] 26 29 42 48 42
  go_enter Tryz.func45, Tryz.ntmps45
  go_wp2_with fail
  refine (stateWell_any m _).mono ?_
  rintro e w1 ⟨rfl, hb1⟩
  have M1 := M0.keep hb1
  clear hb1 M0
  obtain ⟨⟨a0, a1, a2⟩, ⟨a3, a4, a5⟩, ⟨a6, a7, a8⟩, a9, a10, a11, a12⟩ := M1.facts
  obtain ⟨⟨r0, r1, r2⟩, ⟨z0, z1, z2⟩, hz⟩ := M1.facts2
  cases hw : wellD m with
  | false =>
    have HE := Lib.hid (show makeD nodes x t m = (noState, 1) by simp [makeD, hw])
    have HM := Lib.hid M1
    clear M1
    go_wp2
    refine bodyPost_ret (v := .tuple #[stateV none 0 0 0 0, codeV 1]) ?_ rfl ⟨_, by rw [HE.out], ?_⟩
    · simp [results, Tryz.results45, go_sem, codeV, *]
    · rw [HE.out]; exact HM.out.no
  | true =>
    have HT := Lib.hid (allThere_any nodes t.pods m A1 A2 A3 A4 n1 c1 n2 c2 n3 c3 n4 c4 (.int .i64 t.preempts) (.int .i64 t.shifts) w1 HN1.out hl1 HN4.out hl4 ((HR1.out.below M1.below (Nat.le_refl _)).more M1.below.size) ((HR4.out.below M1.below (Nat.le_refl _)).more M1.below.size))
    go_wp2_with fail
    refine HT.out.mono ?_
    rintro e w2 ⟨rfl, hb2⟩
    have M2 := M1.keep hb2
    clear hb2 M1 HT a0 a1 a2 a3 a4 a5 a6 a7 a8 a9 a10 a11 a12 r0 r1 r2 z0 z1 z2 hz
    obtain ⟨⟨a0, a1, a2⟩, ⟨a3, a4, a5⟩, ⟨a6, a7, a8⟩, a9, a10, a11, a12⟩ := M2.facts
    obtain ⟨⟨r0, r1, r2⟩, ⟨z0, z1, z2⟩, hz⟩ := M2.facts2
    cases hh : hereD nodes t.pods m with
    | false =>
      have HE := Lib.hid (show makeD nodes x t m = (noState, 4) by simp [makeD, hw, hh])
      have HM := Lib.hid M2
      clear M2
      go_wp2
      refine bodyPost_ret (v := .tuple #[stateV none 0 0 0 0, codeV 4]) ?_ rfl ⟨_, by rw [HE.out], ?_⟩
      · simp [results, Tryz.results45, go_sem, codeV, *]
      · rw [HE.out]; exact HM.out.no
    | true =>
      have HT := Lib.hid (canBeMade_any t.pods m A4 n4 c4 (.int .i64 t.preempts) (.int .i64 t.shifts) w2 HN4.out hl4 ((HR4.out.below M2.below (Nat.le_refl _)).more M2.below.size))
      go_wp2_with fail
      refine HT.out.mono ?_
      rintro e w3 ⟨rfl, hb3⟩
      have M3 := M2.keep hb3
      clear hb3 M2 HT a0 a1 a2 a3 a4 a5 a6 a7 a8 a9 a10 a11 a12 r0 r1 r2 z0 z1 z2 hz
      obtain ⟨⟨a0, a1, a2⟩, ⟨a3, a4, a5⟩, ⟨a6, a7, a8⟩, a9, a10, a11, a12⟩ := M3.facts
      obtain ⟨⟨r0, r1, r2⟩, ⟨z0, z1, z2⟩, hz⟩ := M3.facts2
      cases hc : canD t.pods m with
      | false =>
        have HE := Lib.hid (show makeD nodes x t m = (noState, 7) by simp [makeD, hw, hh, hc])
        have HM := Lib.hid M3
        clear M3
        go_wp2
        refine bodyPost_ret (v := .tuple #[stateV none 0 0 0 0, codeV 7]) ?_ rfl ⟨_, by rw [HE.out], ?_⟩
        · simp [results, Tryz.results45, go_sem, codeV, *]
        · rw [HE.out]; exact HM.out.no
      | true =>
        have HE := Lib.hid (show makeD nodes x t m = (behindD x t m, 0) by simp [makeD, hw, hh, hc])
        have HT := Lib.hid (behind_any x t m (well_kinds hw) (here_pod hh) (here_over hh hc) A A4 n c n4 c4 v1 v2 w3 HN.out hl ((HR.out.below M3.below (Nat.le_refl _)).more M3.below.size) HN4.out hl4 H04.out ((HR4.out.below M3.below (Nat.le_refl _)).more M3.below.size))
        go_wp2_with fail
        refine HT.out.mono ?_
        rintro e w4 ⟨_, rfl, A5, c5, rfl, ho, hfr, hb4⟩
        have M4 := M3.keep hb4
        have hfr5 : ∀ a, A5 = some a → a.block ≠ w.heap.size + 4 := fun a ha => by have := hfr a ha; omega
        have hfr6 : ∀ a, A5 = some a → w.heap.size ≤ a.block := fun a ha => by have := hfr a ha; omega
        generalize hu : behindD x t m = u at *
        have HM := Lib.hid M4
        have HOU := Lib.hid ho
        have HF5 := Lib.hid (And.intro hfr5 hfr6)
        clear M3 ho hfr hb4 HT hu hfr5 hfr6 a0 a1 a2 a3 a4 a5 a6 a7 a8 a9 a10 a11 a12 r0 r1 r2 z0 z1 z2 hz
        obtain ⟨⟨r0, r1, r2⟩, ⟨z0, z1, z2⟩, hz⟩ := M4.facts2
        clear M4
        go_wp2
        refine bodyPost_ret (v := .tuple #[stateV A5 u.pods.length c5 u.preempts u.shifts, codeV 0]) ?_ rfl ⟨_, by rw [HE.out], ?_⟩
        · simp [results, Tryz.results45, go_sem, codeV, *]
        · rw [HE.out]
          exact ⟨A5, c5, rfl, ((HOU.out.set (p := ⟨w.heap.size + 4, 0, none⟩) HF5.out.1 _).set (p := ⟨w.heap.size + 4, 1, none⟩) HF5.out.1 _).set (p := ⟨w.heap.size + 4, 2, none⟩) HF5.out.1 _, HF5.out.2, ((HM.out.below.setCell (by simp; omega) _).setCell (by simp; omega) _).setCell (by simp; omega) _⟩
end Go.Proofs.YtpfjeoldgcepnaaGreatDoor

namespace Go.Proofs.YtpfjeoldgcepnaaGreatDoor
set_option linter.unusedSimpArgs false
open Go.RowKit
set_option linter.unusedVariables false

/-- Is a pod of this load, somewhere? -/
def inS (load : Int) (p : PodD) : Bool := p.load == load && p.node != 0
/-- A load's size. -/
def sizeD (load : Int) (l : List PodD) : Nat := l.countP (inS load)
theorem size_le9 (load : Int) (l : List PodD) : sizeD load l ≤ l.length := List.countP_le_length
theorem size_next9 {load : Int} {l : List PodD} {k : Nat} (h : k < l.length) {p : PodD} (hx : l[k] = p) : sizeD load (l.take (k + 1)) = sizeD load (l.take k) + if inS load p = true then 1 else 0 := by
  unfold sizeD
  rw [List.take_succ_eq_append_getElem h, hx, List.countP_append]
  simp [List.countP_cons]
theorem size_in9 {load : Int} {l : List PodD} {k : Nat} (h : k < l.length) {p : PodD} (hx : l[k] = p) (hl : p.load = load) (hn : p.node ≠ 0) : sizeD load (l.take (k + 1)) = sizeD load (l.take k) + 1 := by
  rw [size_next9 h hx, if_pos (by simp [inS, hl, hn])]
theorem size_out9 {load : Int} {l : List PodD} {k : Nat} (h : k < l.length) {p : PodD} (hx : l[k] = p) (ho : p.load = load → p.node = 0) : sizeD load (l.take (k + 1)) = sizeD load (l.take k) := by
  rw [size_next9 h hx, if_neg (by simp [inS]; exact ho)]
  rfl
theorem size_end9 {load : Int} {l : List PodD} {k : Nat} (h : l.length ≤ k) : sizeD load (l.take k) = sizeD load l := by rw [List.take_of_length_le h]
theorem made_len9 {ns : List NodeD} {x : List WantD} {t : StateD} {m : MoveD} (h : (makeD ns x t m).2 = 0) : (makeD ns x t m).1.pods.length = t.pods.length := by
  have e : (makeD ns x t m).1 = behindD x t m := by
    unfold makeD at h ⊢
    split at h
    · cases h
    · split at h
      · cases h
      · split at h
        · cases h
        · rename_i q1 q2 q3
          rw [if_neg q1, if_neg q2, if_neg q3]
  rw [e]
  unfold behindD
  split
  · simp
  · split
    · simp
    · split <;> simp

/-! Which load is at fault. -/
def fault9 (x : LoadD) (n : Int) : Int := if n < x.min then 12 else if x.max < n then 13 else 0
theorem fault9_few {x : LoadD} {n : Int} (h : n < x.min) : fault9 x n = 12 := by rw [fault9, if_pos h]
theorem fault9_many {x : LoadD} {n : Int} (h1 : ¬ n < x.min) (h : x.max < n) : fault9 x n = 13 := by rw [fault9, if_neg h1, if_pos h]
theorem fault9_none {x : LoadD} {n : Int} (h1 : ¬ n < x.min) (h : ¬ x.max < n) : fault9 x n = 0 := by rw [fault9, if_neg h1, if_neg h]
/-- The first load, behind k others, whose size is at fault. -/
def budgetFrom (l : List PodD) : List LoadD → Nat → Int × Int
  | [], _ => (0, -1)
  | x :: r, k => if fault9 x (sizeD x.id l : Nat) = 0 then budgetFrom l r (k + 1) else (fault9 x (sizeD x.id l : Nat), (k : Int))
def budgetOf (ls : List LoadD) (l : List PodD) : Int × Int := budgetFrom l ls 0
theorem budgetFrom_at {l : List PodD} {ls : List LoadD} {k : Nat} {z : Int × Int} (h : k < ls.length) {x : LoadD} (hx : ls[k] = x) (hp : budgetFrom l (ls.drop k) k = z) :
    (fault9 x (sizeD x.id l : Nat) ≠ 0 → z = (fault9 x (sizeD x.id l : Nat), (k : Int))) ∧ (fault9 x (sizeD x.id l : Nat) = 0 → budgetFrom l (ls.drop (k + 1)) (k + 1) = z) := by
  rw [List.drop_eq_getElem_cons h, hx, budgetFrom] at hp
  constructor
  · intro e; rw [if_neg e] at hp; exact hp.symm
  · intro e; rw [if_pos e] at hp; exact hp
theorem budgetFrom_end {l : List PodD} {ls : List LoadD} {k : Nat} {z : Int × Int} (h : ls.length ≤ k) (hp : budgetFrom l (ls.drop k) k = z) : z = (0, -1) := by
  rw [List.drop_of_length_le h] at hp
  exact hp.symm
def usedD (x1 x2 t1 t2 : Int) : Bool := decide (x1 < t1) || decide (x2 < t2)
end Go.Proofs.YtpfjeoldgcepnaaGreatDoor
