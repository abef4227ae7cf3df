/- The program's podFault, its closure in Check, and wantFault. -/
import Derived.Test.YtaeklohgheildaaDoorDF
import Derived.Test.YtaeklohgheildaaDoorCE
namespace Go.Proofs.YtaeklohgheildaaDoor
open Go.RowKit
set_option linter.unusedVariables false

def podF (nodes : List NodeD) (loads : List LoadD) (p : PodD) : Int :=
  if countOk p.prio = false then 1 else if place LoadD.id p.load loads 0 < 0 then 4 else if place NodeD.id p.node nodes 0 < 0 ∧ p.node ≠ 0 then 4 else 0
def wantF (pods : List PodD) (x : WantD) : Int := if place PodD.id x.pod pods 0 < 0 then 4 else if x.stay = false ∧ x.req.zero = false then 1 else 0

set_option maxHeartbeats 3200000 in
set_option maxRecDepth 100000 in
theorem podFault_any (nodes : List NodeD) (loads : List LoadD) (p : PodD) (A1 A2 A3 : Option Addr) (n1 c1 n2 c2 n3 c3 : Nat) (w : World) (hn1 : n1 = nodes.length) (hn2 : n2 = loads.length) (hl1 : n1 ≤ 1000) (hl2 : n2 ≤ 1000) (hr1 : Recs 10 cellsN w w.heap.size A1 nodes) (hr2 : Recs 5 cellsL w w.heap.size A2 loads) :
    Calls Tryd.prog 38 #[snapV A1 A2 A3 n1 c1 n2 c2 n3 c3, aggP p] w fun e w' => e = .returned (.int .i64 (podF nodes loads p)) ∧ Below w.heap.size w w' := by
  have b00 := below_two w (.cells #[.slice A1 n1 c1, .slice A2 n2 c2, .slice A3 n3 c3] 26) (.cells #[.int .i64 p.id, .int .i64 p.load, .int .i64 p.prio, .int .u64 p.req.a, .int .u64 p.req.b, .int .u64 p.req.c, .int .u64 p.req.d, .int .i64 p.node] 68)
  have HLD := Lib.hid (load_any loads p.load A2 n2 c2 (.slice A1 n1 c1) (.slice A3 n3 c3) ((w.alloc (.cells #[.slice A1 n1 c1, .slice A2 n2 c2, .slice A3 n3 c3] 26)).alloc (.cells #[.int .i64 p.id, .int .i64 p.load, .int .i64 p.prio, .int .u64 p.req.a, .int .u64 p.req.b, .int .u64 p.req.c, .int .u64 p.req.d, .int .i64 p.node] 68)) hn2 hl2 ((hr2.below b00 (Nat.le_refl _)).more b00.size))
  have HR1 := Lib.hid hr1
  have HN1 := Lib.hid hn1
  clear hr1 hr2 hn1 hn2
  go_enter Tryd.func38, Tryd.ntmps38
  go_wp2_with fail
  refine (isCount_any _ _).mono ?_
  rintro e w' ⟨rfl, rfl⟩
  by_cases hc : countOk p.prio = true
  · go_wp2_with fail
    refine HLD.out.mono ?_
    rintro e w1 ⟨hh, hb1⟩
    have kw1 : Below w.heap.size w w1 := b00.trans (hb1.mono b00.size)
    have hz1 : w.heap.size + 2 ≤ w1.heap.size := by have := hb1.size; simpa using this
    have hz10 : w.heap.size < w1.heap.size := by omega
    have hz11 : w.heap.size + 1 < w1.heap.size := by omega
    have a0 : w1.cell? ⟨w.heap.size, 0, none⟩ = some (.slice A1 n1 c1) := (hb1.cell (p := ⟨w.heap.size, 0, none⟩) (by simp <;> omega)).trans (by simp)
    have a1 : w1.cell? ⟨w.heap.size, 1, none⟩ = some (.slice A2 n2 c2) := (hb1.cell (p := ⟨w.heap.size, 1, none⟩) (by simp <;> omega)).trans (by simp)
    have a2 : w1.cell? ⟨w.heap.size, 2, none⟩ = some (.slice A3 n3 c3) := (hb1.cell (p := ⟨w.heap.size, 2, none⟩) (by simp <;> omega)).trans (by simp)
    have q7 : w1.cell? ⟨w.heap.size + 1, 7, none⟩ = some (.int .i64 p.node) := (hb1.cell (p := ⟨w.heap.size + 1, 7, none⟩) (by simp <;> omega)).trans (by simp)
    rcases hh with ⟨hp, rfl⟩ | ⟨i, hi, hp, rfl⟩
    · have HE := Lib.hid (show podF nodes loads p = 4 by simp [podF, hc, hp])
      clear hp
      go_wp2
      go_ret
      exact ⟨ret_int HE.out.symm, kw1.alloc kw1.size _⟩
    · generalize loads[i] = x at *
      have HPL := Lib.hid (show ¬ place LoadD.id p.load loads 0 < 0 by omega)
      clear hp
      have k2 : Below w.heap.size w (w1.alloc (.cells #[.int .i64 x.id, .bool x.apart, .int .i64 x.skew, .int .i64 x.min, .int .i64 x.max] 49)) := kw1.alloc kw1.size _
      have HND := Lib.hid (node_any nodes p.node A1 n1 c1 (.slice A2 n2 c2) (.slice A3 n3 c3) (w1.alloc (.cells #[.int .i64 x.id, .bool x.apart, .int .i64 x.skew, .int .i64 x.min, .int .i64 x.max] 49)) HN1.out hl1 ((HR1.out.below k2 (Nat.le_refl _)).more k2.size))
      go_wp2_with fail
      refine HND.out.mono ?_
      rintro e w3 ⟨hh3, hb3⟩
      have kw3 : Below w.heap.size w w3 := k2.trans (hb3.mono k2.size)
      have q3 : w3.cell? ⟨w.heap.size + 1, 7, none⟩ = some (.int .i64 p.node) := (hb3.cell (p := ⟨w.heap.size + 1, 7, none⟩) (by simp; omega)).trans (by rw [World.cell?_alloc_lt _ _ _ (by show w.heap.size + 1 < w1.heap.size; omega)]; exact q7)
      have hz3 : w.heap.size + 1 < w3.heap.size := by have := hb3.size; simp at this; omega
      rcases hh3 with ⟨hp, rfl⟩ | ⟨i', hi', hp, rfl⟩
      · by_cases hn0 : p.node = 0
        · have HE := Lib.hid (show podF nodes loads p = 0 by unfold podF; rw [if_neg (by simp [hc]), if_neg (by have := HPL.out; omega), if_neg (by simp [hn0])])
          have hm : (p.node != 0) = false := by simp [hn0]
          clear hp hn0
          go_wp2
          go_ret
          exact ⟨ret_int HE.out.symm, kw3.alloc kw3.size _⟩
        · have HE := Lib.hid (show podF nodes loads p = 4 by unfold podF; rw [if_neg (by simp [hc]), if_neg (by have := HPL.out; omega), if_pos ⟨hp, hn0⟩])
          have hm : (p.node != 0) = true := by simpa using hn0
          clear hp hn0
          go_wp2
          go_ret
          exact ⟨ret_int HE.out.symm, kw3.alloc kw3.size _⟩
      · have HE := Lib.hid (show podF nodes loads p = 0 by unfold podF; rw [if_neg (by simp [hc]), if_neg (by have := HPL.out; omega), if_neg (by omega)])
        generalize nodes[i'] = y at *
        clear hp
        go_wp2
        go_ret
        exact ⟨ret_int HE.out.symm, kw3.alloc kw3.size _⟩
  · have hc' : countOk p.prio = false := by simpa using hc
    have HE := Lib.hid (show podF nodes loads p = 1 by simp [podF, hc'])
    clear hc
    go_wp2
    go_ret
    exact ⟨ret_int HE.out.symm, b00⟩

/-- The closure in Check: podFault of the snapshot that it captured. -/
theorem podClosure_any (nodes : List NodeD) (loads : List LoadD) (p : PodD) (g : Nat) (A1 A2 A3 : Option Addr) (n1 c1 n2 c2 n3 c3 : Nat) (w : World) (h0 : w.cell? ⟨g, 0, none⟩ = some (.slice A1 n1 c1)) (h1 : w.cell? ⟨g, 1, none⟩ = some (.slice A2 n2 c2)) (h2 : w.cell? ⟨g, 2, none⟩ = some (.slice A3 n3 c3))
    (hn1 : n1 = nodes.length) (hn2 : n2 = loads.length) (hl1 : n1 ≤ 1000) (hl2 : n2 ≤ 1000) (hr1 : Recs 10 cellsN w w.heap.size A1 nodes) (hr2 : Recs 5 cellsL w w.heap.size A2 loads) :
    Calls Tryd.prog 37 #[aggP p, .pointer (some ⟨g, 0, none⟩)] w fun e w' => e = .returned (.int .i64 (podF nodes loads p)) ∧ Below w.heap.size w w' := by
  have hg : g < w.heap.size := World.block_lt_of_cell? w _ h0
  have b00 : Below w.heap.size w (w.alloc (.cells #[.int .i64 p.id, .int .i64 p.load, .int .i64 p.prio, .int .u64 p.req.a, .int .u64 p.req.b, .int .u64 p.req.c, .int .u64 p.req.d, .int .i64 p.node] 68)) := (Below.refl _ _).alloc (Nat.le_refl _) _
  have HPF := Lib.hid (podFault_any nodes loads p A1 A2 A3 n1 c1 n2 c2 n3 c3 (w.alloc (.cells #[.int .i64 p.id, .int .i64 p.load, .int .i64 p.prio, .int .u64 p.req.a, .int .u64 p.req.b, .int .u64 p.req.c, .int .u64 p.req.d, .int .i64 p.node] 68)) hn1 hn2 hl1 hl2 ((hr1.below b00 (Nat.le_refl _)).more b00.size) ((hr2.below b00 (Nat.le_refl _)).more b00.size))
  clear hr1 hr2 hn1 hn2
  go_enter Tryd.func37, Tryd.ntmps37
  go_wp2_with fail
  refine HPF.out.mono ?_
  rintro e w1 ⟨rfl, hb1⟩
  go_wp2
  go_ret
  exact ⟨rfl, b00.trans (hb1.mono b00.size)⟩

set_option maxHeartbeats 3200000 in
set_option maxRecDepth 100000 in
theorem wantFault_any (pods : List PodD) (x : WantD) (A1 A2 A3 : Option Addr) (n1 c1 n2 c2 n3 c3 : Nat) (w : World) (hn3 : n3 = pods.length) (hl3 : n3 ≤ 1000) (hr3 : Recs 8 cellsP w w.heap.size A3 pods) :
    Calls Tryd.prog 43 #[snapV A1 A2 A3 n1 c1 n2 c2 n3 c3, aggW x] w fun e w' => e = .returned (.int .i64 (wantF pods x)) ∧ Below w.heap.size w w' := by
  have b00 := below_two w (.cells #[.slice A1 n1 c1, .slice A2 n2 c2, .slice A3 n3 c3] 26) (.cells #[.int .i64 x.pod, .int .u64 x.req.a, .int .u64 x.req.b, .int .u64 x.req.c, .int .u64 x.req.d, .bool x.stay] 53)
  have HFD := Lib.hid (findP_any pods x.pod A3 n3 c3 ((w.alloc (.cells #[.slice A1 n1 c1, .slice A2 n2 c2, .slice A3 n3 c3] 26)).alloc (.cells #[.int .i64 x.pod, .int .u64 x.req.a, .int .u64 x.req.b, .int .u64 x.req.c, .int .u64 x.req.d, .bool x.stay] 53)) hn3 hl3 ((hr3.below b00 (Nat.le_refl _)).more b00.size))
  have hvn := vec_neq0 x.req
  clear hr3 hn3
  go_enter Tryd.func43, Tryd.ntmps43
  go_wp2_with fail
  refine HFD.out.mono ?_
  rintro e w1 ⟨hh, hb1⟩
  have kw1 : Below w.heap.size w w1 := b00.trans (hb1.mono b00.size)
  have hz1 : w.heap.size + 2 ≤ w1.heap.size := by have := hb1.size; simpa using this
  have hz11 : w.heap.size + 1 < w1.heap.size := by omega
  have q1 : w1.cell? ⟨w.heap.size + 1, 1, none⟩ = some (.int .u64 x.req.a) := (hb1.cell (p := ⟨w.heap.size + 1, 1, none⟩) (by simp <;> omega)).trans (by simp)
  have q2 : w1.cell? ⟨w.heap.size + 1, 2, none⟩ = some (.int .u64 x.req.b) := (hb1.cell (p := ⟨w.heap.size + 1, 2, none⟩) (by simp <;> omega)).trans (by simp)
  have q3 : w1.cell? ⟨w.heap.size + 1, 3, none⟩ = some (.int .u64 x.req.c) := (hb1.cell (p := ⟨w.heap.size + 1, 3, none⟩) (by simp <;> omega)).trans (by simp)
  have q4 : w1.cell? ⟨w.heap.size + 1, 4, none⟩ = some (.int .u64 x.req.d) := (hb1.cell (p := ⟨w.heap.size + 1, 4, none⟩) (by simp <;> omega)).trans (by simp)
  have q5 : w1.cell? ⟨w.heap.size + 1, 5, none⟩ = some (.bool x.stay) := (hb1.cell (p := ⟨w.heap.size + 1, 5, none⟩) (by simp <;> omega)).trans (by simp)
  rcases hh with ⟨hp, rfl⟩ | ⟨i, hi, hp, rfl⟩
  · have HE := Lib.hid (show wantF pods x = 4 by simp [wantF, hp])
    clear hp
    go_wp2
    go_ret
    exact ⟨ret_int HE.out.symm, kw1.alloc kw1.size _⟩
  · generalize pods[i] = y at *
    have HPL := Lib.hid (show ¬ place PodD.id x.pod pods 0 < 0 by omega)
    clear hp
    cases hst : x.stay with
    | true =>
      have HE := Lib.hid (show wantF pods x = 0 by unfold wantF; rw [if_neg (by have := HPL.out; omega), if_neg (by simp [hst])])
      go_wp2
      go_ret
      exact ⟨ret_int HE.out.symm, kw1.alloc kw1.size _⟩
    | false =>
      cases hze : x.req.zero with
      | true =>
        have HE := Lib.hid (show wantF pods x = 0 by unfold wantF; rw [if_neg (by have := HPL.out; omega), if_neg (by simp [hze])])
        go_wp2
        go_ret
        exact ⟨ret_int HE.out.symm, kw1.alloc kw1.size _⟩
      | false =>
        have HE := Lib.hid (show wantF pods x = 1 by unfold wantF; rw [if_neg (by have := HPL.out; omega), if_pos ⟨hst, hze⟩])
        go_wp2
        go_ret
        exact ⟨ret_int HE.out.symm, kw1.alloc kw1.size _⟩
end Go.Proofs.YtaeklohgheildaaDoor
