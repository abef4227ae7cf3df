/- The law SpreadWhole: for every snapshot, every state and every load the call returns true, and each argument reads afterwards as it read before; the package-level variable errors.errorType starts as the program's text lays it (the card ties it). There is no other condition. -/
import Derived.Test.YtmcpjebcffgboaaDoorZ07
import Derived.Test.YtmcpjebcffgboaaDoorZ09
import Derived.Test.YtmcpjebcffgboaaDoorZ01
import Derived.Deep.CutRange
import Derived.Deep.RegionHeld3
import Derived.BigQuiet
import Derived.Test.YtmcpjebcffgboaaDoorZ03
import Derived.SevenTiedAt

/- The head of layer 6's laws: the document's example, and a node without room. -/
namespace Go.Proofs.YtmcpjebcffgboaaDoor
set_option linter.unusedSimpArgs false
open Go.RowKit
set_option linter.unusedVariables false

def upN6 : NodeD := ⟨3, 1, ⟨5, 0, 0, 0⟩, ⟨1, 0, 0, 0⟩⟩
def upP6 : PodD := ⟨1, 0, 0, ⟨5, 0, 0, 0⟩, 3⟩
theorem up6_rest : restD [upN6] [] 3 = (⟨4, 0, 0, 0⟩, 0) := by rfl
theorem up6_full : roomOf [upN6] [upP6] = (9, 0) := by decide
theorem up6_none : roomOf [upN6] [] = (0, -1) := by decide
theorem upN6_ok : ∀ x ∈ [upN6], x.Ok := by
  intro x hx
  obtain rfl := List.mem_singleton.1 hx
  exact ⟨⟨by decide, by decide⟩, ⟨by decide, by decide⟩, ⟨⟨by decide, by decide⟩, ⟨by decide, by decide⟩, ⟨by decide, by decide⟩, ⟨by decide, by decide⟩⟩, ⟨⟨by decide, by decide⟩, ⟨by decide, by decide⟩, ⟨by decide, by decide⟩, ⟨by decide, by decide⟩⟩⟩
theorem upP6_ok : ∀ x ∈ [upP6], x.Ok := by
  intro x hx
  obtain rfl := List.mem_singleton.1 hx
  exact ⟨⟨by decide, by decide⟩, ⟨by decide, by decide⟩, ⟨by decide, by decide⟩, ⟨⟨by decide, by decide⟩, ⟨by decide, by decide⟩, ⟨by decide, by decide⟩, ⟨by decide, by decide⟩⟩, ⟨by decide, by decide⟩⟩
theorem no_ok {α : Type} {Ok : α → Prop} : ∀ p ∈ ([] : List α), Ok p := fun _ h => by simp at h

end Go.Proofs.YtmcpjebcffgboaaDoor

/- The use of a node by the reference. -/
namespace Go.Proofs.YtmcpjebcffgboaaDoor
set_option linter.unusedSimpArgs false
open Go.RowKit
set_option linter.unusedVariables false

end Go.Proofs.YtmcpjebcffgboaaDoor

/- A node's rest by the reference. -/
namespace Go.Proofs.YtmcpjebcffgboaaDoor
set_option linter.unusedSimpArgs false
open Go.RowKit
set_option linter.unusedVariables false

theorem ref_ret {p : V4 × Int} {a : Value} {b : Value} (q : V4 × Int) (h : p = q) (ha : a = aggV q.1) (hb : b = .int .i64 q.2) : Ending.returned (.tuple #[a, b]) = .returned (.tuple #[aggV p.1, .int .i64 p.2]) := by subst h ha hb; rfl

end Go.Proofs.YtmcpjebcffgboaaDoor

/- The first node at fault by the reference. -/
namespace Go.Proofs.YtmcpjebcffgboaaDoor
set_option linter.unusedSimpArgs false
open Go.RowKit
set_option linter.unusedVariables false

end Go.Proofs.YtmcpjebcffgboaaDoor

/- The law RoomTells. -/
namespace Go.Proofs.YtmcpjebcffgboaaDoor
set_option linter.unusedSimpArgs false
open Go.RowKit
set_option linter.unusedVariables false

theorem vec_not_self (x : V4) (w : World) : (binOp .neq 39 (.agg #[.int .u64 x.a, .int .u64 x.b, .int .u64 x.c, .int .u64 x.d]) (.agg #[.int .u64 x.a, .int .u64 x.b, .int .u64 x.c, .int .u64 x.d])).run Tryd.prog w = .ok (.bool false) w := by
  rw [vec_neq, vecEq_self]
  rfl
theorem few06 {n1 n2 n3 n5 : Nat} (h : few05 n1 n2 n3 0 n5 = true) : n1 ≤ 40 ∧ n2 ≤ 40 ∧ n3 ≤ 40 ∧ n5 ≤ 40 := by
  simp [few05] at h
  omega
end Go.Proofs.YtmcpjebcffgboaaDoor

/- The law SpreadWhole. -/
namespace Go.Proofs.YtmcpjebcffgboaaDoor
set_option linter.unusedSimpArgs false
open Go.RowKit
set_option linter.unusedVariables false

/-- How many the first k zones have together. -/
def psN (ns : List NodeD) (load : Int) (l : List PodD) (zs : List Int) (k : Nat) : Nat := ((zs.take k).map fun z => countD ns load z l).sum
theorem psN_next {ns : List NodeD} {load : Int} {l : List PodD} {zs : List Int} {k : Nat} (h : k < zs.length) {z : Int} (hx : zs[k] = z) : psN ns load l zs (k + 1) = psN ns load l zs k + countD ns load z l := by
  unfold psN
  rw [List.take_succ_eq_append_getElem h, hx, List.map_append, List.sum_append]
  simp
theorem sum_cast (f : Int → Nat) : ∀ zs : List Int, (((zs.map f).sum : Nat) : Int) = (zs.map fun z => (f z : Int)).sum
  | [] => rfl
  | z :: r => by simp only [List.map_cons, List.sum_cons, ← sum_cast f r]; omega
theorem psN_all {ns : List NodeD} {load : Int} {l : List PodD} {k : Nat} (h : (zonesOf ns).length ≤ k) : psN ns load l (zonesOf ns) k = l.countP (thereD ns load) := by
  have h1 := counts_all ns load l
  have h2 := sum_cast (fun z => countD ns load z l) (zonesOf ns)
  unfold countsD at h1
  unfold psN
  rw [List.take_of_length_le h]
  omega
theorem psN_le (ns : List NodeD) (load : Int) (l : List PodD) (k : Nat) : psN ns load l (zonesOf ns) k ≤ l.length := by
  have h1 := psN_all (ns := ns) (load := load) (l := l) (Nat.le_refl _)
  have h2 : l.countP (thereD ns load) ≤ l.length := List.countP_le_length
  have h3 : psN ns load l (zonesOf ns) k ≤ psN ns load l (zonesOf ns) (zonesOf ns).length := by
    unfold psN
    rw [List.take_length]
    conv => rhs; rw [← List.take_append_drop k (zonesOf ns), List.map_append, List.sum_append]
    omega
  omega
theorem there_next {ns : List NodeD} {load : Int} {l : List PodD} {k : Nat} (h : k < l.length) {p : PodD} (hx : l[k] = p) : (l.drop k).countP (thereD ns load) = (l.drop (k + 1)).countP (thereD ns load) + if thereD ns load p = true then 1 else 0 := by
  rw [List.drop_eq_getElem_cons h, hx, List.countP_cons]
abbrev cellI (z : Int) : List Value := [.int .i64 z]
theorem flat_cellI : ∀ zs : List Int, zs.flatMap cellI = i64s zs
  | [] => rfl
  | z :: r => by rw [List.flatMap_cons, flat_cellI r]; rfl
theorem recs_zones {w : World} {B : Nat} {v : Value} {zs : List Int} (h : w.ownsRow B 3 1 v (i64s zs).length (i64s zs)) : ∃ A c, v = .slice A zs.length c ∧ Recs 1 cellI w w.heap.size A zs := by
  rw [List.length_map] at h
  obtain ⟨A, c, h1, _, _, _, h2⟩ := recs_of_own (cells := cellI) (size := 1) (fun _ => rfl) rfl (by rw [flat_cellI]; exact h)
  exact ⟨A, c, h1, h2⟩
theorem nodeIs_any (l : List NodeD) (id : Int) (A : Option Addr) (n c : Nat) (v2 v3 : Value) (w : World) (hn : n = l.length) (hl : n ≤ 1000) (hr : Recs 10 cellsN w w.heap.size A l) :
    Calls Tryd.prog 9 #[.agg #[.slice A n c, v2, v3], .int .i64 id] w fun e w' => ∃ x : NodeD, e = .returned (.tuple #[aggN x, .bool (decide (0 ≤ place NodeD.id id l 0))]) ∧ Below w.heap.size w w' := by
  refine (node_any l id A n c v2 v3 w hn hl hr).mono fun e w' ⟨h, hb⟩ => ?_
  rcases h with ⟨h1, h2⟩ | ⟨i, hi, h1, h2⟩
  · exact ⟨⟨0, 0, ⟨0, 0, 0, 0⟩, ⟨0, 0, 0, 0⟩⟩, by rw [h2, decide_eq_false (by omega)], hb⟩
  · exact ⟨l[i], by rw [h2, decide_eq_true (by omega)], hb⟩
def WholeRel (ns : List NodeD) (load : Int) (l : List PodD) (zs : List Int) (A : Option Addr) (a b : List Value) (w : World) (n i : Value) (wr : World) : Prop := ∃ k : Nat, k ≤ zs.length ∧ n = .int .i64 (psN ns load l zs k : Nat) ∧ i = .int .i64 k ∧ T2 a b w wr ∧ Recs 1 cellI wr wr.heap.size A zs
def ThereRel (ns : List NodeD) (load : Int) (l : List PodD) (a b : List Value) (w : World) (n i : Value) (wr : World) : Prop := ∃ k : Nat, k ≤ l.length ∧ n = .int .i64 ((l.drop k).countP (thereD ns load) : Nat) ∧ i = .int .i64 k ∧ T2 a b w wr

set_option maxHeartbeats 25600000 in
set_option maxRecDepth 100000 in
theorem spreadWhole_in (s : SnapD) (t : StateD) (load : Int) (A1 A2 A3 A4 : Option Addr) (n1 c1 n2 c2 n3 c3 n4 c4 : Nat) (w : World) (hg : Laid w)
    (hn1 : n1 = s.nodes.length) (hr1 : Recs 10 cellsN w w.heap.size A1 s.nodes) (hn4 : n4 = t.pods.length) (hr4 : Recs 8 cellsP w w.heap.size A4 t.pods) :
    Calls Tryd.prog 3 #[.agg #[.slice A1 n1 c1, .slice A2 n2 c2, .slice A3 n3 c3], .agg #[.slice A4 n4 c4, .int .i64 t.preempts, .int .i64 t.shifts], .int .i64 load] w fun e w' => e = .returned (.bool true) ∧ Below w.heap.size w w' := by
  have T0 := T2.new w [.slice A1 n1 c1, .slice A2 n2 c2, .slice A3 n3 c3] [.slice A4 n4 c4, .int .i64 t.preempts, .int .i64 t.shifts] 26 28
  have HG := Lib.hid (fun (V : World) (hV : Below w.heap.size w V) => Laid.below hg hV (Nat.le_refl _))
  have HR1 := Lib.hid (fun (V : World) (hV : Below w.heap.size w V) => (hr1.below hV (Nat.le_refl _)).more hV.size)
  have HR4 := Lib.hid (fun (V : World) (hV : Below w.heap.size w V) => (hr4.below hV (Nat.le_refl _)).more hV.size)
  have HRR := Lib.hid hr4
  have HUP := Lib.hid (up08_any _ (HG.out _ T0.below))
  have HN1 := Lib.hid hn1
  have HN4 := Lib.hid hn4
  clear hg hr1 hr4 hn1 hn4
  go_enter Tryd.func3, Tryd.ntmps3
  go_wp2_with fail
  refine HUP.out.mono ?_
  rintro e w1 ⟨rfl, hb1⟩
  have T1 := T0.keep hb1
  clear hb1 T0 HUP
  obtain ⟨a0, a1, a2, a3⟩ := T1.one.cells3
  obtain ⟨b0, b1, b2, b3⟩ := T1.two.cells3
  go_wp2_with fail
  refine (few05_any _ _ _ _ _ _ _ _ _ _ _ _ _ _ _ _ _ _ _ _).mono ?_
  rintro e w2 ⟨rfl, hb2⟩
  have T2' := T1.keep hb2
  have kw := T2'.below
  clear hb2 T1 a0 a1 a2 a3 b0 b1 b2 b3
  cases hfew : few05 n1 n2 n3 0 n4 with
  | false =>
    clear hfew T2'
    go_wp2
    go_ret
    exact ⟨rfl, kw⟩
  | true =>
    obtain ⟨hl1, hl2, _, hl4⟩ := few06 hfew
    have HT0 := Lib.hid T2'
    have HCO := Lib.hid (fun W (hW : Below w.heap.size w W) (zone : Int) => count_any s.nodes t.pods load zone A1 A4 n1 c1 n4 c4 (.slice A2 n2 c2) (.slice A3 n3 c3) (.int .i64 t.preempts) (.int .i64 t.shifts) W HN1.out (by omega) (HR1.out W hW) HN4.out (by omega) (HR4.out W hW))
    have HSK := Lib.hid (fun W (hW : Below w.heap.size w W) => skew_any s.nodes t.pods load A1 A4 n1 c1 n4 c4 (.slice A2 n2 c2) (.slice A3 n3 c3) (.int .i64 t.preempts) (.int .i64 t.shifts) W HN1.out (by omega) (HR1.out W hW) HN4.out (by omega) (HR4.out W hW))
    have HND := Lib.hid (fun W (hW : Below w.heap.size w W) (id : Int) => nodeIs_any s.nodes id A1 n1 c1 (.slice A2 n2 c2) (.slice A3 n3 c3) W HN1.out (by omega) (HR1.out W hW))
    have HZ := Lib.hid (zones_any sort_own comp_own s.nodes A1 n1 c1 (.slice A2 n2 c2) (.slice A3 n3 c3) w2 HN1.out (by omega) (HR1.out w2 kw))
    obtain ⟨a0, a1, a2, a3⟩ := T2'.one.cells3
    clear hfew kw T2'
    go_wp2_with fail
    refine HZ.out.mono ?_
    rintro e w3 ⟨v, rfl, hown, hb3⟩
    obtain ⟨A, cz, rfl, hrz⟩ := recs_zones hown
    have HRZ := Lib.hid hrz
    have HT3 := Lib.hid (HT0.out.keep hb3)
    have hzl : (zonesOf s.nodes).length ≤ 40 := by
      have h := (zones_fold s.nodes [] trivial).2.1
      have := HN1.out
      unfold zonesOf
      simp at h
      omega
    generalize hnz : (zonesOf s.nodes).length = nz at *
    have HNZ := Lib.hid hnz
    clear hown hrz hb3 HZ HT0 a0 a1 a2 a3 hnz
    go_wp2
    go_loopw [9, 11] (WholeRel s.nodes load t.pods (zonesOf s.nodes) A [.slice A1 n1 c1, .slice A2 n2 c2, .slice A3 n3 c3] [.slice A4 n4 c4, .int .i64 t.preempts, .int .i64 t.shifts] w) (fun _ i _ => nz - (intOf i).toNat)
    case atStart => exact ⟨0, by omega, rfl, rfl, HT3.out, HRZ.out⟩
    case round =>
      obtain ⟨k, hk, rfl, rfl, T1, hrz⟩ := hrel
      rw [HNZ.out] at hk
      have HT1 := Lib.hid T1
      have HR := Lib.hid hrz
      obtain ⟨a0, a1, a2, a3⟩ := T1.one.cells3
      obtain ⟨b0, b1, b2, b3⟩ := T1.two.cells3
      have kwr := T1.below
      clear hrz
      by_cases hlt : k < nz
      · have hkl : k < (zonesOf s.nodes).length := by have := HNZ.out; omega
        obtain ⟨b, o, rfl, hb, he⟩ := HR.out.at hkl
        generalize hx : (zonesOf s.nodes)[k] = z at *
        have HNX := Lib.hid (psN_next (ns := s.nodes) (load := load) (l := t.pods) hkl hx)
        have e0 : wr.cell? ⟨b, o + k, none⟩ = some (.int .i64 z) := by have h := he 0 _ rfl; simpa using h
        have hle := psN_le s.nodes load t.pods k
        have hcl := count_le s.nodes load z t.pods
        have HCW : Hid (∀ V : World, Keeps wr V → Calls Tryd.prog 8 #[.agg #[.slice A1 n1 c1, .slice A2 n2 c2, .slice A3 n3 c3], .agg #[.slice A4 n4 c4, .int .i64 t.preempts, .int .i64 t.shifts], .int .i64 load, .int .i64 z] V fun e w' => e = .returned (.int .i64 (countD s.nodes load z t.pods : Nat)) ∧ Below V.heap.size V w') := fun V hV => HCO.out V (kwr.trans (hV.2.mono kwr.size)) z
        generalize countD s.nodes load z t.pods = c at *
        generalize psN s.nodes load t.pods (zonesOf s.nodes) k = a at *
        have ha : (a : Int) ≤ 40 := by have := HN4.out; omega
        have hc : (c : Int) ≤ 40 := by have := HN4.out; omega
        have ha0 : (0 : Int) ≤ (a : Int) := by omega
        have hc0 : (0 : Int) ≤ (c : Int) := by omega
        have hk0 : (0 : Int) ≤ (k : Int) := by omega
        have hk1 : (k : Int) < (nz : Int) := by omega
        have s1 : IntKind.i64.wrap ((a : Int) + (c : Int)) = ((a + c : Nat) : Int) := by rw [IntWalk.i64_in _ (by omega)]; omega
        clear he hx hle hcl T1 kwr
        go_wp2
        go_region_held3 (fun w' => (∀ b o, b < wr.heap.size → w'.cell? ⟨b, o, none⟩ = wr.cell? ⟨b, o, none⟩) ∧ Below wr.heap.size wr w')
          (first | (with_reducible assumption) | (show Keeps wr _; with_reducible (repeat (first | exact Keeps.refl _ | assumption | refine Keeps.drew ?_ | refine Keeps.alloc ?_ _ | refine Keeps.step ?_ (by assumption)))))
          (first | (go_at_call 8; refine (HCW.out _ (by assumption)).mono ?_; rintro e w' ⟨rfl, hb⟩))
        rename_i hK
        have HT4 := Lib.hid (HT1.out.keep hK.2)
        have HR4' := Lib.hid ((HR.out.below hK.2 (Nat.le_refl _)).more hK.2.size)
        clear hK a0 a1 a2 a3 b0 b1 b2 b3 e0 HCW
        go_wp2
        go_roundw
        case rel => exact ⟨k + 1, by have := HNZ.out; omega, by rw [HNX.out]; exact congrArg (Value.int IntKind.i64) (by omega), by go_num, HT4.out, HR4'.out⟩
        case measure => simp [intOf]; omega
      · have HA := Lib.hid (psN_all (ns := s.nodes) (load := load) (l := t.pods) (k := k) (by have := HNZ.out; omega))
        rw [HA.out]
        clear hk T1 kwr HR HRZ a0 a1 a2 a3
        go_wp2
        go_loopw [9, 12] (ThereRel s.nodes load t.pods [.slice A1 n1 c1, .slice A2 n2 c2, .slice A3 n3 c3] [.slice A4 n4 c4, .int .i64 t.preempts, .int .i64 t.shifts] w) (fun _ i _ => n4 - (intOf i).toNat)
        case atStart => exact ⟨0, by omega, by rw [List.drop_zero], rfl, HT1.out⟩
        case round =>
          clear b0 b1 b2 b3
          obtain ⟨i, hi, rfl, rfl, T4⟩ := hrel
          have HT4 := Lib.hid T4
          have kwr := T4.below
          obtain ⟨a0, a1, a2, a3⟩ := T4.one.cells3
          obtain ⟨b0, b1, b2, b3⟩ := T4.two.cells3
          have HSW := Lib.hid (HSK.out wr kwr)
          clear T4
          by_cases hlt : i < n4
          · have hil : i < t.pods.length := by have := HN4.out; omega
            obtain ⟨b, o, rfl, hb, he⟩ := HRR.out.at hil
            generalize hx : t.pods[i] = p at *
            have HNX := Lib.hid (there_next (ns := s.nodes) (load := load) hil hx)
            have hle : (t.pods.drop (i + 1)).countP (thereD s.nodes load) ≤ 40 := by
              have h : (t.pods.drop (i + 1)).countP (thereD s.nodes load) ≤ (t.pods.drop (i + 1)).length := List.countP_le_length
              rw [List.length_drop] at h
              have := HN4.out
              omega
            have e1 : wr.cell? ⟨b, o + i * 8 + 1, none⟩ = some (.int .i64 p.load) := (kwr.cell (p := ⟨b, o + i * 8 + 1, none⟩) hb).trans (he 1 _ rfl)
            have e7 : wr.cell? ⟨b, o + i * 8 + 7, none⟩ = some (.int .i64 p.node) := (kwr.cell (p := ⟨b, o + i * 8 + 7, none⟩) hb).trans (he 7 _ rfl)
            have hbw : b < wr.heap.size := Nat.lt_of_lt_of_le hb kwr.size
            have HNW : Hid (∀ V : World, Keeps wr V → Calls Tryd.prog 9 #[.agg #[.slice A1 n1 c1, .slice A2 n2 c2, .slice A3 n3 c3], .int .i64 p.node] V fun e w' => ∃ x : NodeD, e = .returned (.tuple #[aggN x, .bool (decide (0 ≤ place NodeD.id p.node s.nodes 0))]) ∧ Below V.heap.size V w') := fun V hV => HND.out V (kwr.trans (hV.2.mono kwr.size)) p.node
            have HTH : Hid (thereD s.nodes load p = (p.load == load && (p.node != 0 && decide (0 ≤ place NodeD.id p.node s.nodes 0)))) := rfl
            generalize decide (0 ≤ place NodeD.id p.node s.nodes 0) = is at *
            generalize hq : (t.pods.drop (i + 1)).countP (thereD s.nodes load) = q at *
            have HQ := Lib.hid hq
            have hq0 : (0 : Int) ≤ (q : Int) := by omega
            have hq1 : (q : Int) ≤ 40 := by omega
            have hi0 : (0 : Int) ≤ (i : Int) := by omega
            have hi1 : (i : Int) < (n4 : Int) := by omega
            clear he hx hle hq kwr HSW
            rw [HNX.out]
            cases h1 : (p.load == load) with
            | false =>
              rw [h1] at HTH
              have hth : thereD s.nodes load p = false := HTH.out
              rw [hth]
              clear hth HTH
              go_wp2
              go_region_held3 (fun w' => (∀ b o, b < wr.heap.size → w'.cell? ⟨b, o, none⟩ = wr.cell? ⟨b, o, none⟩) ∧ Below wr.heap.size wr w')
                (first | (with_reducible assumption) | (show Keeps wr _; with_reducible (repeat (first | exact Keeps.refl _ | assumption | refine Keeps.drew ?_ | refine Keeps.set ?_ (by simp) _ | refine Keeps.alloc ?_ _ | refine Keeps.step ?_ (by assumption)))))
                (first | (go_at_call 9; refine (HNW.out _ (by assumption)).mono ?_; rintro e w' ⟨x, rfl, hb⟩; obtain ⟨hcx, hfx⟩ := old_cells hb))
              all_goals
                go_wp2
                go_roundw
                case rel => exact ⟨i + 1, by omega, by rw [HQ.out], by go_num, HT4.out.keep (by assumption : Keeps wr _).2⟩
                case measure => simp [intOf]; omega
            | true =>
              rw [h1] at HTH
              cases h2 : (p.node != 0) with
              | false =>
                rw [h2] at HTH
                have hth : thereD s.nodes load p = false := HTH.out
                rw [hth]
                clear hth HTH
                go_wp2
                go_region_held3 (fun w' => (∀ b o, b < wr.heap.size → w'.cell? ⟨b, o, none⟩ = wr.cell? ⟨b, o, none⟩) ∧ Below wr.heap.size wr w')
                (first | (with_reducible assumption) | (show Keeps wr _; with_reducible (repeat (first | exact Keeps.refl _ | assumption | refine Keeps.drew ?_ | refine Keeps.set ?_ (by simp) _ | refine Keeps.alloc ?_ _ | refine Keeps.step ?_ (by assumption)))))
                (first | (go_at_call 9; refine (HNW.out _ (by assumption)).mono ?_; rintro e w' ⟨x, rfl, hb⟩; obtain ⟨hcx, hfx⟩ := old_cells hb))
                all_goals
                  go_wp2
                  go_roundw
                  case rel => exact ⟨i + 1, by omega, by rw [HQ.out], by go_num, HT4.out.keep (by assumption : Keeps wr _).2⟩
                  case measure => simp [intOf]; omega
              | true =>
                rw [h2] at HTH
                cases is with
                | false =>
                  have hth : thereD s.nodes load p = false := HTH.out
                  rw [hth]
                  clear hth HTH
                  go_wp2
                  go_region_held3 (fun w' => (∀ b o, b < wr.heap.size → w'.cell? ⟨b, o, none⟩ = wr.cell? ⟨b, o, none⟩) ∧ Below wr.heap.size wr w')
                (first | (with_reducible assumption) | (show Keeps wr _; with_reducible (repeat (first | exact Keeps.refl _ | assumption | refine Keeps.drew ?_ | refine Keeps.set ?_ (by simp) _ | refine Keeps.alloc ?_ _ | refine Keeps.step ?_ (by assumption)))))
                (first | (go_at_call 9; refine (HNW.out _ (by assumption)).mono ?_; rintro e w' ⟨x, rfl, hb⟩; obtain ⟨hcx, hfx⟩ := old_cells hb))
                  all_goals
                    go_wp2
                    go_roundw
                    case rel => exact ⟨i + 1, by omega, by rw [HQ.out], by go_num, HT4.out.keep (by assumption : Keeps wr _).2⟩
                    case measure => simp [intOf]; omega
                | true =>
                  have hth : thereD s.nodes load p = true := HTH.out
                  rw [hth, if_pos rfl]
                  have s1 : IntKind.i64.wrap (((q + 1 : Nat) : Int) - 1) = (q : Int) := by rw [IntWalk.i64_in _ (by omega)]; omega
                  clear hth HTH
                  go_wp2
                  go_region_held3 (fun w' => (∀ b o, b < wr.heap.size → w'.cell? ⟨b, o, none⟩ = wr.cell? ⟨b, o, none⟩) ∧ Below wr.heap.size wr w')
                (first | (with_reducible assumption) | (show Keeps wr _; with_reducible (repeat (first | exact Keeps.refl _ | assumption | refine Keeps.drew ?_ | refine Keeps.set ?_ (by simp) _ | refine Keeps.alloc ?_ _ | refine Keeps.step ?_ (by assumption)))))
                (first | (go_at_call 9; refine (HNW.out _ (by assumption)).mono ?_; rintro e w' ⟨x, rfl, hb⟩; obtain ⟨hcx, hfx⟩ := old_cells hb))
                  all_goals
                    go_wp2
                    go_roundw
                    case rel => exact ⟨i + 1, by omega, by first | rw [HQ.out, s1] | rw [HQ.out] | (rw [HQ.out]; go_num), by go_num, HT4.out.keep (by assumption : Keeps wr _).2⟩
                    case measure => simp [intOf]; omega
          · have hlk : t.pods.length ≤ i := by have := HN4.out; omega
            have hz0 : (t.pods.drop i).countP (thereD s.nodes load) = 0 := by rw [List.drop_of_length_le hlk]; rfl
            rw [hz0]
            have hsk := (skew_bounds s.nodes load (zonesOf s.nodes) t.pods).1
            generalize skewD s.nodes load (zonesOf s.nodes) t.pods = z at *
            have hd : decide (0 ≤ z) = true := decide_eq_true hsk
            clear hsk hz0
            go_wp2_with fail
            refine HSW.out.mono ?_
            rintro e w5 ⟨rfl, hb5⟩
            have k5 := kwr.trans (hb5.mono kwr.size)
            clear hb5
            go_wp2
            go_ret
            exact ⟨rfl, k5⟩
end Go.Proofs.YtmcpjebcffgboaaDoor

namespace Go.Proofs.YtmcpjebcffgboaaDoor
set_option linter.unusedSimpArgs false
open Go.ChangeShapes Go.WideShapes Go.ChangeAt Go.RowKit

set_option maxHeartbeats 400000 in
set_option maxRecDepth 100000 in
theorem spreadWhole_lifted (os : Os) (started : os.Started) (H : Type) (enc : TypeId × Value → H) :
    ReturnsInHanded {} Tryd.checked os 3 .any (fun w args => (Rows.spreadWholeSpec.pre enc Tryd.prog Tryd.f3 [] false w args ∧ laidMetH Tryd.prog [("errors.errorType", Rows.laid_errors_errorType)] w) ∧ sizedMet enc Tryd.prog Tryd.f3 (OpenSpec.ofChange Rows.spreadWholeSpec) false w args)
      (Rows.spreadWholeSpec.post enc Tryd.prog Tryd.f3 false true false false) := by
  refine returnsInHanded_of_change_and (C := Tryd.checked) (X := fun w _ => laidMetH Tryd.prog [("errors.errorType", Rows.laid_errors_errorType)] w) (fun _ _ _ hh h => h.of_heap hh) Tryd.own started (by kernel_rfl) Tryd.func3
    (ChangeSpec.witness_at (enc := enc) (C := Tryd.checked) (os := os) (X := fun w _ => laidMetH Tryd.prog [("errors.errorType", Rows.laid_errors_errorType)] w) false (laidWorld os) #[.agg #[.slice none 0 0, .slice none 0 0, .slice none 0 0], .agg #[.slice none 0 0, .int .i64 0, .int .i64 0], .int .i64 0] 8 rfl (by kernel_rfl) (by kernel_rfl) (by kernel_rfl) (by kernel_rfl) (by kernel_rfl) (laidWorld_met os _)) ?_
  intro W base args ds gs before hval0 hW _ _ hL _
  have hval : ∀ (j : Nat) t v, Tryd.f3.params[j]? = some t → args[j]? = some v → Value.okWide Tryd.prog W .any base t v := hval0
  have hW' := hW
  have hlt : ∀ x ∈ before, x.block < W.heap.size := fun x hx => hW.lt x hx
  obtain ⟨p, q, hA0, hV, rfl, _, _⟩ := hW
  have hA : DataW.TrodAll enc Tryd.prog W 0 (fun _ => true) true Tryd.f3.params.toList args.toList ds p := hA0
  rw [Tryd.params3] at hA hval
  obtain ⟨v0, v1, v2, d0, d1, d2, p0, p1, p2, rfl, rfl, rfl, h0, h1, h2⟩ := trodAll_three hA
  obtain ⟨rfl, rfl⟩ := trodVars_none hV
  have hv0 := hval 0 26 v0 rfl rfl
  have hv1 := hval 1 28 v1 rfl rfl
  have hv2 := hval 2 3 v2 rfl rfl
  clear hA0 hval0
  simp only [List.append_nil] at hW' hlt
  obtain ⟨s, A1, A2, A3, c1, c2, c3, e0, g1, g2, g3⟩ := open_snap hv0 h0
  obtain ⟨t, A4, c4, e1, _, _, g4⟩ := open_state hv1 h1
  obtain ⟨id, e2, i2, _, _⟩ := open_int Tryd.underlying3 hv2 h2
  subst e0 e1 e2
  refine (spreadWhole_in s t id A1 A2 A3 A4 _ c1 _ c2 _ c3 _ c4 W (handle_of_laid hL) rfl g1.2.2.2.1 rfl g4.2.2.2.1).mono fun e W' ⟨he, hb⟩ => ?_
  subst he
  exact ⟨_, rfl, _, _, _, [], _, [], hW', trodAll_mk1 (shut_bool Tryd.underlying4 true), trodAll_mk3 (hb.trod Tryd.laidOut (by kernel_rfl) (of_decide_eq_true (by kernel_rfl)) h0 (fun x hx => hlt x (by simp [hx]))) (hb.trod Tryd.laidOut (by kernel_rfl) (of_decide_eq_true (by kernel_rfl)) h1 (fun x hx => hlt x (by simp [hx]))) (hb.trod Tryd.laidOut (by kernel_rfl) (of_decide_eq_true (by kernel_rfl)) h2 (fun x hx => hlt x (by simp [hx]))), rfl, hb.frame _, fun h => by cases h⟩

theorem spreadWhole_row : Rows.SpreadWholeSaid :=
  OpenClaim.holds_of_wide 3 Tryd.f3 rfl rfl rfl rfl rfl rfl rfl ⟨rfl, rfl, rfl, rfl, rfl⟩ rfl rfl rfl rfl rfl (by kernel_rfl) Tryd.func3 (by kernel_rfl)
    (of_decide_eq_true (by kernel_rfl)) (by unfold Func.isWrapper; first | (rw [if_pos (by decide +kernel)]; kernel_rfl) | (rw [if_neg (by decide +kernel)]; exact ⟨rfl, rfl⟩))
    (fun os started H enc _ => spreadWhole_lifted os started H enc)

theorem spreadWhole_holds : Rows.SpreadWholeCardSaid :=
  Claim7.holds_tied_plain_at .later [] [.handle] true (true, "df97e5668cfce99c9aa40a36a3cce52f14f9b3cd3bc841462aff98b910dcf5f9") true
    spreadWhole_row (fun _ h => by cases h) (by kernel_rfl) (fun _ h => by cases h) spreadWhole_row_tie rfl ⟨rfl, rfl⟩ (by kernel_rfl) rfl
    (fun f fn hf hfn => by
      obtain rfl : f = 3 := Option.some.inj ((show Tryd.prog.funcNamed Rows.spreadWholeRow.func = some 3 by kernel_rfl).symm.trans hf) |>.symm
      obtain rfl : fn = Tryd.f3 := (Option.some.inj (Tryd.func3.symm.trans hfn)).symm
      exact ⟨by kernel_rfl, fun j t ht => by
        rw [Tryd.params3] at ht
        rcases j with _ | j
        · obtain rfl : t = 26 := by simpa using ht.symm
          exact (show Tryd.prog.wantsStandIn 26 = false by kernel_rfl)
        rcases j with _ | j
        · obtain rfl : t = 28 := by simpa using ht.symm
          exact (show Tryd.prog.wantsStandIn 28 = false by kernel_rfl)
        rcases j with _ | j
        · obtain rfl : t = 3 := by simpa using ht.symm
          exact (show Tryd.prog.wantsStandIn 3 = false by kernel_rfl)
        · simp at ht⟩)
    (by kernel_rfl)
end Go.Proofs.YtmcpjebcffgboaaDoor
