/- Joined texts, part 14: HG HHa. -/
import Derived.Test.YtgfleifpblcnfaaGreatDoorZ12
import Derived.Deep.RegionHeld3
import Derived.Deep.CutRange
import Derived.Test.YtgfleifpblcnfaaGreatDoorZ10
import Derived.Test.YtgfleifpblcnfaaGreatDoorZ13
import Derived.Test.YtgfleifpblcnfaaGreatDoorZ02
import Derived.Test.YtgfleifpblcnfaaGreatDoorZ11
import Derived.BigQuiet
import Derived.Deep.QuietTactic

/- dunnageref04.Snapshot: the numbers of a snapshot. -/
namespace Go.Proofs.YtgfleifpblcnfaaGreatDoor
set_option linter.unusedSimpArgs false
open Go.RowKit
set_option linter.unusedVariables false

def RefRow (l : List Int) (w : World) (e : Ending) (w' : World) : Prop := ∃ v, e = .returned v ∧ w'.ownsRow w.heap.size 65 1 v (u64s l).length (u64s l) ∧ Below w.heap.size w w'
theorem ref_row_end {l : List Int} {B : Nat} {w w' : World} {v : Value} (hB : w.heap.size ≤ B) (ho : w'.ownsRow B 65 1 v (u64s l).length (u64s l)) (hb : Below w.heap.size w w') : RefRow l w (.returned v) w' := by
  refine ⟨v, rfl, ⟨ho.1, ?_⟩, hb⟩
  rcases ho.2 with h0 | ⟨g, cap, cur, hv, hbg, hg, rest⟩
  · exact .inl h0
  · exact .inr ⟨g, cap, cur, hv, Nat.le_trans hB hbg, hg, rest⟩
/-- A row that grows by records' numbers, one record behind the other. -/
def RowRel {α : Type} (K : Kind α) (pre : List Int) (xs : List α) (w W : World) (v i : Value) (wr : World) : Prop :=
  ∃ k : Nat, k ≤ xs.length ∧ i = .int .i64 k ∧
    wr.ownsRow (w.heap.size + 1) 65 1 v (u64s (pre ++ (xs.take k).flatMap K.nums)).length (u64s (pre ++ (xs.take k).flatMap K.nums)) ∧
    Below (w.heap.size + 1) W wr ∧ w.heap.size + 1 ≤ wr.heap.size
theorem own_all {α : Type} {K : Kind α} {pre L : List Int} {xs : List α} {k B : Nat} {wr : World} {v : Value} (h : wr.ownsRow B 65 1 v (u64s (pre ++ (xs.take k).flatMap K.nums)).length (u64s (pre ++ (xs.take k).flatMap K.nums))) (hk : xs.length ≤ k) (hL : pre ++ xs.flatMap K.nums = L) :
    wr.ownsRow B 65 1 v (u64s L).length (u64s L) := by
  rw [List.take_of_length_le hk, hL] at h; exact h
theorem own_none {α : Type} {K : Kind α} {pre : List Int} {xs : List α} {B : Nat} {wr : World} {v : Value} (h : wr.ownsRow B 65 1 v (u64s pre).length (u64s pre)) : wr.ownsRow B 65 1 v (u64s (pre ++ (xs.take 0).flatMap K.nums)).length (u64s (pre ++ (xs.take 0).flatMap K.nums)) := by
  simpa using h
theorem own_cat1 {L a L' : List Int} {B : Nat} {wr : World} {v : Value} (h : wr.ownsRow B 65 1 v (u64s L ++ u64s a).length (u64s L ++ u64s a)) (e : L ++ a = L') : wr.ownsRow B 65 1 v (u64s L').length (u64s L') := by
  subst e; simpa using h
theorem own_cat2 {L a b L' : List Int} {B : Nat} {wr : World} {v : Value} (h : wr.ownsRow B 65 1 v ((u64s L ++ u64s a) ++ u64s b).length ((u64s L ++ u64s a) ++ u64s b)) (e : L ++ (a ++ b) = L') : wr.ownsRow B 65 1 v (u64s L').length (u64s L') := by
  subst e; simpa [List.append_assoc] using h
theorem flat_step {α : Type} (K : Kind α) (pre : List Int) {xs : List α} {k : Nat} (hk : k < xs.length) {x : α} (hx : xs[k] = x) : pre ++ (xs.take k).flatMap K.nums ++ K.nums x = pre ++ (xs.take (k + 1)).flatMap K.nums := by
  rw [List.take_succ_eq_append_getElem hk, List.flatMap_append, hx]; simp
theorem flat_len {α : Type} (K : Kind α) (pre : List Int) (xs : List α) (k n : Nat) (hp : pre.length ≤ n) (hl : xs.length * K.size ≤ n) : (pre ++ (xs.take k).flatMap K.nums).length ≤ n + n := by
  have e : ((xs.take k).flatMap K.nums).length = (xs.take k).length * K.size := flat_length K _
  rw [List.length_append, e, List.length_take]
  have : min k xs.length * K.size ≤ xs.length * K.size := Nat.mul_le_mul_right _ (Nat.min_le_right _ _)
  omega
theorem mem_okn {α : Type} {p : α → Prop} {xs : List α} (h : ∀ x ∈ xs, p x) {k : Nat} (hk : k < xs.length) {x : α} (hx : xs[k] = x) : p x := hx ▸ h _ (List.getElem_mem hk)

set_option maxHeartbeats 12800000 in
set_option maxRecDepth 100000 in
theorem rSnapshot04_any (s : SnapD) (A1 A2 A3 : Option Addr) (n1 c1 n2 c2 n3 c3 : Nat) (w : World) (hn1 : n1 = s.nodes.length) (hn2 : n2 = s.loads.length) (hn3 : n3 = s.pods.length) (hl1 : n1 ≤ 40) (hl2 : n2 ≤ 40) (hl3 : n3 ≤ 40)
    (h1 : ∀ x ∈ s.nodes, OknN x) (h2 : ∀ x ∈ s.loads, OknL x) (h3 : ∀ x ∈ s.pods, OknP x)
    (hr1 : Recs 10 cellsN w w.heap.size A1 s.nodes) (hr2 : Recs 5 cellsL w w.heap.size A2 s.loads) (hr3 : Recs 8 cellsP w w.heap.size A3 s.pods) :
    Calls Tryz.prog 11 #[snapV A1 A2 A3 n1 c1 n2 c2 n3 c3] w (RefRow (snapNums s) w) := by
  have HN1 := Lib.hid hn1
  have HN2 := Lib.hid hn2
  have HN3 := Lib.hid hn3
  have HR1 := Lib.hid hr1
  have HR2 := Lib.hid hr2
  have HR3 := Lib.hid hr3
  have HK1 := Lib.hid h1
  have HK2 := Lib.hid h2
  have HK3 := Lib.hid h3
  have b00 : Below w.heap.size w (w.alloc (.cells #[.slice A1 n1 c1, .slice A2 n2 c2, .slice A3 n3 c3] 26)) := (Below.refl _ _).alloc (Nat.le_refl _) _
  have HB0 := Lib.hid b00
  clear hn1 hn2 hn3 hr1 hr2 hr3 h1 h2 h3 b00
  have hown0 := own_lit (w.alloc (.cells #[.slice A1 n1 c1, .slice A2 n2 c2, .slice A3 n3 c3] 26)) (w.heap.size + 1) 3 65 [.int .u64 (n1 : Int), .int .u64 (n2 : Int), .int .u64 (n3 : Int)] (by simp) rfl (by decide)
  have HO := Lib.hid (show ((w.alloc (.cells #[.slice A1 n1 c1, .slice A2 n2 c2, .slice A3 n3 c3] 26)).alloc (.cells #[.int .u64 (n1 : Int), .int .u64 (n2 : Int), .int .u64 (n3 : Int)] 65)).ownsRow (w.heap.size + 1) 65 1 (.slice (some ⟨w.heap.size + 1, 0, none⟩) 3 3) (u64s [(s.nodes.length : Int), (s.loads.length : Int), (s.pods.length : Int)]).length (u64s [(s.nodes.length : Int), (s.loads.length : Int), (s.pods.length : Int)]) by
    rw [← HN1.out, ← HN2.out, ← HN3.out]; simpa using hown0)
  clear hown0
  go_enter Tryz.func11, Tryz.ntmps11
  go_wp2
  go_loopw [3, 4] (RowRel nodeK [(s.nodes.length : Int), (s.loads.length : Int), (s.pods.length : Int)] s.nodes w (w.alloc (.cells #[.slice A1 n1 c1, .slice A2 n2 c2, .slice A3 n3 c3] 26))) (fun _ i _ => n1 - (intOf i).toNat)
  case atStart => exact ⟨0, by omega, rfl, own_none HO.out, (Below.refl _ _).alloc (by simp) _, by simp⟩
  case round =>
    obtain ⟨k, hk, rfl, hown, hbr, hzr0⟩ := hrel
    have HBR0 := Lib.hid hbr
    have HBW := Lib.hid (HB0.out.trans (hbr.mono (by omega)))
    have HOW := Lib.hid hown
    obtain ⟨b0, b1, b2⟩ := box_cells hbr
    have hbb : w.heap.size < wr.heap.size := by omega
    clear hbr hown
    by_cases hlt : k < n1
    · have hkl : k < s.nodes.length := by have := HN1.out; omega
      obtain ⟨b, o, rfl, hb, he⟩ := HR1.out.at hkl
      have HT := Lib.hid (fun x hx => flat_step nodeK [(s.nodes.length : Int), (s.loads.length : Int), (s.pods.length : Int)] hkl (x := x) hx)
      have HU : Hid (([(s.nodes.length : Int), (s.loads.length : Int), (s.pods.length : Int)] ++ (s.nodes.take k).flatMap nodeK.nums).length ≤ 2000) := by
        have a1 := HN1.out
        have a2 := HN2.out
        have a3 := HN3.out
        have e1 : (s.nodes.flatMap nodeK.nums).length = s.nodes.length * 10 := flat_length nodeK _
        have e2 : (s.loads.flatMap loadK.nums).length = s.loads.length * 5 := flat_length loadK _
        exact flat_len nodeK _ _ k 1000 (by simp only [List.length_append, List.length_cons, List.length_nil, e1, e2]; omega) (by show _ * 10 ≤ _; omega)
      have hok := mem_okn HK1.out hkl (x := s.nodes[k]) rfl
      generalize hx : s.nodes[k] = x at *
      have HX := Lib.hid hx
      clear hx
      have e0 : wr.cell? ⟨b, o + k * 10, none⟩ = some (.int .i64 x.id) := (HBW.out.cell (p := ⟨b, o + k * 10, none⟩) hb).trans (he 0 _ rfl)
      have e1 : wr.cell? ⟨b, o + k * 10 + 1, none⟩ = some (.int .i64 x.zone) := (HBW.out.cell (p := ⟨b, o + k * 10 + 1, none⟩) hb).trans (he 1 _ rfl)
      have e2 : wr.cell? ⟨b, o + k * 10 + 2, none⟩ = some (.int .u64 x.cap.a) := (HBW.out.cell (p := ⟨b, o + k * 10 + 2, none⟩) hb).trans (he 2 _ rfl)
      have e3 : wr.cell? ⟨b, o + k * 10 + 3, none⟩ = some (.int .u64 x.cap.b) := (HBW.out.cell (p := ⟨b, o + k * 10 + 3, none⟩) hb).trans (he 3 _ rfl)
      have e4 : wr.cell? ⟨b, o + k * 10 + 4, none⟩ = some (.int .u64 x.cap.c) := (HBW.out.cell (p := ⟨b, o + k * 10 + 4, none⟩) hb).trans (he 4 _ rfl)
      have e5 : wr.cell? ⟨b, o + k * 10 + 5, none⟩ = some (.int .u64 x.cap.d) := (HBW.out.cell (p := ⟨b, o + k * 10 + 5, none⟩) hb).trans (he 5 _ rfl)
      have e6 : wr.cell? ⟨b, o + k * 10 + 6, none⟩ = some (.int .u64 x.held.a) := (HBW.out.cell (p := ⟨b, o + k * 10 + 6, none⟩) hb).trans (he 6 _ rfl)
      have e7 : wr.cell? ⟨b, o + k * 10 + 7, none⟩ = some (.int .u64 x.held.b) := (HBW.out.cell (p := ⟨b, o + k * 10 + 7, none⟩) hb).trans (he 7 _ rfl)
      have e8 : wr.cell? ⟨b, o + k * 10 + 8, none⟩ = some (.int .u64 x.held.c) := (HBW.out.cell (p := ⟨b, o + k * 10 + 8, none⟩) hb).trans (he 8 _ rfl)
      have e9 : wr.cell? ⟨b, o + k * 10 + 9, none⟩ = some (.int .u64 x.held.d) := (HBW.out.cell (p := ⟨b, o + k * 10 + 9, none⟩) hb).trans (he 9 _ rfl)
      obtain ⟨⟨p0a, p0b⟩, ⟨p1a, p1b⟩⟩ := hok
      have z0 : x.id < 18446744073709551616 := by omega
      have v0 := wrap_u64 p0a z0
      have z1 : x.zone < 18446744073709551616 := by omega
      have v1 := wrap_u64 p1a z1
      have hbw : b < wr.heap.size := by omega
      have hk0 : (0 : Int) ≤ (k : Int) := by omega
      have hk1 : (k : Int) < (n1 : Int) := by omega
      clear he
      have HBN := Lib.hid (show Bx (wr.alloc (.cells #[.int .i64 x.id, .int .i64 x.zone, .int .u64 x.cap.a, .int .u64 x.cap.b, .int .u64 x.cap.c, .int .u64 x.cap.d, .int .u64 x.held.a, .int .u64 x.held.b, .int .u64 x.held.c, .int .u64 x.held.d] 71)) wr.heap.size (cellsN x) from Bx.new wr (cellsN x) 71)
      have HKB := Lib.hid (HBR0.out.alloc hzr0 (.cells #[.int .i64 x.id, .int .i64 x.zone, .int .u64 x.cap.a, .int .u64 x.cap.b, .int .u64 x.cap.c, .int .u64 x.cap.d, .int .u64 x.held.a, .int .u64 x.held.b, .int .u64 x.held.c, .int .u64 x.held.d] 71))
      have hzW : w.heap.size + 1 ≤ (wr.alloc (.cells #[.int .i64 x.id, .int .i64 x.zone, .int .u64 x.cap.a, .int .u64 x.cap.b, .int .u64 x.cap.c, .int .u64 x.cap.d, .int .u64 x.held.a, .int .u64 x.held.b, .int .u64 x.held.c, .int .u64 x.held.d] 71)).heap.size := by simp; omega
      have HZW := Lib.hid hzW
      have HOWN := Lib.hid (HOW.out.alloc (.cells #[.int .i64 x.id, .int .i64 x.zone, .int .u64 x.cap.a, .int .u64 x.cap.b, .int .u64 x.cap.c, .int .u64 x.cap.d, .int .u64 x.held.a, .int .u64 x.held.b, .int .u64 x.held.c, .int .u64 x.held.d] 71))
      have HNE : Hid (∀ (v : Value) (n : Nat) (xs : List Value), wr.ownsRow (w.heap.size + 1) 65 1 v n xs → v.ownBlock ≠ some wr.heap.size) := fun v n xs ho e => by have := (ho.lt _ e).2; omega
      have hyb : wr.heap.size < (wr.alloc (.cells #[.int .i64 x.id, .int .i64 x.zone, .int .u64 x.cap.a, .int .u64 x.cap.b, .int .u64 x.cap.c, .int .u64 x.cap.d, .int .u64 x.held.a, .int .u64 x.held.b, .int .u64 x.held.c, .int .u64 x.held.d] 71)).heap.size := by simp
      have c0 : (wr.alloc (.cells #[.int .i64 x.id, .int .i64 x.zone, .int .u64 x.cap.a, .int .u64 x.cap.b, .int .u64 x.cap.c, .int .u64 x.cap.d, .int .u64 x.held.a, .int .u64 x.held.b, .int .u64 x.held.c, .int .u64 x.held.d] 71)).cell? ⟨wr.heap.size, 0, none⟩ = some (.int .i64 x.id) := by simp
      have c1 : (wr.alloc (.cells #[.int .i64 x.id, .int .i64 x.zone, .int .u64 x.cap.a, .int .u64 x.cap.b, .int .u64 x.cap.c, .int .u64 x.cap.d, .int .u64 x.held.a, .int .u64 x.held.b, .int .u64 x.held.c, .int .u64 x.held.d] 71)).cell? ⟨wr.heap.size, 1, none⟩ = some (.int .i64 x.zone) := by simp
      have c2 : (wr.alloc (.cells #[.int .i64 x.id, .int .i64 x.zone, .int .u64 x.cap.a, .int .u64 x.cap.b, .int .u64 x.cap.c, .int .u64 x.cap.d, .int .u64 x.held.a, .int .u64 x.held.b, .int .u64 x.held.c, .int .u64 x.held.d] 71)).cell? ⟨wr.heap.size, 2, none⟩ = some (.int .u64 x.cap.a) := by simp
      have c3 : (wr.alloc (.cells #[.int .i64 x.id, .int .i64 x.zone, .int .u64 x.cap.a, .int .u64 x.cap.b, .int .u64 x.cap.c, .int .u64 x.cap.d, .int .u64 x.held.a, .int .u64 x.held.b, .int .u64 x.held.c, .int .u64 x.held.d] 71)).cell? ⟨wr.heap.size, 3, none⟩ = some (.int .u64 x.cap.b) := by simp
      have c4 : (wr.alloc (.cells #[.int .i64 x.id, .int .i64 x.zone, .int .u64 x.cap.a, .int .u64 x.cap.b, .int .u64 x.cap.c, .int .u64 x.cap.d, .int .u64 x.held.a, .int .u64 x.held.b, .int .u64 x.held.c, .int .u64 x.held.d] 71)).cell? ⟨wr.heap.size, 4, none⟩ = some (.int .u64 x.cap.c) := by simp
      have c5 : (wr.alloc (.cells #[.int .i64 x.id, .int .i64 x.zone, .int .u64 x.cap.a, .int .u64 x.cap.b, .int .u64 x.cap.c, .int .u64 x.cap.d, .int .u64 x.held.a, .int .u64 x.held.b, .int .u64 x.held.c, .int .u64 x.held.d] 71)).cell? ⟨wr.heap.size, 5, none⟩ = some (.int .u64 x.cap.d) := by simp
      have c6 : (wr.alloc (.cells #[.int .i64 x.id, .int .i64 x.zone, .int .u64 x.cap.a, .int .u64 x.cap.b, .int .u64 x.cap.c, .int .u64 x.cap.d, .int .u64 x.held.a, .int .u64 x.held.b, .int .u64 x.held.c, .int .u64 x.held.d] 71)).cell? ⟨wr.heap.size, 6, none⟩ = some (.int .u64 x.held.a) := by simp
      have c7 : (wr.alloc (.cells #[.int .i64 x.id, .int .i64 x.zone, .int .u64 x.cap.a, .int .u64 x.cap.b, .int .u64 x.cap.c, .int .u64 x.cap.d, .int .u64 x.held.a, .int .u64 x.held.b, .int .u64 x.held.c, .int .u64 x.held.d] 71)).cell? ⟨wr.heap.size, 7, none⟩ = some (.int .u64 x.held.b) := by simp
      have c8 : (wr.alloc (.cells #[.int .i64 x.id, .int .i64 x.zone, .int .u64 x.cap.a, .int .u64 x.cap.b, .int .u64 x.cap.c, .int .u64 x.cap.d, .int .u64 x.held.a, .int .u64 x.held.b, .int .u64 x.held.c, .int .u64 x.held.d] 71)).cell? ⟨wr.heap.size, 8, none⟩ = some (.int .u64 x.held.c) := by simp
      have c9 : (wr.alloc (.cells #[.int .i64 x.id, .int .i64 x.zone, .int .u64 x.cap.a, .int .u64 x.cap.b, .int .u64 x.cap.c, .int .u64 x.cap.d, .int .u64 x.held.a, .int .u64 x.held.b, .int .u64 x.held.c, .int .u64 x.held.d] 71)).cell? ⟨wr.heap.size, 9, none⟩ = some (.int .u64 x.held.d) := by simp
      have HZW2 : Hid (wr.heap.size < (wr.alloc (.cells #[.int .i64 x.id, .int .i64 x.zone, .int .u64 x.cap.a, .int .u64 x.cap.b, .int .u64 x.cap.c, .int .u64 x.cap.d, .int .u64 x.held.a, .int .u64 x.held.b, .int .u64 x.held.c, .int .u64 x.held.d] 71)).heap.size) := hyb
      have HL1 : Hid ((u64s ([(s.nodes.length : Int), (s.loads.length : Int), (s.pods.length : Int)] ++ (s.nodes.take k).flatMap nodeK.nums)).length + (u64s [x.id, x.zone]).length ≤ 2000000) := by have := HU.out; show _ ≤ _; rw [List.length_map, List.length_map]; simp only [List.length_cons, List.length_nil]; omega
      have HL2 : Hid ((u64s ([(s.nodes.length : Int), (s.loads.length : Int), (s.pods.length : Int)] ++ (s.nodes.take k).flatMap nodeK.nums) ++ u64s [x.id, x.zone]).length + (u64s [x.cap.a, x.cap.b, x.cap.c, x.cap.d, x.held.a, x.held.b, x.held.c, x.held.d]).length ≤ 2000000) := by have := HU.out; show _ ≤ _; rw [List.length_append, List.length_map, List.length_map, List.length_map]; simp only [List.length_cons, List.length_nil]; omega
      clear hzW
      go_upto_region 6 with fail
      generalize (wr.alloc (.cells #[.int .i64 x.id, .int .i64 x.zone, .int .u64 x.cap.a, .int .u64 x.cap.b, .int .u64 x.cap.c, .int .u64 x.cap.d, .int .u64 x.held.a, .int .u64 x.held.b, .int .u64 x.held.c, .int .u64 x.held.d] 71)) = W at *
      go_upto_region 7 with (at_builtin; refine wpList_lit 38 65 (.int .u64 0) 8 Tryz.underlying38 Tryz.info65 rfl (by decide) rfl (.tmp 35) (.tmp 42) rfl (w.heap.size + 1) _ _ (u64s [x.id, x.zone]) (one_u64s _) HOWN.out HZW.out HL1.out rfl rfl rfl ?_; intro v2 w2 hown2 hb2 hB2 hbx2)
      have hbn := hbx2 wr.heap.size (cellsN x) (by have := HZW.out; omega) (HNE.out _ _ _ HOW.out) HBN.out
      have d2 := hbn.at 2 (.int .u64 x.cap.a) rfl
      have d3 := hbn.at 3 (.int .u64 x.cap.b) rfl
      have d4 := hbn.at 4 (.int .u64 x.cap.c) rfl
      have d5 := hbn.at 5 (.int .u64 x.cap.d) rfl
      have d6 := hbn.at 6 (.int .u64 x.held.a) rfl
      have d7 := hbn.at 7 (.int .u64 x.held.b) rfl
      have d8 := hbn.at 8 (.int .u64 x.held.c) rfl
      have d9 := hbn.at 9 (.int .u64 x.held.d) rfl
      have hzz : wr.heap.size < w2.heap.size := hbn.1
      have HO2 := Lib.hid hown2
      have HB2 := Lib.hid hb2
      have HZ2 := Lib.hid hB2
      clear hown2 hb2 hbx2 hbn hB2
      go_wp2_with (at_builtin; refine wpList_lit 38 65 (.int .u64 0) 8 Tryz.underlying38 Tryz.info65 rfl (by decide) rfl (.tmp 44) (.tmp 69) rfl (w.heap.size + 1) _ _ (u64s [x.cap.a, x.cap.b, x.cap.c, x.cap.d, x.held.a, x.held.b, x.held.c, x.held.d]) (one_u64s _) HO2.out HZ2.out HL2.out rfl rfl rfl ?_; intro v3 w3 hown3 hb3 hB3 hbx3)
      go_roundw
      case rel => exact ⟨k + 1, by omega, by go_num, own_cat2 hown3 (HT.out x rfl), (HKB.out.trans HB2.out).trans hb3, hB3⟩
      case measure => simp [intOf]; omega
    · have HOW0 := Lib.hid (own_all HOW.out (by have := HN1.out; omega) (L := ([(s.nodes.length : Int), (s.loads.length : Int), (s.pods.length : Int)] ++ s.nodes.flatMap nodeK.nums)) rfl)
      clear HOW
      go_wp2
      go_loopw [3, 6] (RowRel loadK ([(s.nodes.length : Int), (s.loads.length : Int), (s.pods.length : Int)] ++ s.nodes.flatMap nodeK.nums) s.loads w (w.alloc (.cells #[.slice A1 n1 c1, .slice A2 n2 c2, .slice A3 n3 c3] 26))) (fun _ i _ => n2 - (intOf i).toNat)
      case atStart => exact ⟨0, by omega, rfl, own_none HOW0.out, HBR0.out, hzr0⟩
      case round =>
        clear b0 b1 b2 hlt hk hbb
        obtain ⟨k, hk, rfl, hown, hbr, hzr1⟩ := hrel
        have HBR1 := Lib.hid hbr
        have HBW := Lib.hid (HB0.out.trans (hbr.mono (by omega)))
        have HOW := Lib.hid hown
        obtain ⟨b0, b1, b2⟩ := box_cells hbr
        have hbb : w.heap.size < wr.heap.size := by omega
        clear hbr hown
        by_cases hlt : k < n2
        · have hkl : k < s.loads.length := by have := HN2.out; omega
          obtain ⟨b, o, rfl, hb, he⟩ := HR2.out.at hkl
          have HT := Lib.hid (fun x hx => flat_step loadK ([(s.nodes.length : Int), (s.loads.length : Int), (s.pods.length : Int)] ++ s.nodes.flatMap nodeK.nums) hkl (x := x) hx)
          have HU : Hid ((([(s.nodes.length : Int), (s.loads.length : Int), (s.pods.length : Int)] ++ s.nodes.flatMap nodeK.nums) ++ (s.loads.take k).flatMap loadK.nums).length ≤ 2000) := by
            have a1 := HN1.out
            have a2 := HN2.out
            have a3 := HN3.out
            have e1 : (s.nodes.flatMap nodeK.nums).length = s.nodes.length * 10 := flat_length nodeK _
            have e2 : (s.loads.flatMap loadK.nums).length = s.loads.length * 5 := flat_length loadK _
            exact flat_len loadK _ _ k 1000 (by simp only [List.length_append, List.length_cons, List.length_nil, e1, e2]; omega) (by show _ * 5 ≤ _; omega)
          have hok := mem_okn HK2.out hkl (x := s.loads[k]) rfl
          generalize hx : s.loads[k] = x at *
          have HX := Lib.hid hx
          clear hx
          have e0 : wr.cell? ⟨b, o + k * 5, none⟩ = some (.int .i64 x.id) := (HBW.out.cell (p := ⟨b, o + k * 5, none⟩) hb).trans (he 0 _ rfl)
          have e1 : wr.cell? ⟨b, o + k * 5 + 1, none⟩ = some (.bool x.apart) := (HBW.out.cell (p := ⟨b, o + k * 5 + 1, none⟩) hb).trans (he 1 _ rfl)
          have e2 : wr.cell? ⟨b, o + k * 5 + 2, none⟩ = some (.int .i64 x.skew) := (HBW.out.cell (p := ⟨b, o + k * 5 + 2, none⟩) hb).trans (he 2 _ rfl)
          have e3 : wr.cell? ⟨b, o + k * 5 + 3, none⟩ = some (.int .i64 x.min) := (HBW.out.cell (p := ⟨b, o + k * 5 + 3, none⟩) hb).trans (he 3 _ rfl)
          have e4 : wr.cell? ⟨b, o + k * 5 + 4, none⟩ = some (.int .i64 x.max) := (HBW.out.cell (p := ⟨b, o + k * 5 + 4, none⟩) hb).trans (he 4 _ rfl)
          obtain ⟨⟨p0a, p0b⟩, ⟨p1a, p1b⟩, ⟨p2a, p2b⟩, ⟨p3a, p3b⟩⟩ := hok
          have z0 : x.id < 18446744073709551616 := by omega
          have v0 := wrap_u64 p0a z0
          have z1 : x.skew < 18446744073709551616 := by omega
          have v1 := wrap_u64 p1a z1
          have z2 : x.min < 18446744073709551616 := by omega
          have v2 := wrap_u64 p2a z2
          have z3 : x.max < 18446744073709551616 := by omega
          have v3 := wrap_u64 p3a z3
          have hbw : b < wr.heap.size := by omega
          have hk0 : (0 : Int) ≤ (k : Int) := by omega
          have hk1 : (k : Int) < (n2 : Int) := by omega
          clear he
          have HBN := Lib.hid (show Bx (wr.alloc (.cells #[.int .i64 x.id, .bool x.apart, .int .i64 x.skew, .int .i64 x.min, .int .i64 x.max] 75)) wr.heap.size (cellsL x) from Bx.new wr (cellsL x) 75)
          have HKB := Lib.hid (HBR1.out.alloc hzr1 (.cells #[.int .i64 x.id, .bool x.apart, .int .i64 x.skew, .int .i64 x.min, .int .i64 x.max] 75))
          have hzW : w.heap.size + 1 ≤ (wr.alloc (.cells #[.int .i64 x.id, .bool x.apart, .int .i64 x.skew, .int .i64 x.min, .int .i64 x.max] 75)).heap.size := by simp; omega
          have HZW := Lib.hid hzW
          have HOWN := Lib.hid (HOW.out.alloc (.cells #[.int .i64 x.id, .bool x.apart, .int .i64 x.skew, .int .i64 x.min, .int .i64 x.max] 75))
          have HNE : Hid (∀ (v : Value) (n : Nat) (xs : List Value), wr.ownsRow (w.heap.size + 1) 65 1 v n xs → v.ownBlock ≠ some wr.heap.size) := fun v n xs ho e => by have := (ho.lt _ e).2; omega
          have hyb : wr.heap.size < (wr.alloc (.cells #[.int .i64 x.id, .bool x.apart, .int .i64 x.skew, .int .i64 x.min, .int .i64 x.max] 75)).heap.size := by simp
          have c0 : (wr.alloc (.cells #[.int .i64 x.id, .bool x.apart, .int .i64 x.skew, .int .i64 x.min, .int .i64 x.max] 75)).cell? ⟨wr.heap.size, 0, none⟩ = some (.int .i64 x.id) := by simp
          have c1 : (wr.alloc (.cells #[.int .i64 x.id, .bool x.apart, .int .i64 x.skew, .int .i64 x.min, .int .i64 x.max] 75)).cell? ⟨wr.heap.size, 1, none⟩ = some (.bool x.apart) := by simp
          have c2 : (wr.alloc (.cells #[.int .i64 x.id, .bool x.apart, .int .i64 x.skew, .int .i64 x.min, .int .i64 x.max] 75)).cell? ⟨wr.heap.size, 2, none⟩ = some (.int .i64 x.skew) := by simp
          have c3 : (wr.alloc (.cells #[.int .i64 x.id, .bool x.apart, .int .i64 x.skew, .int .i64 x.min, .int .i64 x.max] 75)).cell? ⟨wr.heap.size, 3, none⟩ = some (.int .i64 x.min) := by simp
          have c4 : (wr.alloc (.cells #[.int .i64 x.id, .bool x.apart, .int .i64 x.skew, .int .i64 x.min, .int .i64 x.max] 75)).cell? ⟨wr.heap.size, 4, none⟩ = some (.int .i64 x.max) := by simp
          obtain ⟨q, hq⟩ : ∃ q, (u64s (([(s.nodes.length : Int), (s.loads.length : Int), (s.pods.length : Int)] ++ s.nodes.flatMap nodeK.nums) ++ (s.loads.take k).flatMap loadK.nums)).length = q := ⟨_, rfl⟩
          have HQ : Hid (q + 5 ≤ 2000000) := by have := HU.out; show _ ≤ _; rw [← hq, List.length_map]; omega
          have HOWN := Lib.hid (own_len HOWN.out hq.symm)
          have hne : ∀ v : Value, wr.ownsRow (w.heap.size + 1) 65 1 v (u64s (([(s.nodes.length : Int), (s.loads.length : Int), (s.pods.length : Int)] ++ s.nodes.flatMap nodeK.nums) ++ (s.loads.take k).flatMap loadK.nums)).length (u64s (([(s.nodes.length : Int), (s.loads.length : Int), (s.pods.length : Int)] ++ s.nodes.flatMap nodeK.nums) ++ (s.loads.take k).flatMap loadK.nums)) → some wr.heap.size ≠ v.ownBlock := fun v ho e => HNE.out _ _ _ ho e.symm
          have HNE2 := Lib.hid (hne _ HOW.out)
          clear hne hq
          go_wp2
          generalize (wr.alloc (.cells #[.int .i64 x.id, .bool x.apart, .int .i64 x.skew, .int .i64 x.min, .int .i64 x.max] 75)) = W at *
          go_region_held3 (fun w' => (∀ o, w'.cell? ⟨wr.heap.size, o, none⟩ = W.cell? ⟨wr.heap.size, o, none⟩) ∧ W.heap.size ≤ w'.heap.size)
            (first | (with_reducible assumption) | (show SameBox W wr.heap.size _; with_reducible (repeat (first | exact SameBox.refl _ _ | assumption | refine SameBox.drew ?_ | refine SameBox.alloc ?_ hyb _))))
            (first
              | (go_at_call 40; refine (rtruth04_any _ _).mono ?_; rintro e w' ⟨rfl, rfl⟩)
              | (refine step_lit 38 65 (.int .u64 0) 1 8 Tryz.underlying38 Tryz.info65 rfl (by decide) (by decide) rfl (.tmp 83) (.tmp 99) rfl (g := W.heap.size) (w.heap.size + 1) _ _ (u64s (loadK.nums x)) (one_u64s _) (HOWN.out.alloc _) (by simp; omega) HQ.out rfl rfl rfl (by decide) (lit_cells W (u64s (loadK.nums x)) 65) ?_; intro A' c' w2 hown2 hb2 hB2 hbx2 hsz2; have hsb : SameBox W wr.heap.size w2 := SameBox.far (by assumption) hbx2 hsz2 HNE2.out hyb; clear hbx2))
          all_goals
            go_wp2
            go_roundw
            case rel => exact ⟨k + 1, by omega, by go_num, lit_end hown2 (HT.out x rfl), (HKB.out.alloc hzW _).drew.trans hb2, hB2⟩
            case measure => simp [intOf]; omega
        · have HOW1 := Lib.hid (own_all HOW.out (by have := HN2.out; omega) (L := (([(s.nodes.length : Int), (s.loads.length : Int), (s.pods.length : Int)] ++ s.nodes.flatMap nodeK.nums) ++ s.loads.flatMap loadK.nums)) rfl)
          clear HOW
          go_wp2
          go_loopw [3, 8] (RowRel podK (([(s.nodes.length : Int), (s.loads.length : Int), (s.pods.length : Int)] ++ s.nodes.flatMap nodeK.nums) ++ s.loads.flatMap loadK.nums) s.pods w (w.alloc (.cells #[.slice A1 n1 c1, .slice A2 n2 c2, .slice A3 n3 c3] 26))) (fun _ i _ => n3 - (intOf i).toNat)
          case atStart => exact ⟨0, by omega, rfl, own_none HOW1.out, HBR1.out, hzr1⟩
          case round =>
            clear b0 b1 b2 hlt hk hbb
            obtain ⟨k, hk, rfl, hown, hbr, hzr2⟩ := hrel
            have HBR2 := Lib.hid hbr
            have HBW := Lib.hid (HB0.out.trans (hbr.mono (by omega)))
            have HOW := Lib.hid hown
            obtain ⟨b0, b1, b2⟩ := box_cells hbr
            have hbb : w.heap.size < wr.heap.size := by omega
            clear hbr hown
            by_cases hlt : k < n3
            · have hkl : k < s.pods.length := by have := HN3.out; omega
              obtain ⟨b, o, rfl, hb, he⟩ := HR3.out.at hkl
              have HT := Lib.hid (fun x hx => flat_step podK (([(s.nodes.length : Int), (s.loads.length : Int), (s.pods.length : Int)] ++ s.nodes.flatMap nodeK.nums) ++ s.loads.flatMap loadK.nums) hkl (x := x) hx)
              have HU : Hid (((([(s.nodes.length : Int), (s.loads.length : Int), (s.pods.length : Int)] ++ s.nodes.flatMap nodeK.nums) ++ s.loads.flatMap loadK.nums) ++ (s.pods.take k).flatMap podK.nums).length ≤ 2000) := by
                have a1 := HN1.out
                have a2 := HN2.out
                have a3 := HN3.out
                have e1 : (s.nodes.flatMap nodeK.nums).length = s.nodes.length * 10 := flat_length nodeK _
                have e2 : (s.loads.flatMap loadK.nums).length = s.loads.length * 5 := flat_length loadK _
                exact flat_len podK _ _ k 1000 (by simp only [List.length_append, List.length_cons, List.length_nil, e1, e2]; omega) (by show _ * 8 ≤ _; omega)
              have hok := mem_okn HK3.out hkl (x := s.pods[k]) rfl
              generalize hx : s.pods[k] = x at *
              have HX := Lib.hid hx
              clear hx
              have e0 : wr.cell? ⟨b, o + k * 8, none⟩ = some (.int .i64 x.id) := (HBW.out.cell (p := ⟨b, o + k * 8, none⟩) hb).trans (he 0 _ rfl)
              have e1 : wr.cell? ⟨b, o + k * 8 + 1, none⟩ = some (.int .i64 x.load) := (HBW.out.cell (p := ⟨b, o + k * 8 + 1, none⟩) hb).trans (he 1 _ rfl)
              have e2 : wr.cell? ⟨b, o + k * 8 + 2, none⟩ = some (.int .i64 x.prio) := (HBW.out.cell (p := ⟨b, o + k * 8 + 2, none⟩) hb).trans (he 2 _ rfl)
              have e3 : wr.cell? ⟨b, o + k * 8 + 3, none⟩ = some (.int .u64 x.req.a) := (HBW.out.cell (p := ⟨b, o + k * 8 + 3, none⟩) hb).trans (he 3 _ rfl)
              have e4 : wr.cell? ⟨b, o + k * 8 + 4, none⟩ = some (.int .u64 x.req.b) := (HBW.out.cell (p := ⟨b, o + k * 8 + 4, none⟩) hb).trans (he 4 _ rfl)
              have e5 : wr.cell? ⟨b, o + k * 8 + 5, none⟩ = some (.int .u64 x.req.c) := (HBW.out.cell (p := ⟨b, o + k * 8 + 5, none⟩) hb).trans (he 5 _ rfl)
              have e6 : wr.cell? ⟨b, o + k * 8 + 6, none⟩ = some (.int .u64 x.req.d) := (HBW.out.cell (p := ⟨b, o + k * 8 + 6, none⟩) hb).trans (he 6 _ rfl)
              have e7 : wr.cell? ⟨b, o + k * 8 + 7, none⟩ = some (.int .i64 x.node) := (HBW.out.cell (p := ⟨b, o + k * 8 + 7, none⟩) hb).trans (he 7 _ rfl)
              obtain ⟨⟨p0a, p0b⟩, ⟨p1a, p1b⟩, ⟨p2a, p2b⟩, ⟨p3a, p3b⟩⟩ := hok
              have z0 : x.id < 18446744073709551616 := by omega
              have v0 := wrap_u64 p0a z0
              have z1 : x.load < 18446744073709551616 := by omega
              have v1 := wrap_u64 p1a z1
              have z2 : x.prio < 18446744073709551616 := by omega
              have v2 := wrap_u64 p2a z2
              have z3 : x.node < 18446744073709551616 := by omega
              have v3 := wrap_u64 p3a z3
              have hbw : b < wr.heap.size := by omega
              have hk0 : (0 : Int) ≤ (k : Int) := by omega
              have hk1 : (k : Int) < (n3 : Int) := by omega
              clear he
              have HBN := Lib.hid (show Bx (wr.alloc (.cells #[.int .i64 x.id, .int .i64 x.load, .int .i64 x.prio, .int .u64 x.req.a, .int .u64 x.req.b, .int .u64 x.req.c, .int .u64 x.req.d, .int .i64 x.node] 79)) wr.heap.size (cellsP x) from Bx.new wr (cellsP x) 79)
              have HKB := Lib.hid (HBR2.out.alloc hzr2 (.cells #[.int .i64 x.id, .int .i64 x.load, .int .i64 x.prio, .int .u64 x.req.a, .int .u64 x.req.b, .int .u64 x.req.c, .int .u64 x.req.d, .int .i64 x.node] 79))
              have hzW : w.heap.size + 1 ≤ (wr.alloc (.cells #[.int .i64 x.id, .int .i64 x.load, .int .i64 x.prio, .int .u64 x.req.a, .int .u64 x.req.b, .int .u64 x.req.c, .int .u64 x.req.d, .int .i64 x.node] 79)).heap.size := by simp; omega
              have HZW := Lib.hid hzW
              have HOWN := Lib.hid (HOW.out.alloc (.cells #[.int .i64 x.id, .int .i64 x.load, .int .i64 x.prio, .int .u64 x.req.a, .int .u64 x.req.b, .int .u64 x.req.c, .int .u64 x.req.d, .int .i64 x.node] 79))
              have HNE : Hid (∀ (v : Value) (n : Nat) (xs : List Value), wr.ownsRow (w.heap.size + 1) 65 1 v n xs → v.ownBlock ≠ some wr.heap.size) := fun v n xs ho e => by have := (ho.lt _ e).2; omega
              have hyb : wr.heap.size < (wr.alloc (.cells #[.int .i64 x.id, .int .i64 x.load, .int .i64 x.prio, .int .u64 x.req.a, .int .u64 x.req.b, .int .u64 x.req.c, .int .u64 x.req.d, .int .i64 x.node] 79)).heap.size := by simp
              have c0 : (wr.alloc (.cells #[.int .i64 x.id, .int .i64 x.load, .int .i64 x.prio, .int .u64 x.req.a, .int .u64 x.req.b, .int .u64 x.req.c, .int .u64 x.req.d, .int .i64 x.node] 79)).cell? ⟨wr.heap.size, 0, none⟩ = some (.int .i64 x.id) := by simp
              have c1 : (wr.alloc (.cells #[.int .i64 x.id, .int .i64 x.load, .int .i64 x.prio, .int .u64 x.req.a, .int .u64 x.req.b, .int .u64 x.req.c, .int .u64 x.req.d, .int .i64 x.node] 79)).cell? ⟨wr.heap.size, 1, none⟩ = some (.int .i64 x.load) := by simp
              have c2 : (wr.alloc (.cells #[.int .i64 x.id, .int .i64 x.load, .int .i64 x.prio, .int .u64 x.req.a, .int .u64 x.req.b, .int .u64 x.req.c, .int .u64 x.req.d, .int .i64 x.node] 79)).cell? ⟨wr.heap.size, 2, none⟩ = some (.int .i64 x.prio) := by simp
              have c3 : (wr.alloc (.cells #[.int .i64 x.id, .int .i64 x.load, .int .i64 x.prio, .int .u64 x.req.a, .int .u64 x.req.b, .int .u64 x.req.c, .int .u64 x.req.d, .int .i64 x.node] 79)).cell? ⟨wr.heap.size, 3, none⟩ = some (.int .u64 x.req.a) := by simp
              have c4 : (wr.alloc (.cells #[.int .i64 x.id, .int .i64 x.load, .int .i64 x.prio, .int .u64 x.req.a, .int .u64 x.req.b, .int .u64 x.req.c, .int .u64 x.req.d, .int .i64 x.node] 79)).cell? ⟨wr.heap.size, 4, none⟩ = some (.int .u64 x.req.b) := by simp
              have c5 : (wr.alloc (.cells #[.int .i64 x.id, .int .i64 x.load, .int .i64 x.prio, .int .u64 x.req.a, .int .u64 x.req.b, .int .u64 x.req.c, .int .u64 x.req.d, .int .i64 x.node] 79)).cell? ⟨wr.heap.size, 5, none⟩ = some (.int .u64 x.req.c) := by simp
              have c6 : (wr.alloc (.cells #[.int .i64 x.id, .int .i64 x.load, .int .i64 x.prio, .int .u64 x.req.a, .int .u64 x.req.b, .int .u64 x.req.c, .int .u64 x.req.d, .int .i64 x.node] 79)).cell? ⟨wr.heap.size, 6, none⟩ = some (.int .u64 x.req.d) := by simp
              have c7 : (wr.alloc (.cells #[.int .i64 x.id, .int .i64 x.load, .int .i64 x.prio, .int .u64 x.req.a, .int .u64 x.req.b, .int .u64 x.req.c, .int .u64 x.req.d, .int .i64 x.node] 79)).cell? ⟨wr.heap.size, 7, none⟩ = some (.int .i64 x.node) := by simp
              have HZW2 : Hid (wr.heap.size < (wr.alloc (.cells #[.int .i64 x.id, .int .i64 x.load, .int .i64 x.prio, .int .u64 x.req.a, .int .u64 x.req.b, .int .u64 x.req.c, .int .u64 x.req.d, .int .i64 x.node] 79)).heap.size) := hyb
              have HL1 : Hid ((u64s ((([(s.nodes.length : Int), (s.loads.length : Int), (s.pods.length : Int)] ++ s.nodes.flatMap nodeK.nums) ++ s.loads.flatMap loadK.nums) ++ (s.pods.take k).flatMap podK.nums)).length + (u64s (podK.nums x)).length ≤ 2000000) := by have := HU.out; show _ ≤ _; rw [List.length_map, List.length_map]; have e8 : (podK.nums x).length = 8 := rfl; omega
              clear hzW
              go_upto_region 17 with fail
              generalize (wr.alloc (.cells #[.int .i64 x.id, .int .i64 x.load, .int .i64 x.prio, .int .u64 x.req.a, .int .u64 x.req.b, .int .u64 x.req.c, .int .u64 x.req.d, .int .i64 x.node] 79)) = W at *
              go_wp2_with (at_builtin; refine wpList_lit 38 65 (.int .u64 0) 8 Tryz.underlying38 Tryz.info65 rfl (by decide) rfl (.tmp 113) (.tmp 138) rfl (w.heap.size + 1) _ _ (u64s (podK.nums x)) (one_u64s _) HOWN.out HZW.out HL1.out rfl rfl rfl ?_; intro v2 w2 hown2 hb2 hB2 hbx2)
              go_roundw
              case rel => exact ⟨k + 1, by omega, by go_num, own_cat1 hown2 (HT.out x rfl), HKB.out.trans hb2, hB2⟩
              case measure => simp [intOf]; omega
            · have HOW2 := Lib.hid (own_all HOW.out (by have := HN3.out; omega) (L := (snapNums s)) (by simp [snapNums, List.append_assoc]))
              go_wp2
              go_ret
              exact ref_row_end (by omega) HOW2.out HBW.out
end Go.Proofs.YtgfleifpblcnfaaGreatDoor

namespace Go.Proofs.YtgfleifpblcnfaaGreatDoor
set_option linter.unusedSimpArgs false
open Go.RowKit
set_option linter.unusedVariables false

def RNTo (R : SnapD × Int × Int) (w : World) (e : Ending) (w' : World) : Prop :=
  ∃ A1 A2 A3 c1 c2 c3, e = .returned (.tuple #[snapV A1 A2 A3 R.1.nodes.length c1 R.1.loads.length c2 R.1.pods.length c3, .int .i64 R.2.1, .int .i64 R.2.2]) ∧ Out 10 cellsN w' R.1.nodes A1 c1 ∧ Out 5 cellsL w' R.1.loads A2 c2 ∧ Out 8 cellsP w' R.1.pods A3 c3 ∧ Below w.heap.size w w'
theorem rnTo_err {R : SnapD × Int × Int} {a b : Int} {w w' : World} (h : R = (noSnap, a, b)) (hb : Below w.heap.size w w') : RNTo R w (.returned (.tuple #[.agg #[.slice none 0 0, .slice none 0 0, .slice none 0 0], .int .i64 a, .int .i64 b])) w' := by
  subst h; exact ⟨none, none, none, 0, 0, 0, rfl, .nil rfl, .nil rfl, .nil rfl, hb⟩
/-- Records are being read, one behind the other, into a field of the call's own box. -/
def BxRel {α : Type} (K : Kind α) (T : TypeId) (size : Nat) (cells : α → List Value) (l : List Int) (base cnt : Nat) (f0 : Bool) (xb : Nat) (S : Value → List Value) (W : World) (v p i : Value) (wr : World) : Prop :=
  ∃ (k : Nat) (xs : List α) (A : Option Addr) (c : Nat) (f : Bool) (q : Nat), k ≤ cnt ∧ i = .int .i64 k ∧ q = base + k * size ∧ p = .int .i64 q ∧ v = .bool f ∧ f = (f0 && fine K k (l.drop base)) ∧ (fine K k (l.drop base) = true → xs = parse K k (l.drop base)) ∧ xs.length = k ∧
    Box wr xb (S (.slice A k c)) ∧ wr.ownsRow W.heap.size T size (.slice A k c) k (xs.flatMap cells) ∧ Turn xb W wr
theorem bx_start {α : Type} {K : Kind α} {T : TypeId} {size : Nat} {cells : α → List Value} {l : List Int} {base cnt : Nat} {f0 : Bool} {xb : Nat} {S : Value → List Value} {W : World} (h : Box W xb (S (.slice none 0 0))) :
    BxRel K T size cells l base cnt f0 xb S W (.bool f0) (.int .i64 base) (.int .i64 0) W :=
  ⟨0, [], none, 0, f0, base, Nat.zero_le _, rfl, by simp, rfl, rfl, by simp [fine], fun _ => rfl, rfl, h, World.ownsRow_nil _ _ _ _, Turn.refl⟩
theorem node_chunk {l : List Int} {base p k : Nat} (hp : p = base + k * 10) : nodeK.get (((l.drop base).drop (k * nodeK.size)).take nodeK.size) = ⟨l.getD p 0, l.getD (p + 1) 0, ⟨l.getD (p + 2) 0, l.getD (p + 3) 0, l.getD (p + 4) 0, l.getD (p + 5) 0⟩, ⟨l.getD (p + 6) 0, l.getD (p + 7) 0, l.getD (p + 8) 0, l.getD (p + 9) 0⟩⟩ ∧
    nodeK.ok (((l.drop base).drop (k * nodeK.size)).take nodeK.size) = (smallN (l.getD p 0) && smallN (l.getD (p + 1) 0)) := by
  have e : p = base + k * nodeK.size := hp
  rw [List.drop_drop]
  simp only [nodeK] at e ⊢
  rw [chunk_getD l (show 0 < 10 by decide) e, chunk_getD l (show 1 < 10 by decide) e, chunk_getD l (show 2 < 10 by decide) e, chunk_getD l (show 3 < 10 by decide) e, chunk_getD l (show 4 < 10 by decide) e, chunk_getD l (show 5 < 10 by decide) e, chunk_getD l (show 6 < 10 by decide) e, chunk_getD l (show 7 < 10 by decide) e, chunk_getD l (show 8 < 10 by decide) e, chunk_getD l (show 9 < 10 by decide) e]
  exact ⟨rfl, rfl⟩
theorem load_chunk {l : List Int} {base p k : Nat} (hp : p = base + k * 5) : loadK.get (((l.drop base).drop (k * loadK.size)).take loadK.size) = ⟨l.getD p 0, l.getD (p + 1) 0 == 1, l.getD (p + 2) 0, l.getD (p + 3) 0, l.getD (p + 4) 0⟩ ∧
    loadK.ok (((l.drop base).drop (k * loadK.size)).take loadK.size) = (smallN (l.getD p 0) && (smallN (l.getD (p + 2) 0) && (smallN (l.getD (p + 3) 0) && (smallN (l.getD (p + 4) 0) && bitN (l.getD (p + 1) 0))))) := by
  have e : p = base + k * loadK.size := hp
  rw [List.drop_drop]
  simp only [loadK] at e ⊢
  rw [chunk_getD l (show 0 < 5 by decide) e, chunk_getD l (show 1 < 5 by decide) e, chunk_getD l (show 2 < 5 by decide) e, chunk_getD l (show 3 < 5 by decide) e, chunk_getD l (show 4 < 5 by decide) e]
  exact ⟨rfl, rfl⟩
theorem pod_chunk {l : List Int} {base p k : Nat} (hp : p = base + k * 8) : podK.get (((l.drop base).drop (k * podK.size)).take podK.size) = ⟨l.getD p 0, l.getD (p + 1) 0, l.getD (p + 2) 0, ⟨l.getD (p + 3) 0, l.getD (p + 4) 0, l.getD (p + 5) 0, l.getD (p + 6) 0⟩, l.getD (p + 7) 0⟩ ∧
    podK.ok (((l.drop base).drop (k * podK.size)).take podK.size) = (smallN (l.getD p 0) && (smallN (l.getD (p + 1) 0) && (smallN (l.getD (p + 2) 0) && smallN (l.getD (p + 7) 0)))) := by
  have e : p = base + k * podK.size := hp
  rw [List.drop_drop]
  simp only [podK] at e ⊢
  rw [chunk_getD l (show 0 < 8 by decide) e, chunk_getD l (show 1 < 8 by decide) e, chunk_getD l (show 2 < 8 by decide) e, chunk_getD l (show 3 < 8 by decide) e, chunk_getD l (show 4 < 8 by decide) e, chunk_getD l (show 5 < 8 by decide) e, chunk_getD l (show 6 < 8 by decide) e, chunk_getD l (show 7 < 8 by decide) e]
  exact ⟨rfl, rfl⟩
theorem snap_parts {l : List Int} {m1 m2 m3 p1 p2 : Nat} (h1 : p1 = 3 + m1 * 10) (h2 : p2 = p1 + m2 * 5) : snapOf m1 m2 m3 (l.drop 3) = ⟨parse nodeK m1 (l.drop 3), parse loadK m2 (l.drop p1), parse podK m3 (l.drop p2)⟩ ∧
    snapFine m1 m2 m3 (l.drop 3) = (fine nodeK m1 (l.drop 3) && (fine loadK m2 (l.drop p1) && fine podK m3 (l.drop p2))) := by
  subst h1 h2
  simp only [snapOf, snapFine, List.drop_drop, Nat.add_assoc]
  exact ⟨trivial, trivial⟩

/-- The loops of a function's text, in their order. -/
def loopsOf : Code → List Code
  | .loop c => .loop c :: loopsOf c
  | .seq a b => loopsOf a ++ loopsOf b
  | .block _ c => loopsOf c
  | .scope c => loopsOf c
  | .cond _ a b => loopsOf a ++ loopsOf b
  | _ => []
noncomputable def snapLoop (n : Nat) : Code := ((Tryz.f13.body.map loopsOf).getD []).getD n .skip
end Go.Proofs.YtgfleifpblcnfaaGreatDoor
