/- Joined texts, part 2: NC CB CC CD CE CF E. -/
import Derived.Test.YtgfleifpblcnfaaGreatDoorZ01
import Derived.LaidEql
import Derived.ChangeKeysEq
import Derived.Deep.QuietTactic
import Derived.BigQuiet
import Derived.Test.YtgfleifpblcnfaaGreatDoorRows
import Derived.WalkKit
import Derived.LaidEqlPtr
import Derived.Stop.Asserts
import Derived.RowKitTokens
import Derived.WalkSpells
import Derived.WalkLawsBesides

/- string(b) of bytes that read as a list; '==' of two strings. -/
namespace Go.Proofs.YtgfleifpblcnfaaGreatDoor
set_option linter.unusedSimpArgs false
open Go.RowKit
set_option linter.unusedVariables false

/-- string(b) of bytes that read as a list, nil or not. -/
theorem conv_row (l : List Int) (A : Option Addr) (n c R : Nat) (w : World) (hn : n = l.length) (hr : Row w R A (u8s l)) : (convert 27 9 (.slice A n c)).run Tryz.prog w = .ok (.string (strOfNums l)) w := by
  subst hn
  rcases hr with h0 | ⟨b, o, rfl, _, hcell⟩
  · have h1 : l = [] := by simpa using h0
    subst h1
    rw [run_convert_bytes_string w 27 9 5 A _ c Tryz.underlying27 Tryz.underlying5 Tryz.underlying9]
    rcases A with _ | a
    · simp [Conv.bytesToString]; rfl
    · exact run_bytesToString w a 0 c [] (by simp [loadCells, loadCellsFrom])
  · refine run_convert_bytes_arg w 27 5 Tryz.underlying27 Tryz.underlying5 b o l.length c l rfl (fun i hi => ?_) 9 Tryz.underlying9
    have := hcell i (by simpa using hi)
    rw [this]
    simp [List.getD, List.getElem?_eq_getElem hi]

theorem str_eq (b : ByteArray) (w : World) : (binOp .eql 9 (.string b) (.string b)).run Tryz.prog w = .ok (.bool true) w := by
  simp [go_sem]
theorem str_neq (b : ByteArray) (w : World) : (binOp .neq 9 (.string b) (.string b)).run Tryz.prog w = .ok (.bool false) w := by
  simp [go_sem]

end Go.Proofs.YtgfleifpblcnfaaGreatDoor

/- The reference's functions of layer 3 that look for one, and its small functions. -/
namespace Go.Proofs.YtgfleifpblcnfaaGreatDoor
set_option linter.unusedSimpArgs false
open Go.RowKit
set_option linter.unusedVariables false

set_option maxHeartbeats 800000 in
theorem rLoad_any (l : List LoadD) (id : Int) (A : Option Addr) (n c B : Nat) (v1 v3 : Value) (w : World) (hn : n = l.length) (hl : n ≤ 1000) (hB : B ≤ w.heap.size) (hr : Recs 5 cellsL w B A l) :
    Calls Tryz.prog 35 #[.agg #[v1, .slice A n c, v3], .int .i64 id] w fun e w' => e = .returned (.int .i64 (place LoadD.id id l 0)) ∧ Below w.heap.size w w' := by
  have HR := Lib.hid hr
  have HL := Lib.hid hn
  clear hr hn
  go_enter Tryz.func35, Tryz.ntmps35
  go_wp2
  go_loop [5] (FindRel LoadD.id id l) (fun i => n - (intOf i).toNat)
  case atStart => exact ⟨0, by omega, rfl, rfl⟩
  case round =>
    obtain ⟨k, hk, rfl, hp⟩ := hrel
    have HP := Lib.hid hp
    clear hp
    by_cases hlt : k < n
    · have hkl : k < l.length := by have := HL.out; omega
      obtain ⟨b, o, rfl, hb, hcell⟩ := HR.out.at hkl
      have hc : w.cell? ⟨b, o + k * 5, none⟩ = some (.int .i64 l[k].id) := hcell 0 _ rfl
      have hbl : b < w.heap.size := by omega
      clear hcell
      by_cases he : l[k].id = id
      · have HE := Lib.hid (place_here hkl he HP.out)
        obtain rfl := he
        go_wp2
        go_ret
        exact ⟨ret_int HE.out.symm, (Below.refl _ _).alloc (Nat.le_refl _) _⟩
      · have HE := Lib.hid (place_step hkl he HP.out)
        go_wp2
        go_round
        case rel => exact ⟨k + 1, by omega, by go_num, HE.out⟩
        case measure => simp [intOf]; omega
    · have HE := Lib.hid (place_end (by have := HL.out; omega) HP.out)
      go_wp2
      go_ret
      exact ⟨ret_int HE.out.symm, (Below.refl _ _).alloc (Nat.le_refl _) _⟩

theorem id_any (n last : Int) (w : World) : Calls Tryz.prog 32 #[.int .i64 n, .int .i64 last] w fun e w' => e = .returned (.int .i64 (idBad n last)) ∧ w = w' := by
  by_cases h1 : n < 1
  · have HE := Lib.hid (show idBad n last = 1 by unfold idBad; rw [if_pos (.inl h1)])
    go_enter Tryz.func32, Tryz.ntmps32
    go_wp2
    go_ret
    exact ⟨ret_int HE.out.symm, rfl⟩
  · by_cases h2 : 2147483647 < n
    · have HE := Lib.hid (show idBad n last = 1 by unfold idBad; rw [if_pos (.inr h2)])
      go_enter Tryz.func32, Tryz.ntmps32
      go_wp2
      go_ret
      exact ⟨ret_int HE.out.symm, rfl⟩
    · by_cases h3 : n = last
      · have HE := Lib.hid (show idBad n last = 5 by unfold idBad; rw [if_neg (by omega), if_pos h3])
        obtain rfl := h3
        go_enter Tryz.func32, Tryz.ntmps32
        go_wp2
        go_ret
        exact ⟨ret_int HE.out.symm, rfl⟩
      · by_cases h4 : n < last
        · have HE := Lib.hid (show idBad n last = 1 by unfold idBad; rw [if_neg (by omega), if_neg h3, if_pos h4])
          go_enter Tryz.func32, Tryz.ntmps32
          go_wp2
          go_ret
          exact ⟨ret_int HE.out.symm, rfl⟩
        · have HE := Lib.hid (show idBad n last = 0 by unfold idBad; rw [if_neg (by omega), if_neg h3, if_neg h4])
          go_enter Tryz.func32, Tryz.ntmps32
          go_wp2
          go_ret
          exact ⟨ret_int HE.out.symm, rfl⟩
theorem ret_bool {a b : Bool} (h : a = b) : Ending.returned (.bool a) = .returned (.bool b) := by rw [h]
theorem count_any (n : Int) (w : World) : Calls Tryz.prog 34 #[.int .i64 n] w fun e w' => e = .returned (.bool (countOk n)) ∧ w = w' := by
  by_cases h : 0 ≤ n ∧ n ≤ 100
  · have HE := Lib.hid (show countOk n = true by simpa [countOk] using h)
    obtain ⟨h1, h2⟩ := h
    go_enter Tryz.func34, Tryz.ntmps34
    go_wp2
    go_ret
    exact ⟨ret_bool HE.out.symm, rfl⟩
  · have HE := Lib.hid (show countOk n = false by unfold countOk; exact decide_eq_false h)
    by_cases h1 : 0 ≤ n
    · have h2 : 100 < n := by omega
      have hd : decide (n ≤ 100) = false := decide_eq_false (by omega)
      go_enter Tryz.func34, Tryz.ntmps34
      go_wp2
      go_ret
      exact ⟨ret_bool HE.out.symm, rfl⟩
    · have hd : decide (0 ≤ n) = false := decide_eq_false h1
      have h2 : n < 0 := by omega
      go_enter Tryz.func34, Tryz.ntmps34
      go_wp2
      go_ret
      exact ⟨ret_bool HE.out.symm, rfl⟩
set_option maxHeartbeats 800000 in
theorem few_any (A1 A2 A3 : Option Addr) (n1 c1 n2 c2 n3 c3 : Nat) (w : World) :
    Calls Tryz.prog 6 #[.agg #[.slice A1 n1 c1, .slice A2 n2 c2, .slice A3 n3 c3]] w fun e w' => e = .returned (.bool (decide (n1 ≤ 40 ∧ n2 ≤ 40 ∧ n3 ≤ 40))) ∧ Below w.heap.size w w' := by
  by_cases h1 : n1 ≤ 40
  · by_cases h2 : n2 ≤ 40
    · by_cases h3 : n3 ≤ 40
      · have HE := Lib.hid (show decide (n1 ≤ 40 ∧ n2 ≤ 40 ∧ n3 ≤ 40) = true by simp [h1, h2, h3])
        have hd : decide ((n3 : Int) ≤ 40) = true := decide_eq_true (by omega)
        go_enter Tryz.func6, Tryz.ntmps6
        go_wp2
        go_ret
        exact ⟨ret_bool HE.out.symm, (Below.refl _ _).alloc (Nat.le_refl _) _⟩
      · have HE := Lib.hid (show decide (n1 ≤ 40 ∧ n2 ≤ 40 ∧ n3 ≤ 40) = false by simp; omega)
        have hd : decide ((n3 : Int) ≤ 40) = false := decide_eq_false (by omega)
        go_enter Tryz.func6, Tryz.ntmps6
        go_wp2
        go_ret
        exact ⟨ret_bool HE.out.symm, (Below.refl _ _).alloc (Nat.le_refl _) _⟩
    · have HE := Lib.hid (show decide (n1 ≤ 40 ∧ n2 ≤ 40 ∧ n3 ≤ 40) = false by simp; omega)
      have hd : decide ((n2 : Int) ≤ 40) = false := decide_eq_false (by omega)
      go_enter Tryz.func6, Tryz.ntmps6
      go_wp2
      go_ret
      exact ⟨ret_bool HE.out.symm, (Below.refl _ _).alloc (Nat.le_refl _) _⟩
  · have HE := Lib.hid (show decide (n1 ≤ 40 ∧ n2 ≤ 40 ∧ n3 ≤ 40) = false by simp; omega)
    have hd : decide ((n1 : Int) ≤ 40) = false := decide_eq_false (by omega)
    go_enter Tryz.func6, Tryz.ntmps6
    go_wp2
    go_ret
    exact ⟨ret_bool HE.out.symm, (Below.refl _ _).alloc (Nat.le_refl _) _⟩
end Go.Proofs.YtgfleifpblcnfaaGreatDoor

/- dunnageref01.Fits, dunnagelaw00.Code and Told. -/
namespace Go.Proofs.YtgfleifpblcnfaaGreatDoor
set_option linter.unusedSimpArgs false
open Go.RowKit
set_option linter.unusedVariables false

abbrev aggV (x : V4) : Value := .agg #[.int .u64 x.a, .int .u64 x.b, .int .u64 x.c, .int .u64 x.d]
theorem below_two (w : World) (o o' : Obj) : Below w.heap.size w ((w.alloc o).alloc o') := ((Below.refl _ _).alloc (Nat.le_refl _) o).alloc (by simp) o'
set_option maxHeartbeats 1600000 in
theorem rFits_any (x y : V4) (w : World) : Calls Tryz.prog 33 #[aggV x, aggV y] w fun e w' => e = .returned (.bool (x.le y)) ∧ Below w.heap.size w w' := by
  by_cases h0 : x.a ≤ y.a
  · by_cases h1 : x.b ≤ y.b
    · by_cases h2 : x.c ≤ y.c
      · by_cases h3 : x.d ≤ y.d
        · have HE := Lib.hid (show x.le y = true by simp [V4.le, h0, h1, h2, h3])
          have hd : decide (x.d ≤ y.d) = true := decide_eq_true h3
          go_enter Tryz.func33, Tryz.ntmps33
          go_wp2
          go_ret
          exact ⟨ret_bool HE.out.symm, below_two _ _ _⟩
        · have HE := Lib.hid (show x.le y = false by simp [V4.le, h3])
          have hd : decide (x.d ≤ y.d) = false := decide_eq_false h3
          go_enter Tryz.func33, Tryz.ntmps33
          go_wp2
          go_ret
          exact ⟨ret_bool HE.out.symm, below_two _ _ _⟩
      · have HE := Lib.hid (show x.le y = false by simp [V4.le, h2])
        have hd : decide (x.c ≤ y.c) = false := decide_eq_false h2
        go_enter Tryz.func33, Tryz.ntmps33
        go_wp2
        go_ret
        exact ⟨ret_bool HE.out.symm, below_two _ _ _⟩
    · have HE := Lib.hid (show x.le y = false by simp [V4.le, h1])
      have hd : decide (x.b ≤ y.b) = false := decide_eq_false h1
      go_enter Tryz.func33, Tryz.ntmps33
      go_wp2
      go_ret
      exact ⟨ret_bool HE.out.symm, below_two _ _ _⟩
  · have HE := Lib.hid (show x.le y = false by simp [V4.le, h0])
    have hd : decide (x.a ≤ y.a) = false := decide_eq_false h0
    go_enter Tryz.func33, Tryz.ntmps33
    go_wp2
    go_ret
    exact ⟨ret_bool HE.out.symm, below_two _ _ _⟩
end Go.Proofs.YtgfleifpblcnfaaGreatDoor

/- dunnageref03.Check. -/
namespace Go.Proofs.YtgfleifpblcnfaaGreatDoor
set_option linter.unusedSimpArgs false
open Go.RowKit
set_option linter.unusedVariables false

theorem box_cells {w wr : World} {x y z : Value} {t : TypeId} (hb : Below (w.heap.size + 1) (w.alloc (.cells #[x, y, z] t)) wr) :
    wr.cell? ⟨w.heap.size, 0, none⟩ = some x ∧ wr.cell? ⟨w.heap.size, 1, none⟩ = some y ∧ wr.cell? ⟨w.heap.size, 2, none⟩ = some z := by
  refine ⟨?_, ?_, ?_⟩
  all_goals
    rw [hb.cell (by show w.heap.size < w.heap.size + 1; omega)]
    simp

theorem firstBad_at {α : Type} {bad : Int → α → Int} {f : α → Int} {l : List α} {la : Int} {k m : Nat} {F : Option (Int × Nat)} (h : k < l.length) {x : α} (hx : l[k] = x) (hf : firstBad bad f la m (l.drop k) = F) :
    (bad la x ≠ 0 → F = some (bad la x, m)) ∧ (bad la x = 0 → firstBad bad f (f x) (m + 1) (l.drop (k + 1)) = F) := by
  rw [List.drop_eq_getElem_cons h, hx, firstBad] at hf
  constructor
  · intro hb; rw [if_pos hb] at hf; exact hf.symm
  · intro hb; rw [if_neg (by simpa using hb)] at hf; exact hf
theorem firstBad_end {α : Type} {bad : Int → α → Int} {f : α → Int} {l : List α} {la : Int} {k m : Nat} {F : Option (Int × Nat)} (h : l.length ≤ k) (hf : firstBad bad f la m (l.drop k) = F) : F = none := by
  rw [List.drop_of_length_le h, firstBad] at hf
  exact hf.symm
theorem check_large {s : SnapD} (h : large s = true) : check s = (3, -1) := by unfold check; rw [if_pos h]
theorem check_node {s : SnapD} (h : ¬ large s = true) {b : Int} {k : Nat} (hf : firstBad nodeBad NodeD.id 0 0 s.nodes = some (b, k)) : check s = (b, (k : Int)) := by unfold check; rw [if_neg h, hf]
theorem check_load {s : SnapD} (h : ¬ large s = true) (h1 : firstBad nodeBad NodeD.id 0 0 s.nodes = none) {b : Int} {k : Nat} (hf : firstBad loadBad LoadD.id 0 s.nodes.length s.loads = some (b, k)) : check s = (b, (k : Int)) := by unfold check; rw [if_neg h, h1, hf]
theorem check_pod {s : SnapD} (h : ¬ large s = true) (h1 : firstBad nodeBad NodeD.id 0 0 s.nodes = none) (h2 : firstBad loadBad LoadD.id 0 s.nodes.length s.loads = none) {b : Int} {k : Nat} (hf : firstBad (podBad s.nodes s.loads) PodD.id 0 (s.nodes.length + s.loads.length) s.pods = some (b, k)) : check s = (b, (k : Int)) := by
  unfold check; rw [if_neg h, h1, h2, hf]
theorem check_fine {s : SnapD} (h : ¬ large s = true) (h1 : firstBad nodeBad NodeD.id 0 0 s.nodes = none) (h2 : firstBad loadBad LoadD.id 0 s.nodes.length s.loads = none) (hf : firstBad (podBad s.nodes s.loads) PodD.id 0 (s.nodes.length + s.loads.length) s.pods = none) : check s = (0, -1) := by
  unfold check; rw [if_neg h, h1, h2, hf]
theorem ret_pair {a b c d : Int} {p : Int × Int} (h : p = (a, b)) (e1 : c = a) (e2 : d = b) : Ending.returned (.tuple #[.int .i64 c, .int .i64 d]) = .returned (.tuple #[.int .i64 p.1, .int .i64 p.2]) := by rw [h, e1, e2]

def NodesRel (s : SnapD) (W : World) (B : Nat) (last at_ i : Value) (wr : World) : Prop :=
  ∃ (k : Nat) (la : Int), k ≤ s.nodes.length ∧ i = .int .i64 k ∧ at_ = .int .i64 k ∧ last = .int .i64 la ∧ firstBad nodeBad NodeD.id la k (s.nodes.drop k) = firstBad nodeBad NodeD.id 0 0 s.nodes ∧ Below B W wr

def LoadsRel (s : SnapD) (W : World) (B : Nat) (last at_ i : Value) (wr : World) : Prop :=
  ∃ (k m : Nat) (la : Int), k ≤ s.loads.length ∧ m = s.nodes.length + k ∧ i = .int .i64 k ∧ at_ = .int .i64 m ∧ last = .int .i64 la ∧ firstBad loadBad LoadD.id la m (s.loads.drop k) = firstBad loadBad LoadD.id 0 s.nodes.length s.loads ∧ Below B W wr
def PodsRel (s : SnapD) (W : World) (B : Nat) (last at_ i : Value) (wr : World) : Prop :=
  ∃ (k m : Nat) (la : Int), k ≤ s.pods.length ∧ m = s.nodes.length + s.loads.length + k ∧ i = .int .i64 k ∧ at_ = .int .i64 m ∧ last = .int .i64 la ∧ firstBad (podBad s.nodes s.loads) PodD.id la m (s.pods.drop k) = firstBad (podBad s.nodes s.loads) PodD.id 0 (s.nodes.length + s.loads.length) s.pods ∧ Below B W wr

set_option maxHeartbeats 6400000 in
set_option maxRecDepth 100000 in
theorem rCheck_any (s : SnapD) (A1 A2 A3 : Option Addr) (n1 c1 n2 c2 n3 c3 B : Nat) (w : World) (hn1 : n1 = s.nodes.length) (hn2 : n2 = s.loads.length) (hn3 : n3 = s.pods.length) (hl1 : n1 ≤ 40) (hl2 : n2 ≤ 40) (hl3 : n3 ≤ 40) (hB : B ≤ w.heap.size)
    (hr1 : Recs 10 cellsN w B A1 s.nodes) (hr2 : Recs 5 cellsL w B A2 s.loads) (hr3 : Recs 8 cellsP w B A3 s.pods) :
    Calls Tryz.prog 8 #[.agg #[.slice A1 n1 c1, .slice A2 n2 c2, .slice A3 n3 c3]] w fun e w' => e = .returned (.tuple #[.int .i64 (check s).1, .int .i64 (check s).2]) ∧ Below w.heap.size w w' := by
  by_cases hlg : large s = true
  · have HE := Lib.hid (check_large hlg)
    have hsz : n1 = 0 ∨ 8 < n1 ∨ 8 < n2 ∨ 12 < n3 := by simp only [large, decide_eq_true_eq] at hlg; omega
    clear hlg hr1 hr2 hr3 hn1 hn2 hn3
    by_cases q1 : n1 = 0
    · subst q1
      clear hsz
      go_enter Tryz.func8, Tryz.ntmps8
      go_wp2
      go_ret2
      exact ⟨ret_pair HE.out rfl rfl, (Below.refl _ _).alloc (Nat.le_refl _) _⟩
    · have hne : ((n1 : Int) == 0) = false := by simp; omega
      by_cases q2 : 8 < n1
      · clear hsz
        go_enter Tryz.func8, Tryz.ntmps8
        go_wp2
        go_ret2
        exact ⟨ret_pair HE.out rfl rfl, (Below.refl _ _).alloc (Nat.le_refl _) _⟩
      · by_cases q3 : 8 < n2
        · clear hsz
          go_enter Tryz.func8, Tryz.ntmps8
          go_wp2
          go_ret2
          exact ⟨ret_pair HE.out rfl rfl, (Below.refl _ _).alloc (Nat.le_refl _) _⟩
        · have q4 : 12 < n3 := by omega
          clear hsz
          go_enter Tryz.func8, Tryz.ntmps8
          go_wp2
          go_ret2
          exact ⟨ret_pair HE.out rfl rfl, (Below.refl _ _).alloc (Nat.le_refl _) _⟩
  · have hsz : 1 ≤ n1 ∧ n1 ≤ 8 ∧ n2 ≤ 8 ∧ n3 ≤ 12 := by simp only [large, decide_eq_true_eq] at hlg; omega
    obtain ⟨z1, z2, z3, z4⟩ := hsz
    have HLG := Lib.hid hlg
    have HR1 := Lib.hid hr1
    have HR2 := Lib.hid hr2
    have HR3 := Lib.hid hr3
    have HN1 := Lib.hid hn1
    have HN2 := Lib.hid hn2
    have HN3 := Lib.hid hn3
    clear hlg hr1 hr2 hr3 hn1 hn2 hn3
    go_enter Tryz.func8, Tryz.ntmps8
    have hne : ((n1 : Int) == 0) = false := by simp; omega
    go_wp2
    go_loopw [4, 5, 6] (NodesRel s (w.alloc (.cells #[.slice A1 n1 c1, .slice A2 n2 c2, .slice A3 n3 c3] 26)) (w.heap.size + 1)) (fun _ _ i _ => n1 - (intOf i).toNat)
    case atStart => exact ⟨0, 0, by omega, rfl, rfl, rfl, rfl, Below.refl _ _⟩
    case round =>
      obtain ⟨k, la, hk, rfl, rfl, rfl, hfb, hbr⟩ := hrel
      have HF := Lib.hid hfb
      clear hfb
      obtain ⟨b0, b1, b2⟩ := box_cells hbr
      have hzr : w.heap.size + 1 ≤ wr.heap.size := by have := hbr.size; simpa using this
      by_cases hlt : k < n1
      · have hkl : k < s.nodes.length := by have := HN1.out; omega
        obtain ⟨b, o, rfl, hb, hcell⟩ := HR1.out.at hkl
        have hold : ∀ j u, (cellsN s.nodes[k])[j]? = some u → wr.cell? ⟨b, o + k * 10 + j, none⟩ = some u := fun j u hu => by
          rw [hbr.cell (p := ⟨b, o + k * 10 + j, none⟩) (by show b < w.heap.size + 1; omega), World.cell?_alloc_lt _ _ _ (by show b < w.heap.size; omega)]
          exact hcell j u hu
        clear hcell
        generalize hnd : s.nodes[k] = nd at *
        have e0 : wr.cell? ⟨b, o + k * 10, none⟩ = some (.int .i64 nd.id) := hold 0 _ rfl
        have e1 : wr.cell? ⟨b, o + k * 10 + 1, none⟩ = some (.int .i64 nd.zone) := hold 1 _ rfl
        have e2 : wr.cell? ⟨b, o + k * 10 + 2, none⟩ = some (.int .u64 nd.cap.a) := hold 2 _ rfl
        have e3 : wr.cell? ⟨b, o + k * 10 + 3, none⟩ = some (.int .u64 nd.cap.b) := hold 3 _ rfl
        have e4 : wr.cell? ⟨b, o + k * 10 + 4, none⟩ = some (.int .u64 nd.cap.c) := hold 4 _ rfl
        have e5 : wr.cell? ⟨b, o + k * 10 + 5, none⟩ = some (.int .u64 nd.cap.d) := hold 5 _ rfl
        have e6 : wr.cell? ⟨b, o + k * 10 + 6, none⟩ = some (.int .u64 nd.held.a) := hold 6 _ rfl
        have e7 : wr.cell? ⟨b, o + k * 10 + 7, none⟩ = some (.int .u64 nd.held.b) := hold 7 _ rfl
        have e8 : wr.cell? ⟨b, o + k * 10 + 8, none⟩ = some (.int .u64 nd.held.c) := hold 8 _ rfl
        have e9 : wr.cell? ⟨b, o + k * 10 + 9, none⟩ = some (.int .u64 nd.held.d) := hold 9 _ rfl
        have HND := Lib.hid hnd
        clear hold hnd
        have hfa := firstBad_at hkl HND.out HF.out
        have HFA := Lib.hid hfa
        clear hfa
        go_wp2_with fail
        refine (id_any _ _ _).mono ?_
        rintro e w1 ⟨rfl, rfl⟩
        go_wp2_with fail
        refine (rFits_any nd.held nd.cap _).mono ?_
        rintro e w2 ⟨rfl, hb2⟩
        have f0 : w2.cell? ⟨wr.heap.size, 0, none⟩ = some (.int .i64 nd.id) := (hb2.cell (p := ⟨wr.heap.size, 0, none⟩) (by simp)).trans (by simp)
        have f1 : w2.cell? ⟨wr.heap.size, 1, none⟩ = some (.int .i64 nd.zone) := (hb2.cell (p := ⟨wr.heap.size, 1, none⟩) (by simp)).trans (by simp)
        have k2 : Below (w.heap.size + 1) (w.alloc (.cells #[.slice (some ⟨b, o, none⟩) n1 c1, .slice A2 n2 c2, .slice A3 n3 c3] 26)) w2 := (hbr.alloc hzr _).trans (hb2.mono (by simp; omega))
        have kw : Below w.heap.size w w2 := ((Below.refl _ w).alloc (Nat.le_refl _) _).trans (k2.mono (by omega))
        clear e0 e1 e2 e3 e4 e5 e6 e7 e8 e9
        by_cases hb0 : idBad nd.id la = 0
        · by_cases hz : nd.zone < 1
          · have HE := Lib.hid (check_node HLG.out (HFA.out.1 (by simp [nodeBad, hb0, hz])))
            have HV := Lib.hid (show nodeBad la nd = 1 by simp [nodeBad, hb0, hz])
            go_wp2
            go_ret2
            exact ⟨ret_pair HE.out HV.out.symm rfl, kw⟩
          · by_cases hz8 : 8 < nd.zone
            · have HV := Lib.hid (show nodeBad la nd = 1 by simp [nodeBad, hb0, hz8])
              have HE := Lib.hid (check_node HLG.out (HFA.out.1 (by rw [HV.out]; decide)))
              go_wp2
              go_ret2
              exact ⟨ret_pair HE.out HV.out.symm rfl, kw⟩
            · by_cases hft : nd.held.le nd.cap = true
              · have HV := Lib.hid (show nodeBad la nd = 0 by simp [nodeBad, hb0, hft]; omega)
                have HE := Lib.hid (HFA.out.2 HV.out)
                go_wp2
                go_roundw
                case rel => exact ⟨k + 1, nd.id, by omega, by go_num, by go_num, rfl, HE.out, k2⟩
                case measure => simp [intOf]; omega
              · have hff : nd.held.le nd.cap = false := by simpa using hft
                have HV := Lib.hid (show nodeBad la nd = 1 by simp [nodeBad, hb0, hff])
                have HE := Lib.hid (check_node HLG.out (HFA.out.1 (by rw [HV.out]; decide)))
                clear hft
                go_wp2
                go_ret2
                exact ⟨ret_pair HE.out HV.out.symm rfl, kw⟩
        · have HV := Lib.hid (show nodeBad la nd = idBad nd.id la by simp [nodeBad, hb0])
          have HE := Lib.hid (check_node HLG.out (HFA.out.1 (by rw [HV.out]; exact hb0)))
          have hbn : (idBad nd.id la == 0) = false := by simpa using hb0
          have hbm : (idBad nd.id la != 0) = true := by simpa using hb0
          clear hb0
          go_wp2
          go_ret2
          exact ⟨ret_pair HE.out HV.out.symm rfl, kw⟩
      · have HE1 := Lib.hid (firstBad_end (by have := HN1.out; omega) HF.out)
        have HK1 := Lib.hid (show k = s.nodes.length by have := HN1.out; omega)
        clear HF
        go_wp2
        go_loopw [4, 5, 10] (LoadsRel s (w.alloc (.cells #[.slice A1 n1 c1, .slice A2 n2 c2, .slice A3 n3 c3] 26)) (w.heap.size + 1)) (fun _ _ i _ => n2 - (intOf i).toNat)
        case atStart => exact ⟨0, k, 0, by omega, HK1.out, rfl, rfl, rfl, by rw [HK1.out]; rfl, hbr⟩
        case round =>
          clear b0 b1 b2 hbr hzr HK1 hlt hk
          obtain ⟨k, m, la, hk, hm, rfl, rfl, rfl, hfb, hbr⟩ := hrel
          have HF := Lib.hid hfb
          have HMM := Lib.hid hm
          have hm40 : m ≤ 40 := by have := HN1.out; have := HN2.out; omega
          clear hfb hm
          obtain ⟨b0, b1, b2⟩ := box_cells hbr
          have hzr : w.heap.size + 1 ≤ wr.heap.size := by have := hbr.size; simpa using this
          by_cases hlt : k < n2
          · have hkl : k < s.loads.length := by have := HN2.out; omega
            obtain ⟨b, o, rfl, hb, hcell⟩ := HR2.out.at hkl
            have hold : ∀ j u, (cellsL s.loads[k])[j]? = some u → wr.cell? ⟨b, o + k * 5 + j, none⟩ = some u := fun j u hu => by
              rw [hbr.cell (p := ⟨b, o + k * 5 + j, none⟩) (by show b < w.heap.size + 1; omega), World.cell?_alloc_lt _ _ _ (by show b < w.heap.size; omega)]
              exact hcell j u hu
            clear hcell
            generalize hnd : s.loads[k] = nd at *
            have e0 : wr.cell? ⟨b, o + k * 5, none⟩ = some (.int .i64 nd.id) := hold 0 _ rfl
            have e1 : wr.cell? ⟨b, o + k * 5 + 1, none⟩ = some (.bool nd.apart) := hold 1 _ rfl
            have e2 : wr.cell? ⟨b, o + k * 5 + 2, none⟩ = some (.int .i64 nd.skew) := hold 2 _ rfl
            have e3 : wr.cell? ⟨b, o + k * 5 + 3, none⟩ = some (.int .i64 nd.min) := hold 3 _ rfl
            have e4 : wr.cell? ⟨b, o + k * 5 + 4, none⟩ = some (.int .i64 nd.max) := hold 4 _ rfl
            have HND := Lib.hid hnd
            clear hold hnd
            have HFA := Lib.hid (firstBad_at hkl HND.out HF.out)
            go_wp2_with fail
            refine (id_any _ _ _).mono ?_
            rintro e w1 ⟨rfl, rfl⟩
            go_wp2_with fail
            refine (count_any _ _).mono ?_
            rintro e w1 ⟨rfl, rfl⟩
            go_wp2_with fail
            refine (count_any _ _).mono ?_
            rintro e w1 ⟨rfl, rfl⟩
            go_wp2_with fail
            refine (count_any _ _).mono ?_
            rintro e w1 ⟨rfl, rfl⟩
            have k2 : Below (w.heap.size + 1) (w.alloc (.cells #[.slice A1 n1 c1, .slice (some ⟨b, o, none⟩) n2 c2, .slice A3 n3 c3] 26)) (wr.alloc (.cells #[.int .i64 nd.id, .bool nd.apart, .int .i64 nd.skew, .int .i64 nd.min, .int .i64 nd.max] 75)) := hbr.alloc hzr _
            have kw : Below w.heap.size w (wr.alloc (.cells #[.int .i64 nd.id, .bool nd.apart, .int .i64 nd.skew, .int .i64 nd.min, .int .i64 nd.max] 75)) := ((Below.refl _ w).alloc (Nat.le_refl _) _).trans (k2.mono (by omega))
            clear e0 e1 e2 e3 e4
            by_cases hb0 : idBad nd.id la = 0
            · by_cases ha : countOk nd.skew = true
              · by_cases hbb : countOk nd.min = true
                · by_cases hcc : countOk nd.max = true
                  · by_cases hmm : nd.max < nd.min
                    · have HV := Lib.hid (show loadBad la nd = 1 by simp [loadBad, hb0, hmm])
                      have HE := Lib.hid (check_load HLG.out HE1.out (HFA.out.1 (by rw [HV.out]; decide)))
                      go_wp2
                      go_ret2
                      exact ⟨ret_pair HE.out HV.out.symm rfl, kw⟩
                    · have HV := Lib.hid (show loadBad la nd = 0 by simp [loadBad, hb0, ha, hbb, hcc]; omega)
                      have HE := Lib.hid (HFA.out.2 HV.out)
                      go_wp2
                      go_roundw
                      case rel => exact ⟨k + 1, m + 1, nd.id, by omega, by have := HMM.out; omega, by go_num, by go_num, rfl, HE.out, k2⟩
                      case measure => simp [intOf]; omega
                  · have hx : countOk nd.max = false := by simpa using hcc
                    have HV := Lib.hid (show loadBad la nd = 1 by simp [loadBad, hb0, hx])
                    have HE := Lib.hid (check_load HLG.out HE1.out (HFA.out.1 (by rw [HV.out]; decide)))
                    clear hcc
                    go_wp2
                    go_ret2
                    exact ⟨ret_pair HE.out HV.out.symm rfl, kw⟩
                · have hx : countOk nd.min = false := by simpa using hbb
                  have HV := Lib.hid (show loadBad la nd = 1 by simp [loadBad, hb0, hx])
                  have HE := Lib.hid (check_load HLG.out HE1.out (HFA.out.1 (by rw [HV.out]; decide)))
                  clear hbb
                  go_wp2
                  go_ret2
                  exact ⟨ret_pair HE.out HV.out.symm rfl, kw⟩
              · have hx : countOk nd.skew = false := by simpa using ha
                have HV := Lib.hid (show loadBad la nd = 1 by simp [loadBad, hb0, hx])
                have HE := Lib.hid (check_load HLG.out HE1.out (HFA.out.1 (by rw [HV.out]; decide)))
                clear ha
                go_wp2
                go_ret2
                exact ⟨ret_pair HE.out HV.out.symm rfl, kw⟩
            · have HV := Lib.hid (show loadBad la nd = idBad nd.id la by simp [loadBad, hb0])
              have HE := Lib.hid (check_load HLG.out HE1.out (HFA.out.1 (by rw [HV.out]; exact hb0)))
              have hbn : (idBad nd.id la == 0) = false := by simpa using hb0
              have hbm : (idBad nd.id la != 0) = true := by simpa using hb0
              clear hb0
              go_wp2
              go_ret2
              exact ⟨ret_pair HE.out HV.out.symm rfl, kw⟩
          · have HE2 := Lib.hid (firstBad_end (by have := HN2.out; omega) HF.out)
            have HK2 := Lib.hid (show m = s.nodes.length + s.loads.length by have := HN2.out; have := HMM.out; omega)
            clear HF HMM
            go_wp2
            go_loopw [4, 5, 16] (PodsRel s (w.alloc (.cells #[.slice A1 n1 c1, .slice A2 n2 c2, .slice A3 n3 c3] 26)) (w.heap.size + 1)) (fun _ _ i _ => n3 - (intOf i).toNat)
            case atStart => exact ⟨0, m, 0, by omega, HK2.out, rfl, rfl, rfl, by rw [HK2.out]; rfl, hbr⟩
            case round =>
              clear b0 b1 b2 hbr hzr HK2 hlt hk hm40
              obtain ⟨k, m, la, hk, hm, rfl, rfl, rfl, hfb, hbr⟩ := hrel
              have HF := Lib.hid hfb
              have HMM := Lib.hid hm
              have hm80 : m ≤ 80 := by have := HN1.out; have := HN2.out; have := HN3.out; omega
              clear hfb hm
              obtain ⟨b0, b1, b2⟩ := box_cells hbr
              have hzr : w.heap.size + 1 ≤ wr.heap.size := by have := hbr.size; simpa using this
              by_cases hlt : k < n3
              · have hkl : k < s.pods.length := by have := HN3.out; omega
                obtain ⟨b, o, rfl, hb, hcell⟩ := HR3.out.at hkl
                have hold : ∀ j u, (cellsP s.pods[k])[j]? = some u → wr.cell? ⟨b, o + k * 8 + j, none⟩ = some u := fun j u hu => by
                  rw [hbr.cell (p := ⟨b, o + k * 8 + j, none⟩) (by show b < w.heap.size + 1; omega), World.cell?_alloc_lt _ _ _ (by show b < w.heap.size; omega)]
                  exact hcell j u hu
                clear hcell
                generalize hnd : s.pods[k] = nd at *
                have e0 : wr.cell? ⟨b, o + k * 8, none⟩ = some (.int .i64 nd.id) := hold 0 _ rfl
                have e1 : wr.cell? ⟨b, o + k * 8 + 1, none⟩ = some (.int .i64 nd.load) := hold 1 _ rfl
                have e2 : wr.cell? ⟨b, o + k * 8 + 2, none⟩ = some (.int .i64 nd.prio) := hold 2 _ rfl
                have e3 : wr.cell? ⟨b, o + k * 8 + 3, none⟩ = some (.int .u64 nd.req.a) := hold 3 _ rfl
                have e4 : wr.cell? ⟨b, o + k * 8 + 4, none⟩ = some (.int .u64 nd.req.b) := hold 4 _ rfl
                have e5 : wr.cell? ⟨b, o + k * 8 + 5, none⟩ = some (.int .u64 nd.req.c) := hold 5 _ rfl
                have e6 : wr.cell? ⟨b, o + k * 8 + 6, none⟩ = some (.int .u64 nd.req.d) := hold 6 _ rfl
                have e7 : wr.cell? ⟨b, o + k * 8 + 7, none⟩ = some (.int .i64 nd.node) := hold 7 _ rfl
                have HND := Lib.hid hnd
                clear hold hnd
                have HFA := Lib.hid (firstBad_at hkl HND.out HF.out)
                have k1 : Below (w.heap.size + 1) (w.alloc (.cells #[.slice A1 n1 c1, .slice A2 n2 c2, .slice (some ⟨b, o, none⟩) n3 c3] 26)) (wr.alloc (.cells #[.int .i64 nd.id, .int .i64 nd.load, .int .i64 nd.prio, .int .u64 nd.req.a, .int .u64 nd.req.b, .int .u64 nd.req.c, .int .u64 nd.req.d, .int .i64 nd.node] 79)) := hbr.alloc hzr _
                have kw : Below w.heap.size w (wr.alloc (.cells #[.int .i64 nd.id, .int .i64 nd.load, .int .i64 nd.prio, .int .u64 nd.req.a, .int .u64 nd.req.b, .int .u64 nd.req.c, .int .u64 nd.req.d, .int .i64 nd.node] 79)) := ((Below.refl _ w).alloc (Nat.le_refl _) _).trans (k1.mono (by omega))
                go_wp2_with fail
                refine (id_any _ _ _).mono ?_
                rintro e w1 ⟨rfl, rfl⟩
                go_wp2_with fail
                refine (count_any _ _).mono ?_
                rintro e w1 ⟨rfl, rfl⟩
                clear e0 e1 e2 e3 e4 e5 e6 e7
                by_cases hb0 : idBad nd.id la = 0
                · by_cases ha : countOk nd.prio = true
                  · have hsz1 : w.heap.size ≤ (wr.alloc (.cells #[.int .i64 nd.id, .int .i64 nd.load, .int .i64 nd.prio, .int .u64 nd.req.a, .int .u64 nd.req.b, .int .u64 nd.req.c, .int .u64 nd.req.d, .int .i64 nd.node] 79)).heap.size := by simp; omega
                    have hwl : w.heap.size < wr.heap.size := by omega
                    have HR2' := Lib.hid ((HR2.out.below kw hB).more (Nat.le_refl B))
                    go_wp2_with fail
                    refine (rLoad_any s.loads nd.load A2 n2 c2 B _ _ _ HN2.out (by omega) (by omega) HR2'.out).mono ?_
                    rintro e w2 ⟨rfl, hb2⟩
                    have f0 : w2.cell? ⟨wr.heap.size, 0, none⟩ = some (.int .i64 nd.id) := (hb2.cell (p := ⟨wr.heap.size, 0, none⟩) (by simp)).trans (by simp)
                    have f7 : w2.cell? ⟨wr.heap.size, 7, none⟩ = some (.int .i64 nd.node) := (hb2.cell (p := ⟨wr.heap.size, 7, none⟩) (by simp)).trans (by simp)
                    have k2 : Below (w.heap.size + 1) (w.alloc (.cells #[.slice A1 n1 c1, .slice A2 n2 c2, .slice (some ⟨b, o, none⟩) n3 c3] 26)) w2 := k1.trans (hb2.mono (by simp; omega))
                    have kw2 : Below w.heap.size w w2 := ((Below.refl _ w).alloc (Nat.le_refl _) _).trans (k2.mono (by omega))
                    obtain ⟨g0, g1, g2⟩ := box_cells k2
                    by_cases hpl : place LoadD.id nd.load s.loads 0 < 0
                    · have HV := Lib.hid (show podBad s.nodes s.loads la nd = 4 by simp [podBad, hb0, ha, hpl])
                      have HE := Lib.hid (check_pod HLG.out HE1.out HE2.out (HFA.out.1 (by rw [HV.out]; decide)))
                      go_wp2
                      go_ret2
                      exact ⟨ret_pair HE.out HV.out.symm rfl, kw2⟩
                    · by_cases hnn : nd.node = 0
                      · have HV := Lib.hid (show podBad s.nodes s.loads la nd = 0 by simp [podBad, hb0, ha, hnn]; omega)
                        have HE := Lib.hid (HFA.out.2 HV.out)
                        go_wp2
                        go_roundw
                        case rel => exact ⟨k + 1, m + 1, nd.id, by omega, by have := HMM.out; omega, by go_num, by go_num, rfl, HE.out, k2⟩
                        case measure => simp [intOf]; omega
                      · have hnm : (nd.node != 0) = true := by simpa using hnn
                        have hz2 := hb2.size
                        have hz2' : w.heap.size ≤ w2.heap.size := by simp at hz2; omega
                        have HR1' := Lib.hid (HR1.out.below kw2 hB)
                        go_wp2_with fail
                        refine (rNode_any s.nodes nd.node A1 n1 c1 B _ _ _ HN1.out (by omega) (by omega) HR1'.out).mono ?_
                        rintro e w3 ⟨rfl, hb3⟩
                        have h0 : w3.cell? ⟨wr.heap.size, 0, none⟩ = some (.int .i64 nd.id) := (hb3.cell (p := ⟨wr.heap.size, 0, none⟩) (by show wr.heap.size < w2.heap.size; simp at hz2; omega)).trans f0
                        have k3 : Below (w.heap.size + 1) (w.alloc (.cells #[.slice A1 n1 c1, .slice A2 n2 c2, .slice (some ⟨b, o, none⟩) n3 c3] 26)) w3 := k2.trans (hb3.mono (by simp at hz2; omega))
                        have kw3 : Below w.heap.size w w3 := ((Below.refl _ w).alloc (Nat.le_refl _) _).trans (k3.mono (by omega))
                        by_cases hpn : place NodeD.id nd.node s.nodes 0 < 0
                        · have HV := Lib.hid (show podBad s.nodes s.loads la nd = 4 by simp [podBad, hb0, ha, hpn, hnn])
                          have HE := Lib.hid (check_pod HLG.out HE1.out HE2.out (HFA.out.1 (by rw [HV.out]; decide)))
                          go_wp2
                          go_ret2
                          exact ⟨ret_pair HE.out HV.out.symm rfl, kw3⟩
                        · have HV := Lib.hid (show podBad s.nodes s.loads la nd = 0 by simp [podBad, hb0, ha, hpn]; omega)
                          have HE := Lib.hid (HFA.out.2 HV.out)
                          go_wp2
                          go_roundw
                          case rel => exact ⟨k + 1, m + 1, nd.id, by omega, by have := HMM.out; omega, by go_num, by go_num, rfl, HE.out, k3⟩
                          case measure => simp [intOf]; omega
                  · have hx : countOk nd.prio = false := by simpa using ha
                    have HV := Lib.hid (show podBad s.nodes s.loads la nd = 1 by simp [podBad, hb0, hx])
                    have HE := Lib.hid (check_pod HLG.out HE1.out HE2.out (HFA.out.1 (by rw [HV.out]; decide)))
                    clear ha
                    go_wp2
                    go_ret2
                    exact ⟨ret_pair HE.out HV.out.symm rfl, kw⟩
                · have HV := Lib.hid (show podBad s.nodes s.loads la nd = idBad nd.id la by simp [podBad, hb0])
                  have HE := Lib.hid (check_pod HLG.out HE1.out HE2.out (HFA.out.1 (by rw [HV.out]; exact hb0)))
                  have hbn : (idBad nd.id la == 0) = false := by simpa using hb0
                  have hbm : (idBad nd.id la != 0) = true := by simpa using hb0
                  clear hb0
                  go_wp2
                  go_ret2
                  exact ⟨ret_pair HE.out HV.out.symm rfl, kw⟩
              · have HE3 := Lib.hid (firstBad_end (by have := HN3.out; omega) HF.out)
                have HE := Lib.hid (check_fine HLG.out HE1.out HE2.out HE3.out)
                have kw : Below w.heap.size w wr := ((Below.refl _ w).alloc (Nat.le_refl _) _).trans (hbr.mono (by omega))
                go_wp2
                go_ret2
                exact ⟨ret_pair HE.out rfl rfl, kw⟩
end Go.Proofs.YtgfleifpblcnfaaGreatDoor

/- '==' and '!=' on amounts. -/
namespace Go.Proofs.YtgfleifpblcnfaaGreatDoor
set_option linter.unusedSimpArgs false
open Go.RowKit
set_option linter.unusedVariables false

theorem num_eqIn (d : Nat) (a b : Int) (w : World) : (Op.equalIn (d + 1) 65 (.int .u64 a) (.int .u64 b)).run Tryz.prog w = .ok (a == b) w := by
  simp [Op.equalIn, run_underlying Tryz.underlying65]
theorem part_num (cs : Array Value) (j : Nat) (v : Value) (h : cs[j]? = some v) (w : World) : (part 65 cs j).run Tryz.prog w = .ok v w := by
  have hf : ∀ w : World, (isAgg 65).run Tryz.prog w = .ok false w := fun _ => by kernel_rfl
  simp [part, hf, h]
theorem vec_eqlIn (d : Nat) (a0 a1 a2 a3 b0 b1 b2 b3 : Int) (w : World) :
    (Op.equalIn (d + 2) 69 (.agg #[.int .u64 a0, .int .u64 a1, .int .u64 a2, .int .u64 a3]) (.agg #[.int .u64 b0, .int .u64 b1, .int .u64 b2, .int .u64 b3])).run Tryz.prog w
      = .ok (a0 == b0 && (a1 == b1 && (a2 == b2 && a3 == b3))) w := by
  obtain ⟨i, hi⟩ := Option.isSome_iff_exists.1 (show (Tryz.prog.info? 65).isSome = true by kernel_rfl)
  rw [run_equalIn_array w (d + 1) _ _ Tryz.underlying69 hi]
  have hc : Tryz.prog.cellsOf 65 = 1 := by kernel_rfl
  rw [hc, show List.range 4 = [0, 1, 2, 3] from rfl]
  simp only [Op.eqItems, Sem.run_bind, Nat.mul_one]
  rw [part_num #[.int .u64 a0, .int .u64 a1, .int .u64 a2, .int .u64 a3] 0 (.int .u64 a0) rfl]
  simp only [Result.andThen_ok]
  rw [part_num _ 0 (.int .u64 b0) rfl]
  simp only [Result.andThen_ok, num_eqIn]
  cases h0 : a0 == b0
  · simp
  simp only [Bool.not_true, Bool.false_eq_true, if_false, Sem.run_bind, Bool.true_and]
  rw [part_num _ 1 (.int .u64 a1) rfl]
  simp only [Result.andThen_ok]
  rw [part_num _ 1 (.int .u64 b1) rfl]
  simp only [Result.andThen_ok, num_eqIn]
  cases h1 : a1 == b1
  · simp
  simp only [Bool.not_true, Bool.false_eq_true, if_false, Sem.run_bind, Bool.true_and]
  rw [part_num _ 2 (.int .u64 a2) rfl]
  simp only [Result.andThen_ok]
  rw [part_num _ 2 (.int .u64 b2) rfl]
  simp only [Result.andThen_ok, num_eqIn]
  cases h2 : a2 == b2
  · simp
  simp only [Bool.not_true, Bool.false_eq_true, if_false, Sem.run_bind, Bool.true_and]
  rw [part_num _ 3 (.int .u64 a3) rfl]
  simp only [Result.andThen_ok]
  rw [part_num _ 3 (.int .u64 b3) rfl]
  simp only [Result.andThen_ok, num_eqIn]
  cases h3 : a3 == b3 <;> simp
theorem vec_eql (a0 a1 a2 a3 b0 b1 b2 b3 : Int) (w : World) :
    (binOp .eql 69 (.agg #[.int .u64 a0, .int .u64 a1, .int .u64 a2, .int .u64 a3]) (.agg #[.int .u64 b0, .int .u64 b1, .int .u64 b2, .int .u64 b3])).run Tryz.prog w
      = .ok (.bool (a0 == b0 && (a1 == b1 && (a2 == b2 && a3 == b3)))) w := by
  simp only [binOp]
  simp [Op.equal, Op.maxDepth, vec_eqlIn 9998]
theorem vec_same (a0 a1 a2 a3 : Int) (w : World) :
    (binOp .eql 69 (.agg #[.int .u64 a0, .int .u64 a1, .int .u64 a2, .int .u64 a3]) (.agg #[.int .u64 a0, .int .u64 a1, .int .u64 a2, .int .u64 a3])).run Tryz.prog w = .ok (.bool true) w := by
  rw [vec_eql]; simp
theorem vec_neq0 (x : V4) (w : World) :
    (binOp .neq 69 (aggV x) (.agg #[.int .u64 0, .int .u64 0, .int .u64 0, .int .u64 0])).run Tryz.prog w = .ok (.bool (!x.zero)) w := by
  simp only [binOp]
  have e : x.zero = (x.a == 0 && (x.b == 0 && (x.c == 0 && x.d == 0))) := by
    unfold V4.zero
    rw [Bool.eq_iff_iff]
    simp
  rw [e]
  simp [Op.equal, Op.maxDepth, vec_eqlIn 9998]
end Go.Proofs.YtgfleifpblcnfaaGreatDoor

/- dunnageref03.Fair. -/
namespace Go.Proofs.YtgfleifpblcnfaaGreatDoor
set_option linter.unusedSimpArgs false
open Go.RowKit
set_option linter.unusedVariables false
set_option linter.unusedSimpArgs false

theorem below_draws {B : Nat} {a w : World} (h : Below B a w) (n : Nat) : Below B a (w.drewN n) := ⟨h.os, h.tape, h.output, h.size, h.block⟩
theorem box2_cells {w wr : World} {x y z x' y' z' : Value} {t t' : TypeId} (hb : Below (w.heap.size + 2) ((w.alloc (.cells #[x, y, z] t)).alloc (.cells #[x', y', z'] t')) wr) :
    (wr.cell? ⟨w.heap.size, 0, none⟩ = some x ∧ wr.cell? ⟨w.heap.size, 1, none⟩ = some y ∧ wr.cell? ⟨w.heap.size, 2, none⟩ = some z) ∧
    (wr.cell? ⟨w.heap.size + 1, 0, none⟩ = some x' ∧ wr.cell? ⟨w.heap.size + 1, 1, none⟩ = some y' ∧ wr.cell? ⟨w.heap.size + 1, 2, none⟩ = some z') := by
  refine ⟨⟨?_, ?_, ?_⟩, ?_, ?_, ?_⟩
  all_goals
    rw [hb.cell (by simp)]
    simp
def FairRel (s : SnapD) (x : SpecD) (W : World) (B : Nat) (i : Value) (wr : World) : Prop :=
  ∃ (k : Nat) (fst : Bool) (la : Int), k ≤ x.wants.length ∧ i = .int .i64 k ∧ (k = 0 → fst = true) ∧ (∀ j (hj : j < x.wants.length), k = j + 1 → fst = false ∧ la = x.wants[j].pod) ∧
    firstWant s fst la k (x.wants.drop k) = firstWant s true 0 0 x.wants ∧ Below B W wr
theorem fairRel_next {s : SnapD} {x : SpecD} {W wr : World} {B k : Nat} {wd : WantD} (hk : k < x.wants.length) (hx : x.wants[k] = wd) (h : firstWant s false wd.pod (k + 1) (x.wants.drop (k + 1)) = firstWant s true 0 0 x.wants) (hb : Below B W wr) : FairRel s x W B (.int .i64 ((k : Int) + 1)) wr := by
  refine ⟨k + 1, false, wd.pod, by omega, by simp, fun h => by omega, fun j hj h => ⟨rfl, ?_⟩, h, hb⟩
  obtain rfl : j = k := by omega
  rw [hx]
theorem firstWant_at {s : SnapD} {l : List WantD} {fst : Bool} {la : Int} {k m : Nat} {F : Option (Int × Nat)} (h : k < l.length) {x : WantD} (hx : l[k] = x) (hf : firstWant s fst la m (l.drop k) = F) :
    (wantBad s fst la x ≠ 0 → F = some (wantBad s fst la x, m)) ∧ (wantBad s fst la x = 0 → firstWant s false x.pod (m + 1) (l.drop (k + 1)) = F) := by
  rw [List.drop_eq_getElem_cons h, hx, firstWant] at hf
  constructor
  · intro hb; rw [if_pos hb] at hf; exact hf.symm
  · intro hb; rw [if_neg (by simpa using hb)] at hf; exact hf
theorem fair_bad {s : SnapD} {x : SpecD} (h : (check s).1 ≠ 0) : fair s x = check s := by unfold fair; rw [if_pos h]
theorem fair_large {s : SnapD} {x : SpecD} (h : (check s).1 = 0) (h1 : x.preempts < 0 ∨ 40 < x.preempts ∨ x.shifts < 0 ∨ 40 < x.shifts) : fair s x = (3, -1) := by unfold fair; rw [if_neg (by simpa using h), if_pos h1]
theorem fair_some {s : SnapD} {x : SpecD} (h : (check s).1 = 0) (h1 : ¬ (x.preempts < 0 ∨ 40 < x.preempts ∨ x.shifts < 0 ∨ 40 < x.shifts)) {b : Int} {k : Nat} (hf : firstWant s true 0 0 x.wants = some (b, k)) : fair s x = (b, (k : Int)) := by
  unfold fair; rw [if_neg (by simpa using h), if_neg h1, hf]
theorem fair_fine {s : SnapD} {x : SpecD} (h : (check s).1 = 0) (h1 : ¬ (x.preempts < 0 ∨ 40 < x.preempts ∨ x.shifts < 0 ∨ 40 < x.shifts)) (hf : firstWant s true 0 0 x.wants = none) : fair s x = (0, -1) := by
  unfold fair; rw [if_neg (by simpa using h), if_neg h1, hf]
theorem ret_pair' {p q : Int × Int} (h : p = q) : Ending.returned (.tuple #[.int .i64 q.1, .int .i64 q.2]) = .returned (.tuple #[.int .i64 p.1, .int .i64 p.2]) := by rw [h]

end Go.Proofs.YtgfleifpblcnfaaGreatDoor

namespace Go.Proofs.YtgfleifpblcnfaaGreatDoor
set_option linter.unusedSimpArgs false
open Go.RowKit Go.Extern.Stop Go.Stop Go.Extern
set_option linter.unusedVariables false

/-- errors.As(nil, target). -/
theorem as_nil (t : Value) (w : World) :
    Calls Tryz.prog 76 #[.nilIface, t] w fun e w' => e = .returned (.bool false) ∧ w' = w := by
  go_enter Tryz.func76, Tryz.ntmps76
  go_wp2
  go_ret
  exact ⟨rfl, rfl⟩

/-! ### CLOSED FACTS ON THE MODEL's ENTRIES FOR internal/reflectlite, at this program's types: 51: *api.Spot, 53: **api.Spot, 28: error, 73: reflectlite's rtype; 1: how many package-level variables the dump has -/
theorem Tryz.valueOfPSpot (t : Addr) (w : World) : (ReflectliteValue.unpack (.iface 133 (.pointer (some t)))).run Tryz.prog w
    = .ok (.agg #[.pointer (some ⟨1, 133, none⟩), .pointer (some ⟨w.heap.size, 0, none⟩), .int .u64 150]) (w.alloc (.cells #[.pointer (some t)] 133)) := by kernel_rfl
theorem Tryz.typePSpot (a : Addr) (w : World) : (ReflectliteValue.methodAny (ReflectliteValue.valueError "reflectlite.Value.Type" 0) (fun t _ _ _ => ReflectliteType.toType t) #[.agg #[.pointer (some ⟨1, 133, none⟩), .pointer (some a), .int .u64 150]]).run Tryz.prog w
    = .ok (.iface 176 (.agg #[.pointer (some ⟨1, 133, none⟩)])) w := by kernel_rfl
theorem Tryz.methodKind (h : Value) (w : World) : (Go.method 320 176 (.agg #[h]) "Kind").run Tryz.prog w = .ok (124, h) w := by kernel_rfl
theorem Tryz.kindPSpot (w : World) : ((ReflectliteType.abiMethod fun t => (fun a : Nat => Value.int IntKind.u8 (a : Int)) <$> Rtype.kind t) #[.pointer (some ⟨1, 133, none⟩)]).run Tryz.prog w = .ok (.int .u8 22) w := by kernel_rfl
theorem Tryz.kindSpot (w : World) : ((ReflectliteType.abiMethod fun t => (fun a : Nat => Value.int IntKind.u8 (a : Int)) <$> Rtype.kind t) #[.pointer (some ⟨1, 131, none⟩)]).run Tryz.prog w = .ok (.int .u8 22) w := by kernel_rfl

/-! ### THE ENTRIES THAT READ OR WRITE MEMORY: laws with a premise on the cell (after Derived/Lib/ReflectliteSlice.lean's manner: each unfolding a lemma of its own, by rfl) -/
theorem rlm (z : Sem Value) (f : TypeId → Addr → Nat → Nat → Sem Value) (v : Value) :
    ReflectliteValue.method z f #[v] = (do match ← ReflectliteValue.parts v with | none => z | some (t, a, fl) => f t a fl (fl % 32)) := rfl
theorem Tryz.partsPSpot (a : Addr) (w : World) : (ReflectliteValue.parts (.agg #[.pointer (some ⟨1, 133, none⟩), .pointer (some a), .int .u64 150])).run Tryz.prog w = .ok (some (133, a, 150)) w := by kernel_rfl
/-- (Value).IsNil at the Value of a **api.Spot that is not nil. -/
theorem Tryz.isNilPSpot (a p : Addr) (W : World) (ha : W.cell? a = some (.pointer (some p))) :
    (ReflectliteValue.method (ReflectliteValue.valueError "reflectlite.Value.IsNil" 0) ReflectliteValue.isNil #[.agg #[.pointer (some ⟨1, 133, none⟩), .pointer (some a), .int .u64 150]]).run Tryz.prog W = .ok (.bool false) W := by
  rw [rlm]
  simp only [Sem.run_bind, Tryz.partsPSpot, Result.andThen]
  simp [ReflectliteValue.isNil, loadVar, isAgg, underlying, Tryz.underlying133, ha, Result.andThen]

theorem Tryz.methodElem (h : Value) (w : World) : (Go.method 320 176 (.agg #[h]) "Elem").run Tryz.prog w = .ok (136, .agg #[h]) w := by kernel_rfl
theorem Tryz.methodImplements (h : Value) (w : World) : (Go.method 320 176 (.agg #[h]) "Implements").run Tryz.prog w = .ok (137, .agg #[h]) w := by kernel_rfl
theorem Tryz.methodAssignableTo (h : Value) (w : World) : (Go.method 320 176 (.agg #[h]) "AssignableTo").run Tryz.prog w = .ok (134, .agg #[h]) w := by kernel_rfl
theorem Tryz.elemPSpot (w : World) : (ReflectliteType.method ReflectliteType.elem #[.agg #[.pointer (some ⟨1, 133, none⟩)]]).run Tryz.prog w = .ok (.iface 176 (.agg #[.pointer (some ⟨1, 131, none⟩)])) w := by kernel_rfl
theorem Tryz.implementsSpot (w : World) : (ReflectliteType.relation "Implements" ReflectliteType.implements_ #[.agg #[.pointer (some ⟨1, 131, none⟩)], .iface 176 (.agg #[.pointer (some ⟨1, 31, none⟩)])]).run Tryz.prog w = .ok (.bool true) w := by kernel_rfl
theorem Tryz.typeOfSpot (v : Value) (w : World) : (ReflectliteType.typeOf #[.iface 131 v]).run Tryz.prog w = .ok (.iface 176 (.agg #[.pointer (some ⟨1, 131, none⟩)])) w := by kernel_rfl
theorem Tryz.assignableSpot (w : World) : (ReflectliteType.relation "AssignableTo" ReflectliteType.assignableTo #[.agg #[.pointer (some ⟨1, 131, none⟩)], .iface 176 (.agg #[.pointer (some ⟨1, 131, none⟩)])]).run Tryz.prog w = .ok (.bool true) w := by kernel_rfl
theorem Tryz.valueOfSpot (e : Addr) (w : World) : (ReflectliteValue.unpack (.iface 131 (.pointer (some e)))).run Tryz.prog w
    = .ok (.agg #[.pointer (some ⟨1, 131, none⟩), .pointer (some ⟨w.heap.size, 0, none⟩), .int .u64 150]) (w.alloc (.cells #[.pointer (some e)] 131)) := by kernel_rfl

theorem Tryz.elemOfPSpot (w : World) : (Rtype.elem? 133).run Tryz.prog w = .ok (some 131) w := by kernel_rfl
theorem Tryz.mkSpot (p : Addr) (w : World) : (ReflectliteValue.mk 131 p ReflectliteValue.flagAddr).run Tryz.prog w = .ok (.agg #[.pointer (some ⟨1, 131, none⟩), .pointer (some p), .int .u64 406]) w := by kernel_rfl
/-- (Value).Elem at the Value of a **api.Spot that is not nil: the Value of the *api.Spot variable that it points to, addressable. -/
theorem Tryz.elemVPSpot (a p : Addr) (W : World) (ha : W.cell? a = some (.pointer (some p))) :
    (ReflectliteValue.method (ReflectliteValue.valueError "reflectlite.Value.Elem" 0) ReflectliteValue.elem #[.agg #[.pointer (some ⟨1, 133, none⟩), .pointer (some a), .int .u64 150]]).run Tryz.prog W
      = .ok (.agg #[.pointer (some ⟨1, 131, none⟩), .pointer (some p), .int .u64 406]) W := by
  rw [rlm]
  simp only [Sem.run_bind, Tryz.partsPSpot, Result.andThen]
  simp [ReflectliteValue.elem, loadVar, isAgg, underlying, Tryz.underlying133, ha, Result.andThen, Tryz.elemOfPSpot, Tryz.mkSpot]
theorem Tryz.partsSpotA (a : Addr) (w : World) : (ReflectliteValue.parts (.agg #[.pointer (some ⟨1, 131, none⟩), .pointer (some a), .int .u64 406])).run Tryz.prog w = .ok (some (131, a, 406)) w := by kernel_rfl
theorem Tryz.partsSpot (a : Addr) (w : World) : (ReflectliteValue.parts (.agg #[.pointer (some ⟨1, 131, none⟩), .pointer (some a), .int .u64 150])).run Tryz.prog w = .ok (some (131, a, 150)) w := by kernel_rfl
theorem Tryz.directSpot (w : World) : (Rtype.directlyAssignable 131 131).run Tryz.prog w = .ok true w := by kernel_rfl
theorem Tryz.sizeSpot (w : World) : (sizeOf 131).run Tryz.prog w = .ok 1 w := by kernel_rfl
/-- (Value).Set: the *api.Spot variable at 'ta' gets what the Value's own variable 'b' holds. -/
theorem Tryz.setSpot (ta b e : Addr) (old : Value) (W : World) (hb : W.cell? b = some (.pointer (some e))) (ht : W.cell? ta = some old) (hf : W.frozen? ta = false) :
    (ReflectliteValue.set #[.agg #[.pointer (some ⟨1, 131, none⟩), .pointer (some ta), .int .u64 406], .agg #[.pointer (some ⟨1, 131, none⟩), .pointer (some b), .int .u64 150]]).run Tryz.prog W
      = .ok (.tuple #[]) (W.setCell ta (.pointer (some e))) := by
  show (bind (ReflectliteValue.parts (.agg #[.pointer (some ⟨1, 131, none⟩), .pointer (some ta), .int .u64 406])) fun p => bind (ReflectliteValue.parts (.agg #[.pointer (some ⟨1, 131, none⟩), .pointer (some b), .int .u64 150])) _ : Sem Value).run Tryz.prog W = _
  simp only [Sem.run_bind, Tryz.partsSpotA, Tryz.partsSpot, Result.andThen]
  simp [ReflectliteValue.flagAddr, loadVar, isAgg, underlying, Tryz.underlying131, hb, Result.andThen, Tryz.directSpot, storeVar, Value.cells, storeCells, Addr.add]
  rw [run_store Tryz.prog W ta _ _ (by rfl)]
  simp [ht, hf]

set_option maxHeartbeats 4000000 in
theorem as_hit (e t : Addr) (old : Value) (w : World) (hg : w.cell? ⟨0, 0, none⟩ = some (.iface 176 (.agg #[.pointer (some ⟨1, 31, none⟩)]))) (ht0 : w.cell? t = some old) (hf0 : w.frozen? t = false) :
    Calls Tryz.prog 76 #[.iface 131 (.pointer (some e)), .iface 133 (.pointer (some t))] w fun ev w' => ev = .returned (.bool true) ∧ w' = ((((w.alloc (.cells #[.pointer (some t)] 133)).alloc (.cells #[.pointer (some ⟨1, 133, none⟩), .pointer (some ⟨w.heap.size, 0, none⟩), .int .u64 150] 159)).alloc (.cells #[.pointer (some ⟨1, 133, none⟩), .pointer (some ⟨w.heap.size, 0, none⟩), .int .u64 150] 159)).alloc (.cells #[.pointer (some e)] 131)).setCell t (.pointer (some e)) := by
  have h6 := @run_callFunc_extern Tryz.prog 93 _ (fun args => ReflectliteValue.unpack (args.getD 0 (.tuple #[]))) Tryz.func93 (by kernel_rfl) (by kernel_rfl) (by kernel_rfl) (by kernel_rfl)
  have h7 := @run_callFunc_extern Tryz.prog 94 _ (ReflectliteValue.methodAny (ReflectliteValue.valueError "reflectlite.Value.Type" 0) (fun t _ _ _ => ReflectliteType.toType t)) Tryz.func94 (by kernel_rfl) (by kernel_rfl) (by kernel_rfl) (by kernel_rfl)
  have h8 := @run_callFunc_extern Tryz.prog 95 _ (ReflectliteValue.method (ReflectliteValue.valueError "reflectlite.Value.IsNil" 0) ReflectliteValue.isNil) Tryz.func95 (by kernel_rfl) (by kernel_rfl) (by kernel_rfl) (by kernel_rfl)
  have h27 := @run_callFunc_extern Tryz.prog 124 _ (ReflectliteType.abiMethod fun t => do pure (.int .u8 (← Rtype.kind t))) Tryz.func124 (by kernel_rfl) (by kernel_rfl) (by kernel_rfl) (by kernel_rfl)
  have h37 := @run_callFunc_extern Tryz.prog 136 _ (ReflectliteType.method ReflectliteType.elem) Tryz.func136 (by kernel_rfl) (by kernel_rfl) (by kernel_rfl) (by kernel_rfl)
  have h38 := @run_callFunc_extern Tryz.prog 137 _ (ReflectliteType.relation "Implements" ReflectliteType.implements_) Tryz.func137 (by kernel_rfl) (by kernel_rfl) (by kernel_rfl) (by kernel_rfl)
  have h10 := @run_callFunc_extern Tryz.prog 97 _ ReflectliteType.typeOf Tryz.func97 (by kernel_rfl) (by kernel_rfl) (by kernel_rfl) (by kernel_rfl)
  have h35 := @run_callFunc_extern Tryz.prog 134 _ (ReflectliteType.relation "AssignableTo" ReflectliteType.assignableTo) Tryz.func134 (by kernel_rfl) (by kernel_rfl) (by kernel_rfl) (by kernel_rfl)
  have h11 := @run_callFunc_extern Tryz.prog 106 _ (ReflectliteValue.method (ReflectliteValue.valueError "reflectlite.Value.Elem" 0) ReflectliteValue.elem) Tryz.func106 (by kernel_rfl) (by kernel_rfl) (by kernel_rfl) (by kernel_rfl)
  have h12 := @run_callFunc_extern Tryz.prog 107 _ ReflectliteValue.set Tryz.func107 (by kernel_rfl) (by kernel_rfl) (by kernel_rfl) (by kernel_rfl)
  have tO := Tryz.typeOfSpot
  have mA := Tryz.methodAssignableTo
  have a25 := Tryz.assignableSpot
  have v25 := Tryz.valueOfSpot
  have f6 := Tryz.valueOfPSpot
  have f7 := Tryz.typePSpot
  have mK := Tryz.methodKind
  have mE := Tryz.methodElem
  have mI := Tryz.methodImplements
  have k27 := Tryz.kindPSpot
  have k25 := Tryz.kindSpot
  have e27 := Tryz.elemPSpot
  have i25 := Tryz.implementsSpot
  have n8 := Tryz.isNilPSpot ⟨w.heap.size, 0, none⟩ t ((w.alloc (.cells #[.pointer (some t)] 133)).alloc (.cells #[.pointer (some ⟨1, 133, none⟩), .pointer (some ⟨w.heap.size, 0, none⟩), .int .u64 150] 159)) (by simp)
  have hlt : 0 < w.heap.size := by
    rcases Nat.eq_zero_or_pos w.heap.size with h0 | h
    · simp [World.cell?, h0] at hg
    · exact h
  have hg2 : ((w.alloc (.cells #[.pointer (some t)] 133)).alloc (.cells #[.pointer (some ⟨1, 133, none⟩), .pointer (some ⟨w.heap.size, 0, none⟩), .int .u64 150] 159)).cell? ⟨0, 0, none⟩ = some (.iface 176 (.agg #[.pointer (some ⟨1, 31, none⟩)])) := by
    rw [World.cell?_alloc_lt _ _ ⟨0, 0, none⟩ (by simp), World.cell?_alloc_lt _ _ ⟨0, 0, none⟩ hlt]; exact hg
  have htl : t.block < w.heap.size := by
    rcases Nat.lt_or_ge t.block w.heap.size with h | h
    · exact h
    · simp [World.cell?, Array.getElem?_eq_none h] at ht0
  have el := Tryz.elemVPSpot ⟨w.heap.size, 0, none⟩ t (((w.alloc (.cells #[.pointer (some t)] 133)).alloc (.cells #[.pointer (some ⟨1, 133, none⟩), .pointer (some ⟨w.heap.size, 0, none⟩), .int .u64 150] 159)).alloc (.cells #[.pointer (some ⟨1, 133, none⟩), .pointer (some ⟨w.heap.size, 0, none⟩), .int .u64 150] 159)) (by rw [World.cell?_alloc_lt _ _ ⟨w.heap.size, 0, none⟩ (by simp; omega)]; simp)
  have st := Tryz.setSpot t ⟨w.heap.size + 1 + 1 + 1, 0, none⟩ e old ((((w.alloc (.cells #[.pointer (some t)] 133)).alloc (.cells #[.pointer (some ⟨1, 133, none⟩), .pointer (some ⟨w.heap.size, 0, none⟩), .int .u64 150] 159)).alloc (.cells #[.pointer (some ⟨1, 133, none⟩), .pointer (some ⟨w.heap.size, 0, none⟩), .int .u64 150] 159)).alloc (.cells #[.pointer (some e)] 131))
    (by rw [World.cell?_alloc_at _ _ _ _ (by simp)]; rfl)
    (by rw [World.cell?_alloc_lt _ _ t (by simp; omega), World.cell?_alloc_lt _ _ t (by simp; omega), World.cell?_alloc_lt _ _ t (by simp; omega), World.cell?_alloc_lt _ _ t htl]; exact ht0)
    (by rw [World.frozen?_alloc_old _ _ t (by simp; omega), World.frozen?_alloc_old _ _ t (by simp; omega), World.frozen?_alloc_old _ _ t (by simp; omega), World.frozen?_alloc_old _ _ t (Nat.ne_of_lt htl)]; exact hf0)
  go_enter Tryz.func76, Tryz.ntmps76
  go_wp2
  refine wp_loop_rounds 1 ?_
  rw [rounds_succ]
  go_wp2
  go_ret
  exact ⟨rfl, rfl⟩
end Go.Proofs.YtgfleifpblcnfaaGreatDoor
