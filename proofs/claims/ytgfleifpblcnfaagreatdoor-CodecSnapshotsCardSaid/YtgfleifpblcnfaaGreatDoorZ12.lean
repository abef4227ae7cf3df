/- Joined texts, part 12: KR JD HA HW HC I HP HD JE HB. -/
import Derived.Test.YtgfleifpblcnfaaGreatDoorZ01
import Derived.Test.YtgfleifpblcnfaaGreatDoorZ11
import Derived.ChangeSame
import Derived.ChangeVars
import Derived.JoinedOf
import Derived.RowKit
import Derived.RowKitTokens
import Derived.Carry
import Derived.ChangeSlices
import Derived.Test.YtgfleifpblcnfaaGreatDoorZ06
import Derived.Test.YtgfleifpblcnfaaGreatDoorZ02
import Derived.Deep.AppendLies
import Derived.Deep.RegionHeld3
import Derived.Test.YtgfleifpblcnfaaGreatDoorZ03
import Derived.IntWalk
import Derived.Test.YtgfleifpblcnfaaGreatDoorZ07
import Derived.Test.YtgfleifpblcnfaaGreatDoorZ05
import Derived.Deep.QuietTactic
import Derived.BigQuiet
import Derived.Test.YtgfleifpblcnfaaGreatDoorZ09
import Derived.Test.YtgfleifpblcnfaaGreatDoorZ08
import Derived.Deep.RegionHeldLaw

/- How moves and bytes that come in are read as data. -/
namespace Go.Proofs.YtgfleifpblcnfaaGreatDoor
set_option linter.unusedSimpArgs false
open Go.ChangeShapes Go.WideShapes Go.RowKit

theorem Tryz.cellsU8 : Tryz.prog.cellsOf 5 = 1 := by kernel_rfl
theorem Tryz.cellsM : Tryz.prog.cellsOf 111 = 4 := by kernel_rfl
theorem fits_u8 {n : Int} (h : (Lit.int .u8 n).wf = true) : 0 ≤ n ∧ n < 256 := by
  simp [Lit.wf, IntKind.min, IntKind.max, IntKind.signed, IntKind.bits] at h
  omega

theorem list4 {α : Type} (l : List α) (h : l.length = 4) : ∃ c0 c1 c2 c3, l = [c0, c1, c2, c3] := by
  match l, h with
  | [c0, c1, c2, c3], _ => exact ⟨c0, c1, c2, c3, rfl⟩
section
variable {H : Type} {enc : TypeId × Value → H} {w : World} {base : Nat} {sp : Nat → Bool} {held : Bool}
set_option maxRecDepth 100000 in
theorem move_of {n : Nat} {cs : List Value} {x : DataW H × List MemPlace} (hl : cs.length = 4) (h : DataW.trod enc Tryz.prog w base sp held n 111 cs = some x) : ∃ a : MoveD, cs = cellsM a ∧ True := by
  obtain ⟨xs, m, rfl, _, _, hxl, hf⟩ := DataW.trod_struct Tryz.underlying111 h
  obtain ⟨c0, c1, c2, c3, rfl⟩ := list4 cs hl
  have h0 : DataW.trod enc Tryz.prog w base sp held m 3 (([c0, c1, c2, c3].drop 0).take (Tryz.prog.cellsOf 3)) = xs[0]? := hf 0 _ rfl
  rw [Tryz.cells3, show ([c0, c1, c2, c3].drop 0).take 1 = [c0] from rfl] at h0
  have h1 : DataW.trod enc Tryz.prog w base sp held m 3 (([c0, c1, c2, c3].drop 1).take (Tryz.prog.cellsOf 3)) = xs[1]? := hf 1 _ rfl
  rw [Tryz.cells3, show ([c0, c1, c2, c3].drop 1).take 1 = [c1] from rfl] at h1
  have h2 : DataW.trod enc Tryz.prog w base sp held m 3 (([c0, c1, c2, c3].drop 2).take (Tryz.prog.cellsOf 3)) = xs[2]? := hf 2 _ rfl
  rw [Tryz.cells3, show ([c0, c1, c2, c3].drop 2).take 1 = [c2] from rfl] at h2
  have h3 : DataW.trod enc Tryz.prog w base sp held m 3 (([c0, c1, c2, c3].drop 3).take (Tryz.prog.cellsOf 3)) = xs[3]? := hf 3 _ rfl
  rw [Tryz.cells3, show ([c0, c1, c2, c3].drop 3).take 1 = [c3] from rfl] at h3
  obtain ⟨k0, rfl, _⟩ := int_of (some_at hxl (by decide)) h0
  obtain ⟨k1, rfl, _⟩ := int_of (some_at hxl (by decide)) h1
  obtain ⟨k2, rfl, _⟩ := int_of (some_at hxl (by decide)) h2
  obtain ⟨k3, rfl, _⟩ := int_of (some_at hxl (by decide)) h3
  exact ⟨⟨k0, k1, k2, k3⟩, rfl, trivial⟩
set_option maxRecDepth 100000 in
/-- A slice of moves. -/
theorem open_moves {r : Reach} {b0 : Nat} {v : Value} {d : DataW H} {ps : List MemPlace} (hval : Value.okWide Tryz.prog w r b0 60 v) (h : DataW.Trod enc Tryz.prog w base sp held 60 v d ps) :
    ∃ (m : List MoveD) (A : Option Addr) (c : Nat), v = .slice A m.length c ∧ m.length ≤ c ∧ c ≤ maxLen ∧ Recs 4 cellsM w w.heap.size A m := by
  obtain ⟨av, n0, cap0, rfl⟩ := okWide_slice Tryz.underlying60 hval
  obtain ⟨fuel, hf⟩ := h
  have hf' : DataW.trod enc Tryz.prog w base sp held fuel 60 [.slice av n0 cap0] = some (d, ps) := hf
  obtain ⟨A, c, l, e, h1, h2, _, h3, _⟩ := open_recs (cells := cellsM) (size := 4) (Ok := fun _ : MoveD => True) Tryz.underlying60 Tryz.cellsM (by decide) (fun n cs x hl h => move_of hl h) hf'
  exact ⟨l, A, c, e, h1, h2, h3⟩
end
section
variable {H : Type} {enc : TypeId × Value → H} {W : World}
set_option maxRecDepth 100000 in
/-- A slice of integers that came in: nil or not. -/
theorem open_row {t e : TypeId} {k : IntKind} (ht : Tryz.prog.underlying t = some (.slice e)) (he : Tryz.prog.underlying e = some (.int k)) (hc : Tryz.prog.cellsOf e = 1)
    {r : Reach} {b0 base : Nat} {sp : Nat → Bool} {held : Bool} {v : Value} {d : DataW H} {ps : List MemPlace} (hval : Value.okWide Tryz.prog W r b0 t v) (h : DataW.Trod enc Tryz.prog W base sp held t v d ps) :
    ∃ (A : Option Addr) (c : Nat) (l : List Int), v = .slice A l.length c ∧ l.length ≤ c ∧ c ≤ maxLen ∧ (A = none → c = 0) ∧ Row W W.heap.size A (l.map (Value.int k)) ∧ ∀ x ∈ l, (Lit.int k x).wf = true := by
  obtain ⟨av, n0, cap0, rfl⟩ := okWide_slice ht hval
  obtain ⟨fuel, hf⟩ := h
  rcases open_ints ht he hc hf with ⟨hcs, _⟩ | ⟨a, len, cap, zs, hcs, _, hl, hm, hz, _, hcell, hwz⟩
  · have hcs' : av = none ∧ n0 = 0 ∧ cap0 = 0 := by simpa [Value.cells] using hcs
    obtain ⟨rfl, rfl, rfl⟩ := hcs'
    exact ⟨none, 0, [], rfl, by simp, by unfold maxLen; omega, fun _ => rfl, Row.nil, fun _ h => by simp at h⟩
  · have hcs' : av = some a ∧ n0 = len ∧ cap0 = cap := by simpa [Value.cells] using hcs
    obtain ⟨rfl, rfl, rfl⟩ := hcs'
    have hnz : n0 ≤ zs.length := by rw [hz]; split <;> omega
    have hlen : (zs.take n0).length = n0 := by simp; omega
    refine ⟨some a, cap0, zs.take n0, by rw [hlen], by omega, hm, fun h => by (cases h), ?_, fun x hx => hwz x (List.mem_of_mem_take hx)⟩
    by_cases h0 : n0 = 0
    · exact .inl (by simp [h0])
    · obtain ⟨ab, ao, spot⟩ := a
      have hs0 := hcell 0 (by omega)
      have hspot : spot = none := by simpa [Addr.add] using World.cell?_spot hs0
      subst hspot
      have hlt := World.block_lt_of_cell? _ _ hs0
      rw [Addr.add_lit] at hlt
      refine .inr ⟨ab, ao, rfl, hlt, fun j hj => ?_⟩
      have hj' : j < n0 := by simp at hj; omega
      have := hcell j (by omega)
      rw [Addr.add_lit] at this
      rw [this]
      simp [List.getD, List.getElem?_eq_getElem (show j < zs.length by omega)]
end
end Go.Proofs.YtgfleifpblcnfaaGreatDoor

/- The law CodecOnce, walked. -/
namespace Go.Proofs.YtgfleifpblcnfaaGreatDoor
set_option linter.unusedSimpArgs false
open Go.RowKit
set_option linter.unusedVariables false

theorem rdSnap_sound {l : List Int} (h : Nums l) : (rdSnap l).1.Ok ∧ (rdSnap l).1.nodes.length ≤ 40 ∧ (rdSnap l).1.loads.length ≤ 40 ∧ (rdSnap l).1.pods.length ≤ 40 := by
  have hno : (noSnap : SnapD).Ok := ⟨fun _ h => by simp at h, fun _ h => by simp at h, fun _ h => by simp at h⟩
  by_cases h1 : l.length < 3
  · rw [show rdSnap l = (noSnap, 2, -1) by rw [rdSnap, if_pos h1]]; exact ⟨hno, by decide, by decide, by decide⟩
  by_cases h2 : 8 < l.getD 0 0 ∨ 8 < l.getD 1 0 ∨ 12 < l.getD 2 0
  · rw [show rdSnap l = (noSnap, 3, -1) by rw [rdSnap, if_neg h1, if_pos h2]]; exact ⟨hno, by decide, by decide, by decide⟩
  rw [rdSnap_m (nums_pos h) h1 h2]
  by_cases hw : wellF (mSnap l).2 = true
  · rw [if_pos hw]
    by_cases hc : (check (mSnap l).1).1 ≠ 0
    · rw [if_pos hc]; exact ⟨hno, Nat.zero_le _, Nat.zero_le _, Nat.zero_le _⟩
    · rw [if_neg hc]
      refine ⟨mSnap_fit h, ?_⟩
      have hm := (snap_machine (nums_pos h) h1 h2).2 hw
      show (mSnap l).1.nodes.length ≤ 40 ∧ (mSnap l).1.loads.length ≤ 40 ∧ (mSnap l).1.pods.length ≤ 40
      rw [hm]
      simp only [snapOf, parse_length]
      omega
  · rw [if_neg hw]; exact ⟨hno, by decide, by decide, by decide⟩
theorem rdSpec_sound {l : List Int} (h : Nums l) : (∀ y ∈ (rdSpec l).1.wants, y.Ok) ∧ (rdSpec l).1.wants.length ≤ 40 := by
  have hno : (∀ y ∈ (noSpec : SpecD).wants, y.Ok) := fun _ h => by simp at h
  by_cases h1 : l.length < 3
  · rw [show rdSpec l = (noSpec, 2, -1) by rw [rdSpec, if_pos h1]]; exact ⟨hno, by decide⟩
  by_cases h2 : 12 < l.getD 0 0
  · rw [show rdSpec l = (noSpec, 3, -1) by rw [rdSpec, if_neg h1, if_pos h2]]; exact ⟨hno, by decide⟩
  rw [rdSpec_m (nums_pos h) h1 h2]
  by_cases hw : wellF (mSpec l).2 = true
  · rw [if_pos hw]
    refine ⟨(mSpec_fit h).2.2, ?_⟩
    have hm := (spec_machine (nums_pos h) h1 h2).2 hw
    show (mSpec l).1.wants.length ≤ 40
    rw [hm]
    simp only [parse_length]
    omega
  · rw [if_neg hw]; exact ⟨hno, by decide⟩
theorem rdMoves_sound {l : List Int} (h : Nums l) : (rdMoves l).1.length ≤ 40 := by
  by_cases h1 : l.length < 1
  · rw [show rdMoves l = ([], 2, -1) by rw [rdMoves, if_pos h1]]; decide
  by_cases h2 : 40 < l.getD 0 0
  · rw [show rdMoves l = ([], 3, -1) by rw [rdMoves, if_neg h1, if_pos h2]]; decide
  rw [rdMoves_m (nums_pos h) h1 h2]
  by_cases hw : wellF (mMoves l).2 = true
  · rw [if_pos hw]
    have hm := (moves_machine (nums_pos h) h1 h2).2 hw
    show (mMoves l).1.length ≤ 40
    rw [hm, parse_length]
    omega
  · rw [if_neg hw]; decide
theorem rdB_cases {α : Type} (z : α) (rd : List Int → α × Int × Int) (ns rest : List Int) : (rdB z rd ns rest).1 = z ∨ ((rdB z rd ns rest).1 = (rd ns).1) := by
  unfold rdB; split
  · exact .inr rfl
  · exact .inl rfl
theorem errIs_nz {B : Nat} {w : World} {u : Value} {p : Int × Int} (h : ErrIs p B w u) : (p = (0, -1) ∧ u = .nilIface) ∨ (p.1 ≠ 0 ∧ ∃ t v, u = .iface t v) ∨ (∃ t v, u = .iface t v) := by
  rcases h with h | ⟨_, h1, _, h⟩ | ⟨k, g, h, h3, _⟩
  · exact .inl h
  · exact .inr (.inl ⟨by omega, _, _, h⟩)
  · exact .inr (.inr ⟨_, _, h3⟩)
/-- What one reader and its writer give: what was read is written as those bytes, or the reader told an error. -/
def Once (bs : List Int) (n : Nat) (w : World) (u vp vf : Value) : Prop :=
  (u = .nilIface ∧ vf = .nilIface ∧ ∃ A c, vp = .slice A n c ∧ Row w w.heap.size A (u8s bs)) ∨ ∃ t v, u = .iface t v
theorem Once.below {bs : List Int} {n : Nat} {w w' : World} {u vp vf : Value} (h : Once bs n w u vp vf) (hb : Below w.heap.size w w') : Once bs n w' u vp vf := by
  rcases h with ⟨h1, h2, A, c, h3, h4⟩ | h
  · exact .inl ⟨h1, h2, A, c, h3, (h4.below hb (Nat.le_refl _)).more hb.size⟩
  · exact .inr h
theorem once_nil {α : Type} {z : α} {rd : List Int → α × Int × Int} {ns rest : List Int} {B : Nat} {w : World} {u : Value} (h : ErrIs (rdB z rd ns rest).2 B w u) : (rest = [] ∧ rd ns = ((rd ns).1, 0, -1) ∧ u = .nilIface) ∨ ∃ t v, u = .iface t v := by
  rcases errIs_nz h with ⟨h1, h2⟩ | ⟨_, h⟩ | h
  · by_cases hr : rest = []
    · subst hr
      rw [rdB, if_pos rfl] at h1
      exact .inl ⟨rfl, Prod.ext rfl h1, h2⟩
    · rw [rdB, if_neg hr] at h1
      have := congrArg Prod.fst h1
      simp at this
  · exact .inr h
  · exact .inr h
theorem once_snap {ns rest : List Int} {n : Nat} (hns : Nums ns) (hn : n = (encs ns ++ rest).length) {B : Nat} {w v w' : World} {u vp vf : Value} (hu : ErrIs (rdB noSnap rdSnap ns rest).2 B w u) (hw : SnapWTo (rdB noSnap rdSnap ns rest).1 v (.returned (.tuple #[vp, vf])) w') : Once (encs ns ++ rest) n w' u vp vf := by
  rcases once_nil hu with ⟨rfl, h1, h2⟩ | h
  · rw [rdB, if_pos rfl] at hw
    obtain ⟨e1, e2⟩ := rd_once (nums_pos hns) h1
    rcases hw with ⟨_, hw⟩ | ⟨h0, _⟩
    · obtain ⟨A, c, h3, _, _, h4, _⟩ := hw.row rfl
      rw [e1] at h3 h4
      have h3 := Ending.returned.inj h3
      injection h3 with h3
      have a1 : vp = .slice A (encs ns).length c := by have := congrArg (fun x => x[0]?) h3; simpa using this
      have a2 : vf = .nilIface := by have := congrArg (fun x => x[1]?) h3; simpa using this
      rw [List.append_nil] at hn ⊢
      exact .inl ⟨h2, a2, A, c, by rw [hn]; exact a1, h4⟩
    · exact absurd e2 h0
  · exact .inr h
theorem once_write {α : Type} {z : α} {rd : List Int → α × Int × Int} {nums : α → List Int} {ok : α → Bool} (ho : ∀ {l : List Int}, (∀ x ∈ l, 0 ≤ x) → ∀ {x : α}, rd l = (x, 0, -1) → nums x = l ∧ ok x = true) {ns rest : List Int} {n : Nat} (hns : Nums ns) (hn : n = (encs ns ++ rest).length) {B : Nat} {w v w' : World} {u vp vf : Value}
    (hu : ErrIs (rdB z rd ns rest).2 B w u) (hw : WriteTo (ok (rdB z rd ns rest).1) (nums (rdB z rd ns rest).1) v (.returned (.tuple #[vp, vf])) w') : Once (encs ns ++ rest) n w' u vp vf := by
  rcases once_nil hu with ⟨rfl, h1, h2⟩ | h
  · rw [rdB, if_pos rfl] at hw
    obtain ⟨e1, e2⟩ := ho (nums_pos hns) h1
    obtain ⟨A, c, h3, _, _, h4, _⟩ := hw.row e2
    rw [e1] at h3 h4
    have h3 := Ending.returned.inj h3
    injection h3 with h3
    have a1 : vp = .slice A (encs ns).length c := by have := congrArg (fun x => x[0]?) h3; simpa using this
    have a2 : vf = .nilIface := by have := congrArg (fun x => x[1]?) h3; simpa using this
    rw [List.append_nil] at hn ⊢
    exact .inl ⟨h2, a2, A, c, by rw [hn]; exact a1, h4⟩
  · exact .inr h
theorem writeTo_pair {l : List Int} {w w' : World} {e : Ending} {ok : Bool} (h : WriteTo ok l w e w') : ∃ vp vf, e = .returned (.tuple #[vp, vf]) ∧ Below w.heap.size w w' := by
  obtain ⟨⟨_, v, rfl, _⟩ | ⟨_, rfl⟩, hb⟩ := h
  · exact ⟨_, _, rfl, hb⟩
  · exact ⟨_, _, rfl, hb⟩
theorem snapWTo_pair {s : SnapD} {w w' : World} {e : Ending} (h : SnapWTo s w e w') : ∃ vp vf, e = .returned (.tuple #[vp, vf]) ∧ Below w.heap.size w w' := by
  rcases h with ⟨_, h⟩ | ⟨_, u, rfl, _, hb⟩
  · exact writeTo_pair h
  · exact ⟨_, _, rfl, hb⟩

end Go.Proofs.YtgfleifpblcnfaaGreatDoor

/- Words for the reference's codec: an append that leaves all other blocks, a box that stays, a row that a literal makes. -/
namespace Go.Proofs.YtgfleifpblcnfaaGreatDoor
set_option linter.unusedSimpArgs false
open Go.RowKit
set_option linter.unusedVariables false

/-- A box that holds these cells. -/
def Bx (w : World) (b : Nat) (cs : List Value) : Prop := b < w.heap.size ∧ ∀ j (h : j < cs.length), w.cell? ⟨b, j, none⟩ = some cs[j]
theorem Bx.at {w : World} {b : Nat} {cs : List Value} (h : Bx w b cs) (j : Nat) (v : Value) (hv : cs[j]? = some v) : w.cell? ⟨b, j, none⟩ = some v := by
  obtain ⟨hj, rfl⟩ := List.getElem?_eq_some_iff.1 hv
  exact h.2 j hj
theorem Bx.below {w w' : World} {b B : Nat} {cs : List Value} (h : Bx w b cs) (hb : Below B w w') (hB : b < B) : Bx w' b cs :=
  ⟨Nat.lt_of_lt_of_le h.1 hb.size, fun j hj => (hb.cell (p := ⟨b, j, none⟩) hB).trans (h.2 j hj)⟩
theorem Bx.grown {w w' : World} {b : Nat} {row : Option Nat} {cs : List Value} (h : Bx w b cs) (hg : w.grownBy w' row) (hr : some b ≠ row) : Bx w' b cs :=
  ⟨Nat.lt_of_lt_of_le h.1 hg.size, fun j hj => hg.cell (h.2 j hj) hr⟩
theorem Bx.alloc {w : World} {b : Nat} {cs : List Value} (h : Bx w b cs) (o : Obj) : Bx (w.alloc o) b cs :=
  ⟨by have := h.1; simp; omega, fun j hj => by rw [World.cell?_alloc_lt _ _ _ h.1]; exact h.2 j hj⟩
theorem Bx.new (w : World) (cs : List Value) (t : TypeId) : Bx (w.alloc (.cells cs.toArray t)) w.heap.size cs :=
  ⟨by simp, fun j hj => by simp [List.getElem?_eq_getElem hj]⟩
/-- A row that a literal makes. -/
theorem own_lit (w : World) (B n : Nat) (e : TypeId) (cs : List Value) (hB : B ≤ w.heap.size) (hn : n = cs.length) (hl : n ≤ 1000) : (w.alloc (.cells cs.toArray e)).ownsRow B e 1 (.slice (some ⟨w.heap.size, 0, none⟩) n n) n cs := by
  subst hn
  refine ⟨by omega, .inr ⟨w.heap.size, cs.length, cs.toArray, rfl, hB, heap_alloc_new w _, Nat.le_refl _, by unfold maxLen; omega, by simp, by simp⟩⟩
theorem row_new (w : World) (cs : List Value) (e : TypeId) : Row (w.alloc (.cells cs.toArray e)) (w.heap.size + 1) (some ⟨w.heap.size, 0, none⟩) cs :=
  .inr ⟨w.heap.size, 0, rfl, by omega, fun j hj => by simp [List.getElem?_eq_getElem hj]⟩
theorem lit_cells (w : World) (cs : List Value) (e : TypeId) : ∀ j u, cs[j]? = some u → (w.alloc (.cells cs.toArray e)).cell? ⟨w.heap.size, j, none⟩ = some u := fun j u h => by
  have := cell_of_row (w.alloc (.cells cs.toArray e)) w.heap.size j cs.toArray e (0, 0) (heap_alloc_new w _)
  rw [this]
  simpa using h
section
variable {ops : Array Oper} {rest : List Oper} {o : Oper} {a : Act} {Q : Exit → Act → World → Prop} {wr : World}
/-- append of a literal's elements to a row of the call's own; nothing but that row has turned. -/
theorem wpList_lit (t e : TypeId) (z : Value) (bytes : Nat) (ht : Tryz.prog.underlying t = some (.slice e)) (hinfo : (Tryz.prog.info? e).map (fun i => (i.zero, i.size, i.bytes)) = some (some z, 1, bytes)) (hz : z.cells.size = 1) (hby : bytes ≤ 8)
    (hgd : o.guard = none) (s x : Operand) (ho : o.op = .call { callee := .builtin .append, args := #[s, x], argTypes := #[t, t] })
    {m : Nat} (B : Nat) (v : Value) (xs ys : List Value) (hu : ∀ u ∈ ys, u.oneCell' = true) (hown : wr.ownsRow B e 1 v xs.length xs) (hB : B ≤ wr.heap.size) (hl : xs.length + ys.length ≤ 2000000)
    (hs : a.eval s = v) (hx : a.eval x = .slice (some ⟨wr.heap.size, 0, none⟩) m m) (hn : m = ys.length)
    (h : ∀ v' w', w'.ownsRow B e 1 v' (xs ++ ys).length (xs ++ ys) → Below B wr w' → B ≤ w'.heap.size → (∀ b cs, B ≤ wr.heap.size → v.ownBlock ≠ some b → Bx wr b cs → Bx w' b cs) → wpList Tryz.prog ops Q rest (a.put o.dst v') w') :
    wpList Tryz.prog ops Q (o :: rest) a (wr.alloc (.cells ys.toArray e)) := by
  obtain ⟨i0, hi, hz0, hz1, hz2⟩ := info_parts hinfo
  subst hn
  refine wpList_append_own _ hgd s x t ho B e i0 z 1 bytes ht hi hz0 hz1 hz2 hz (by decide) v xs.length xs hs (hown.alloc _) ⟨wr.heap.size, 0, none⟩ ys.length ys.length ys hx (by omega) ?_ hu ?_ ?_ ?_ ?_
  · intro j y hy
    have := cell_of_row (wr.alloc (.cells ys.toArray e)) wr.heap.size j ys.toArray e (0, 0) (heap_alloc_new wr _)
    rw [Addr.add_lit, Nat.zero_add, this]
    simpa using hy
  · unfold maxLen; omega
  · have : (xs.length + ys.length) * bytes ≤ (xs.length + ys.length) * 8 := Nat.mul_le_mul_left _ hby
    omega
  · simp; omega
  · intro v' w' h1 h2 _
    refine h v' w' (by simpa using h1) (((Below.refl B wr).alloc hB _).grown h2 (by simp; omega) (fun j hj => (hown.lt j hj).1)) (by have := h2.size; simp at this; omega) fun b cs _ hne hbx => ?_
    exact (hbx.alloc _).grown h2 (by intro e; exact hne e.symm)
/-- The same at a step of a region that draws its order. -/
theorem step_lit {K : Act → World → Prop} {E : Prop} (t e : TypeId) (z : Value) (size bytes : Nat) (ht : Tryz.prog.underlying t = some (.slice e)) (hinfo : (Tryz.prog.info? e).map (fun i => (i.zero, i.size, i.bytes)) = some (some z, size, bytes)) (hz : z.cells.size = size) (hsz : 0 < size) (hby : bytes ≤ 1000)
    (hgd : o.guard = none) (s x : Operand) (ho : o.op = .call { callee := .builtin .append, args := #[s, x], argTypes := #[t, t] })
    {m n g : Nat} (B : Nat) (v : Value) (xs ys : List Value) (hu : ∀ u ∈ ys, u.oneCell' = true) (hown : wr.ownsRow B e size v n xs) (hB : B ≤ wr.heap.size) (hl : n + m ≤ 2000000)
    (hs : a.eval s = v) (hx : a.eval x = .slice (some ⟨g, 0, none⟩) m m) (hn : ys.length = m * size) (hm : 0 < m) (hrow : ∀ j u, ys[j]? = some u → wr.cell? ⟨g, j, none⟩ = some u)
    (h : ∀ A c w', w'.ownsRow B e size (.slice A (n + m) c) (n + m) (xs ++ ys) → Below B wr w' → B ≤ w'.heap.size → (∀ b o', some b ≠ v.ownBlock → b < wr.heap.size → w'.cell? ⟨b, o', none⟩ = wr.cell? ⟨b, o', none⟩ ∧ w'.frozen? ⟨b, o', none⟩ = wr.frozen? ⟨b, o', none⟩) → wr.heap.size ≤ w'.heap.size → K (a.put o.dst (.slice A (n + m) c)) w') :
    if Region.wanted o (yielded ops a.tmps) = true then Oper.wp Tryz.prog o a wr K Q else E := by
  obtain ⟨i0, hi, hz0, hz1, hz2⟩ : ∃ i, Tryz.prog.info? e = some i ∧ i.zero = some z ∧ i.size = size ∧ i.bytes = bytes := by
    cases hi : Tryz.prog.info? e with
    | none => rw [hi] at hinfo; cases hinfo
    | some i =>
      rw [hi] at hinfo
      have h := Option.some.inj hinfo
      simp only [Prod.mk.injEq] at h
      exact ⟨i, rfl, h.1, h.2.1, h.2.2⟩
  refine step_append_lies wr hgd s x t ho B e i0 z size bytes ht hi hz0 hz1 hz2 hz hsz v n xs hs hown ⟨g, 0, none⟩ m m ys hx hn ?_ hu hm ?_ ?_ hB _ rfl ?_
  · intro j y hy
    rw [Addr.add_lit, Nat.zero_add]
    exact hrow j y hy
  · unfold maxLen; omega
  · have : (n + m) * bytes ≤ (n + m) * 1000 := Nat.mul_le_mul_left _ hby
    omega
  · intro g' cap w' h1 h2 _ _
    exact h _ _ w' h1 ((Below.refl B wr).grown h2 hB (fun j hj => (hown.lt j hj).1)) (by have := h2.size; omega) (fun b o' hne hb => ⟨World.cell?_of_block (h2.block b hb hne), World.frozen?_of_block (h2.block b hb hne)⟩) h2.size
end
/-- One box of the world is as it was. -/
def SameBox (W : World) (b : Nat) (v : World) : Prop := (∀ o, v.cell? ⟨b, o, none⟩ = W.cell? ⟨b, o, none⟩) ∧ W.heap.size ≤ v.heap.size
theorem SameBox.refl (W : World) (b : Nat) : SameBox W b W := ⟨fun _ => rfl, Nat.le_refl _⟩
theorem SameBox.drew {W v : World} {b : Nat} (h : SameBox W b v) : SameBox W b v.drew := h
theorem SameBox.alloc {W v : World} {b : Nat} (h : SameBox W b v) (hb : b < W.heap.size) (o : Obj) : SameBox W b (v.alloc o) :=
  ⟨fun o' => by rw [World.cell?_alloc_lt _ _ _ (Nat.lt_of_lt_of_le hb h.2)]; exact h.1 o', by have := h.2; simp; omega⟩
theorem SameBox.far {W v v' : World} {b : Nat} {row : Option Nat} (h : SameBox W b v) (hf : ∀ b o', some b ≠ row → b < v.heap.size → v'.cell? ⟨b, o', none⟩ = v.cell? ⟨b, o', none⟩ ∧ v'.frozen? ⟨b, o', none⟩ = v.frozen? ⟨b, o', none⟩) (hs : v.heap.size ≤ v'.heap.size) (hne : some b ≠ row) (hb : b < W.heap.size) : SameBox W b v' :=
  ⟨fun o' => (hf b o' hne (Nat.lt_of_lt_of_le hb h.2)).1.trans (h.1 o'), Nat.le_trans h.2 hs⟩
theorem rtruth04_any (b : Bool) (w : World) : Calls Tryz.prog 40 #[.bool b] w fun e w' => e = .returned (.int .u64 (truthN b)) ∧ w = w' := by
  cases b
  all_goals
    go_enter Tryz.func40, Tryz.ntmps40
    go_wp2
    go_ret
    exact ⟨rfl, rfl⟩
theorem small04_any (n : Int) (w : World) : Calls Tryz.prog 55 #[.int .i64 n] w fun e w' => e = .returned (.bool (inId n)) ∧ w = w' := by
  by_cases h1 : 0 ≤ n
  · by_cases h2 : n ≤ 2147483647
    · have HE := Lib.hid (show inId n = true by simp [inId, h1, h2])
      have hd1 : decide (0 ≤ n) = true := decide_eq_true h1
      have hd : decide (n ≤ 2147483647) = true := decide_eq_true h2
      go_enter Tryz.func55, Tryz.ntmps55
      go_wp2
      go_ret
      exact ⟨ret_bool HE.out.symm, rfl⟩
    · have HE := Lib.hid (show inId n = false by simp [inId]; omega)
      have hd1 : decide (0 ≤ n) = true := decide_eq_true h1
      have hd : decide (n ≤ 2147483647) = false := decide_eq_false h2
      go_enter Tryz.func55, Tryz.ntmps55
      go_wp2
      go_ret
      exact ⟨ret_bool HE.out.symm, rfl⟩
  · have HE := Lib.hid (show inId n = false by simp [inId]; omega)
    have hd : decide (0 ≤ n) = false := decide_eq_false h1
    go_enter Tryz.func55, Tryz.ntmps55
    go_wp2
    go_ret
    exact ⟨ret_bool HE.out.symm, rfl⟩
/-- What the reference tells of a number: itself, if it is small. -/
def Num04 (n : Int) (w : World) (e : Ending) (w' : World) : Prop := ∃ x ok, e = .returned (.tuple #[.int .i64 x, .bool ok]) ∧ ok = smallN n ∧ (ok = true → x = n) ∧ w = w'
theorem number04_any (n : Int) (w : World) (h0 : 0 ≤ n) (h1 : n < 18446744073709551616) : Calls Tryz.prog 51 #[.int .u64 n] w (Num04 n w) := by
  by_cases h : n ≤ 2147483647
  · have HE := Lib.hid (small_of h)
    go_enter Tryz.func51, Tryz.ntmps51
    go_wp2
    go_ret2
    exact ⟨n, true, rfl, HE.out.symm, fun _ => rfl, rfl⟩
  · have HE : Hid (smallN n = false) := by show _ = _; simp [smallN]; omega
    go_enter Tryz.func51, Tryz.ntmps51
    go_wp2
    go_ret2
    exact ⟨0, false, rfl, HE.out.symm, (fun h => by cases h), rfl⟩
end Go.Proofs.YtgfleifpblcnfaaGreatDoor

/- What the reference's writers tell. -/
namespace Go.Proofs.YtgfleifpblcnfaaGreatDoor
set_option linter.unusedSimpArgs false
open Go.RowKit
set_option linter.unusedVariables false

/-- Numbers in a row of the call's own; or none, where it may not be written. -/
def RefTo (ok : Bool) (l : List Int) (w : World) (e : Ending) (w' : World) : Prop :=
  ((ok = true ∧ ∃ v, e = .returned (.tuple #[v, .bool true]) ∧ w'.ownsRow w.heap.size 65 1 v (u64s l).length (u64s l)) ∨ (ok = false ∧ e = .returned (.tuple #[.slice none 0 0, .bool false]))) ∧ Below w.heap.size w w'
theorem ref_end {ok : Bool} {l : List Int} {B : Nat} {w w' : World} {v : Value} (hok : ok = true) (hB : w.heap.size ≤ B) (ho : w'.ownsRow B 65 1 v (u64s l).length (u64s l)) (hb : Below w.heap.size w w') : RefTo ok l w (.returned (.tuple #[v, .bool true])) w' := by
  refine ⟨.inl ⟨hok, v, rfl, ho.1, ?_⟩, hb⟩
  rcases ho.2 with h0 | ⟨g, cap, cur, hv, hbg, hg, rest⟩
  · exact .inl h0
  · exact .inr ⟨g, cap, cur, hv, Nat.le_trans hB hbg, hg, rest⟩
theorem all_take' {α : Type} {p : α → Bool} {l : List α} {k : Nat} (hk : k < l.length) (h : (l.take k).all p = true) {x : α} (hx : l[k] = x) (hp : p x = true) : (l.take (k + 1)).all p = true := by
  rw [List.take_succ_eq_append_getElem hk, List.all_append, h, hx]; simp [hp]
theorem all_false' {α : Type} {p : α → Bool} {l : List α} {k : Nat} (hk : k < l.length) {x : α} (hx : l[k] = x) (hp : p x = false) : l.all p = false := by
  rw [List.all_eq_false]
  exact ⟨l[k], List.getElem_mem hk, by rw [hx, hp]; decide⟩
theorem wrap_u64 {n : Int} (h0 : 0 ≤ n) (h1 : n < 18446744073709551616) : IntKind.u64.wrap n = n := by
  exact IntWalk.u64_in _ (by omega)
theorem own_len {w : World} {B n m : Nat} {e : TypeId} {v : Value} {xs : List Value} (h : w.ownsRow B e 1 v n xs) (hm : m = n) : w.ownsRow B e 1 v m xs := by subst hm; exact h
theorem lit_end {B q : Nat} {w : World} {v : Value} {xs ys zs : List Int} {m : Nat} (h : w.ownsRow B 65 1 v (q + m) (u64s xs ++ u64s ys)) (e : xs ++ ys = zs) : w.ownsRow B 65 1 v (u64s zs).length (u64s zs) := by
  subst e
  have h1 := h.1
  refine own_len (by simpa using h) ?_
  simp only [List.length_append, List.length_map] at h1 ⊢; omega
end Go.Proofs.YtgfleifpblcnfaaGreatDoor

/- dunnageref04.Moves: the numbers of moves. -/
namespace Go.Proofs.YtgfleifpblcnfaaGreatDoor
set_option linter.unusedSimpArgs false
open Go.RowKit
set_option linter.unusedVariables false

def RMovesRel (m : List MoveD) (w : World) (v i : Value) (wr : World) : Prop :=
  ∃ k : Nat, k ≤ m.length ∧ i = .int .i64 k ∧ (m.take k).all moveOk = true ∧
    wr.ownsRow w.heap.size 65 1 v (u64s ((m.length : Int) :: (m.take k).flatMap moveK.nums)).length (u64s ((m.length : Int) :: (m.take k).flatMap moveK.nums)) ∧ Below w.heap.size w wr
end Go.Proofs.YtgfleifpblcnfaaGreatDoor

/- Contracts of wire.Get and of dunnageref02.All, Get and Same. -/
namespace Go.Proofs.YtgfleifpblcnfaaGreatDoor
set_option linter.unusedSimpArgs false
open Go.RowKit
set_option linter.unusedVariables false

theorem one_hit (bs : List Int) (pos : Nat) (v : Int) (r : List Int) (A : Option Addr) (n c R : Nat) (w : World) (hn : n = bs.length) (hl : n ≤ 100000) (hat : pos ≤ n) (hb : Octs bs) (hd : bs.drop pos = enc v ++ r) (h0 : 0 ≤ v ∧ v < 18446744073709551616) (hr : Row w R A (u8s bs)) :
    Calls Tryz.prog 82 #[.slice A n c, .int .i64 pos] w fun e w' => e = .returned (.tuple #[.int .u64 v, .int .i64 ((pos + (enc v).length : Nat) : Int)]) ∧ Below w.heap.size w w' := by
  subst hn
  have := one_any bs pos A c R w hl hat hb hr
  rw [hd, scan_hit v r h0.1 h0.2] at this
  have h1 := enc_len_pos v
  unfold oneVal at this
  rw [if_neg (by simp; exact enc_ne v)] at this
  exact this
theorem one_miss (bs : List Int) (pos : Nat) (A : Option Addr) (n c R : Nat) (w : World) (hn : n = bs.length) (hl : n ≤ 100000) (hat : pos ≤ n) (hb : Octs bs) (hm : Miss (bs.drop pos)) (hr : Row w R A (u8s bs)) :
    Calls Tryz.prog 82 #[.slice A n c, .int .i64 pos] w fun e w' => e = .returned (.tuple #[.int .u64 0, .int .i64 (-1)]) ∧ Below w.heap.size w w' := by
  subst hn
  have := one_any bs pos A c R w hl hat hb hr
  rw [show scan (bs.drop pos) 0 0 = (0, 0) from hm] at this
  exact this

/-- What one more number of the bytes tells. -/
structure Next (ns rest : List Int) (k n p : Nat) (x : Int) (q : Nat) : Prop where
  drop : (encs ns ++ rest).drop p = enc x ++ (encs (ns.drop (k + 1)) ++ rest)
  left : n - p = (enc x ++ (encs (ns.drop (k + 1)) ++ rest)).length
  octs : Octs (encs (ns.drop (k + 1)) ++ rest)
  next : (encs (ns.take (k + 1))).length = p + q
  take : ns.take k ++ [x] = ns.take (k + 1)
  few : (u64s (ns.take k)).length ≤ 2000000
  len : (enc x).length = q
theorem next_at (ns rest : List Int) (n k : Nat) (hlt : k < ns.length) (hn : n = (encs ns ++ rest).length) (hl : n ≤ 100000) (hns : Nums ns) (hb : Octs rest) :
    Next ns rest k n (encs (ns.take k)).length ns[k] (enc ns[k]).length ∧ (encs (ns.take k)).length + (enc ns[k]).length ≤ n ∧ 1 ≤ (enc ns[k]).length ∧ (enc ns[k]).length ≤ 10 ∧ 0 ≤ ns[k] ∧ ns[k] < 18446744073709551616 := by
  have hv := hns _ (List.getElem_mem hlt)
  refine ⟨⟨drop_at ns rest k hlt, ?_, octs_append (encs_octs (nums_drop hns _)) hb, len_next ns k hlt, (List.take_succ_eq_append_getElem hlt).symm, ?_, rfl⟩, hn ▸ len_at ns rest k hlt, enc_len_pos _, enc_len_ten _ hv.2, hv⟩
  · rw [← drop_at ns rest k hlt, List.length_drop, hn]
  · have := encs_len_ge ns
    simp at hn ⊢; omega

def RAllTo (ns rest : List Int) (w : World) (e : Ending) (w' : World) : Prop :=
  ((rest = [] ∧ ∃ v, e = .returned (.tuple #[v, .int .i64 (-1)]) ∧ w'.ownsRow w.heap.size 65 1 v (u64s ns).length (u64s ns)) ∨
   (rest ≠ [] ∧ e = .returned (.tuple #[.slice none 0 0, .int .i64 ((encs ns).length : Nat)]))) ∧ Below w.heap.size w w'

set_option maxHeartbeats 800000 in
theorem rAll_any (ns rest : List Int) (A : Option Addr) (n c : Nat) (w : World) (hn : n = (encs ns ++ rest).length) (hl : n ≤ 100000) (hns : Nums ns) (hb : Octs rest) (hm : rest = [] ∨ (rest ≠ [] ∧ Miss rest)) (hr : Row w w.heap.size A (u8s (encs ns ++ rest))) :
    Calls Tryz.prog 50 #[.slice A n c] w (RAllTo ns rest w) := by
  have HN := Lib.hid hns
  have HB := Lib.hid hb
  have HR := Lib.hid hr
  have HM := Lib.hid hm
  have HL := Lib.hid hn
  have HO : Hid (Octs (encs ns ++ rest)) := octs_append (encs_octs hns) hb
  clear hns hb hr hm hn
  go_enter Tryz.func50, Tryz.ntmps50
  go_wp2
  go_loopw [4, 5] (AllRel ns w) (fun _ i _ => n - (intOf i).toNat)
  case atStart => exact ⟨0, by omega, rfl, World.ownsRow_nil _ _ _ _, Below.refl _ _⟩
  case round =>
    obtain ⟨k, hk, rfl, hown, hbr⟩ := hrel
    have hz := hbr.size
    have HROW := Lib.hid (HR.out.below hbr (Nat.le_refl _))
    by_cases hlt : k < ns.length
    · obtain ⟨hnx, h1, h2, h3, h4, h5⟩ := next_at ns rest n k hlt HL.out hl HN.out HB.out
      have HX := Lib.hid hnx
      clear hnx
      generalize (encs (ns.take k)).length = p at *
      generalize (enc ns[k]).length = q at *
      generalize ns[k] = x at *
      go_wp2_with fail
      refine (one_hit (encs ns ++ rest) p x _ _ _ _ _ _ HL.out hl (by omega) HO.out HX.out.drop ⟨h4, h5⟩ HROW.out).mono ?_
      rw [HX.out.len]
      rintro e w1 ⟨rfl, hb1⟩
      have hz1 := hb1.size
      have hown1 := own_below hown hb1 (Nat.le_refl _)
      go_wp2_with (at_builtin; refine wpList_push 38 65 (.int .u64 0) 8 Tryz.underlying38 Tryz.info65 rfl (by decide) rfl (.tmp 21) (.tmp 23) rfl w.heap.size _ (u64s (ns.take k)) (.int .u64 x) rfl hown1 (by omega) HX.out.few rfl rfl ?_; intro v' w2 hown2 hb2 hB2)
      go_roundw
      case rel => exact ⟨k + 1, by omega, by rw [HX.out.next]; go_num, own64 hown2 HX.out.take, (hbr.trans (hb1.mono hz)).trans hb2⟩
      case measure => simp [intOf]; omega
    · have htk : ns.take k = ns := List.take_of_length_le (by omega)
      rw [htk] at hown ⊢
      rcases HM.out with h0 | ⟨hne, hm⟩
      · subst h0
        have he : (encs ns).length = n := by rw [HL.out]; simp
        generalize hpe : (encs ns).length = p at *
        have hp : n ≤ p := by omega
        clear hpe he htk
        go_wp2
        go_ret2
        exact ⟨.inl ⟨rfl, _, rfl, hown⟩, hbr⟩
      · have hd : n - (encs ns).length = rest.length := by rw [HL.out]; simp
        have hr0 : 0 < rest.length := List.length_pos_iff.2 hne
        have HM' : Hid (Miss ((encs ns ++ rest).drop (encs ns).length)) := by rw [drop_end]; exact hm
        have HNE := Lib.hid hne
        generalize hpe : (encs ns).length = p at *
        have hp : p < n := by omega
        have HP := Lib.hid hpe
        clear hpe hd htk hm hne
        go_wp2_with fail
        refine (one_miss (encs ns ++ rest) p _ _ _ _ _ HL.out hl (by omega) HO.out HM'.out HROW.out).mono ?_
        rintro e w1 ⟨rfl, hb1⟩
        go_wp2
        go_ret2
        exact ⟨.inr ⟨HNE.out, by rw [HP.out]; rfl⟩, hbr.trans (hb1.mono hz)⟩
end Go.Proofs.YtgfleifpblcnfaaGreatDoor

/- Records read one behind the other, and the next one; a row of numbers by its places. -/
namespace Go.Proofs.YtgfleifpblcnfaaGreatDoor
set_option linter.unusedSimpArgs false
open Go.RowKit
set_option linter.unusedVariables false

theorem parse_snoc {α : Type} (K : Kind α) : ∀ (k : Nat) (l : List Int), parse K (k + 1) l = parse K k l ++ [K.get ((l.drop (k * K.size)).take K.size)]
  | 0, l => by simp [parse]
  | k + 1, l => by
    have h := parse_snoc K k (l.drop K.size)
    rw [List.drop_drop] at h
    have e : K.size + k * K.size = (k + 1) * K.size := by rw [Nat.add_one_mul, Nat.add_comm]
    rw [e] at h
    show K.get (l.take K.size) :: parse K (k + 1) (l.drop K.size) = (K.get (l.take K.size) :: parse K k (l.drop K.size)) ++ _
    rw [h]; rfl
theorem fine_snoc {α : Type} (K : Kind α) (k : Nat) (l : List Int) : fine K (k + 1) l = (fine K k l && K.ok ((l.drop (k * K.size)).take K.size)) := by
  rw [Bool.eq_iff_iff, Bool.and_eq_true, fine_iff, fine_iff]
  constructor
  · intro h; exact ⟨fun i hi => h i (by omega), h k (by omega)⟩
  · rintro ⟨h1, h2⟩ i hi
    by_cases e : i = k
    · subst e; exact h2
    · exact h1 i (by omega)
theorem fine_false {α : Type} {K : Kind α} {n k : Nat} {l : List Int} (hk : k < n) (h : K.ok ((l.drop (k * K.size)).take K.size) = false) : fine K n l = false := by
  cases e : fine K n l with
  | false => rfl
  | true => rw [(fine_iff K n l).1 e k hk] at h; cases h
theorem chunk_getD (l : List Int) {a s p j : Nat} (hj : j < s) (hp : p = a) : ((l.drop a).take s).getD j 0 = l.getD (p + j) 0 := by
  subst hp; rw [take_getD _ hj, drop_getD]
theorem row_nums {w : World} {B : Nat} {A : Option Addr} {ns : List Int} (h : Row w B A (u64s ns)) (hn : 0 < ns.length) : ∃ b o, A = some ⟨b, o, none⟩ ∧ b < B ∧ ∀ j, j < ns.length → w.cell? ⟨b, o + j, none⟩ = some (.int .u64 (ns.getD j 0)) := by
  obtain ⟨b, o, e, hb, hc⟩ := h.at (k := 0) (by simpa using hn)
  refine ⟨b, o, e, hb, fun j hj => ?_⟩
  rw [hc j (by simpa using hj)]
  simp [List.getD_eq_getElem?_getD, List.getElem?_eq_getElem hj]
theorem nums_at {ns : List Int} (h : Nums ns) (j : Nat) : 0 ≤ ns.getD j 0 ∧ ns.getD j 0 < 18446744073709551616 := by
  rw [← drop_headD]; exact nums_head (nums_drop h j)
end Go.Proofs.YtgfleifpblcnfaaGreatDoor

/- dunnageref04.ReadMoves. -/
namespace Go.Proofs.YtgfleifpblcnfaaGreatDoor
set_option linter.unusedSimpArgs false
open Go.RowKit
set_option linter.unusedVariables false

def RMTo (R : List MoveD × Int × Int) (w : World) (e : Ending) (w' : World) : Prop :=
  ∃ A c, e = .returned (.tuple #[.slice A R.1.length c, .int .i64 R.2.1, .int .i64 R.2.2]) ∧ Out 4 cellsM w' R.1 A c ∧ Below w.heap.size w w'
theorem rmTo_err {R : List MoveD × Int × Int} {a b : Int} {w w' : World} (h : R = ([], a, b)) (hb : Below w.heap.size w w') : RMTo R w (.returned (.tuple #[.slice none 0 0, .int .i64 a, .int .i64 b])) w' := by
  subst h; exact ⟨none, 0, rfl, .nil rfl, hb⟩
def RMRel (l : List Int) (cnt : Nat) (w W : World) (v i : Value) (wr : World) : Prop :=
  ∃ k : Nat, k ≤ cnt ∧ i = .int .i64 k ∧ fine moveK k (l.drop 1) = true ∧ wr.ownsRow W.heap.size 111 4 v k ((parse moveK k (l.drop 1)).flatMap cellsM) ∧ Below W.heap.size W wr
theorem move_chunk {l : List Int} {p k : Nat} (hp : p = 1 + 4 * k) : moveK.get (((l.drop 1).drop (k * moveK.size)).take moveK.size) = ⟨l.getD p 0, l.getD (p + 1) 0, l.getD (p + 2) 0, l.getD (p + 3) 0⟩ ∧
    moveK.ok (((l.drop 1).drop (k * moveK.size)).take moveK.size) = (smallN (l.getD p 0) && (smallN (l.getD (p + 1) 0) && (smallN (l.getD (p + 2) 0) && smallN (l.getD (p + 3) 0)))) := by
  have e : p = 1 + k * moveK.size := by show p = 1 + k * 4; omega
  rw [List.drop_drop]
  simp only [moveK] at e ⊢
  rw [chunk_getD l (show 0 < 4 by decide) e, chunk_getD l (show 1 < 4 by decide) e, chunk_getD l (show 2 < 4 by decide) e, chunk_getD l (show 3 < 4 by decide) e]
  exact ⟨rfl, rfl⟩

end Go.Proofs.YtgfleifpblcnfaaGreatDoor

/- The law CodecMoves, walked. -/
namespace Go.Proofs.YtgfleifpblcnfaaGreatDoor
set_option linter.unusedSimpArgs false
open Go.RowKit
set_option linter.unusedVariables false

theorem rdB_moves_sound {ns rest : List Int} (h : Nums ns) : (rdB [] rdMoves ns rest).1.length ≤ 40 := by
  rcases rdB_cases [] rdMoves ns rest with e | e
  · rw [e]; decide
  · rw [e]; exact rdMoves_sound h
theorem Below.drewN' {N : Nat} {w v : World} : ∀ {n : Nat}, Below N w v → Below N w (v.drewN n) := fun h => ⟨h.os, h.tape, h.output, h.size, h.block⟩
end Go.Proofs.YtgfleifpblcnfaaGreatDoor

namespace Go.Proofs.YtgfleifpblcnfaaGreatDoor
set_option linter.unusedSimpArgs false
open Go.RowKit
set_option linter.unusedVariables false

def RSpecRel (x : SpecD) (w W : World) (v i : Value) (wr : World) : Prop :=
  ∃ k : Nat, k ≤ x.wants.length ∧ i = .int .i64 k ∧ (x.wants.take k).all (fun y => inId y.pod) = true ∧
    wr.ownsRow (w.heap.size + 1) 65 1 v (u64s ([(x.wants.length : Int), x.preempts, x.shifts] ++ (x.wants.take k).flatMap wantK.nums)).length (u64s ([(x.wants.length : Int), x.preempts, x.shifts] ++ (x.wants.take k).flatMap wantK.nums)) ∧
    Below (w.heap.size + 1) W wr ∧ w.heap.size + 1 ≤ wr.heap.size

set_option maxHeartbeats 6400000 in
set_option maxRecDepth 100000 in
theorem rSpec04_any (x : SpecD) (A : Option Addr) (n c : Nat) (w : World) (hn : n = x.wants.length) (hl : n ≤ 1000) (hr : Recs 6 cellsW w w.heap.size A x.wants) :
    Calls Tryz.prog 16 #[specV A n c x] w (RefTo (specOk x) (specNums x) w) := by
  have HN := Lib.hid hn
  have HR := Lib.hid hr
  have b00 : Below w.heap.size w (w.alloc (.cells #[.slice A n c, .int .i64 x.preempts, .int .i64 x.shifts] 48)) := (Below.refl _ _).alloc (Nat.le_refl _) _
  have HB0 := Lib.hid b00
  clear hn hr b00
  go_enter Tryz.func16, Tryz.ntmps16
  go_wp2_with fail
  refine (small04_any _ _).mono ?_
  rintro e w1 ⟨rfl, rfl⟩
  go_wp2_with fail
  refine (small04_any _ _).mono ?_
  rintro e w1 ⟨rfl, rfl⟩
  by_cases h12 : 12 < n
  · have HE : Hid (specOk x = false) := by
      have := HN.out
      show _ = _
      simp [specOk]; omega
    go_wp2
    go_ret2
    exact ⟨.inr ⟨HE.out, rfl⟩, HB0.out⟩
  · cases hp1 : inId x.preempts with
    | false =>
      have HE : Hid (specOk x = false) := by show _ = _; rw [specOk, hp1]; simp
      clear hp1
      go_wp2
      go_ret2
      exact ⟨.inr ⟨HE.out, rfl⟩, HB0.out⟩
    | true =>
      cases hp2 : inId x.shifts with
      | false =>
        have HE : Hid (specOk x = false) := by show _ = _; rw [specOk, hp2]; simp
        clear hp1 hp2
        go_wp2
        go_ret2
        exact ⟨.inr ⟨HE.out, rfl⟩, HB0.out⟩
      | true =>
        have HP1 := Lib.hid hp1
        have HP2 := Lib.hid hp2
        have i1 := inId_iff.1 hp1
        have i2 := inId_iff.1 hp2
        have i1a := i1.1
        have i2a := i2.1
        have j1 : x.preempts < 18446744073709551616 := by omega
        have j2 : x.shifts < 18446744073709551616 := by omega
        clear hp1 hp2 i1 i2
        have hown0 := own_lit (w.alloc (.cells #[.slice A n c, .int .i64 x.preempts, .int .i64 x.shifts] 48)) (w.heap.size + 1) 3 65 [.int .u64 (n : Int), .int .u64 x.preempts, .int .u64 x.shifts] (by simp) rfl (by decide)
        have HO := Lib.hid hown0
        clear hown0
        go_wp2
        go_loopw [6, 7] (RSpecRel x w (w.alloc (.cells #[.slice A n c, .int .i64 x.preempts, .int .i64 x.shifts] 48))) (fun _ i _ => n - (intOf i).toNat)
        case atStart => exact ⟨0, by omega, rfl, rfl, by have h := HO.out; rw [← HN.out]; simpa using h, (Below.refl _ _).alloc (by simp) _, by simp⟩
        case round =>
          obtain ⟨k, hk, rfl, hall, hown, hbr, hzr⟩ := hrel
          have HA := Lib.hid hall
          have HBR := Lib.hid hbr
          have HBW := Lib.hid (HB0.out.trans (hbr.mono (by omega)))
          have HOW := Lib.hid hown
          obtain ⟨b0, b1, b2⟩ := box_cells hbr
          have hbb : w.heap.size < wr.heap.size := by omega
          clear hall hbr hown
          by_cases hlt : k < n
          · have hkl : k < x.wants.length := by have := HN.out; omega
            obtain ⟨b, o, rfl, hb, he⟩ := HR.out.at hkl
            have HT : Hid ([(x.wants.length : Int), x.preempts, x.shifts] ++ (x.wants.take k).flatMap wantK.nums ++ wantK.nums x.wants[k] = [(x.wants.length : Int), x.preempts, x.shifts] ++ (x.wants.take (k + 1)).flatMap wantK.nums) := by
              show _ ++ _ = _
              rw [List.take_succ_eq_append_getElem hkl, List.flatMap_append]; simp
            have HU : Hid ((u64s ([(x.wants.length : Int), x.preempts, x.shifts] ++ (x.wants.take k).flatMap wantK.nums)).length + (u64s (wantK.nums x.wants[k])).length ≤ 2000000) := by
              have e1 : ((x.wants.take k).flatMap wantK.nums).length = (x.wants.take k).length * 6 := flat_length wantK _
              have e2 : (wantK.nums x.wants[k]).length = 6 := rfl
              show _ ≤ _
              rw [List.length_map, List.length_map, List.length_append, e1, e2, List.length_take]
              have : min k x.wants.length ≤ 1000 := by have := HN.out; omega
              simp; omega
            generalize hx : x.wants[k] = y at *
            have HX := Lib.hid hx
            clear hx
            have e0 : wr.cell? ⟨b, o + k * 6, none⟩ = some (.int .i64 y.pod) := (HBW.out.cell (p := ⟨b, o + k * 6, none⟩) hb).trans (he 0 _ rfl)
            have e1 : wr.cell? ⟨b, o + k * 6 + 1, none⟩ = some (.int .u64 y.req.a) := (HBW.out.cell (p := ⟨b, o + k * 6 + 1, none⟩) hb).trans (he 1 _ rfl)
            have e2 : wr.cell? ⟨b, o + k * 6 + 2, none⟩ = some (.int .u64 y.req.b) := (HBW.out.cell (p := ⟨b, o + k * 6 + 2, none⟩) hb).trans (he 2 _ rfl)
            have e3 : wr.cell? ⟨b, o + k * 6 + 3, none⟩ = some (.int .u64 y.req.c) := (HBW.out.cell (p := ⟨b, o + k * 6 + 3, none⟩) hb).trans (he 3 _ rfl)
            have e4 : wr.cell? ⟨b, o + k * 6 + 4, none⟩ = some (.int .u64 y.req.d) := (HBW.out.cell (p := ⟨b, o + k * 6 + 4, none⟩) hb).trans (he 4 _ rfl)
            have e5 : wr.cell? ⟨b, o + k * 6 + 5, none⟩ = some (.bool y.stay) := (HBW.out.cell (p := ⟨b, o + k * 6 + 5, none⟩) hb).trans (he 5 _ rfl)
            have hbw : b < wr.heap.size := by omega
            clear he
            go_wp2_with fail
            refine (small04_any _ _).mono ?_
            rintro e w1 ⟨rfl, rfl⟩
            cases hok : inId y.pod with
            | false =>
              have HE : Hid (specOk x = false) := by
                have := all_false' (p := fun y => inId y.pod) hkl HX.out hok
                show _ = _
                rw [specOk, this]; simp
              clear hok
              go_wp2
              go_ret2
              exact ⟨.inr ⟨HE.out, rfl⟩, HBW.out.alloc HBW.out.size _⟩
            | true =>
              have HT2 := Lib.hid (all_take' (p := fun y => inId y.pod) hkl HA.out HX.out hok)
              have i3 := inId_iff.1 hok
              have i3a := i3.1
              have j4 : y.pod < 18446744073709551616 := by omega
              have HOK := Lib.hid hok
              clear hok i3
              have hyb : wr.heap.size < (wr.alloc (.cells #[.int .i64 y.pod, .int .u64 y.req.a, .int .u64 y.req.b, .int .u64 y.req.c, .int .u64 y.req.d, .bool y.stay] 105)).heap.size := by simp
              have c0 : (wr.alloc (.cells #[.int .i64 y.pod, .int .u64 y.req.a, .int .u64 y.req.b, .int .u64 y.req.c, .int .u64 y.req.d, .bool y.stay] 105)).cell? ⟨wr.heap.size, 0, none⟩ = some (.int .i64 y.pod) := by simp
              have c1 : (wr.alloc (.cells #[.int .i64 y.pod, .int .u64 y.req.a, .int .u64 y.req.b, .int .u64 y.req.c, .int .u64 y.req.d, .bool y.stay] 105)).cell? ⟨wr.heap.size, 1, none⟩ = some (.int .u64 y.req.a) := by simp
              have c2 : (wr.alloc (.cells #[.int .i64 y.pod, .int .u64 y.req.a, .int .u64 y.req.b, .int .u64 y.req.c, .int .u64 y.req.d, .bool y.stay] 105)).cell? ⟨wr.heap.size, 2, none⟩ = some (.int .u64 y.req.b) := by simp
              have c3 : (wr.alloc (.cells #[.int .i64 y.pod, .int .u64 y.req.a, .int .u64 y.req.b, .int .u64 y.req.c, .int .u64 y.req.d, .bool y.stay] 105)).cell? ⟨wr.heap.size, 3, none⟩ = some (.int .u64 y.req.c) := by simp
              have c4 : (wr.alloc (.cells #[.int .i64 y.pod, .int .u64 y.req.a, .int .u64 y.req.b, .int .u64 y.req.c, .int .u64 y.req.d, .bool y.stay] 105)).cell? ⟨wr.heap.size, 4, none⟩ = some (.int .u64 y.req.d) := by simp
              have c5 : (wr.alloc (.cells #[.int .i64 y.pod, .int .u64 y.req.a, .int .u64 y.req.b, .int .u64 y.req.c, .int .u64 y.req.d, .bool y.stay] 105)).cell? ⟨wr.heap.size, 5, none⟩ = some (.bool y.stay) := by simp
              obtain ⟨q, hq⟩ : ∃ q, (u64s ([(x.wants.length : Int), x.preempts, x.shifts] ++ (x.wants.take k).flatMap wantK.nums)).length = q := ⟨_, rfl⟩
              have hwp := wrap_u64 i3a j4
              have HQ : Hid (q + 6 ≤ 2000000) := by have h1 : _ ≤ _ := HU.out; rw [hq] at h1; exact h1
              have HOWN := Lib.hid ((own_len HOW.out hq.symm).alloc (.cells #[.int .i64 y.pod, .int .u64 y.req.a, .int .u64 y.req.b, .int .u64 y.req.c, .int .u64 y.req.d, .bool y.stay] 105))
              have HKB := Lib.hid (HBR.out.alloc hzr (.cells #[.int .i64 y.pod, .int .u64 y.req.a, .int .u64 y.req.b, .int .u64 y.req.c, .int .u64 y.req.d, .bool y.stay] 105))
              have HNE : Hid (∀ v : Value, wr.ownsRow (w.heap.size + 1) 65 1 v (u64s ([(x.wants.length : Int), x.preempts, x.shifts] ++ (x.wants.take k).flatMap wantK.nums)).length (u64s ([(x.wants.length : Int), x.preempts, x.shifts] ++ (x.wants.take k).flatMap wantK.nums)) → some wr.heap.size ≠ v.ownBlock) := fun v ho e => by have := (ho.lt _ e.symm).2; omega
              have hne := HNE.out _ HOW.out
              have hzW : w.heap.size + 1 ≤ (wr.alloc (.cells #[.int .i64 y.pod, .int .u64 y.req.a, .int .u64 y.req.b, .int .u64 y.req.c, .int .u64 y.req.d, .bool y.stay] 105)).heap.size := by simp; omega
              clear hq
              go_wp2
              generalize (wr.alloc (.cells #[.int .i64 y.pod, .int .u64 y.req.a, .int .u64 y.req.b, .int .u64 y.req.c, .int .u64 y.req.d, .bool y.stay] 105)) = W at *
              have HNE2 := Lib.hid hne
              clear hne
              go_region_held3 (fun w' => (∀ o, w'.cell? ⟨wr.heap.size, o, none⟩ = W.cell? ⟨wr.heap.size, o, none⟩) ∧ W.heap.size ≤ w'.heap.size)
                (first | (with_reducible assumption) | (show SameBox W wr.heap.size _; with_reducible (repeat (first | exact SameBox.refl _ _ | assumption | refine SameBox.drew ?_ | refine SameBox.alloc ?_ hyb _))))
                (first
                  | (go_at_call 40; refine (rtruth04_any _ _).mono ?_; rintro e w' ⟨rfl, rfl⟩)
                  | (refine step_lit 38 65 (.int .u64 0) 1 8 Tryz.underlying38 Tryz.info65 rfl (by decide) (by decide) rfl (.tmp 56) (.tmp 75) rfl (g := W.heap.size) (w.heap.size + 1) _ _ (u64s (wantK.nums y)) (one_u64s _) (HOWN.out.alloc _) (by simp; omega) HQ.out rfl rfl rfl (by decide) (lit_cells W (u64s (wantK.nums y)) 65) ?_; intro A' c' w2 hown2 hb2 hB2 hbx2 hsz2; have hsb : SameBox W wr.heap.size w2 := SameBox.far (by assumption) hbx2 hsz2 HNE2.out hyb; clear hbx2))
              all_goals
                go_wp2
                go_roundw
                case rel => exact ⟨k + 1, by omega, by go_num, HT2.out, lit_end hown2 HT.out, (HKB.out.alloc hzW _).drew.trans hb2, hB2⟩
                case measure => simp [intOf]; omega
          · have hall : (x.wants.all fun y => inId y.pod) = true := by
              have := HA.out
              rwa [List.take_of_length_le (by have := HN.out; omega)] at this
            have hok : specOk x = true := by
              have := HN.out
              rw [specOk, hall, HP1.out, HP2.out, decide_eq_true (by omega)]; rfl
            have HOK := Lib.hid hok
            have HOWF : Hid (wr.ownsRow (w.heap.size + 1) 65 1 u6 (u64s (specNums x)).length (u64s (specNums x))) := by
              have := HOW.out
              rw [List.take_of_length_le (by have := HN.out; omega)] at this
              exact this
            clear hall hok
            go_wp2
            go_ret2
            exact ref_end HOK.out (by omega) HOWF.out HBW.out
end Go.Proofs.YtgfleifpblcnfaaGreatDoor
