/- Joined texts, part 11: CI JA SA SB SC SD JB. -/
import Derived.Test.YtgfleifpblcnfaaGreatDoorZ02
import Derived.Laws.StructEq
import Derived.Test.YtgfleifpblcnfaaGreatDoorZ10
import Derived.Test.YtgfleifpblcnfaaGreatDoorZ07
import Derived.Test.YtgfleifpblcnfaaGreatDoorZ03
import Derived.Deep.QuietTactic
import Derived.BigQuiet

/- '!=' of a node, a load, a want and itself. -/
namespace Go.Proofs.YtgfleifpblcnfaaGreatDoor
set_option linter.unusedSimpArgs false
open Go.RowKit
set_option linter.unusedVariables false

theorem int_eqIn (d : Nat) (a : Int) (w : World) : (Op.equalIn (d + 1) 3 (.int .i64 a) (.int .i64 a)).run Tryz.prog w = .ok true w := by
  simp [Op.equalIn, run_underlying Tryz.underlying3]
theorem bool_eqIn (d : Nat) (a : Bool) (w : World) : (Op.equalIn (d + 1) 4 (.bool a) (.bool a)).run Tryz.prog w = .ok true w := by
  simp [Op.equalIn, run_underlying Tryz.underlying4]
theorem vec_eqIn (d : Nat) (a0 a1 a2 a3 : Int) (w : World) : (Op.equalIn (d + 2) 69 (.agg #[.int .u64 a0, .int .u64 a1, .int .u64 a2, .int .u64 a3]) (.agg #[.int .u64 a0, .int .u64 a1, .int .u64 a2, .int .u64 a3])).run Tryz.prog w = .ok true w := by
  rw [vec_eqlIn]; simp
theorem part_int (cs : Array Value) (j : Nat) (v : Value) (h : cs[j]? = some v) (w : World) : (part 3 cs j).run Tryz.prog w = .ok v w := by
  have hf : ∀ w : World, (isAgg 3).run Tryz.prog w = .ok false w := fun _ => by kernel_rfl
  simp [part, hf, h]
theorem part_bool (cs : Array Value) (j : Nat) (v : Value) (h : cs[j]? = some v) (w : World) : (part 4 cs j).run Tryz.prog w = .ok v w := by
  have hf : ∀ w : World, (isAgg 4).run Tryz.prog w = .ok false w := fun _ => by kernel_rfl
  simp [part, hf, h]
theorem part_vec (cs : Array Value) (j : Nat) (v0 v1 v2 v3 : Value) (h : cs.extract j (j + 4) = #[v0, v1, v2, v3]) (w : World) : (part 69 cs j).run Tryz.prog w = .ok (.agg #[v0, v1, v2, v3]) w := by
  have hf : ∀ w : World, (isAgg 69).run Tryz.prog w = .ok true w := fun _ => by kernel_rfl
  have hs : ∀ w : World, (sizeOf 69).run Tryz.prog w = .ok 4 w := fun _ => by kernel_rfl
  simp [part, hf, hs, h]
theorem eqFields_step {d : Nat} {xs ys : Array Value} {f : Field} {fs : List Field} {a b : Value} {w : World} (hn : f.name ≠ "_") (ha : (part f.type xs f.offset).run Tryz.prog w = .ok a w) (hb : (part f.type ys f.offset).run Tryz.prog w = .ok b w) (he : (Op.equalIn d f.type a b).run Tryz.prog w = .ok true w) :
    (Op.eqFields d xs ys (f :: fs)).run Tryz.prog w = (Op.eqFields d xs ys fs).run Tryz.prog w := by
  simp [Op.eqFields, hn, ha, hb, he]
theorem node_same (x : NodeD) (w : World) : (binOp .neq 71 (.agg (cellsN x).toArray) (.agg (cellsN x).toArray)).run Tryz.prog w = .ok (.bool false) w := by
  have hf : (Tryz.prog.fieldsOf 71).toList = [(⟨"Id", 3, 0, false, "", "", 0⟩ : Field), (⟨"Zone", 3, 1, false, "", "", 8⟩ : Field), (⟨"Cap", 69, 2, false, "", "", 16⟩ : Field), (⟨"Held", 69, 6, false, "", "", 48⟩ : Field)] := by kernel_rfl
  have hc : (cellsN x).toArray = #[.int .i64 x.id, .int .i64 x.zone, .int .u64 x.cap.a, .int .u64 x.cap.b, .int .u64 x.cap.c, .int .u64 x.cap.d, .int .u64 x.held.a, .int .u64 x.held.b, .int .u64 x.held.c, .int .u64 x.held.d] := rfl
  rw [hc, run_neq_struct, run_equalIn_struct w 9999 71 _ _ (by kernel_rfl) (by kernel_rfl), hf]
  clear hc hf
  have s0 : (Op.eqFields 9999 #[.int .i64 x.id, .int .i64 x.zone, .int .u64 x.cap.a, .int .u64 x.cap.b, .int .u64 x.cap.c, .int .u64 x.cap.d, .int .u64 x.held.a, .int .u64 x.held.b, .int .u64 x.held.c, .int .u64 x.held.d] #[.int .i64 x.id, .int .i64 x.zone, .int .u64 x.cap.a, .int .u64 x.cap.b, .int .u64 x.cap.c, .int .u64 x.cap.d, .int .u64 x.held.a, .int .u64 x.held.b, .int .u64 x.held.c, .int .u64 x.held.d] ((⟨"Id", 3, 0, false, "", "", 0⟩ : Field) :: [(⟨"Zone", 3, 1, false, "", "", 8⟩ : Field), (⟨"Cap", 69, 2, false, "", "", 16⟩ : Field), (⟨"Held", 69, 6, false, "", "", 48⟩ : Field)])).run Tryz.prog w = (Op.eqFields 9999 #[.int .i64 x.id, .int .i64 x.zone, .int .u64 x.cap.a, .int .u64 x.cap.b, .int .u64 x.cap.c, .int .u64 x.cap.d, .int .u64 x.held.a, .int .u64 x.held.b, .int .u64 x.held.c, .int .u64 x.held.d] #[.int .i64 x.id, .int .i64 x.zone, .int .u64 x.cap.a, .int .u64 x.cap.b, .int .u64 x.cap.c, .int .u64 x.cap.d, .int .u64 x.held.a, .int .u64 x.held.b, .int .u64 x.held.c, .int .u64 x.held.d] [(⟨"Zone", 3, 1, false, "", "", 8⟩ : Field), (⟨"Cap", 69, 2, false, "", "", 16⟩ : Field), (⟨"Held", 69, 6, false, "", "", 48⟩ : Field)]).run Tryz.prog w := eqFields_step (a := (.int .i64 x.id)) (b := (.int .i64 x.id)) (by decide) (part_int #[.int .i64 x.id, .int .i64 x.zone, .int .u64 x.cap.a, .int .u64 x.cap.b, .int .u64 x.cap.c, .int .u64 x.cap.d, .int .u64 x.held.a, .int .u64 x.held.b, .int .u64 x.held.c, .int .u64 x.held.d] 0 (.int .i64 x.id) rfl w) (part_int #[.int .i64 x.id, .int .i64 x.zone, .int .u64 x.cap.a, .int .u64 x.cap.b, .int .u64 x.cap.c, .int .u64 x.cap.d, .int .u64 x.held.a, .int .u64 x.held.b, .int .u64 x.held.c, .int .u64 x.held.d] 0 (.int .i64 x.id) rfl w) (int_eqIn 9998 x.id w)
  have s1 : (Op.eqFields 9999 #[.int .i64 x.id, .int .i64 x.zone, .int .u64 x.cap.a, .int .u64 x.cap.b, .int .u64 x.cap.c, .int .u64 x.cap.d, .int .u64 x.held.a, .int .u64 x.held.b, .int .u64 x.held.c, .int .u64 x.held.d] #[.int .i64 x.id, .int .i64 x.zone, .int .u64 x.cap.a, .int .u64 x.cap.b, .int .u64 x.cap.c, .int .u64 x.cap.d, .int .u64 x.held.a, .int .u64 x.held.b, .int .u64 x.held.c, .int .u64 x.held.d] ((⟨"Zone", 3, 1, false, "", "", 8⟩ : Field) :: [(⟨"Cap", 69, 2, false, "", "", 16⟩ : Field), (⟨"Held", 69, 6, false, "", "", 48⟩ : Field)])).run Tryz.prog w = (Op.eqFields 9999 #[.int .i64 x.id, .int .i64 x.zone, .int .u64 x.cap.a, .int .u64 x.cap.b, .int .u64 x.cap.c, .int .u64 x.cap.d, .int .u64 x.held.a, .int .u64 x.held.b, .int .u64 x.held.c, .int .u64 x.held.d] #[.int .i64 x.id, .int .i64 x.zone, .int .u64 x.cap.a, .int .u64 x.cap.b, .int .u64 x.cap.c, .int .u64 x.cap.d, .int .u64 x.held.a, .int .u64 x.held.b, .int .u64 x.held.c, .int .u64 x.held.d] [(⟨"Cap", 69, 2, false, "", "", 16⟩ : Field), (⟨"Held", 69, 6, false, "", "", 48⟩ : Field)]).run Tryz.prog w := eqFields_step (a := (.int .i64 x.zone)) (b := (.int .i64 x.zone)) (by decide) (part_int #[.int .i64 x.id, .int .i64 x.zone, .int .u64 x.cap.a, .int .u64 x.cap.b, .int .u64 x.cap.c, .int .u64 x.cap.d, .int .u64 x.held.a, .int .u64 x.held.b, .int .u64 x.held.c, .int .u64 x.held.d] 1 (.int .i64 x.zone) rfl w) (part_int #[.int .i64 x.id, .int .i64 x.zone, .int .u64 x.cap.a, .int .u64 x.cap.b, .int .u64 x.cap.c, .int .u64 x.cap.d, .int .u64 x.held.a, .int .u64 x.held.b, .int .u64 x.held.c, .int .u64 x.held.d] 1 (.int .i64 x.zone) rfl w) (int_eqIn 9998 x.zone w)
  have s2 : (Op.eqFields 9999 #[.int .i64 x.id, .int .i64 x.zone, .int .u64 x.cap.a, .int .u64 x.cap.b, .int .u64 x.cap.c, .int .u64 x.cap.d, .int .u64 x.held.a, .int .u64 x.held.b, .int .u64 x.held.c, .int .u64 x.held.d] #[.int .i64 x.id, .int .i64 x.zone, .int .u64 x.cap.a, .int .u64 x.cap.b, .int .u64 x.cap.c, .int .u64 x.cap.d, .int .u64 x.held.a, .int .u64 x.held.b, .int .u64 x.held.c, .int .u64 x.held.d] ((⟨"Cap", 69, 2, false, "", "", 16⟩ : Field) :: [(⟨"Held", 69, 6, false, "", "", 48⟩ : Field)])).run Tryz.prog w = (Op.eqFields 9999 #[.int .i64 x.id, .int .i64 x.zone, .int .u64 x.cap.a, .int .u64 x.cap.b, .int .u64 x.cap.c, .int .u64 x.cap.d, .int .u64 x.held.a, .int .u64 x.held.b, .int .u64 x.held.c, .int .u64 x.held.d] #[.int .i64 x.id, .int .i64 x.zone, .int .u64 x.cap.a, .int .u64 x.cap.b, .int .u64 x.cap.c, .int .u64 x.cap.d, .int .u64 x.held.a, .int .u64 x.held.b, .int .u64 x.held.c, .int .u64 x.held.d] [(⟨"Held", 69, 6, false, "", "", 48⟩ : Field)]).run Tryz.prog w := eqFields_step (a := (.agg #[.int .u64 x.cap.a, .int .u64 x.cap.b, .int .u64 x.cap.c, .int .u64 x.cap.d])) (b := (.agg #[.int .u64 x.cap.a, .int .u64 x.cap.b, .int .u64 x.cap.c, .int .u64 x.cap.d])) (by decide) (part_vec #[.int .i64 x.id, .int .i64 x.zone, .int .u64 x.cap.a, .int .u64 x.cap.b, .int .u64 x.cap.c, .int .u64 x.cap.d, .int .u64 x.held.a, .int .u64 x.held.b, .int .u64 x.held.c, .int .u64 x.held.d] 2 (.int .u64 x.cap.a) (.int .u64 x.cap.b) (.int .u64 x.cap.c) (.int .u64 x.cap.d) rfl w) (part_vec #[.int .i64 x.id, .int .i64 x.zone, .int .u64 x.cap.a, .int .u64 x.cap.b, .int .u64 x.cap.c, .int .u64 x.cap.d, .int .u64 x.held.a, .int .u64 x.held.b, .int .u64 x.held.c, .int .u64 x.held.d] 2 (.int .u64 x.cap.a) (.int .u64 x.cap.b) (.int .u64 x.cap.c) (.int .u64 x.cap.d) rfl w) (vec_eqIn 9997 x.cap.a x.cap.b x.cap.c x.cap.d w)
  have s3 : (Op.eqFields 9999 #[.int .i64 x.id, .int .i64 x.zone, .int .u64 x.cap.a, .int .u64 x.cap.b, .int .u64 x.cap.c, .int .u64 x.cap.d, .int .u64 x.held.a, .int .u64 x.held.b, .int .u64 x.held.c, .int .u64 x.held.d] #[.int .i64 x.id, .int .i64 x.zone, .int .u64 x.cap.a, .int .u64 x.cap.b, .int .u64 x.cap.c, .int .u64 x.cap.d, .int .u64 x.held.a, .int .u64 x.held.b, .int .u64 x.held.c, .int .u64 x.held.d] ((⟨"Held", 69, 6, false, "", "", 48⟩ : Field) :: [])).run Tryz.prog w = (Op.eqFields 9999 #[.int .i64 x.id, .int .i64 x.zone, .int .u64 x.cap.a, .int .u64 x.cap.b, .int .u64 x.cap.c, .int .u64 x.cap.d, .int .u64 x.held.a, .int .u64 x.held.b, .int .u64 x.held.c, .int .u64 x.held.d] #[.int .i64 x.id, .int .i64 x.zone, .int .u64 x.cap.a, .int .u64 x.cap.b, .int .u64 x.cap.c, .int .u64 x.cap.d, .int .u64 x.held.a, .int .u64 x.held.b, .int .u64 x.held.c, .int .u64 x.held.d] []).run Tryz.prog w := eqFields_step (a := (.agg #[.int .u64 x.held.a, .int .u64 x.held.b, .int .u64 x.held.c, .int .u64 x.held.d])) (b := (.agg #[.int .u64 x.held.a, .int .u64 x.held.b, .int .u64 x.held.c, .int .u64 x.held.d])) (by decide) (part_vec #[.int .i64 x.id, .int .i64 x.zone, .int .u64 x.cap.a, .int .u64 x.cap.b, .int .u64 x.cap.c, .int .u64 x.cap.d, .int .u64 x.held.a, .int .u64 x.held.b, .int .u64 x.held.c, .int .u64 x.held.d] 6 (.int .u64 x.held.a) (.int .u64 x.held.b) (.int .u64 x.held.c) (.int .u64 x.held.d) rfl w) (part_vec #[.int .i64 x.id, .int .i64 x.zone, .int .u64 x.cap.a, .int .u64 x.cap.b, .int .u64 x.cap.c, .int .u64 x.cap.d, .int .u64 x.held.a, .int .u64 x.held.b, .int .u64 x.held.c, .int .u64 x.held.d] 6 (.int .u64 x.held.a) (.int .u64 x.held.b) (.int .u64 x.held.c) (.int .u64 x.held.d) rfl w) (vec_eqIn 9997 x.held.a x.held.b x.held.c x.held.d w)
  rw [s0, s1, s2, s3]
  simp [Op.eqFields]
theorem load_same (x : LoadD) (w : World) : (binOp .neq 75 (.agg (cellsL x).toArray) (.agg (cellsL x).toArray)).run Tryz.prog w = .ok (.bool false) w := by
  have hf : (Tryz.prog.fieldsOf 75).toList = [(⟨"Id", 3, 0, false, "", "", 0⟩ : Field), (⟨"Apart", 4, 1, false, "", "", 8⟩ : Field), (⟨"Skew", 3, 2, false, "", "", 16⟩ : Field), (⟨"Min", 3, 3, false, "", "", 24⟩ : Field), (⟨"Max", 3, 4, false, "", "", 32⟩ : Field)] := by kernel_rfl
  have hc : (cellsL x).toArray = #[.int .i64 x.id, .bool x.apart, .int .i64 x.skew, .int .i64 x.min, .int .i64 x.max] := rfl
  rw [hc, run_neq_struct, run_equalIn_struct w 9999 75 _ _ (by kernel_rfl) (by kernel_rfl), hf]
  clear hc hf
  have s0 : (Op.eqFields 9999 #[.int .i64 x.id, .bool x.apart, .int .i64 x.skew, .int .i64 x.min, .int .i64 x.max] #[.int .i64 x.id, .bool x.apart, .int .i64 x.skew, .int .i64 x.min, .int .i64 x.max] ((⟨"Id", 3, 0, false, "", "", 0⟩ : Field) :: [(⟨"Apart", 4, 1, false, "", "", 8⟩ : Field), (⟨"Skew", 3, 2, false, "", "", 16⟩ : Field), (⟨"Min", 3, 3, false, "", "", 24⟩ : Field), (⟨"Max", 3, 4, false, "", "", 32⟩ : Field)])).run Tryz.prog w = (Op.eqFields 9999 #[.int .i64 x.id, .bool x.apart, .int .i64 x.skew, .int .i64 x.min, .int .i64 x.max] #[.int .i64 x.id, .bool x.apart, .int .i64 x.skew, .int .i64 x.min, .int .i64 x.max] [(⟨"Apart", 4, 1, false, "", "", 8⟩ : Field), (⟨"Skew", 3, 2, false, "", "", 16⟩ : Field), (⟨"Min", 3, 3, false, "", "", 24⟩ : Field), (⟨"Max", 3, 4, false, "", "", 32⟩ : Field)]).run Tryz.prog w := eqFields_step (a := (.int .i64 x.id)) (b := (.int .i64 x.id)) (by decide) (part_int #[.int .i64 x.id, .bool x.apart, .int .i64 x.skew, .int .i64 x.min, .int .i64 x.max] 0 (.int .i64 x.id) rfl w) (part_int #[.int .i64 x.id, .bool x.apart, .int .i64 x.skew, .int .i64 x.min, .int .i64 x.max] 0 (.int .i64 x.id) rfl w) (int_eqIn 9998 x.id w)
  have s1 : (Op.eqFields 9999 #[.int .i64 x.id, .bool x.apart, .int .i64 x.skew, .int .i64 x.min, .int .i64 x.max] #[.int .i64 x.id, .bool x.apart, .int .i64 x.skew, .int .i64 x.min, .int .i64 x.max] ((⟨"Apart", 4, 1, false, "", "", 8⟩ : Field) :: [(⟨"Skew", 3, 2, false, "", "", 16⟩ : Field), (⟨"Min", 3, 3, false, "", "", 24⟩ : Field), (⟨"Max", 3, 4, false, "", "", 32⟩ : Field)])).run Tryz.prog w = (Op.eqFields 9999 #[.int .i64 x.id, .bool x.apart, .int .i64 x.skew, .int .i64 x.min, .int .i64 x.max] #[.int .i64 x.id, .bool x.apart, .int .i64 x.skew, .int .i64 x.min, .int .i64 x.max] [(⟨"Skew", 3, 2, false, "", "", 16⟩ : Field), (⟨"Min", 3, 3, false, "", "", 24⟩ : Field), (⟨"Max", 3, 4, false, "", "", 32⟩ : Field)]).run Tryz.prog w := eqFields_step (a := (.bool x.apart)) (b := (.bool x.apart)) (by decide) (part_bool #[.int .i64 x.id, .bool x.apart, .int .i64 x.skew, .int .i64 x.min, .int .i64 x.max] 1 (.bool x.apart) rfl w) (part_bool #[.int .i64 x.id, .bool x.apart, .int .i64 x.skew, .int .i64 x.min, .int .i64 x.max] 1 (.bool x.apart) rfl w) (bool_eqIn 9998 x.apart w)
  have s2 : (Op.eqFields 9999 #[.int .i64 x.id, .bool x.apart, .int .i64 x.skew, .int .i64 x.min, .int .i64 x.max] #[.int .i64 x.id, .bool x.apart, .int .i64 x.skew, .int .i64 x.min, .int .i64 x.max] ((⟨"Skew", 3, 2, false, "", "", 16⟩ : Field) :: [(⟨"Min", 3, 3, false, "", "", 24⟩ : Field), (⟨"Max", 3, 4, false, "", "", 32⟩ : Field)])).run Tryz.prog w = (Op.eqFields 9999 #[.int .i64 x.id, .bool x.apart, .int .i64 x.skew, .int .i64 x.min, .int .i64 x.max] #[.int .i64 x.id, .bool x.apart, .int .i64 x.skew, .int .i64 x.min, .int .i64 x.max] [(⟨"Min", 3, 3, false, "", "", 24⟩ : Field), (⟨"Max", 3, 4, false, "", "", 32⟩ : Field)]).run Tryz.prog w := eqFields_step (a := (.int .i64 x.skew)) (b := (.int .i64 x.skew)) (by decide) (part_int #[.int .i64 x.id, .bool x.apart, .int .i64 x.skew, .int .i64 x.min, .int .i64 x.max] 2 (.int .i64 x.skew) rfl w) (part_int #[.int .i64 x.id, .bool x.apart, .int .i64 x.skew, .int .i64 x.min, .int .i64 x.max] 2 (.int .i64 x.skew) rfl w) (int_eqIn 9998 x.skew w)
  have s3 : (Op.eqFields 9999 #[.int .i64 x.id, .bool x.apart, .int .i64 x.skew, .int .i64 x.min, .int .i64 x.max] #[.int .i64 x.id, .bool x.apart, .int .i64 x.skew, .int .i64 x.min, .int .i64 x.max] ((⟨"Min", 3, 3, false, "", "", 24⟩ : Field) :: [(⟨"Max", 3, 4, false, "", "", 32⟩ : Field)])).run Tryz.prog w = (Op.eqFields 9999 #[.int .i64 x.id, .bool x.apart, .int .i64 x.skew, .int .i64 x.min, .int .i64 x.max] #[.int .i64 x.id, .bool x.apart, .int .i64 x.skew, .int .i64 x.min, .int .i64 x.max] [(⟨"Max", 3, 4, false, "", "", 32⟩ : Field)]).run Tryz.prog w := eqFields_step (a := (.int .i64 x.min)) (b := (.int .i64 x.min)) (by decide) (part_int #[.int .i64 x.id, .bool x.apart, .int .i64 x.skew, .int .i64 x.min, .int .i64 x.max] 3 (.int .i64 x.min) rfl w) (part_int #[.int .i64 x.id, .bool x.apart, .int .i64 x.skew, .int .i64 x.min, .int .i64 x.max] 3 (.int .i64 x.min) rfl w) (int_eqIn 9998 x.min w)
  have s4 : (Op.eqFields 9999 #[.int .i64 x.id, .bool x.apart, .int .i64 x.skew, .int .i64 x.min, .int .i64 x.max] #[.int .i64 x.id, .bool x.apart, .int .i64 x.skew, .int .i64 x.min, .int .i64 x.max] ((⟨"Max", 3, 4, false, "", "", 32⟩ : Field) :: [])).run Tryz.prog w = (Op.eqFields 9999 #[.int .i64 x.id, .bool x.apart, .int .i64 x.skew, .int .i64 x.min, .int .i64 x.max] #[.int .i64 x.id, .bool x.apart, .int .i64 x.skew, .int .i64 x.min, .int .i64 x.max] []).run Tryz.prog w := eqFields_step (a := (.int .i64 x.max)) (b := (.int .i64 x.max)) (by decide) (part_int #[.int .i64 x.id, .bool x.apart, .int .i64 x.skew, .int .i64 x.min, .int .i64 x.max] 4 (.int .i64 x.max) rfl w) (part_int #[.int .i64 x.id, .bool x.apart, .int .i64 x.skew, .int .i64 x.min, .int .i64 x.max] 4 (.int .i64 x.max) rfl w) (int_eqIn 9998 x.max w)
  rw [s0, s1, s2, s3, s4]
  simp [Op.eqFields]
theorem want_same (x : WantD) (w : World) : (binOp .neq 105 (.agg (cellsW x).toArray) (.agg (cellsW x).toArray)).run Tryz.prog w = .ok (.bool false) w := by
  have hf : (Tryz.prog.fieldsOf 105).toList = [(⟨"Pod", 3, 0, false, "", "", 0⟩ : Field), (⟨"Req", 69, 1, false, "", "", 8⟩ : Field), (⟨"Stay", 4, 5, false, "", "", 40⟩ : Field)] := by kernel_rfl
  have hc : (cellsW x).toArray = #[.int .i64 x.pod, .int .u64 x.req.a, .int .u64 x.req.b, .int .u64 x.req.c, .int .u64 x.req.d, .bool x.stay] := rfl
  rw [hc, run_neq_struct, run_equalIn_struct w 9999 105 _ _ (by kernel_rfl) (by kernel_rfl), hf]
  clear hc hf
  have s0 : (Op.eqFields 9999 #[.int .i64 x.pod, .int .u64 x.req.a, .int .u64 x.req.b, .int .u64 x.req.c, .int .u64 x.req.d, .bool x.stay] #[.int .i64 x.pod, .int .u64 x.req.a, .int .u64 x.req.b, .int .u64 x.req.c, .int .u64 x.req.d, .bool x.stay] ((⟨"Pod", 3, 0, false, "", "", 0⟩ : Field) :: [(⟨"Req", 69, 1, false, "", "", 8⟩ : Field), (⟨"Stay", 4, 5, false, "", "", 40⟩ : Field)])).run Tryz.prog w = (Op.eqFields 9999 #[.int .i64 x.pod, .int .u64 x.req.a, .int .u64 x.req.b, .int .u64 x.req.c, .int .u64 x.req.d, .bool x.stay] #[.int .i64 x.pod, .int .u64 x.req.a, .int .u64 x.req.b, .int .u64 x.req.c, .int .u64 x.req.d, .bool x.stay] [(⟨"Req", 69, 1, false, "", "", 8⟩ : Field), (⟨"Stay", 4, 5, false, "", "", 40⟩ : Field)]).run Tryz.prog w := eqFields_step (a := (.int .i64 x.pod)) (b := (.int .i64 x.pod)) (by decide) (part_int #[.int .i64 x.pod, .int .u64 x.req.a, .int .u64 x.req.b, .int .u64 x.req.c, .int .u64 x.req.d, .bool x.stay] 0 (.int .i64 x.pod) rfl w) (part_int #[.int .i64 x.pod, .int .u64 x.req.a, .int .u64 x.req.b, .int .u64 x.req.c, .int .u64 x.req.d, .bool x.stay] 0 (.int .i64 x.pod) rfl w) (int_eqIn 9998 x.pod w)
  have s1 : (Op.eqFields 9999 #[.int .i64 x.pod, .int .u64 x.req.a, .int .u64 x.req.b, .int .u64 x.req.c, .int .u64 x.req.d, .bool x.stay] #[.int .i64 x.pod, .int .u64 x.req.a, .int .u64 x.req.b, .int .u64 x.req.c, .int .u64 x.req.d, .bool x.stay] ((⟨"Req", 69, 1, false, "", "", 8⟩ : Field) :: [(⟨"Stay", 4, 5, false, "", "", 40⟩ : Field)])).run Tryz.prog w = (Op.eqFields 9999 #[.int .i64 x.pod, .int .u64 x.req.a, .int .u64 x.req.b, .int .u64 x.req.c, .int .u64 x.req.d, .bool x.stay] #[.int .i64 x.pod, .int .u64 x.req.a, .int .u64 x.req.b, .int .u64 x.req.c, .int .u64 x.req.d, .bool x.stay] [(⟨"Stay", 4, 5, false, "", "", 40⟩ : Field)]).run Tryz.prog w := eqFields_step (a := (.agg #[.int .u64 x.req.a, .int .u64 x.req.b, .int .u64 x.req.c, .int .u64 x.req.d])) (b := (.agg #[.int .u64 x.req.a, .int .u64 x.req.b, .int .u64 x.req.c, .int .u64 x.req.d])) (by decide) (part_vec #[.int .i64 x.pod, .int .u64 x.req.a, .int .u64 x.req.b, .int .u64 x.req.c, .int .u64 x.req.d, .bool x.stay] 1 (.int .u64 x.req.a) (.int .u64 x.req.b) (.int .u64 x.req.c) (.int .u64 x.req.d) rfl w) (part_vec #[.int .i64 x.pod, .int .u64 x.req.a, .int .u64 x.req.b, .int .u64 x.req.c, .int .u64 x.req.d, .bool x.stay] 1 (.int .u64 x.req.a) (.int .u64 x.req.b) (.int .u64 x.req.c) (.int .u64 x.req.d) rfl w) (vec_eqIn 9997 x.req.a x.req.b x.req.c x.req.d w)
  have s2 : (Op.eqFields 9999 #[.int .i64 x.pod, .int .u64 x.req.a, .int .u64 x.req.b, .int .u64 x.req.c, .int .u64 x.req.d, .bool x.stay] #[.int .i64 x.pod, .int .u64 x.req.a, .int .u64 x.req.b, .int .u64 x.req.c, .int .u64 x.req.d, .bool x.stay] ((⟨"Stay", 4, 5, false, "", "", 40⟩ : Field) :: [])).run Tryz.prog w = (Op.eqFields 9999 #[.int .i64 x.pod, .int .u64 x.req.a, .int .u64 x.req.b, .int .u64 x.req.c, .int .u64 x.req.d, .bool x.stay] #[.int .i64 x.pod, .int .u64 x.req.a, .int .u64 x.req.b, .int .u64 x.req.c, .int .u64 x.req.d, .bool x.stay] []).run Tryz.prog w := eqFields_step (a := (.bool x.stay)) (b := (.bool x.stay)) (by decide) (part_bool #[.int .i64 x.pod, .int .u64 x.req.a, .int .u64 x.req.b, .int .u64 x.req.c, .int .u64 x.req.d, .bool x.stay] 5 (.bool x.stay) rfl w) (part_bool #[.int .i64 x.pod, .int .u64 x.req.a, .int .u64 x.req.b, .int .u64 x.req.c, .int .u64 x.req.d, .bool x.stay] 5 (.bool x.stay) rfl w) (bool_eqIn 9998 x.stay w)
  rw [s0, s1, s2]
  simp [Op.eqFields]
end Go.Proofs.YtgfleifpblcnfaaGreatDoor

/- The head of all statements of layer 4. -/
namespace Go.Proofs.YtgfleifpblcnfaaGreatDoor
set_option linter.unusedSimpArgs false
open Go.RowKit
set_option linter.unusedVariables false

theorem enc_0 : enc 0 = [0] := by rw [enc_lt (by decide)]
theorem encs_0 : encs [0] = [0] := by rw [encs_one, enc_0]
theorem encs_000 : encs [0, 0, 0] = [0, 0, 0] := by
  have : ([0, 0, 0] : List Int) = [0] ++ ([0] ++ [0]) := rfl
  rw [this, encs_append, encs_append, encs_0]
theorem rd_000 : rdSnap [0, 0, 0] = (noSnap, 3, -1) := by
  simp [rdSnap, snapFine, snapOf, fine, parse, check, large]
theorem errIs_code {B : Nat} {w : World} {u : Value} {c : Int} (h : ErrIs (c, -1) B w u) (hc : c ≠ 0) : u = .iface 52 (.int .i64 c) := errIs_self h hc rfl

set_option maxHeartbeats 3200000 in
set_option maxRecDepth 100000 in
theorem up4_any (w : World) : Calls Tryz.prog 5 #[] w fun e w' => e = .returned (.bool true) ∧ Below w.heap.size w w' := by
  have q2 : ∀ w : World, (binOp .eql 31 (.iface 52 (.int .i64 2)) (.iface 52 (.int .i64 2))).run Tryz.prog w = .ok (.bool true) w := fun _ => by kernel_rfl
  have q3 : ∀ w : World, (binOp .eql 31 (.iface 52 (.int .i64 3)) (.iface 52 (.int .i64 3))).run Tryz.prog w = .ok (.bool true) w := fun _ => by kernel_rfl
  have q4 : ∀ w : World, (binOp .eql 9 (.string ⟨#[0]⟩) (.string ⟨#[0]⟩)).run Tryz.prog w = .ok (.bool true) w := fun _ => by kernel_rfl
  have Q2 := Lib.hid q2
  have Q3 := Lib.hid q3
  have Q4 := Lib.hid q4
  clear q2 q3 q4
  go_enter Tryz.func5, Tryz.ntmps5
  go_wp2_with fail
  refine (moves_any [] none 0 0 w rfl (by decide) Recs.nil).mono ?_
  rintro e w1 ⟨⟨_, v, rfl, ho⟩ | ⟨h0, _⟩, hb1⟩
  · have hm : encs (moveNums []) = [0] := encs_0
    rw [hm] at ho
    obtain ⟨A1, c1, rfl, _⟩ := own_form ho
    have HROW := Lib.hid (Row.of_own ho).1
    have HB1 := Lib.hid hb1
    clear ho hm hb1
    go_wp2_with fail
    refine (readMoves_any [] [] none 0 0 w1 rfl (by decide) (Nat.le_refl _) (by decide) (by intro n hn; simp at hn) (by intro n hn; simp at hn) (.inl rfl) (.inl rfl)).mono ?_
    rintro e w2 ⟨A2, c2, u, rfl, _, _, _, _, hu, hb2⟩
    obtain rfl := errIs_code (c := 2) hu (by decide)
    have HB2 := Lib.hid (HB1.out.trans (hb2.mono HB1.out.size))
    have HROW2 := Lib.hid ((HROW.out.below hb2 (Nat.le_refl _)).more hb2.size)
    clear hu hb2 HROW HB1
    go_wp2_with fail
    refine (readSnapshot_any [0, 0, 0] [] _ 3 3 _ (by rw [encs_000]; rfl) (by decide) (by decide) (by decide) (by intro n hn; simp at hn; omega) (by intro n hn; simp at hn) (.inl rfl) ?_).mono ?_
    · rw [encs_000]
      exact row_at _ w2.heap.size 3 _ (by simp) fun j hj => by
        match j, hj with
        | 0, _ => simp
        | 1, _ => simp
        | 2, _ => simp
    have hrd : rdB noSnap rdSnap [0, 0, 0] [] = (noSnap, 3, -1) := rd_000
    rw [hrd]
    rintro e w3 ⟨B1, B2, B3, d1, d2, d3, u, rfl, _, _, _, hu, hb3⟩
    obtain rfl := errIs_code (c := 3) hu (by decide)
    have hal : Below w2.heap.size w2 (w2.alloc (.cells #[.int .u8 0, .int .u8 0, .int .u8 0] 5)) := (Below.refl _ _).alloc (Nat.le_refl _) _
    have hb3' := hal.trans (hb3.mono hal.size)
    have HB3 := Lib.hid (HB2.out.trans (hb3'.mono HB2.out.size))
    have HROW3 := Lib.hid ((HROW2.out.below hb3' (Nat.le_refl _)).more hb3'.size)
    clear hu hb3 hb3' hal HB2 HROW2
    have hconv : ∀ o : Obj, (convert 27 9 (.slice A1 1 c1)).run Tryz.prog (w3.alloc o) = .ok (.string ⟨#[0]⟩) (w3.alloc o) := fun o => conv_row [0] A1 1 c1 _ (w3.alloc o) rfl (HROW3.out.below ((Below.refl _ w3).alloc (Nat.le_refl _) o) (Nat.le_refl _))
    have q2 := Q2.out
    have q3 := Q3.out
    have q4 := Q4.out
    go_wp2
    go_ret
    exact ⟨rfl, HB3.out.alloc HB3.out.size _⟩
  · exact absurd h0 (by decide)
end Go.Proofs.YtgfleifpblcnfaaGreatDoor

/- '!=' of a pod, a move and itself. -/
namespace Go.Proofs.YtgfleifpblcnfaaGreatDoor
set_option linter.unusedSimpArgs false
open Go.RowKit
set_option linter.unusedVariables false

theorem pod_same (x : PodD) (w : World) : (binOp .neq 79 (.agg (cellsP x).toArray) (.agg (cellsP x).toArray)).run Tryz.prog w = .ok (.bool false) w := by
  have hf : (Tryz.prog.fieldsOf 79).toList = [(⟨"Id", 3, 0, false, "", "", 0⟩ : Field), (⟨"Load", 3, 1, false, "", "", 8⟩ : Field), (⟨"Prio", 3, 2, false, "", "", 16⟩ : Field), (⟨"Req", 69, 3, false, "", "", 24⟩ : Field), (⟨"Node", 3, 7, false, "", "", 56⟩ : Field)] := by kernel_rfl
  have hc : (cellsP x).toArray = #[.int .i64 x.id, .int .i64 x.load, .int .i64 x.prio, .int .u64 x.req.a, .int .u64 x.req.b, .int .u64 x.req.c, .int .u64 x.req.d, .int .i64 x.node] := rfl
  rw [hc, run_neq_struct, run_equalIn_struct w 9999 79 _ _ (by kernel_rfl) (by kernel_rfl), hf]
  clear hc hf
  have s0 : (Op.eqFields 9999 #[.int .i64 x.id, .int .i64 x.load, .int .i64 x.prio, .int .u64 x.req.a, .int .u64 x.req.b, .int .u64 x.req.c, .int .u64 x.req.d, .int .i64 x.node] #[.int .i64 x.id, .int .i64 x.load, .int .i64 x.prio, .int .u64 x.req.a, .int .u64 x.req.b, .int .u64 x.req.c, .int .u64 x.req.d, .int .i64 x.node] ((⟨"Id", 3, 0, false, "", "", 0⟩ : Field) :: [(⟨"Load", 3, 1, false, "", "", 8⟩ : Field), (⟨"Prio", 3, 2, false, "", "", 16⟩ : Field), (⟨"Req", 69, 3, false, "", "", 24⟩ : Field), (⟨"Node", 3, 7, false, "", "", 56⟩ : Field)])).run Tryz.prog w = (Op.eqFields 9999 #[.int .i64 x.id, .int .i64 x.load, .int .i64 x.prio, .int .u64 x.req.a, .int .u64 x.req.b, .int .u64 x.req.c, .int .u64 x.req.d, .int .i64 x.node] #[.int .i64 x.id, .int .i64 x.load, .int .i64 x.prio, .int .u64 x.req.a, .int .u64 x.req.b, .int .u64 x.req.c, .int .u64 x.req.d, .int .i64 x.node] [(⟨"Load", 3, 1, false, "", "", 8⟩ : Field), (⟨"Prio", 3, 2, false, "", "", 16⟩ : Field), (⟨"Req", 69, 3, false, "", "", 24⟩ : Field), (⟨"Node", 3, 7, false, "", "", 56⟩ : Field)]).run Tryz.prog w := eqFields_step (a := (.int .i64 x.id)) (b := (.int .i64 x.id)) (by decide) (part_int #[.int .i64 x.id, .int .i64 x.load, .int .i64 x.prio, .int .u64 x.req.a, .int .u64 x.req.b, .int .u64 x.req.c, .int .u64 x.req.d, .int .i64 x.node] 0 (.int .i64 x.id) rfl w) (part_int #[.int .i64 x.id, .int .i64 x.load, .int .i64 x.prio, .int .u64 x.req.a, .int .u64 x.req.b, .int .u64 x.req.c, .int .u64 x.req.d, .int .i64 x.node] 0 (.int .i64 x.id) rfl w) (int_eqIn 9998 x.id w)
  have s1 : (Op.eqFields 9999 #[.int .i64 x.id, .int .i64 x.load, .int .i64 x.prio, .int .u64 x.req.a, .int .u64 x.req.b, .int .u64 x.req.c, .int .u64 x.req.d, .int .i64 x.node] #[.int .i64 x.id, .int .i64 x.load, .int .i64 x.prio, .int .u64 x.req.a, .int .u64 x.req.b, .int .u64 x.req.c, .int .u64 x.req.d, .int .i64 x.node] ((⟨"Load", 3, 1, false, "", "", 8⟩ : Field) :: [(⟨"Prio", 3, 2, false, "", "", 16⟩ : Field), (⟨"Req", 69, 3, false, "", "", 24⟩ : Field), (⟨"Node", 3, 7, false, "", "", 56⟩ : Field)])).run Tryz.prog w = (Op.eqFields 9999 #[.int .i64 x.id, .int .i64 x.load, .int .i64 x.prio, .int .u64 x.req.a, .int .u64 x.req.b, .int .u64 x.req.c, .int .u64 x.req.d, .int .i64 x.node] #[.int .i64 x.id, .int .i64 x.load, .int .i64 x.prio, .int .u64 x.req.a, .int .u64 x.req.b, .int .u64 x.req.c, .int .u64 x.req.d, .int .i64 x.node] [(⟨"Prio", 3, 2, false, "", "", 16⟩ : Field), (⟨"Req", 69, 3, false, "", "", 24⟩ : Field), (⟨"Node", 3, 7, false, "", "", 56⟩ : Field)]).run Tryz.prog w := eqFields_step (a := (.int .i64 x.load)) (b := (.int .i64 x.load)) (by decide) (part_int #[.int .i64 x.id, .int .i64 x.load, .int .i64 x.prio, .int .u64 x.req.a, .int .u64 x.req.b, .int .u64 x.req.c, .int .u64 x.req.d, .int .i64 x.node] 1 (.int .i64 x.load) rfl w) (part_int #[.int .i64 x.id, .int .i64 x.load, .int .i64 x.prio, .int .u64 x.req.a, .int .u64 x.req.b, .int .u64 x.req.c, .int .u64 x.req.d, .int .i64 x.node] 1 (.int .i64 x.load) rfl w) (int_eqIn 9998 x.load w)
  have s2 : (Op.eqFields 9999 #[.int .i64 x.id, .int .i64 x.load, .int .i64 x.prio, .int .u64 x.req.a, .int .u64 x.req.b, .int .u64 x.req.c, .int .u64 x.req.d, .int .i64 x.node] #[.int .i64 x.id, .int .i64 x.load, .int .i64 x.prio, .int .u64 x.req.a, .int .u64 x.req.b, .int .u64 x.req.c, .int .u64 x.req.d, .int .i64 x.node] ((⟨"Prio", 3, 2, false, "", "", 16⟩ : Field) :: [(⟨"Req", 69, 3, false, "", "", 24⟩ : Field), (⟨"Node", 3, 7, false, "", "", 56⟩ : Field)])).run Tryz.prog w = (Op.eqFields 9999 #[.int .i64 x.id, .int .i64 x.load, .int .i64 x.prio, .int .u64 x.req.a, .int .u64 x.req.b, .int .u64 x.req.c, .int .u64 x.req.d, .int .i64 x.node] #[.int .i64 x.id, .int .i64 x.load, .int .i64 x.prio, .int .u64 x.req.a, .int .u64 x.req.b, .int .u64 x.req.c, .int .u64 x.req.d, .int .i64 x.node] [(⟨"Req", 69, 3, false, "", "", 24⟩ : Field), (⟨"Node", 3, 7, false, "", "", 56⟩ : Field)]).run Tryz.prog w := eqFields_step (a := (.int .i64 x.prio)) (b := (.int .i64 x.prio)) (by decide) (part_int #[.int .i64 x.id, .int .i64 x.load, .int .i64 x.prio, .int .u64 x.req.a, .int .u64 x.req.b, .int .u64 x.req.c, .int .u64 x.req.d, .int .i64 x.node] 2 (.int .i64 x.prio) rfl w) (part_int #[.int .i64 x.id, .int .i64 x.load, .int .i64 x.prio, .int .u64 x.req.a, .int .u64 x.req.b, .int .u64 x.req.c, .int .u64 x.req.d, .int .i64 x.node] 2 (.int .i64 x.prio) rfl w) (int_eqIn 9998 x.prio w)
  have s3 : (Op.eqFields 9999 #[.int .i64 x.id, .int .i64 x.load, .int .i64 x.prio, .int .u64 x.req.a, .int .u64 x.req.b, .int .u64 x.req.c, .int .u64 x.req.d, .int .i64 x.node] #[.int .i64 x.id, .int .i64 x.load, .int .i64 x.prio, .int .u64 x.req.a, .int .u64 x.req.b, .int .u64 x.req.c, .int .u64 x.req.d, .int .i64 x.node] ((⟨"Req", 69, 3, false, "", "", 24⟩ : Field) :: [(⟨"Node", 3, 7, false, "", "", 56⟩ : Field)])).run Tryz.prog w = (Op.eqFields 9999 #[.int .i64 x.id, .int .i64 x.load, .int .i64 x.prio, .int .u64 x.req.a, .int .u64 x.req.b, .int .u64 x.req.c, .int .u64 x.req.d, .int .i64 x.node] #[.int .i64 x.id, .int .i64 x.load, .int .i64 x.prio, .int .u64 x.req.a, .int .u64 x.req.b, .int .u64 x.req.c, .int .u64 x.req.d, .int .i64 x.node] [(⟨"Node", 3, 7, false, "", "", 56⟩ : Field)]).run Tryz.prog w := eqFields_step (a := (.agg #[.int .u64 x.req.a, .int .u64 x.req.b, .int .u64 x.req.c, .int .u64 x.req.d])) (b := (.agg #[.int .u64 x.req.a, .int .u64 x.req.b, .int .u64 x.req.c, .int .u64 x.req.d])) (by decide) (part_vec #[.int .i64 x.id, .int .i64 x.load, .int .i64 x.prio, .int .u64 x.req.a, .int .u64 x.req.b, .int .u64 x.req.c, .int .u64 x.req.d, .int .i64 x.node] 3 (.int .u64 x.req.a) (.int .u64 x.req.b) (.int .u64 x.req.c) (.int .u64 x.req.d) rfl w) (part_vec #[.int .i64 x.id, .int .i64 x.load, .int .i64 x.prio, .int .u64 x.req.a, .int .u64 x.req.b, .int .u64 x.req.c, .int .u64 x.req.d, .int .i64 x.node] 3 (.int .u64 x.req.a) (.int .u64 x.req.b) (.int .u64 x.req.c) (.int .u64 x.req.d) rfl w) (vec_eqIn 9997 x.req.a x.req.b x.req.c x.req.d w)
  have s4 : (Op.eqFields 9999 #[.int .i64 x.id, .int .i64 x.load, .int .i64 x.prio, .int .u64 x.req.a, .int .u64 x.req.b, .int .u64 x.req.c, .int .u64 x.req.d, .int .i64 x.node] #[.int .i64 x.id, .int .i64 x.load, .int .i64 x.prio, .int .u64 x.req.a, .int .u64 x.req.b, .int .u64 x.req.c, .int .u64 x.req.d, .int .i64 x.node] ((⟨"Node", 3, 7, false, "", "", 56⟩ : Field) :: [])).run Tryz.prog w = (Op.eqFields 9999 #[.int .i64 x.id, .int .i64 x.load, .int .i64 x.prio, .int .u64 x.req.a, .int .u64 x.req.b, .int .u64 x.req.c, .int .u64 x.req.d, .int .i64 x.node] #[.int .i64 x.id, .int .i64 x.load, .int .i64 x.prio, .int .u64 x.req.a, .int .u64 x.req.b, .int .u64 x.req.c, .int .u64 x.req.d, .int .i64 x.node] []).run Tryz.prog w := eqFields_step (a := (.int .i64 x.node)) (b := (.int .i64 x.node)) (by decide) (part_int #[.int .i64 x.id, .int .i64 x.load, .int .i64 x.prio, .int .u64 x.req.a, .int .u64 x.req.b, .int .u64 x.req.c, .int .u64 x.req.d, .int .i64 x.node] 7 (.int .i64 x.node) rfl w) (part_int #[.int .i64 x.id, .int .i64 x.load, .int .i64 x.prio, .int .u64 x.req.a, .int .u64 x.req.b, .int .u64 x.req.c, .int .u64 x.req.d, .int .i64 x.node] 7 (.int .i64 x.node) rfl w) (int_eqIn 9998 x.node w)
  rw [s0, s1, s2, s3, s4]
  simp [Op.eqFields]
theorem move_same (x : MoveD) (w : World) : (binOp .neq 111 (.agg (cellsM x).toArray) (.agg (cellsM x).toArray)).run Tryz.prog w = .ok (.bool false) w := by
  have hf : (Tryz.prog.fieldsOf 111).toList = [(⟨"Kind", 3, 0, false, "", "", 0⟩ : Field), (⟨"Pod", 3, 1, false, "", "", 8⟩ : Field), (⟨"Node", 3, 2, false, "", "", 16⟩ : Field), (⟨"Over", 3, 3, false, "", "", 24⟩ : Field)] := by kernel_rfl
  have hc : (cellsM x).toArray = #[.int .i64 x.kind, .int .i64 x.pod, .int .i64 x.node, .int .i64 x.over] := rfl
  rw [hc, run_neq_struct, run_equalIn_struct w 9999 111 _ _ (by kernel_rfl) (by kernel_rfl), hf]
  clear hc hf
  have s0 : (Op.eqFields 9999 #[.int .i64 x.kind, .int .i64 x.pod, .int .i64 x.node, .int .i64 x.over] #[.int .i64 x.kind, .int .i64 x.pod, .int .i64 x.node, .int .i64 x.over] ((⟨"Kind", 3, 0, false, "", "", 0⟩ : Field) :: [(⟨"Pod", 3, 1, false, "", "", 8⟩ : Field), (⟨"Node", 3, 2, false, "", "", 16⟩ : Field), (⟨"Over", 3, 3, false, "", "", 24⟩ : Field)])).run Tryz.prog w = (Op.eqFields 9999 #[.int .i64 x.kind, .int .i64 x.pod, .int .i64 x.node, .int .i64 x.over] #[.int .i64 x.kind, .int .i64 x.pod, .int .i64 x.node, .int .i64 x.over] [(⟨"Pod", 3, 1, false, "", "", 8⟩ : Field), (⟨"Node", 3, 2, false, "", "", 16⟩ : Field), (⟨"Over", 3, 3, false, "", "", 24⟩ : Field)]).run Tryz.prog w := eqFields_step (a := (.int .i64 x.kind)) (b := (.int .i64 x.kind)) (by decide) (part_int #[.int .i64 x.kind, .int .i64 x.pod, .int .i64 x.node, .int .i64 x.over] 0 (.int .i64 x.kind) rfl w) (part_int #[.int .i64 x.kind, .int .i64 x.pod, .int .i64 x.node, .int .i64 x.over] 0 (.int .i64 x.kind) rfl w) (int_eqIn 9998 x.kind w)
  have s1 : (Op.eqFields 9999 #[.int .i64 x.kind, .int .i64 x.pod, .int .i64 x.node, .int .i64 x.over] #[.int .i64 x.kind, .int .i64 x.pod, .int .i64 x.node, .int .i64 x.over] ((⟨"Pod", 3, 1, false, "", "", 8⟩ : Field) :: [(⟨"Node", 3, 2, false, "", "", 16⟩ : Field), (⟨"Over", 3, 3, false, "", "", 24⟩ : Field)])).run Tryz.prog w = (Op.eqFields 9999 #[.int .i64 x.kind, .int .i64 x.pod, .int .i64 x.node, .int .i64 x.over] #[.int .i64 x.kind, .int .i64 x.pod, .int .i64 x.node, .int .i64 x.over] [(⟨"Node", 3, 2, false, "", "", 16⟩ : Field), (⟨"Over", 3, 3, false, "", "", 24⟩ : Field)]).run Tryz.prog w := eqFields_step (a := (.int .i64 x.pod)) (b := (.int .i64 x.pod)) (by decide) (part_int #[.int .i64 x.kind, .int .i64 x.pod, .int .i64 x.node, .int .i64 x.over] 1 (.int .i64 x.pod) rfl w) (part_int #[.int .i64 x.kind, .int .i64 x.pod, .int .i64 x.node, .int .i64 x.over] 1 (.int .i64 x.pod) rfl w) (int_eqIn 9998 x.pod w)
  have s2 : (Op.eqFields 9999 #[.int .i64 x.kind, .int .i64 x.pod, .int .i64 x.node, .int .i64 x.over] #[.int .i64 x.kind, .int .i64 x.pod, .int .i64 x.node, .int .i64 x.over] ((⟨"Node", 3, 2, false, "", "", 16⟩ : Field) :: [(⟨"Over", 3, 3, false, "", "", 24⟩ : Field)])).run Tryz.prog w = (Op.eqFields 9999 #[.int .i64 x.kind, .int .i64 x.pod, .int .i64 x.node, .int .i64 x.over] #[.int .i64 x.kind, .int .i64 x.pod, .int .i64 x.node, .int .i64 x.over] [(⟨"Over", 3, 3, false, "", "", 24⟩ : Field)]).run Tryz.prog w := eqFields_step (a := (.int .i64 x.node)) (b := (.int .i64 x.node)) (by decide) (part_int #[.int .i64 x.kind, .int .i64 x.pod, .int .i64 x.node, .int .i64 x.over] 2 (.int .i64 x.node) rfl w) (part_int #[.int .i64 x.kind, .int .i64 x.pod, .int .i64 x.node, .int .i64 x.over] 2 (.int .i64 x.node) rfl w) (int_eqIn 9998 x.node w)
  have s3 : (Op.eqFields 9999 #[.int .i64 x.kind, .int .i64 x.pod, .int .i64 x.node, .int .i64 x.over] #[.int .i64 x.kind, .int .i64 x.pod, .int .i64 x.node, .int .i64 x.over] ((⟨"Over", 3, 3, false, "", "", 24⟩ : Field) :: [])).run Tryz.prog w = (Op.eqFields 9999 #[.int .i64 x.kind, .int .i64 x.pod, .int .i64 x.node, .int .i64 x.over] #[.int .i64 x.kind, .int .i64 x.pod, .int .i64 x.node, .int .i64 x.over] []).run Tryz.prog w := eqFields_step (a := (.int .i64 x.over)) (b := (.int .i64 x.over)) (by decide) (part_int #[.int .i64 x.kind, .int .i64 x.pod, .int .i64 x.node, .int .i64 x.over] 3 (.int .i64 x.over) rfl w) (part_int #[.int .i64 x.kind, .int .i64 x.pod, .int .i64 x.node, .int .i64 x.over] 3 (.int .i64 x.over) rfl w) (int_eqIn 9998 x.over w)
  rw [s0, s1, s2, s3]
  simp [Op.eqFields]
theorem node_self (x : NodeD) (w : World) : (binOp .neq 71 (aggN x) (aggN x)).run Tryz.prog w = .ok (.bool false) w := node_same x w
theorem load_self (x : LoadD) (w : World) : (binOp .neq 75 (aggL x) (aggL x)).run Tryz.prog w = .ok (.bool false) w := load_same x w
theorem pod_self (x : PodD) (w : World) : (binOp .neq 79 (aggP x) (aggP x)).run Tryz.prog w = .ok (.bool false) w := pod_same x w
theorem want_self (x : WantD) (w : World) : (binOp .neq 105 (aggW x) (aggW x)).run Tryz.prog w = .ok (.bool false) w := want_same x w
theorem move_self (x : MoveD) (w : World) : (binOp .neq 111 (aggM x) (aggM x)).run Tryz.prog w = .ok (.bool false) w := move_same x w
theorem below_drewn {B : Nat} {a w : World} (h : Below B a w) (n : Nat) : Below B a (w.drewN n) := ⟨h.os, h.tape, h.output, h.size, h.block⟩
def StepRel (n : Nat) (W : World) (B : Nat) (i : Value) (wr : World) : Prop := ∃ k : Nat, k ≤ n ∧ i = .int .i64 k ∧ Below B W wr
end Go.Proofs.YtgfleifpblcnfaaGreatDoor

/- dunnageref04.SameMoves of moves and themselves. -/
namespace Go.Proofs.YtgfleifpblcnfaaGreatDoor
set_option linter.unusedSimpArgs false
open Go.RowKit
set_option linter.unusedVariables false

end Go.Proofs.YtgfleifpblcnfaaGreatDoor

/- dunnageref03.SameSpec of a spec and itself. -/
namespace Go.Proofs.YtgfleifpblcnfaaGreatDoor
set_option linter.unusedSimpArgs false
open Go.RowKit
set_option linter.unusedVariables false

set_option maxHeartbeats 3200000 in
set_option maxRecDepth 100000 in
theorem sameSpec_any (x : SpecD) (A A' : Option Addr) (n c c' : Nat) (w : World) (hn : n = x.wants.length) (hl : n ≤ 1000) (hr : Recs 6 cellsW w w.heap.size A x.wants) (hr' : Recs 6 cellsW w w.heap.size A' x.wants) :
    Calls Tryz.prog 19 #[specV A n c x, specV A' n c' x] w fun e w' => e = .returned (.bool true) ∧ Below w.heap.size w w' := by
  have HR := Lib.hid hr
  have HR' := Lib.hid hr'
  have b00 : Below w.heap.size w ((w.alloc (.cells #[.slice A n c, .int .i64 x.preempts, .int .i64 x.shifts] 48)).alloc (.cells #[.slice A' n c', .int .i64 x.preempts, .int .i64 x.shifts] 48)) := below_two _ _ _
  have HQ := Lib.hid hn
  clear hr hr' hn
  go_enter Tryz.func19, Tryz.ntmps19
  go_wp2
  go_loopw [5] (StepRel n ((w.alloc (.cells #[.slice A n c, .int .i64 x.preempts, .int .i64 x.shifts] 48)).alloc (.cells #[.slice A' n c', .int .i64 x.preempts, .int .i64 x.shifts] 48)) (w.heap.size + 2)) (fun i _ => n - (intOf i).toNat)
  case atStart => exact ⟨0, by omega, rfl, Below.refl _ _⟩
  case round =>
    obtain ⟨k, hk, rfl, hbr⟩ := hrel
    have kwr := b00.trans (hbr.mono (by omega))
    have hzr := kwr.size
    obtain ⟨⟨b0, b1, b2⟩, b3, b4, b5⟩ := box2_cells hbr
    have hzr2 : w.heap.size + 2 ≤ wr.heap.size := by have := hbr.size; simpa using this
    have hwl : w.heap.size < wr.heap.size := by omega
    have hwl1 : w.heap.size + 1 < wr.heap.size := by omega
    by_cases hlt : k < n
    · have hkl : k < x.wants.length := by have := HQ.out; omega
      obtain ⟨b, o, rfl, hb, he⟩ := HR.out.at hkl
      obtain ⟨b', o', rfl, hb', he'⟩ := HR'.out.at hkl
      generalize x.wants[k] = y at *
      have e0 : wr.cell? ⟨b, o + k * 6, none⟩ = some (.int .i64 y.pod) := (kwr.cell (p := ⟨b, o + k * 6, none⟩) hb).trans (he 0 _ rfl)
      have g0 : wr.cell? ⟨b', o' + k * 6, none⟩ = some (.int .i64 y.pod) := (kwr.cell (p := ⟨b', o' + k * 6, none⟩) hb').trans (he' 0 _ rfl)
      have e1 : wr.cell? ⟨b, o + k * 6 + 1, none⟩ = some (.int .u64 y.req.a) := (kwr.cell (p := ⟨b, o + k * 6 + 1, none⟩) hb).trans (he 1 _ rfl)
      have g1 : wr.cell? ⟨b', o' + k * 6 + 1, none⟩ = some (.int .u64 y.req.a) := (kwr.cell (p := ⟨b', o' + k * 6 + 1, none⟩) hb').trans (he' 1 _ rfl)
      have e2 : wr.cell? ⟨b, o + k * 6 + 2, none⟩ = some (.int .u64 y.req.b) := (kwr.cell (p := ⟨b, o + k * 6 + 2, none⟩) hb).trans (he 2 _ rfl)
      have g2 : wr.cell? ⟨b', o' + k * 6 + 2, none⟩ = some (.int .u64 y.req.b) := (kwr.cell (p := ⟨b', o' + k * 6 + 2, none⟩) hb').trans (he' 2 _ rfl)
      have e3 : wr.cell? ⟨b, o + k * 6 + 3, none⟩ = some (.int .u64 y.req.c) := (kwr.cell (p := ⟨b, o + k * 6 + 3, none⟩) hb).trans (he 3 _ rfl)
      have g3 : wr.cell? ⟨b', o' + k * 6 + 3, none⟩ = some (.int .u64 y.req.c) := (kwr.cell (p := ⟨b', o' + k * 6 + 3, none⟩) hb').trans (he' 3 _ rfl)
      have e4 : wr.cell? ⟨b, o + k * 6 + 4, none⟩ = some (.int .u64 y.req.d) := (kwr.cell (p := ⟨b, o + k * 6 + 4, none⟩) hb).trans (he 4 _ rfl)
      have g4 : wr.cell? ⟨b', o' + k * 6 + 4, none⟩ = some (.int .u64 y.req.d) := (kwr.cell (p := ⟨b', o' + k * 6 + 4, none⟩) hb').trans (he' 4 _ rfl)
      have e5 : wr.cell? ⟨b, o + k * 6 + 5, none⟩ = some (.bool y.stay) := (kwr.cell (p := ⟨b, o + k * 6 + 5, none⟩) hb).trans (he 5 _ rfl)
      have g5 : wr.cell? ⟨b', o' + k * 6 + 5, none⟩ = some (.bool y.stay) := (kwr.cell (p := ⟨b', o' + k * 6 + 5, none⟩) hb').trans (he' 5 _ rfl)
      clear he he'
      have hns := fun v => want_self y v
      have hk0 : (0 : Int) ≤ (k : Int) := by omega
      have hk1 : (k : Int) < (n : Int) := by omega
      have hbw : b < wr.heap.size := by omega
      have hbw' : b' < wr.heap.size := by omega
      go_wp2
      go_quiet (fail)
      go_wp2
      go_roundw
      case rel => exact ⟨k + 1, by omega, by go_num, below_drewn hbr _⟩
      case measure => simp [intOf]; omega
    · go_wp2
      go_ret
      exact ⟨rfl, kwr⟩
end Go.Proofs.YtgfleifpblcnfaaGreatDoor

/- dunnageref03.Same of a snapshot and itself. -/
namespace Go.Proofs.YtgfleifpblcnfaaGreatDoor
set_option linter.unusedSimpArgs false
open Go.RowKit
set_option linter.unusedVariables false

set_option maxHeartbeats 6400000 in
set_option maxRecDepth 100000 in
theorem same_any (s : SnapD) (A1 A2 A3 B1 B2 B3 : Option Addr) (n1 c1 n2 c2 n3 c3 d1 d2 d3 : Nat) (w : World) (hn1 : n1 = s.nodes.length) (hn2 : n2 = s.loads.length) (hn3 : n3 = s.pods.length) (hl1 : n1 ≤ 1000) (hl2 : n2 ≤ 1000) (hl3 : n3 ≤ 1000)
    (hr1 : Recs 10 cellsN w w.heap.size A1 s.nodes) (hr2 : Recs 5 cellsL w w.heap.size A2 s.loads) (hr3 : Recs 8 cellsP w w.heap.size A3 s.pods) (ht1 : Recs 10 cellsN w w.heap.size B1 s.nodes) (ht2 : Recs 5 cellsL w w.heap.size B2 s.loads) (ht3 : Recs 8 cellsP w w.heap.size B3 s.pods) :
    Calls Tryz.prog 14 #[snapV A1 A2 A3 n1 c1 n2 c2 n3 c3, snapV B1 B2 B3 n1 d1 n2 d2 n3 d3] w fun e w' => e = .returned (.bool true) ∧ Below w.heap.size w w' := by
  have HR1 := Lib.hid hr1
  have HR2 := Lib.hid hr2
  have HR3 := Lib.hid hr3
  have HT1 := Lib.hid ht1
  have HT2 := Lib.hid ht2
  have HT3 := Lib.hid ht3
  have b00 : Below w.heap.size w ((w.alloc (.cells #[.slice A1 n1 c1, .slice A2 n2 c2, .slice A3 n3 c3] 26)).alloc (.cells #[.slice B1 n1 d1, .slice B2 n2 d2, .slice B3 n3 d3] 26)) := below_two _ _ _
  have HQ1 := Lib.hid hn1
  have HQ2 := Lib.hid hn2
  have HQ3 := Lib.hid hn3
  clear hr1 hr2 hr3 ht1 ht2 ht3 hn1 hn2 hn3
  go_enter Tryz.func14, Tryz.ntmps14
  go_wp2
  go_loopw [5] (StepRel n1 ((w.alloc (.cells #[.slice A1 n1 c1, .slice A2 n2 c2, .slice A3 n3 c3] 26)).alloc (.cells #[.slice B1 n1 d1, .slice B2 n2 d2, .slice B3 n3 d3] 26)) (w.heap.size + 2)) (fun i _ => n1 - (intOf i).toNat)
  case atStart => exact ⟨0, by omega, rfl, Below.refl _ _⟩
  case round =>
    obtain ⟨k, hk, rfl, hbr⟩ := hrel
    have kwr := b00.trans (hbr.mono (by omega))
    have hzr := kwr.size
    obtain ⟨⟨b0, b1, b2⟩, b3, b4, b5⟩ := box2_cells hbr
    have hzr2 : w.heap.size + 2 ≤ wr.heap.size := by have := hbr.size; simpa using this
    have hwl : w.heap.size < wr.heap.size := by omega
    have hwl1 : w.heap.size + 1 < wr.heap.size := by omega
    by_cases hlt : k < n1
    · have hkl : k < s.nodes.length := by have := HQ1.out; omega
      obtain ⟨b, o, rfl, hb, he⟩ := HR1.out.at hkl
      obtain ⟨b', o', rfl, hb', he'⟩ := HT1.out.at hkl
      generalize s.nodes[k] = x at *
      have e0 : wr.cell? ⟨b, o + k * 10, none⟩ = some (.int .i64 x.id) := (kwr.cell (p := ⟨b, o + k * 10, none⟩) hb).trans (he 0 _ rfl)
      have g0 : wr.cell? ⟨b', o' + k * 10, none⟩ = some (.int .i64 x.id) := (kwr.cell (p := ⟨b', o' + k * 10, none⟩) hb').trans (he' 0 _ rfl)
      have e1 : wr.cell? ⟨b, o + k * 10 + 1, none⟩ = some (.int .i64 x.zone) := (kwr.cell (p := ⟨b, o + k * 10 + 1, none⟩) hb).trans (he 1 _ rfl)
      have g1 : wr.cell? ⟨b', o' + k * 10 + 1, none⟩ = some (.int .i64 x.zone) := (kwr.cell (p := ⟨b', o' + k * 10 + 1, none⟩) hb').trans (he' 1 _ rfl)
      have e2 : wr.cell? ⟨b, o + k * 10 + 2, none⟩ = some (.int .u64 x.cap.a) := (kwr.cell (p := ⟨b, o + k * 10 + 2, none⟩) hb).trans (he 2 _ rfl)
      have g2 : wr.cell? ⟨b', o' + k * 10 + 2, none⟩ = some (.int .u64 x.cap.a) := (kwr.cell (p := ⟨b', o' + k * 10 + 2, none⟩) hb').trans (he' 2 _ rfl)
      have e3 : wr.cell? ⟨b, o + k * 10 + 3, none⟩ = some (.int .u64 x.cap.b) := (kwr.cell (p := ⟨b, o + k * 10 + 3, none⟩) hb).trans (he 3 _ rfl)
      have g3 : wr.cell? ⟨b', o' + k * 10 + 3, none⟩ = some (.int .u64 x.cap.b) := (kwr.cell (p := ⟨b', o' + k * 10 + 3, none⟩) hb').trans (he' 3 _ rfl)
      have e4 : wr.cell? ⟨b, o + k * 10 + 4, none⟩ = some (.int .u64 x.cap.c) := (kwr.cell (p := ⟨b, o + k * 10 + 4, none⟩) hb).trans (he 4 _ rfl)
      have g4 : wr.cell? ⟨b', o' + k * 10 + 4, none⟩ = some (.int .u64 x.cap.c) := (kwr.cell (p := ⟨b', o' + k * 10 + 4, none⟩) hb').trans (he' 4 _ rfl)
      have e5 : wr.cell? ⟨b, o + k * 10 + 5, none⟩ = some (.int .u64 x.cap.d) := (kwr.cell (p := ⟨b, o + k * 10 + 5, none⟩) hb).trans (he 5 _ rfl)
      have g5 : wr.cell? ⟨b', o' + k * 10 + 5, none⟩ = some (.int .u64 x.cap.d) := (kwr.cell (p := ⟨b', o' + k * 10 + 5, none⟩) hb').trans (he' 5 _ rfl)
      have e6 : wr.cell? ⟨b, o + k * 10 + 6, none⟩ = some (.int .u64 x.held.a) := (kwr.cell (p := ⟨b, o + k * 10 + 6, none⟩) hb).trans (he 6 _ rfl)
      have g6 : wr.cell? ⟨b', o' + k * 10 + 6, none⟩ = some (.int .u64 x.held.a) := (kwr.cell (p := ⟨b', o' + k * 10 + 6, none⟩) hb').trans (he' 6 _ rfl)
      have e7 : wr.cell? ⟨b, o + k * 10 + 7, none⟩ = some (.int .u64 x.held.b) := (kwr.cell (p := ⟨b, o + k * 10 + 7, none⟩) hb).trans (he 7 _ rfl)
      have g7 : wr.cell? ⟨b', o' + k * 10 + 7, none⟩ = some (.int .u64 x.held.b) := (kwr.cell (p := ⟨b', o' + k * 10 + 7, none⟩) hb').trans (he' 7 _ rfl)
      have e8 : wr.cell? ⟨b, o + k * 10 + 8, none⟩ = some (.int .u64 x.held.c) := (kwr.cell (p := ⟨b, o + k * 10 + 8, none⟩) hb).trans (he 8 _ rfl)
      have g8 : wr.cell? ⟨b', o' + k * 10 + 8, none⟩ = some (.int .u64 x.held.c) := (kwr.cell (p := ⟨b', o' + k * 10 + 8, none⟩) hb').trans (he' 8 _ rfl)
      have e9 : wr.cell? ⟨b, o + k * 10 + 9, none⟩ = some (.int .u64 x.held.d) := (kwr.cell (p := ⟨b, o + k * 10 + 9, none⟩) hb).trans (he 9 _ rfl)
      have g9 : wr.cell? ⟨b', o' + k * 10 + 9, none⟩ = some (.int .u64 x.held.d) := (kwr.cell (p := ⟨b', o' + k * 10 + 9, none⟩) hb').trans (he' 9 _ rfl)
      clear he he'
      have hns := fun v => node_self x v
      have hk0 : (0 : Int) ≤ (k : Int) := by omega
      have hk1 : (k : Int) < (n1 : Int) := by omega
      have hbw : b < wr.heap.size := by omega
      have hbw' : b' < wr.heap.size := by omega
      go_wp2
      go_quiet (fail)
      go_wp2
      go_roundw
      case rel => exact ⟨k + 1, by omega, by go_num, below_drewn hbr _⟩
      case measure => simp [intOf]; omega
    · have HBR := Lib.hid hbr
      go_wp2
      go_loopw [6] (StepRel n2 ((w.alloc (.cells #[.slice A1 n1 c1, .slice A2 n2 c2, .slice A3 n3 c3] 26)).alloc (.cells #[.slice B1 n1 d1, .slice B2 n2 d2, .slice B3 n3 d3] 26)) (w.heap.size + 2)) (fun i _ => n2 - (intOf i).toNat)
      case atStart => exact ⟨0, by omega, rfl, HBR.out⟩
      case round =>
        clear kwr hzr b0 b1 b2 b3 b4 b5 hzr2 hwl hwl1 hlt hk hbr
        obtain ⟨k, hk, rfl, hbr⟩ := hrel
        have kwr := b00.trans (hbr.mono (by omega))
        have hzr := kwr.size
        obtain ⟨⟨b0, b1, b2⟩, b3, b4, b5⟩ := box2_cells hbr
        have hzr2 : w.heap.size + 2 ≤ wr.heap.size := by have := hbr.size; simpa using this
        have hwl : w.heap.size < wr.heap.size := by omega
        have hwl1 : w.heap.size + 1 < wr.heap.size := by omega
        by_cases hlt : k < n2
        · have hkl : k < s.loads.length := by have := HQ2.out; omega
          obtain ⟨b, o, rfl, hb, he⟩ := HR2.out.at hkl
          obtain ⟨b', o', rfl, hb', he'⟩ := HT2.out.at hkl
          generalize s.loads[k] = x at *
          have e0 : wr.cell? ⟨b, o + k * 5, none⟩ = some (.int .i64 x.id) := (kwr.cell (p := ⟨b, o + k * 5, none⟩) hb).trans (he 0 _ rfl)
          have g0 : wr.cell? ⟨b', o' + k * 5, none⟩ = some (.int .i64 x.id) := (kwr.cell (p := ⟨b', o' + k * 5, none⟩) hb').trans (he' 0 _ rfl)
          have e1 : wr.cell? ⟨b, o + k * 5 + 1, none⟩ = some (.bool x.apart) := (kwr.cell (p := ⟨b, o + k * 5 + 1, none⟩) hb).trans (he 1 _ rfl)
          have g1 : wr.cell? ⟨b', o' + k * 5 + 1, none⟩ = some (.bool x.apart) := (kwr.cell (p := ⟨b', o' + k * 5 + 1, none⟩) hb').trans (he' 1 _ rfl)
          have e2 : wr.cell? ⟨b, o + k * 5 + 2, none⟩ = some (.int .i64 x.skew) := (kwr.cell (p := ⟨b, o + k * 5 + 2, none⟩) hb).trans (he 2 _ rfl)
          have g2 : wr.cell? ⟨b', o' + k * 5 + 2, none⟩ = some (.int .i64 x.skew) := (kwr.cell (p := ⟨b', o' + k * 5 + 2, none⟩) hb').trans (he' 2 _ rfl)
          have e3 : wr.cell? ⟨b, o + k * 5 + 3, none⟩ = some (.int .i64 x.min) := (kwr.cell (p := ⟨b, o + k * 5 + 3, none⟩) hb).trans (he 3 _ rfl)
          have g3 : wr.cell? ⟨b', o' + k * 5 + 3, none⟩ = some (.int .i64 x.min) := (kwr.cell (p := ⟨b', o' + k * 5 + 3, none⟩) hb').trans (he' 3 _ rfl)
          have e4 : wr.cell? ⟨b, o + k * 5 + 4, none⟩ = some (.int .i64 x.max) := (kwr.cell (p := ⟨b, o + k * 5 + 4, none⟩) hb).trans (he 4 _ rfl)
          have g4 : wr.cell? ⟨b', o' + k * 5 + 4, none⟩ = some (.int .i64 x.max) := (kwr.cell (p := ⟨b', o' + k * 5 + 4, none⟩) hb').trans (he' 4 _ rfl)
          clear he he'
          have hns := fun v => load_self x v
          have hk0 : (0 : Int) ≤ (k : Int) := by omega
          have hk1 : (k : Int) < (n2 : Int) := by omega
          have hbw : b < wr.heap.size := by omega
          have hbw' : b' < wr.heap.size := by omega
          go_wp2
          go_quiet (fail)
          go_wp2
          go_roundw
          case rel => exact ⟨k + 1, by omega, by go_num, below_drewn hbr _⟩
          case measure => simp [intOf]; omega
        · have HBR := Lib.hid hbr
          go_wp2
          go_loopw [7] (StepRel n3 ((w.alloc (.cells #[.slice A1 n1 c1, .slice A2 n2 c2, .slice A3 n3 c3] 26)).alloc (.cells #[.slice B1 n1 d1, .slice B2 n2 d2, .slice B3 n3 d3] 26)) (w.heap.size + 2)) (fun i _ => n3 - (intOf i).toNat)
          case atStart => exact ⟨0, by omega, rfl, HBR.out⟩
          case round =>
            clear kwr hzr b0 b1 b2 b3 b4 b5 hzr2 hwl hwl1 hlt hk hbr
            obtain ⟨k, hk, rfl, hbr⟩ := hrel
            have kwr := b00.trans (hbr.mono (by omega))
            have hzr := kwr.size
            obtain ⟨⟨b0, b1, b2⟩, b3, b4, b5⟩ := box2_cells hbr
            have hzr2 : w.heap.size + 2 ≤ wr.heap.size := by have := hbr.size; simpa using this
            have hwl : w.heap.size < wr.heap.size := by omega
            have hwl1 : w.heap.size + 1 < wr.heap.size := by omega
            by_cases hlt : k < n3
            · have hkl : k < s.pods.length := by have := HQ3.out; omega
              obtain ⟨b, o, rfl, hb, he⟩ := HR3.out.at hkl
              obtain ⟨b', o', rfl, hb', he'⟩ := HT3.out.at hkl
              generalize s.pods[k] = x at *
              have e0 : wr.cell? ⟨b, o + k * 8, none⟩ = some (.int .i64 x.id) := (kwr.cell (p := ⟨b, o + k * 8, none⟩) hb).trans (he 0 _ rfl)
              have g0 : wr.cell? ⟨b', o' + k * 8, none⟩ = some (.int .i64 x.id) := (kwr.cell (p := ⟨b', o' + k * 8, none⟩) hb').trans (he' 0 _ rfl)
              have e1 : wr.cell? ⟨b, o + k * 8 + 1, none⟩ = some (.int .i64 x.load) := (kwr.cell (p := ⟨b, o + k * 8 + 1, none⟩) hb).trans (he 1 _ rfl)
              have g1 : wr.cell? ⟨b', o' + k * 8 + 1, none⟩ = some (.int .i64 x.load) := (kwr.cell (p := ⟨b', o' + k * 8 + 1, none⟩) hb').trans (he' 1 _ rfl)
              have e2 : wr.cell? ⟨b, o + k * 8 + 2, none⟩ = some (.int .i64 x.prio) := (kwr.cell (p := ⟨b, o + k * 8 + 2, none⟩) hb).trans (he 2 _ rfl)
              have g2 : wr.cell? ⟨b', o' + k * 8 + 2, none⟩ = some (.int .i64 x.prio) := (kwr.cell (p := ⟨b', o' + k * 8 + 2, none⟩) hb').trans (he' 2 _ rfl)
              have e3 : wr.cell? ⟨b, o + k * 8 + 3, none⟩ = some (.int .u64 x.req.a) := (kwr.cell (p := ⟨b, o + k * 8 + 3, none⟩) hb).trans (he 3 _ rfl)
              have g3 : wr.cell? ⟨b', o' + k * 8 + 3, none⟩ = some (.int .u64 x.req.a) := (kwr.cell (p := ⟨b', o' + k * 8 + 3, none⟩) hb').trans (he' 3 _ rfl)
              have e4 : wr.cell? ⟨b, o + k * 8 + 4, none⟩ = some (.int .u64 x.req.b) := (kwr.cell (p := ⟨b, o + k * 8 + 4, none⟩) hb).trans (he 4 _ rfl)
              have g4 : wr.cell? ⟨b', o' + k * 8 + 4, none⟩ = some (.int .u64 x.req.b) := (kwr.cell (p := ⟨b', o' + k * 8 + 4, none⟩) hb').trans (he' 4 _ rfl)
              have e5 : wr.cell? ⟨b, o + k * 8 + 5, none⟩ = some (.int .u64 x.req.c) := (kwr.cell (p := ⟨b, o + k * 8 + 5, none⟩) hb).trans (he 5 _ rfl)
              have g5 : wr.cell? ⟨b', o' + k * 8 + 5, none⟩ = some (.int .u64 x.req.c) := (kwr.cell (p := ⟨b', o' + k * 8 + 5, none⟩) hb').trans (he' 5 _ rfl)
              have e6 : wr.cell? ⟨b, o + k * 8 + 6, none⟩ = some (.int .u64 x.req.d) := (kwr.cell (p := ⟨b, o + k * 8 + 6, none⟩) hb).trans (he 6 _ rfl)
              have g6 : wr.cell? ⟨b', o' + k * 8 + 6, none⟩ = some (.int .u64 x.req.d) := (kwr.cell (p := ⟨b', o' + k * 8 + 6, none⟩) hb').trans (he' 6 _ rfl)
              have e7 : wr.cell? ⟨b, o + k * 8 + 7, none⟩ = some (.int .i64 x.node) := (kwr.cell (p := ⟨b, o + k * 8 + 7, none⟩) hb).trans (he 7 _ rfl)
              have g7 : wr.cell? ⟨b', o' + k * 8 + 7, none⟩ = some (.int .i64 x.node) := (kwr.cell (p := ⟨b', o' + k * 8 + 7, none⟩) hb').trans (he' 7 _ rfl)
              clear he he'
              have hns := fun v => pod_self x v
              have hk0 : (0 : Int) ≤ (k : Int) := by omega
              have hk1 : (k : Int) < (n3 : Int) := by omega
              have hbw : b < wr.heap.size := by omega
              have hbw' : b' < wr.heap.size := by omega
              go_wp2
              go_quiet (fail)
              go_wp2
              go_roundw
              case rel => exact ⟨k + 1, by omega, by go_num, below_drewn hbr _⟩
              case measure => simp [intOf]; omega
            · go_wp2
              go_ret
              exact ⟨rfl, kwr⟩
end Go.Proofs.YtgfleifpblcnfaaGreatDoor

namespace Go.Proofs.YtgfleifpblcnfaaGreatDoor
set_option linter.unusedSimpArgs false
open Go.RowKit
set_option linter.unusedVariables false

theorem Out.recs {α : Type} {size : Nat} {cells : α → List Value} {w : World} {xs : List α} {A : Option Addr} {c : Nat} (h : Out size cells w xs A c) : Recs size cells w w.heap.size A xs := h.2.2.2
theorem back_snap {s : SnapD} (h : (check s).1 = 0) : rdB noSnap rdSnap (snapNums s) [] = (s, 0, -1) := by rw [rdB, if_pos rfl, rd_back h]
theorem back_spec {x : SpecD} (h : specOk x = true) : rdB noSpec rdSpec (specNums x) [] = (x, 0, -1) := by rw [rdB, if_pos rfl, rd_spec_back h]
theorem back_moves {m : List MoveD} (h : movesOk m = true) : rdB [] rdMoves (moveNums m) [] = (m, 0, -1) := by rw [rdB, if_pos rfl, rd_move_back h]
/-- What a writer told is a row of bytes. -/
theorem WriteTo.row {l : List Int} {w w' : World} {e : Ending} {ok : Bool} (hok : ok = true) (h : WriteTo ok l w e w') : ∃ A c, e = .returned (.tuple #[.slice A (encs l).length c, .nilIface]) ∧ (encs l).length ≤ c ∧ c ≤ maxLen ∧ Row w' w'.heap.size A (u8s (encs l)) ∧ Below w.heap.size w w' := by
  obtain ⟨⟨_, v, rfl, ho⟩ | ⟨h0, _⟩, hb⟩ := h
  · obtain ⟨A, c, rfl, h1, h2, _, _⟩ := own_cap ho
    have hlen : (u8s (encs l)).length = (encs l).length := by simp
    have hr := (Row.of_own ho).1
    rw [hlen] at h1 ⊢
    exact ⟨A, c, rfl, h1, h2, hr, hb⟩
  · rw [hok] at h0; cases h0
theorem WriteTo.no {l : List Int} {w w' : World} {e : Ending} {ok : Bool} (hok : ok = false) (h : WriteTo ok l w e w') : e = .returned (.tuple #[.slice none 0 0, .iface 52 (.int .i64 1)]) ∧ Below w.heap.size w w' := by
  obtain ⟨⟨h0, _⟩ | ⟨_, rfl⟩, hb⟩ := h
  · rw [hok] at h0; cases h0
  · exact ⟨rfl, hb⟩
theorem moveNums_le {m : List MoveD} (h : movesOk m = true) : (encs (moveNums m)).length ≤ 100000 := by
  have h1 := encs_len_le (move_nums h)
  have h2 : (m.flatMap moveK.nums).length = m.length * 4 := flat_length moveK m
  have h3 : (moveNums m).length = 1 + m.length * 4 := by show (_ :: _).length = _; rw [List.length_cons, h2]; omega
  simp only [movesOk, Bool.and_eq_true, decide_eq_true_eq] at h
  omega
theorem specNums_le {x : SpecD} (h : specOk x = true) (hq : ∀ y ∈ x.wants, y.Ok) : (encs (specNums x)).length ≤ 100000 := by
  have h1 := encs_len_le (spec_nums h hq)
  have h2 : (x.wants.flatMap wantK.nums).length = x.wants.length * 6 := flat_length wantK _
  have h3 : (specNums x).length = 3 + x.wants.length * 6 := by unfold specNums; rw [List.length_append, h2]; rfl
  simp only [specOk, Bool.and_eq_true, decide_eq_true_eq] at h
  omega
theorem snapNums_le {s : SnapD} (h : (check s).1 = 0) (hok : s.Ok) : (encs (snapNums s)).length ≤ 100000 := by
  have h1 := encs_len_le (snap_okn h hok).2.2.2
  have h2 := snapNums_length s
  have h3 : ¬ (s.nodes.length = 0 ∨ 8 < s.nodes.length ∨ 8 < s.loads.length ∨ 12 < s.pods.length) := by simpa only [large, decide_eq_false_iff_not] using (check_ok.1 h).1
  omega
end Go.Proofs.YtgfleifpblcnfaaGreatDoor
