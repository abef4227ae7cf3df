/- The law CodecOnce: for every slice of bytes the call returns true, and the argument reads afterwards as it read before. There is no condition. -/
import Derived.Test.YtjpaeaedfgiomaaZ11

/- The law CodecOnce, walked. -/
namespace Go.Proofs.Ytjpaeaedfgiomaa
set_option linter.unusedSimpArgs false
open Go.RowKit
set_option linter.unusedVariables false

theorem rdSnap_sound {l : List Int} (h : Nums l) : (rdSnap l).1.Ok ∧ (rdSnap l).1.nodes.length ≤ 40 ∧ (rdSnap l).1.loads.length ≤ 40 ∧ (rdSnap l).1.pods.length ≤ 40 := by
  have hno : (noSnap : SnapD).Ok := ⟨fun _ h => by simp at h, fun _ h => by simp at h, fun _ h => by simp at h⟩
  by_cases h1 : l.length < 3
  · rw [show rdSnap l = (noSnap, 2, -1) by rw [rdSnap, if_pos h1]]; exact ⟨hno, by decide, by decide, by decide⟩
  by_cases h2 : 8 < l.getD 0 0 ∨ 8 < l.getD 1 0 ∨ 12 < l.getD 2 0
  · rw [show rdSnap l = (noSnap, 3, -1) by rw [rdSnap, if_neg h1, if_pos h2]]; exact ⟨hno, by decide, by decide, by decide⟩
  rw [rdSnap_m (nums_pos h) h1 h2]
  by_cases hw : wellF (mSnap l).2 = true
  · rw [if_pos hw]
    by_cases hc : (check (mSnap l).1).1 ≠ 0
    · rw [if_pos hc]; exact ⟨hno, Nat.zero_le _, Nat.zero_le _, Nat.zero_le _⟩
    · rw [if_neg hc]
      refine ⟨mSnap_fit h, ?_⟩
      have hm := (snap_machine (nums_pos h) h1 h2).2 hw
      show (mSnap l).1.nodes.length ≤ 40 ∧ (mSnap l).1.loads.length ≤ 40 ∧ (mSnap l).1.pods.length ≤ 40
      rw [hm]
      simp only [snapOf, parse_length]
      omega
  · rw [if_neg hw]; exact ⟨hno, by decide, by decide, by decide⟩
theorem rdSpec_sound {l : List Int} (h : Nums l) : (∀ y ∈ (rdSpec l).1.wants, y.Ok) ∧ (rdSpec l).1.wants.length ≤ 40 := by
  have hno : (∀ y ∈ (noSpec : SpecD).wants, y.Ok) := fun _ h => by simp at h
  by_cases h1 : l.length < 3
  · rw [show rdSpec l = (noSpec, 2, -1) by rw [rdSpec, if_pos h1]]; exact ⟨hno, by decide⟩
  by_cases h2 : 12 < l.getD 0 0
  · rw [show rdSpec l = (noSpec, 3, -1) by rw [rdSpec, if_neg h1, if_pos h2]]; exact ⟨hno, by decide⟩
  rw [rdSpec_m (nums_pos h) h1 h2]
  by_cases hw : wellF (mSpec l).2 = true
  · rw [if_pos hw]
    refine ⟨(mSpec_fit h).2.2, ?_⟩
    have hm := (spec_machine (nums_pos h) h1 h2).2 hw
    show (mSpec l).1.wants.length ≤ 40
    rw [hm]
    simp only [parse_length]
    omega
  · rw [if_neg hw]; exact ⟨hno, by decide⟩
theorem rdMoves_sound {l : List Int} (h : Nums l) : (rdMoves l).1.length ≤ 40 := by
  by_cases h1 : l.length < 1
  · rw [show rdMoves l = ([], 2, -1) by rw [rdMoves, if_pos h1]]; decide
  by_cases h2 : 40 < l.getD 0 0
  · rw [show rdMoves l = ([], 3, -1) by rw [rdMoves, if_neg h1, if_pos h2]]; decide
  rw [rdMoves_m (nums_pos h) h1 h2]
  by_cases hw : wellF (mMoves l).2 = true
  · rw [if_pos hw]
    have hm := (moves_machine (nums_pos h) h1 h2).2 hw
    show (mMoves l).1.length ≤ 40
    rw [hm, parse_length]
    omega
  · rw [if_neg hw]; decide
theorem rdB_cases {α : Type} (z : α) (rd : List Int → α × Int × Int) (ns rest : List Int) : (rdB z rd ns rest).1 = z ∨ ((rdB z rd ns rest).1 = (rd ns).1) := by
  unfold rdB; split
  · exact .inr rfl
  · exact .inl rfl
theorem errIs_nz {B : Nat} {w : World} {u : Value} {p : Int × Int} (h : ErrIs p B w u) : (p = (0, -1) ∧ u = .nilIface) ∨ (p.1 ≠ 0 ∧ ∃ t v, u = .iface t v) ∨ (∃ t v, u = .iface t v) := by
  rcases h with h | ⟨_, h1, _, h⟩ | ⟨k, g, h, h3, _⟩
  · exact .inl h
  · exact .inr (.inl ⟨by omega, _, _, h⟩)
  · exact .inr (.inr ⟨_, _, h3⟩)
/-- What one reader and its writer give: what was read is written as those bytes, or the reader told an error. -/
def Once (bs : List Int) (n : Nat) (w : World) (u vp vf : Value) : Prop :=
  (u = .nilIface ∧ vf = .nilIface ∧ ∃ A c, vp = .slice A n c ∧ Row w w.heap.size A (u8s bs)) ∨ ∃ t v, u = .iface t v
theorem Once.below {bs : List Int} {n : Nat} {w w' : World} {u vp vf : Value} (h : Once bs n w u vp vf) (hb : Below w.heap.size w w') : Once bs n w' u vp vf := by
  rcases h with ⟨h1, h2, A, c, h3, h4⟩ | h
  · exact .inl ⟨h1, h2, A, c, h3, (h4.below hb (Nat.le_refl _)).more hb.size⟩
  · exact .inr h
theorem once_nil {α : Type} {z : α} {rd : List Int → α × Int × Int} {ns rest : List Int} {B : Nat} {w : World} {u : Value} (h : ErrIs (rdB z rd ns rest).2 B w u) : (rest = [] ∧ rd ns = ((rd ns).1, 0, -1) ∧ u = .nilIface) ∨ ∃ t v, u = .iface t v := by
  rcases errIs_nz h with ⟨h1, h2⟩ | ⟨_, h⟩ | h
  · by_cases hr : rest = []
    · subst hr
      rw [rdB, if_pos rfl] at h1
      exact .inl ⟨rfl, Prod.ext rfl h1, h2⟩
    · rw [rdB, if_neg hr] at h1
      have := congrArg Prod.fst h1
      simp at this
  · exact .inr h
  · exact .inr h
theorem once_snap {ns rest : List Int} {n : Nat} (hns : Nums ns) (hn : n = (encs ns ++ rest).length) {B : Nat} {w v w' : World} {u vp vf : Value} (hu : ErrIs (rdB noSnap rdSnap ns rest).2 B w u) (hw : SnapWTo (rdB noSnap rdSnap ns rest).1 v (.returned (.tuple #[vp, vf])) w') : Once (encs ns ++ rest) n w' u vp vf := by
  rcases once_nil hu with ⟨rfl, h1, h2⟩ | h
  · rw [rdB, if_pos rfl] at hw
    obtain ⟨e1, e2⟩ := rd_once (nums_pos hns) h1
    rcases hw with ⟨_, hw⟩ | ⟨h0, _⟩
    · obtain ⟨A, c, h3, _, _, h4, _⟩ := hw.row rfl
      rw [e1] at h3 h4
      have h3 := Ending.returned.inj h3
      injection h3 with h3
      have a1 : vp = .slice A (encs ns).length c := by have := congrArg (fun x => x[0]?) h3; simpa using this
      have a2 : vf = .nilIface := by have := congrArg (fun x => x[1]?) h3; simpa using this
      rw [List.append_nil] at hn ⊢
      exact .inl ⟨h2, a2, A, c, by rw [hn]; exact a1, h4⟩
    · exact absurd e2 h0
  · exact .inr h
theorem once_write {α : Type} {z : α} {rd : List Int → α × Int × Int} {nums : α → List Int} {ok : α → Bool} (ho : ∀ {l : List Int}, (∀ x ∈ l, 0 ≤ x) → ∀ {x : α}, rd l = (x, 0, -1) → nums x = l ∧ ok x = true) {ns rest : List Int} {n : Nat} (hns : Nums ns) (hn : n = (encs ns ++ rest).length) {B : Nat} {w v w' : World} {u vp vf : Value}
    (hu : ErrIs (rdB z rd ns rest).2 B w u) (hw : WriteTo (ok (rdB z rd ns rest).1) (nums (rdB z rd ns rest).1) v (.returned (.tuple #[vp, vf])) w') : Once (encs ns ++ rest) n w' u vp vf := by
  rcases once_nil hu with ⟨rfl, h1, h2⟩ | h
  · rw [rdB, if_pos rfl] at hw
    obtain ⟨e1, e2⟩ := ho (nums_pos hns) h1
    obtain ⟨A, c, h3, _, _, h4, _⟩ := hw.row e2
    rw [e1] at h3 h4
    have h3 := Ending.returned.inj h3
    injection h3 with h3
    have a1 : vp = .slice A (encs ns).length c := by have := congrArg (fun x => x[0]?) h3; simpa using this
    have a2 : vf = .nilIface := by have := congrArg (fun x => x[1]?) h3; simpa using this
    rw [List.append_nil] at hn ⊢
    exact .inl ⟨h2, a2, A, c, by rw [hn]; exact a1, h4⟩
  · exact .inr h
theorem writeTo_pair {l : List Int} {w w' : World} {e : Ending} {ok : Bool} (h : WriteTo ok l w e w') : ∃ vp vf, e = .returned (.tuple #[vp, vf]) ∧ Below w.heap.size w w' := by
  obtain ⟨⟨_, v, rfl, _⟩ | ⟨_, rfl⟩, hb⟩ := h
  · exact ⟨_, _, rfl, hb⟩
  · exact ⟨_, _, rfl, hb⟩
theorem snapWTo_pair {s : SnapD} {w w' : World} {e : Ending} (h : SnapWTo s w e w') : ∃ vp vf, e = .returned (.tuple #[vp, vf]) ∧ Below w.heap.size w w' := by
  rcases h with ⟨_, h⟩ | ⟨_, u, rfl, _, hb⟩
  · exact writeTo_pair h
  · exact ⟨_, _, rfl, hb⟩

set_option maxHeartbeats 3200000 in
theorem codecOnce_long (A : Option Addr) (n c : Nat) (w : World) (hm : n ≤ maxLen) (hlong : 5000 < n) :
    Calls Try.prog 4 #[.slice A n c] w fun e w' => e = .returned (.bool true) ∧ Below w.heap.size w w' := by
  unfold maxLen at hm
  go_enter Try.func4, Try.ntmps4
  go_wp2_with fail
  refine (up4_any _).mono ?_
  rintro e w1 ⟨rfl, hb1⟩
  go_wp2
  go_ret
  exact ⟨rfl, hb1⟩

set_option maxHeartbeats 12800000 in
set_option maxRecDepth 100000 in
theorem codecOnce_in (ns rest : List Int) (A : Option Addr) (n c : Nat) (w : World) (hn : n = (encs ns ++ rest).length) (hl : n ≤ 5000) (hc : n ≤ c) (hc' : c ≤ maxLen) (hns : Nums ns) (hb : Octs rest) (hm : rest = [] ∨ (rest ≠ [] ∧ Miss rest)) (hr : Row w w.heap.size A (u8s (encs ns ++ rest))) :
    Calls Try.prog 4 #[.slice A n c] w fun e w' => e = .returned (.bool true) ∧ Below w.heap.size w w' := by
  have HRN := Lib.hid (fun (v : World) (k : Below w.heap.size w v) => readSnapshot_any ns rest A n c v hn (by omega) hc hc' hns hb hm ((hr.below k (Nat.le_refl _)).more k.size))
  have HRX := Lib.hid (fun (v : World) (k : Below w.heap.size w v) => readSpec_any ns rest A n c v hn (by omega) hc hc' hns hb hm ((hr.below k (Nat.le_refl _)).more k.size))
  have HRM := Lib.hid (fun (v : World) (k : Below w.heap.size w v) => readMoves_any ns rest A n c v hn (by omega) hc hc' hns hb hm ((hr.below k (Nat.le_refl _)).more k.size))
  have HN := Lib.hid hn
  have HNS := Lib.hid hns
  have HR := Lib.hid hr
  clear hn hc hc' hns hb hm hr
  go_enter Try.func4, Try.ntmps4
  go_wp2_with fail
  refine (up4_any _).mono ?_
  rintro e w1 ⟨rfl, hb1⟩
  have K1 := Lib.hid hb1
  clear hb1
  go_wp2_with fail
  refine (HRN.out w1 K1.out).mono ?_
  have hsn : (rdB noSnap rdSnap ns rest).1.Ok ∧ (rdB noSnap rdSnap ns rest).1.nodes.length ≤ 40 ∧ (rdB noSnap rdSnap ns rest).1.loads.length ≤ 40 ∧ (rdB noSnap rdSnap ns rest).1.pods.length ≤ 40 := by
    rcases rdB_cases noSnap rdSnap ns rest with h | h
    · rw [h]; exact ⟨⟨fun _ h => by simp at h, fun _ h => by simp at h, fun _ h => by simp at h⟩, by decide, by decide, by decide⟩
    · rw [h]; exact rdSnap_sound HNS.out
  have HSN := Lib.hid hsn
  rintro e w2 ⟨B1, B2, B3, d1, d2, d3, u1, rfl, o1, o2, o3, hu1, hb2⟩
  have K2 := Lib.hid (K1.out.trans (hb2.mono K1.out.size))
  generalize hR : rdB noSnap rdSnap ns rest = R1 at *
  have hal : Below w2.heap.size w2 (w2.alloc (.cells #[.slice B1 R1.1.nodes.length d1, .slice B2 R1.1.loads.length d2, .slice B3 R1.1.pods.length d3] 26)) := (Below.refl _ _).alloc (Nat.le_refl _) _
  have HSW := Lib.hid (snapshot_any R1.1 B1 B2 B3 R1.1.nodes.length d1 R1.1.loads.length d2 R1.1.pods.length d3 _ HSN.out.1 rfl rfl rfl HSN.out.2.1 HSN.out.2.2.1 HSN.out.2.2.2 o1.1 o2.1 o3.1 o1.2.1 o2.2.1 o3.2.1 ((o1.recs.below hal (Nat.le_refl _)).more hal.size) ((o2.recs.below hal (Nat.le_refl _)).more hal.size) ((o3.recs.below hal (Nat.le_refl _)).more hal.size))
  have K2a := Lib.hid (K2.out.trans (hal.mono K2.out.size))
  have HU1 := Lib.hid hu1
  have HR1 := Lib.hid hR
  clear o1 o2 o3 hu1 hb2 hal hR hsn
  generalize R1.1.nodes.length = m1 at *
  generalize R1.1.loads.length = m2 at *
  generalize R1.1.pods.length = m3 at *
  go_wp2_with fail
  refine HSW.out.mono ?_
  rintro e w3 hw3
  obtain ⟨vp1, vf1, rfl, hb3⟩ := snapWTo_pair hw3
  have K3 := Lib.hid (K2a.out.trans (hb3.mono K2a.out.size))
  have O1 := Lib.hid (once_snap HNS.out HN.out (by rw [HR1.out]; exact HU1.out) (by rw [HR1.out]; exact hw3))
  clear hw3 hb3 HSW HSN HU1 HR1 K2a K2 K1
  go_wp2_with fail
  refine (HRX.out w3 K3.out).mono ?_
  have hsx : (∀ y ∈ (rdB noSpec rdSpec ns rest).1.wants, y.Ok) ∧ (rdB noSpec rdSpec ns rest).1.wants.length ≤ 40 := by
    rcases rdB_cases noSpec rdSpec ns rest with h | h
    · rw [h]; exact ⟨fun _ h => by simp at h, by decide⟩
    · rw [h]; exact rdSpec_sound HNS.out
  have HSX := Lib.hid hsx
  rintro e w4 ⟨C1, e1, u2, rfl, o1, hu2, hb4⟩
  have K4 := Lib.hid (K3.out.trans (hb4.mono K3.out.size))
  have O1b := Lib.hid (O1.out.below hb4)
  generalize hR : rdB noSpec rdSpec ns rest = R2 at *
  have hal : Below w4.heap.size w4 (w4.alloc (.cells #[.slice C1 R2.1.wants.length e1, .int .i64 R2.1.preempts, .int .i64 R2.1.shifts] 29)) := (Below.refl _ _).alloc (Nat.le_refl _) _
  have HSW := Lib.hid (spec_any R2.1 C1 R2.1.wants.length e1 _ rfl (by have := HSX.out.2; omega) HSX.out.1 ((o1.recs.below hal (Nat.le_refl _)).more hal.size))
  have K4a := Lib.hid (K4.out.trans (hal.mono K4.out.size))
  have O1c := Lib.hid (O1b.out.below hal)
  have HU2 := Lib.hid hu2
  have HR2 := Lib.hid hR
  clear o1 hu2 hb4 hal hR hsx O1 O1b K3
  generalize R2.1.wants.length = m4 at *
  go_wp2_with fail
  refine HSW.out.mono ?_
  rintro e w5 hw5
  obtain ⟨vp2, vf2, rfl, hb5⟩ := writeTo_pair hw5
  have K5 := Lib.hid (K4a.out.trans (hb5.mono K4a.out.size))
  have O1d := Lib.hid (O1c.out.below hb5)
  have O2 := Lib.hid (once_write (z := noSpec) (rd := rdSpec) (nums := specNums) (ok := specOk) (fun hp _ h => rd_spec_once hp h) HNS.out HN.out (by rw [HR2.out]; exact HU2.out) (by rw [HR2.out]; exact hw5))
  clear hw5 hb5 HSW HSX HU2 HR2 K4a K4 O1c
  go_wp2_with fail
  refine (HRM.out w5 K5.out).mono ?_
  have HSM : Hid ((rdB [] rdMoves ns rest).1.length ≤ 40) := by
    show _ ≤ _
    rcases rdB_cases [] rdMoves ns rest with h | h
    · rw [h]; decide
    · rw [h]; exact rdMoves_sound HNS.out
  rintro e w6 ⟨D1, f1, u3, rfl, _, _, _, o1, hu3, hb6⟩
  have K6 := Lib.hid (K5.out.trans (hb6.mono K5.out.size))
  have O1e := Lib.hid (O1d.out.below hb6)
  have O2e := Lib.hid (O2.out.below hb6)
  generalize hR : rdB [] rdMoves ns rest = R3 at *
  have HSW := Lib.hid (moves_any R3.1 D1 R3.1.length f1 w6 rfl (by have := HSM.out; omega) o1)
  have HU3 := Lib.hid hu3
  have HR3 := Lib.hid hR
  clear o1 hu3 hb6 hR O1d O2 K5
  generalize R3.1.length = m5 at *
  go_wp2_with fail
  refine HSW.out.mono ?_
  rintro e w7 hw7
  obtain ⟨vp3, vf3, rfl, hb7⟩ := writeTo_pair hw7
  have K7 := Lib.hid (K6.out.trans (hb7.mono K6.out.size))
  have P1 := O1e.out.below hb7
  have P2 := O2e.out.below hb7
  have P3 := once_write (z := []) (rd := rdMoves) (nums := moveNums) (ok := movesOk) (fun hp _ h => rd_move_once hp h) HNS.out HN.out (by rw [HR3.out]; exact HU3.out) (by rw [HR3.out]; exact hw7)
  have hcb := conv_row (encs ns ++ rest) A n c _ w7 HN.out (HR.out.below K7.out (Nat.le_refl _))
  have hcv : ∀ (B : Option Addr) (d : Nat), Row w7 w7.heap.size B (u8s (encs ns ++ rest)) → (convert 33 9 (.slice B n d)).run Try.prog w7 = .ok (.string (strOfNums (encs ns ++ rest))) w7 := fun B d h => conv_row (encs ns ++ rest) B n d _ w7 HN.out h
  generalize strOfNums (encs ns ++ rest) = z at *
  have hse := str_eq z
  have hsn := str_neq z
  have HCV := Lib.hid hcv
  clear hcv hw7 hb7 HSW HSM HU3 HR3 O1e O2e K6
  rcases P1 with ⟨rfl, rfl, G1, g1, rfl, hq1⟩ | ⟨t1, v1, rfl⟩
  all_goals rcases P2 with ⟨rfl, rfl, G2, g2, rfl, hq2⟩ | ⟨t2, v2, rfl⟩
  all_goals rcases P3 with ⟨rfl, rfl, G3, g3, rfl, hq3⟩ | ⟨t3, v3, rfl⟩
  all_goals
    try have hc1 := HCV.out G1 g1 hq1
    try have hc2 := HCV.out G2 g2 hq2
    try have hc3 := HCV.out G3 g3 hq3
    try clear hq1
    try clear hq2
    try clear hq3
    go_wp2
    go_ret
    exact ⟨rfl, K7.out⟩
end Go.Proofs.Ytjpaeaedfgiomaa

namespace Go.Proofs.Ytjpaeaedfgiomaa
set_option linter.unusedSimpArgs false
open Go.ChangeShapes Go.WideShapes Go.ChangeAt Go.RowKit

theorem codecOnce_any (v : Value) (A : Option Addr) (c : Nat) (l : List Int) (w : World) (hv : v = .slice A l.length c) (hl : l.length ≤ c) (hc : c ≤ maxLen) (hr : Row w w.heap.size A (u8s l)) (hw : ∀ x ∈ l, (Lit.int .u8 x).wf = true) :
    Calls Try.prog 4 #[v] w fun e w' => e = .returned (.bool true) ∧ Below w.heap.size w w' := by
  subst hv
  have ho : Octs l := fun x hx => fits_u8 (hw x hx)
  by_cases hn : l.length ≤ 5000
  · obtain ⟨ns, rest, rfl, h1, h2⟩ := all_parts l.length l (Nat.le_refl _) ho
    exact codecOnce_in ns rest A _ c w rfl hn hl hc h1 (fun x hx => ho x (by simp [hx])) h2 hr
  · exact codecOnce_long A l.length c w (by omega) (by omega)

set_option maxHeartbeats 400000 in
set_option maxRecDepth 100000 in
theorem codecOnce_lifted (os : Os) (started : os.Started) (H : Type) (enc : TypeId × Value → H) :
    ReturnsInHanded {} Try.checked os 4 .any (Rows.codecOnceSpec.pre6 enc Try.prog Try.f4 Rows.codecOnceRow.domain false) (Rows.codecOnceSpec.post enc Try.prog Try.f4 false true false false) := by
  refine returnsInHanded_of_change (C := Try.checked) Try.own started (by kernel_rfl) Try.func4
    (ChangeSpec.witness6 (enc := enc) (C := Try.checked) false ⟨#[], #[.slice none 0 0], []⟩ 8 (by kernel_rfl) (by kernel_rfl) (by kernel_rfl) (by kernel_rfl)) ?_
  intro W base args ds gs before hval0 hW _ _
  have hval : ∀ (j : Nat) t v, Try.f4.params[j]? = some t → args[j]? = some v → Value.okWide Try.prog W .any base t v := hval0
  have hW' := hW
  have hlt : ∀ x ∈ before, x.block < W.heap.size := fun x hx => hW.lt x hx
  obtain ⟨p, q, hA0, hV, rfl, _, _⟩ := hW
  have hA : DataW.TrodAll enc Try.prog W 0 (fun _ => true) true Try.f4.params.toList args.toList ds p := hA0
  rw [Try.params4] at hA hval
  obtain ⟨v0, d0, rfl, rfl, h0⟩ := trodAll_one hA
  obtain ⟨rfl, rfl⟩ := trodVars_none hV
  have hv0 := hval 0 33 v0 rfl rfl
  clear hA0 hval0
  simp only [List.append_nil] at hW' hlt
  obtain ⟨A0, c0, l0, e0, m0, n0, o0, r0, f0⟩ := open_row Try.underlying33 Try.underlying5 Try.cellsU8 hv0 h0
  refine (codecOnce_any v0 A0 c0 l0 W e0 m0 n0 r0 f0).mono fun e W' ⟨he, hb⟩ => ?_
  subst he
  exact ⟨_, rfl, _, _, _, [], p, [], hW', trodAll_mk1 (shut_bool Try.underlying4 true), trodAll_mk1 (hb.trod Try.laidOut (by kernel_rfl) (of_decide_eq_true (by kernel_rfl)) h0 hlt), rfl, hb.frame _, fun h => by cases h⟩

theorem codecOnce_holds : Rows.CodecOnceSaid :=
  OpenClaim.holds_of_wide 4 Try.f4 rfl rfl rfl rfl rfl rfl rfl ⟨rfl, rfl, rfl, rfl, rfl⟩ rfl rfl rfl rfl rfl (by kernel_rfl) Try.func4 (by kernel_rfl)
    (of_decide_eq_true (by kernel_rfl)) (by unfold Func.isWrapper; first | (rw [if_pos (by decide +kernel)]; kernel_rfl) | (rw [if_neg (by decide +kernel)]; exact ⟨rfl, rfl⟩))
    (fun os started H enc _ => codecOnce_lifted os started H enc)
end Go.Proofs.Ytjpaeaedfgiomaa
