/- Joined texts, part 11: OE PA PB XA QA QB. -/
import Derived.Test.YtabebhaclkhhpaaGreatDoorZ10
import Derived.Test.YtabebhaclkhhpaaGreatDoorZ09
import Derived.Test.YtabebhaclkhhpaaGreatDoorZ06
import Derived.Test.YtabebhaclkhhpaaGreatDoorZ02
import Derived.Test.YtabebhaclkhhpaaGreatDoorZ07
import Derived.Test.YtabebhaclkhhpaaGreatDoorZ08
import Derived.Test.YtabebhaclkhhpaaGreatDoorZ05
import Derived.Deep.CutRange

/- The program's Why, Is and All. -/
namespace Go.Proofs.YtabebhaclkhhpaaGreatDoor
set_option linter.unusedSimpArgs false
open Go.RowKit
set_option linter.unusedVariables false

/-- What is handed in lies in memory, and isn't too much. -/
structure SafeArgs (ns : List NodeD) (ls : List LoadD) (l : List PodD) (A1 A2 A4 : Option Addr) (n1 n2 n4 c4 : Nat) (w : World) : Prop where
  g : Laid w
  no : ∀ x ∈ ns, x.Ok
  lo : ∀ p ∈ l, p.Ok
  e1 : n1 = ns.length
  l1 : n1 ≤ 400
  r1 : Recs 10 cellsN w w.heap.size A1 ns
  e2 : n2 = ls.length
  l2 : n2 ≤ 400
  r2 : Recs 5 cellsL w w.heap.size A2 ls
  e4 : n4 = l.length
  l4 : n4 ≤ 400
  k4 : n4 ≤ c4
  r4 : Recs 8 cellsP w w.heap.size A4 l
theorem SafeArgs.at {ns : List NodeD} {ls : List LoadD} {l : List PodD} {A1 A2 A4 : Option Addr} {n1 n2 n4 c4 : Nat} {w V : World} (h : SafeArgs ns ls l A1 A2 A4 n1 n2 n4 c4 w) (hV : Below w.heap.size w V) : SafeArgs ns ls l A1 A2 A4 n1 n2 n4 c4 V :=
  ⟨Laid.below h.g hV (Nat.le_refl _), h.no, h.lo, h.e1, h.l1, (h.r1.below hV (Nat.le_refl _)).more hV.size, h.e2, h.l2, (h.r2.below hV (Nat.le_refl _)).more hV.size, h.e4, h.l4, h.k4, (h.r4.below hV (Nat.le_refl _)).more hV.size⟩

theorem budgetUsedP (A4 A5 : Option Addr) (n4 c4 n5 c5 : Nat) (x1 x2 t1 t2 : Int) (w : World) :
    Calls Tryz.prog 83 #[.agg #[.slice A5 n5 c5, .int .i64 x1, .int .i64 x2], .agg #[.slice A4 n4 c4, .int .i64 t1, .int .i64 t2]] w (ErrTo (usedP x1 x2 t1 t2) w) := by
  refine (budgetUsed_any A4 A5 n4 c4 n5 c5 x1 x2 t1 t2 w).mono ?_
  rintro e w' ⟨rfl, hb⟩
  refine ⟨_, rfl, ?_, hb⟩
  cases hu : usedD x1 x2 t1 t2 with
  | true => exact .inr (.inl ⟨by simp [usedP, hu], by simp [usedP, hu], by simp [usedP, hu], by simp [usedV, usedP, hu]⟩)
  | false => exact .inl ⟨by simp [usedP, hu], by simp [usedV]⟩

theorem safeFaults_any (ns : List NodeD) (ls : List LoadD) (l : List PodD) (x1 x2 t1 t2 : Int) (A1 A2 A3 A4 A5 : Option Addr) (n1 c1 n2 c2 n3 c3 n4 c4 n5 c5 : Nat) (most : Nat) (hm : 1 ≤ most) (w : World) (h : SafeArgs ns ls l A1 A2 A4 n1 n2 n4 c4 w) :
    Calls Tryz.prog 51 #[.agg #[.slice A1 n1 c1, .slice A2 n2 c2, .slice A3 n3 c3], .agg #[.slice A5 n5 c5, .int .i64 x1, .int .i64 x2], .agg #[.slice A4 n4 c4, .int .i64 t1, .int .i64 t2], .int .i64 (most : Int)] w (FaultsTo (fiveP ns ls l x1 x2 t1 t2) most w) :=
  safeFaults_walk _ _ _ _ _ most hm _ _ _ _ _ _ _ _ _ w
    (fun V hV => have k := h.at hV; roomCheck_any ns l k.no k.lo A1 A4 n1 c1 n4 c4 _ _ _ _ V k.g k.e1 k.l1 k.r1 k.e4 k.l4 k.r4)
    (fun V hV => have k := h.at hV; apartCheck_any ls l A2 A4 n2 c2 n4 c4 _ _ _ _ V k.e2 k.l2 k.r2 k.e4 k.l4 k.k4 k.r4)
    (fun V hV => have k := h.at hV; spreadCheck_any ns ls l A1 A2 A4 n1 c1 n2 c2 n4 c4 _ _ _ V k.e1 k.l1 k.r1 k.e2 k.l2 k.r2 k.e4 k.l4 k.r4)
    (fun V hV => have k := h.at hV; budgetCheck_any ls l A1 A2 A4 n1 c1 n2 c2 n4 c4 _ _ _ V k.e2 k.l2 k.r2 k.e4 k.l4 k.r4)
    (fun V hV => budgetUsedP A4 A5 n4 c4 n5 c5 x1 x2 t1 t2 V)

/-- The first error, or none. -/
def whyP (ps : List (Int × Int)) : Int × Int := (badK ps 1 5).headD (0, -1)
theorem errs_nil {ps : List (Int × Int)} {B : Nat} {w : World} {us : List Value} (h : ErrsIs (badK ps 1 5) B w us) (h0 : us.length = 0) : whyP ps = (0, -1) := by
  have e : badK ps 1 5 = [] := List.eq_nil_of_length_eq_zero (by rw [← h.1]; exact h0)
  rw [whyP, e]; rfl
theorem errs_one {ps : List (Int × Int)} {B : Nat} {w : World} {us : List Value} (h : ErrsIs (badK ps 1 5) B w us) (h0 : 0 < us.length) : ErrIs (whyP ps) B w us[0] := by
  cases e : badK ps 1 5 with
  | nil => rw [e] at h; have := h.1; simp only [List.length_nil] at this; omega
  | cons p r =>
    rw [e] at h
    have e2 : whyP ps = p := by rw [whyP, e]; rfl
    rw [e2]
    exact h.2 0 p us[0] rfl (List.getElem?_eq_getElem h0)

set_option maxHeartbeats 3200000 in
set_option maxRecDepth 100000 in
theorem safeWhy_any (ns : List NodeD) (ls : List LoadD) (l : List PodD) (x1 x2 t1 t2 : Int) (A1 A2 A3 A4 A5 : Option Addr) (n1 c1 n2 c2 n3 c3 n4 c4 n5 c5 : Nat) (w : World) (h : SafeArgs ns ls l A1 A2 A4 n1 n2 n4 c4 w) :
    Calls Tryz.prog 27 #[.agg #[.slice A1 n1 c1, .slice A2 n2 c2, .slice A3 n3 c3], .agg #[.slice A5 n5 c5, .int .i64 x1, .int .i64 x2], .agg #[.slice A4 n4 c4, .int .i64 t1, .int .i64 t2]] w (ErrTo (whyP (fiveP ns ls l x1 x2 t1 t2)) w) := by
  have T0 := T3.new w [.slice A1 n1 c1, .slice A2 n2 c2, .slice A3 n3 c3] [.slice A5 n5 c5, .int .i64 x1, .int .i64 x2] [.slice A4 n4 c4, .int .i64 t1, .int .i64 t2] 26 29 31
  have HF := Lib.hid (safeFaults_any ns ls l x1 x2 t1 t2 A1 A2 A3 A4 A5 n1 c1 n2 c2 n3 c3 n4 c4 n5 c5 1 (Nat.le_refl _) _ (h.at T0.below))
  have HT0 := Lib.hid T0
  generalize fiveP ns ls l x1 x2 t1 t2 = ps at *
  clear h T0
  go_enter Tryz.func27, Tryz.ntmps27
  go_wp2_with fail
  refine HF.out.mono ?_
  rintro e w1 ⟨v, us, rfl, hus, hown, hb⟩
  obtain ⟨A, c, rfl, hc⟩ := own_slice hown
  have HT1 := Lib.hid (HT0.out.keep hb)
  have HK := Lib.hid HT1.out.below
  have HUS := Lib.hid hus
  have HB : Hid (w.heap.size ≤ (((w.alloc (.cells #[.slice A1 n1 c1, .slice A2 n2 c2, .slice A3 n3 c3] 26)).alloc (.cells #[.slice A5 n5 c5, .int .i64 x1, .int .i64 x2] 29)).alloc (.cells #[.slice A4 n4 c4, .int .i64 t1, .int .i64 t2] 31)).heap.size) := HT0.out.below.size
  by_cases h0 : us.length = 0
  · have HE := Lib.hid (errs_nil HUS.out h0)
    have hd : ((us.length : Int) == 0) = true := by simp [h0]
    clear hus hown hb hc h0
    go_wp2
    go_ret
    exact ⟨_, rfl, .inl ⟨HE.out, rfl⟩, HK.out⟩
  · obtain ⟨_, _, e1, _, _, _, hrec⟩ := recs_of_own (cells := fun x : Value => [x]) oneVal rfl (by rw [flat_ones]; exact hown)
    injection e1 with e1 _ e2
    subst e1 e2
    have hpos : 0 < us.length := by omega
    have HE := Lib.hid ((errs_one HUS.out hpos).base HB.out)
    obtain ⟨b, o, rfl, hbb, he⟩ := hrec.at hpos
    have he0 := he 0 _ rfl
    generalize us[0] = u at *
    simp only [Nat.zero_mul, Nat.add_zero] at he0
    have hd : ((us.length : Int) == 0) = false := beq_eq_false_iff_ne.2 (by omega)
    have hgt : ¬ ((us.length : Int) ≤ 0) := by omega
    have hlt : (0 : Int) < (us.length : Int) := by omega
    clear hus hown hb hc h0 he hrec
    go_wp2
    go_ret
    exact ⟨_, rfl, HE.out, HK.out⟩

set_option maxHeartbeats 3200000 in
set_option maxRecDepth 100000 in
theorem safeIs_any (ns : List NodeD) (ls : List LoadD) (l : List PodD) (x1 x2 t1 t2 : Int) (A1 A2 A3 A4 A5 : Option Addr) (n1 c1 n2 c2 n3 c3 n4 c4 n5 c5 : Nat) (w : World) (h : SafeArgs ns ls l A1 A2 A4 n1 n2 n4 c4 w) :
    Calls Tryz.prog 11 #[.agg #[.slice A1 n1 c1, .slice A2 n2 c2, .slice A3 n3 c3], .agg #[.slice A5 n5 c5, .int .i64 x1, .int .i64 x2], .agg #[.slice A4 n4 c4, .int .i64 t1, .int .i64 t2]] w fun e w' => e = .returned (.bool (okP (whyP (fiveP ns ls l x1 x2 t1 t2)))) ∧ Below w.heap.size w w' := by
  have T0 := T3.new w [.slice A1 n1 c1, .slice A2 n2 c2, .slice A3 n3 c3] [.slice A5 n5 c5, .int .i64 x1, .int .i64 x2] [.slice A4 n4 c4, .int .i64 t1, .int .i64 t2] 26 29 31
  have HF := Lib.hid (safeWhy_any ns ls l x1 x2 t1 t2 A1 A2 A3 A4 A5 n1 c1 n2 c2 n3 c3 n4 c4 n5 c5 _ (h.at T0.below))
  have HT0 := Lib.hid T0
  generalize whyP (fiveP ns ls l x1 x2 t1 t2) = p at *
  clear h T0
  go_enter Tryz.func11, Tryz.ntmps11
  go_wp2_with fail
  refine HF.out.mono ?_
  rintro e w1 ⟨u, rfl, hu, hb⟩
  have HK := Lib.hid (HT0.out.keep hb).below
  cases hok : okP p with
  | true =>
    have hn := hu.nil hok
    have HOK := Lib.hid hok
    subst hn
    clear hu hb hok
    go_wp2
    go_ret
    exact ⟨ret_bool HOK.out.symm, HK.out⟩
  | false =>
    obtain ⟨t, v, rfl⟩ := errIs_iface hu hok
    have HOK := Lib.hid hok
    clear hu hb hok
    go_wp2
    go_ret
    exact ⟨ret_bool HOK.out.symm, HK.out⟩

end Go.Proofs.YtabebhaclkhhpaaGreatDoor

/- Plain mathematics of who may go for whom. -/
namespace Go.Proofs.YtabebhaclkhhpaaGreatDoor
set_option linter.unusedSimpArgs false
open Go.RowKit
set_option linter.unusedVariables false

/-- May the first one go for the second one? -/
def goV (o p : PodD) : Bool := decide (o.prio < p.prio)
def hasP (id : Int) (l : List PodD) : Bool := decide (0 ≤ place PodD.id id l 0)
def mayD (pod over : Int) (l : List PodD) : Bool := (hasP pod l && hasP over l) && goV (podZ over l) (podZ pod l)
theorem has_none {id : Int} {l : List PodD} (h : place PodD.id id l 0 < 0) : hasP id l = false := by simp [hasP]; exact h
theorem has_some {id : Int} {l : List PodD} {i : Nat} (h : place PodD.id id l 0 = i) : hasP id l = true := by simp [hasP, h]
/-- Is it at that node, and may go for this one? -/
def isV (node : Int) (p q : PodD) : Bool := q.node == node && goV q p
def vicD (node : Int) (p : PodD) (l : List PodD) : List PodD := l.filter (isV node p)
theorem vic_len (node : Int) (p : PodD) (l : List PodD) : (vicD node p l).length ≤ l.length := List.length_filter_le _ _
def ltV (a b : PodD) : Prop := a.prio < b.prio ∨ (a.prio = b.prio ∧ a.id < b.id)
instance (a b : PodD) : Decidable (ltV a b) := by unfold ltV; infer_instance
/-- The Ids of those that may go, in their order. -/
def VicIs (node pod : Int) (l : List PodD) (zs : List Int) : Prop :=
  ((hasP pod l = true ∧ node ≠ 0) ∧ ∃ vs : List PodD, vs.Perm (vicD node (podZ pod l) l) ∧ (vs.Pairwise fun x y => ¬ ltV y x) ∧ zs = vs.map PodD.id) ∨ ((hasP pod l = false ∨ node = 0) ∧ zs = [])
theorem VicIs.len {node pod : Int} {l : List PodD} {zs : List Int} (h : VicIs node pod l zs) : zs.length ≤ l.length := by
  rcases h with ⟨_, vs, h1, _, rfl⟩ | ⟨_, rfl⟩
  · rw [List.length_map, h1.length_eq]; exact vic_len _ _ _
  · exact Nat.zero_le _

/-- Ids that rise. -/
def RisesP (l : List PodD) : Prop := l.Pairwise fun x y => x.id < y.id
theorem rises_take {l : List PodD} {k : Nat} (h : RisesP (l.take k)) (hk : k < l.length) (h0 : ∀ hj : k - 1 < l.length, k ≠ 0 → l[k - 1].id < l[k].id) : RisesP (l.take (k + 1)) := by
  unfold RisesP at *
  rw [List.take_succ_eq_append_getElem hk, List.pairwise_append]
  refine ⟨h, by simp, fun x hx y hy => ?_⟩
  simp at hy; subst hy
  obtain ⟨i, hi, rfl⟩ := List.getElem_of_mem hx
  rw [List.getElem_take]
  have hi' : i < k := by simp at hi; omega
  have h1 := h0 (by omega) (by omega)
  rcases Nat.lt_or_ge i (k - 1) with hlt | hge
  · have := List.pairwise_iff_getElem.1 h i (k - 1) hi (by simp; omega) hlt
    simp only [List.getElem_take] at this
    omega
  · obtain rfl : i = k - 1 := by omega
    exact h1
theorem risesP_place {l : List PodD} (h : RisesP l) {i : Nat} (hi : i < l.length) : place PodD.id l[i].id l 0 = i := by
  have := place_at (f := PodD.id) (id := l[i].id) (l := l) (k := 0) hi rfl (fun j hj => by
    have := List.pairwise_iff_getElem.1 h j i (by omega) hi hj
    omega)
  omega
end Go.Proofs.YtabebhaclkhhpaaGreatDoor

/- The program's mayGo, May and Check of layer 10. -/
namespace Go.Proofs.YtabebhaclkhhpaaGreatDoor
set_option linter.unusedSimpArgs false
open Go.RowKit
set_option linter.unusedVariables false

section
variable {V : World}
theorem Bf.cells8p {b : Nat} {x : PodD} (h : Bf V b (cellsP x)) : (V.cell? ⟨b, 0, none⟩ = some (.int .i64 x.id) ∧ V.cell? ⟨b, 1, none⟩ = some (.int .i64 x.load) ∧ V.cell? ⟨b, 2, none⟩ = some (.int .i64 x.prio) ∧ V.cell? ⟨b, 3, none⟩ = some (.int .u64 x.req.a)) ∧
    V.cell? ⟨b, 4, none⟩ = some (.int .u64 x.req.b) ∧ V.cell? ⟨b, 5, none⟩ = some (.int .u64 x.req.c) ∧ V.cell? ⟨b, 6, none⟩ = some (.int .u64 x.req.d) ∧ V.cell? ⟨b, 7, none⟩ = some (.int .i64 x.node) ∧ b < V.heap.size :=
  ⟨⟨h.cell 0 _ rfl, h.cell 1 _ rfl, h.cell 2 _ rfl, h.cell 3 _ rfl⟩, h.cell 4 _ rfl, h.cell 5 _ rfl, h.cell 6 _ rfl, h.cell 7 _ rfl, h.lt⟩
end
theorem mayGo_any (x y : PodD) (w : World) : Calls Tryz.prog 69 #[aggP x, aggP y] w fun e w' => e = .returned (.bool (goV x y)) ∧ Below w.heap.size w w' := by
  by_cases h : x.prio < y.prio
  · have HE := Lib.hid (show goV x y = true from decide_eq_true h)
    have hd : decide (x.prio < y.prio) = true := decide_eq_true h
    clear h
    go_enter Tryz.func69, Tryz.ntmps69
    go_wp2
    go_ret
    exact ⟨ret_bool HE.out.symm, below_two _ _ _⟩
  · have HE := Lib.hid (show goV x y = false from decide_eq_false h)
    have hd : decide (x.prio < y.prio) = false := decide_eq_false h
    clear h
    go_enter Tryz.func69, Tryz.ntmps69
    go_wp2
    go_ret
    exact ⟨ret_bool HE.out.symm, below_two _ _ _⟩
/-- state.Pod, as one answer. -/
theorem podOf_any (l : List PodD) (id : Int) (A : Option Addr) (n c : Nat) (v1 v2 : Value) (w : World) (hn : n = l.length) (hl : n ≤ 1000) (hr : Recs 8 cellsP w w.heap.size A l) :
    Calls Tryz.prog 65 #[.agg #[.slice A n c, v1, v2], .int .i64 id] w fun e w' => e = .returned (.tuple #[aggP (podZ id l), .bool (hasP id l)]) ∧ Below w.heap.size w w' :=
  (statePod_any l id A n c v1 v2 w hn hl hr).mono fun e w' ⟨h, hb⟩ => by
    rcases h with ⟨hp, rfl⟩ | ⟨i, hi, hp, rfl⟩
    · rw [podZ_none hp, has_none hp]; exact ⟨rfl, hb⟩
    · rw [podZ_some hi hp, has_some hp]; exact ⟨rfl, hb⟩

set_option maxHeartbeats 3200000 in
set_option maxRecDepth 100000 in
theorem priorMay_any (l : List PodD) (a b : Int) (A : Option Addr) (n c : Nat) (v1 v2 : Value) (w : World) (hn : n = l.length) (hl : n ≤ 1000) (hr : Recs 8 cellsP w w.heap.size A l) :
    Calls Tryz.prog 49 #[.agg #[.slice A n c, v1, v2], .int .i64 a, .int .i64 b] w fun e w' => e = .returned (.bool (mayD a b l)) ∧ Below w.heap.size w w' := by
  have B0 : Bf (w.alloc (.cells #[.slice A n c, v1, v2] 31)) w.heap.size [.slice A n c, v1, v2] := Bf.new w [.slice A n c, v1, v2] 31 rfl
  have k0 : Below w.heap.size w (w.alloc (.cells #[.slice A n c, v1, v2] 31)) := (Below.refl _ _).alloc (Nat.le_refl _) _
  have HC := Lib.hid (fun (id : Int) (V : World) (hV : Below w.heap.size w V) => podOf_any l id A n c v1 v2 V hn hl ((hr.below hV (Nat.le_refl _)).more hV.size))
  have HC1 := Lib.hid (HC.out a _ k0)
  have HC2 := Lib.hid (fun V hV => HC.out b V hV)
  have HE := Lib.hid (show mayD a b l = ((hasP a l && hasP b l) && goV (podZ b l) (podZ a l)) from rfl)
  clear hn hr HC
  generalize mayD a b l = r at *
  generalize podZ a l = x at *
  generalize podZ b l = y at *
  generalize hasP a l = s at *
  generalize hasP b l = t at *
  go_enter Tryz.func49, Tryz.ntmps49
  go_wp2_with fail
  refine HC1.out.mono ?_
  rintro e w1 ⟨rfl, hb1⟩
  have k1 := k0.trans (hb1.mono k0.size)
  have B1 := B0.below hb1 B0.lt
  obtain ⟨a0, a1, a2, a3⟩ := B1.cells3
  have X1 : Bf (w1.alloc (.cells #[.int .i64 x.id, .int .i64 x.load, .int .i64 x.prio, .int .u64 x.req.a, .int .u64 x.req.b, .int .u64 x.req.c, .int .u64 x.req.d, .int .i64 x.node] 41)) w1.heap.size (cellsP x) := Bf.new w1 (cellsP x) 41 rfl
  have k1a : Below w.heap.size w (w1.alloc (.cells #[.int .i64 x.id, .int .i64 x.load, .int .i64 x.prio, .int .u64 x.req.a, .int .u64 x.req.b, .int .u64 x.req.c, .int .u64 x.req.d, .int .i64 x.node] 41)) := k1.alloc k1.size _
  have HC3 := Lib.hid (HC2.out _ k1a)
  clear hb1 B0 k0
  go_wp2_with fail
  refine HC3.out.mono ?_
  rintro e w2 ⟨rfl, hb2⟩
  have k2 := k1a.trans (hb2.mono k1a.size)
  obtain ⟨⟨x0, x1, x2, x3⟩, x4, x5, x6, x7, x8⟩ := (X1.below hb2 X1.lt).cells8p
  have hne : w1.heap.size ≠ w2.heap.size := by omega
  clear hb2 a0 a1 a2 a3 B1 X1
  have k3 : Below w.heap.size w (w2.alloc (.cells #[.int .i64 y.id, .int .i64 y.load, .int .i64 y.prio, .int .u64 y.req.a, .int .u64 y.req.b, .int .u64 y.req.c, .int .u64 y.req.d, .int .i64 y.node] 41)) := k2.alloc k2.size _
  cases s with
  | false =>
    go_wp2
    go_ret
    exact ⟨ret_bool (by rw [HE.out]; rfl), k3⟩
  | true =>
    cases t with
    | false =>
      go_wp2
      go_ret
      exact ⟨ret_bool (by rw [HE.out]; rfl), k3⟩
    | true =>
      go_wp2_with fail
      refine (mayGo_any y x _).mono ?_
      rintro e w3 ⟨rfl, hb3⟩
      go_wp2
      go_ret
      exact ⟨ret_bool (by rw [HE.out]; rfl), k3.trans (hb3.mono k3.size)⟩

/-- What layer 10's Check tells of a move. -/
def prioV (b : Bool) : Value := if b = true then .iface 60 (.int .i64 14) else .nilIface
def prioD (t : List PodD) (m : MoveD) : Bool := m.kind == 4 && !mayD m.pod m.over t
set_option maxHeartbeats 3200000 in
set_option maxRecDepth 100000 in
theorem priorCheck_any (l : List PodD) (m : MoveD) (A : Option Addr) (n c : Nat) (v1 v2 : Value) (w : World) (hn : n = l.length) (hl : n ≤ 1000) (hr : Recs 8 cellsP w w.heap.size A l) :
    Calls Tryz.prog 25 #[.agg #[.slice A n c, v1, v2], .agg #[.int .i64 m.kind, .int .i64 m.pod, .int .i64 m.node, .int .i64 m.over]] w fun e w' => e = .returned (prioV (prioD l m)) ∧ Below w.heap.size w w' := by
  have k0 := below_two w (.cells #[.slice A n c, v1, v2] 31) (.cells #[.int .i64 m.kind, .int .i64 m.pod, .int .i64 m.node, .int .i64 m.over] 49)
  have HC := Lib.hid (priorMay_any l m.pod m.over A n c v1 v2 _ hn hl ((hr.below k0 (Nat.le_refl _)).more k0.size))
  have HD : Hid (prioD l m = (m.kind == 4 && !mayD m.pod m.over l)) := rfl
  clear hn hr
  generalize mayD m.pod m.over l = r at *
  generalize prioD l m = z at *
  by_cases hk : m.kind = 4
  · have hkd : (m.kind == 4) = true := by simp [hk]
    have HE := Lib.hid (show z = !r by rw [HD.out, hkd]; rfl)
    clear hk
    go_enter Tryz.func25, Tryz.ntmps25
    go_wp2_with fail
    refine HC.out.mono ?_
    rintro e w1 ⟨rfl, hb1⟩
    have k1 := k0.trans (hb1.mono k0.size)
    clear hb1
    cases r with
    | false =>
      go_wp2
      go_ret
      exact ⟨by rw [HE.out]; rfl, k1⟩
    | true =>
      go_wp2
      go_ret
      exact ⟨by rw [HE.out]; rfl, k1⟩
  · have hkd : (m.kind == 4) = false := by simp [hk]
    have HE := Lib.hid (show z = false by rw [HD.out, hkd]; rfl)
    clear hk
    go_enter Tryz.func25, Tryz.ntmps25
    go_wp2
    go_ret
    exact ⟨by rw [HE.out]; rfl, k0⟩
end Go.Proofs.YtabebhaclkhhpaaGreatDoor

/- One move that is done where the state behind it is safe, and moves, one behind the other: plain mathematics. -/
namespace Go.Proofs.YtabebhaclkhhpaaGreatDoor
set_option linter.unusedSimpArgs false
open Go.RowKit
set_option linter.unusedVariables false

/-! What an error's number can be. -/
def Told8 (p : Int × Int) : Prop := p = (0, -1) ∨ (8 ≤ p.1 ∧ p.1 ≤ 15)
theorem told8_room {ns : List NodeD} {l : List PodD} : ∀ (m : List NodeD) (k : Nat), (∀ n ∈ m, n ∈ ns) → Told8 (roomD ns l m k)
  | [], _, _ => .inl rfl
  | n :: r, k, h => by
    unfold roomD
    split
    · rename_i h2
      rcases rest_vals ns l n.id with e | ⟨_, e | e | e⟩
      · exact absurd e h2
      · exfalso
        have hn : n ∈ ns := h n (by simp)
        have : ∀ (q : List NodeD), n ∈ q → nodeAt n.id q ≠ none := by
          intro q
          induction q with
          | nil => intro h; simp at h
          | cons y q ih =>
            intro hm
            unfold nodeAt
            split
            · simp
            · rename_i hne
              refine ih ?_
              rcases List.mem_cons.1 hm with e | e
              · exact absurd (by rw [e]) hne
              · exact e
        have h0 := this ns hn
        cases hq : nodeAt n.id ns with
        | none => exact h0 hq
        | some n' =>
          rcases h5 : useD l n.id with _ | u
          · rw [rest_over hq h5] at e; exact absurd e (by decide)
          · rcases h6 : leftD n' u with _ | z
            · rw [rest_room hq h5 h6] at e; exact absurd e (by decide)
            · rw [rest_some hq h5 h6] at e; simp at e
      · right; dsimp only; omega
      · right; dsimp only; omega
    · exact told8_room r (k + 1) (fun n hn => h n (by simp [hn]))
theorem told8_spread {ns : List NodeD} {l : List PodD} : ∀ (m : List LoadD) (k : Nat), Told8 (spreadFrom ns l m k)
  | [], _ => .inl rfl
  | x :: r, k => by
    unfold spreadFrom
    split
    · right; dsimp only; omega
    · exact told8_spread r (k + 1)
theorem told8_budget {l : List PodD} : ∀ (m : List LoadD) (k : Nat), Told8 (budgetFrom l m k)
  | [], _ => .inl rfl
  | x :: r, k => by
    unfold budgetFrom
    split
    · exact told8_budget r (k + 1)
    · rename_i h
      right
      unfold fault9 at h ⊢
      dsimp only
      split
      · omega
      · split
        · omega
        · rename_i h1 h2; simp [h1, h2] at h
theorem told8_five {ns : List NodeD} {ls : List LoadD} {l : List PodD} {x1 x2 t1 t2 : Int} {p : Int × Int} (h : p ∈ fiveP ns ls l x1 x2 t1 t2) : Told8 p := by
  simp only [fiveP, List.mem_cons, List.not_mem_nil, or_false] at h
  rcases h with rfl | rfl | rfl | rfl | rfl
  · exact told8_room ns 0 (fun _ h => h)
  · rcases apartFrom_pair (ls := ls) (l := l) l 0 with ⟨_, e⟩ | ⟨j, e⟩
    · exact .inl e
    · right
      rw [apartOf, e]
      dsimp only
      omega
  · exact told8_spread ls 0
  · exact told8_budget ls 0
  · unfold usedP
    split
    · right; dsimp only; omega
    · exact .inl rfl
theorem told8_why (ns : List NodeD) (ls : List LoadD) (l : List PodD) (x1 x2 t1 t2 : Int) : Told8 (whyP (fiveP ns ls l x1 x2 t1 t2)) := by
  unfold whyP
  cases e : badK (fiveP ns ls l x1 x2 t1 t2) 1 5 with
  | nil => exact .inl rfl
  | cons p r =>
    have hp : p ∈ badK (fiveP ns ls l x1 x2 t1 t2) 1 5 := by rw [e]; simp
    unfold badK at hp
    exact told8_five (List.mem_of_mem_take (List.mem_filter.1 (List.mem_of_mem_take hp)).1)
theorem told8_ok {p : Int × Int} (h : Told8 p) : okP p = (p.1 == 0) := by
  rcases h with rfl | ⟨h1, h2⟩
  · rfl
  · have : (p.1 == 0) = false := by simp; omega
    rw [this, okP, this]; rfl

/-! One move. -/
/-- The Code of why a state isn't safe; 0: it is. -/
def codeS (ns : List NodeD) (ls : List LoadD) (x : SpecD) (t : StateD) : Int := (whyP (fiveP ns ls t.pods x.preempts x.shifts t.preempts t.shifts)).1
def doD (ns : List NodeD) (ls : List LoadD) (x : SpecD) (t : StateD) (m : MoveD) : StateD × Int :=
  if (makeD ns x.wants t m).2 ≠ 0 then (noState, (makeD ns x.wants t m).2)
  else if prioD t.pods m = true then (noState, 14)
  else if codeS ns ls x (makeD ns x.wants t m).1 ≠ 0 then (noState, codeS ns ls x (makeD ns x.wants t m).1)
  else ((makeD ns x.wants t m).1, 0)
theorem do_made {ns : List NodeD} {ls : List LoadD} {x : SpecD} {t : StateD} {m : MoveD} (h : (doD ns ls x t m).2 = 0) : (makeD ns x.wants t m).2 = 0 ∧ (doD ns ls x t m).1 = (makeD ns x.wants t m).1 ∧ codeS ns ls x (doD ns ls x t m).1 = 0 := by
  by_cases h1 : (makeD ns x.wants t m).2 = 0
  · by_cases h2 : prioD t.pods m = true
    · rw [doD, if_neg (by simp [h1]), if_pos h2] at h; cases h
    · by_cases h3 : codeS ns ls x (makeD ns x.wants t m).1 = 0
      · have e : doD ns ls x t m = ((makeD ns x.wants t m).1, 0) := by rw [doD, if_neg (by simp [h1]), if_neg h2, if_neg (by simp [h3])]
        rw [e]
        exact ⟨h1, rfl, h3⟩
      · rw [doD, if_neg (by simp [h1]), if_neg h2, if_pos h3] at h; exact absurd h h3
  · rw [doD, if_pos h1] at h; exact absurd h h1
theorem do_no1 {ns : List NodeD} {ls : List LoadD} {x : SpecD} {t : StateD} {m : MoveD} (h : (makeD ns x.wants t m).2 ≠ 0) : doD ns ls x t m = (noState, (makeD ns x.wants t m).2) := by rw [doD, if_pos h]
theorem do_no2 {ns : List NodeD} {ls : List LoadD} {x : SpecD} {t : StateD} {m : MoveD} (h : (makeD ns x.wants t m).2 = 0) (h2 : prioD t.pods m = true) : doD ns ls x t m = (noState, 14) := by rw [doD, if_neg (by simp [h]), if_pos h2]
theorem do_no3 {ns : List NodeD} {ls : List LoadD} {x : SpecD} {t : StateD} {m : MoveD} (h : (makeD ns x.wants t m).2 = 0) (h2 : prioD t.pods m = false) (h3 : codeS ns ls x (makeD ns x.wants t m).1 ≠ 0) : doD ns ls x t m = (noState, codeS ns ls x (makeD ns x.wants t m).1) := by rw [doD, if_neg (by simp [h]), if_neg (by simp [h2]), if_pos h3]
theorem do_yes {ns : List NodeD} {ls : List LoadD} {x : SpecD} {t : StateD} {m : MoveD} (h : (makeD ns x.wants t m).2 = 0) (h2 : prioD t.pods m = false) (h3 : codeS ns ls x (makeD ns x.wants t m).1 = 0) : doD ns ls x t m = ((makeD ns x.wants t m).1, 0) := by rw [doD, if_neg (by simp [h]), if_neg (by simp [h2]), if_neg (by simp [h3])]

/-! What a move leaves as it should be. -/
theorem podZ_ok {id : Int} {l : List PodD} (h : ∀ p ∈ l, p.Ok) : (podZ id l).Ok := by
  by_cases hp : place PodD.id id l 0 < 0
  · rw [podZ_none hp]
    exact ⟨⟨by decide, by decide⟩, ⟨by decide, by decide⟩, ⟨by decide, by decide⟩, ⟨⟨by decide, by decide⟩, ⟨by decide, by decide⟩, ⟨by decide, by decide⟩, ⟨by decide, by decide⟩⟩, ⟨by decide, by decide⟩⟩
  · obtain ⟨i, hi, e⟩ := place_hit hp
    rw [podZ_some hi e]
    exact h _ (List.getElem_mem hi)
theorem come_ok {x : List WantD} {node : Int} {p : PodD} (hx : ∀ y ∈ x, y.Ok) (hp : p.Ok) (hn : I64 node) : (comeD x node p).Ok := by
  by_cases h : place WantD.pod p.id x 0 < 0
  · rw [come_none h]
    exact ⟨hp.1, hp.2.1, hp.2.2.1, hp.2.2.2.1, hn⟩
  · obtain ⟨i, hi, e⟩ : ∃ (i : Nat) (hi : i < x.length), place WantD.pod p.id x 0 = i := by
      have := place_ge (f := WantD.pod) (id := p.id) (l := x) (k := 0) (by omega)
      exact ⟨(place WantD.pod p.id x 0).toNat, by omega, by omega⟩
    rw [come_some hi e]
    refine ⟨hp.1, hp.2.1, hp.2.2.1, ?_, hn⟩
    dsimp only
    split
    · exact (hx _ (List.getElem_mem hi)).2
    · exact hp.2.2.2.1
theorem go_ok {p : PodD} (hp : p.Ok) : (goD p).Ok := ⟨hp.1, hp.2.1, hp.2.2.1, hp.2.2.2.1, ⟨by unfold goD; dsimp only; omega, by unfold goD; dsimp only; omega⟩⟩
theorem set_ok {l : List PodD} {i : Nat} {p : PodD} (h : ∀ q ∈ l, q.Ok) (hp : p.Ok) : ∀ q ∈ l.set i p, q.Ok := by
  intro q hq
  rcases List.mem_or_eq_of_mem_set hq with e | e
  · exact h q e
  · rw [e]; exact hp
theorem place_eqA {α : Type} {f : α → Int} {id : Int} : ∀ {l : List α} {k : Int} {i : Nat} (hi : i < l.length), place f id l k = k + i → 0 ≤ k → f l[i] = id
  | [], _, _, hi, _, _ => by simp at hi
  | x :: r, k, i, hi, h, hk => by
    by_cases hx : f x = id
    · simp only [place, if_pos hx] at h
      obtain rfl : i = 0 := by omega
      exact hx
    · simp only [place, if_neg hx] at h
      cases i with
      | zero =>
        have h3 : place f id r (k + 1) < 0 ∨ k + 1 ≤ place f id r (k + 1) := place_or r (k + 1) (by omega)
        omega
      | succ i =>
        simp only [List.getElem_cons_succ]
        exact place_eqA (k := k + 1) (by simpa using hi) (by rw [h]; omega) (by omega)
theorem made_ok {ns : List NodeD} {x : List WantD} {t : StateD} {m : MoveD} (hn : ∀ n ∈ ns, n.Ok) (hx : ∀ y ∈ x, y.Ok) (hl : ∀ p ∈ t.pods, p.Ok) (h : (makeD ns x t m).2 = 0) : (∀ p ∈ (makeD ns x t m).1.pods, p.Ok) ∧ (makeD ns x t m).1.pods.length = t.pods.length := by
  refine ⟨?_, made_len9 h⟩
  by_cases h1 : wellD m = false
  · rw [makeD, if_pos h1] at h; cases h
  by_cases h2 : hereD ns t.pods m = false
  · rw [makeD, if_neg h1, if_pos h2] at h; cases h
  by_cases h3 : canD t.pods m = false
  · rw [makeD, if_neg h1, if_neg h2, if_pos h3] at h; cases h
  rw [makeD, if_neg h1, if_neg h2, if_neg h3]
  dsimp only
  unfold behindD
  by_cases k2 : m.kind = 2
  · rw [if_pos k2]
    exact set_ok hl (go_ok (podZ_ok hl))
  · have hnode : I64 m.node := by
      have h2' : hereD ns t.pods m = true := by simpa using h2
      unfold hereD at h2'
      have k2' : (m.kind == 2) = false := by simp [k2]
      simp only [k2', Bool.or_false, Bool.and_eq_true, Bool.not_eq_true', decide_eq_false_iff_not] at h2'
      obtain ⟨i, hi, e⟩ : ∃ (i : Nat) (hi : i < ns.length), place NodeD.id m.node ns 0 = i := by
        have h3 := h2'.2.1
        have := place_ge (f := NodeD.id) (id := m.node) (l := ns) (k := 0) (by omega)
        exact ⟨(place NodeD.id m.node ns 0).toNat, by omega, by omega⟩
      have e1 := place_eqA (f := NodeD.id) (id := m.node) (k := 0) hi (by rw [e]; omega) (by omega)
      rw [← e1]
      exact (hn _ (List.getElem_mem hi)).1
    have hc := come_ok (node := m.node) hx (podZ_ok (id := m.pod) hl) hnode
    rw [if_neg k2]
    split
    · exact set_ok hl hc
    · split
      · exact set_ok (set_ok hl (go_ok (podZ_ok hl))) hc
      · exact set_ok hl hc
theorem do_ok {ns : List NodeD} {ls : List LoadD} {x : SpecD} {t : StateD} {m : MoveD} (hn : ∀ n ∈ ns, n.Ok) (hx : ∀ y ∈ x.wants, y.Ok) (hl : ∀ p ∈ t.pods, p.Ok) (h : (doD ns ls x t m).2 = 0) : (∀ p ∈ (doD ns ls x t m).1.pods, p.Ok) ∧ (doD ns ls x t m).1.pods.length = t.pods.length := by
  obtain ⟨h1, h2, _⟩ := do_made h
  rw [h2]
  exact made_ok hn hx hl h1

/-! Moves, one behind the other. -/
/-! All of a walk. -/
end Go.Proofs.YtabebhaclkhhpaaGreatDoor

/- Plain mathematics of nodes that are used, of moves that empty them, and of what comes of doing the first one again and again. -/
namespace Go.Proofs.YtabebhaclkhhpaaGreatDoor
set_option linter.unusedSimpArgs false
open Go.RowKit
set_option linter.unusedVariables false

abbrev sortQ (zs : List Int) : List Int := zs.mergeSort fun x y => decide (x ≤ y)
/-- Is there a node of that Id (none is of Id 0)? -/
def isN (ns : List NodeD) (id : Int) : Bool := !decide (place NodeD.id id ns 0 < 0) && id != 0
def idsN (ns : List NodeD) (l : List PodD) : List Int := (l.filter fun p => isN ns p.node).map PodD.node
def usedN (ns : List NodeD) (l : List PodD) : List Int := Lib.compact (sortQ (idsN ns l))
def aloneN (l : List PodD) (id : Int) : Bool := l.countP (fun q => q.node == id) == 1
def moveN (p : PodD) (node : Int) : MoveD := ⟨3, p.id, node, 0⟩
/-- The proposals of one pod, each with the state behind it. -/
def tryN (ns : List NodeD) (ls : List LoadD) (x : SpecD) (t : StateD) (p : PodD) (node : Int) : List (MoveD × StateD) :=
  if (doD ns ls x t (moveN p node)).2 = 0 then [(moveN p node, (doD ns ls x t (moveN p node)).1)] else []
def podN (ns : List NodeD) (ls : List LoadD) (x : SpecD) (t : StateD) (us : List Int) (p : PodD) : List (MoveD × StateD) :=
  if (isN ns p.node && aloneN t.pods p.node) = true then us.flatMap (tryN ns ls x t p) else []
def props (ns : List NodeD) (ls : List LoadD) (x : SpecD) (t : StateD) : List (MoveD × StateD) := t.pods.flatMap (podN ns ls x t (usedN ns t.pods))
def firstT (ns : List NodeD) (ls : List LoadD) (x : SpecD) (t : StateD) : Option (MoveD × StateD) := (props ns ls x t).head?
def tidyD (ns : List NodeD) (ls : List LoadD) (x : SpecD) : Nat → StateD → StateD × List MoveD
  | 0, t => (t, [])
  | k + 1, t => match firstT ns ls x t with
    | none => (t, [])
    | some (m, u) => ((tidyD ns ls x k u).1, m :: (tidyD ns ls x k u).2)
theorem tidy_none {ns : List NodeD} {ls : List LoadD} {x : SpecD} {t : StateD} (h : firstT ns ls x t = none) : ∀ k, tidyD ns ls x k t = (t, [])
  | 0 => rfl
  | k + 1 => by rw [tidyD, h]
theorem tidy_some {ns : List NodeD} {ls : List LoadD} {x : SpecD} {t u : StateD} {m : MoveD} (h : firstT ns ls x t = some (m, u)) (k : Nat) : tidyD ns ls x (k + 1) t = ((tidyD ns ls x k u).1, m :: (tidyD ns ls x k u).2) := by rw [tidyD, h]
theorem tidy_len {ns : List NodeD} {ls : List LoadD} {x : SpecD} : ∀ (k : Nat) (t : StateD), (tidyD ns ls x k t).2.length ≤ k
  | 0, _ => by simp [tidyD]
  | k + 1, t => by
    cases h : firstT ns ls x t with
    | none => rw [tidy_none h]; simp
    | some q =>
      obtain ⟨m, u⟩ := q
      rw [tidy_some h]
      have := tidy_len (ns := ns) (ls := ls) (x := x) k u
      simp only [List.length_cons]
      omega

/-! What the first one is. -/
theorem pairwise_rising : ∀ {l : List Int}, Rising l ↔ l.Pairwise (· < ·)
  | [] => by simp [Rising]
  | x :: r => by rw [Rising, List.pairwise_cons, pairwise_rising (l := r)]
theorem sortQ_le (zs : List Int) : (sortQ zs).Pairwise (· ≤ ·) := by
  have h := List.pairwise_mergeSort (le := fun x y : Int => decide (x ≤ y)) (fun a b c h1 h2 => by simp only [decide_eq_true_eq] at *; omega) (fun a b => by simp only [Bool.or_eq_true, decide_eq_true_eq]; omega) zs
  exact h.imp fun h => by simpa using h
theorem used_rising (ns : List NodeD) (l : List PodD) : Rising (usedN ns l) := (compact_sorted _ (sortQ_le _)).1
theorem used_mem {ns : List NodeD} {l : List PodD} {y : Int} : y ∈ usedN ns l ↔ ∃ p ∈ l, p.node = y ∧ isN ns y = true := by
  rw [usedN, (compact_sorted _ (sortQ_le _)).2 y, List.mem_mergeSort, idsN, List.mem_map]
  constructor
  · rintro ⟨p, hp, rfl⟩
    obtain ⟨h1, h2⟩ := List.mem_filter.1 hp
    exact ⟨p, h1, rfl, h2⟩
  · rintro ⟨p, hp, rfl, h⟩
    exact ⟨p, List.mem_filter.2 ⟨hp, h⟩, rfl⟩
theorem ids_len (ns : List NodeD) (l : List PodD) : (idsN ns l).length ≤ l.length := by
  rw [idsN, List.length_map]
  exact List.length_filter_le _ _
theorem used_len (ns : List NodeD) (l : List PodD) : (usedN ns l).length ≤ l.length := by
  refine Nat.le_trans (Lib.compact_length_le _) ?_
  rw [show (sortQ (idsN ns l)).length = (idsN ns l).length from List.length_mergeSort _]
  exact ids_len ns l
theorem try_mem {ns : List NodeD} {ls : List LoadD} {x : SpecD} {t : StateD} {p : PodD} {node : Int} {q : MoveD × StateD} (h : q ∈ tryN ns ls x t p node) :
    q.1 = moveN p node ∧ doD ns ls x t (moveN p node) = (q.2, 0) := by
  unfold tryN at h
  split at h
  · rename_i h0
    have := List.mem_singleton.1 h
    subst this
    exact ⟨rfl, Prod.ext rfl h0⟩
  · simp at h
theorem props_mem {ns : List NodeD} {ls : List LoadD} {x : SpecD} {t : StateD} {q : MoveD × StateD} (h : q ∈ props ns ls x t) :
    ∃ p ∈ t.pods, ∃ node ∈ usedN ns t.pods, q.1 = moveN p node ∧ doD ns ls x t (moveN p node) = (q.2, 0) ∧ isN ns p.node = true ∧ aloneN t.pods p.node = true := by
  obtain ⟨p, hp, h⟩ := List.mem_flatMap.1 h
  unfold podN at h
  split at h
  · rename_i hc
    obtain ⟨node, hn, h⟩ := List.mem_flatMap.1 h
    obtain ⟨h1, h2⟩ := try_mem h
    exact ⟨p, hp, node, hn, h1, h2, by simpa using hc⟩
  · simp at h
theorem first_mem {ns : List NodeD} {ls : List LoadD} {x : SpecD} {t : StateD} {q : MoveD × StateD} (h : firstT ns ls x t = some q) : q ∈ props ns ls x t := List.mem_of_head? h

theorem alone_else {l : List PodD} {id : Int} {i : Nat} (hi : i < l.length) (he : l[i].node = id) (h : aloneN l id = true) {j : Nat} (hj : j < l.length) (hne : j ≠ i) : l[j].node ≠ id := by
  have h1 : l.countP (fun q => q.node == id) = 1 := by simpa [aloneN] using h
  have e : l = l.take i ++ l[i] :: l.drop (i + 1) := by rw [← List.drop_eq_getElem_cons hi, List.take_append_drop]
  have h2 : (l.take i ++ l[i] :: l.drop (i + 1)).countP (fun q => q.node == id) = 1 := by rw [← e]; exact h1
  rw [List.countP_append, List.countP_cons, if_pos (by simp [he])] at h2
  have ha : (l.take i).countP (fun q => q.node == id) = 0 := by omega
  have hb : (l.drop (i + 1)).countP (fun q => q.node == id) = 0 := by omega
  intro hc
  by_cases hlt : j < i
  · exact List.countP_eq_zero.1 ha l[j] (by rw [List.mem_take_iff_getElem]; exact ⟨j, by omega, rfl⟩) (by simp [hc])
  · refine List.countP_eq_zero.1 hb l[j] ?_ (by simp [hc])
    rw [List.mem_drop_iff_getElem]
    exact ⟨j - (i + 1), by omega, by congr 1; omega⟩
theorem used_less {ns : List NodeD} {l : List PodD} {i : Nat} (hi : i < l.length) {p' : PodD} (hN : isN ns l[i].node = true) (ha : aloneN l l[i].node = true) (hb : p'.node ∈ usedN ns l) (hne : l[i].node ≠ p'.node) :
    (usedN ns (l.set i p')).length + 1 = (usedN ns l).length := by
  have hr := pairwise_rising.1 (used_rising ns l)
  have hnd : (usedN ns l).Nodup := hr.imp fun h => by omega
  have hmem : l[i].node ∈ usedN ns l := used_mem.2 ⟨l[i], List.getElem_mem hi, rfl, hN⟩
  have e : usedN ns (l.set i p') = (usedN ns l).erase l[i].node := by
    refine rising_eq (used_rising _ _) (pairwise_rising.2 (hr.sublist List.erase_sublist)) fun y => ?_
    rw [hnd.mem_erase_iff, used_mem, used_mem]
    constructor
    · rintro ⟨q, hq, rfl, h⟩
      obtain ⟨j, hj, rfl⟩ := List.getElem_of_mem hq
      rw [List.length_set] at hj
      by_cases hji : i = j
      · subst hji
        rw [List.getElem_set_self] at h ⊢
        exact ⟨Ne.symm hne, (used_mem.1 hb)⟩
      · rw [List.getElem_set_ne hji] at h ⊢
        exact ⟨alone_else hi rfl ha hj (Ne.symm hji), l[j], List.getElem_mem hj, rfl, h⟩
    · rintro ⟨hya, q, hq, rfl, h⟩
      obtain ⟨j, hj, rfl⟩ := List.getElem_of_mem hq
      have hji : i ≠ j := fun e => hya (by subst e; rfl)
      refine ⟨l[j], ?_, rfl, h⟩
      have := List.getElem_mem (l := l.set i p') (n := j) (by simpa using hj)
      rwa [List.getElem_set_ne hji] at this
  rw [e, List.length_erase_of_mem hmem]
  have := List.length_pos_of_mem hmem
  omega
theorem rises_set {l : List PodD} (h : RisesP l) {i : Nat} (hi : i < l.length) {p : PodD} (hp : p.id = l[i].id) : RisesP (l.set i p) := by
  unfold RisesP at *
  rw [List.pairwise_iff_getElem] at h ⊢
  intro a b ha hb hab
  rw [List.length_set] at ha hb
  have key : ∀ k (hk : k < l.length), ((l.set i p)[k]'(by simpa using hk)).id = l[k].id := fun k hk => by
    by_cases e : i = k
    · subst e; rw [List.getElem_set_self]; exact hp
    · rw [List.getElem_set_ne e]
  rw [key a ha, key b hb]
  exact h a b ha hb hab
/-- The first proposal can be done, and one node less is used behind it. -/
theorem first_less {ns : List NodeD} {ls : List LoadD} {x : SpecD} {t u : StateD} {m : MoveD} (hr : RisesP t.pods) (h : firstT ns ls x t = some (m, u)) :
    doD ns ls x t m = (u, 0) ∧ (usedN ns u.pods).length + 1 = (usedN ns t.pods).length ∧ RisesP u.pods := by
  obtain ⟨p, hp, node, hn, e1, h2, hN, ha⟩ := props_mem (first_mem h)
  dsimp only at e1 h2
  subst e1
  obtain ⟨i, hi, rfl⟩ := List.getElem_of_mem hp
  have hpl := risesP_place hr hi
  have hz := podZ_some hi hpl
  obtain ⟨k1, k2, _⟩ := do_made (m := moveN t.pods[i] node) (by rw [h2])
  rw [h2] at k2
  dsimp only at k2
  have k3 : wellD (moveN t.pods[i] node) = true ∧ canD t.pods (moveN t.pods[i] node) = true ∧ (makeD ns x.wants t (moveN t.pods[i] node)).1 = behindD x.wants t (moveN t.pods[i] node) := by
    unfold makeD at k1 ⊢
    by_cases q1 : wellD (moveN t.pods[i] node) = false
    · rw [if_pos q1] at k1; cases k1
    by_cases q2 : hereD ns t.pods (moveN t.pods[i] node) = false
    · rw [if_neg q1, if_pos q2] at k1; cases k1
    by_cases q3 : canD t.pods (moveN t.pods[i] node) = false
    · rw [if_neg q1, if_neg q2, if_pos q3] at k1; cases k1
    rw [if_neg q1, if_neg q2, if_neg q3]
    exact ⟨by simpa using q1, by simpa using q3, rfl⟩
  obtain ⟨_, k4, k5⟩ := k3
  have hne : t.pods[i].node ≠ node := by
    have : ((podZ t.pods[i].id t.pods).node != 0 && (podZ t.pods[i].id t.pods).node != node) = true := by
      simpa [canD, moveN] using k4
    rw [hz] at this
    simp only [Bool.and_eq_true, bne_iff_ne] at this
    exact this.2
  have hu : u.pods = t.pods.set i (comeD x.wants node t.pods[i]) := by
    rw [k2, k5]
    show (behindD x.wants t ⟨3, t.pods[i].id, node, 0⟩).pods = _
    have hx : idxD t.pods[i].id t.pods = i := by rw [idxD, hpl]; rfl
    simp [behindD, hx, hz]
  refine ⟨h2, ?_, ?_⟩
  · rw [hu]
    exact used_less hi hN ha hn hne
  · rw [hu]
    exact rises_set hr hi rfl
theorem first_ok {ns : List NodeD} {ls : List LoadD} {x : SpecD} {t u : StateD} {m : MoveD} (hn : ∀ n ∈ ns, n.Ok) (hx : ∀ y ∈ x.wants, y.Ok) (hl : ∀ p ∈ t.pods, p.Ok) (h : firstT ns ls x t = some (m, u)) :
    (∀ p ∈ u.pods, p.Ok) ∧ u.pods.length = t.pods.length ∧ codeS ns ls x u = 0 := by
  obtain ⟨p, hp, node, _, e1, h2, _, _⟩ := props_mem (first_mem h)
  dsimp only at e1 h2
  have h0 : (doD ns ls x t (moveN p node)).2 = 0 := by rw [h2]
  obtain ⟨_, _, k⟩ := do_made h0
  have ho := do_ok hn hx hl h0
  rw [h2] at k ho
  exact ⟨ho.1, ho.2, k⟩
theorem tidy_ok {ns : List NodeD} {ls : List LoadD} {x : SpecD} (hn : ∀ n ∈ ns, n.Ok) (hx : ∀ y ∈ x.wants, y.Ok) : ∀ (k : Nat) (t : StateD), (∀ p ∈ t.pods, p.Ok) →
    (∀ p ∈ (tidyD ns ls x k t).1.pods, p.Ok) ∧ (tidyD ns ls x k t).1.pods.length = t.pods.length ∧ (codeS ns ls x t = 0 → codeS ns ls x (tidyD ns ls x k t).1 = 0)
  | 0, t, h => ⟨h, rfl, fun h => h⟩
  | k + 1, t, h => by
    cases hf : firstT ns ls x t with
    | none => rw [tidy_none hf]; exact ⟨h, rfl, fun h => h⟩
    | some q =>
      obtain ⟨m, u⟩ := q
      obtain ⟨h1, h2, h3⟩ := first_ok hn hx h hf
      obtain ⟨i1, i2, i3⟩ := tidy_ok hn hx k u h1
      rw [tidy_some hf]
      exact ⟨i1, i2.trans h2, fun _ => i3 h3⟩
/-- What is left of a way, move by move. -/
theorem tidy_step {ns : List NodeD} {ls : List LoadD} {x : SpecD} {k : Nat} {t z : StateD} {m : MoveD} {r : List MoveD} (h : tidyD ns ls x k t = (z, m :: r)) : ∃ j u, k = j + 1 ∧ firstT ns ls x t = some (m, u) ∧ tidyD ns ls x j u = (z, r) := by
  cases k with
  | zero => simp [tidyD] at h
  | succ j =>
    cases hf : firstT ns ls x t with
    | none => rw [tidy_none hf] at h; simp at h
    | some q =>
      obtain ⟨m', u⟩ := q
      rw [tidy_some hf] at h
      simp only [Prod.mk.injEq, List.cons.injEq] at h
      obtain ⟨h1, rfl, h2⟩ := h
      exact ⟨j, u, rfl, rfl, Prod.ext h1 h2⟩
theorem tidy_end {ns : List NodeD} {ls : List LoadD} {x : SpecD} {k : Nat} {t z : StateD} (h : tidyD ns ls x k t = (z, [])) : z = t := by
  cases k with
  | zero => simp [tidyD] at h; exact h.symm
  | succ j =>
    cases hf : firstT ns ls x t with
    | none => rw [tidy_none hf] at h; simp at h; exact h.symm
    | some q =>
      obtain ⟨m', u⟩ := q
      rw [tidy_some hf] at h
      simp at h
end Go.Proofs.YtabebhaclkhhpaaGreatDoor

namespace Go.Proofs.YtabebhaclkhhpaaGreatDoor
set_option linter.unusedSimpArgs false
open Go.RowKit
set_option linter.unusedVariables false

theorem T2.pushQ {a b : List Value} {w V V' : World} (h : T2 a b w V) (hb : Below (w.heap.size + 2) V V') : T2 a b w V' :=
  ⟨h.one.below hb (by omega), h.two.below hb (by omega), h.below.trans (hb.mono (by omega))⟩
abbrev cellQ (z : Int) : List Value := [.int .i64 z]
theorem flatQ : ∀ zs : List Int, zs.flatMap cellQ = i64s zs
  | [] => rfl
  | z :: r => by rw [List.flatMap_cons, flatQ r]; rfl
theorem recsQ {w : World} {B n : Nat} {v : Value} {zs : List Int} (hn : n = zs.length) (h : w.ownsRow B 3 1 v n (i64s zs)) : ∃ A c, v = .slice A n c ∧ n ≤ c ∧ c ≤ maxLen ∧ (A = none → c = 0) ∧ Recs 1 cellQ w w.heap.size A zs :=
  recs_of_own (cells := cellQ) (size := 1) (fun _ => rfl) hn (by rw [flatQ]; exact h)
theorem isN_none {ns : List NodeD} {id : Int} (h : place NodeD.id id ns 0 < 0) : isN ns id = false := by simp [isN, h]
theorem isN_some {ns : List NodeD} {id : Int} {i : Nat} (h : place NodeD.id id ns 0 = i) : isN ns id = (id != 0) := by
  have : ¬ (i : Int) < 0 := by omega
  simp [isN, h, this]

set_option maxHeartbeats 3200000 in
set_option maxRecDepth 100000 in
theorem isNode_any (ns : List NodeD) (id : Int) (A : Option Addr) (n c : Nat) (v2 v3 : Value) (w : World) (hn : n = ns.length) (hl : n ≤ 1000) (hr : Recs 10 cellsN w w.heap.size A ns) :
    Calls Tryz.prog 42 #[.agg #[.slice A n c, v2, v3], .int .i64 id] w fun e w' => e = .returned (.bool (isN ns id)) ∧ Below w.heap.size w w' := by
  have b0 : Below w.heap.size w (w.alloc (.cells #[.slice A n c, v2, v3] 26)) := (Below.refl _ _).alloc (Nat.le_refl _) _
  have HF := Lib.hid (node_any ns id A n c v2 v3 _ hn hl ((hr.below b0 (Nat.le_refl _)).more b0.size))
  clear hr hn
  go_enter Tryz.func42, Tryz.ntmps42
  go_wp2_with fail
  refine HF.out.mono ?_
  rintro e w1 ⟨hh, hb1⟩
  have k1 := b0.trans (hb1.mono b0.size)
  clear hb1 b0 HF
  rcases hh with ⟨hp, rfl⟩ | ⟨i, hi, hp, rfl⟩
  · have HE := Lib.hid (isN_none hp)
    have kw := k1.alloc k1.size (.cells (cellsN ⟨0, 0, ⟨0, 0, 0, 0⟩, ⟨0, 0, 0, 0⟩⟩).toArray 53)
    clear hp k1
    go_wp2
    go_ret
    exact ⟨ret_bool HE.out.symm, kw⟩
  · have HE := Lib.hid (isN_some hp)
    generalize ns[i] = x at *
    have kw := k1.alloc k1.size (.cells (cellsN x).toArray 53)
    clear hp k1
    by_cases h0 : id = 0
    · have hd : (id != 0) = false := by simp [h0]
      have HD := Lib.hid hd
      clear h0
      go_wp2
      go_ret
      exact ⟨ret_bool (HE.out.trans HD.out).symm, kw⟩
    · have hd : (id != 0) = true := by simp [h0]
      have HD := Lib.hid hd
      clear h0
      go_wp2
      go_ret
      exact ⟨ret_bool (HE.out.trans HD.out).symm, kw⟩

/-! Is no other pod where this one is? -/
def AlRel (l : List PodD) (id : Int) (a b : List Value) (w : World) (v i : Value) (wr : World) : Prop :=
  ∃ k : Nat, k ≤ l.length ∧ i = .int .i64 k ∧ v = .int .i64 ((l.take k).countP (fun q => q.node == id) : Nat) ∧ T2 a b w wr
theorem count_yesQ {l : List PodD} {id : Int} {k : Nat} (h : k < l.length) {p : PodD} (hx : l[k] = p) (hp : (p.node == id) = true) : (l.take (k + 1)).countP (fun q => q.node == id) = (l.take k).countP (fun q => q.node == id) + 1 := by
  rw [List.take_succ_eq_append_getElem h, hx, List.countP_append, List.countP_cons, if_pos hp]; simp
theorem count_noQ {l : List PodD} {id : Int} {k : Nat} (h : k < l.length) {p : PodD} (hx : l[k] = p) (hp : (p.node == id) = false) : (l.take (k + 1)).countP (fun q => q.node == id) = (l.take k).countP (fun q => q.node == id) := by
  rw [List.take_succ_eq_append_getElem h, hx, List.countP_append, List.countP_cons, if_neg (by simp [hp])]; simp
theorem count_leQ {l : List PodD} {id : Int} (k : Nat) : (l.take k).countP (fun q => q.node == id) ≤ k := Nat.le_trans List.countP_le_length (by rw [List.length_take]; omega)

set_option maxHeartbeats 6400000 in
set_option maxRecDepth 100000 in
theorem alone_any (l : List PodD) (p : PodD) (A : Option Addr) (n c : Nat) (v2 v3 : Value) (w : World) (hn : n = l.length) (hl : n ≤ 1000) (hr : Recs 8 cellsP w w.heap.size A l) :
    Calls Tryz.prog 53 #[.agg #[.slice A n c, v2, v3], aggP p] w fun e w' => e = .returned (.bool (aloneN l p.node)) ∧ Below w.heap.size w w' := by
  have HT0 := Lib.hid (T2.new w [.slice A n c, v2, v3] (cellsP p) 31 41)
  have HR := Lib.hid hr
  have HN := Lib.hid hn
  clear hr hn
  go_enter Tryz.func53, Tryz.ntmps53
  go_wp2
  go_loopw [5, 11] (AlRel l p.node [.slice A n c, v2, v3] (cellsP p) w) (fun _ i _ => n - (intOf i).toNat)
  case atStart => exact ⟨0, by omega, rfl, rfl, HT0.out⟩
  case round =>
    obtain ⟨k, hk, rfl, rfl, T1⟩ := hrel
    have hcl := count_leQ (l := l) (id := p.node) k
    by_cases hlt : k < n
    · have hkl : k < l.length := by have := HN.out; omega
      obtain ⟨b, o, rfl, hb, he⟩ := HR.out.at hkl
      generalize hx : l[k] = y at *
      have HX := Lib.hid hx
      clear hx
      have kwr := T1.below
      have e0 : wr.cell? ⟨b, o + k * 8, none⟩ = some (.int .i64 y.id) := (kwr.cell (p := ⟨b, o + k * 8, none⟩) hb).trans (he 0 _ rfl)
      have e1 : wr.cell? ⟨b, o + k * 8 + 1, none⟩ = some (.int .i64 y.load) := (kwr.cell (p := ⟨b, o + k * 8 + 1, none⟩) hb).trans (he 1 _ rfl)
      have e2 : wr.cell? ⟨b, o + k * 8 + 2, none⟩ = some (.int .i64 y.prio) := (kwr.cell (p := ⟨b, o + k * 8 + 2, none⟩) hb).trans (he 2 _ rfl)
      have e3 : wr.cell? ⟨b, o + k * 8 + 3, none⟩ = some (.int .u64 y.req.a) := (kwr.cell (p := ⟨b, o + k * 8 + 3, none⟩) hb).trans (he 3 _ rfl)
      have e4 : wr.cell? ⟨b, o + k * 8 + 4, none⟩ = some (.int .u64 y.req.b) := (kwr.cell (p := ⟨b, o + k * 8 + 4, none⟩) hb).trans (he 4 _ rfl)
      have e5 : wr.cell? ⟨b, o + k * 8 + 5, none⟩ = some (.int .u64 y.req.c) := (kwr.cell (p := ⟨b, o + k * 8 + 5, none⟩) hb).trans (he 5 _ rfl)
      have e6 : wr.cell? ⟨b, o + k * 8 + 6, none⟩ = some (.int .u64 y.req.d) := (kwr.cell (p := ⟨b, o + k * 8 + 6, none⟩) hb).trans (he 6 _ rfl)
      have e7 : wr.cell? ⟨b, o + k * 8 + 7, none⟩ = some (.int .i64 y.node) := (kwr.cell (p := ⟨b, o + k * 8 + 7, none⟩) hb).trans (he 7 _ rfl)
      have hz0 := kwr.size
      have hbw : b < wr.heap.size := by omega
      have HT2 := Lib.hid (T1.alloc (.cells #[.int .i64 y.id, .int .i64 y.load, .int .i64 y.prio, .int .u64 y.req.a, .int .u64 y.req.b, .int .u64 y.req.c, .int .u64 y.req.d, .int .i64 y.node] 41))
      have p7 := T1.two.cell 7 _ rfl
      have p8 := T1.two.lt
      have w1 : IntKind.i64.wrap (((l.take k).countP (fun q => q.node == p.node) : Nat) + 1 : Int) = (((l.take k).countP (fun q => q.node == p.node) : Nat) : Int) + 1 := IntWalk.i64_in _ (by omega)
      clear he hz0 kwr T1
      by_cases hq : y.node = p.node
      · have hd : (y.node == p.node) = true := by simp [hq]
        have HC := Lib.hid (count_yesQ hkl HX.out hd)
        clear hq
        go_wp2
        go_roundw
        case rel => exact ⟨k + 1, by omega, by go_num, by rw [HC.out, Int.natCast_succ], HT2.out⟩
        case measure => simp [intOf]; omega
      · have hd : (y.node == p.node) = false := by simp [hq]
        have HC := Lib.hid (count_noQ hkl HX.out hd)
        clear hq w1
        go_wp2
        go_roundw
        case rel => exact ⟨k + 1, by omega, by go_num, by rw [HC.out], HT2.out⟩
        case measure => simp [intOf]; omega
    · have HK : Hid (l.take k = l) := List.take_of_length_le (by have := HN.out; omega)
      have kw := T1.below
      clear T1
      by_cases h1 : l.countP (fun q => q.node == p.node) = 1
      · have HA : Hid (aloneN l p.node = true) := by show _ = _; simp [aloneN, h1]
        have hd : ((((l.take k).countP (fun q => q.node == p.node) : Nat) : Int) == 1) = true := by rw [HK.out, h1]; rfl
        clear h1
        go_wp2
        go_ret
        exact ⟨ret_bool HA.out.symm, kw⟩
      · have HA : Hid (aloneN l p.node = false) := by show _ = _; simp [aloneN, h1]
        have hd : ((((l.take k).countP (fun q => q.node == p.node) : Nat) : Int) == 1) = false := by
          rw [HK.out]; exact beq_eq_false_iff_ne.2 (by omega)
        clear h1
        go_wp2
        go_ret
        exact ⟨ret_bool HA.out.symm, kw⟩

/-! The nodes that are used. -/
def UsRel (ns : List NodeD) (l : List PodD) (a b : List Value) (w : World) (v i : Value) (wr : World) : Prop :=
  ∃ k : Nat, k ≤ l.length ∧ i = .int .i64 k ∧ wr.ownsRow (w.heap.size + 2) 3 1 v (i64s (idsN ns (l.take k))).length (i64s (idsN ns (l.take k))) ∧ T2 a b w wr
theorem ids_yes {ns : List NodeD} {l : List PodD} {k : Nat} (h : k < l.length) {p : PodD} (hx : l[k] = p) (hp : isN ns p.node = true) : i64s (idsN ns (l.take (k + 1))) = i64s (idsN ns (l.take k)) ++ [.int .i64 p.node] := by
  rw [idsN, List.take_succ_eq_append_getElem h, hx, List.filter_append, List.filter_cons, if_pos hp]; simp [idsN]
theorem ids_no {ns : List NodeD} {l : List PodD} {k : Nat} (h : k < l.length) {p : PodD} (hx : l[k] = p) (hp : isN ns p.node = false) : idsN ns (l.take (k + 1)) = idsN ns (l.take k) := by
  rw [idsN, List.take_succ_eq_append_getElem h, hx, List.filter_append, List.filter_cons, if_neg (by simp [hp])]; simp [idsN]
/-- A row of ints of the call's own. -/
def UsedTo (zs : List Int) (w : World) (e : Ending) (w' : World) : Prop := ∃ v, e = .returned v ∧ w'.ownsRow w.heap.size 3 1 v zs.length (i64s zs) ∧ Below w.heap.size w w'

set_option maxHeartbeats 6400000 in
set_option maxRecDepth 100000 in
theorem used_any (ns : List NodeD) (l : List PodD) (A1 A4 : Option Addr) (n1 c1 n4 c4 : Nat) (s2 s3 v2 v3 : Value) (w : World) (hn1 : n1 = ns.length) (hl1 : n1 ≤ 400) (hr1 : Recs 10 cellsN w w.heap.size A1 ns)
    (hn4 : n4 = l.length) (hl4 : n4 ≤ 400) (hr4 : Recs 8 cellsP w w.heap.size A4 l) :
    Calls Tryz.prog 23 #[.agg #[.slice A1 n1 c1, s2, s3], .agg #[.slice A4 n4 c4, v2, v3]] w (UsedTo (usedN ns l) w) := by
  have HT0 := Lib.hid (T2.new w [.slice A1 n1 c1, s2, s3] [.slice A4 n4 c4, v2, v3] 26 31)
  have HR := Lib.hid hr4
  have HN := Lib.hid hn4
  have HI := Lib.hid (fun (V : World) (hV : Below w.heap.size w V) (id : Int) => isNode_any ns id A1 n1 c1 s2 s3 V hn1 (by omega) ((hr1.below hV (Nat.le_refl _)).more hV.size))
  clear hr1 hr4 hn1 hn4
  go_enter Tryz.func23, Tryz.ntmps23
  go_wp2
  go_loopw [5, 11] (UsRel ns l [.slice A1 n1 c1, s2, s3] [.slice A4 n4 c4, v2, v3] w) (fun _ i _ => n4 - (intOf i).toNat)
  case atStart => exact ⟨0, by omega, rfl, ⟨by simp [idsN], .inl ⟨rfl, by simp [idsN]⟩⟩, HT0.out⟩
  case round =>
    obtain ⟨k, hk, rfl, hown, T1⟩ := hrel
    have HOW := Lib.hid hown
    have hzr : w.heap.size + 2 ≤ wr.heap.size := by have := T1.two.lt; omega
    clear hown
    by_cases hlt : k < n4
    · have hkl : k < l.length := by have := HN.out; omega
      obtain ⟨b, o, rfl, hb, he⟩ := HR.out.at hkl
      generalize hx : l[k] = y at *
      have HX := Lib.hid hx
      clear hx
      have kwr := T1.below
      have e0 : wr.cell? ⟨b, o + k * 8, none⟩ = some (.int .i64 y.id) := (kwr.cell (p := ⟨b, o + k * 8, none⟩) hb).trans (he 0 _ rfl)
      have e1 : wr.cell? ⟨b, o + k * 8 + 1, none⟩ = some (.int .i64 y.load) := (kwr.cell (p := ⟨b, o + k * 8 + 1, none⟩) hb).trans (he 1 _ rfl)
      have e2 : wr.cell? ⟨b, o + k * 8 + 2, none⟩ = some (.int .i64 y.prio) := (kwr.cell (p := ⟨b, o + k * 8 + 2, none⟩) hb).trans (he 2 _ rfl)
      have e3 : wr.cell? ⟨b, o + k * 8 + 3, none⟩ = some (.int .u64 y.req.a) := (kwr.cell (p := ⟨b, o + k * 8 + 3, none⟩) hb).trans (he 3 _ rfl)
      have e4 : wr.cell? ⟨b, o + k * 8 + 4, none⟩ = some (.int .u64 y.req.b) := (kwr.cell (p := ⟨b, o + k * 8 + 4, none⟩) hb).trans (he 4 _ rfl)
      have e5 : wr.cell? ⟨b, o + k * 8 + 5, none⟩ = some (.int .u64 y.req.c) := (kwr.cell (p := ⟨b, o + k * 8 + 5, none⟩) hb).trans (he 5 _ rfl)
      have e6 : wr.cell? ⟨b, o + k * 8 + 6, none⟩ = some (.int .u64 y.req.d) := (kwr.cell (p := ⟨b, o + k * 8 + 6, none⟩) hb).trans (he 6 _ rfl)
      have e7 : wr.cell? ⟨b, o + k * 8 + 7, none⟩ = some (.int .i64 y.node) := (kwr.cell (p := ⟨b, o + k * 8 + 7, none⟩) hb).trans (he 7 _ rfl)
      have hz0 := kwr.size
      have hbw : b < wr.heap.size := by omega
      have T2' := T1.alloc (.cells #[.int .i64 y.id, .int .i64 y.load, .int .i64 y.prio, .int .u64 y.req.a, .int .u64 y.req.b, .int .u64 y.req.c, .int .u64 y.req.d, .int .i64 y.node] 41)
      have HIP := Lib.hid (HI.out _ T2'.below y.node)
      have HT2 := Lib.hid T2'
      have HBY := Lib.hid (Bf.new wr (cellsP y) 41 rfl)
      have HO2 := Lib.hid (HOW.out.alloc (.cells #[.int .i64 y.id, .int .i64 y.load, .int .i64 y.prio, .int .u64 y.req.a, .int .u64 y.req.b, .int .u64 y.req.c, .int .u64 y.req.d, .int .i64 y.node] 41))
      have HL : Hid ((i64s (idsN ns (l.take k))).length ≤ 2000000) := by
        show _ ≤ _
        have h1 := ids_len ns (l.take k)
        rw [List.length_map]
        rw [List.length_take] at h1
        omega
      obtain ⟨a0, a1, a2, a3⟩ := T1.one.cells3
      clear he hz0 kwr T1 T2' HOW
      go_wp2_with fail
      refine HIP.out.mono ?_
      rintro e w2 ⟨rfl, hb2⟩
      have HT3 := Lib.hid (HT2.out.keep hb2)
      have HO3 := Lib.hid (own_belowS HO2.out hb2 (Nat.le_refl _))
      have y7 := (HBY.out.below hb2 HBY.out.lt).cell 7 _ rfl
      have y8 := (HBY.out.below hb2 HBY.out.lt).lt
      have hz2 : w.heap.size + 2 ≤ w2.heap.size := by have := HT3.out.two.lt; omega
      clear hb2 HT2 HO2 HBY HIP e0 e1 e2 e3 e4 e5 e6 e7 a0 a1 a2 a3
      cases hq : isN ns y.node with
      | true =>
        have HM := Lib.hid (ids_yes hkl HX.out hq)
        clear hq
        go_wp2_with (at_builtin; refine wpList_push 71 3 (.int .i64 0) 8 Tryz.underlying71 Tryz.info3 rfl (by decide) rfl (.tmp 19) (.tmp 22) rfl (w.heap.size + 2) _ (i64s (idsN ns (l.take k))) (.int .i64 y.node) rfl HO3.out hz2 HL.out rfl (by simp [go_sem]) ?_; intro v5 w3 hown3 hb3 hB3)
        have HO4 := Lib.hid hown3
        have HT4 := Lib.hid (HT3.out.pushQ hb3)
        clear hown3 hb3
        go_wp2
        go_roundw
        case rel => exact ⟨k + 1, by omega, by go_num, by rw [HM.out]; exact HO4.out, HT4.out⟩
        case measure => simp [intOf]; omega
      | false =>
        have HM := Lib.hid (ids_no hkl HX.out hq)
        clear hq
        go_wp2
        go_roundw
        case rel => exact ⟨k + 1, by omega, by go_num, by rw [HM.out]; exact HO3.out, HT3.out⟩
        case measure => simp [intOf]; omega
    · have HK : Hid (l.take k = l) := List.take_of_length_le (by have := HN.out; omega)
      have HO : Hid (wr.ownsRow (w.heap.size + 2) 3 1 u5 (idsN ns l).length (i64s (idsN ns l))) := by
        have h := HOW.out
        rw [HK.out, List.length_map (f := Value.int .i64)] at h
        exact h
      have HIL := Lib.hid (ids_len ns l)
      have HLL : Hid ((idsN ns l).length ≤ 1000) := by show _ ≤ _; have := HN.out; have := HIL.out; omega
      have HT1 := Lib.hid T1
      clear T1
      go_wp2_with fail
      refine (sort_own _ _ _ _ hzr HO.out HLL.out).mono ?_
      rintro e w1 ⟨rfl, hown1, hb1⟩
      have HO1 : Hid (w1.ownsRow (w.heap.size + 2) 3 1 u5 (sortI (idsN ns l)).length (i64s (sortI (idsN ns l)))) := by
        rw [show (sortI (idsN ns l)).length = (idsN ns l).length from List.length_mergeSort _]; exact hown1
      have HL1 : Hid ((sortI (idsN ns l)).length ≤ 1000) := by
        show _ ≤ _; rw [show (sortI (idsN ns l)).length = (idsN ns l).length from List.length_mergeSort _]; exact HLL.out
      have HT2 := Lib.hid (HT1.out.pushQ hb1)
      clear hown1 hb1
      have hz1 : w.heap.size + 2 ≤ w1.heap.size := by have := HT2.out.two.lt; omega
      go_wp2_with fail
      refine (comp_own _ _ _ _ hz1 HO1.out HL1.out).mono ?_
      rintro e w2 ⟨v', rfl, hown2, hb2⟩
      have HO2 := Lib.hid hown2
      have HT3 := Lib.hid (HT2.out.pushQ hb2)
      clear hown2 hb2
      go_wp2
      go_ret
      exact ⟨_, rfl, own_base HO2.out (by omega), HT3.out.below⟩

set_option maxHeartbeats 3200000 in
set_option maxRecDepth 100000 in
theorem tidyUsed_any (ns : List NodeD) (l : List PodD) (A1 A4 : Option Addr) (n1 c1 n4 c4 : Nat) (s2 s3 v2 v3 : Value) (w : World) (hn1 : n1 = ns.length) (hl1 : n1 ≤ 400) (hr1 : Recs 10 cellsN w w.heap.size A1 ns)
    (hn4 : n4 = l.length) (hl4 : n4 ≤ 400) (hr4 : Recs 8 cellsP w w.heap.size A4 l) :
    Calls Tryz.prog 8 #[.agg #[.slice A1 n1 c1, s2, s3], .agg #[.slice A4 n4 c4, v2, v3]] w fun e w' => e = .returned (.int .i64 ((usedN ns l).length : Nat)) ∧ Below w.heap.size w w' := by
  have T0 := T2.new w [.slice A1 n1 c1, s2, s3] [.slice A4 n4 c4, v2, v3] 26 31
  have HU := Lib.hid (used_any ns l A1 A4 n1 c1 n4 c4 s2 s3 v2 v3 _ hn1 hl1 ((hr1.below T0.below (Nat.le_refl _)).more T0.below.size) hn4 hl4 ((hr4.below T0.below (Nat.le_refl _)).more T0.below.size))
  have k0 := T0.below
  clear hr1 hr4 hn1 hn4 T0
  go_enter Tryz.func8, Tryz.ntmps8
  go_wp2_with fail
  refine HU.out.mono ?_
  rintro e w1 ⟨v, rfl, hown, hb⟩
  obtain ⟨A, c, rfl, _⟩ := recsQ rfl hown
  have kw := k0.trans (hb.mono k0.size)
  clear hown hb HU k0
  go_wp2
  go_ret
  exact ⟨rfl, kw⟩
end Go.Proofs.YtabebhaclkhhpaaGreatDoor
