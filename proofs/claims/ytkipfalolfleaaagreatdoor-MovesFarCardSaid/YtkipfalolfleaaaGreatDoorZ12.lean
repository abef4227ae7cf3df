/- Joined texts, part 12: NG NH WA QK DC DD DG DH DHN DHL DHP CH DI DJ XC QG UK BP QH NI. -/
import Derived.Test.YtkipfalolfleaaaGreatDoorZ10
import Derived.Test.YtkipfalolfleaaaGreatDoorZ11
import Derived.Test.YtkipfalolfleaaaGreatDoorZ07
import Derived.Test.YtkipfalolfleaaaGreatDoorZ03
import Derived.Test.YtkipfalolfleaaaGreatDoorZ06
import Derived.Maps.AppendAt
import Derived.Test.YtkipfalolfleaaaGreatDoorZ02
import Derived.Lib.AppendZerosOnto
import Derived.Lib.Walk
import Derived.Laws.Cover3
import Derived.Test.YtkipfalolfleaaaGreatDoorZ01
import Derived.Deep.CutRange
import Derived.Deep.RegionHeld3
import Derived.Deep.QuietTactic
import Derived.BigQuiet
import Derived.Test.YtkipfalolfleaaaGreatDoorZ05
import Derived.Test.YtkipfalolfleaaaGreatDoorZ09

/- All that can be done, one by one, each with the state behind it: the program's doable of layer 18, and what the iterator that it hands back promises. -/
namespace Go.Proofs.YtkipfalolfleaaaGreatDoor
set_option linter.unusedSimpArgs false
open Go.RowKit Go.Shelf
set_option linter.unusedVariables false

attribute [local go_sem] Oper.semAt_some

theorem recsM18 {w : World} {B n : Nat} {v : Value} {zs : List MoveD} (hn : n = zs.length) (h : w.ownsRow B 33 4 v n (zs.flatMap cellsM)) : ∃ A c, v = .slice A n c ∧ Recs 4 cellsM w w.heap.size A zs ∧ ∀ a, A = some a → B ≤ a.block := by
  obtain ⟨A, c, e, _, _, _, hr⟩ := recs_of_own lenM18 hn h
  refine ⟨A, c, e, hr, fun a ha => ?_⟩
  subst ha
  rcases h.2 with ⟨h1, _⟩ | ⟨g, cap, cur, h1, h2, _⟩
  · rw [h1] at e
    injection e with e1
    cases e1
  · rw [h1] at e
    injection e with e1
    injection e1 with e1
    rw [← e1]; exact h2

/-- What stands while all that can be done is gone through. -/
structure ItM (J : List PropQ → (Nat → Prop) → World → Prop) (a b c : List Value) (w : World) (B base : Nat) (Au : Option Addr) (us : List MoveD) (pre : List PropQ) (O : Nat → Prop) (V : World) : Prop where
  j : J pre O V
  lt : ∀ k, O k → k < V.heap.size
  d : ∀ k, O k → w.heap.size ≤ k ∧ ¬ (B ≤ k ∧ k < B + 3)
  one : Bf V B a
  two : Bf V (B + 1) b
  three : Bf V (B + 2) c
  below : Below w.heap.size w V
  base : base ≤ V.heap.size
  us : Recs 4 cellsM V V.heap.size Au us
  u : ∀ k, Au = some k → ¬ O k.block
section
variable {J : List PropQ → (Nat → Prop) → World → Prop} {a b c : List Value} {w V V' : World} {B base : Nat} {Au : Option Addr} {us : List MoveD} {pre pre' : List PropQ} {O O' : Nat → Prop}
theorem ItM.keep (hJ : ∀ s O A B, J s O A → Below A.heap.size A B → J s O B) (h : ItM J a b c w B base Au us pre O V) (hb : Below V.heap.size V V') : ItM J a b c w B base Au us pre O V' :=
  ⟨hJ _ _ _ _ h.j hb, fun k hk => Nat.lt_of_lt_of_le (h.lt k hk) hb.size, h.d, h.one.below hb h.one.lt, h.two.below hb h.two.lt, h.three.below hb h.three.lt, h.below.trans (hb.mono h.below.size), Nat.le_trans h.base hb.size,
    (h.us.below hb (Nat.le_refl _)).more hb.size, h.u⟩
theorem ItM.round (h : ItM J a b c w B base Au us pre O V) (hb : But O V V') (hj : J pre' O' V') (ho : ∀ k, O' k → k < V'.heap.size ∧ (O k ∨ V.heap.size ≤ k)) (hu : ∀ k, Au = some k → k.block < V.heap.size) : ItM J a b c w B base Au us pre' O' V' := by
  have h1 : ¬ O B := fun e => (h.d _ e).2 ⟨Nat.le_refl _, by omega⟩
  have h2 : ¬ O (B + 1) := fun e => (h.d _ e).2 ⟨by omega, by omega⟩
  have h3 : ¬ O (B + 2) := fun e => (h.d _ e).2 ⟨by omega, by omega⟩
  have hlt := h.three.lt
  refine ⟨hj, fun k hk => (ho k hk).1, fun k hk => ?_, h.one.but hb h1, h.two.but hb h2, h.three.but hb h3, h.below.trans (hb.below h.below.size fun k hk => (h.d k hk).1), Nat.le_trans h.base hb.size, Recs.but h.us hb h.u, fun k hk hc => ?_⟩
  · rcases (ho k hk).2 with e | e
    · exact h.d k e
    · exact ⟨Nat.le_trans h.below.size e, by omega⟩
  · rcases (ho _ hc).2 with e | e
    · exact h.u k hk e
    · have := hu k hk; omega
end

set_option maxHeartbeats 1000000 in
theorem doable_any (A1 A2 A3 A4 A5 : Option Addr) (n1 c1 n2 c2 n3 c3 n4 c4 n5 c5 : Nat) (x1 x2 t1 t2 : Int) (w : World) :
    Calls Tryz.prog 16 #[.agg #[.slice A1 n1 c1, .slice A2 n2 c2, .slice A3 n3 c3], .agg #[.slice A5 n5 c5, .int .i64 x1, .int .i64 x2], .agg #[.slice A4 n4 c4, .int .i64 t1, .int .i64 t2]] w fun e w' =>
      e = .returned (.func (.func 26) #[] #[.pointer (some ⟨w.heap.size, 0, none⟩), .pointer (some ⟨w.heap.size + 2, 0, none⟩), .pointer (some ⟨w.heap.size + 1, 0, none⟩)]) ∧
      w' = ((w.alloc (.cells #[.slice A1 n1 c1, .slice A2 n2 c2, .slice A3 n3 c3] 26)).alloc (.cells #[.slice A5 n5 c5, .int .i64 x1, .int .i64 x2] 29)).alloc (.cells #[.slice A4 n4 c4, .int .i64 t1, .int .i64 t2] 31) := by
  go_enter Tryz.func16, Tryz.ntmps16
  go_wp2
  go_ret
  exact ⟨rfl, rfl⟩

/-! What has come, once so much is over. -/
theorem all_so_far {ns : List NodeD} {ls : List LoadD} {x : SpecD} {t : StateD} {T : List MoveD} {k : Nat} (hk : k < T.length) {m : MoveD} (hx : T[k] = m) (hd : (doD ns ls x t m).2 = 0) :
    (T.take k).flatMap (tellD ns ls x t) ++ [(m, (doD ns ls x t m).1)] <+: allD ns ls x t T := by
  have e1 : [(m, (doD ns ls x t m).1)] = tellD ns ls x t m := (if_pos hd).symm
  rw [e1, ← flat_more18 hk hx]
  have e2 : allD ns ls x t T = (T.take (k + 1)).flatMap (tellD ns ls x t) ++ (T.drop (k + 1)).flatMap (tellD ns ls x t) := by
    rw [← List.flatMap_append, List.take_append_drop]; rfl
  rw [e2]
  exact List.prefix_append _ _
theorem tell_yes {ns : List NodeD} {ls : List LoadD} {x : SpecD} {t : StateD} {m : MoveD} (h : (doD ns ls x t m).2 = 0) : tellD ns ls x t m = [(m, (doD ns ls x t m).1)] := if_pos h
theorem tell_no {ns : List NodeD} {ls : List LoadD} {x : SpecD} {t : StateD} {m : MoveD} (h : (doD ns ls x t m).2 ≠ 0) : tellD ns ls x t m = [] := if_neg h

set_option maxHeartbeats 12800000 in
set_option maxRecDepth 100000 in
theorem doable_in (n : Nat) (hn : 1 ≤ n) (l : Nat) (ns : List NodeD) (ls : List LoadD) (x : SpecD) (t : StateD) (T : List MoveD) (hT : TriesOf ns t.pods T) (A1 A2 A3 A4 A5 : Option Addr) (n1 c1 n2 c2 n3 c3 n4 c4 n5 c5 : Nat) (w : World) (h : TidyArgs ns ls x t A1 A2 A4 A5 n1 n2 n4 c4 n5 w) (B : Nat)
    (J : List PropQ → (Nat → Prop) → World → Prop) (Jx : List PropQ → World → Prop) (O : Nat → Prop) (W : World) (hJ : ∀ s O A B, J s O A → Below A.heap.size A B → J s O B) (hJx : ∀ s A B, Jx s A → Below A.heap.size A B → Jx s B)
    (hY : ∀ pre O q V, J pre O V → (∀ k, O k → k < V.heap.size) → AtQ q W.heap.size V → pre.length < (allD ns ls x t T).length → YieldAt Fence.wide (n - 1) Tryz.prog l (encQ q) V fun e V' =>
      (e = .returned (.bool true) ∧ But O V V' ∧ ∃ O', J (pre ++ [q]) O' V' ∧ ∀ k, O' k → k < V'.heap.size ∧ (O k ∨ V.heap.size ≤ k)) ∨ (e = .returned (.bool false) ∧ Jx (pre ++ [q]) V'))
    (hb1 : Bf W B [.slice A1 n1 c1, .slice A2 n2 c2, .slice A3 n3 c3]) (hb2 : Bf W (B + 1) [.slice A5 n5 c5, .int .i64 x.preempts, .int .i64 x.shifts]) (hb3 : Bf W (B + 2) [.slice A4 n4 c4, .int .i64 t.preempts, .int .i64 t.shifts])
    (hw : Below w.heap.size w W) (hO : ∀ k, O k → k < W.heap.size ∧ w.heap.size ≤ k ∧ ¬ (B ≤ k ∧ k < B + 3)) (h0 : J [] O W) :
    CallsIn Fence.wide n Tryz.prog 26 #[.func (.yield l) #[] #[], .pointer (some ⟨B, 0, none⟩), .pointer (some ⟨B + 2, 0, none⟩), .pointer (some ⟨B + 1, 0, none⟩)] W fun e W' => (∃ v, e = .returned v) ∧
      ((∃ xs O', outQ xs = allD ns ls x t T ∧ J xs O' W') ∨ ∃ pre, outQ pre <+: allD ns ls x t T ∧ Jx pre W') := by
  have HI0 : Hid (ItM J [.slice A1 n1 c1, .slice A2 n2 c2, .slice A3 n3 c3] [.slice A5 n5 c5, .int .i64 x.preempts, .int .i64 x.shifts] [.slice A4 n4 c4, .int .i64 t.preempts, .int .i64 t.shifts] w B W.heap.size none [] [] O W) :=
    ⟨h0, fun k hk => (hO k hk).1, fun k hk => (hO k hk).2, hb1, hb2, hb3, hw, Nat.le_refl _, .inl rfl, fun _ e => by cases e⟩
  have HJ := Lib.hid hJ
  have HJX := Lib.hid hJx
  have HY := Lib.hid hY
  have HA := Lib.hid (fun (V : World) (hV : Below w.heap.size w V) => h.at hV)
  have HU := Lib.hid (tries_any ns t.pods T hT A1 A4 n1 c1 n4 c4 (.slice A2 n2 c2) (.slice A3 n3 c3) (.int .i64 t.preempts) (.int .i64 t.shifts) W h.a.e1 h.a.l1 (h.at hw).a.r1 h.a.e4 h.a.l4 (h.at hw).a.r4)
  have htl : T.length ≤ 400000 := by
    rw [hT.1.length_eq]
    exact raw_small h.a.e1 h.a.l1 h.a.e4 h.a.l4 t.pods (by have := h.a.e4; have := h.a.l4; omega)
  obtain ⟨a0, a1, a2, a3⟩ := hb1.cells3
  obtain ⟨d0, d1, d2, d3⟩ := hb3.cells3
  clear hb1 hb2 hb3 hw hO h0 hJ hJx hY h
  refine callsIn_of_wp Tryz.func26 rfl trivial ?_ rfl
  simp only [Tryz.ntmps26, List.size_toArray, List.length_cons, List.length_nil, Nat.reduceAdd, Nat.reduceSub, Array.replicate_succ, Array.replicate_zero, List.push_toArray, List.append_toArray, List.nil_append, List.cons_append]
  gi_wp2_with fail
  refine ⟨trivial, (callsIn_wide.2 HU.out).mono ?_⟩
  rintro e w1 ⟨v, rfl, hown, hb⟩
  obtain ⟨Au, cu, rfl, hru, hbu⟩ := recsM18 rfl hown
  have I1 := HI0.out.keep HJ.out hb
  have HI1 : Hid (ItM J [.slice A1 n1 c1, .slice A2 n2 c2, .slice A3 n3 c3] [.slice A5 n5 c5, .int .i64 x.preempts, .int .i64 x.shifts] [.slice A4 n4 c4, .int .i64 t.preempts, .int .i64 t.shifts] w B W.heap.size Au T [] O w1) :=
    ⟨I1.j, I1.lt, I1.d, I1.one, I1.two, I1.three, I1.below, I1.base, hru, fun k hk hc => by have h1 := hbu k hk; have h2 := HI0.out.lt _ hc; omega⟩
  clear a0 a1 a2 a3 d0 d1 d2 d3 hown hb hru hbu I1 HU HI0
  obtain ⟨mu, hmu⟩ : ∃ m, T.length = m := ⟨_, rfl⟩
  have HMU := Lib.hid hmu
  rw [hmu] at htl ⊢
  clear hmu
  gi_wp2
  gi_loopw [13] (fun i wr => ∃ (k : Nat) (pre : List PropQ) (O : Nat → Prop), k ≤ mu ∧ i = .int .i64 k ∧ outQ pre = (T.take k).flatMap (tellD ns ls x t) ∧ ItM J [.slice A1 n1 c1, .slice A2 n2 c2, .slice A3 n3 c3] [.slice A5 n5 c5, .int .i64 x.preempts, .int .i64 x.shifts] [.slice A4 n4 c4, .int .i64 t.preempts, .int .i64 t.shifts] w B W.heap.size Au T pre O wr)
    (fun i _ => mu - (intOf i).toNat)
  case atStart => exact ⟨0, [], O, Nat.zero_le _, rfl, by simp, HI1.out⟩
  case round =>
    obtain ⟨k, pre, O1, hk, rfl, hpre, hI⟩ := hrel
    have HPRE := Lib.hid hpre
    have HI := Lib.hid hI
    clear hpre hI HI1
    by_cases hlt : k < mu
    · have hkl : k < T.length := by have := HMU.out; omega
      obtain ⟨bu, ou, rfl, hbu, hcu⟩ := HI.out.us.at hkl
      generalize hm : T[k] = m at *
      have HM := Lib.hid hm
      have p0 : wr.cell? ⟨bu, ou + k * 4, none⟩ = some (.int .i64 m.kind) := hcu 0 _ rfl
      have p1 : wr.cell? ⟨bu, ou + k * 4 + 1, none⟩ = some (.int .i64 m.pod) := hcu 1 _ rfl
      have p2 : wr.cell? ⟨bu, ou + k * 4 + 2, none⟩ = some (.int .i64 m.node) := hcu 2 _ rfl
      have p3 : wr.cell? ⟨bu, ou + k * 4 + 3, none⟩ = some (.int .i64 m.over) := hcu 3 _ rfl
      have hkm : Below wr.heap.size wr (wr.alloc (.cells #[.int .i64 m.kind, .int .i64 m.pod, .int .i64 m.node, .int .i64 m.over] 33)) := (Below.refl _ _).alloc (Nat.le_refl _) _
      have I6 := HI.out.keep HJ.out hkm
      have HI6 := Lib.hid I6
      have BM : Bf (wr.alloc (.cells #[.int .i64 m.kind, .int .i64 m.pod, .int .i64 m.node, .int .i64 m.over] 33)) wr.heap.size (cellsM m) := Bf.new wr (cellsM m) 33 rfl
      have HBM := Lib.hid BM
      have HDO : Hid (Calls Tryz.prog 8 #[.agg #[.slice A1 n1 c1, .slice A2 n2 c2, .slice A3 n3 c3], .agg #[.slice A5 n5 c5, .int .i64 x.preempts, .int .i64 x.shifts], .agg #[.slice A4 n4 c4, .int .i64 t.preempts, .int .i64 t.shifts], .agg #[.int .i64 m.kind, .int .i64 m.pod, .int .i64 m.node, .int .i64 m.over]] (wr.alloc (.cells #[.int .i64 m.kind, .int .i64 m.pod, .int .i64 m.node, .int .i64 m.over] 33)) (DoTo (doD ns ls x t m) (wr.alloc (.cells #[.int .i64 m.kind, .int .i64 m.pod, .int .i64 m.node, .int .i64 m.over] 33)))) := by
        have k := HA.out _ I6.below
        exact stepDo_any ns ls x t m A1 A2 A3 A4 A5 n1 c1 n2 c2 n3 c3 n4 c4 n5 c5 _ k.a k.h04 k.e5 k.l5 k.r5 k.xo
      obtain ⟨a0, a1, a2, a3⟩ := I6.one.cells3
      obtain ⟨b0, b1, b2, b3⟩ := I6.two.cells3
      obtain ⟨d0, d1, d2, d3⟩ := I6.three.cells3
      obtain ⟨⟨m0, m1⟩, m2, m3, m4⟩ := BM.cells4q
      clear hkm I6 BM hcu hm
      by_cases hd0 : (doD ns ls x t m).2 = 0
      · have HD1 := Lib.hid (HDO.out.mono fun e w' h => do_good hd0 h)
        have HT := Lib.hid (tell_yes hd0)
        have HSF := Lib.hid (all_so_far hkl HM.out hd0)
        clear hd0 HDO
        gi_wp2_with fail
        refine ⟨trivial, (callsIn_wide.2 HD1.out).mono ?_⟩
        rintro e w7 ⟨A7, c7, rfl, ho7, hfr7, hb7⟩
        generalize doD ns ls x t m = r at *
        have k8 : Below w7.heap.size w7 (w7.alloc (.cells #[.slice A7 r.1.pods.length c7, .int .i64 r.1.preempts, .int .i64 r.1.shifts] 31)) := (Below.refl _ _).alloc (Nat.le_refl _) _
        have I8 := (HI6.out.keep HJ.out hb7).keep HJ.out k8
        have HI8 := Lib.hid I8
        have BM8 := (HBM.out.below hb7 HBM.out.lt).below k8 (HBM.out.below hb7 HBM.out.lt).lt
        have BS8 := Bf.new w7 [.slice A7 r.1.pods.length c7, .int .i64 r.1.preempts, .int .i64 r.1.shifts] 31 rfl
        have HSQ : Hid (outQ pre ++ [(m, r.1)] <+: allD ns ls x t T) := by
          show _ <+: _
          rw [HPRE.out]; exact HSF.out
        have hat : AtQ ((m, r.1), A7, c7) W.heap.size (w7.alloc (.cells #[.slice A7 r.1.pods.length c7, .int .i64 r.1.preempts, .int .i64 r.1.shifts] 31)) :=
          ⟨ho7.later k8, fun a ha => by have h1 := hfr7 a ha; have h2 := HI6.out.base; omega⟩
        obtain ⟨fn', tmps', assign', body', hyy, hR⟩ := HY.out pre O1 ((m, r.1), A7, c7) _ I8.j I8.lt hat (so_less (q := ((m, r.1), A7, c7)) HSQ.out)
        have HRR := Lib.hid hR
        dsimp only [encQ, aggM, stateV] at hyy
        obtain ⟨⟨m0, m1⟩, m2, m3, m4⟩ := BM8.cells4q
        obtain ⟨s0, s1, s2, s3⟩ := BS8.cells3
        have HBU : Hid (bu < (w7.alloc (.cells #[.slice A7 r.1.pods.length c7, .int .i64 r.1.preempts, .int .i64 r.1.shifts] 31)).heap.size) := by
          have h1 := (HI6.out.keep HJ.out hb7).below.size
          have h2 := hb7.size
          have h3 := k8.size
          show bu < _
          simp at h2 h3 ⊢
          omega
        clear ho7 hfr7 hb7 k8 HI6 HD1 a0 a1 a2 a3 b0 b1 b2 b3 d0 d1 d2 d3 p0 p1 p2 p3 I8 BM8 BS8 hat hR
        gi_wp2
        refine HRR.out.mono ?_
        rintro e V' (⟨rfl, hbut, O', hj', ho'⟩ | ⟨rfl, hjx⟩)
        · have HI9 := Lib.hid (HI8.out.round hbut hj' ho' (fun k e => by cases e; exact HBU.out))
          clear hbut hj' ho' HI8 m0 m1 m2 m3 m4 s0 s1 s2 s3 hyy HRR
          gi_wp2
          go_roundw
          case rel => exact ⟨k + 1, pre ++ [((m, r.1), A7, c7)], O', by omega, by go_num, by rw [outQ, List.map_append, flat_more18 hkl HM.out, HT.out, ← HPRE.out]; rfl, HI9.out⟩
          case measure => simp [intOf]; omega
        · have HX := Lib.hid hjx
          clear hjx HI8 m0 m1 m2 m3 m4 s0 s1 s2 s3 hyy HRR
          gi_wp2
          refine bodyPost_ret (results_none rfl _ _ _) rfl ?_
          exact ⟨⟨_, rfl⟩, .inr ⟨pre ++ [((m, r.1), A7, c7)], by rw [outQ, List.map_append]; exact HSQ.out, HX.out⟩⟩
      · have HD1 := Lib.hid (HDO.out.mono fun e w' h => do_bad hd0 h)
        have HT := Lib.hid (tell_no hd0)
        clear hd0 HDO
        gi_wp2_with fail
        refine ⟨trivial, (callsIn_wide.2 HD1.out).mono ?_⟩
        rintro e w7 ⟨A7, c7, rfl, ho7, hfr7, hb7⟩
        generalize doD ns ls x t m = r at *
        have k8 : Below w7.heap.size w7 (w7.alloc (.cells #[.slice A7 r.1.pods.length c7, .int .i64 r.1.preempts, .int .i64 r.1.shifts] 31)) := (Below.refl _ _).alloc (Nat.le_refl _) _
        have HI8 := Lib.hid ((HI6.out.keep HJ.out hb7).keep HJ.out k8)
        clear ho7 hfr7 hb7 k8 HI6 HD1 a0 a1 a2 a3 b0 b1 b2 b3 d0 d1 d2 d3 m0 m1 m2 m3 m4 p0 p1 p2 p3
        gi_wp2
        refine ⟨fun _ h => (by cases h), ?_⟩
        gi_wp2
        go_roundw
        case rel => exact ⟨k + 1, pre, O1, by omega, by go_num, by rw [HPRE.out, flat_more18 hkl HM.out, HT.out, List.append_nil], HI8.out⟩
        case measure => simp [intOf]; omega
    · have HK : Hid (T.take k = T) := List.take_of_length_le (by have := HMU.out; omega)
      gi_wp2
      go_end0
      exact ⟨⟨_, rfl⟩, .inl ⟨pre, O1, by rw [HPRE.out, HK.out]; rfl, HI.out.j⟩⟩

theorem doable_stops (n : Nat) (hn : 1 ≤ n) (ns : List NodeD) (ls : List LoadD) (x : SpecD) (t : StateD) (T : List MoveD) (hT : TriesOf ns t.pods T) (A1 A2 A3 A4 A5 : Option Addr) (n1 c1 n2 c2 n3 c3 n4 c4 n5 c5 : Nat) (w : World) (h : TidyArgs ns ls x t A1 A2 A4 A5 n1 n2 n4 c4 n5 w) (B : Nat) (w0 : World)
    (hb1 : Bf w0 B [.slice A1 n1 c1, .slice A2 n2 c2, .slice A3 n3 c3]) (hb2 : Bf w0 (B + 1) [.slice A5 n5 c5, .int .i64 x.preempts, .int .i64 x.shifts]) (hb3 : Bf w0 (B + 2) [.slice A4 n4 c4, .int .i64 t.preempts, .int .i64 t.shifts]) (hw : Below w.heap.size w w0) :
    SeqQ Fence.wide n Tryz.prog 26 #[.pointer (some ⟨B, 0, none⟩), .pointer (some ⟨B + 2, 0, none⟩), .pointer (some ⟨B + 1, 0, none⟩)] encQ (fun k => k < w.heap.size ∨ (B ≤ k ∧ k < B + 3)) AtQ
      (fun xs => outQ xs = allD ns ls x t T) (fun pre => outQ pre <+: allD ns ls x t T) (allD ns ls x t T).length w0 := fun l J Jx O W hW hJ hJx hO hY h0 =>
  doable_in n hn l ns ls x t T hT A1 A2 A3 A4 A5 n1 c1 n2 c2 n3 c3 n4 c4 n5 c5 w h B J Jx O W hJ hJx hY (hb1.below hW hb1.lt) (hb2.below hW hb2.lt) (hb3.below hW hb3.lt) (hw.trans (hW.mono hw.size))
    (fun k hk => ⟨(hO k hk).1, Nat.not_lt.1 fun hc => (hO k hk).2 (.inl hc), fun hc => (hO k hk).2 (.inr hc)⟩) h0
end Go.Proofs.YtkipfalolfleaaaGreatDoor

/- All that can be done, told: the program's All of layer 18. -/
namespace Go.Proofs.YtkipfalolfleaaaGreatDoor
set_option linter.unusedSimpArgs false
open Go.RowKit Go.Shelf
set_option linter.unusedVariables false

attribute [local go_sem] Oper.semAt_some

theorem all_len (ns : List NodeD) (ls : List LoadD) (x : SpecD) (t : StateD) (T : List MoveD) : (allD ns ls x t T).length ≤ T.length := by
  have h := flat_lenQ (f := tellD ns ls x t) (m := 1) (l := T) fun m _ => by unfold tellD; split <;> simp
  rw [Nat.mul_one] at h
  exact h

set_option maxHeartbeats 12800000 in
set_option maxRecDepth 100000 in
theorem movesAll_any (ns : List NodeD) (ls : List LoadD) (x : SpecD) (t : StateD) (T : List MoveD) (hT : TriesOf ns t.pods T) (A1 A2 A3 A4 A5 : Option Addr) (n1 c1 n2 c2 n3 c3 n4 c4 n5 c5 : Nat) (w : World) (h : TidyArgs ns ls x t A1 A2 A4 A5 n1 n2 n4 c4 n5 w) :
    Calls Tryz.prog 9 #[.agg #[.slice A1 n1 c1, .slice A2 n2 c2, .slice A3 n3 c3], .agg #[.slice A5 n5 c5, .int .i64 x.preempts, .int .i64 x.shifts], .agg #[.slice A4 n4 c4, .int .i64 t.preempts, .int .i64 t.shifts]] w fun e w' => ∃ A c, e = .returned (.slice A (allD ns ls x t T).length c) ∧ Out 4 cellsM w' ((allD ns ls x t T).map (·.1)) A c ∧ (∀ a, A = some a → w.heap.size ≤ a.block) ∧ Below w.heap.size w w' := by
  have HPL : Hid ((allD ns ls x t T).length ≤ 400000) := by
    show _ ≤ _
    have h1 := all_len ns ls x t T
    have h2 := raw_small h.a.e1 h.a.l1 h.a.e4 h.a.l4 t.pods (by have := h.a.e4; have := h.a.l4; omega)
    rw [hT.1.length_eq] at h1
    exact Nat.le_trans h1 h2
  refine (callsIn_wide (n := 8)).1 ?_
  refine callsIn_of_wp_marks Tryz.func9 rfl trivial ?_ rfl
  simp only [Tryz.ntmps9, List.size_toArray, List.length_cons, List.length_nil, Nat.reduceAdd, Nat.reduceSub, Array.replicate_succ, Array.replicate_zero, List.push_toArray, List.append_toArray, List.nil_append, List.cons_append]
  gi_wp2_with fail
  have k3 : Below w.heap.size w (((w.alloc (.cells #[.slice A1 n1 c1, .slice A2 n2 c2, .slice A3 n3 c3] 26)).alloc (.cells #[.slice A5 n5 c5, .int .i64 x.preempts, .int .i64 x.shifts] 29)).alloc (.cells #[.slice A4 n4 c4, .int .i64 t.preempts, .int .i64 t.shifts] 31)) := (((Below.refl _ w).alloc (Nat.le_refl _) _).alloc (by simp) _).alloc (by simp; omega) _
  have hs3 : (((w.alloc (.cells #[.slice A1 n1 c1, .slice A2 n2 c2, .slice A3 n3 c3] 26)).alloc (.cells #[.slice A5 n5 c5, .int .i64 x.preempts, .int .i64 x.shifts] 29)).alloc (.cells #[.slice A4 n4 c4, .int .i64 t.preempts, .int .i64 t.shifts] 31)).heap.size = w.heap.size + 3 := by simp
  generalize (((w.alloc (.cells #[.slice A1 n1 c1, .slice A2 n2 c2, .slice A3 n3 c3] 26)).alloc (.cells #[.slice A5 n5 c5, .int .i64 x.preempts, .int .i64 x.shifts] 29)).alloc (.cells #[.slice A4 n4 c4, .int .i64 t.preempts, .int .i64 t.shifts] 31)) = V3 at *
  have R4 := Boxed.new V3 52 (.slice none 0 0)
  have k4 : Below V3.heap.size V3 (V3.alloc (.cells #[.slice none 0 0] 52)) := (Below.refl _ V3).alloc (Nat.le_refl _) _
  refine ⟨trivial, (callsIn_wide.2 (doable_any A1 A2 A3 A4 A5 n1 c1 n2 c2 n3 c3 n4 c4 n5 c5 x.preempts x.shifts t.preempts t.shifts _)).mono ?_⟩
  rintro e w1 ⟨rfl, rfl⟩
  have hs4 : (V3.alloc (.cells #[.slice none 0 0] 52)).heap.size = w.heap.size + 4 := by simp [hs3]
  generalize V3.alloc (.cells #[.slice none 0 0] 52) = V4 at *
  have P7 := T3.new V4 [.slice A1 n1 c1, .slice A2 n2 c2, .slice A3 n3 c3] [.slice A5 n5 c5, .int .i64 x.preempts, .int .i64 x.shifts] [.slice A4 n4 c4, .int .i64 t.preempts, .int .i64 t.shifts] 26 29 31
  have hs7 : (((V4.alloc (.cells #[.slice A1 n1 c1, .slice A2 n2 c2, .slice A3 n3 c3] 26)).alloc (.cells #[.slice A5 n5 c5, .int .i64 x.preempts, .int .i64 x.shifts] 29)).alloc (.cells #[.slice A4 n4 c4, .int .i64 t.preempts, .int .i64 t.shifts] 31)).heap.size = w.heap.size + 7 := by simp [hs4]
  have R7 := ((R4.alloc (.cells #[.slice A1 n1 c1, .slice A2 n2 c2, .slice A3 n3 c3] 26)).alloc (.cells #[.slice A5 n5 c5, .int .i64 x.preempts, .int .i64 x.shifts] 29)).alloc (.cells #[.slice A4 n4 c4, .int .i64 t.preempts, .int .i64 t.shifts] 31)
  generalize (((V4.alloc (.cells #[.slice A1 n1 c1, .slice A2 n2 c2, .slice A3 n3 c3] 26)).alloc (.cells #[.slice A5 n5 c5, .int .i64 x.preempts, .int .i64 x.shifts] 29)).alloc (.cells #[.slice A4 n4 c4, .int .i64 t.preempts, .int .i64 t.shifts] 31)) = V7 at *
  have k7 : Below w.heap.size w V7 := (k3.trans (k4.mono (by omega))).trans (P7.below.mono (by omega))
  have HA7 := Lib.hid (doable_stops 7 (by decide) ns ls x t T hT A1 A2 A3 A4 A5 n1 c1 n2 c2 n3 c3 n4 c4 n5 c5 w h (w.heap.size + 4) V7 (by rw [← hs4]; exact P7.one) (by rw [← hs4]; exact P7.two) (by rw [← hs4]; exact P7.three) k7)
  have HF0 : Hid (PrpI w V7 [] (fun k => k = w.heap.size + 3 ∨ (Value.slice none 0 0).ownBlock = some k) V7) := by
    refine ⟨_, rfl, ?_, World.ownsRow_nil _ _ _ _, k7⟩
    rw [hs3] at R7; exact R7
  have HS7 := Lib.hid hs7
  clear k3 hs3 R4 k4 P7 R7 k7 h hs7
  gi_wp2
  simp only [Nat.add_assoc, Nat.reduceAdd]
  refine loopQ (α := PropQ) rfl (by decide) (gf := 26) (lb := #[.pointer (some ⟨w.heap.size + 4, 0, none⟩), .pointer (some ⟨w.heap.size + 4 + 2, 0, none⟩), .pointer (some ⟨w.heap.size + 4 + 1, 0, none⟩)]) rfl trivial (enters_of Tryz.func26 (by kernel_rfl) rfl)
    HA7.out (Below.refl _ _) (fun k hk => by have := HS7.out; omega) (fun _ => rfl) (PrpI w V7) (fun _ _ => False)
    (PrpA (fun b1 q => #[.agg #[.slice A1 n1 c1, .slice A2 n2 c2, .slice A3 n3 c3], .agg #[.slice A5 n5 c5, .int .i64 x.preempts, .int .i64 x.shifts], .agg #[.slice A4 n4 c4, .int .i64 t.preempts, .int .i64 t.shifts],
      .pointer (some ⟨w.heap.size, 0, none⟩), .pointer (some ⟨w.heap.size + 1, 0, none⟩), .pointer (some ⟨w.heap.size + 2, 0, none⟩), .slice none 0 0, .pointer (some ⟨w.heap.size + 3, 0, none⟩), .pointer (some ⟨b1, 0, none⟩),
      .agg #[.slice A1 n1 c1, .slice A2 n2 c2, .slice A3 n3 c3], .agg #[.slice A5 n5 c5, .int .i64 x.preempts, .int .i64 x.shifts], .agg #[.slice A4 n4 c4, .int .i64 t.preempts, .int .i64 t.shifts],
      .func (.func 26) #[] #[.pointer (some ⟨w.heap.size + 4, 0, none⟩), .pointer (some ⟨w.heap.size + 6, 0, none⟩), .pointer (some ⟨w.heap.size + 5, 0, none⟩)], aggM q.1.1, stateV q.2.1 q.1.2.pods.length q.2.2 q.1.2.preempts q.1.2.shifts, undef, undef, undef, undef, undef]) (V7.heap.size + 2))
    (fun s O A B hs hb => PrpI.but (by have := HS7.out; omega) hs hb) (fun s A B hs hb => hs) (fun q a' A B hs hb => PrpA.but hs hb)
    (fun k => k = w.heap.size + 3 ∨ (Value.slice none 0 0).ownBlock = some k) (fun k hk => by have := HS7.out; simp [Value.ownBlock] at hk; omega) HF0.out ?assign ?body ?done ?stop
  case assign =>
    intro l pre O q V K hI hG hsz hK
    have HK := Lib.hid hK
    clear hK hG hI HF0 HA7
    simp only [encQ]
    gi_wp2
    have kV : Below V.heap.size V (V.alloc (.cells #[.int .i64 q.1.1.kind, .int .i64 q.1.1.pod, .int .i64 q.1.1.node, .int .i64 q.1.1.over] 33)) := (Below.refl _ V).alloc (Nat.le_refl _) _
    have B1 : Bf (V.alloc (.cells #[.int .i64 q.1.1.kind, .int .i64 q.1.1.pod, .int .i64 q.1.1.node, .int .i64 q.1.1.over] 33)) V.heap.size (cellsM q.1.1) := Bf.new V (cellsM q.1.1) 33 rfl
    exact HK.out _ _ kV ⟨V.heap.size, hsz, B1, rfl⟩
  case body =>
    rintro l pre O q a' V ⟨v, rfl, hv, hrow, hB⟩ ⟨b1, k1, j1, rfl⟩ hlo hsz hlt
    obtain ⟨i0, hi, hz0, hz1, hz2⟩ := infoQ infoMoveQ
    have hc := hv.cell
    obtain ⟨⟨m0, m1⟩, m2, m3, m4⟩ := j1.cells4q
    have hpl : pre.length ≤ 400000 := by have := HPL.out; omega
    have HV := Lib.hid (And.intro hv (And.intro hrow hB))
    have HZ := Lib.hid hsz
    clear hv hrow hB hlo hsz hlt HF0 HA7 j1 k1
    gi_wp2_with (gi_at_builtin; refine wpListIn_append_where _ rfl _ _ 52 rfl (V7.heap.size + 2) 33 i0 (.agg #[.int .i64 0, .int .i64 0, .int .i64 0, .int .i64 0]) 4 32 Tryz.underlying52 hi hz0 hz1 hz2 rfl (by decide) _ _ _ rfl (HV.out.2.1.alloc _) ⟨V.heap.size, 0, none⟩ 1 1 (cellsM q.1.1) rfl rfl (fun j u hu => by rw [add_zeroQ]; exact (Bf.new V (cellsM q.1.1) 33 rfl).cell j u hu) (by simp [cellsM, Value.oneCell']) (by unfold maxLen; omega) (by omega) (by have := HZ.out; simp; omega) ?_)
    intro v' w1 hown' hgrow hwh
    obtain ⟨g', cap', rfl⟩ := ownsRow_succ hown'
    have hv1 := (HV.out.1.alloc (.cells #[.int .i64 q.1.1.kind, .int .i64 q.1.1.pod, .int .i64 q.1.1.node, .int .i64 q.1.1.over] 33)).kept hgrow (HV.out.1.not_row (by decide) HV.out.2.1)
    have hv2 := hv1.set (.slice (some ⟨g', 0, none⟩) (pre.length + 1) cap')
    have hr2 := hown'.kept (grownBy_setCell' w1 (w.heap.size + 3) (.slice (some ⟨g', 0, none⟩) (pre.length + 1) cap')) (.inr (hv1.not_row (by decide) hown').symm)
    have kb : But (fun k => k = w.heap.size + 3 ∨ v.ownBlock = some k) V (w1.setCell ⟨w.heap.size + 3, 0, none⟩ (.slice (some ⟨g', 0, none⟩) (pre.length + 1) cap')) :=
      (((But.of ((Below.refl _ V).alloc (Nat.le_refl _) _)).trans (But.grown hgrow fun k e => .inr e) fun _ _ h => h).setO (p := ⟨w.heap.size + 3, 0, none⟩) (.inl rfl) _ : But (fun k => k = w.heap.size + 3 ∨ v.ownBlock = some k) V _)
    have kB := HV.out.2.2.trans (kb.below HV.out.2.2.size fun k hk => by
      rcases hk with e | e
      · omega
      · have := (HV.out.2.1.lt k e).1; have := HS7.out; omega)
    have hlt1 := (hown'.lt g' rfl).2
    have hc1 := hv1.cell
    have hf1 := hv1.frozen
    have HR := Lib.hid (And.intro hv2 (And.intro hr2 (And.intro kb (And.intro kB (And.intro hwh hlt1)))))
    clear hv1 hv2 hr2 kb kB hwh hlt1 hown' hgrow
    gi_wp2
    refine ⟨HR.out.2.2.1, fun k => k = w.heap.size + 3 ∨ (Value.slice (some ⟨g', 0, none⟩) (pre.length + 1) cap').ownBlock = some k, ⟨_, rfl, HR.out.1, ?_, HR.out.2.2.2.1⟩, fun k hk => ?_⟩
    · rw [List.length_append, rowQ_snoc]; exact HR.out.2.1
    · rcases hk with e | e
      · exact ⟨by rw [e]; exact HR.out.1.lt, .inl (.inl e)⟩
      · have h1 : g' = k := by simpa [Value.ownBlock] using e
        refine ⟨by have := HR.out.2.2.2.2.2; simp [World.setCell]; omega, ?_⟩
        rcases HR.out.2.2.2.2.1 k e with e' | e'
        · exact .inl (.inr e')
        · exact .inr (by have : V.heap.size + 1 ≤ k := e'; omega)
  case done =>
    rintro d xs O W' hd hS ⟨v, rfl, hv, hrow, hB⟩ hK
    have hlen : xs.length = (allD ns ls x t T).length := by have := congrArg List.length hS; simpa using this
    have hrq : rowQ xs = ((allD ns ls x t T).map (·.1)).flatMap cellsM := by rw [← hS, rowQ, outQ, List.map_map, List.flatMap_map]; rfl
    rw [hrq] at hrow
    obtain ⟨A, c, rfl, hre, hbs⟩ := recsM18 (by rw [List.length_map]; exact hlen) hrow
    have ho := out_of_own lenM18 (by rw [List.length_map]; exact hlen) hrow
    have HL := Lib.hid hlen
    have HD := Lib.hid hd
    have hc := hv.cell
    have kp : But (fun k => k = d) W' (W'.putObj d (.deferred none)) := .put _ rfl
    have HB3 := Lib.hid (hB.trans (kp.below hB.size fun k hk => by have := HD.out; have := HS7.out; omega))
    have HO3 := Lib.hid (ho.but kp fun a ha e => by have h1 := hbs a ha; have h2 := HD.out; omega)
    have HBS := Lib.hid hbs
    clear hv hrow hB hS HF0 HA7 hd hlen kp hrq hre ho hbs
    gi_wp2
    refine ⟨by simp, .inl ⟨_, _, rfl, run_takeDeferred hK, ?_⟩⟩
    exact ⟨_, results_tmp rfl _ _ _, A, c, by rw [← HL.out]; rfl, HO3.out, fun a ha => by have h1 := HBS.out a ha; have h2 := HS7.out; omega, HB3.out⟩
  case stop => exact fun _ _ _ _ _ h _ => h.elim
end Go.Proofs.YtkipfalolfleaaaGreatDoor

/- append of all records of a slice at a step of a region that draws its order; slices of slices of records. -/
namespace Go.Proofs.YtkipfalolfleaaaGreatDoor
set_option linter.unusedSimpArgs false
open Go.RowKit
set_option linter.unusedVariables false

section
variable {α : Type} {size : Nat} {cells : α → List Value} {w : World} {B : Nat} {xs : List α}
theorem Recs.drop {b o : Nat} (h : Recs size cells w B (some ⟨b, o, none⟩) xs) (k : Nat) : Recs size cells w B (some ⟨b, o + k * size, none⟩) (xs.drop k) := by
  rcases h with h | ⟨b', o', h1, h2, h3⟩
  · exact .inl (by simp [h])
  · injection h1 with h1
    injection h1 with h1 h1'
    subst h1 h1'
    refine .inr ⟨b, o + k * size, rfl, h2, fun i hi j u hu => ?_⟩
    have hi' : k + i < xs.length := by simp at hi; omega
    rw [List.getElem_drop] at hu
    have := h3 (k + i) hi' j u hu
    rwa [Nat.add_mul, ← Nat.add_assoc] at this
end
theorem Keeps.grow {W v v' : World} {B : Nat} (h : Keeps W v) (hb : Below B v v') (hB : W.heap.size ≤ B) : Keeps W v' := Keeps.of (h.2.trans (hb.mono hB))
section
variable {ops : Array Oper} {o : Oper} {a : Act} {Q : Exit → Act → World → Prop} {wr : World} {K : Act → World → Prop} {E : Prop}
end
end Go.Proofs.YtkipfalolfleaaaGreatDoor

/- A copy of pods: the library's Clone; append of one move at a step of a region that draws its order. -/
namespace Go.Proofs.YtkipfalolfleaaaGreatDoor
set_option linter.unusedSimpArgs false
open Go.RowKit Go.Shelf
set_option linter.unusedVariables false

section
variable {ops : Array Oper} {o : Oper} {a : Act} {Q : Exit → Act → World → Prop} {wr : World} {K : Act → World → Prop} {E : Prop}
end
end Go.Proofs.YtkipfalolfleaaaGreatDoor

/- The program's orderFault at every place, and idFault, at each kind of record. -/
namespace Go.Proofs.YtkipfalolfleaaaGreatDoor
set_option linter.unusedSimpArgs false
open Go.RowKit
set_option linter.unusedVariables false

end Go.Proofs.YtkipfalolfleaaaGreatDoor

/- The program's nodeFault and loadFault. -/
namespace Go.Proofs.YtkipfalolfleaaaGreatDoor
set_option linter.unusedSimpArgs false
open Go.RowKit
set_option linter.unusedVariables false

end Go.Proofs.YtkipfalolfleaaaGreatDoor

/- The program's podFault, its closure in Check, and wantFault. -/
namespace Go.Proofs.YtkipfalolfleaaaGreatDoor
set_option linter.unusedSimpArgs false
open Go.RowKit
set_option linter.unusedVariables false

end Go.Proofs.YtkipfalolfleaaaGreatDoor

/- What the program's checkEach comes to: mathematics. -/
namespace Go.Proofs.YtkipfalolfleaaaGreatDoor
set_option linter.unusedSimpArgs false
open Go.RowKit
set_option linter.unusedVariables false

end Go.Proofs.YtkipfalolfleaaaGreatDoor

/- The program's checkEach, at one kind of record. -/
namespace Go.Proofs.YtkipfalolfleaaaGreatDoor
set_option linter.unusedSimpArgs false
open Go.RowKit
set_option linter.unusedVariables false

end Go.Proofs.YtkipfalolfleaaaGreatDoor

/- The program's checkEach, at one kind of record. -/
namespace Go.Proofs.YtkipfalolfleaaaGreatDoor
set_option linter.unusedSimpArgs false
open Go.RowKit
set_option linter.unusedVariables false

end Go.Proofs.YtkipfalolfleaaaGreatDoor

/- The program's checkEach, at one kind of record. -/
namespace Go.Proofs.YtkipfalolfleaaaGreatDoor
set_option linter.unusedSimpArgs false
open Go.RowKit
set_option linter.unusedVariables false

end Go.Proofs.YtkipfalolfleaaaGreatDoor

/- The head of layer 3's statements, and the law ClusterFewer, walked, from what cluster.Check and cluster.Fair come to. -/
namespace Go.Proofs.YtkipfalolfleaaaGreatDoor
set_option linter.unusedSimpArgs false
open Go.RowKit
set_option linter.unusedVariables false

def SnapD.Ok (s : SnapD) : Prop := (∀ a ∈ s.nodes, a.Ok) ∧ (∀ a ∈ s.loads, a.Ok) ∧ (∀ a ∈ s.pods, a.Ok)
def z4 : V4 := ⟨0, 0, 0, 0⟩
end Go.Proofs.YtkipfalolfleaaaGreatDoor

/- The program's sizesMayBe and Check: what is amiss first with a snapshot. -/
namespace Go.Proofs.YtkipfalolfleaaaGreatDoor
set_option linter.unusedSimpArgs false
open Go.RowKit
set_option linter.unusedVariables false

end Go.Proofs.YtkipfalolfleaaaGreatDoor

/- The program's Fair: what is amiss first with a spec. -/
namespace Go.Proofs.YtkipfalolfleaaaGreatDoor
set_option linter.unusedSimpArgs false
open Go.RowKit
set_option linter.unusedVariables false

theorem ErrIs.more {p : Int × Int} {B B' : Nat} {w : World} {u : Value} (h : ErrIs p B w u) (hB : B' ≤ B) : ErrIs p B' w u := by
  rcases h with h | h | ⟨k, g, h1, h2, h3, h4⟩
  · exact .inl h
  · exact .inr (.inl h)
  · exact .inr (.inr ⟨k, g, h1, h2, Nat.le_trans hB h3, h4⟩)
end Go.Proofs.YtkipfalolfleaaaGreatDoor

/- The program's Walk of layer 12. -/
namespace Go.Proofs.YtkipfalolfleaaaGreatDoor
set_option linter.unusedSimpArgs false
open Go.RowKit
set_option linter.unusedVariables false

theorem ErrIs.put {p : Int × Int} {B : Nat} {w : World} {u : Value} (h : ErrIs p B w u) {q : Addr} (hq : q.block < B) (v : Value) : ErrIs p B (w.setCell q v) u := by
  rcases h with h | h | ⟨k, g, h1, h2, h3, h4⟩
  · exact .inl h
  · exact .inr (.inl h)
  · exact .inr (.inr ⟨k, g, h1, h2, h3, (Below.heap_setCell w q v g (by omega)).trans h4⟩)
theorem OwnAt.from {B : Nat} {l : List PodD} {w : World} {A : Option Addr} {c : Nat} (h : OwnAt B l w A c) : ∀ a, A = some a → B ≤ a.block ∧ a.block < w.heap.size := by
  intro a ha
  rcases h.2 with ⟨h0, _⟩ | ⟨g, cap, cur, hv, hb, hg, _⟩
  · injection h0 with h0 _ _
    rw [h0] at ha; cases ha
  · injection hv with h0 _ _
    rw [h0] at ha
    injection ha with ha
    rw [← ha]
    exact ⟨hb, (Array.getElem?_eq_some_iff.1 hg).1⟩
/-- What is handed in to a walk. -/
structure WalkArgs (s : SnapD) (x : SpecD) (A1 A2 A3 A5 : Option Addr) (n1 c1 n2 c2 n3 c3 n5 c5 : Nat) (w : World) : Prop where
  g : Laid w
  ok : s.Ok
  wo : ∀ a ∈ x.wants, a.Ok
  i1 : I64 x.preempts
  i2 : I64 x.shifts
  s1 : n1 = s.nodes.length ∧ n1 ≤ 40 ∧ n1 ≤ c1 ∧ c1 ≤ maxLen
  s2 : n2 = s.loads.length ∧ n2 ≤ 40 ∧ n2 ≤ c2 ∧ c2 ≤ maxLen
  s3 : n3 = s.pods.length ∧ n3 ≤ 40 ∧ n3 ≤ c3 ∧ c3 ≤ maxLen ∧ (A3 = none → c3 = 0)
  s5 : n5 = x.wants.length ∧ n5 ≤ 40 ∧ n5 ≤ c5 ∧ c5 ≤ maxLen
  r1 : Recs 10 cellsN w w.heap.size A1 s.nodes
  r2 : Recs 5 cellsL w w.heap.size A2 s.loads
  r3 : Recs 8 cellsP w w.heap.size A3 s.pods
  r5 : Recs 6 cellsW w w.heap.size A5 x.wants
theorem WalkArgs.at {s : SnapD} {x : SpecD} {A1 A2 A3 A5 : Option Addr} {n1 c1 n2 c2 n3 c3 n5 c5 : Nat} {w V : World} (h : WalkArgs s x A1 A2 A3 A5 n1 c1 n2 c2 n3 c3 n5 c5 w) (hV : Below w.heap.size w V) : WalkArgs s x A1 A2 A3 A5 n1 c1 n2 c2 n3 c3 n5 c5 V :=
  ⟨Laid.below h.g hV (Nat.le_refl _), h.ok, h.wo, h.i1, h.i2, h.s1, h.s2, h.s3, h.s5, (h.r1.below hV (Nat.le_refl _)).more hV.size, (h.r2.below hV (Nat.le_refl _)).more hV.size, (h.r3.below hV (Nat.le_refl _)).more hV.size, (h.r5.below hV (Nat.le_refl _)).more hV.size⟩
end Go.Proofs.YtkipfalolfleaaaGreatDoor

/- The first proposal done, again and again: the program's Tidy of layer 16. -/
namespace Go.Proofs.YtkipfalolfleaaaGreatDoor
set_option linter.unusedSimpArgs false
open Go.RowKit Go.Shelf
set_option linter.unusedVariables false

/-- What is turned as a move and its state are taken over: the state's box, and the moves' row. -/
def OTd (g : Nat) (v : Value) (k : Nat) : Prop := k = g + 2 ∨ v.ownBlock = some k
def OWd (v : Value) (k : Nat) : Prop := v.ownBlock = some k
theorem But.wide {g : Nat} {v : Value} {A B : World} (h : But (OWd v) A B) : But (OTd g v) A B := h.imp fun k _ e => .inr e
/-- The pods don't lie where the moves lie. -/
def OffQ (l : List PodD) (A : Option Addr) (v : Value) : Prop := l = [] ∨ ∀ a, A = some a → v.ownBlock ≠ some a.block
theorem OffQ.of {W : World} {A : Option Addr} {c g : Nat} {v : Value} {l : List PodD} (h : Out 8 cellsP W l A c) (hA : ∀ p, A = some p → ∀ k, v.ownBlock = some k → k < p.block) (hg : v.ownBlock = some g ∨ W.heap.size ≤ g) (n cap : Nat) : OffQ l A (.slice (some ⟨g, 0, none⟩) n cap) := by
  rcases h.recs with h0 | ⟨b, o, h1, h2, _⟩
  · exact .inl h0
  · refine .inr fun p hp e => ?_
    have e1 : g = p.block := by simpa [Value.ownBlock] using e
    rw [h1] at hp
    injection hp with hp
    subst hp
    rcases hg with hg | hg
    · have := hA _ h1 g hg; simp at this e1; omega
    · simp at e1; omega
structure TdS (a b : List Value) (w : World) (u : StateD) (ms : List MoveD) (A : Option Addr) (c : Nat) (v : Value) (V : World) : Prop where
  box : T3 a b [.slice A u.pods.length c, .int .i64 u.preempts, .int .i64 u.shifts] w V
  res : Bf V (w.heap.size + 3) [.slice none 0 0, .int .i64 0, .int .i64 0]
  out : Out 8 cellsP V u.pods A c
  new : ∀ p, A = some p → w.heap.size + 4 ≤ p.block
  row : V.ownsRow (w.heap.size + 4) 33 4 v ms.length (ms.flatMap cellsM)
  off : OffQ u.pods A v
theorem TdS.keep {a b : List Value} {w V V' : World} {u : StateD} {ms : List MoveD} {A : Option Addr} {c : Nat} {v : Value} (h : TdS a b w u ms A c v V) (hb : Below V.heap.size V V') : TdS a b w u ms A c v V' :=
  ⟨h.box.keep hb, h.res.below hb h.res.lt, h.out.later hb, h.new, own_belowS h.row hb (Nat.le_refl _), h.off⟩
theorem TdS.args {ns : List NodeD} {ls : List LoadD} {x : SpecD} {t : StateD} {A1 A2 A4 A5 : Option Addr} {n1 n2 n4 c4 n5 : Nat} {a b : List Value} {w V : World} {u : StateD} {ms : List MoveD} {A : Option Addr} {c : Nat} {v : Value} (h : TdS a b w u ms A c v V)
    (k : TidyArgs ns ls x t A1 A2 A4 A5 n1 n2 n4 c4 n5 w) (ho : ∀ p ∈ u.pods, p.Ok) (hl : u.pods.length = t.pods.length) : TidyArgs ns ls x u A1 A2 A A5 n1 n2 u.pods.length c n5 V := by
  have k0 := k.at h.box.below
  exact ⟨⟨k0.a.g, k0.a.no, ho, k0.a.e1, k0.a.l1, k0.a.r1, k0.a.e2, k0.a.l2, k0.a.r2, rfl, by rw [hl, ← k0.a.e4]; exact k0.a.l4, h.out.1, h.out.recs⟩, h.out.2.2.1, k0.e5, k0.l5, k0.r5, k0.xo⟩

end Go.Proofs.YtkipfalolfleaaaGreatDoor

/- The heads of layer 5's laws: few of all, and the document's examples. -/
namespace Go.Proofs.YtkipfalolfleaaaGreatDoor
set_option linter.unusedSimpArgs false
open Go.RowKit
set_option linter.unusedVariables false

def few05 (n1 n2 n3 nx nt : Nat) : Bool := decide (n1 ≤ 40 ∧ n2 ≤ 40 ∧ n3 ≤ 40) && (decide (nx ≤ 40) && decide (nt ≤ 40))
set_option maxHeartbeats 1600000 in
theorem few05_any (A1 A2 A3 A4 A5 : Option Addr) (n1 c1 n2 c2 n3 c3 n4 c4 n5 c5 : Nat) (v1 v2 u1 u2 : Value) (w : World) :
    Calls Tryz.prog 5 #[.agg #[.slice A1 n1 c1, .slice A2 n2 c2, .slice A3 n3 c3], .agg #[.slice A4 n4 c4, v1, v2], .agg #[.slice A5 n5 c5, u1, u2]] w fun e w' => e = .returned (.bool (few05 n1 n2 n3 n4 n5)) ∧ Below w.heap.size w w' := by
  have b00 := below_three w (.cells #[.slice A1 n1 c1, .slice A2 n2 c2, .slice A3 n3 c3] 26) (.cells #[.slice A4 n4 c4, v1, v2] 29) (.cells #[.slice A5 n5 c5, u1, u2] 31)
  go_enter Tryz.func5, Tryz.ntmps5
  go_wp2_with fail
  refine (few_any _ _ _ _ _ _ _ _ _ _).mono ?_
  rintro e w1 ⟨rfl, hb1⟩
  have k1 : Below (w.heap.size + 3) _ w1 := hb1.mono (by simp)
  have kw1 := b00.trans (k1.mono (by omega))
  have a3 : w1.cell? ⟨w.heap.size + 1, 0, none⟩ = some (.slice A4 n4 c4) := (k1.cell (p := ⟨w.heap.size + 1, 0, none⟩) (by simp)).trans (by rw [World.cell?_alloc_lt _ _ _ (by simp)]; simp)
  have a4 : w1.cell? ⟨w.heap.size + 2, 0, none⟩ = some (.slice A5 n5 c5) := (k1.cell (p := ⟨w.heap.size + 2, 0, none⟩) (by simp)).trans (by rw [World.cell?_alloc_at _ _ _ _ (by simp)]; simp)
  cases hf : decide (n1 ≤ 40 ∧ n2 ≤ 40 ∧ n3 ≤ 40) with
  | false =>
    have HE := Lib.hid (show few05 n1 n2 n3 n4 n5 = false by unfold few05; rw [hf]; rfl)
    clear hf
    go_wp2
    go_ret
    exact ⟨ret_bool HE.out.symm, kw1⟩
  | true =>
    by_cases h4 : n4 ≤ 40
    · have d4 : decide ((n4 : Int) ≤ 40) = true := decide_eq_true (by omega)
      by_cases h5 : n5 ≤ 40
      · have d5 : decide ((n5 : Int) ≤ 40) = true := decide_eq_true (by omega)
        have HE := Lib.hid (show few05 n1 n2 n3 n4 n5 = true by unfold few05; rw [hf]; simp [h4, h5])
        clear hf
        go_wp2
        go_ret
        exact ⟨ret_bool HE.out.symm, kw1⟩
      · have d5 : decide ((n5 : Int) ≤ 40) = false := decide_eq_false (by omega)
        have HE := Lib.hid (show few05 n1 n2 n3 n4 n5 = false by unfold few05; rw [hf]; simp [h5])
        clear hf
        go_wp2
        go_ret
        exact ⟨ret_bool HE.out.symm, kw1⟩
    · have d4 : decide ((n4 : Int) ≤ 40) = false := decide_eq_false (by omega)
      have HE := Lib.hid (show few05 n1 n2 n3 n4 n5 = false by unfold few05; rw [hf]; simp [h4])
      clear hf
      go_wp2
      go_ret
      exact ⟨ret_bool HE.out.symm, kw1⟩
theorem Out.alloc {α : Type} {size : Nat} {cells : α → List Value} {w : World} {xs : List α} {A : Option Addr} {c : Nat} (h : Out size cells w xs A c) (o : Obj) : Out size cells (w.alloc o) xs A c :=
  ⟨h.1, h.2.1, h.2.2.1, (h.2.2.2.below ((Below.refl _ w).alloc (Nat.le_refl _) o) (Nat.le_refl _)).more (by simp)⟩
end Go.Proofs.YtkipfalolfleaaaGreatDoor

/- The head of layer 7's laws: the document's example, and two pods that clash. -/
namespace Go.Proofs.YtkipfalolfleaaaGreatDoor
set_option linter.unusedSimpArgs false
open Go.RowKit
set_option linter.unusedVariables false

end Go.Proofs.YtkipfalolfleaaaGreatDoor

/- The head of layer 16's laws: two pods at two nodes, one each, with room enough. -/
namespace Go.Proofs.YtkipfalolfleaaaGreatDoor
set_option linter.unusedSimpArgs false
open Go.RowKit
set_option linter.unusedVariables false

theorem recsNewQ {α : Type} {size : Nat} {cells : α → List Value} (hc : ∀ x, (cells x).length = size) (w : World) (t : TypeId) (xs : List α) (cs : Array Value) (hcs : cs = (xs.flatMap cells).toArray) {g : Nat} (hg : g = w.heap.size) : Recs size cells (w.alloc (.cells cs t)) (g + 1) (some ⟨g, 0, none⟩) xs := by
  subst hcs hg
  refine .inr ⟨w.heap.size, 0, rfl, by omega, fun i hi j u hu => ?_⟩
  have hj : j < size := by have := (List.getElem?_eq_some_iff.1 hu).1; rwa [hc] at this
  have h2 := flatMap_get (size := size) hc hi hj
  rw [hu] at h2
  simpa using h2

end Go.Proofs.YtkipfalolfleaaaGreatDoor

namespace Go.Proofs.YtkipfalolfleaaaGreatDoor
set_option linter.unusedSimpArgs false
open Go.RowKit
set_option linter.unusedVariables false

def upN18 : List NodeD := [⟨3, 1, ⟨0, 0, 0, 0⟩, ⟨0, 0, 0, 0⟩⟩]
def upL18 : List LoadD := [⟨1, false, 0, 0, 1⟩]
def upP18 : List PodD := [⟨1, 1, 0, ⟨0, 0, 0, 0⟩, 0⟩]
def upX18 : SpecD := ⟨[], 0, 0⟩
def upT18 : List MoveD := [⟨1, 1, 3, 0⟩, ⟨4, 1, 0, 1⟩]
theorem upT18_is : TriesOf upN18 upP18 upT18 := ⟨List.Perm.refl _, by simp [upT18, ltM]⟩
theorem upT18_none : TriesOf upN18 [] [] := ⟨List.Perm.refl _, List.Pairwise.nil⟩
theorem up18_all : allD upN18 upL18 upX18 ⟨upP18, 0, 0⟩ upT18 = [(⟨1, 1, 3, 0⟩, ⟨[⟨1, 1, 0, ⟨0, 0, 0, 0⟩, 3⟩], 0, 0⟩)] := by kernel_rfl
theorem upN18_ok : ∀ x ∈ upN18, x.Ok := by
  intro x hx
  simp only [upN18, List.mem_cons, List.not_mem_nil, or_false] at hx
  rcases hx with rfl
  exact ⟨⟨by decide, by decide⟩, ⟨by decide, by decide⟩, ⟨⟨by decide, by decide⟩, ⟨by decide, by decide⟩, ⟨by decide, by decide⟩, ⟨by decide, by decide⟩⟩, ⟨⟨by decide, by decide⟩, ⟨by decide, by decide⟩, ⟨by decide, by decide⟩, ⟨by decide, by decide⟩⟩⟩
theorem upP18_ok : ∀ x ∈ upP18, x.Ok := by
  intro x hx
  simp only [upP18, List.mem_cons, List.not_mem_nil, or_false] at hx
  rcases hx with rfl
  exact ⟨⟨by decide, by decide⟩, ⟨by decide, by decide⟩, ⟨by decide, by decide⟩, ⟨⟨by decide, by decide⟩, ⟨by decide, by decide⟩, ⟨by decide, by decide⟩, ⟨by decide, by decide⟩⟩, ⟨by decide, by decide⟩⟩

set_option maxHeartbeats 6400000 in
set_option maxRecDepth 100000 in
theorem up18_any (w : World) (hg : Laid w) : Calls Tryz.prog 4 #[] w fun e w' => e = .returned (.bool true) ∧ Below w.heap.size w w' := by
  have k1 : Below w.heap.size w (w.alloc (.cells #[.int .i64 3, .int .i64 1, .int .u64 0, .int .u64 0, .int .u64 0, .int .u64 0, .int .u64 0, .int .u64 0, .int .u64 0, .int .u64 0] 49)) := (Below.refl _ w).alloc (Nat.le_refl _) _
  have z1 : (w.alloc (.cells #[.int .i64 3, .int .i64 1, .int .u64 0, .int .u64 0, .int .u64 0, .int .u64 0, .int .u64 0, .int .u64 0, .int .u64 0, .int .u64 0] 49)).heap.size = w.heap.size + 1 := by simp
  have r1 := recsNewQ (cells := cellsN) (size := 10) (fun _ => rfl) w 49 upN18 #[.int .i64 3, .int .i64 1, .int .u64 0, .int .u64 0, .int .u64 0, .int .u64 0, .int .u64 0, .int .u64 0, .int .u64 0, .int .u64 0] rfl (g := w.heap.size) rfl
  generalize hW1 : (w.alloc (.cells #[.int .i64 3, .int .i64 1, .int .u64 0, .int .u64 0, .int .u64 0, .int .u64 0, .int .u64 0, .int .u64 0, .int .u64 0, .int .u64 0] 49)) = W1 at *
  have k2 : Below W1.heap.size W1 (W1.alloc (.cells #[.int .i64 1, .bool false, .int .i64 0, .int .i64 0, .int .i64 1] 51)) := (Below.refl _ _).alloc (Nat.le_refl _) _
  have z2 : (W1.alloc (.cells #[.int .i64 1, .bool false, .int .i64 0, .int .i64 0, .int .i64 1] 51)).heap.size = w.heap.size + 2 := by simp [z1]
  have r2 := recsNewQ (cells := cellsL) (size := 5) (fun _ => rfl) W1 51 upL18 #[.int .i64 1, .bool false, .int .i64 0, .int .i64 0, .int .i64 1] rfl (g := w.heap.size + 1) z1.symm
  generalize hW2 : (W1.alloc (.cells #[.int .i64 1, .bool false, .int .i64 0, .int .i64 0, .int .i64 1] 51)) = W2 at *
  have k3 : Below W2.heap.size W2 (W2.alloc (.cells #[.slice (some ⟨w.heap.size, 0, none⟩) 1 1, .slice (some ⟨w.heap.size + 1, 0, none⟩) 1 1, .slice none 0 0] 26)) := (Below.refl _ _).alloc (Nat.le_refl _) _
  have z3 : (W2.alloc (.cells #[.slice (some ⟨w.heap.size, 0, none⟩) 1 1, .slice (some ⟨w.heap.size + 1, 0, none⟩) 1 1, .slice none 0 0] 26)).heap.size = w.heap.size + 3 := by simp [z2]
  have S0 : Bf (W2.alloc (.cells #[.slice (some ⟨w.heap.size, 0, none⟩) 1 1, .slice (some ⟨w.heap.size + 1, 0, none⟩) 1 1, .slice none 0 0] 26)) (w.heap.size + 2) [.slice (some ⟨w.heap.size, 0, none⟩) 1 1, .slice (some ⟨w.heap.size + 1, 0, none⟩) 1 1, .slice none 0 0] := Bf.new W2 _ _ z2.symm
  generalize hW3 : (W2.alloc (.cells #[.slice (some ⟨w.heap.size, 0, none⟩) 1 1, .slice (some ⟨w.heap.size + 1, 0, none⟩) 1 1, .slice none 0 0] 26)) = W3 at *
  have k4 : Below W3.heap.size W3 (W3.alloc (.cells #[.int .i64 1, .int .i64 1, .int .i64 0, .int .u64 0, .int .u64 0, .int .u64 0, .int .u64 0, .int .i64 0] 55)) := (Below.refl _ _).alloc (Nat.le_refl _) _
  have z4 : (W3.alloc (.cells #[.int .i64 1, .int .i64 1, .int .i64 0, .int .u64 0, .int .u64 0, .int .u64 0, .int .u64 0, .int .i64 0] 55)).heap.size = w.heap.size + 4 := by simp [z3]
  have r4 := recsNewQ (cells := cellsP) (size := 8) (fun _ => rfl) W3 55 upP18 #[.int .i64 1, .int .i64 1, .int .i64 0, .int .u64 0, .int .u64 0, .int .u64 0, .int .u64 0, .int .i64 0] rfl (g := w.heap.size + 3) z3.symm
  have kw3 : Below w.heap.size w W3 := (k1.trans (k2.mono (by omega))).trans (k3.mono (by omega))
  have HAR : Hid (∀ V, Below W3.heap.size W3 V → ∀ (ps : List PodD) (A4 : Option Addr) (n4 c4 : Nat), (∀ p ∈ ps, p.Ok) → n4 = ps.length → n4 ≤ 400 → n4 ≤ c4 → (A4 = none → c4 = 0) → Recs 8 cellsP V V.heap.size A4 ps →
      TidyArgs upN18 upL18 upX18 ⟨ps, 0, 0⟩ (some ⟨w.heap.size, 0, none⟩) (some ⟨w.heap.size + 1, 0, none⟩) A4 none 1 1 n4 c4 0 V) := fun V hV ps A4 n4 c4 hok h1 h2 h3 h4 h5 => by
    have b2 : Below W2.heap.size W2 V := k3.trans (hV.mono k3.size)
    have b1 : Below W1.heap.size W1 V := k2.trans (b2.mono k2.size)
    exact ⟨⟨Laid.below hg (kw3.trans (hV.mono kw3.size)) (Nat.le_refl _), upN18_ok, hok, rfl, by decide, (r1.below b1 (by omega)).more (by have := b1.size; omega), rfl, by decide, (r2.below b2 (by omega)).more (by have := b2.size; omega), h1, h2, h3, h5⟩, h4, rfl, by decide, Recs.nil, (fun _ h => by simp [upX18] at h)⟩
  have hc1 := movesAll_any upN18 upL18 upX18 ⟨upP18, 0, 0⟩ upT18 upT18_is (some ⟨w.heap.size, 0, none⟩) (some ⟨w.heap.size + 1, 0, none⟩) none (some ⟨w.heap.size + 3, 0, none⟩) none 1 1 1 1 0 0 1 1 0 0 _
    (HAR.out _ k4 upP18 (some ⟨w.heap.size + 3, 0, none⟩) 1 1 upP18_ok rfl (by decide) (by decide) (fun h => by cases h) (r4.more (by omega)))
  rw [up18_all] at hc1
  have HC1 : Hid (Calls Tryz.prog 9 #[.agg #[.slice (some ⟨w.heap.size, 0, none⟩) 1 1, .slice (some ⟨w.heap.size + 1, 0, none⟩) 1 1, .slice none 0 0], .agg #[.slice none 0 0, .int .i64 0, .int .i64 0], .agg #[.slice (some ⟨w.heap.size + 3, 0, none⟩) 1 1, .int .i64 0, .int .i64 0]] (W3.alloc (.cells #[.int .i64 1, .int .i64 1, .int .i64 0, .int .u64 0, .int .u64 0, .int .u64 0, .int .u64 0, .int .i64 0] 55))
      fun e w' => ∃ A c, e = .returned (.slice A 1 c) ∧ Out 4 cellsM w' [⟨1, 1, 3, 0⟩] A c ∧ Below W3.heap.size W3 w') :=
    hc1.mono fun e w' ⟨A, c, he, ho, _, hb⟩ => ⟨A, c, he, ho, k4.trans (hb.mono k4.size)⟩
  have HC2 : Hid (∀ V, Below W3.heap.size W3 V → Calls Tryz.prog 9 #[.agg #[.slice (some ⟨w.heap.size, 0, none⟩) 1 1, .slice (some ⟨w.heap.size + 1, 0, none⟩) 1 1, .slice none 0 0], .agg #[.slice none 0 0, .int .i64 0, .int .i64 0], .agg #[.slice none 0 0, .int .i64 0, .int .i64 0]] V
      fun e w' => ∃ A c, e = .returned (.slice A 0 c) ∧ Below V.heap.size V w') := fun V hV =>
    (movesAll_any upN18 upL18 upX18 ⟨[], 0, 0⟩ [] upT18_none (some ⟨w.heap.size, 0, none⟩) (some ⟨w.heap.size + 1, 0, none⟩) none none none 1 1 1 1 0 0 0 0 0 0 V
      (HAR.out V hV [] none 0 0 (fun _ h => by simp at h) rfl (by decide) (by decide) (fun _ => rfl) Recs.nil)).mono fun e w' ⟨A, c, he, _, _, hb⟩ => ⟨A, c, he, hb⟩
  have HW3 := Lib.hid hW3
  clear hW3
  have HK3 := Lib.hid kw3
  have HS0 := Lib.hid S0
  obtain ⟨a0, a1, a2, a3⟩ := S0.cells3
  have hmv : ∀ v, (binOp .eql 33 (.agg #[.int .i64 1, .int .i64 1, .int .i64 3, .int .i64 0]) (.agg #[.int .i64 1, .int .i64 1, .int .i64 3, .int .i64 0])).run Tryz.prog v = .ok (.bool true) v := fun v => move_is ⟨1, 1, 3, 0⟩ ⟨1, 1, 3, 0⟩ v
  go_enter Tryz.func4, Tryz.ntmps4
  go_upto_region 2 with fail
  rw [HW3.out]
  clear k1 z1 r1 hW1 k2 z2 r2 hW2 k3 k4 z4 r4 kw3 S0 HAR hg hc1
  go_wp2_with fail
  refine HC1.out.mono ?_
  rintro e w5 ⟨A, c, rfl, ho, hb5⟩
  have HB5 := Lib.hid hb5
  have HC := Lib.hid (HC2.out w5 hb5)
  have HO := Lib.hid ho
  clear a0 a1 a2 a3 ho hb5 HC1 HC2
  obtain ⟨a0, a1, a2, a3⟩ := (HS0.out.below HB5.out HS0.out.lt).cells3
  go_wp2_with fail
  refine HC.out.mono ?_
  rintro e w6 ⟨A', c', rfl, hb6⟩
  have ho6 := HO.out.later hb6
  obtain ⟨b, o, rfl, hb, he⟩ := ho6.recs.at (k := 0) (by simp)
  have m0 : w6.cell? ⟨b, o, none⟩ = some (.int .i64 1) := by have := he 0 _ rfl; simpa using this
  have m1 : w6.cell? ⟨b, o + 1, none⟩ = some (.int .i64 1) := by have := he 1 _ rfl; simpa using this
  have m2 : w6.cell? ⟨b, o + 2, none⟩ = some (.int .i64 3) := by have := he 2 _ rfl; simpa using this
  have m3 : w6.cell? ⟨b, o + 3, none⟩ = some (.int .i64 0) := by have := he 3 _ rfl; simpa using this
  have HB6 := Lib.hid (HK3.out.trans ((HB5.out.trans (hb6.mono HB5.out.size)).mono HK3.out.size))
  clear a0 a1 a2 a3 ho6 he hb6 HO HC
  go_wp2
  go_ret
  exact ⟨rfl, HB6.out⟩
end Go.Proofs.YtkipfalolfleaaaGreatDoor
