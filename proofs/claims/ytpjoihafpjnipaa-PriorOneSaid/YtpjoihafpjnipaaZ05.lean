/- Joined texts, part 5: PF PD BA BB UJ WR EC WS WB WC BC BD UK CH BP PU. -/
import Derived.Test.YtpjoihafpjnipaaZ04
import Derived.Deep.CutRange
import Derived.Test.YtpjoihafpjnipaaZ01
import Derived.Sort.Grow
import Derived.Test.YtpjoihafpjnipaaZ02
import Derived.Test.YtpjoihafpjnipaaZ03
import Derived.Deep.RegionHeld3

/- The program's Victims, from what slices.SortFunc comes to. -/
namespace Go.Proofs.Ytpjoihafpjnipaa
set_option linter.unusedSimpArgs false
open Go.RowKit
set_option linter.unusedVariables false

/-- slices.SortFunc at a row of pods of the call's own, in the order of those that may go. -/
def SortPods : Prop := ∀ (B : Nat) (v : Value) (xs : List PodD) (m : Nat) (w : World), B ≤ w.heap.size → m = xs.length → w.ownsRow B 32 8 v m (xs.flatMap cellsP) → m ≤ 1000 →
  Calls Try.prog 12 #[v, .func (.func 13) #[] #[]] w fun e w' => e = .returned (.tuple #[]) ∧ ∃ ys : List PodD, ys.Perm xs ∧ (ys.Pairwise fun x y => ¬ ltV y x) ∧ w'.ownsRow B 32 8 v m (ys.flatMap cellsP) ∧ Below B w w'

def VicRel (l : List PodD) (node : Int) (x : PodD) (W : World) (B : Nat) (v i : Value) (wr : World) : Prop :=
  ∃ k m : Nat, k ≤ l.length ∧ i = .int .i64 k ∧ m = (vicD node x (l.take k)).length ∧ wr.ownsRow B 32 8 v m ((vicD node x (l.take k)).flatMap cellsP) ∧ Below B W wr
/-- What Victims tells. -/
def VicTo (node pod : Int) (l : List PodD) (w : World) (e : Ending) (w' : World) : Prop :=
  ∃ (v : Value) (zs : List Int), e = .returned v ∧ VicIs node pod l zs ∧ w'.ownsRow w.heap.size 3 1 v zs.length (i64s zs) ∧ Below w.heap.size w w'
theorem own_pods {B m : Nat} {e : TypeId} {w1 : World} {v : Value} {xs ys : List PodD} {x : PodD} (hm : m = xs.length) (h : w1.ownsRow B e 8 v (m + 1) (xs.flatMap cellsP ++ cellsP x)) (he : ys = xs ++ [x]) : w1.ownsRow B e 8 v (m + 1) (ys.flatMap cellsP) ∧ m + 1 = ys.length := by
  subst he hm; simpa using h

theorem own_below8 {w w' : World} {B base n size : Nat} {e : TypeId} {v : Value} {xs : List Value} (h : w.ownsRow base e size v n xs) (hb : Below B w w') (hB : w.heap.size ≤ B) : w'.ownsRow base e size v n xs := by
  refine ⟨h.1, ?_⟩
  rcases h.2 with h0 | ⟨g, cap, cur, hv, hb1, hg, rest⟩
  · exact .inl h0
  · have hlt : g < w.heap.size := (Array.getElem?_eq_some_iff.1 hg).1
    exact .inr ⟨g, cap, cur, hv, hb1, (hb.block g (by omega)).trans hg, rest⟩

set_option maxHeartbeats 6400000 in
set_option maxRecDepth 100000 in
theorem priorVictims_any (HS : SortPods) (l : List PodD) (pod node : Int) (A : Option Addr) (n c : Nat) (v1 v2 : Value) (w : World) (hn : n = l.length) (hl : n ≤ 1000) (hr : Recs 8 cellsP w w.heap.size A l) :
    Calls Try.prog 7 #[.agg #[.slice A n c, v1, v2], .int .i64 pod, .int .i64 node] w (VicTo node pod l w) := by
  have HSS := Lib.hid HS
  have HR := Lib.hid hr
  have HN := Lib.hid hn
  have B0 : Bf (w.alloc (.cells #[.slice A n c, v1, v2] 24)) w.heap.size [.slice A n c, v1, v2] := Bf.new w [.slice A n c, v1, v2] 24 rfl
  have k0 : Below w.heap.size w (w.alloc (.cells #[.slice A n c, v1, v2] 24)) := (Below.refl _ _).alloc (Nat.le_refl _) _
  have HC1 := Lib.hid (podOf_any l pod A n c v1 v2 _ hn hl ((hr.below k0 (Nat.le_refl _)).more k0.size))
  have HX : Hid (∃ x s, x = podZ pod l ∧ s = hasP pod l) := ⟨_, _, rfl, rfl⟩
  obtain ⟨x, s, hx, hs⟩ := HX.out
  rw [← hx, ← hs] at HC1
  have HPX := Lib.hid hx
  have HPS := Lib.hid hs
  clear hn hr HX hx hs HS
  go_enter Try.func7, Try.ntmps7
  go_wp2_with fail
  refine HC1.out.mono ?_
  rintro e w1 ⟨rfl, hb1⟩
  have k1 := k0.trans (hb1.mono k0.size)
  have B1 := B0.below hb1 B0.lt
  have X1 : Bf (w1.alloc (.cells #[.int .i64 x.id, .int .i64 x.load, .int .i64 x.prio, .int .u64 x.req.a, .int .u64 x.req.b, .int .u64 x.req.c, .int .u64 x.req.d, .int .i64 x.node] 32)) w1.heap.size (cellsP x) := Bf.new w1 (cellsP x) 32 rfl
  have B2 := B1.alloc (.cells #[.int .i64 x.id, .int .i64 x.load, .int .i64 x.prio, .int .u64 x.req.a, .int .u64 x.req.b, .int .u64 x.req.c, .int .u64 x.req.d, .int .i64 x.node] 32)
  have k2 : Below w.heap.size w (w1.alloc (.cells #[.int .i64 x.id, .int .i64 x.load, .int .i64 x.prio, .int .u64 x.req.a, .int .u64 x.req.b, .int .u64 x.req.c, .int .u64 x.req.d, .int .i64 x.node] 32)) := k1.alloc k1.size _
  clear hb1 B0 k0 B1 k1
  go_upto_region 2 with fail
  generalize hW : w1.alloc (.cells #[.int .i64 x.id, .int .i64 x.load, .int .i64 x.prio, .int .u64 x.req.a, .int .u64 x.req.b, .int .u64 x.req.c, .int .u64 x.req.d, .int .i64 x.node] 32) = W at *
  generalize hg : w1.heap.size = gx at *
  clear hW hg w1
  cases s with
  | false =>
    go_wp2
    go_ret
    exact ⟨_, [], rfl, .inr ⟨.inl HPS.out.symm, rfl⟩, ⟨by simp, .inl ⟨rfl, by simp⟩⟩, k2⟩
  | true =>
    by_cases h0 : node = 0
    · have hd : (node == 0) = true := by simp [h0]
      have H0 := Lib.hid h0
      clear h0
      go_wp2
      go_ret
      exact ⟨_, [], rfl, .inr ⟨.inr H0.out, rfl⟩, ⟨by simp, .inl ⟨rfl, by simp⟩⟩, k2⟩
    · have hd : (node == 0) = false := by simp [h0]
      have H0 := Lib.hid h0
      clear h0
      obtain ⟨b0, b1, b2, b3⟩ := B2.cells3
      go_wp2
      clear b0 b1 b2 b3
      go_loopw [9, 27] (VicRel l node x W W.heap.size) (fun _ i _ => n - (intOf i).toNat)
      case atStart => exact ⟨0, 0, by omega, rfl, by simp [vicD], ⟨by simp [vicD], .inl ⟨rfl, rfl⟩⟩, Below.refl _ _⟩
      case round =>
        obtain ⟨k, m, hk, rfl, hm, hown, hbr⟩ := hrel
        have HMM := Lib.hid hm
        have HOW := Lib.hid hown
        have hz : W.heap.size ≤ wr.heap.size := hbr.size
        have kwr : Below w.heap.size w wr := k2.trans (hbr.mono k2.size)
        have hbx := X1.below hbr X1.lt
        clear hm hown
        by_cases hlt : k < n
        · have hkl : k < l.length := by have := HN.out; omega
          obtain ⟨b, o, rfl, hb, he⟩ := HR.out.at hkl
          generalize hxx : l[k] = y at *
          have HXX := Lib.hid hxx
          clear hxx
          have e0 : wr.cell? ⟨b, o + k * 8, none⟩ = some (.int .i64 y.id) := (kwr.cell (p := ⟨b, o + k * 8, none⟩) hb).trans (he 0 _ rfl)
          have e1 : wr.cell? ⟨b, o + k * 8 + 1, none⟩ = some (.int .i64 y.load) := (kwr.cell (p := ⟨b, o + k * 8 + 1, none⟩) hb).trans (he 1 _ rfl)
          have e2 : wr.cell? ⟨b, o + k * 8 + 2, none⟩ = some (.int .i64 y.prio) := (kwr.cell (p := ⟨b, o + k * 8 + 2, none⟩) hb).trans (he 2 _ rfl)
          have e3 : wr.cell? ⟨b, o + k * 8 + 3, none⟩ = some (.int .u64 y.req.a) := (kwr.cell (p := ⟨b, o + k * 8 + 3, none⟩) hb).trans (he 3 _ rfl)
          have e4 : wr.cell? ⟨b, o + k * 8 + 4, none⟩ = some (.int .u64 y.req.b) := (kwr.cell (p := ⟨b, o + k * 8 + 4, none⟩) hb).trans (he 4 _ rfl)
          have e5 : wr.cell? ⟨b, o + k * 8 + 5, none⟩ = some (.int .u64 y.req.c) := (kwr.cell (p := ⟨b, o + k * 8 + 5, none⟩) hb).trans (he 5 _ rfl)
          have e6 : wr.cell? ⟨b, o + k * 8 + 6, none⟩ = some (.int .u64 y.req.d) := (kwr.cell (p := ⟨b, o + k * 8 + 6, none⟩) hb).trans (he 6 _ rfl)
          have e7 : wr.cell? ⟨b, o + k * 8 + 7, none⟩ = some (.int .i64 y.node) := (kwr.cell (p := ⟨b, o + k * 8 + 7, none⟩) hb).trans (he 7 _ rfl)
          have hz0 := kwr.size
          have hbw : b < wr.heap.size := by omega
          clear he hz0
          have kV := hbr.alloc hz (.cells #[.int .i64 y.id, .int .i64 y.load, .int .i64 y.prio, .int .u64 y.req.a, .int .u64 y.req.b, .int .u64 y.req.c, .int .u64 y.req.d, .int .i64 y.node] 32)
          have hOV := HOW.out.alloc (.cells #[.int .i64 y.id, .int .i64 y.load, .int .i64 y.prio, .int .u64 y.req.a, .int .u64 y.req.b, .int .u64 y.req.c, .int .u64 y.req.d, .int .i64 y.node] 32)
          have hY : Bf (wr.alloc (.cells #[.int .i64 y.id, .int .i64 y.load, .int .i64 y.prio, .int .u64 y.req.a, .int .u64 y.req.b, .int .u64 y.req.c, .int .u64 y.req.d, .int .i64 y.node] 32)) wr.heap.size (cellsP y) := Bf.new wr (cellsP y) 32 rfl
          have hX := hbx.alloc (.cells #[.int .i64 y.id, .int .i64 y.load, .int .i64 y.prio, .int .u64 y.req.a, .int .u64 y.req.b, .int .u64 y.req.c, .int .u64 y.req.d, .int .i64 y.node] 32)
          go_upto_region 8 with fail
          generalize (wr.alloc (.cells #[.int .i64 y.id, .int .i64 y.load, .int .i64 y.prio, .int .u64 y.req.a, .int .u64 y.req.b, .int .u64 y.req.c, .int .u64 y.req.d, .int .i64 y.node] 32)) = V at *
          generalize wr.heap.size = gy at *
          have HOV := Lib.hid hOV
          have HKV := Lib.hid kV
          have HHX := Lib.hid hX
          have HHY := Lib.hid hY
          have HL : Hid (m ≤ 2000000) := by
            have h1 := vic_len node x (l.take k)
            have h2 := HMM.out
            have h4 := HN.out
            show _ ≤ _
            rw [List.length_take] at h1
            omega
          clear hOV kV hX hY e0 e1 e2 e3 e4 e5 e6 e7 hbr hbx kwr HOW
          obtain ⟨⟨y0, y1, y2, y3⟩, y4, y5, y6, y7, y8⟩ := HHY.out.cells8p
          obtain ⟨⟨x0, x1, x2, x3⟩, x4, x5, x6, x7, x8⟩ := HHX.out.cells8p
          by_cases hy : y.node = node
          · have hdn : (y.node == node) = true := by simp [hy]
            have HQ : Hid (isV node x y = goV y x) := by show _ = _; simp [isV, hdn]
            clear hy
            go_wp2_with fail
            refine (mayGo_any y x _).mono ?_
            rintro e w3 ⟨rfl, hb3⟩
            have HK3 := Lib.hid (HKV.out.trans (hb3.mono HKV.out.size))
            have HO3 := Lib.hid (own_below8 HOV.out hb3 (Nat.le_refl _))
            have HY3 := Lib.hid (HHY.out.below hb3 HHY.out.lt)
            clear hb3 y0 y1 y2 y3 y4 y5 y6 y7 y8 x0 x1 x2 x3 x4 x5 x6 x7 x8
            obtain ⟨⟨y0, y1, y2, y3⟩, y4, y5, y6, y7, y8⟩ := HY3.out.cells8p
            have HZ3 : Hid (W.heap.size ≤ w3.heap.size) := HK3.out.size
            cases hv : goV y x with
            | true =>
              have HE := Lib.hid (vic_in (node := node) (p := x) hkl HXX.out (HQ.out.trans hv))
              clear hv
              go_wp2_with (at_builtin; refine wpList_pushR 22 32 (.agg #[.int .i64 0, .int .i64 0, .int .i64 0, .int .u64 0, .int .u64 0, .int .u64 0, .int .u64 0, .int .i64 0]) 8 64 underPods infoPod rfl (by decide) (by decide) rfl (.tmp 40) (.tmp 42) rfl W.heap.size _ m _ (cellsP y) rfl (onePod _) HO3.out HZ3.out HL.out rfl rfl ?_; intro v' w4 hown4 hb4 hB4)
              have HO4 := Lib.hid (own_pods HMM.out hown4 HE.out)
              clear hown4
              go_wp2
              go_roundw
              case rel => exact ⟨k + 1, m + 1, by omega, by go_num, HO4.out.2, HO4.out.1, HK3.out.trans hb4⟩
              case measure => simp [intOf]; omega
            | false =>
              have HE := Lib.hid (vic_out (node := node) (p := x) hkl HXX.out (HQ.out.trans hv))
              clear hv
              go_wp2
              go_roundw
              case rel => exact ⟨k + 1, m, by omega, by go_num, by rw [HE.out]; exact HMM.out, by rw [HE.out]; exact HO3.out, HK3.out⟩
              case measure => simp [intOf]; omega
          · have hdn : (y.node == node) = false := by simp [hy]
            have HE := Lib.hid (vic_out (node := node) (p := x) hkl HXX.out (by simp [isV, hdn]))
            clear hy x0 x1 x2 x3 x4 x5 x6 x7 x8
            go_wp2
            go_roundw
            case rel => exact ⟨k + 1, m, by omega, by go_num, by rw [HE.out]; exact HMM.out, by rw [HE.out]; exact HOV.out, HKV.out⟩
            case measure => simp [intOf]; omega
        · have HK : Hid (l.take k = l) := List.take_of_length_le (by have := HN.out; omega)
          have HO : Hid (m = (vicD node x l).length ∧ wr.ownsRow W.heap.size 32 8 u9 m ((vicD node x l).flatMap cellsP)) := by
            have h1 := HMM.out
            have h2 := HOW.out
            rw [HK.out] at h1 h2
            exact ⟨h1, h2⟩
          have HL : Hid (m ≤ 1000) := by
            have h1 := vic_len node x l
            have h2 := HO.out.1
            have h4 := HN.out
            show _ ≤ _
            omega
          have HKW := Lib.hid hbr
          clear hbx HOW HMM
          go_wp2_with fail
          refine (HSS.out _ _ _ _ _ hz HO.out.1 HO.out.2 HL.out).mono ?_
          rintro e w3 ⟨rfl, ys, hp, hs, hown3, hb3⟩
          obtain ⟨A', c', rfl, hc1, hc2, hc3⟩ := own_form3 hown3
          have hmy : m = ys.length := by rw [hp.length_eq]; exact HO.out.1
          have hO3 := recs_of_own lenP hmy hown3
          have HP := Lib.hid hp
          have HSO := Lib.hid hs
          have HK3 := Lib.hid (HKW.out.trans hb3)
          have HI : Hid (Calls Try.prog 14 #[.slice A' m c'] w3 (IntsTo (ys.map PodD.id) w3)) := by
            obtain ⟨A2, c2, he, _, _, _, h⟩ := hO3
            injection he with e1 _ e3
            subst e1 e3
            exact priorIds_any ys _ _ _ w3 hmy HL.out h
          clear hp hs hown3 hb3 hO3 hc1 hc2 hc3 hmy
          go_wp2_with fail
          refine HI.out.mono ?_
          rintro e w4 ⟨v, rfl, hown4, hb4⟩
          have HO4 := Lib.hid hown4
          clear hown4
          go_wp2
          go_ret
          have k3 : Below w.heap.size w w3 := k2.trans (HK3.out.mono k2.size)
          refine ⟨v, ys.map PodD.id, rfl, .inl ⟨⟨HPS.out.symm, H0.out⟩, ys, by rw [← HPX.out]; exact HP.out, HSO.out, rfl⟩, own_mono HO4.out k3.size, k3.trans (hb4.mono k3.size)⟩
end Go.Proofs.Ytpjoihafpjnipaa

/- slices.SortFunc at a row of pods of the call's own: a permutation, in the order of those that may go. -/
namespace Go.Proofs.Ytpjoihafpjnipaa
set_option linter.unusedSimpArgs false
open Go.RowKit Go.Shelf Go.Sort
set_option linter.unusedVariables false

instance : Inhabited PodD := ⟨noPod⟩
theorem flatK_list (l : List PodD) : flatK cellsP 8 l.toArray = (l.flatMap cellsP).toArray := by
  refine ext_get! (by simp [flatMap_len lenP]) fun t ht => ?_
  have ht' : t < l.length * 8 := by simpa using ht
  have hi : t / 8 < l.length := by omega
  have hj : t % 8 < 8 := by omega
  have e := flatMap_get (size := 8) lenP hi hj
  rw [show t / 8 * 8 + t % 8 = t by omega] at e
  rw [get_flatK _ _ _ _ (by simpa using ht')]
  have hlt : t < (l.flatMap cellsP).length := by rw [flatMap_len lenP]; exact ht'
  rw [List.getElem?_eq_getElem hlt, List.getElem?_eq_getElem (by rw [lenP]; exact hj)] at e
  have e' := Option.some.inj e
  rw [getElem!_pos (l.flatMap cellsP).toArray t (by simpa using hlt), List.getElem_toArray, e', getElem!_pos l.toArray (t / 8) (by simpa using hi), List.getElem_toArray, getElem!_pos (cellsP l[t / 8]) (t % 8) (by rw [lenP]; exact hj)]
theorem podsHeld {w : World} {g : Nat} {cur : Array Value} {e : TypeId} {vs : List Value} (hb : w.heap[g]? = some (.cells cur e (0, 0))) (ht : cur.toList.take vs.length = vs) : Holds id w g 0 vs.toArray := by
  intro j hj
  have hj' : j < vs.length := by simpa using hj
  refine ⟨?_, by simp [World.frozen?, hb]⟩
  have h1 : (cur.toList.take vs.length)[j]? = vs[j]? := by rw [ht]
  rw [List.getElem?_take_of_lt hj'] at h1
  simp only [World.cell?, hb, Nat.zero_add]
  simp only [Option.isSome_none, Bool.false_eq_true, if_false]
  rw [← Array.getElem?_toList, h1]
  simp [hj']
theorem heap_sortedV {w : World} {g n : Nat} {os : Array Obj} {cur : Array Value} {e : TypeId} {fr : Nat × Nat} (d : Array Value) (hb : w.heap[g]? = some (.cells cur e fr)) :
    (grow (putRow id (Sort.ahead w n) g 0 d) os).heap[g]? = some (.cells (putCells id 0 d cur) e fr) := by
  have hg : g < w.heap.size := (Array.getElem?_eq_some_iff.1 hb).1
  rw [heap_grow_old _ _ (by simpa using hg)]
  simp [putRow, mapBlock, Sort.ahead, Array.getElem?_modify, hb, onCells]
theorem grownBy_sortedV {w : World} {g n : Nat} {os : Array Obj} (d : Array Value) : w.grownBy (grow (putRow id (Sort.ahead w n) g 0 d) os) (some g) := by
  refine ⟨rfl, rfl, rfl, by simp, fun k hk hne => ?_⟩
  rw [heap_grow_old _ _ (by simpa using hk)]
  have : g ≠ k := fun e => hne (by rw [e])
  simp [putRow, mapBlock, Sort.ahead, Array.getElem?_modify, this]
theorem take_putCellsV (cur : Array Value) (ts : List Value) (h : ts.length ≤ cur.size) : (putCells id 0 ts.toArray cur).toList.take ts.length = ts := by
  apply List.ext_getElem?
  intro j
  by_cases hj : j < ts.length
  · rw [List.getElem?_take_of_lt hj, Array.getElem?_toList]
    simp [putCells, hj, show j < cur.size by omega]
  · rw [List.getElem?_take_eq_none (by omega), List.getElem?_eq_none (by omega)]

theorem ltV_is (x y : PodD) : ltOf ordV x y = decide (ltV x y) := by
  unfold ltOf
  exact decide_eq_decide.2 (ordV_neg x y)
theorem swoV : SWO (ltOf ordV) where
  irrefl x := by rw [ltV_is]; simp [ltV]
  trans x y z h1 h2 := by
    rw [ltV_is, decide_eq_true_eq] at h1 h2 ⊢
    unfold ltV at h1 h2 ⊢
    omega
  ntrans x y z h1 h2 := by
    rw [ltV_is, decide_eq_false_iff_not] at h1 h2 ⊢
    unfold ltV at h1 h2 ⊢
    omega
theorem perm_of_in {d d' : Array PodD} (h : PermIn 0 d.size d d') : d'.toList.Perm d.toList := by
  obtain ⟨h1, _, h3⟩ := h
  rw [Array.extract_eq_self_of_le (by omega), Array.extract_eq_self_of_le (Nat.le_refl _)] at h3
  exact h3
theorem sorted_of_in {d : Array PodD} {n : Nat} (hn : n = d.size) (h : SortedIn (ltOf ordV) 0 n d) : d.toList.Pairwise fun x y => ¬ ltV y x := by
  rw [List.pairwise_iff_getElem]
  intro i j hi hj hij
  have h1 := h i j (Nat.zero_le _) hij (by rw [hn]; simpa using hj)
  rw [ltV_is, getElem!_pos d j (by simpa using hj), getElem!_pos d i (by simpa using hi)] at h1
  simpa using h1

theorem laysAgg (w : World) : (isAgg 32).run Try.prog w = .ok true w := by kernel_rfl
theorem laysSize (w : World) : (Go.sizeOf 32).run Try.prog w = .ok 8 w := by kernel_rfl
theorem inOrder_lays (blk off size : Nat) (w : World) : CmpLays Try.prog 13 #[] cellsP 8 ordV blk off size w :=
  fun _ _ _ _ x y => inOrder_any x y _

theorem sortPods : SortPods := by
  intro B v xs m w hB hm hown hl
  subst hm
  have eg : ∀ args w, (callFunc 13 args).run Try.prog w = .ok (.enter 13 args) w := enters_of Try.func13 (by kernel_rfl) rfl
  rcases hown.2 with ⟨rfl, h0⟩ | ⟨g, cap, cur, rfl, hbase, hb, h1, h2, h3, h4⟩
  · have h0' := List.eq_nil_of_length_eq_zero h0
    subst h0'
    have hcon := AnyF.slices_SortFunc_none (P := Try.prog) Try.laysSortF none 0 (.func (.func 13) #[] #[]) w
    change Calls Try.prog 12 _ _ _ at hcon
    refine hcon.mono fun e w' ⟨he, hw⟩ => ⟨he, [], List.Perm.refl _, List.Pairwise.nil, by subst hw; exact hown, by subst hw; exact Below.refl _ _⟩
  · have hgl : g < w.heap.size := (Array.getElem?_eq_some_iff.1 hb).1
    have hH : HoldsK cellsP 8 w g 0 xs.toArray := by
      unfold HoldsK
      rw [flatK_list]
      refine podsHeld hb ?_
      rw [flatMap_len lenP]
      exact h4
    have hcon := AnyQ.slices_SortFunc Try.laysSortF 8 laysAgg laysSize cellsP lenP onePod ordV swoV 13 #[] g 0 cap xs.toArray w eg (inOrder_lays g 0 _ w) hH hgl (by simp; omega)
    change Calls Try.prog 12 _ _ _ at hcon
    refine hcon.mono fun e w' ⟨he, d', n, os, hp, hs, hw⟩ => ⟨he, d'.toList, by simpa using perm_of_in hp, sorted_of_in hp.1.symm hs, ?_, ?_⟩
    · subst hw
      have hsz : d'.toList.length = xs.length := by simpa using hp.1
      have hF : flatK cellsP 8 d' = (d'.toList.flatMap cellsP).toArray := by
        have h := flatK_list d'.toList
        simpa using h
      show (grow (putRow id (Sort.ahead w n) g 0 (flatK cellsP 8 d')) os).ownsRow _ _ _ _ _ _
      rw [hF]
      refine ⟨by rw [flatMap_len lenP, hsz], .inr ⟨g, cap, _, rfl, hbase, heap_sortedV _ hb, h1, h2, by simpa [putCells] using h3, ?_⟩⟩
      have hle : (d'.toList.flatMap cellsP).length ≤ cur.size := by rw [flatMap_len lenP, hsz, h3]; omega
      have ht := take_putCellsV cur (d'.toList.flatMap cellsP) hle
      rw [flatMap_len lenP, hsz] at ht
      exact ht
    · subst hw
      exact (Below.refl B w).grown (grownBy_sortedV _) hB (fun j hj => by cases hj; exact hbase)
end Go.Proofs.Ytpjoihafpjnipaa

/- Plain mathematics of pods that may not be together. -/
namespace Go.Proofs.Ytpjoihafpjnipaa
set_option linter.unusedSimpArgs false
open Go.RowKit
set_option linter.unusedVariables false

/-- Has the first load of this Id Apart? -/
def apartD (id : Int) : List LoadD → Bool
  | [] => false
  | x :: r => if x.id = id then x.apart else apartD id r
theorem apartD_no {id : Int} : ∀ {l : List LoadD} {k : Int}, 0 ≤ k → place LoadD.id id l k < 0 → apartD id l = false
  | [], _, _, _ => rfl
  | x :: r, k, hk, h => by
    by_cases hx : x.id = id
    · simp [place, hx] at h; omega
    · simp only [place, if_neg hx] at h
      simp only [apartD, if_neg hx]
      exact apartD_no (by omega) h
theorem apartD_yes {id : Int} : ∀ {l : List LoadD} {k : Int} {i : Nat} (hi : i < l.length), place LoadD.id id l k = k + i → 0 ≤ k → apartD id l = l[i].apart
  | [], _, _, hi, _, _ => by simp at hi
  | x :: r, k, i, hi, h, hk => by
    by_cases hx : x.id = id
    · simp only [place, if_pos hx] at h
      obtain rfl : i = 0 := by omega
      simp [apartD, hx]
    · simp only [place, if_neg hx] at h
      cases i with
      | zero =>
        have h3 : place LoadD.id id r (k + 1) < 0 ∨ k + 1 ≤ place LoadD.id id r (k + 1) := place_or r (k + 1) (by omega)
        omega
      | succ i =>
        simp only [apartD, if_neg hx, List.getElem_cons_succ]
        exact apartD_yes (by simpa using hi) (by rw [h]; omega) (by omega)
/-- Do two pods clash? -/
def clashD (ls : List LoadD) (a b : PodD) : Bool := a.node != 0 && (a.node == b.node && (a.load == b.load && apartD a.load ls))
theorem clashD_symm {ls : List LoadD} {a b : PodD} (h : clashD ls a b = true) : clashD ls b a = true := by
  simp only [clashD, Bool.and_eq_true, bne_iff_ne, beq_iff_eq] at h ⊢
  obtain ⟨h1, h2, h3, h4⟩ := h
  exact ⟨by rw [← h2]; exact h1, h2.symm, h3.symm, by rw [← h3]; exact h4⟩
theorem clashD_comm (ls : List LoadD) (a b : PodD) : clashD ls a b = clashD ls b a := by
  cases h : clashD ls a b with
  | true => exact (clashD_symm h).symm
  | false =>
    cases h2 : clashD ls b a with
    | false => rfl
    | true => rw [clashD_symm h2] at h; cases h
/-- The Id of the first pod of the list, behind k others, that is not at place i and clashes with p. -/
def clashFrom (ls : List LoadD) (p : PodD) (i : Nat) : List PodD → Nat → Int
  | [], _ => 0
  | q :: r, k => if k ≠ i ∧ clashD ls p q = true then q.id else clashFrom ls p i r (k + 1)
theorem clashFrom_at {ls : List LoadD} {p : PodD} {i : Nat} {l : List PodD} {k : Nat} {z : Int} (h : k < l.length) {q : PodD} (hx : l[k] = q) (hp : clashFrom ls p i (l.drop k) k = z) :
    (k ≠ i ∧ clashD ls p q = true → z = q.id) ∧ (k = i ∨ clashD ls p q = false → clashFrom ls p i (l.drop (k + 1)) (k + 1) = z) := by
  rw [List.drop_eq_getElem_cons h, hx, clashFrom] at hp
  constructor
  · intro e; rw [if_pos e] at hp; exact hp.symm
  · intro e
    rw [if_neg (by rcases e with e | e <;> simp [e])] at hp
    exact hp
theorem clashFrom_end {ls : List LoadD} {p : PodD} {i : Nat} {l : List PodD} {k : Nat} {z : Int} (h : l.length ≤ k) (hp : clashFrom ls p i (l.drop k) k = z) : z = 0 := by
  rw [List.drop_of_length_le h] at hp
  exact hp.symm
/-- The first other pod with which the first pod of that Id clashes; 0: none. -/
def clashOf (ls : List LoadD) (l : List PodD) (id : Int) : Int :=
  if place PodD.id id l 0 < 0 then 0 else
    match l[(place PodD.id id l 0).toNat]? with
    | none => 0
    | some p => clashFrom ls p (place PodD.id id l 0).toNat l 0
theorem clashOf_none {ls : List LoadD} {l : List PodD} {id : Int} (h : place PodD.id id l 0 < 0) : clashOf ls l id = 0 := by
  unfold clashOf
  rw [if_pos h]
theorem clashOf_some {ls : List LoadD} {l : List PodD} {id : Int} {i : Nat} (hi : i < l.length) (h : place PodD.id id l 0 = i) {p : PodD} (hp : l[i] = p) : clashOf ls l id = clashFrom ls p i l 0 := by
  unfold clashOf
  rw [if_neg (by omega), h, Int.toNat_natCast, List.getElem?_eq_getElem hi, hp]
/-- The first pod, behind k others, that clashes with one ahead of it. -/
def apartFrom (ls : List LoadD) (l : List PodD) : List PodD → Nat → Int × Int
  | [], _ => (0, -1)
  | p :: r, k => if (l.take k).any (clashD ls p) = true then (10, (k : Int)) else apartFrom ls l r (k + 1)
def apartOf (ls : List LoadD) (l : List PodD) : Int × Int := apartFrom ls l l 0
theorem apartFrom_at {ls : List LoadD} {l : List PodD} {k : Nat} {z : Int × Int} (h : k < l.length) {p : PodD} (hx : l[k] = p) (hp : apartFrom ls l (l.drop k) k = z) :
    ((l.take k).any (clashD ls p) = true → z = (10, (k : Int))) ∧ ((l.take k).any (clashD ls p) = false → apartFrom ls l (l.drop (k + 1)) (k + 1) = z) := by
  rw [List.drop_eq_getElem_cons h, hx, apartFrom] at hp
  constructor
  · intro e; rw [if_pos e] at hp; exact hp.symm
  · intro e; rw [if_neg (by rw [e]; decide)] at hp; exact hp
theorem apartFrom_end {ls : List LoadD} {l : List PodD} {k : Nat} {z : Int × Int} (h : l.length ≤ k) (hp : apartFrom ls l (l.drop k) k = z) : z = (0, -1) := by
  rw [List.drop_of_length_le h] at hp
  exact hp.symm
/-- The place of the first one of which it is true; -1: of none. -/
def idxF (f : PodD → Bool) : List PodD → Int → Int
  | [], _ => -1
  | q :: r, k => if f q = true then k else idxF f r (k + 1)
theorem idxF_at {f : PodD → Bool} {l : List PodD} {k : Nat} {z : Int} (h : k < l.length) {q : PodD} (hx : l[k] = q) (hp : idxF f (l.drop k) k = z) :
    (f q = true → z = k) ∧ (f q = false → idxF f (l.drop (k + 1)) ((k + 1 : Nat) : Int) = z) := by
  rw [List.drop_eq_getElem_cons h, hx, idxF] at hp
  constructor
  · intro e; rw [if_pos e] at hp; exact hp.symm
  · intro e; rw [if_neg (by rw [e]; decide)] at hp; exact hp
theorem idxF_end {f : PodD → Bool} {l : List PodD} {k : Nat} {z : Int} (h : l.length ≤ k) (hp : idxF f (l.drop k) k = z) : z = -1 := by
  rw [List.drop_of_length_le h] at hp
  exact hp.symm
theorem idxF_any {f : PodD → Bool} : ∀ (l : List PodD) (k : Int), 0 ≤ k → (decide (0 ≤ idxF f l k) = l.any f)
  | [], k, hk => by simp [idxF]
  | q :: r, k, hk => by
    cases h : f q with
    | true => simp [idxF, h, hk]
    | false => simp only [idxF, h, List.any_cons, Bool.false_or]; rw [if_neg (by decide)]; exact idxF_any r (k + 1) (by omega)
theorem apartFrom_pair {ls : List LoadD} {l : List PodD} : ∀ (r : List PodD) (k : Nat), ((apartFrom ls l r k).1 = 0 ∧ apartFrom ls l r k = (0, -1)) ∨ ∃ j : Nat, apartFrom ls l r k = (10, (j : Int))
  | [], _ => .inl ⟨rfl, rfl⟩
  | p :: r, k => by
    unfold apartFrom
    split
    · exact .inr ⟨k, rfl⟩
    · exact apartFrom_pair r (k + 1)
theorem apartFrom_iff {ls : List LoadD} {l : List PodD} : ∀ (n k : Nat), l.length = k + n → (apartFrom ls l (l.drop k) k = (0, -1) ↔ ∀ j, k ≤ j → ∀ h : j < l.length, (l.take j).any (clashD ls l[j]) = false)
  | 0, k, hn => by
    rw [List.drop_of_length_le (by omega), apartFrom]
    simp only [true_iff]
    intro j h1 h2; omega
  | n + 1, k, hn => by
    have hk : k < l.length := by omega
    rw [List.drop_eq_getElem_cons hk, apartFrom]
    cases h : (l.take k).any (clashD ls l[k]) with
    | true =>
      simp only [if_true]
      constructor
      · intro e; injection e with e1 e2; omega
      · intro e; have := e k (Nat.le_refl _) hk; rw [h] at this; cases this
    | false =>
      rw [if_neg (by decide), apartFrom_iff n (k + 1) (by omega)]
      constructor
      · intro e j h1 h2
        by_cases hj : j = k
        · subst hj; exact h
        · exact e j (by omega) h2
      · intro e j h1 h2; exact e j (by omega) h2
theorem apart_pairwise {ls : List LoadD} {l : List PodD} : apartOf ls l = (0, -1) ↔ l.Pairwise (fun p q => clashD ls q p = false) := by
  have h := apartFrom_iff (ls := ls) (l := l) l.length 0 (by omega)
  rw [List.drop_zero] at h
  rw [apartOf, h, List.pairwise_iff_getElem]
  constructor
  · intro e i j hi hj hij
    have := e j (by omega) hj
    rw [List.any_eq_false] at this
    have h2 := this l[i] (by rw [List.mem_take_iff_getElem]; exact ⟨i, by omega, rfl⟩)
    simpa using h2
  · intro e j _ hj
    rw [List.any_eq_false]
    intro p hp
    rw [List.mem_take_iff_getElem] at hp
    obtain ⟨i, hi, rfl⟩ := hp
    have := e i j (by omega) hj (by omega)
    simpa using this
theorem apart_zero {ls : List LoadD} {l : List PodD} (h : (apartOf ls l).1 = 0) : apartOf ls l = (0, -1) := by
  rcases apartFrom_pair (ls := ls) (l := l) l 0 with h1 | ⟨j, h1⟩
  · exact h1.2
  · rw [apartOf, h1] at h; cases h
theorem apart_sub {ls : List LoadD} {l m : List PodD} (hs : m.Sublist l) (h : apartOf ls l = (0, -1)) : apartOf ls m = (0, -1) :=
  apart_pairwise.2 ((apart_pairwise.1 h).sublist hs)
theorem less_sub {α : Type} (l : List α) (n : Nat) : (l.take n ++ l.drop (n + 1)).Sublist l := by
  have h : (l.drop (n + 1)).Sublist (l.drop n) := by
    rw [show l.drop (n + 1) = (l.drop n).drop 1 by rw [List.drop_drop]]
    exact List.drop_sublist 1 _
  have h2 := List.Sublist.append (List.Sublist.refl (l.take n)) h
  rwa [List.take_append_drop] at h2
end Go.Proofs.Ytpjoihafpjnipaa

/- The program's hasApart, clash, and its closures; slices.IndexFunc and slices.ContainsFunc at them. -/
namespace Go.Proofs.Ytpjoihafpjnipaa
set_option linter.unusedSimpArgs false
open Go.RowKit
set_option linter.unusedVariables false

section
variable {V : World}
theorem Bf.cells8 {b : Nat} {x : PodD} (h : Bf V b (cellsP x)) : (V.cell? ⟨b, 0, none⟩ = some (.int .i64 x.id) ∧ V.cell? ⟨b, 1, none⟩ = some (.int .i64 x.load) ∧ V.cell? ⟨b, 2, none⟩ = some (.int .i64 x.prio) ∧ V.cell? ⟨b, 3, none⟩ = some (.int .u64 x.req.a)) ∧
    V.cell? ⟨b, 4, none⟩ = some (.int .u64 x.req.b) ∧ V.cell? ⟨b, 5, none⟩ = some (.int .u64 x.req.c) ∧ V.cell? ⟨b, 6, none⟩ = some (.int .u64 x.req.d) ∧ V.cell? ⟨b, 7, none⟩ = some (.int .i64 x.node) ∧ b < V.heap.size :=
  ⟨⟨h.cell 0 _ rfl, h.cell 1 _ rfl, h.cell 2 _ rfl, h.cell 3 _ rfl⟩, h.cell 4 _ rfl, h.cell 5 _ rfl, h.cell 6 _ rfl, h.cell 7 _ rfl, h.lt⟩
end
def IdxRel (f : PodD → Bool) (l : List PodD) (W : World) (i : Value) (wr : World) : Prop := ∃ k : Nat, k ≤ l.length ∧ i = .int .i64 k ∧ idxF f (l.drop k) k = idxF f l 0 ∧ Below W.heap.size W wr
end Go.Proofs.Ytpjoihafpjnipaa

/- What a move comes to: the program's Make of layer 5. -/
namespace Go.Proofs.Ytpjoihafpjnipaa
set_option linter.unusedSimpArgs false
open Go.RowKit
set_option linter.unusedVariables false

/-- What a move comes to: the state, and an error's number. -/
def noState : StateD := ⟨[], 0, 0⟩
def makeD (nodes : List NodeD) (x : List WantD) (t : StateD) (m : MoveD) : StateD × Int :=
  if wellD m = false then (noState, 1) else if hereD nodes t.pods m = false then (noState, 4) else if canD t.pods m = false then (noState, 7) else (behindD x t m, 0)
def codeV (c : Int) : Value := if c = 0 then .nilIface else .iface 41 (.int .i64 c)
theorem well_kinds {m : MoveD} (h : wellD m = true) : m.kind = 1 ∨ m.kind = 2 ∨ m.kind = 3 ∨ m.kind = 4 := by
  unfold wellD at h
  split at h
  · omega
  · split at h
    · omega
    · have : m.kind = 4 := by simpa using h
      omega
theorem here_pod {nodes : List NodeD} {l : List PodD} {m : MoveD} (h : hereD nodes l m = true) : ¬ place PodD.id m.pod l 0 < 0 := by
  intro e
  simp [hereD, e] at h
theorem here_over {nodes : List NodeD} {l : List PodD} {m : MoveD} (h : hereD nodes l m = true) (hc : canD l m = true) : m.kind = 4 → ¬ place PodD.id m.over l 0 < 0 ∧ m.over ≠ m.pod := by
  intro h4
  constructor
  · intro e
    simp [hereD, e, h4] at h
  · intro e
    simp [canD, h4, e] at hc
/-- What stands while Make is at work. -/
structure Mk (snap spec state move : List Value) (w V : World) : Prop where
  snap : Bf V w.heap.size snap
  spec : Bf V (w.heap.size + 1) spec
  state : Bf V (w.heap.size + 2) state
  move : Bf V (w.heap.size + 3) move
  res : Bf V (w.heap.size + 4) [.slice none 0 0, .int .i64 0, .int .i64 0]
  below : Below w.heap.size w V
section
variable {a b c d : List Value} {w V V' : World}
theorem Mk.keep (h : Mk a b c d w V) (hb : Below V.heap.size V V') : Mk a b c d w V' :=
  ⟨h.snap.below hb h.snap.lt, h.spec.below hb h.spec.lt, h.state.below hb h.state.lt, h.move.below hb h.move.lt, h.res.below hb h.res.lt, h.below.trans (hb.mono h.below.size)⟩
theorem Mk.new (w : World) (a b c d : List Value) (t1 t2 t3 t4 t5 : TypeId) : Mk a b c d w (((((w.alloc (.cells a.toArray t1)).alloc (.cells b.toArray t2)).alloc (.cells c.toArray t3)).alloc (.cells d.toArray t4)).alloc (.cells #[.slice none 0 0, .int .i64 0, .int .i64 0] t5)) :=
  ⟨((((Bf.new w a t1 rfl).alloc _).alloc _).alloc _).alloc _, (((Bf.new (w.alloc (.cells a.toArray t1)) b t2 (b := w.heap.size + 1) (by simp)).alloc _).alloc _).alloc _,
    ((Bf.new ((w.alloc (.cells a.toArray t1)).alloc (.cells b.toArray t2)) c t3 (b := w.heap.size + 2) (by simp)).alloc _).alloc _, (Bf.new (((w.alloc (.cells a.toArray t1)).alloc (.cells b.toArray t2)).alloc (.cells c.toArray t3)) d t4 (b := w.heap.size + 3) (by simp)).alloc _,
    Bf.new ((((w.alloc (.cells a.toArray t1)).alloc (.cells b.toArray t2)).alloc (.cells c.toArray t3)).alloc (.cells d.toArray t4)) [.slice none 0 0, .int .i64 0, .int .i64 0] t5 (b := w.heap.size + 4) (by simp),
    (below_four w _ _ _ _).alloc (by simp; omega) _⟩
theorem Mk.facts {a0 a1 a2 b0 b1 b2 c0 c1 c2 d0 d1 d2 d3 : Value} (h : Mk [a0, a1, a2] [b0, b1, b2] [c0, c1, c2] [d0, d1, d2, d3] w V) :
    (V.cell? ⟨w.heap.size, 0, none⟩ = some a0 ∧ V.cell? ⟨w.heap.size, 1, none⟩ = some a1 ∧ V.cell? ⟨w.heap.size, 2, none⟩ = some a2) ∧
    (V.cell? ⟨w.heap.size + 1, 0, none⟩ = some b0 ∧ V.cell? ⟨w.heap.size + 1, 1, none⟩ = some b1 ∧ V.cell? ⟨w.heap.size + 1, 2, none⟩ = some b2) ∧
    (V.cell? ⟨w.heap.size + 2, 0, none⟩ = some c0 ∧ V.cell? ⟨w.heap.size + 2, 1, none⟩ = some c1 ∧ V.cell? ⟨w.heap.size + 2, 2, none⟩ = some c2) ∧
    (V.cell? ⟨w.heap.size + 3, 0, none⟩ = some d0 ∧ V.cell? ⟨w.heap.size + 3, 1, none⟩ = some d1 ∧ V.cell? ⟨w.heap.size + 3, 2, none⟩ = some d2 ∧ V.cell? ⟨w.heap.size + 3, 3, none⟩ = some d3) :=
  ⟨⟨h.snap.cell 0 _ rfl, h.snap.cell 1 _ rfl, h.snap.cell 2 _ rfl⟩, ⟨h.spec.cell 0 _ rfl, h.spec.cell 1 _ rfl, h.spec.cell 2 _ rfl⟩, ⟨h.state.cell 0 _ rfl, h.state.cell 1 _ rfl, h.state.cell 2 _ rfl⟩, ⟨h.move.cell 0 _ rfl, h.move.cell 1 _ rfl, h.move.cell 2 _ rfl, h.move.cell 3 _ rfl⟩⟩
theorem Mk.facts2 (h : Mk a b c d w V) :
    (V.cell? ⟨w.heap.size + 4, 0, none⟩ = some (.slice none 0 0) ∧ V.cell? ⟨w.heap.size + 4, 1, none⟩ = some (.int .i64 0) ∧ V.cell? ⟨w.heap.size + 4, 2, none⟩ = some (.int .i64 0)) ∧
    (V.frozen? ⟨w.heap.size + 4, 0, none⟩ = false ∧ V.frozen? ⟨w.heap.size + 4, 1, none⟩ = false ∧ V.frozen? ⟨w.heap.size + 4, 2, none⟩ = false) ∧ w.heap.size + 4 < V.heap.size :=
  ⟨⟨h.res.cell 0 _ rfl, h.res.cell 1 _ rfl, h.res.cell 2 _ rfl⟩, ⟨h.res.frozen 0, h.res.frozen 1, h.res.frozen 2⟩, h.res.lt⟩
theorem Mk.no (h : Mk a b c d w V) {x y z : Value} : StateTo noState w (stateV none 0 0 0 0) (((V.setCell ⟨w.heap.size + 4, 0, none⟩ x).setCell ⟨w.heap.size + 4, 1, none⟩ y).setCell ⟨w.heap.size + 4, 2, none⟩ z) :=
  ⟨none, 0, rfl, Out.nil rfl, (by intro a e; cases e), ((h.below.setCell (by simp) _).setCell (by simp) _).setCell (by simp) _⟩
end
theorem Out.set {l : List PodD} {w : World} {A : Option Addr} {c : Nat} (h : Out 8 cellsP w l A c) {p : Addr} (hp : ∀ a, A = some a → a.block ≠ p.block) (v : Value) : Out 8 cellsP (w.setCell p v) l A c := by
  refine ⟨h.1, h.2.1, h.2.2.1, ?_⟩
  rcases h.2.2.2 with h0 | ⟨b, o, e, hb, hc⟩
  · exact .inl h0
  · refine .inr ⟨b, o, e, by simpa using hb, fun i hi j u hu => ?_⟩
    have := hp _ e
    rw [World.cell?_setCell_other _ _ _ _ (by intro e'; rw [e'] at this; exact this rfl)]
    exact hc i hi j u hu
end Go.Proofs.Ytpjoihafpjnipaa

/- A node's rest: the program's Rest. -/
namespace Go.Proofs.Ytpjoihafpjnipaa
set_option linter.unusedSimpArgs false
open Go.RowKit
set_option linter.unusedVariables false

section
variable {V : World}
theorem Bf.cells10 {b : Nat} {x : NodeD} (h : Bf V b (cellsN x)) : (V.cell? ⟨b, 0, none⟩ = some (.int .i64 x.id) ∧ V.cell? ⟨b, 1, none⟩ = some (.int .i64 x.zone) ∧ V.cell? ⟨b, 2, none⟩ = some (.int .u64 x.cap.a) ∧ V.cell? ⟨b, 3, none⟩ = some (.int .u64 x.cap.b) ∧ V.cell? ⟨b, 4, none⟩ = some (.int .u64 x.cap.c) ∧ V.cell? ⟨b, 5, none⟩ = some (.int .u64 x.cap.d)) ∧
    V.cell? ⟨b, 6, none⟩ = some (.int .u64 x.held.a) ∧ V.cell? ⟨b, 7, none⟩ = some (.int .u64 x.held.b) ∧ V.cell? ⟨b, 8, none⟩ = some (.int .u64 x.held.c) ∧ V.cell? ⟨b, 9, none⟩ = some (.int .u64 x.held.d) ∧ b < V.heap.size :=
  ⟨⟨h.cell 0 _ rfl, h.cell 1 _ rfl, h.cell 2 _ rfl, h.cell 3 _ rfl, h.cell 4 _ rfl, h.cell 5 _ rfl⟩, h.cell 6 _ rfl, h.cell 7 _ rfl, h.cell 8 _ rfl, h.cell 9 _ rfl, h.lt⟩
end
theorem rest_ret {p : V4 × Int} {a : Value} {b : Value} (q : V4 × Int) (h : p = q) (ha : a = aggV q.1) (hb : b = codeV q.2) : Ending.returned (.tuple #[a, b]) = .returned (.tuple #[aggV p.1, codeV p.2]) := by subst h ha hb; rfl

end Go.Proofs.Ytpjoihafpjnipaa

/- errors.As of a Code itself, into a variable of type Code. -/
namespace Go.Proofs.Ytpjoihafpjnipaa
set_option linter.unusedSimpArgs false
open Go.RowKit Go.Extern.Stop Go.Stop Go.Extern
set_option linter.unusedVariables false

theorem Try.kindCode (w : World) : ((ReflectliteType.abiMethod fun t => (fun a : Nat => Value.int IntKind.u8 (a : Int)) <$> Rtype.kind t) #[.pointer (some ⟨0, 41, none⟩)]).run Try.prog w = .ok (.int .u8 2) w := by kernel_rfl

theorem Try.valueOfCode (e : Int) (w : World) : (ReflectliteValue.unpack (.iface 41 (.int .i64 e))).run Try.prog w
    = .ok (.agg #[.pointer (some ⟨0, 41, none⟩), .pointer (some ⟨w.heap.size, 0, none⟩), .int .u64 130]) (w.alloc (.cells #[.int .i64 e] 41)) := by kernel_rfl

theorem Try.mkCode (p : Addr) (w : World) : (ReflectliteValue.mk 41 p ReflectliteValue.flagAddr).run Try.prog w = .ok (.agg #[.pointer (some ⟨0, 41, none⟩), .pointer (some p), .int .u64 386]) w := by kernel_rfl
theorem Try.partsCodeA (a : Addr) (w : World) : (ReflectliteValue.parts (.agg #[.pointer (some ⟨0, 41, none⟩), .pointer (some a), .int .u64 386])).run Try.prog w = .ok (some (41, a, 386)) w := by kernel_rfl
theorem Try.partsCode (a : Addr) (w : World) : (ReflectliteValue.parts (.agg #[.pointer (some ⟨0, 41, none⟩), .pointer (some a), .int .u64 130])).run Try.prog w = .ok (some (41, a, 130)) w := by kernel_rfl
theorem Try.directCode (w : World) : (Rtype.directlyAssignable 41 41).run Try.prog w = .ok true w := by kernel_rfl
theorem Try.sizeCode (w : World) : (sizeOf 41).run Try.prog w = .ok 1 w := by kernel_rfl
/-- (Value).Set: the api.Code variable at 'ta' gets what the Value's own variable 'b' holds. -/
theorem Try.setCode (ta b : Addr) (e : Int) (old : Value) (W : World) (hb : W.cell? b = some (.int .i64 e)) (ht : W.cell? ta = some old) (hf : W.frozen? ta = false) :
    (ReflectliteValue.set #[.agg #[.pointer (some ⟨0, 41, none⟩), .pointer (some ta), .int .u64 386], .agg #[.pointer (some ⟨0, 41, none⟩), .pointer (some b), .int .u64 130]]).run Try.prog W
      = .ok (.tuple #[]) (W.setCell ta (.int .i64 e)) := by
  show (bind (ReflectliteValue.parts (.agg #[.pointer (some ⟨0, 41, none⟩), .pointer (some ta), .int .u64 386])) fun p => bind (ReflectliteValue.parts (.agg #[.pointer (some ⟨0, 41, none⟩), .pointer (some b), .int .u64 130])) _ : Sem Value).run Try.prog W = _
  simp only [Sem.run_bind, Try.partsCodeA, Try.partsCode, Result.andThen]
  simp [ReflectliteValue.flagAddr, loadVar, isAgg, underlying, Try.underlying41, hb, Result.andThen, Try.directCode, storeVar, Value.cells, storeCells, Addr.add]
  rw [run_store Try.prog W ta _ _ (by rfl)]
  simp [ht, hf]

end Go.Proofs.Ytpjoihafpjnipaa

/- A node's error with its place: the program's spot. -/
namespace Go.Proofs.Ytpjoihafpjnipaa
set_option linter.unusedSimpArgs false
open Go.RowKit
set_option linter.unusedVariables false

end Go.Proofs.Ytpjoihafpjnipaa

/- A box of four cells that a statement makes behind its call, or ahead of it. -/
namespace Go.Proofs.Ytpjoihafpjnipaa
set_option linter.unusedSimpArgs false
open Go.RowKit
set_option linter.unusedVariables false

/-- A box that a statement makes behind its call, or ahead of it. -/
theorem Bf.later {W v w' : World} {z : V4} (h0 : Bf v W.heap.size (cellsV .zer)) (hb : Below v.heap.size v w') :
    Bf ((((w'.setCell ⟨W.heap.size, 0, none⟩ (.int .u64 z.a)).setCell ⟨W.heap.size, 1, none⟩ (.int .u64 z.b)).setCell ⟨W.heap.size, 2, none⟩ (.int .u64 z.c)).setCell ⟨W.heap.size, 3, none⟩ (.int .u64 z.d)) W.heap.size (cellsV z) :=
  (((((h0.below hb h0.lt).set 0 (.int .u64 z.a)).set 1 (.int .u64 z.b)).set 2 (.int .u64 z.c)).set 3 (.int .u64 z.d))
theorem Bf.drew {V : World} {b : Nat} {cs : List Value} (h : Bf V b cs) : Bf V.drew b cs := h.below (Below.refl _ V).drew h.lt
end Go.Proofs.Ytpjoihafpjnipaa

/- The first node at fault: the program's Check of layer 6. -/
namespace Go.Proofs.Ytpjoihafpjnipaa
set_option linter.unusedSimpArgs false
open Go.RowKit
set_option linter.unusedVariables false

/-- Two boxes of the call's own. -/
structure T2 (a b : List Value) (w V : World) : Prop where
  one : Bf V w.heap.size a
  two : Bf V (w.heap.size + 1) b
  below : Below w.heap.size w V
section
variable {a b : List Value} {w V V' : World}
theorem T2.keep (h : T2 a b w V) (hb : Below V.heap.size V V') : T2 a b w V' := ⟨h.one.below hb h.one.lt, h.two.below hb h.two.lt, h.below.trans (hb.mono h.below.size)⟩
theorem T2.alloc (h : T2 a b w V) (o : Obj) : T2 a b w (V.alloc o) := h.keep ((Below.refl _ V).alloc (Nat.le_refl _) o)
theorem T2.new (w : World) (a b : List Value) (t1 t2 : TypeId) : T2 a b w ((w.alloc (.cells a.toArray t1)).alloc (.cells b.toArray t2)) :=
  ⟨(Bf.new w a t1 rfl).alloc _, Bf.new (w.alloc (.cells a.toArray t1)) b t2 (b := w.heap.size + 1) (by simp), ((Below.refl _ w).alloc (Nat.le_refl _) _).alloc (by simp) _⟩
end
theorem codeV_zero : codeV 0 = .nilIface := rfl
theorem codeV_pos {c : Int} (h : c ≠ 0) : codeV c = .iface 41 (.int .i64 c) := by unfold codeV; rw [if_neg h]
theorem rest_code {ns : List NodeD} {l : List PodD} {id : Int} (h : (restD ns l id).2 ≠ 0) : 1 ≤ (restD ns l id).2 ∧ (restD ns l id).2 ≤ 17 := by
  rcases rest_vals ns l id with h1 | ⟨_, h1 | h1 | h1⟩
  · exact absurd h1 h
  · omega
  · omega
  · omega
def RoomRel (ns : List NodeD) (l : List PodD) (a b : List Value) (w : World) (i : Value) (wr : World) : Prop := ∃ k : Nat, k ≤ ns.length ∧ i = .int .i64 k ∧ roomD ns l (ns.drop k) k = roomOf ns l ∧ T2 a b w wr

end Go.Proofs.Ytpjoihafpjnipaa

/- The program's Clash of layer 7. -/
namespace Go.Proofs.Ytpjoihafpjnipaa
set_option linter.unusedSimpArgs false
open Go.RowKit
set_option linter.unusedVariables false

theorem T3.cells3a {x0 x1 x2 : Value} {b c : List Value} {w V : World} (h : T3 [x0, x1, x2] b c w V) : V.cell? ⟨w.heap.size, 0, none⟩ = some x0 ∧ V.cell? ⟨w.heap.size, 1, none⟩ = some x1 ∧ V.cell? ⟨w.heap.size, 2, none⟩ = some x2 ∧ w.heap.size < V.heap.size := h.one.cells3
def ClashRel (ls : List LoadD) (p : PodD) (i : Nat) (l : List PodD) (a b c : List Value) (w : World) (v : Value) (wr : World) : Prop := ∃ k : Nat, k ≤ l.length ∧ v = .int .i64 k ∧ clashFrom ls p i (l.drop k) k = clashFrom ls p i l 0 ∧ T3 a b c w wr

end Go.Proofs.Ytpjoihafpjnipaa

/- The program's Check of layer 7. -/
namespace Go.Proofs.Ytpjoihafpjnipaa
set_option linter.unusedSimpArgs false
open Go.RowKit
set_option linter.unusedVariables false

def ApartRel (ls : List LoadD) (l : List PodD) (a b : List Value) (w : World) (v : Value) (wr : World) : Prop := ∃ k : Nat, k ≤ l.length ∧ v = .int .i64 k ∧ apartFrom ls l (l.drop k) k = apartOf ls l ∧ T2 a b w wr

end Go.Proofs.Ytpjoihafpjnipaa

/- The heads of layer 5's laws: few of all, and the document's examples. -/
namespace Go.Proofs.Ytpjoihafpjnipaa
set_option linter.unusedSimpArgs false
open Go.RowKit
set_option linter.unusedVariables false

def few05 (n1 n2 n3 nx nt : Nat) : Bool := decide (n1 ≤ 40 ∧ n2 ≤ 40 ∧ n3 ≤ 40) && (decide (nx ≤ 40) && decide (nt ≤ 40))
theorem recs_one {α : Type} {cells : α → List Value} {size : Nat} (w : World) (y : α) (t : TypeId) {g : Nat} (hg : g = w.heap.size) : Recs size cells (w.alloc (.cells (cells y).toArray t)) (g + 1) (some ⟨g, 0, none⟩) [y] := by
  subst hg
  refine .inr ⟨w.heap.size, 0, rfl, by omega, fun i hi j u hu => ?_⟩
  obtain rfl : i = 0 := by simpa using hi
  simp at hu ⊢
  exact hu
theorem Out.alloc {α : Type} {size : Nat} {cells : α → List Value} {w : World} {xs : List α} {A : Option Addr} {c : Nat} (h : Out size cells w xs A c) (o : Obj) : Out size cells (w.alloc o) xs A c :=
  ⟨h.1, h.2.1, h.2.2.1, (h.2.2.2.below ((Below.refl _ w).alloc (Nat.le_refl _) o) (Nat.le_refl _)).more (by simp)⟩
def upPod : PodD := ⟨1, 0, 0, ⟨0, 0, 0, 0⟩, 0⟩
def upNode : NodeD := ⟨3, 1, ⟨0, 0, 0, 0⟩, ⟨0, 0, 0, 0⟩⟩
theorem up_none : makeD [] [] noState ⟨1, 1, 0, 0⟩ = (noState, 4) := by rfl
theorem up_some : makeD [upNode] [] ⟨[upPod], 0, 0⟩ ⟨1, 1, 3, 0⟩ = (⟨[⟨1, 0, 0, ⟨0, 0, 0, 0⟩, 3⟩], 0, 0⟩, 0) := by rfl
end Go.Proofs.Ytpjoihafpjnipaa

/- The head of layer 3's statements, and the law ClusterFewer, walked, from what cluster.Check and cluster.Fair come to. -/
namespace Go.Proofs.Ytpjoihafpjnipaa
set_option linter.unusedSimpArgs false
open Go.RowKit
set_option linter.unusedVariables false

def SnapD.Ok (s : SnapD) : Prop := (∀ a ∈ s.nodes, a.Ok) ∧ (∀ a ∈ s.loads, a.Ok) ∧ (∀ a ∈ s.pods, a.Ok)
theorem flat_at : ∀ (xs : List NodeD) (i : Nat) (h : i < xs.length) (j : Nat) (u : Value), (cellsN xs[i])[j]? = some u → (xs.flatMap cellsN)[i * 10 + j]? = some u
  | [], i, h, _, _, _ => by simp at h
  | x :: r, 0, _, j, u, hu => by
    have hj : j < (cellsN x).length := (List.getElem?_eq_some_iff.1 hu).1
    simp only [List.flatMap_cons, Nat.zero_mul, Nat.zero_add]
    rw [List.getElem?_append_left hj]
    exact hu
  | x :: r, i + 1, h, j, u, hu => by
    have hl : (cellsN x).length = 10 := rfl
    simp only [List.flatMap_cons]
    rw [List.getElem?_append_right (by rw [hl]; omega), hl, show (i + 1) * 10 + j - 10 = i * 10 + j by omega]
    exact flat_at r i (by simpa using h) j u hu
theorem recs_new (w : World) (t : TypeId) (xs : List NodeD) (cs : Array Value) (hc : cs = (xs.flatMap cellsN).toArray) : Recs 10 cellsN (w.alloc (.cells cs t)) (w.heap.size + 1) (some ⟨w.heap.size, 0, none⟩) xs := by
  refine .inr ⟨w.heap.size, 0, rfl, by omega, fun i hi j u hu => ?_⟩
  have h1 := flat_at xs i hi j u hu
  rw [World.cell?_alloc_at _ _ _ _ rfl, hc]
  simpa using h1
def z4 : V4 := ⟨0, 0, 0, 0⟩
def nd3 : NodeD := ⟨3, 1, z4, z4⟩
theorem z4_ok : z4.Ok := ⟨⟨by decide, by decide⟩, ⟨by decide, by decide⟩, ⟨by decide, by decide⟩, ⟨by decide, by decide⟩⟩
theorem nd3_ok : nd3.Ok := ⟨⟨by decide, by decide⟩, ⟨by decide, by decide⟩, z4_ok, z4_ok⟩
theorem check_0 : check ⟨[], [], []⟩ = (3, -1) := by decide
theorem check_1 : check ⟨[nd3], [], []⟩ = (0, -1) := by decide
theorem check_2 : check ⟨[nd3, nd3], [], []⟩ = (5, 1) := by decide

/-- ClusterFewer: what may be has with fewer pods what may be. -/
theorem ok_fewer {s : SnapD} (h : s.Ok) (n : Nat) : SnapD.Ok { s with pods := s.pods.take n } := ⟨h.1, h.2.1, fun a ha => h.2.2 a (List.mem_of_mem_take ha)⟩
end Go.Proofs.Ytpjoihafpjnipaa

/- The head of layer 7's laws: the document's example, and two pods that clash. -/
namespace Go.Proofs.Ytpjoihafpjnipaa
set_option linter.unusedSimpArgs false
open Go.RowKit
set_option linter.unusedVariables false

theorem recs_newG {α : Type} {size : Nat} {cells : α → List Value} (hc : ∀ x, (cells x).length = size) (w : World) (t : TypeId) (xs : List α) (cs : Array Value) (hcs : cs = (xs.flatMap cells).toArray) {g : Nat} (hg : g = w.heap.size) : Recs size cells (w.alloc (.cells cs t)) (g + 1) (some ⟨g, 0, none⟩) xs := by
  subst hcs hg
  refine .inr ⟨w.heap.size, 0, rfl, by omega, fun i hi j u hu => ?_⟩
  have hj : j < size := by have := (List.getElem?_eq_some_iff.1 hu).1; rwa [hc] at this
  have h2 := flatMap_get (size := size) hc hi hj
  rw [hu] at h2
  simpa using h2
def upL7 : LoadD := ⟨2, true, 0, 0, 0⟩
def upP7 : PodD := ⟨1, 2, 0, ⟨0, 0, 0, 0⟩, 3⟩
def upQ7 : PodD := ⟨4, 2, 0, ⟨0, 0, 0, 0⟩, 3⟩
theorem up7_none : apartOf [upL7] [] = (0, -1) := by decide
theorem up7_two : apartOf [upL7] [upP7, upQ7] = (10, 1) := by decide
theorem up7_clash : clashOf [upL7] [upP7, upQ7] 1 = 4 := by decide

end Go.Proofs.Ytpjoihafpjnipaa

namespace Go.Proofs.Ytpjoihafpjnipaa
set_option linter.unusedSimpArgs false
open Go.RowKit
set_option linter.unusedVariables false

def upQ10 : PodD := ⟨1, 0, 1, ⟨0, 0, 0, 0⟩, 3⟩
def upP10 : PodD := ⟨2, 0, 2, ⟨0, 0, 0, 0⟩, 0⟩
theorem up10_may : mayD 2 1 [upQ10, upP10] = true := by decide
theorem up10_not : mayD 1 2 [upQ10, upP10] = false := by decide
theorem up10_prio : prioD [upQ10, upP10] ⟨4, 1, 0, 2⟩ = true := by decide
theorem one_row {w : World} {B : Nat} {v : Value} {e : TypeId} {z : Int} (h : w.ownsRow B e 1 v [z].length (i64s [z])) : ∃ g c, v = .slice (some ⟨g, 0, none⟩) 1 c ∧ w.cell? ⟨g, 0, none⟩ = some (.int .i64 z) ∧ g < w.heap.size := by
  rcases h.2 with ⟨_, h0⟩ | ⟨g, cap, cur, hv, hb, hg, _⟩
  · cases h0
  · refine ⟨g, cap, hv, ?_, (Array.getElem?_eq_some_iff.1 hg).1⟩
    have := h.cells (g := g) (by rw [hv]; rfl) 0 (.int .i64 z) rfl
    rw [Addr.add_lit] at this
    exact this

set_option maxHeartbeats 6400000 in
set_option maxRecDepth 100000 in
theorem up10_any (w : World) : Calls Try.prog 5 #[] w fun e w' => e = .returned (.bool true) ∧ Below w.heap.size w w' := by
  have hr1 := recs_newG (cells := cellsP) (size := 8) (fun _ => rfl) w 32 [upQ10, upP10] #[.int .i64 1, .int .i64 0, .int .i64 1, .int .u64 0, .int .u64 0, .int .u64 0, .int .u64 0, .int .i64 3, .int .i64 2, .int .i64 0, .int .i64 2, .int .u64 0, .int .u64 0, .int .u64 0, .int .u64 0, .int .i64 0] rfl rfl
  have hb1 : Below w.heap.size w (w.alloc (.cells #[.int .i64 1, .int .i64 0, .int .i64 1, .int .u64 0, .int .u64 0, .int .u64 0, .int .u64 0, .int .i64 3, .int .i64 2, .int .i64 0, .int .i64 2, .int .u64 0, .int .u64 0, .int .u64 0, .int .u64 0, .int .i64 0] 32)) := (Below.refl _ w).alloc (Nat.le_refl _) _
  have hb2 := hb1.alloc (by simp) (.cells #[.slice (some ⟨w.heap.size, 0, none⟩) 2 2, .int .i64 0, .int .i64 0] 24)
  have hB : Bf ((w.alloc (.cells #[.int .i64 1, .int .i64 0, .int .i64 1, .int .u64 0, .int .u64 0, .int .u64 0, .int .u64 0, .int .i64 3, .int .i64 2, .int .i64 0, .int .i64 2, .int .u64 0, .int .u64 0, .int .u64 0, .int .u64 0, .int .i64 0] 32)).alloc (.cells #[.slice (some ⟨w.heap.size, 0, none⟩) 2 2, .int .i64 0, .int .i64 0] 24)) (w.heap.size + 1) [.slice (some ⟨w.heap.size, 0, none⟩) 2 2, .int .i64 0, .int .i64 0] :=
    Bf.new (w.alloc (.cells #[.int .i64 1, .int .i64 0, .int .i64 1, .int .u64 0, .int .u64 0, .int .u64 0, .int .u64 0, .int .i64 3, .int .i64 2, .int .i64 0, .int .i64 2, .int .u64 0, .int .u64 0, .int .u64 0, .int .u64 0, .int .i64 0] 32)) _ _ (by simp)
  have hr2 := hr1.below ((Below.refl _ _).alloc (Nat.le_refl _) (.cells #[.slice (some ⟨w.heap.size, 0, none⟩) 2 2, .int .i64 0, .int .i64 0] 24)) (by simp)
  have hsz : ((w.alloc (.cells #[.int .i64 1, .int .i64 0, .int .i64 1, .int .u64 0, .int .u64 0, .int .u64 0, .int .u64 0, .int .i64 3, .int .i64 2, .int .i64 0, .int .i64 2, .int .u64 0, .int .u64 0, .int .u64 0, .int .u64 0, .int .i64 0] 32)).alloc (.cells #[.slice (some ⟨w.heap.size, 0, none⟩) 2 2, .int .i64 0, .int .i64 0] 24)).heap.size = w.heap.size + 2 := by simp
  clear hr1 hb1
  go_enter Try.func5, Try.ntmps5
  go_upto_region 2 with fail
  generalize ((w.alloc (.cells #[.int .i64 1, .int .i64 0, .int .i64 1, .int .u64 0, .int .u64 0, .int .u64 0, .int .u64 0, .int .i64 3, .int .i64 2, .int .i64 0, .int .i64 2, .int .u64 0, .int .u64 0, .int .u64 0, .int .u64 0, .int .i64 0] 32)).alloc (.cells #[.slice (some ⟨w.heap.size, 0, none⟩) 2 2, .int .i64 0, .int .i64 0] 24)) = X at *
  have HSZ := Lib.hid hsz
  have HK := Lib.hid hb2
  have HBS := Lib.hid hB
  have HR := Lib.hid hr2
  have HGW := Lib.hid (show w.heap.size = w.heap.size from rfl)
  clear hsz hb2 hB hr2
  have HX : Hid (∀ V, Below X.heap.size X V → Recs 8 cellsP V V.heap.size (some ⟨w.heap.size, 0, none⟩) [upQ10, upP10]) := fun V hV => (HR.out.below hV (by have := HSZ.out; omega)).more (by have := hV.size; have := HSZ.out; omega)
  have HS : Hid (∀ V, Below X.heap.size X V → Bf V (w.heap.size + 1) [.slice (some ⟨w.heap.size, 0, none⟩) 2 2, .int .i64 0, .int .i64 0]) := fun V hV => HBS.out.below hV (by have := HSZ.out; omega)
  have H1 : Hid (∀ V, Below X.heap.size X V → Calls Try.prog 7 #[.agg #[.slice (some ⟨w.heap.size, 0, none⟩) 2 2, .int .i64 0, .int .i64 0], .int .i64 2, .int .i64 3] V fun e w' => ∃ g c, e = .returned (.slice (some ⟨g, 0, none⟩) 1 c) ∧ w'.cell? ⟨g, 0, none⟩ = some (.int .i64 1) ∧ g < w'.heap.size ∧ Below V.heap.size V w') := fun V hV => by
    refine (priorVictims_any sortPods [upQ10, upP10] 2 3 (some ⟨w.heap.size, 0, none⟩) 2 2 (.int .i64 0) (.int .i64 0) V rfl (by omega) (HX.out V hV)).mono fun e w' ⟨v, zs, he, hv, ho, hb⟩ => ?_
    have hz : zs = [1] := vic_up rfl (by decide) (by decide) (by decide) hv
    subst hz
    obtain ⟨g, c, rfl, h1, h2⟩ := one_row ho
    exact ⟨g, c, he, h1, h2, hb⟩
  have H2 : Hid (∀ V, Below X.heap.size X V → Calls Try.prog 6 #[.agg #[.slice (some ⟨w.heap.size, 0, none⟩) 2 2, .int .i64 0, .int .i64 0], .int .i64 2, .int .i64 1] V fun e w' => e = .returned (.bool true) ∧ Below V.heap.size V w') := fun V hV => by
    have h := priorMay_any [upQ10, upP10] 2 1 (some ⟨w.heap.size, 0, none⟩) 2 2 (.int .i64 0) (.int .i64 0) V rfl (by omega) (HX.out V hV)
    rw [up10_may] at h
    exact h
  have H3 : Hid (∀ V, Below X.heap.size X V → Calls Try.prog 6 #[.agg #[.slice (some ⟨w.heap.size, 0, none⟩) 2 2, .int .i64 0, .int .i64 0], .int .i64 1, .int .i64 2] V fun e w' => e = .returned (.bool false) ∧ Below V.heap.size V w') := fun V hV => by
    have h := priorMay_any [upQ10, upP10] 1 2 (some ⟨w.heap.size, 0, none⟩) 2 2 (.int .i64 0) (.int .i64 0) V rfl (by omega) (HX.out V hV)
    rw [up10_not] at h
    exact h
  have H4 : Hid (∀ V, Below X.heap.size X V → Calls Try.prog 9 #[.agg #[.slice (some ⟨w.heap.size, 0, none⟩) 2 2, .int .i64 0, .int .i64 0], .agg #[.int .i64 4, .int .i64 1, .int .i64 0, .int .i64 2]] V fun e w' => e = .returned (.iface 41 (.int .i64 14)) ∧ Below V.heap.size V w') := fun V hV => by
    have h := priorCheck_any [upQ10, upP10] ⟨4, 1, 0, 2⟩ (some ⟨w.heap.size, 0, none⟩) 2 2 (.int .i64 0) (.int .i64 0) V rfl (by omega) (HX.out V hV)
    rw [up10_prio] at h
    exact h
  have q14 : ∀ W, (binOp .eql 37 (.iface 41 (.int .i64 14)) (.iface 41 (.int .i64 14))).run Try.prog W = .ok (.bool true) W := fun _ => by kernel_rfl
  clear HR HBS
  obtain ⟨a0, a1, a2, a3⟩ := (HS.out _ (Below.refl _ _)).cells3
  go_wp2_with fail
  refine (H1.out _ (Below.refl _ _)).mono ?_
  rintro e w1 ⟨g, c, rfl, hg0, hg1, hb1⟩
  have HK1 := Lib.hid hb1
  have HG0 := Lib.hid hg0
  have HG1 := Lib.hid hg1
  clear a0 a1 a2 a3 hb1 hg0 hg1
  obtain ⟨a0, a1, a2, a3⟩ := (HS.out _ HK1.out).cells3
  go_wp2_with fail
  refine (H2.out _ HK1.out).mono ?_
  rintro e w2 ⟨rfl, hb2⟩
  have HK2 := Lib.hid (HK1.out.trans (hb2.mono HK1.out.size))
  have HG2 : Hid (w2.cell? ⟨g, 0, none⟩ = some (.int .i64 1)) := (hb2.cell (p := ⟨g, 0, none⟩) HG1.out).trans HG0.out
  have HG3 : Hid (g < w2.heap.size) := Nat.lt_of_lt_of_le HG1.out hb2.size
  clear a0 a1 a2 a3 hb2
  obtain ⟨a0, a1, a2, a3⟩ := (HS.out _ HK2.out).cells3
  go_wp2_with fail
  refine (H3.out _ HK2.out).mono ?_
  rintro e w3 ⟨rfl, hb3⟩
  have HK3 := Lib.hid (HK2.out.trans (hb3.mono HK2.out.size))
  have g4 : w3.cell? ⟨g, 0, none⟩ = some (.int .i64 1) := (hb3.cell (p := ⟨g, 0, none⟩) HG3.out).trans HG2.out
  have g5 : g < w3.heap.size := Nat.lt_of_lt_of_le HG3.out hb3.size
  clear a0 a1 a2 a3 hb3
  obtain ⟨a0, a1, a2, a3⟩ := (HS.out _ HK3.out).cells3
  go_wp2_with fail
  refine (H4.out _ HK3.out).mono ?_
  rintro e w4 ⟨rfl, hb4⟩
  have HK4 := Lib.hid (HK3.out.trans (hb4.mono HK3.out.size))
  clear hb4
  go_wp2
  go_ret
  exact ⟨rfl, HK.out.trans (HK4.out.mono HK.out.size)⟩
end Go.Proofs.Ytpjoihafpjnipaa
