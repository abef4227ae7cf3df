/- Joined texts, part 6: PE PF IE IF IG IH. -/
import Derived.Test.YtedcmchdapfhhaaZ05
import Derived.Test.YtedcmchdapfhhaaZ03
import Derived.Test.YtedcmchdapfhhaaZ02
import Derived.Deep.CutRange
import Derived.BigQuiet

/- The program's ids: the Ids of a row of pods. -/
namespace Go.Proofs.Ytedcmchdapfhhaa
set_option linter.unusedSimpArgs false
open Go.RowKit
set_option linter.unusedVariables false

def IdsRel (l : List PodD) (W : World) (B : Nat) (v i : Value) (wr : World) : Prop :=
  ∃ k : Nat, k ≤ l.length ∧ i = .int .i64 k ∧ wr.ownsRow B 3 1 v (i64s ((l.take k).map PodD.id)).length (i64s ((l.take k).map PodD.id)) ∧ Below B W wr
theorem ids_more {l : List PodD} {k : Nat} {p : PodD} (h : k < l.length) (hx : l[k] = p) : i64s ((l.take (k + 1)).map PodD.id) = i64s ((l.take k).map PodD.id) ++ [.int .i64 p.id] := by
  rw [List.take_succ_eq_append_getElem h, hx]; simp
/-- A row of numbers of the call's own is told. -/
def IntsTo (zs : List Int) (w : World) (e : Ending) (w' : World) : Prop := ∃ v, e = .returned v ∧ w'.ownsRow w.heap.size 3 1 v zs.length (i64s zs) ∧ Below w.heap.size w w'

set_option maxHeartbeats 3200000 in
set_option maxRecDepth 100000 in
theorem priorIds_any (l : List PodD) (A : Option Addr) (n c : Nat) (w : World) (hn : n = l.length) (hl : n ≤ 1000) (hr : Recs 8 cellsP w w.heap.size A l) :
    Calls Try.prog 24 #[.slice A n c] w (IntsTo (l.map PodD.id) w) := by
  have HR := Lib.hid hr
  have HN := Lib.hid hn
  clear hr hn
  go_enter Try.func24, Try.ntmps24
  go_wp2
  go_loopw [3, 8] (IdsRel l w w.heap.size) (fun _ i _ => n - (intOf i).toNat)
  case atStart => exact ⟨0, by omega, rfl, ⟨by simp, .inl ⟨rfl, by simp⟩⟩, Below.refl _ _⟩
  case round =>
    obtain ⟨k, hk, rfl, hown, hbr⟩ := hrel
    have HOWN := Lib.hid hown
    have hzr : w.heap.size ≤ wr.heap.size := hbr.size
    clear hown
    by_cases hlt : k < n
    · have hkl : k < l.length := by have := HN.out; omega
      obtain ⟨b, o, rfl, hb, he⟩ := HR.out.at hkl
      generalize hx : l[k] = x at *
      have HX := Lib.hid hx
      clear hx
      have e0 : wr.cell? ⟨b, o + k * 8, none⟩ = some (.int .i64 x.id) := (hbr.cell (p := ⟨b, o + k * 8, none⟩) hb).trans (he 0 _ rfl)
      have e1 : wr.cell? ⟨b, o + k * 8 + 1, none⟩ = some (.int .i64 x.load) := (hbr.cell (p := ⟨b, o + k * 8 + 1, none⟩) hb).trans (he 1 _ rfl)
      have e2 : wr.cell? ⟨b, o + k * 8 + 2, none⟩ = some (.int .i64 x.prio) := (hbr.cell (p := ⟨b, o + k * 8 + 2, none⟩) hb).trans (he 2 _ rfl)
      have e3 : wr.cell? ⟨b, o + k * 8 + 3, none⟩ = some (.int .u64 x.req.a) := (hbr.cell (p := ⟨b, o + k * 8 + 3, none⟩) hb).trans (he 3 _ rfl)
      have e4 : wr.cell? ⟨b, o + k * 8 + 4, none⟩ = some (.int .u64 x.req.b) := (hbr.cell (p := ⟨b, o + k * 8 + 4, none⟩) hb).trans (he 4 _ rfl)
      have e5 : wr.cell? ⟨b, o + k * 8 + 5, none⟩ = some (.int .u64 x.req.c) := (hbr.cell (p := ⟨b, o + k * 8 + 5, none⟩) hb).trans (he 5 _ rfl)
      have e6 : wr.cell? ⟨b, o + k * 8 + 6, none⟩ = some (.int .u64 x.req.d) := (hbr.cell (p := ⟨b, o + k * 8 + 6, none⟩) hb).trans (he 6 _ rfl)
      have e7 : wr.cell? ⟨b, o + k * 8 + 7, none⟩ = some (.int .i64 x.node) := (hbr.cell (p := ⟨b, o + k * 8 + 7, none⟩) hb).trans (he 7 _ rfl)
      have hbw : b < wr.heap.size := by omega
      have HM := Lib.hid (ids_more hkl HX.out)
      have HL : Hid ((i64s ((l.take k).map PodD.id)).length ≤ 2000000) := by show _ ≤ _; simp; omega
      have k1 : Below w.heap.size w (wr.alloc (.cells #[.int .i64 x.id, .int .i64 x.load, .int .i64 x.prio, .int .u64 x.req.a, .int .u64 x.req.b, .int .u64 x.req.c, .int .u64 x.req.d, .int .i64 x.node] 38)) := hbr.alloc hzr _
      have HO1 := Lib.hid (HOWN.out.alloc (.cells #[.int .i64 x.id, .int .i64 x.load, .int .i64 x.prio, .int .u64 x.req.a, .int .u64 x.req.b, .int .u64 x.req.c, .int .u64 x.req.d, .int .i64 x.node] 38))
      clear he
      go_wp2_with (at_builtin; refine wpList_push 39 3 (.int .i64 0) 8 Try.underlying39 Try.info3 rfl (by decide) rfl (.tmp 12) (.tmp 15) rfl w.heap.size _ (i64s ((l.take k).map PodD.id)) (.int .i64 x.id) rfl HO1.out (by show w.heap.size ≤ (wr.alloc _).heap.size; simp; omega) HL.out rfl (by simp [go_sem]) ?_; intro v5 w3 hown3 hb3 hB3)
      have HO3 := Lib.hid hown3
      clear hown3
      go_wp2
      go_roundw
      case rel => exact ⟨k + 1, by omega, by go_num, by rw [HM.out]; exact HO3.out, k1.trans hb3⟩
      case measure => simp [intOf]; omega
    · have HK : Hid (l.take k = l) := List.take_of_length_le (by have := HN.out; omega)
      have HO : Hid (wr.ownsRow w.heap.size 3 1 u3 (l.map PodD.id).length (i64s (l.map PodD.id))) := by
        have h := HOWN.out
        rw [HK.out, List.length_map (f := Value.int .i64)] at h
        exact h
      go_wp2
      go_ret
      exact ⟨_, rfl, HO.out, hbr⟩
end Go.Proofs.Ytedcmchdapfhhaa

/- The program's Victims, from what slices.SortFunc comes to. -/
namespace Go.Proofs.Ytedcmchdapfhhaa
set_option linter.unusedSimpArgs false
open Go.RowKit
set_option linter.unusedVariables false

/-- slices.SortFunc at a row of pods of the call's own, in the order of those that may go. -/
def SortPods : Prop := ∀ (B : Nat) (v : Value) (xs : List PodD) (m : Nat) (w : World), B ≤ w.heap.size → m = xs.length → w.ownsRow B 38 8 v m (xs.flatMap cellsP) → m ≤ 1000 →
  Calls Try.prog 22 #[v, .func (.func 23) #[] #[]] w fun e w' => e = .returned (.tuple #[]) ∧ ∃ ys : List PodD, ys.Perm xs ∧ (ys.Pairwise fun x y => ¬ ltV y x) ∧ w'.ownsRow B 38 8 v m (ys.flatMap cellsP) ∧ Below B w w'

def VicRel (l : List PodD) (node : Int) (x : PodD) (W : World) (B : Nat) (v i : Value) (wr : World) : Prop :=
  ∃ k m : Nat, k ≤ l.length ∧ i = .int .i64 k ∧ m = (vicD node x (l.take k)).length ∧ wr.ownsRow B 38 8 v m ((vicD node x (l.take k)).flatMap cellsP) ∧ Below B W wr
/-- What Victims tells. -/
def VicTo (node pod : Int) (l : List PodD) (w : World) (e : Ending) (w' : World) : Prop :=
  ∃ (v : Value) (zs : List Int), e = .returned v ∧ VicIs node pod l zs ∧ w'.ownsRow w.heap.size 3 1 v zs.length (i64s zs) ∧ Below w.heap.size w w'
theorem own_pods {B m : Nat} {e : TypeId} {w1 : World} {v : Value} {xs ys : List PodD} {x : PodD} (hm : m = xs.length) (h : w1.ownsRow B e 8 v (m + 1) (xs.flatMap cellsP ++ cellsP x)) (he : ys = xs ++ [x]) : w1.ownsRow B e 8 v (m + 1) (ys.flatMap cellsP) ∧ m + 1 = ys.length := by
  subst he hm; simpa using h

theorem own_below8 {w w' : World} {B base n size : Nat} {e : TypeId} {v : Value} {xs : List Value} (h : w.ownsRow base e size v n xs) (hb : Below B w w') (hB : w.heap.size ≤ B) : w'.ownsRow base e size v n xs := by
  refine ⟨h.1, ?_⟩
  rcases h.2 with h0 | ⟨g, cap, cur, hv, hb1, hg, rest⟩
  · exact .inl h0
  · have hlt : g < w.heap.size := (Array.getElem?_eq_some_iff.1 hg).1
    exact .inr ⟨g, cap, cur, hv, hb1, (hb.block g (by omega)).trans hg, rest⟩

set_option maxHeartbeats 6400000 in
set_option maxRecDepth 100000 in
theorem priorVictims_any (HS : SortPods) (l : List PodD) (pod node : Int) (A : Option Addr) (n c : Nat) (v1 v2 : Value) (w : World) (hn : n = l.length) (hl : n ≤ 1000) (hr : Recs 8 cellsP w w.heap.size A l) :
    Calls Try.prog 13 #[.agg #[.slice A n c, v1, v2], .int .i64 pod, .int .i64 node] w (VicTo node pod l w) := by
  have HSS := Lib.hid HS
  have HR := Lib.hid hr
  have HN := Lib.hid hn
  have B0 : Bf (w.alloc (.cells #[.slice A n c, v1, v2] 31)) w.heap.size [.slice A n c, v1, v2] := Bf.new w [.slice A n c, v1, v2] 31 rfl
  have k0 : Below w.heap.size w (w.alloc (.cells #[.slice A n c, v1, v2] 31)) := (Below.refl _ _).alloc (Nat.le_refl _) _
  have HC1 := Lib.hid (podOf_any l pod A n c v1 v2 _ hn hl ((hr.below k0 (Nat.le_refl _)).more k0.size))
  have HX : Hid (∃ x s, x = podZ pod l ∧ s = hasP pod l) := ⟨_, _, rfl, rfl⟩
  obtain ⟨x, s, hx, hs⟩ := HX.out
  rw [← hx, ← hs] at HC1
  have HPX := Lib.hid hx
  have HPS := Lib.hid hs
  clear hn hr HX hx hs HS
  go_enter Try.func13, Try.ntmps13
  go_wp2_with fail
  refine HC1.out.mono ?_
  rintro e w1 ⟨rfl, hb1⟩
  have k1 := k0.trans (hb1.mono k0.size)
  have B1 := B0.below hb1 B0.lt
  have X1 : Bf (w1.alloc (.cells #[.int .i64 x.id, .int .i64 x.load, .int .i64 x.prio, .int .u64 x.req.a, .int .u64 x.req.b, .int .u64 x.req.c, .int .u64 x.req.d, .int .i64 x.node] 38)) w1.heap.size (cellsP x) := Bf.new w1 (cellsP x) 38 rfl
  have B2 := B1.alloc (.cells #[.int .i64 x.id, .int .i64 x.load, .int .i64 x.prio, .int .u64 x.req.a, .int .u64 x.req.b, .int .u64 x.req.c, .int .u64 x.req.d, .int .i64 x.node] 38)
  have k2 : Below w.heap.size w (w1.alloc (.cells #[.int .i64 x.id, .int .i64 x.load, .int .i64 x.prio, .int .u64 x.req.a, .int .u64 x.req.b, .int .u64 x.req.c, .int .u64 x.req.d, .int .i64 x.node] 38)) := k1.alloc k1.size _
  clear hb1 B0 k0 B1 k1
  go_upto_region 2 with fail
  generalize hW : w1.alloc (.cells #[.int .i64 x.id, .int .i64 x.load, .int .i64 x.prio, .int .u64 x.req.a, .int .u64 x.req.b, .int .u64 x.req.c, .int .u64 x.req.d, .int .i64 x.node] 38) = W at *
  generalize hg : w1.heap.size = gx at *
  clear hW hg w1
  cases s with
  | false =>
    go_wp2
    go_ret
    exact ⟨_, [], rfl, .inr ⟨.inl HPS.out.symm, rfl⟩, ⟨by simp, .inl ⟨rfl, by simp⟩⟩, k2⟩
  | true =>
    by_cases h0 : node = 0
    · have hd : (node == 0) = true := by simp [h0]
      have H0 := Lib.hid h0
      clear h0
      go_wp2
      go_ret
      exact ⟨_, [], rfl, .inr ⟨.inr H0.out, rfl⟩, ⟨by simp, .inl ⟨rfl, by simp⟩⟩, k2⟩
    · have hd : (node == 0) = false := by simp [h0]
      have H0 := Lib.hid h0
      clear h0
      obtain ⟨b0, b1, b2, b3⟩ := B2.cells3
      go_wp2
      clear b0 b1 b2 b3
      go_loopw [9, 27] (VicRel l node x W W.heap.size) (fun _ i _ => n - (intOf i).toNat)
      case atStart => exact ⟨0, 0, by omega, rfl, by simp [vicD], ⟨by simp [vicD], .inl ⟨rfl, rfl⟩⟩, Below.refl _ _⟩
      case round =>
        obtain ⟨k, m, hk, rfl, hm, hown, hbr⟩ := hrel
        have HMM := Lib.hid hm
        have HOW := Lib.hid hown
        have hz : W.heap.size ≤ wr.heap.size := hbr.size
        have kwr : Below w.heap.size w wr := k2.trans (hbr.mono k2.size)
        have hbx := X1.below hbr X1.lt
        clear hm hown
        by_cases hlt : k < n
        · have hkl : k < l.length := by have := HN.out; omega
          obtain ⟨b, o, rfl, hb, he⟩ := HR.out.at hkl
          generalize hxx : l[k] = y at *
          have HXX := Lib.hid hxx
          clear hxx
          have e0 : wr.cell? ⟨b, o + k * 8, none⟩ = some (.int .i64 y.id) := (kwr.cell (p := ⟨b, o + k * 8, none⟩) hb).trans (he 0 _ rfl)
          have e1 : wr.cell? ⟨b, o + k * 8 + 1, none⟩ = some (.int .i64 y.load) := (kwr.cell (p := ⟨b, o + k * 8 + 1, none⟩) hb).trans (he 1 _ rfl)
          have e2 : wr.cell? ⟨b, o + k * 8 + 2, none⟩ = some (.int .i64 y.prio) := (kwr.cell (p := ⟨b, o + k * 8 + 2, none⟩) hb).trans (he 2 _ rfl)
          have e3 : wr.cell? ⟨b, o + k * 8 + 3, none⟩ = some (.int .u64 y.req.a) := (kwr.cell (p := ⟨b, o + k * 8 + 3, none⟩) hb).trans (he 3 _ rfl)
          have e4 : wr.cell? ⟨b, o + k * 8 + 4, none⟩ = some (.int .u64 y.req.b) := (kwr.cell (p := ⟨b, o + k * 8 + 4, none⟩) hb).trans (he 4 _ rfl)
          have e5 : wr.cell? ⟨b, o + k * 8 + 5, none⟩ = some (.int .u64 y.req.c) := (kwr.cell (p := ⟨b, o + k * 8 + 5, none⟩) hb).trans (he 5 _ rfl)
          have e6 : wr.cell? ⟨b, o + k * 8 + 6, none⟩ = some (.int .u64 y.req.d) := (kwr.cell (p := ⟨b, o + k * 8 + 6, none⟩) hb).trans (he 6 _ rfl)
          have e7 : wr.cell? ⟨b, o + k * 8 + 7, none⟩ = some (.int .i64 y.node) := (kwr.cell (p := ⟨b, o + k * 8 + 7, none⟩) hb).trans (he 7 _ rfl)
          have hz0 := kwr.size
          have hbw : b < wr.heap.size := by omega
          clear he hz0
          have kV := hbr.alloc hz (.cells #[.int .i64 y.id, .int .i64 y.load, .int .i64 y.prio, .int .u64 y.req.a, .int .u64 y.req.b, .int .u64 y.req.c, .int .u64 y.req.d, .int .i64 y.node] 38)
          have hOV := HOW.out.alloc (.cells #[.int .i64 y.id, .int .i64 y.load, .int .i64 y.prio, .int .u64 y.req.a, .int .u64 y.req.b, .int .u64 y.req.c, .int .u64 y.req.d, .int .i64 y.node] 38)
          have hY : Bf (wr.alloc (.cells #[.int .i64 y.id, .int .i64 y.load, .int .i64 y.prio, .int .u64 y.req.a, .int .u64 y.req.b, .int .u64 y.req.c, .int .u64 y.req.d, .int .i64 y.node] 38)) wr.heap.size (cellsP y) := Bf.new wr (cellsP y) 38 rfl
          have hX := hbx.alloc (.cells #[.int .i64 y.id, .int .i64 y.load, .int .i64 y.prio, .int .u64 y.req.a, .int .u64 y.req.b, .int .u64 y.req.c, .int .u64 y.req.d, .int .i64 y.node] 38)
          go_upto_region 8 with fail
          generalize (wr.alloc (.cells #[.int .i64 y.id, .int .i64 y.load, .int .i64 y.prio, .int .u64 y.req.a, .int .u64 y.req.b, .int .u64 y.req.c, .int .u64 y.req.d, .int .i64 y.node] 38)) = V at *
          generalize wr.heap.size = gy at *
          have HOV := Lib.hid hOV
          have HKV := Lib.hid kV
          have HHX := Lib.hid hX
          have HHY := Lib.hid hY
          have HL : Hid (m ≤ 2000000) := by
            have h1 := vic_len node x (l.take k)
            have h2 := HMM.out
            have h4 := HN.out
            show _ ≤ _
            rw [List.length_take] at h1
            omega
          clear hOV kV hX hY e0 e1 e2 e3 e4 e5 e6 e7 hbr hbx kwr HOW
          obtain ⟨⟨y0, y1, y2, y3⟩, y4, y5, y6, y7, y8⟩ := HHY.out.cells8p
          obtain ⟨⟨x0, x1, x2, x3⟩, x4, x5, x6, x7, x8⟩ := HHX.out.cells8p
          by_cases hy : y.node = node
          · have hdn : (y.node == node) = true := by simp [hy]
            have HQ : Hid (isV node x y = goV y x) := by show _ = _; simp [isV, hdn]
            clear hy
            go_wp2_with fail
            refine (mayGo_any y x _).mono ?_
            rintro e w3 ⟨rfl, hb3⟩
            have HK3 := Lib.hid (HKV.out.trans (hb3.mono HKV.out.size))
            have HO3 := Lib.hid (own_below8 HOV.out hb3 (Nat.le_refl _))
            have HY3 := Lib.hid (HHY.out.below hb3 HHY.out.lt)
            clear hb3 y0 y1 y2 y3 y4 y5 y6 y7 y8 x0 x1 x2 x3 x4 x5 x6 x7 x8
            obtain ⟨⟨y0, y1, y2, y3⟩, y4, y5, y6, y7, y8⟩ := HY3.out.cells8p
            have HZ3 : Hid (W.heap.size ≤ w3.heap.size) := HK3.out.size
            cases hv : goV y x with
            | true =>
              have HE := Lib.hid (vic_in (node := node) (p := x) hkl HXX.out (HQ.out.trans hv))
              clear hv
              go_wp2_with (at_builtin; refine wpList_pushR 24 38 (.agg #[.int .i64 0, .int .i64 0, .int .i64 0, .int .u64 0, .int .u64 0, .int .u64 0, .int .u64 0, .int .i64 0]) 8 64 underPods infoPod rfl (by decide) (by decide) rfl (.tmp 40) (.tmp 42) rfl W.heap.size _ m _ (cellsP y) rfl (onePod _) HO3.out HZ3.out HL.out rfl rfl ?_; intro v' w4 hown4 hb4 hB4)
              have HO4 := Lib.hid (own_pods HMM.out hown4 HE.out)
              clear hown4
              go_wp2
              go_roundw
              case rel => exact ⟨k + 1, m + 1, by omega, by go_num, HO4.out.2, HO4.out.1, HK3.out.trans hb4⟩
              case measure => simp [intOf]; omega
            | false =>
              have HE := Lib.hid (vic_out (node := node) (p := x) hkl HXX.out (HQ.out.trans hv))
              clear hv
              go_wp2
              go_roundw
              case rel => exact ⟨k + 1, m, by omega, by go_num, by rw [HE.out]; exact HMM.out, by rw [HE.out]; exact HO3.out, HK3.out⟩
              case measure => simp [intOf]; omega
          · have hdn : (y.node == node) = false := by simp [hy]
            have HE := Lib.hid (vic_out (node := node) (p := x) hkl HXX.out (by simp [isV, hdn]))
            clear hy x0 x1 x2 x3 x4 x5 x6 x7 x8
            go_wp2
            go_roundw
            case rel => exact ⟨k + 1, m, by omega, by go_num, by rw [HE.out]; exact HMM.out, by rw [HE.out]; exact HOV.out, HKV.out⟩
            case measure => simp [intOf]; omega
        · have HK : Hid (l.take k = l) := List.take_of_length_le (by have := HN.out; omega)
          have HO : Hid (m = (vicD node x l).length ∧ wr.ownsRow W.heap.size 38 8 u9 m ((vicD node x l).flatMap cellsP)) := by
            have h1 := HMM.out
            have h2 := HOW.out
            rw [HK.out] at h1 h2
            exact ⟨h1, h2⟩
          have HL : Hid (m ≤ 1000) := by
            have h1 := vic_len node x l
            have h2 := HO.out.1
            have h4 := HN.out
            show _ ≤ _
            omega
          have HKW := Lib.hid hbr
          clear hbx HOW HMM
          go_wp2_with fail
          refine (HSS.out _ _ _ _ _ hz HO.out.1 HO.out.2 HL.out).mono ?_
          rintro e w3 ⟨rfl, ys, hp, hs, hown3, hb3⟩
          obtain ⟨A', c', rfl, hc1, hc2, hc3⟩ := own_form3 hown3
          have hmy : m = ys.length := by rw [hp.length_eq]; exact HO.out.1
          have hO3 := recs_of_own lenP hmy hown3
          have HP := Lib.hid hp
          have HSO := Lib.hid hs
          have HK3 := Lib.hid (HKW.out.trans hb3)
          have HI : Hid (Calls Try.prog 24 #[.slice A' m c'] w3 (IntsTo (ys.map PodD.id) w3)) := by
            obtain ⟨A2, c2, he, _, _, _, h⟩ := hO3
            injection he with e1 _ e3
            subst e1 e3
            exact priorIds_any ys _ _ _ w3 hmy HL.out h
          clear hp hs hown3 hb3 hO3 hc1 hc2 hc3 hmy
          go_wp2_with fail
          refine HI.out.mono ?_
          rintro e w4 ⟨v, rfl, hown4, hb4⟩
          have HO4 := Lib.hid hown4
          clear hown4
          go_wp2
          go_ret
          have k3 : Below w.heap.size w w3 := k2.trans (HK3.out.mono k2.size)
          refine ⟨v, ys.map PodD.id, rfl, .inl ⟨⟨HPS.out.symm, H0.out⟩, ys, by rw [← HPX.out]; exact HP.out, HSO.out, rfl⟩, own_mono HO4.out k3.size, k3.trans (hb4.mono k3.size)⟩
end Go.Proofs.Ytedcmchdapfhhaa

/- The program's without of layer 15: a state in which some are nowhere. -/
namespace Go.Proofs.Ytedcmchdapfhhaa
set_option linter.unusedSimpArgs false
open Go.RowKit
set_option linter.unusedVariables false

theorem values_at (A : Option Addr) (len cap g : Nat) (w : World) (hg : g = w.heap.size) :
    Calls Try.prog 30 #[.slice A len cap] w fun e w' => e = .returned (.func (.func 47) #[] #[.pointer (some ⟨g, 0, none⟩)]) ∧ w' = w.alloc (.cells #[.slice A len cap] 39) := by
  subst hg; exact values_any A len cap w
theorem T2.aside {a b : List Value} {w V : World} (h : T2 a b w V) {p : Addr} (hp : w.heap.size + 2 ≤ p.block) (v : Value) : T2 a b w (V.setCell p v) :=
  ⟨h.one.other (by omega) v, h.two.other (by omega) v, h.below.setCell (by omega) v⟩
theorem T2.putA {a b : List Value} {w V : World} (h : T2 a b w V) (i : Nat) (v : Value) : T2 (a.set i v) b w (V.setCell ⟨w.heap.size, i, none⟩ v) :=
  ⟨h.one.set i v, h.two.other (by simp) v, h.below.setCell (by simp) v⟩
theorem own_aside {w : World} {base n size : Nat} {e : TypeId} {v : Value} {xs : List Value} (h : w.ownsRow base e size v n xs) {p : Addr} (hp : p.block < base) (u : Value) : (w.setCell p u).ownsRow base e size v n xs := by
  refine ⟨h.1, ?_⟩
  rcases h.2 with h0 | ⟨g, cap, cur, hv, hb1, hg, rest⟩
  · exact .inl h0
  · exact .inr ⟨g, cap, cur, hv, hb1, (Below.heap_setCell _ _ _ g (fun e => by omega)).trans hg, rest⟩
theorem recsG_own {w : World} {B n c : Nat} {A : Option Addr} {zs : List Int} (hn : n = zs.length) (h : w.ownsRow B 3 1 (.slice A n c) n (i64s zs)) : Recs 1 cellG w w.heap.size A zs := by
  obtain ⟨A', c', he, _, _, _, hr⟩ := recsG hn h
  injection he with e1
  subst e1
  exact hr
theorem Recs.both {α : Type} {size : Nat} {cells : α → List Value} {w w' : World} {B B' : Nat} {A : Option Addr} {xs : List α} (h : Recs size cells w B A xs) (h' : Recs size cells w' B' A xs) : Recs size cells w' B A xs := by
  rcases h with h | ⟨b, o, rfl, hb, _⟩
  · exact .inl h
  · rcases h' with h' | ⟨b', o', e, _, h3⟩
    · exact .inl h'
    · injection e with e
      injection e with e1 e2
      subst e1 e2
      exact .inr ⟨b, o, rfl, hb, h3⟩
def OutRel (l : List PodD) (node : Int) (ids : List Int) (A' : Option Addr) (a b : List Value) (w : World) (BS : Nat) (AS : Option Addr) (i : Value) (wr : World) : Prop :=
  ∃ k : Nat, k ≤ l.length ∧ i = .int .i64 k ∧ T2 a b w wr ∧ Recs 1 cellG wr BS AS (sortG ids) ∧ (l = [] ∨ ∃ g, A' = some ⟨g, 0, none⟩ ∧ w.heap.size + 2 ≤ g ∧ BS ≤ g ∧ Lst g ((l.take k).map (goneD node ids) ++ l.drop k) wr)
theorem cellsP_node0 (p : PodD) : cellsP { p with node := 0 } = (cellsP p).set 7 (.int .i64 0) := rfl
/-- What without tells: the state, with those of these Ids that are at the node nowhere. -/
def WithoutTo (l : List PodD) (node : Int) (ids : List Int) (n : Nat) (v1 v2 : Value) (w : World) (e : Ending) (w' : World) : Prop :=
  ∃ A c, e = .returned (.agg #[.slice A n c, v1, v2]) ∧ Recs 8 cellsP w' w'.heap.size A (outD node ids l) ∧ Below w.heap.size w w'

set_option maxHeartbeats 12800000 in
set_option maxRecDepth 100000 in
theorem without_any (l : List PodD) (node : Int) (ids : List Int) (A4 A : Option Addr) (n4 c4 n c : Nat) (x1 x2 : Int) (w : World)
    (hn4 : n4 = l.length) (hl4 : n4 ≤ 400) (h04 : A4 = none → c4 = 0) (hr4 : Recs 8 cellsP w w.heap.size A4 l) (hn : n = ids.length) (hl : n ≤ 1000) (hr : Recs 1 cellG w w.heap.size A ids) :
    Calls Try.prog 17 #[.agg #[.slice A4 n4 c4, .int .i64 x1, .int .i64 x2], .int .i64 node, .slice A n c] w (WithoutTo l node ids n4 (.int .i64 x1) (.int .i64 x2) w) := by
  have T0 := T2.new w [.slice A4 n4 c4, .int .i64 x1, .int .i64 x2] [.slice none 0 0, .int .i64 0, .int .i64 0] 31 31
  have HN4 := Lib.hid hn4
  have HN := Lib.hid hn
  have HV := Lib.hid (values_at A n c (w.heap.size + 2) ((w.alloc (.cells #[.slice A4 n4 c4, .int .i64 x1, .int .i64 x2] 31)).alloc (.cells #[.slice none 0 0, .int .i64 0, .int .i64 0] 31)) (by simp))
  have T1 := T0.alloc (.cells #[.slice A n c] 39)
  have HS := Lib.hid (sorted_any (w.heap.size + 2) n c A ids hn hl (((w.alloc (.cells #[.slice A4 n4 c4, .int .i64 x1, .int .i64 x2] 31)).alloc (.cells #[.slice none 0 0, .int .i64 0, .int .i64 0] 31)).alloc (.cells #[.slice A n c] 39)) (by simp) ((Bf.new _ [.slice A n c] 39 (by simp)).cell 0 _ rfl) ((hr.below T1.below (Nat.le_refl _)).more T1.below.size))
  have HC := Lib.hid (fun V (hV : Below w.heap.size w V) => cloneP_any l A4 n4 c4 V hn4 (by omega) h04 ((hr4.below hV (Nat.le_refl _)).more hV.size))
  have HT1 := Lib.hid T1
  clear hr hr4 hn hn4 h04 T0 T1
  go_enter Try.func17, Try.ntmps17
  go_wp2_with fail
  refine HV.out.mono ?_
  rintro e w1 ⟨rfl, rfl⟩
  go_wp2_with fail
  refine HS.out.mono ?_
  rintro e w2 ⟨vs, rfl, hos, hb2⟩
  have T2' := HT1.out.keep hb2
  obtain ⟨AS, cs, rfl, _, _, _, hrs⟩ := recsG (sortG_len ids).symm hos
  obtain ⟨a0, a1, a2, a3⟩ := T2'.one.cells3
  have a4 := T2'.one.frozen 0
  have hs2 : w.heap.size + 3 ≤ w2.heap.size := by have := hb2.size; simpa using this
  have hos' : w2.ownsRow (w.heap.size + 3) 3 1 (.slice AS ids.length cs) ids.length (i64s (sortG ids)) := by simpa using hos
  have HT2 := Lib.hid T2'
  have HOS := Lib.hid hos'
  have HR2 := Lib.hid hrs
  have HC2 := Lib.hid (HC.out w2 T2'.below)
  clear hos hos' hrs T2' hb2 HS HV HT1 HC
  go_wp2_with fail
  refine HC2.out.mono ?_
  rintro e w3 ⟨A', c', rfl, ho3, hb3⟩
  have T3 := HT2.out.keep hb3
  have k0 := T3.one.cells3.1
  have k1 := T3.one.frozen 0
  have hs3 := hb3.size
  have HT4 := Lib.hid (T3.putA 0 (.slice A' n4 c'))
  have HRS4 := Lib.hid (recsG_own (sortG_len ids).symm (own_aside (own_below8 HOS.out hb3 (Nat.le_refl _)) (p := ⟨w.heap.size, 0, none⟩) (by simp) (.slice A' n4 c')))
  have HL4 : Hid (l = [] ∨ ∃ g, A' = some ⟨g, 0, none⟩ ∧ w.heap.size + 2 ≤ g ∧ w2.heap.size ≤ g ∧ Lst g l (w3.setCell ⟨w.heap.size, 0, none⟩ (.slice A' n4 c'))) := by
    rcases l with _ | ⟨p, r⟩
    · exact .inl rfl
    · obtain ⟨g, e1, e2, _, _, e3⟩ := Lst.fresh (l := p :: r) (w0 := w2) (A := A') (c := c') (w := w3) (by have := HN4.out; subst this; exact ho3) (by simp)
      exact .inr ⟨g, e1, by omega, e2, e3.other (by simp; omega) _⟩
  have HRS5 := Lib.hid (HR2.out.both HRS4.out)
  have hw2 : w.heap.size + 3 ≤ w2.heap.size := hs2
  generalize hBS : w2.heap.size = BS at *
  clear ho3 T3 HT2 HOS HR2 HC2 HRS4 a0 a1 a2 a3 a4 hs3 hb3
  have HA : Hid (T2 [.slice A' n4 c', .int .i64 x1, .int .i64 x2] [.slice none 0 0, .int .i64 0, .int .i64 0] w (w3.setCell ⟨w.heap.size, 0, none⟩ (.slice A' n4 c'))) := HT4
  have ha0 := HA.out.one.cells3.1
  have ha4 := HA.out.one.frozen 0
  go_wp2
  go_loopw [21] (OutRel l node ids A' [.slice A' n4 c', .int .i64 x1, .int .i64 x2] [.slice none 0 0, .int .i64 0, .int .i64 0] w BS AS) (fun i _ => n4 - (intOf i).toNat)
  case atStart => exact ⟨0, by omega, rfl, HA.out, HRS5.out, HL4.out⟩
  case round =>
    clear k0 k1 ha0 ha4 HA HRS5 HL4 HT4
    obtain ⟨k, hk, rfl, T1, hrs, hL⟩ := hrel
    by_cases hlt : k < n4
    · have hkl : k < l.length := by have := HN4.out; omega
      have hL' : ∃ g, A' = some ⟨g, 0, none⟩ ∧ w.heap.size + 2 ≤ g ∧ BS ≤ g ∧ Lst g ((l.take k).map (goneD node ids) ++ l.drop k) wr := by
        rcases hL with h | h
        · rw [h] at hkl; simp at hkl
        · exact h
      obtain ⟨g, rfl, hg1, hg2, hLs⟩ := hL'
      clear hL
      have hlen : ((l.take k).map (goneD node ids) ++ l.drop k).length = l.length := by simp; omega
      have hki : k < ((l.take k).map (goneD node ids) ++ l.drop k).length := by omega
      have hx0 : ((l.take k).map (goneD node ids) ++ l.drop k)[k] = l[k] := out_here hkl
      generalize hx : l[k] = p at *
      have HX := Lib.hid hx
      clear hx
      have e0 : wr.cell? ⟨g, k * 8, none⟩ = some (.int .i64 p.id) := hLs.at hki hx0 0 _ rfl
      have e1 : wr.cell? ⟨g, k * 8 + 1, none⟩ = some (.int .i64 p.load) := hLs.at hki hx0 1 _ rfl
      have e2 : wr.cell? ⟨g, k * 8 + 2, none⟩ = some (.int .i64 p.prio) := hLs.at hki hx0 2 _ rfl
      have e3 : wr.cell? ⟨g, k * 8 + 3, none⟩ = some (.int .u64 p.req.a) := hLs.at hki hx0 3 _ rfl
      have e4 : wr.cell? ⟨g, k * 8 + 4, none⟩ = some (.int .u64 p.req.b) := hLs.at hki hx0 4 _ rfl
      have e5 : wr.cell? ⟨g, k * 8 + 5, none⟩ = some (.int .u64 p.req.c) := hLs.at hki hx0 5 _ rfl
      have e6 : wr.cell? ⟨g, k * 8 + 6, none⟩ = some (.int .u64 p.req.d) := hLs.at hki hx0 6 _ rfl
      have e7 : wr.cell? ⟨g, k * 8 + 7, none⟩ = some (.int .i64 p.node) := hLs.at hki hx0 7 _ rfl
      have hgl := hLs.lt
      have HX0 := Lib.hid hx0
      have HLEN := Lib.hid hlen
      have hal : Below wr.heap.size wr (wr.alloc (.cells #[.int .i64 p.id, .int .i64 p.load, .int .i64 p.prio, .int .u64 p.req.a, .int .u64 p.req.b, .int .u64 p.req.c, .int .u64 p.req.d, .int .i64 p.node] 38)) := (Below.refl _ _).alloc (Nat.le_refl _) _
      have hBwr : BS ≤ wr.heap.size := by omega
      have HSE := Lib.hid (searchG_any (sortG ids) p.id AS ids.length cs _ (sortG_len ids).symm (by have := HN.out; omega) (sortG_le ids) (hrs.below hal hBwr))
      rw [sortG_contains] at HSE
      have HTW := Lib.hid (T1.keep hal)
      have HRW := Lib.hid (hrs.below hal hBwr)
      have HLW := Lib.hid (hLs.below hal)
      have HB := Lib.hid (Bf.new wr (cellsP p) 38 rfl)
      clear T1 hrs hLs hal hx0 hlen
      go_wp2_with fail
      refine HSE.out.mono ?_
      rintro e w5 ⟨⟨kk, rfl⟩, hb5⟩
      have HT5 := Lib.hid (HTW.out.keep hb5)
      have HR5 := Lib.hid (HRW.out.below hb5 (by simp; omega))
      have HL5 := Lib.hid (HLW.out.below hb5)
      have HB5 := Lib.hid (HB.out.below hb5 (by simp))
      have hs5 : wr.heap.size + 1 ≤ w5.heap.size := by have := hb5.size; simpa using this
      clear hb5 HSE HTW HRW HLW HB e0 e1 e2 e3 e4 e5 e6 e7
      rcases hm : ids.contains p.id with _ | _
      · have HE := Lib.hid (out_same (node := node) (ids := ids) hkl HX.out (gone_no1 hm))
        clear hm
        go_wp2
        go_roundw
        case rel => exact ⟨k + 1, by omega, by go_num, HT5.out, HR5.out, .inr ⟨g, rfl, hg1, hg2, by rw [← HE.out]; exact HL5.out⟩⟩
        case measure => simp [intOf]; omega
      · have q7 : w5.cell? ⟨wr.heap.size, 7, none⟩ = some (.int .i64 p.node) := HB5.out.cell 7 _ rfl
        by_cases hpn : p.node = node
        · have hd : (p.node == node) = true := by simp [hpn]
          have HE := Lib.hid (out_step (node := node) (ids := ids) hkl HX.out)
          have HG := Lib.hid (gone_yes hm hpn)
          clear hm hpn
          have a0 := HT5.out.one.cells3.1
          have f7 : w5.cell? ⟨g, k * 8 + 7, none⟩ = some (.int .i64 p.node) := HL5.out.at (by have := HLEN.out; omega) HX0.out 7 _ rfl
          have f8 := HL5.out.frozen (k * 8 + 7)
          have f9 := HL5.out.lt
          go_wp2
          go_roundw
          case rel =>
            refine ⟨k + 1, by omega, by go_num, HT5.out.aside (by simpa using hg1) _, HR5.out.below ((Below.refl _ _).setCell (by simpa using hg2) _) (Nat.le_refl _), .inr ⟨g, rfl, hg1, hg2, ?_⟩⟩
            rw [← HE.out]
            exact HL5.out.put (by have := HLEN.out; omega) (by decide) _ _ (by rw [HX0.out, HG.out]; exact cellsP_node0 p)
          case measure => simp [intOf]; omega
        · have hd : (p.node == node) = false := by simp [hpn]
          have HE := Lib.hid (out_same (node := node) (ids := ids) hkl HX.out (gone_no2 hpn))
          clear hm hpn
          go_wp2
          go_roundw
          case rel => exact ⟨k + 1, by omega, by go_num, HT5.out, HR5.out, .inr ⟨g, rfl, hg1, hg2, by rw [← HE.out]; exact HL5.out⟩⟩
          case measure => simp [intOf]; omega
    · have hkl : l.length ≤ k := by have := HN4.out; omega
      have HO := Lib.hid (out_end (node := node) (ids := ids) hkl)
      obtain ⟨a0, a1, a2, a3⟩ := T1.one.cells3
      obtain ⟨c0, c1, c2, c3⟩ := T1.two.cells3
      have d0 := T1.two.frozen 0
      have d1 := T1.two.frozen 1
      have d2 := T1.two.frozen 2
      have kw := T1.below
      have HR : Hid (Recs 8 cellsP (((wr.setCell ⟨w.heap.size + 1, 0, none⟩ (.slice A' n4 c')).setCell ⟨w.heap.size + 1, 1, none⟩ (.int .i64 x1)).setCell ⟨w.heap.size + 1, 2, none⟩ (.int .i64 x2)) wr.heap.size A' (outD node ids l)) := by
        rcases hL with h | ⟨g, rfl, hg1, hg2, hLs⟩
        · exact .inl (by rw [h]; rfl)
        · rw [HO.out] at hLs
          exact (((hLs.other (by simp; omega) _).other (by simp; omega) _).other (by simp; omega) _).recs.more (by simp)
      clear T1 hrs hL
      go_wp2
      refine bodyPost_ret (v := .agg #[.slice A' n4 c', .int .i64 x1, .int .i64 x2]) ?_ rfl ?_
      · simp [results, Try.results17, go_sem, *]
      · refine ⟨A', c', rfl, by simpa using HR.out, ?_⟩
        repeat (first | with_reducible exact kw | with_reducible refine Below.setCell ?_ ?_ _)
        all_goals (show w.heap.size ≤ w.heap.size + 1; omega)
end Go.Proofs.Ytedcmchdapfhhaa

/- A pod's request, and whether the pod and the node are there: the program's request and areThere of layer 15. -/
namespace Go.Proofs.Ytedcmchdapfhhaa
set_option linter.unusedSimpArgs false
open Go.RowKit
set_option linter.unusedVariables false

theorem Bf.cells6w {V : World} {b : Nat} {x : WantD} (h : Bf V b (cellsW x)) : V.cell? ⟨b, 0, none⟩ = some (.int .i64 x.pod) ∧ V.cell? ⟨b, 1, none⟩ = some (.int .u64 x.req.a) ∧ V.cell? ⟨b, 2, none⟩ = some (.int .u64 x.req.b) ∧ V.cell? ⟨b, 3, none⟩ = some (.int .u64 x.req.c) ∧ V.cell? ⟨b, 4, none⟩ = some (.int .u64 x.req.d) ∧ V.cell? ⟨b, 5, none⟩ = some (.bool x.stay) ∧ b < V.heap.size :=
  ⟨h.cell 0 _ rfl, h.cell 1 _ rfl, h.cell 2 _ rfl, h.cell 3 _ rfl, h.cell 4 _ rfl, h.cell 5 _ rfl, h.lt⟩
theorem ret_aggV {x y : V4} {v : Value} (h : x = y) (hv : v = aggV y) : Ending.returned v = .returned (aggV x) := by subst h hv; rfl

set_option maxHeartbeats 6400000 in
set_option maxRecDepth 100000 in
theorem request_any (xs : List WantD) (p : PodD) (A : Option Addr) (n c : Nat) (u1 u2 : Value) (w : World) (hn : n = xs.length) (hl : n ≤ 1000) (hr : Recs 6 cellsW w w.heap.size A xs) :
    Calls Try.prog 19 #[.agg #[.slice A n c, u1, u2], aggP p] w fun e w' => e = .returned (aggV (reqD xs p)) ∧ Below w.heap.size w w' := by
  have T0 := T3.new w [.slice A n c, u1, u2] (cellsP p) (cellsV .zer) 29 38 36
  have HF := Lib.hid (want_any xs p.id A n c u1 u2 _ hn hl ((hr.below T0.below (Nat.le_refl _)).more T0.below.size))
  clear hr hn
  go_enter Try.func19, Try.ntmps19
  go_wp2_with fail
  refine HF.out.mono ?_
  rintro e w1 ⟨hh, hb1⟩
  have T1 := T0.keep hb1
  clear hb1 T0 HF
  obtain ⟨⟨p0, p1, p2, p3⟩, p4, p5, p6, p7, _⟩ := T1.two.cells8p
  obtain ⟨⟨g0, g1, g2, g3⟩, g4⟩ := T1.three.zero4
  obtain ⟨f0, f1, f2, f3⟩ := T1.three.free4
  have kw := T1.below
  have hwl : w.heap.size + 1 < w1.heap.size := T1.two.lt
  have hwl2 : w.heap.size + 2 < w1.heap.size := T1.three.lt
  clear T1
  rcases hh with ⟨hp, rfl⟩ | ⟨i, hi, hp, rfl⟩
  · have HE := Lib.hid (req_none hp)
    clear hp
    go_wp2
    refine bodyPost_ret (v := aggV p.req) ?_ rfl ?_
    · simp [results, Try.results19, go_sem, *]
    · refine ⟨ret_aggV HE.out rfl, ?_⟩
      repeat (first | with_reducible exact kw | with_reducible refine Below.setCell ?_ ?_ _ | with_reducible refine Below.alloc ?_ ?_ _)
      all_goals first | (show w.heap.size ≤ w.heap.size + 2; omega) | (simp; omega) | omega
  · have HE := Lib.hid (req_some hi hp)
    generalize hx : xs[i] = x at *
    clear hx hp
    have HB := Bf.new w1 (cellsW x) 82 rfl
    obtain ⟨b0, b1, b2, b3, b4, b5, b6⟩ := HB.cells6w
    rcases hs : x.stay with _ | _
    · have HE2 := Lib.hid (HE.out.trans (if_neg (by simp [hs])))
      rw [hs] at b5
      go_wp2
      refine bodyPost_ret (v := aggV p.req) ?_ rfl ?_
      · simp [results, Try.results19, go_sem, *]
      · refine ⟨ret_aggV HE2.out rfl, ?_⟩
        repeat (first | with_reducible exact kw | with_reducible refine Below.setCell ?_ ?_ _ | with_reducible refine Below.alloc ?_ ?_ _)
        all_goals first | (show w.heap.size ≤ w.heap.size + 2; omega) | (simp; omega) | omega
    · have HE2 := Lib.hid (HE.out.trans (if_pos hs))
      rw [hs] at b5
      go_wp2
      refine bodyPost_ret (v := aggV x.req) ?_ rfl ?_
      · simp [results, Try.results19, go_sem, *]
      · refine ⟨ret_aggV HE2.out rfl, ?_⟩
        repeat (first | with_reducible exact kw | with_reducible refine Below.setCell ?_ ?_ _ | with_reducible refine Below.alloc ?_ ?_ _)
        all_goals first | (show w.heap.size ≤ w.heap.size + 2; omega) | (simp; omega) | omega

/-- Are the pod and the node there? -/
def thereV (ns : List NodeD) (l : List PodD) (pod node : Int) : Bool := hasP pod l && decide (0 ≤ place NodeD.id node ns 0)
set_option maxHeartbeats 6400000 in
set_option maxRecDepth 100000 in
theorem areThere_any (ns : List NodeD) (l : List PodD) (pod node : Int) (A1 A4 : Option Addr) (n1 c1 n4 c4 : Nat) (s2 s3 v1 v2 : Value) (w : World)
    (hn1 : n1 = ns.length) (hl1 : n1 ≤ 400) (hr1 : Recs 10 cellsN w w.heap.size A1 ns) (hn4 : n4 = l.length) (hl4 : n4 ≤ 400) (hr4 : Recs 8 cellsP w w.heap.size A4 l) :
    Calls Try.prog 10 #[.agg #[.slice A1 n1 c1, s2, s3], .agg #[.slice A4 n4 c4, v1, v2], .int .i64 pod, .int .i64 node] w fun e w' => e = .returned (.bool (thereV ns l pod node)) ∧ Below w.heap.size w w' := by
  have T0 := T2.new w [.slice A1 n1 c1, s2, s3] [.slice A4 n4 c4, v1, v2] 26 31
  have HP := Lib.hid (podOf_any l pod A4 n4 c4 v1 v2 _ hn4 (by omega) ((hr4.below T0.below (Nat.le_refl _)).more T0.below.size))
  have HF := Lib.hid (fun V (hV : Below w.heap.size w V) => node_any ns node A1 n1 c1 s2 s3 V hn1 (by omega) ((hr1.below hV (Nat.le_refl _)).more hV.size))
  clear hr1 hr4 hn1 hn4
  have HX : Hid (∃ x s, x = podZ pod l ∧ s = hasP pod l) := ⟨_, _, rfl, rfl⟩
  obtain ⟨x, s, hx, hs⟩ := HX.out
  rw [← hx, ← hs] at HP
  have HS := Lib.hid hs
  clear hx hs HX
  go_enter Try.func10, Try.ntmps10
  go_wp2_with fail
  refine HP.out.mono ?_
  rintro e w1 ⟨rfl, hb1⟩
  have T1 := (T0.keep hb1).alloc (.cells #[.int .i64 x.id, .int .i64 x.load, .int .i64 x.prio, .int .u64 x.req.a, .int .u64 x.req.b, .int .u64 x.req.c, .int .u64 x.req.d, .int .i64 x.node] 38)
  obtain ⟨a0, a1, a2, _⟩ := (T0.keep hb1).one.cells3
  have hl0 := (T0.keep hb1).one.lt
  have HF2 := Lib.hid (HF.out _ T1.below)
  have HT1 := Lib.hid T1
  clear hb1 T0 T1 HF HP
  go_wp2_with fail
  refine HF2.out.mono ?_
  rintro e w2 ⟨hh, hb2⟩
  have kw := (HT1.out.keep hb2).below
  clear hb2 HT1 HF2 a0 a1 a2 hl0
  rcases hh with ⟨hp, rfl⟩ | ⟨i, hi, hp, rfl⟩
  · have HE := Lib.hid (show thereV ns l pod node = false by unfold thereV; rw [decide_eq_false (by omega), Bool.and_false])
    clear hp
    cases s with
    | false =>
      go_wp2
      go_ret
      refine ⟨congrArg (fun b => Ending.returned (.bool b)) HE.out.symm, ?_⟩
      repeat (first | with_reducible exact kw | with_reducible refine Below.alloc ?_ ?_ _ | with_reducible refine Below.setCell ?_ ?_ _)
      all_goals first | exact kw.size | (simp; omega)
    | true =>
      go_wp2
      go_ret
      refine ⟨congrArg (fun b => Ending.returned (.bool b)) HE.out.symm, ?_⟩
      repeat (first | with_reducible exact kw | with_reducible refine Below.alloc ?_ ?_ _ | with_reducible refine Below.setCell ?_ ?_ _)
      all_goals first | exact kw.size | (simp; omega)
  · have HE := Lib.hid (show thereV ns l pod node = s by unfold thereV; rw [decide_eq_true (by omega), Bool.and_true, HS.out])
    generalize ns[i] = y at *
    clear hp
    cases s with
    | false =>
      go_wp2
      go_ret
      refine ⟨congrArg (fun b => Ending.returned (.bool b)) HE.out.symm, ?_⟩
      repeat (first | with_reducible exact kw | with_reducible refine Below.alloc ?_ ?_ _ | with_reducible refine Below.setCell ?_ ?_ _)
      all_goals first | exact kw.size | (simp; omega)
    | true =>
      go_wp2
      go_ret
      refine ⟨congrArg (fun b => Ending.returned (.bool b)) HE.out.symm, ?_⟩
      repeat (first | with_reducible exact kw | with_reducible refine Below.alloc ?_ ?_ _ | with_reducible refine Below.setCell ?_ ?_ _)
      all_goals first | exact kw.size | (simp; omega)
end Go.Proofs.Ytedcmchdapfhhaa

/- The program's Makes of layer 15: do these make room? -/
namespace Go.Proofs.Ytedcmchdapfhhaa
set_option linter.unusedSimpArgs false
open Go.RowKit
set_option linter.unusedVariables false

theorem allocG_lt {W u : World} {o : Obj} (hb : Below (W.alloc o).drew.heap.size (W.alloc o).drew u) : W.heap.size < u.heap.size := by
  have h := hb.size
  have h2 : W.heap.size < (W.alloc o).drew.heap.size := by simp
  exact Nat.lt_of_lt_of_le h2 h
theorem makes_none {ns : List NodeD} {xs : List WantD} {l : List PodD} {pod node : Int} {ids : List Int} (h : hasP pod l = false) : makesD ns xs l pod node ids = false := by rw [makesD, h]; rfl
theorem makes_fault {ns : List NodeD} {xs : List WantD} {l : List PodD} {pod node : Int} {ids : List Int} {k : Int} (h : (restD ns (outD node ids l) node).2 = k) (hk : k ≠ 0) : makesD ns xs l pod node ids = false := by
  rw [makesD, h, show (k == 0) = false by simpa using hk]; simp
theorem makes_fits {ns : List NodeD} {xs : List WantD} {l : List PodD} {pod node : Int} {ids : List Int} {r q : V4} (hp : hasP pod l = true) (h : (restD ns (outD node ids l) node).2 = 0) (h1 : (restD ns (outD node ids l) node).1 = q) (h2 : reqD xs (podZ pod l) = r) : makesD ns xs l pod node ids = r.le q := by
  rw [makesD, hp, h, h1, h2]; simp
theorem ret_boolG {a b : Bool} {v : Value} (h : a = b) (hv : v = .bool b) : Ending.returned v = .returned (.bool a) := by subst h hv; rfl

set_option maxHeartbeats 12800000 in
set_option maxRecDepth 100000 in
theorem makes_any (ns : List NodeD) (xs : List WantD) (l : List PodD) (pod node : Int) (ids : List Int) (hno : ∀ x ∈ ns, x.Ok) (hlo : ∀ p ∈ l, p.Ok) (A1 A3 A4 A : Option Addr) (n1 c1 n3 c3 n4 c4 n c : Nat) (s2 s3 u1 u2 : Value) (x1 x2 : Int) (w : World)
    (hn1 : n1 = ns.length) (hl1 : n1 ≤ 400) (hr1 : Recs 10 cellsN w w.heap.size A1 ns) (hn3 : n3 = xs.length) (hl3 : n3 ≤ 400) (hr3 : Recs 6 cellsW w w.heap.size A3 xs)
    (hn4 : n4 = l.length) (hl4 : n4 ≤ 400) (h04 : A4 = none → c4 = 0) (hr4 : Recs 8 cellsP w w.heap.size A4 l) (hn : n = ids.length) (hl : n ≤ 1000) (hr : Recs 1 cellG w w.heap.size A ids) :
    Calls Try.prog 7 #[.agg #[.slice A1 n1 c1, s2, s3], .agg #[.slice A3 n3 c3, u1, u2], .agg #[.slice A4 n4 c4, .int .i64 x1, .int .i64 x2], .int .i64 pod, .int .i64 node, .slice A n c] w fun e w' => e = .returned (.bool (makesD ns xs l pod node ids)) ∧ Below w.heap.size w w' := by
  have T0 := T3.new w [.slice A1 n1 c1, s2, s3] [.slice A3 n3 c3, u1, u2] [.slice A4 n4 c4, .int .i64 x1, .int .i64 x2] 26 29 31
  have HP := Lib.hid (podOf_any l pod A4 n4 c4 (.int .i64 x1) (.int .i64 x2) _ hn4 (by omega) ((hr4.below T0.below (Nat.le_refl _)).more T0.below.size))
  have HQ1 := Lib.hid (fun V (hV : Below w.heap.size w V) => without_any l node ids A4 A n4 c4 n c x1 x2 V hn4 hl4 h04 ((hr4.below hV (Nat.le_refl _)).more hV.size) hn hl ((hr.below hV (Nat.le_refl _)).more hV.size))
  have HQ2 := Lib.hid (fun A' c' V (hV : Below w.heap.size w V) (h : Recs 8 cellsP V V.heap.size A' (outD node ids l)) => roomRest_any ns (outD node ids l) node hno (out_ok hlo) A1 A' n1 c1 n4 c' s2 s3 (.int .i64 x1) (.int .i64 x2) V hn1 hl1 ((hr1.below hV (Nat.le_refl _)).more hV.size) (by rw [out_len]; exact hn4) hl4 h)
  have HQ3 := Lib.hid (fun p V (hV : Below w.heap.size w V) => request_any xs p A3 n3 c3 u1 u2 V hn3 (by omega) ((hr3.below hV (Nat.le_refl _)).more hV.size))
  clear hr1 hn1 hr3 hn3 hr4 hn4 hr hn h04 hno hlo
  have HX : Hid (∃ x s, x = podZ pod l ∧ s = hasP pod l) := ⟨_, _, rfl, rfl⟩
  obtain ⟨x, s, hx, hs⟩ := HX.out
  rw [← hx, ← hs] at HP
  have HXX := Lib.hid hx
  have HSS := Lib.hid hs
  clear hx hs HX
  go_enter Try.func7, Try.ntmps7
  go_wp2_with fail
  refine HP.out.mono ?_
  rintro e w1 ⟨rfl, hb1⟩
  have T1 := T0.keep hb1
  clear hb1 T0 HP
  cases s with
  | false =>
    have HE := Lib.hid (makes_none (ns := ns) (xs := xs) (node := node) (ids := ids) HSS.out.symm)
    have kw := T1.below
    clear T1
    go_wp2
    go_ret
    refine ⟨ret_boolG HE.out rfl, ?_⟩
    repeat (first | with_reducible exact kw | with_reducible refine Below.alloc ?_ ?_ _ | with_reducible refine Below.setCell ?_ ?_ _)
    all_goals first | exact kw.size | (simp; omega)
  | true =>
    have TW := T1.alloc (.cells #[.int .i64 x.id, .int .i64 x.load, .int .i64 x.prio, .int .u64 x.req.a, .int .u64 x.req.b, .int .u64 x.req.c, .int .u64 x.req.d, .int .i64 x.node] 38)
    have BW : Bf (w1.alloc (.cells #[.int .i64 x.id, .int .i64 x.load, .int .i64 x.prio, .int .u64 x.req.a, .int .u64 x.req.b, .int .u64 x.req.c, .int .u64 x.req.d, .int .i64 x.node] 38)) w1.heap.size (cellsP x) := Bf.new w1 (cellsP x) 38 rfl
    clear T1
    go_upto_region 4 with fail
    generalize hW : w1.alloc (.cells #[.int .i64 x.id, .int .i64 x.load, .int .i64 x.prio, .int .u64 x.req.a, .int .u64 x.req.b, .int .u64 x.req.c, .int .u64 x.req.d, .int .i64 x.node] 38) = W at *
    clear hW
    generalize w1.heap.size = h1 at *
    have kW := TW.below
    have HO : Hid (∃ q k er, q = (restD ns (outD node ids l) node).1 ∧ k = (restD ns (outD node ids l) node).2 ∧ er = codeV k) := ⟨_, _, _, rfl, rfl, rfl⟩
    obtain ⟨q, k, er, hq, hk, her⟩ := HO.out
    have HA1 : Hid (∀ V : World, ((∀ b o, b < W.heap.size → V.cell? ⟨b, o, none⟩ = W.cell? ⟨b, o, none⟩) ∧ Below W.heap.size W V) → Calls Try.prog 17 #[.agg #[.slice A4 n4 c4, .int .i64 x1, .int .i64 x2], .int .i64 node, .slice A n c] V (WithoutTo l node ids n4 (.int .i64 x1) (.int .i64 x2) V)) := fun V hV => HQ1.out V (kW.trans (hV.2.mono kW.size))
    have HA2 : Hid (∀ (A' : Option Addr) (c' : Nat) (V : World), ((∀ b o, b < W.heap.size → V.cell? ⟨b, o, none⟩ = W.cell? ⟨b, o, none⟩) ∧ Below W.heap.size W V) → Recs 8 cellsP V V.heap.size A' (outD node ids l) → Calls Try.prog 16 #[.agg #[.slice A1 n1 c1, s2, s3], .agg #[.slice A' n4 c', .int .i64 x1, .int .i64 x2], .int .i64 node] V fun e w' => e = .returned (.tuple #[.agg #[.int .u64 q.a, .int .u64 q.b, .int .u64 q.c, .int .u64 q.d], er]) ∧ Below V.heap.size V w') := fun A' c' V hV h => by
      have := HQ2.out A' c' V (kW.trans (hV.2.mono kW.size)) h
      rw [← hq, ← hk, ← her] at this
      exact this
    have HTW := Lib.hid TW
    have HBW := Lib.hid BW
    have HK := Lib.hid (And.intro hq (And.intro hk her))
    obtain ⟨a0, a1, a2, a3⟩ := TW.one.cells3
    obtain ⟨b0, b1, b2, b3⟩ := TW.three.cells3
    clear hq hk her HO HQ1 HQ2 TW BW kW
    go_region_held3 (fun w' => (∀ b o, b < W.heap.size → w'.cell? ⟨b, o, none⟩ = W.cell? ⟨b, o, none⟩) ∧ Below W.heap.size W w')
      (first | (with_reducible assumption) | (show Keeps W _; with_reducible (repeat (first | exact Keeps.refl _ | assumption | refine Keeps.drew ?_ | refine Keeps.set ?_ (by first | (simp; done) | (simp; omega) | omega) _ | refine Keeps.alloc ?_ _ | refine Keeps.step ?_ (by assumption)))))
      (first
        | (go_at_call 17; refine (HA1.out _ (by assumption)).mono ?_; rintro e v1 ⟨A', c', rfl, hrc, hb1⟩; obtain ⟨hcx1, hfx1⟩ := old_cells hb1; (have hz1 := hb1.size; try simp at hz1); (have HRC := Lib.hid hrc); clear hrc; first | (have hz2 := allocG_lt (W := W) hb1) | skip)
        | (go_at_call 16; refine (HA2.out _ _ _ (by assumption) (by first | exact HRC.out | exact (HRC.out.below ((Below.refl _ _).alloc (Nat.le_refl _) _) (Nat.le_refl _)).more (by simp))).mono ?_; rintro e w' ⟨rfl, hb⟩; obtain ⟨hcx, hfx⟩ := old_cells hb))
    all_goals
      rename_i hK
      have k2 := hK.2
      clear hK hcx hfx hcx1 hfx1 HA1 HA2 a0 a1 a2 a3 b0 b1 b2 b3
      first
        | (have BV := Bf.new w' (cellsV q) 36 rfl
           replace BV : Bf (w'.alloc (.cells #[.int .u64 q.a, .int .u64 q.b, .int .u64 q.c, .int .u64 q.d] 36)) w'.heap.size (cellsV q) := BV
           generalize w'.alloc (.cells #[.int .u64 q.a, .int .u64 q.b, .int .u64 q.c, .int .u64 q.d] 36) = U at *
           have kk : Below W.heap.size W U := k2
           clear hb hb1
           generalize w'.heap.size = h at *)
        | (have BV := Bf.later (z := q) (Bf.new v1 (cellsV .zer) 36 rfl) hb
           generalize ((((w'.setCell ⟨v1.heap.size, 0, none⟩ (.int .u64 q.a)).setCell ⟨v1.heap.size, 1, none⟩ (.int .u64 q.b)).setCell ⟨v1.heap.size, 2, none⟩ (.int .u64 q.c)).setCell ⟨v1.heap.size, 3, none⟩ (.int .u64 q.d)) = U at *
           have kk : Below W.heap.size W U := k2
           clear hb hb1
           generalize hh : v1.heap.size = h at BV ⊢)
        | (have BV0 := (Bf.drew (Bf.new W (cellsV .zer) 36 rfl)).below hb1 (Bf.drew (Bf.new W (cellsV .zer) 36 rfl)).lt
           have BV := Bf.later (z := q) BV0 hb
           clear BV0
           generalize ((((w'.setCell ⟨W.heap.size, 0, none⟩ (.int .u64 q.a)).setCell ⟨W.heap.size, 1, none⟩ (.int .u64 q.b)).setCell ⟨W.heap.size, 2, none⟩ (.int .u64 q.c)).setCell ⟨W.heap.size, 3, none⟩ (.int .u64 q.d)) = U at *
           have kk : Below W.heap.size W U := k2
           clear hb hb1
           generalize hh : W.heap.size = h at BV ⊢)
      have TU := HTW.out.keep kk
      have BU := HBW.out.below kk HBW.out.lt
      clear kk k2
      have kU := TU.below
      obtain ⟨a0, a1, a2, a3⟩ := TU.two.cells3
      obtain ⟨⟨p0, p1, p2, p3⟩, p4, p5, p6, p7, p8⟩ := BU.cells8p
      obtain ⟨g0, g1, g2, g3, g4⟩ := BV.cells4
      by_cases hk : k = 0
      · have HE : Hid (∀ r : V4, reqD xs x = r → makesD ns xs l pod node ids = r.le q) := fun r hr => makes_fits HSS.out.symm (HK.out.2.1.symm.trans hk) HK.out.1.symm (by rw [← HXX.out]; exact hr)
        have her : er = .nilIface := by rw [HK.out.2.2, codeV, if_pos hk]
        subst her
        have HRQ := Lib.hid (fun V (hV : Below w.heap.size w V) => HQ3.out x V hV)
        have kUl := kU.size
        clear hk HK BU BV TU
        have HA3 : Hid (∀ V : World, ((∀ b o, b < U.heap.size → V.cell? ⟨b, o, none⟩ = U.cell? ⟨b, o, none⟩) ∧ Below U.heap.size U V) → Calls Try.prog 19 #[.agg #[.slice A3 n3 c3, u1, u2], aggP x] V fun e w' => e = .returned (aggV (reqD xs x)) ∧ Below V.heap.size V w') := fun V hV => HRQ.out V (kU.trans (hV.2.mono kUl))
        obtain ⟨r, hr⟩ : ∃ r, reqD xs x = r := ⟨_, rfl⟩
        have HEE := Lib.hid (HE.out r hr)
        rw [hr] at HA3
        have HKU := Lib.hid kU
        clear hr HE HRQ kU kUl
        go_upto_region 5 with fail
        go_region_held3 (fun w' => (∀ b o, b < U.heap.size → w'.cell? ⟨b, o, none⟩ = U.cell? ⟨b, o, none⟩) ∧ Below U.heap.size U w')
          (first | (with_reducible assumption) | (show Keeps U _; with_reducible (repeat (first | exact Keeps.refl _ | assumption | refine Keeps.drew ?_ | refine Keeps.alloc ?_ _ | refine Keeps.step ?_ (by assumption)))))
          (first
            | (go_at_call 19; refine (HA3.out _ (by assumption)).mono ?_; rintro e v1 ⟨rfl, hb1⟩; obtain ⟨hcx1, hfx1⟩ := old_cells hb1)
            | (go_at_call 18; refine (fits_any r q _).mono ?_; rintro e w' ⟨rfl, hb⟩; obtain ⟨hcx, hfx⟩ := old_cells hb))
        all_goals
          rename_i hK
          have k3 := HKU.out.trans (hK.2.mono HKU.out.size)
          clear hK hcx hfx hcx1 hfx1 hb hb1 HA3
          go_wp2
          go_ret
          exact ⟨ret_boolG HEE.out rfl, k3⟩
      · have HE := Lib.hid (makes_fault (ns := ns) (xs := xs) (l := l) (pod := pod) (node := node) (ids := ids) HK.out.2.1.symm hk)
        have her : er = .iface 49 (.int .i64 k) := by rw [HK.out.2.2, codeV, if_neg hk]
        subst her
        clear hk HK BU BV TU a0 a1 a2 a3 p0 p1 p2 p3 p4 p5 p6 p7 p8 g0 g1 g2 g3 g4
        go_upto_region 5 with fail
        go_quiet (fail)
        go_wp2
        go_ret
        exact ⟨ret_boolG HE.out rfl, below_draws kU _⟩
end Go.Proofs.Ytedcmchdapfhhaa

namespace Go.Proofs.Ytedcmchdapfhhaa
set_option linter.unusedSimpArgs false
open Go.RowKit
set_option linter.unusedVariables false

/-- What a closure that tells whether some make room comes to, in each world ahead. -/
def MkTo (mk : List Int → Bool) (b5 b6 b7 b8 b9 : Nat) (w : World) : Prop :=
  ∀ V, Below w.heap.size w V → ∀ (ids : List Int) (A : Option Addr) (n c : Nat), n = ids.length → n ≤ 1000 → Recs 1 cellG V V.heap.size A ids →
    Calls Try.prog 11 #[.slice A n c, .pointer (some ⟨b5, 0, none⟩), .pointer (some ⟨b6, 0, none⟩), .pointer (some ⟨b7, 0, none⟩), .pointer (some ⟨b8, 0, none⟩), .pointer (some ⟨b9, 0, none⟩)] V fun e w' => e = .returned (.bool (mk ids)) ∧ Below V.heap.size V w'
theorem MkTo.later {mk : List Int → Bool} {b5 b6 b7 b8 b9 : Nat} {w w' : World} (h : MkTo mk b5 b6 b7 b8 b9 w) (hb : Below w.heap.size w w') : MkTo mk b5 b6 b7 b8 b9 w' := fun V hV => h V (hb.trans (hV.mono hb.size))
abbrev mkClo (b5 b6 b7 b8 b9 : Nat) : Value := .func (.func 11) #[] #[.pointer (some ⟨b5, 0, none⟩), .pointer (some ⟨b6, 0, none⟩), .pointer (some ⟨b7, 0, none⟩), .pointer (some ⟨b8, 0, none⟩), .pointer (some ⟨b9, 0, none⟩)]
def EnoughRel (mk : List Int → Bool) (zs : List Int) (w : World) (i : Value) (wr : World) : Prop := ∃ k : Nat, k ≤ zs.length + 1 ∧ i = .int .i64 k ∧ (∀ j, j < k → mk (zs.take j) = false) ∧ Below w.heap.size w wr
def EnoughTo (mk : List Int → Bool) (zs : List Int) (A : Option Addr) (c : Nat) (w : World) (e : Ending) (w' : World) : Prop :=
  ((∃ k : Nat, k ≤ zs.length ∧ mk (zs.take k) = true ∧ e = .returned (.tuple #[.slice A k c, .bool true])) ∨ (mk zs = false ∧ e = .returned (.tuple #[.slice none 0 0, .bool false]))) ∧ Below w.heap.size w w'

set_option maxHeartbeats 6400000 in
set_option maxRecDepth 100000 in
theorem enough_some (mk : List Int → Bool) (b5 b6 b7 b8 b9 : Nat) (zs : List Int) (b o n c : Nat) (w : World) (HM : MkTo mk b5 b6 b7 b8 b9 w) (hn : n = zs.length) (hl : n ≤ 400) (hc : n ≤ c) (hcm : c ≤ maxLen) (hr : Recs 1 cellG w w.heap.size (some ⟨b, o, none⟩) zs) :
    Calls Try.prog 12 #[.slice (some ⟨b, o, none⟩) n c, mkClo b5 b6 b7 b8 b9] w (EnoughTo mk zs (some ⟨b, o, none⟩) c w) := by
  have HMM := Lib.hid HM
  have HN := Lib.hid hn
  have HR := Lib.hid hr
  clear hn HM hr
  unfold maxLen at hcm
  go_enter Try.func12, Try.ntmps12
  go_wp2
  go_loopw [10] (EnoughRel mk zs w) (fun i _ => n + 1 - (intOf i).toNat)
  case atStart => exact ⟨0, by omega, rfl, fun j hj => absurd hj (by omega), Below.refl _ _⟩
  case round =>
    obtain ⟨k, hk, rfl, hf, hbr⟩ := hrel
    have HF := Lib.hid hf
    clear hf
    by_cases hlt : k < n + 1
    · have hkn : k ≤ n := by omega
      have hkc : k ≤ c := by omega
      have HC := Lib.hid (HMM.out wr hbr (zs.take k) (some ⟨b, o, none⟩) k c (by rw [List.length_take]; have := HN.out; omega) (by omega) (((HR.out.below hbr (Nat.le_refl _)).more hbr.size).take k))
      have HBR := Lib.hid hbr
      clear hbr
      go_wp2_with fail
      refine HC.out.mono ?_
      rintro e w2 ⟨rfl, hb2⟩
      have k2 := HBR.out.trans (hb2.mono HBR.out.size)
      clear HC hb2
      rcases hm : mk (zs.take k) with _ | _
      · have HM1 := Lib.hid hm
        clear hm
        go_wp2
        go_roundw
        case rel => exact ⟨k + 1, by have := HN.out; omega, by go_num, fun j hj => by
          by_cases e : j = k
          · subst e; exact HM1.out
          · exact HF.out j (by omega), k2⟩
        case measure => simp [intOf]; omega
      · have HM1 := Lib.hid hm
        clear hm
        go_wp2
        refine bodyPost_ret (v := .tuple #[.slice (some ⟨b, o, none⟩) k c, .bool true]) ?_ rfl ?_
        · simp [results, Try.results12, go_sem, *]
        · exact ⟨.inl ⟨k, by have := HN.out; omega, HM1.out, rfl⟩, k2⟩
    · have HM1 := Lib.hid (show mk zs = false by
        have := HF.out zs.length (by have := HN.out; omega)
        rwa [List.take_length] at this)
      go_wp2
      refine bodyPost_ret (v := .tuple #[.slice none 0 0, .bool false]) ?_ rfl ?_
      · simp [results, Try.results12, go_sem, *]
      · exact ⟨.inr ⟨HM1.out, rfl⟩, hbr⟩

set_option maxHeartbeats 6400000 in
set_option maxRecDepth 100000 in
theorem enough_none (mk : List Int → Bool) (b5 b6 b7 b8 b9 : Nat) (w : World) (HM : MkTo mk b5 b6 b7 b8 b9 w) :
    Calls Try.prog 12 #[.slice none 0 0, mkClo b5 b6 b7 b8 b9] w (EnoughTo mk [] none 0 w) := by
  have HMM := Lib.hid HM
  clear HM
  go_enter Try.func12, Try.ntmps12
  go_wp2
  go_loopw [10] (EnoughRel mk [] w) (fun i _ => 1 - (intOf i).toNat)
  case atStart => exact ⟨0, by simp, rfl, fun j hj => absurd hj (by omega), Below.refl _ _⟩
  case round =>
    obtain ⟨k, hk, rfl, hf, hbr⟩ := hrel
    have HF := Lib.hid hf
    clear hf
    by_cases hlt : k < 1
    · obtain rfl : k = 0 := by omega
      have HC := Lib.hid (HMM.out wr hbr [] none 0 0 rfl (by omega) (.inl rfl))
      have HBR := Lib.hid hbr
      clear hbr
      go_wp2_with fail
      refine HC.out.mono ?_
      rintro e w2 ⟨rfl, hb2⟩
      have k2 := HBR.out.trans (hb2.mono HBR.out.size)
      clear HC hb2
      rcases hm : mk [] with _ | _
      · have HM1 := Lib.hid hm
        clear hm
        go_wp2
        go_roundw
        case rel => exact ⟨1, by simp, by go_num, fun j hj => by
          obtain rfl : j = 0 := by omega
          exact HM1.out, k2⟩
        case measure => simp [intOf]
      · have HM1 := Lib.hid hm
        clear hm
        go_wp2
        refine bodyPost_ret (v := .tuple #[.slice none 0 0, .bool true]) ?_ rfl ?_
        · simp [results, Try.results12, go_sem, *]
        · exact ⟨.inl ⟨0, by simp, HM1.out, rfl⟩, k2⟩
    · have HM1 := Lib.hid (show mk [] = false from HF.out 0 (by omega))
      obtain rfl : k = 1 := by simp at hk; omega
      go_wp2
      refine bodyPost_ret (v := .tuple #[.slice none 0 0, .bool false]) ?_ rfl ?_
      · simp [results, Try.results12, go_sem, *]
      · exact ⟨.inr ⟨HM1.out, rfl⟩, hbr⟩
theorem enough_any (mk : List Int → Bool) (b5 b6 b7 b8 b9 : Nat) (zs : List Int) (A : Option Addr) (n c : Nat) (w : World) (HM : MkTo mk b5 b6 b7 b8 b9 w) (hn : n = zs.length) (hl : n ≤ 400) (hc : n ≤ c) (hcm : c ≤ maxLen) (h0 : A = none → c = 0) (hA : ∀ a, A = some a → a.spot = none) (hr : Recs 1 cellG w w.heap.size A zs) :
    Calls Try.prog 12 #[.slice A n c, mkClo b5 b6 b7 b8 b9] w (EnoughTo mk zs A c w) := by
  rcases A with _ | ⟨b, o, i⟩
  · obtain rfl := h0 rfl
    obtain rfl : n = 0 := by omega
    obtain rfl : zs = [] := List.eq_nil_of_length_eq_zero hn.symm
    exact enough_none mk b5 b6 b7 b8 b9 w HM
  · obtain rfl : i = none := hA _ rfl
    exact enough_some mk b5 b6 b7 b8 b9 zs b o n c w HM hn hl hc hcm hr
end Go.Proofs.Ytedcmchdapfhhaa
