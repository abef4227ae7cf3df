/- Joined texts, part 21: VX V7. -/
import Derived.Test.YtpfjeoldgcepnaaGreatDoorZ20
import Derived.Carry
import Derived.Test.YtpfjeoldgcepnaaGreatDoorZ13
import Derived.Test.YtpfjeoldgcepnaaGreatDoorZ17
import Derived.Deep.CutRange
import Derived.Deep.DeepCutAuto

/- What a keeper counts of no pods: the program's noCounts of layer 13. -/
namespace Go.Proofs.YtpfjeoldgcepnaaGreatDoor
set_option linter.unusedSimpArgs false
open Go.RowKit
open Go.Maps (Keyed)
set_option linter.unusedVariables false

abbrev zeroC : CntD := ⟨fun _ => .zer, fun _ _ => 0, fun _ _ => 0, fun _ => 0⟩
theorem fOne_zero {z : Value} {f : Int → Value} (h : ∀ i, f i = z) : (fun _ : Value => z) = fOne z f := by
  funext v
  unfold fOne
  split
  · exact (h _).symm
  · rfl
theorem fTwo_zero : (fun _ : Value => Value.int .i64 0) = fTwo (fun _ _ => 0) := by
  funext v
  unfold fTwo
  split
  · split <;> rfl
  · rfl
theorem Tells.madeAt (w : World) (P : Program) (k : TypeId) (z : Value) {b : Nat} (hb : b = w.heap.size) : Tells P k z b 0 (fun _ => z) (w.alloc (.map #[] 0)) := by subst hb; exact Tells.made w P k z
theorem below_new (w : World) (o : Obj) : Below w.heap.size w (w.alloc o) := (Below.refl _ w).alloc (Nat.le_refl _) o
/-- The zones of the first nodes. -/
def ZoneK (b k : Nat) (zm : Int → Option Int) (w : World) : Prop := ∃ D, w.ownsMap (H := Unit) Tryz.prog 3 (plainElem Tryz.prog 3) b k D ∧ ∀ i, I64 i → (Maps.has D (.int .i64 i) = (zm i).isSome) ∧ ∀ zd, D.atKey (.int .i64 i) zd = match zm i with | some z => .lit (.int .i64 z) | none => zd
theorem ZoneK.kept {b k : Nat} {zm : Int → Option Int} {w w' : World} {S : List Nat} (h : ZoneK b k zm w) (hg : Only S w w') (hb : b ∉ S) : ZoneK b k zm w' := by
  obtain ⟨D, h2, h3⟩ := h
  have hlt := h2.lt
  obtain ⟨es, clock, hb1, r⟩ := h2
  exact ⟨D, ⟨es, clock, (hg.block b hlt hb).trans hb1, r⟩, h3⟩
theorem ZoneK.below {b k : Nat} {zm : Int → Option Int} {w w' : World} (h : ZoneK b k zm w) (hb : Below w.heap.size w w') : ZoneK b k zm w' :=
  h.kept (S := []) (Only.of_below hb (fun i h1 h2 => by omega)) (by simp)
theorem ZoneK.made (w : World) {b : Nat} (hb : b = w.heap.size) : ZoneK b 0 (zmOf []) (w.alloc (.map #[] 0)) := by
  subst hb
  exact ⟨_, World.ownsMap_made w _ _ _, fun i _ => ⟨rfl, fun _ => rfl⟩⟩
theorem ZoneK.put {b k : Nat} {ns : List NodeD} {x : NodeD} {w' : World} {D : DataW Unit} (hm : Maps.IsMap D) (h3 : ∀ i, I64 i → (Maps.has D (.int .i64 i) = (zmOf ns i).isSome) ∧ ∀ zd, D.atKey (.int .i64 i) zd = match zmOf ns i with | some z => .lit (.int .i64 z) | none => zd)
    (hown : w'.ownsMap (H := Unit) Tryz.prog 3 (plainElem Tryz.prog 3) b (k + 1) (D.put (.int .i64 x.id) (.lit (.int .i64 x.zone)))) : ZoneK b (k + 1) (zmOf (ns ++ [x])) w' := by
  refine ⟨_, hown, fun i hi => ?_⟩
  have e : zmOf (ns ++ [x]) i = if i = x.id then some x.zone else zmOf ns i := by unfold zmOf; rw [List.foldl_append]; rfl
  rw [e]
  by_cases h : i = x.id
  · subst h
    rw [if_pos rfl]
    exact ⟨Maps.has_put_same (k := Lit.int .i64 x.id) hm (by trivial) _, fun zd => Maps.atKey_put_same (k := Lit.int .i64 x.id) hm (by trivial) _ _⟩
  · rw [if_neg h]
    have hne : Lit.int .i64 i ≠ Lit.int .i64 x.id := fun e => h (by injection e)
    exact ⟨(Maps.has_put_other hne _).trans (h3 i hi).1, fun zd => (Maps.atKey_put_other hne _ _).trans ((h3 i hi).2 zd)⟩
structure NoB (M : MapsB) (A A2 A3 : Option Addr) (n c n2 c2 n3 c3 : Nat) (w V : World) : Prop where
  one : Bf V w.heap.size [.slice A n c, .slice A2 n2 c2, .slice A3 n3 c3]
  two : Bf V (w.heap.size + 1) [.map none, .map none, .map none, .map none, .map none]
  tri : Bf V (w.heap.size + 7) M.cells
  cnt : CntIs M 0 zeroC V
  below : Below w.heap.size w V
def mapsAt (s : Nat) : MapsB := ⟨s + 2, s + 3, s + 4, s + 5, s + 6⟩
theorem maps_apart (s : Nat) : (mapsAt s).Apart := ⟨by simp [mapsAt], by simp [mapsAt], by simp [mapsAt], by simp [mapsAt], by simp [mapsAt], by simp [mapsAt], by simp [mapsAt], by simp [mapsAt], by simp [mapsAt], by simp [mapsAt]⟩
theorem NoB.only {M : MapsB} {A A2 A3 : Option Addr} {n c n2 c2 n3 c3 : Nat} {w V V' : World} (h : NoB M A A2 A3 n c n2 c2 n3 c3 w V) (hM : M = mapsAt w.heap.size) (ho : Only [M.z] V V') : NoB M A A2 A3 n c n2 c2 n3 c3 w V' := by
  subst hM
  have hn : ∀ i, i ≠ w.heap.size + 2 → i ∉ [(mapsAt w.heap.size).z] := fun i hi e => hi (List.mem_singleton.1 e)
  exact ⟨h.one.only ho (hn _ (by omega)), h.two.only ho (hn _ (by omega)), h.tri.only ho (hn _ (by omega)), h.cnt.kept ho (hn _ (by simp [mapsAt])) (hn _ (by simp [mapsAt])) (hn _ (by simp [mapsAt])) (hn _ (by simp [mapsAt])),
    h.below.trans (ho.below h.below.size (fun i hi => by rw [List.mem_singleton.1 hi]; show w.heap.size ≤ w.heap.size + 2; omega))⟩
theorem NoB.keep {M : MapsB} {A A2 A3 : Option Addr} {n c n2 c2 n3 c3 : Nat} {w V V' : World} (h : NoB M A A2 A3 n c n2 c2 n3 c3 w V) (hb : Below V.heap.size V V') : NoB M A A2 A3 n c n2 c2 n3 c3 w V' :=
  ⟨h.one.below hb h.one.lt, h.two.below hb h.two.lt, h.tri.below hb h.tri.lt, h.cnt.below hb, h.below.trans (hb.mono h.below.size)⟩
theorem noB_made (A A2 A3 : Option Addr) (n c n2 c2 n3 c3 : Nat) (w : World) : NoB (mapsAt w.heap.size) A A2 A3 n c n2 c2 n3 c3 w ((((((((w.alloc (.cells #[.slice A n c, .slice A2 n2 c2, .slice A3 n3 c3] 26)).alloc (.cells #[.map none, .map none, .map none, .map none, .map none] 88)).alloc (.map #[] 0)).alloc (.map #[] 0)).alloc (.map #[] 0)).alloc (.map #[] 0)).alloc (.map #[] 0)).alloc (.cells #[.map (some (w.heap.size + 2)), .map (some (w.heap.size + 3)), .map (some (w.heap.size + 4)), .map (some (w.heap.size + 5)), .map (some (w.heap.size + 6))] 88)) ∧ ZoneK (w.heap.size + 2) 0 (zmOf []) ((((((((w.alloc (.cells #[.slice A n c, .slice A2 n2 c2, .slice A3 n3 c3] 26)).alloc (.cells #[.map none, .map none, .map none, .map none, .map none] 88)).alloc (.map #[] 0)).alloc (.map #[] 0)).alloc (.map #[] 0)).alloc (.map #[] 0)).alloc (.map #[] 0)).alloc (.cells #[.map (some (w.heap.size + 2)), .map (some (w.heap.size + 3)), .map (some (w.heap.size + 4)), .map (some (w.heap.size + 5)), .map (some (w.heap.size + 6))] 88)) := by
  have a1 := below_new w (.cells #[.slice A n c, .slice A2 n2 c2, .slice A3 n3 c3] 26)
  have a2 := below_new (w.alloc (.cells #[.slice A n c, .slice A2 n2 c2, .slice A3 n3 c3] 26)) (.cells #[.map none, .map none, .map none, .map none, .map none] 88)
  have a3 := below_new ((w.alloc (.cells #[.slice A n c, .slice A2 n2 c2, .slice A3 n3 c3] 26)).alloc (.cells #[.map none, .map none, .map none, .map none, .map none] 88)) (.map #[] 0)
  have a4 := below_new (((w.alloc (.cells #[.slice A n c, .slice A2 n2 c2, .slice A3 n3 c3] 26)).alloc (.cells #[.map none, .map none, .map none, .map none, .map none] 88)).alloc (.map #[] 0)) (.map #[] 0)
  have a5 := below_new ((((w.alloc (.cells #[.slice A n c, .slice A2 n2 c2, .slice A3 n3 c3] 26)).alloc (.cells #[.map none, .map none, .map none, .map none, .map none] 88)).alloc (.map #[] 0)).alloc (.map #[] 0)) (.map #[] 0)
  have a6 := below_new (((((w.alloc (.cells #[.slice A n c, .slice A2 n2 c2, .slice A3 n3 c3] 26)).alloc (.cells #[.map none, .map none, .map none, .map none, .map none] 88)).alloc (.map #[] 0)).alloc (.map #[] 0)).alloc (.map #[] 0)) (.map #[] 0)
  have a7 := below_new ((((((w.alloc (.cells #[.slice A n c, .slice A2 n2 c2, .slice A3 n3 c3] 26)).alloc (.cells #[.map none, .map none, .map none, .map none, .map none] 88)).alloc (.map #[] 0)).alloc (.map #[] 0)).alloc (.map #[] 0)).alloc (.map #[] 0)) (.map #[] 0)
  have a8 := below_new (((((((w.alloc (.cells #[.slice A n c, .slice A2 n2 c2, .slice A3 n3 c3] 26)).alloc (.cells #[.map none, .map none, .map none, .map none, .map none] 88)).alloc (.map #[] 0)).alloc (.map #[] 0)).alloc (.map #[] 0)).alloc (.map #[] 0)).alloc (.map #[] 0)) (.cells #[.map (some (w.heap.size + 2)), .map (some (w.heap.size + 3)), .map (some (w.heap.size + 4)), .map (some (w.heap.size + 5)), .map (some (w.heap.size + 6))] 88)
  have b7 := a8
  have b6 := a7.trans (b7.mono a7.size)
  have b5 := a6.trans (b6.mono a6.size)
  have b4 := a5.trans (b5.mono a5.size)
  have b3 := a4.trans (b4.mono a4.size)
  have b2 := a3.trans (b3.mono a3.size)
  have b1 := a2.trans (b2.mono a2.size)
  have b0 := a1.trans (b1.mono a1.size)
  have sz : w.heap.size + 2 = ((w.alloc (.cells #[.slice A n c, .slice A2 n2 c2, .slice A3 n3 c3] 26)).alloc (.cells #[.map none, .map none, .map none, .map none, .map none] 88)).heap.size := by simp
  have su : w.heap.size + 3 = (((w.alloc (.cells #[.slice A n c, .slice A2 n2 c2, .slice A3 n3 c3] 26)).alloc (.cells #[.map none, .map none, .map none, .map none, .map none] 88)).alloc (.map #[] 0)).heap.size := by simp
  have sa : w.heap.size + 4 = ((((w.alloc (.cells #[.slice A n c, .slice A2 n2 c2, .slice A3 n3 c3] 26)).alloc (.cells #[.map none, .map none, .map none, .map none, .map none] 88)).alloc (.map #[] 0)).alloc (.map #[] 0)).heap.size := by simp
  have si : w.heap.size + 5 = (((((w.alloc (.cells #[.slice A n c, .slice A2 n2 c2, .slice A3 n3 c3] 26)).alloc (.cells #[.map none, .map none, .map none, .map none, .map none] 88)).alloc (.map #[] 0)).alloc (.map #[] 0)).alloc (.map #[] 0)).heap.size := by simp
  have ss : w.heap.size + 6 = ((((((w.alloc (.cells #[.slice A n c, .slice A2 n2 c2, .slice A3 n3 c3] 26)).alloc (.cells #[.map none, .map none, .map none, .map none, .map none] 88)).alloc (.map #[] 0)).alloc (.map #[] 0)).alloc (.map #[] 0)).alloc (.map #[] 0)).heap.size := by simp
  have s7 : w.heap.size + 7 = (((((((w.alloc (.cells #[.slice A n c, .slice A2 n2 c2, .slice A3 n3 c3] 26)).alloc (.cells #[.map none, .map none, .map none, .map none, .map none] 88)).alloc (.map #[] 0)).alloc (.map #[] 0)).alloc (.map #[] 0)).alloc (.map #[] 0)).alloc (.map #[] 0)).heap.size := by simp
  have tu := (Tells.madeAt (((w.alloc (.cells #[.slice A n c, .slice A2 n2 c2, .slice A3 n3 c3] 26)).alloc (.cells #[.map none, .map none, .map none, .map none, .map none] 88)).alloc (.map #[] 0)) Tryz.prog 3 zV su).below b4 (by simp)
  have ta := (Tells.madeAt ((((w.alloc (.cells #[.slice A n c, .slice A2 n2 c2, .slice A3 n3 c3] 26)).alloc (.cells #[.map none, .map none, .map none, .map none, .map none] 88)).alloc (.map #[] 0)).alloc (.map #[] 0)) Tryz.prog 168 (.int .i64 0) sa).below b5 (by simp)
  have ti := (Tells.madeAt (((((w.alloc (.cells #[.slice A n c, .slice A2 n2 c2, .slice A3 n3 c3] 26)).alloc (.cells #[.map none, .map none, .map none, .map none, .map none] 88)).alloc (.map #[] 0)).alloc (.map #[] 0)).alloc (.map #[] 0)) Tryz.prog 170 (.int .i64 0) si).below b6 (by simp)
  have ts := (Tells.madeAt ((((((w.alloc (.cells #[.slice A n c, .slice A2 n2 c2, .slice A3 n3 c3] 26)).alloc (.cells #[.map none, .map none, .map none, .map none, .map none] 88)).alloc (.map #[] 0)).alloc (.map #[] 0)).alloc (.map #[] 0)).alloc (.map #[] 0)) Tryz.prog 3 (.int .i64 0) ss).below b7 (by simp)
  refine ⟨⟨(Bf.new w [.slice A n c, .slice A2 n2 c2, .slice A3 n3 c3] 26 rfl).below b1 (by simp), (Bf.new (w.alloc (.cells #[.slice A n c, .slice A2 n2 c2, .slice A3 n3 c3] 26)) [.map none, .map none, .map none, .map none, .map none] 88 (b := w.heap.size + 1) (by simp)).below b2 (by simp), Bf.new (((((((w.alloc (.cells #[.slice A n c, .slice A2 n2 c2, .slice A3 n3 c3] 26)).alloc (.cells #[.map none, .map none, .map none, .map none, .map none] 88)).alloc (.map #[] 0)).alloc (.map #[] 0)).alloc (.map #[] 0)).alloc (.map #[] 0)).alloc (.map #[] 0)) [.map (some (w.heap.size + 2)), .map (some (w.heap.size + 3)), .map (some (w.heap.size + 4)), .map (some (w.heap.size + 5)), .map (some (w.heap.size + 6))] 88 s7, ⟨?_, ?_, ?_, ?_⟩, b0⟩, (ZoneK.made ((w.alloc (.cells #[.slice A n c, .slice A2 n2 c2, .slice A3 n3 c3] 26)).alloc (.cells #[.map none, .map none, .map none, .map none, .map none] 88)) sz).below b3⟩
  · exact tu.turn (fOne_zero (fun _ => rfl))
  · exact ta.turn fTwo_zero
  · exact ti.turn fTwo_zero
  · exact ts.turn (fOne_zero (fun _ => rfl))
/-- What stands while the zones are laid. -/
def NoRel (ns : List NodeD) (A A2 A3 : Option Addr) (n c n2 c2 n3 c3 : Nat) (w : World) (v : Value) (wr : World) : Prop :=
  ∃ k : Nat, k ≤ n ∧ v = .int .i64 k ∧ NoB (mapsAt w.heap.size) A A2 A3 n c n2 c2 n3 c3 w wr ∧ ZoneK (w.heap.size + 2) k (zmOf (ns.take k)) wr
/-- What noCounts comes to. -/
structure NoTo (ns : List NodeD) (M : MapsB) (w w' : World) : Prop where
  apart : M.Apart
  far : ∀ i ∈ M.z :: M.four, w.heap.size ≤ i
  cnt : CntIs M 0 zeroC w'
  zone : ZoneIs M.z (zmOf ns) w'
  below : Below w.heap.size w w'

set_option maxHeartbeats 6400000 in
set_option maxRecDepth 100000 in
theorem noCounts_any {ns : List NodeD} (hF : ∀ x ∈ ns, x.Ok) (A A2 A3 : Option Addr) (n c n2 c2 n3 c3 : Nat) (w : World) (hn : n = ns.length) (hl : n ≤ 40) (hr : Recs 10 cellsN w w.heap.size A ns) :
    Calls Tryz.prog 29 #[.agg #[.slice A n c, .slice A2 n2 c2, .slice A3 n3 c3]] w fun e w' => ∃ M : MapsB, e = .returned M.val ∧ NoTo ns M w w' := by
  have hmm := @run_makeMap Tryz.prog
  have HAT := Lib.hid (noB_made A A2 A3 n c n2 c2 n3 c3 w)
  have HF := Lib.hid hF
  have HN := Lib.hid hn
  have HR := Lib.hid hr
  obtain ⟨q0, q1, q2, q3, q4, q5⟩ := HAT.out.1.tri.cells5v
  clear hF hn hr
  have l0 := HAT.out.1.one.cell 0 _ rfl
  go_enter Tryz.func29, Tryz.ntmps29
  go_upto_region 2 with fail
  generalize ((((((((w.alloc (.cells #[.slice A n c, .slice A2 n2 c2, .slice A3 n3 c3] 26)).alloc (.cells #[.map none, .map none, .map none, .map none, .map none] 88)).alloc (.map #[] 0)).alloc (.map #[] 0)).alloc (.map #[] 0)).alloc (.map #[] 0)).alloc (.map #[] 0)).alloc (.cells #[.map (some (w.heap.size + 2)), .map (some (w.heap.size + 3)), .map (some (w.heap.size + 4)), .map (some (w.heap.size + 5)), .map (some (w.heap.size + 6))] 88)) = V at *
  clear hmm
  go_wp2
  go_loopw [15] (NoRel ns A A2 A3 n c n2 c2 n3 c3 w) (fun v _ => n - (intOf v).toNat)
  case atStart => exact ⟨0, Nat.zero_le _, rfl, HAT.out.1, HAT.out.2⟩
  case round =>
    obtain ⟨k, hk, rfl, hnb, hz⟩ := hrel
    have HNB := Lib.hid hnb
    have HZ := Lib.hid hz
    clear HAT q0 q1 q2 q3 q4 q5 l0 hnb hz
    by_cases hlt : k < n
    · have hkl : k < ns.length := by have := HN.out; omega
      have hxo := HF.out _ (List.getElem_mem hkl)
      generalize hx : ns[k] = x at *
      obtain ⟨b, o, rfl, hbw, he⟩ := HR.out.at hkl
      rw [hx] at he
      have hb := HNB.out.below
      have hc : ∀ j u, (cellsN x)[j]? = some u → wr.cell? ⟨b, o + k * 10 + j, none⟩ = some u := fun j u hu => (hb.cell (p := ⟨b, o + k * 10 + j, none⟩) hbw).trans (he j u hu)
      have e0 := hc 0 _ rfl
      have e1 := hc 1 _ rfl
      have e2 := hc 2 _ rfl
      have e3 := hc 3 _ rfl
      have e4 := hc 4 _ rfl
      have e5 := hc 5 _ rfl
      have e6 := hc 6 _ rfl
      have e7 := hc 7 _ rfl
      have e8 := hc 8 _ rfl
      have e9 := hc 9 _ rfl
      rw [Nat.add_zero] at e0
      have hbwr : b < wr.heap.size := Nat.lt_of_lt_of_le hbw hb.size
      have HST : Hid (ns.take (k + 1) = ns.take k ++ [x]) := by rw [List.take_succ_eq_append_getElem hkl, hx]; exact Lib.hid rfl
      have HXO := Lib.hid hxo
      have ka := below_new wr (.cells #[.int .i64 x.id, .int .i64 x.zone, .int .u64 x.cap.a, .int .u64 x.cap.b, .int .u64 x.cap.c, .int .u64 x.cap.d, .int .u64 x.held.a, .int .u64 x.held.b, .int .u64 x.held.c, .int .u64 x.held.d] 63)
      have hbn : Bf (wr.alloc (.cells #[.int .i64 x.id, .int .i64 x.zone, .int .u64 x.cap.a, .int .u64 x.cap.b, .int .u64 x.cap.c, .int .u64 x.cap.d, .int .u64 x.held.a, .int .u64 x.held.b, .int .u64 x.held.c, .int .u64 x.held.d] 63)) wr.heap.size (cellsN x) := Bf.new wr (cellsN x) 63 rfl
      have HNB1 := Lib.hid (HNB.out.keep ka)
      have HZ1 := Lib.hid (HZ.out.below ka)
      clear he hc hb hx hxo ka HNB HZ
      obtain ⟨q0, q1, q2, q3, q4, q5⟩ := HNB1.out.tri.cells5v
      obtain ⟨⟨b0, b1, b2, b3, b4, b5⟩, b6, b7, b8, b9, b10⟩ := hbn.cells10
      go_upto_region 5 with fail
      generalize (wr.alloc (.cells #[.int .i64 x.id, .int .i64 x.zone, .int .u64 x.cap.a, .int .u64 x.cap.b, .int .u64 x.cap.c, .int .u64 x.cap.d, .int .u64 x.held.a, .int .u64 x.held.b, .int .u64 x.held.c, .int .u64 x.held.d] 63)) = V1 at *
      generalize wr.heap.size = g at *
      clear e0 e1 e2 e3 e4 e5 e6 e7 e8 e9 hbn
      obtain ⟨D, hown, h3⟩ := HZ1.out
      have H3 := Lib.hid h3
      clear h3
      go_upto_region 6 with (at_mapUpdate; refine wpList_mapUpdate_own _ rfl _ _ _ 83 rfl 3 3 intLaw Tryz.underlying83 _ (w.heap.size + 2) k D rfl hown (by unfold maxLen; omega) _ _ _ rfl rfl (key_int HXO.out.1) (.lit (.int .i64 x.zone)) [] (plainElem_int Tryz.underlying3 (wf_of HXO.out.2.1)) ?_; intro V3 hown3 hgrow3)
      have ho3 : Only [(mapsAt w.heap.size).z] V1 V3 := Only.grown hgrow3 (List.mem_singleton.2 rfl)
      have HNB3 := Lib.hid (HNB1.out.only rfl ho3)
      have HZ3 : Hid (ZoneK (w.heap.size + 2) (k + 1) (zmOf (ns.take (k + 1))) V3) := by rw [HST.out]; exact Lib.hid (ZoneK.put hown.isMap H3.out hown3)
      clear hown hown3 hgrow3 ho3 q0 q1 q2 q3 q4 q5 b0 b1 b2 b3 b4 b5 b6 b7 b8 b9 b10 HNB1 HZ1
      go_wp2
      go_roundw
      case rel => exact ⟨k + 1, by omega, by go_num, HNB3.out, HZ3.out⟩
      case measure => simp [intOf]; omega
    · have hkm : k = n := by omega
      subst hkm
      have HE : Hid (zmOf (ns.take k) = zmOf ns) := by rw [List.take_of_length_le (by have := HN.out; omega)]; exact Lib.hid rfl
      obtain ⟨q0, q1, q2, q3, q4, q5⟩ := HNB.out.tri.cells5v
      have t0 := HNB.out.two.cell 0 _ rfl
      have t1 := HNB.out.two.cell 1 _ rfl
      have t2 := HNB.out.two.cell 2 _ rfl
      have t3 := HNB.out.two.cell 3 _ rfl
      have t4 := HNB.out.two.cell 4 _ rfl
      have f0 := HNB.out.two.frozen 0
      have f1 := HNB.out.two.frozen 1
      have f2 := HNB.out.two.frozen 2
      have f3 := HNB.out.two.frozen 3
      have f4 := HNB.out.two.frozen 4
      have f5 := HNB.out.two.lt
      go_wp2
      refine bodyPost_ret (v := (mapsAt w.heap.size).val) ?_ rfl ?_
      · simp [results, Tryz.results29, go_sem, *]
      · have ho : Only [w.heap.size + 1] wr (((((wr.setCell ⟨w.heap.size + 1, 0, none⟩ (.map (some (mapsAt w.heap.size).z))).setCell ⟨w.heap.size + 1, 1, none⟩ (.map (some (mapsAt w.heap.size).u))).setCell ⟨w.heap.size + 1, 2, none⟩ (.map (some (mapsAt w.heap.size).a))).setCell ⟨w.heap.size + 1, 3, none⟩ (.map (some (mapsAt w.heap.size).i))).setCell ⟨w.heap.size + 1, 4, none⟩ (.map (some (mapsAt w.heap.size).s))) := by
          have hm : w.heap.size + 1 ∈ [w.heap.size + 1] := List.mem_singleton.2 rfl
          exact (((((Only.refl [w.heap.size + 1] wr).setCell (p := ⟨w.heap.size + 1, 0, none⟩) hm _).setCell (p := ⟨w.heap.size + 1, 1, none⟩) hm _).setCell (p := ⟨w.heap.size + 1, 2, none⟩) hm _).setCell (p := ⟨w.heap.size + 1, 3, none⟩) hm _).setCell (p := ⟨w.heap.size + 1, 4, none⟩) hm _
        have hne : ∀ i, w.heap.size + 2 ≤ i → i ∉ [w.heap.size + 1] := fun i hi e => by have := List.mem_singleton.1 e; omega
        obtain ⟨D, hown, h3⟩ := HZ.out.kept ho (hne _ (Nat.le_refl _))
        rw [HE.out] at h3
        refine ⟨mapsAt w.heap.size, rfl, maps_apart _, ?_, HNB.out.cnt.kept ho (hne _ (by simp [mapsAt])) (hne _ (by simp [mapsAt])) (hne _ (by simp [mapsAt])) (hne _ (by simp [mapsAt])), ⟨k, D, by omega, hown, h3⟩, HNB.out.below.trans (ho.below HNB.out.below.size (fun i hi => by have := List.mem_singleton.1 hi; omega))⟩
        intro i hi
        simp only [mapsAt, MapsB.four, List.mem_cons, List.not_mem_nil, or_false] at hi
        omega
end Go.Proofs.YtpfjeoldgcepnaaGreatDoor

namespace Go.Proofs.YtpfjeoldgcepnaaGreatDoor
set_option linter.unusedSimpArgs false
open Go.RowKit
set_option linter.unusedVariables false

/-- Records that lie in blocks from B on. -/
def RowK {α : Type} (size : Nat) (cells : α → List Value) (A : Option Addr) (l : List α) (B : Nat) (V : World) : Prop := Recs size cells V V.heap.size A l ∧ ∀ a, A = some a → B ≤ a.block ∧ a.block < V.heap.size
section
variable {α : Type} {size : Nat} {cells : α → List Value} {A : Option Addr} {l : List α} {B : Nat} {V V' : World}
theorem RowK.below (h : RowK size cells A l B V) (hb : Below V.heap.size V V') : RowK size cells A l B V' := ⟨(h.1.below hb (Nat.le_refl _)).more hb.size, fun a ha => ⟨(h.2 a ha).1, Nat.lt_of_lt_of_le (h.2 a ha).2 hb.size⟩⟩
theorem RowK.only {S : List Nat} (h : RowK size cells A l B V) (ho : Only S V V') (hS : ∀ i ∈ S, i < B) : RowK size cells A l B V' :=
  ⟨recs_only h.1 ho (fun a ha e => by have := hS _ e; have := (h.2 a ha).1; omega), fun a ha => ⟨(h.2 a ha).1, Nat.lt_of_lt_of_le (h.2 a ha).2 ho.size⟩⟩
theorem RowK.less {B' : Nat} (h : RowK size cells A l B V) (hB : B' ≤ B) : RowK size cells A l B' V := ⟨h.1, fun a ha => ⟨Nat.le_trans hB (h.2 a ha).1, (h.2 a ha).2⟩⟩
theorem rowK_of_own {n c : Nat} {e : TypeId} (hc : ∀ x, (cells x).length = size) (hn : n = l.length) (h : V.ownsRow B e size (.slice A n c) n (l.flatMap cells)) : RowK size cells A l B V := by
  refine ⟨(out_of_own hc hn h).2.2.2, fun a ha => ?_⟩
  rcases h.2 with ⟨h0, _⟩ | ⟨g, cap, cur, hv, hb, hg, _⟩
  · injection h0 with h0 _ _
    rw [h0] at ha; cases ha
  · injection hv with h0 _ _
    rw [h0] at ha
    injection ha with ha
    rw [← ha]
    exact ⟨hb, (Array.getElem?_eq_some_iff.1 hg).1⟩
end
theorem NoTo.span {ns : List NodeD} {M : MapsB} {w w' : World} (h : NoTo ns M w w') : ∀ i ∈ M.z :: M.four, w.heap.size ≤ i ∧ i < w'.heap.size := fun i hi => by
  refine ⟨h.far i hi, ?_⟩
  have h1 := And.intro h.cnt.use.lt (And.intro h.cnt.ats.lt (And.intro h.cnt.inz.lt (And.intro h.cnt.size.lt h.zone.lt)))
  simp only [MapsB.four, List.mem_cons, List.not_mem_nil, or_false] at hi
  omega
/-- A keeper that has counted nothing yet. -/
structure KNew (K : KAddr) (s : SnapD) (x : SpecD) (B : Nat) (V : World) : Prop where
  k : Kc K s x s.pods 0 0 zeroC 0 0 V
  ad : K.ad = none ∧ K.cd = 0
  low : LowK K [] V.heap.size
  far : ∀ i ∈ K.M.z :: K.all, B ≤ i
theorem KNew.below {K : KAddr} {s : SnapD} {x : SpecD} {B : Nat} {V V' : World} (h : KNew K s x B V) (hb : Below V.heap.size V V') : KNew K s x B V' :=
  ⟨h.k.below hb, h.ad, fun a ha => Nat.lt_of_lt_of_le (h.low a ha) hb.size, h.far⟩
theorem kNew_of {s : SnapD} {x : SpecD} {A1 A2 A3 A5 A4 : Option Addr} {c1 c2 c3 c5 c4 B B0 : Nat} {M : MapsB} {wl : World} (hB : B0 ≤ B) (h1 : RowK 10 cellsN A1 s.nodes B0 wl) (h2 : RowK 5 cellsL A2 s.loads B0 wl) (h3 : RowK 8 cellsP A3 s.pods B0 wl) (h5 : RowK 6 cellsW A5 x.wants B0 wl)
    (l1 : ∀ a, A1 = some a → a.block < B) (l2 : ∀ a, A2 = some a → a.block < B) (l3 : ∀ a, A3 = some a → a.block < B) (l5 : ∀ a, A5 = some a → a.block < B)
    (hp : PodRow A4 c4 s.pods wl) (h4 : ∀ a, A4 = some a → B ≤ a.block ∧ a.block < wl.heap.size) (hm : M.Apart) (hno : ∀ i ∈ M.z :: M.four, B ≤ i ∧ i < wl.heap.size) (hsep : ∀ a, A4 = some a → a.block ∉ M.z :: M.four) (hc : CntIs M 0 zeroC wl) (hz : ZoneIs M.z (zmOf s.nodes) wl) (hBl : B ≤ wl.heap.size) :
    KNew ⟨A1, A2, A3, A5, A4, none, c1, c2, c3, c5, c4, 0, M, wl.heap.size⟩ s x B0 (wl.alloc (.cells #[.slice A1 s.nodes.length c1, .slice A2 s.loads.length c2, .slice A3 s.pods.length c3, .slice A5 x.wants.length c5, .int .i64 x.preempts, .int .i64 x.shifts, .slice A4 s.pods.length c4, .int .i64 0, .int .i64 0, .slice none 0 0, .map (some M.z), .map (some M.u), .map (some M.a), .map (some M.i), .map (some M.s)] 92)) := by
  have kb := below_new wl (.cells #[.slice A1 s.nodes.length c1, .slice A2 s.loads.length c2, .slice A3 s.pods.length c3, .slice A5 x.wants.length c5, .int .i64 x.preempts, .int .i64 x.shifts, .slice A4 s.pods.length c4, .int .i64 0, .int .i64 0, .slice none 0 0, .map (some M.z), .map (some M.u), .map (some M.a), .map (some M.i), .map (some M.s)] 92)
  have hall : ∀ i ∈ (⟨A1, A2, A3, A5, A4, none, c1, c2, c3, c5, c4, 0, M, wl.heap.size⟩ : KAddr).all, B ≤ i := fun i hi => by
    rcases mem_all.1 hi with e | ⟨a, ha, e⟩ | ⟨a, ha, e⟩ | e
    · have e : i = wl.heap.size := e
      omega
    · have := (h4 a ha).1; omega
    · cases ha
    · exact (hno i (List.mem_cons_of_mem _ e)).1
  have far : ∀ {A : Option Addr}, (∀ a, A = some a → a.block < B) → ∀ a, A = some a → a.block ∉ (⟨A1, A2, A3, A5, A4, none, c1, c2, c3, c5, c4, 0, M, wl.heap.size⟩ : KAddr).all := fun h a ha e => by
    have := hall _ e; have := h a ha; omega
  refine ⟨⟨⟨hm, fun e => ?_, fun a ha => ⟨fun e => ?_, hsep a ha⟩, fun a ha => (by cases ha), far l1, far l2, far l3, far l5⟩, ?_, hp.below kb, hc.below kb, hz.below kb, (h1.below kb).1, (h2.below kb).1, (h3.below kb).1, (h5.below kb).1⟩, ⟨rfl, rfl⟩, ?_, fun i hi => ?_⟩
  · have := (hno _ e).2
    simp at this
  · have := (h4 a ha).2
    have e : a.block = wl.heap.size := e
    omega
  · exact Bf.new wl (kcells ⟨A1, A2, A3, A5, A4, none, c1, c2, c3, c5, c4, 0, M, wl.heap.size⟩ s x s.pods.length 0 0 0) 92 rfl
  · intro a ha
    have hsz := kb.size
    rcases ha with ha | ha | ha | ha | ⟨d, hd, _⟩
    · have := l1 a ha; omega
    · have := l2 a ha; omega
    · have := l3 a ha; omega
    · have := l5 a ha; omega
    · cases hd
  · rcases List.mem_cons.1 hi with e | e
    · have := (hno i (by rw [e]; exact List.mem_cons_self ..)).1; omega
    · have := hall i e; omega
theorem four_far {K : KAddr} {s : SnapD} {x : SpecD} {B i : Nat} {V : World} (h : KNew K s x B V) (hi : i < B) : i ∉ K.M.four := fun e => by
  have := h.far i (List.mem_cons_of_mem _ (mem_all.2 (.inr (.inr (.inr e)))))
  omega
theorem four_le {K : KAddr} {s : SnapD} {x : SpecD} {B : Nat} {V : World} (h : KNew K s x (B + 2) V) : ∀ i ∈ K.M.four, B ≤ i := fun i e => by
  have := h.far i (List.mem_cons_of_mem _ (mem_all.2 (.inr (.inr (.inr e)))))
  omega
theorem zm_64 {ns : List NodeD} (h : FineN ns) : ∀ i z, zmOf ns i = some z → I64 z := fun i z hz => by
  have h1 := (zm_fold ns (fun _ => none) h.one i z).1 hz
  rcases h1 with ⟨n, hn, _, e⟩ | ⟨_, e⟩
  · rw [← e]; exact (h.ok n hn).2.1
  · cases e
theorem newK_drop {l : List PodD} {ns : List NodeD} {k : Nat} (h : k < ns.length) {n : NodeD} (hn : ns[k] = n) : newK l (ns.drop k) = if roomK (lessV n.cap n.held) n.id .zer [] l ≠ 0 then roomK (lessV n.cap n.held) n.id .zer [] l else newK l (ns.drop (k + 1)) := by
  rw [List.drop_eq_getElem_cons h, hn]; rfl
/-- What New comes to. -/
def NewTo (s : SnapD) (x : SpecD) (w : World) (e : Ending) (w' : World) : Prop :=
  Below w.heap.size w w' ∧ (((fair s x).1 ≠ 0 ∧ ∃ u, e = .returned (.tuple #[.pointer none, u]) ∧ ErrIs (fair s x) w.heap.size w' u) ∨
    ((fair s x).1 = 0 ∧ codeS s.nodes s.loads x (firstD s) ≠ 0 ∧ e = .returned (.tuple #[.pointer none, codeV (codeS s.nodes s.loads x (firstD s))])) ∨
    ((fair s x).1 = 0 ∧ codeS s.nodes s.loads x (firstD s) = 0 ∧ ∃ K : KAddr, e = .returned (.tuple #[.pointer (some ⟨K.kb, 0, none⟩), .nilIface]) ∧ Kp K s x (firstD s) [] 100 w' ∧ (∀ i ∈ K.all, w.heap.size ≤ i) ∧ FineK s x))
/-- A keeper of the first state. -/
theorem kp_first {K : KAddr} {s : SnapD} {x : SpecD} {B : Nat} {V V' : World} {N : Nat} (h : KNew K s x B V) (hk : Kc K s x s.pods 0 0 (cntOf (zmOf s.nodes) s.pods) N 0 V') (hN : N ≤ 100) (hsz : V.heap.size ≤ V'.heap.size) (hP : FineP s.nodes s.pods) (hc : codeS s.nodes s.loads x (firstD s) = 0) : Kp K s x (firstD s) [] 100 V' :=
  ⟨hk.mono hN, ⟨rfl, .inl ⟨by rw [h.ad.1, h.ad.2]; rfl, rfl⟩⟩, fun d hd => (by cases hd), hP, hc, trivial, fun a ha => Nat.lt_of_lt_of_le (h.low a ha) hsz⟩
/-- What stands while New looks at the nodes. -/
def NewRel (K : KAddr) (s : SnapD) (x : SpecD) (cs : List Value) (w : World) (v : Value) (wr : World) : Prop :=
  ∃ k : Nat, k ≤ s.nodes.length ∧ v = .int .i64 k ∧ newK s.pods (s.nodes.drop k) = newK s.pods s.nodes ∧ KNew K s x (w.heap.size + 2) wr ∧ Bf wr w.heap.size cs ∧ Below w.heap.size w wr

set_option maxHeartbeats 12800000 in
set_option maxRecDepth 100000 in
theorem keepNew_any (s : SnapD) (x : SpecD) (A1 A2 A3 A5 : Option Addr) (n1 c1 n2 c2 n3 c3 n5 c5 : Nat) (w : World) (h : WalkArgs s x A1 A2 A3 A5 n1 c1 n2 c2 n3 c3 n5 c5 w) (z1 : A1 = none → c1 = 0) (z2 : A2 = none → c2 = 0) (z5 : A5 = none → c5 = 0) :
    Calls Tryz.prog 7 #[.agg #[.slice A1 n1 c1, .slice A2 n2 c2, .slice A3 n3 c3], .agg #[.slice A5 n5 c5, .int .i64 x.preempts, .int .i64 x.shifts]] w (NewTo s x w) := by
  obtain rfl : n1 = s.nodes.length := h.s1.1
  obtain rfl : n2 = s.loads.length := h.s2.1
  obtain rfl : n3 = s.pods.length := h.s3.1
  obtain rfl : n5 = x.wants.length := h.s5.1
  have T0 := T2.new w [.slice A1 s.nodes.length c1, .slice A2 s.loads.length c2, .slice A3 s.pods.length c3] [.slice A5 x.wants.length c5, .int .i64 x.preempts, .int .i64 x.shifts] 26 29
  have HFAIR := Lib.hid (h.at T0.below).fair
  have HA := Lib.hid h
  have HZ := Lib.hid (And.intro z1 (And.intro z2 z5))
  have HFZ := Lib.hid (fair_zero (s := s) (x := x))
  have HT0 := Lib.hid T0
  clear h T0 z1 z2 z5
  go_enter Tryz.func7, Tryz.ntmps7
  go_wp2_with fail
  refine HFAIR.out.mono ?_
  rintro e w1 ⟨u, rfl, hu, hb1⟩
  have T1 := HT0.out.keep hb1
  have HT1 := Lib.hid T1
  by_cases h0 : (fair s x).1 = 0
  case neg =>
    have hzf : okP (fair s x) = false := by
      cases hok : okP (fair s x) with
      | false => rfl
      | true => exact absurd (by rw [okP_true hok]) h0
    have HU := Lib.hid (ErrIs.more hu (B' := w.heap.size) (by have := HT0.out.below.size; exact this))
    obtain ⟨t1, v1, rfl⟩ := errIs_iface hu hzf
    have HC := Lib.hid h0
    clear h0 hu hb1 hzf T1
    go_wp2
    go_ret2
    exact ⟨HT1.out.below, .inl ⟨HC.out, _, rfl, HU.out⟩⟩
  have hn := hu.nil (by rw [HFZ.out h0]; rfl)
  subst hn
  have HC := Lib.hid h0
  have HCN : Hid (∀ V, Below w.heap.size w V → Calls Tryz.prog 24 #[.slice A1 s.nodes.length c1] V fun e w' => ∃ A' c', e = .returned (.slice A' s.nodes.length c') ∧ w'.ownsRow V.heap.size 63 10 (.slice A' s.nodes.length c') s.nodes.length (s.nodes.flatMap cellsN) ∧ Below V.heap.size V w') := fun V hV =>
    cloneNode_any s.nodes A1 _ c1 V rfl (by have := HA.out.s1.2.1; omega) HZ.out.1 (HA.out.at hV).r1
  have HCL : Hid (∀ V, Below w.heap.size w V → Calls Tryz.prog 25 #[.slice A2 s.loads.length c2] V fun e w' => ∃ A' c', e = .returned (.slice A' s.loads.length c') ∧ w'.ownsRow V.heap.size 76 5 (.slice A' s.loads.length c') s.loads.length (s.loads.flatMap cellsL) ∧ Below V.heap.size V w') := fun V hV =>
    cloneLoad_any s.loads A2 _ c2 V rfl (by have := HA.out.s2.2.1; omega) HZ.out.2.1 (HA.out.at hV).r2
  have HCP : Hid (∀ V, Below w.heap.size w V → Calls Tryz.prog 26 #[.slice A3 s.pods.length c3] V fun e w' => ∃ A' c', e = .returned (.slice A' s.pods.length c') ∧ w'.ownsRow V.heap.size 79 8 (.slice A' s.pods.length c') s.pods.length (s.pods.flatMap cellsP) ∧ Below V.heap.size V w') := fun V hV =>
    clonePod_any s.pods A3 _ c3 V rfl (by have := HA.out.s3.2.1; omega) HA.out.s3.2.2.2.2 (HA.out.at hV).r3
  have HCW : Hid (∀ V, Below w.heap.size w V → Calls Tryz.prog 27 #[.slice A5 x.wants.length c5] V fun e w' => ∃ A' c', e = .returned (.slice A' x.wants.length c') ∧ w'.ownsRow V.heap.size 82 6 (.slice A' x.wants.length c') x.wants.length (x.wants.flatMap cellsW) ∧ Below V.heap.size V w') := fun V hV =>
    cloneWant_any x.wants A5 _ c5 V rfl (by have := HA.out.s5.2.1; omega) HZ.out.2.2 (HA.out.at hV).r5
  have HB1 := Lib.hid T1.below
  have HBR : Hid (Below w1.heap.size w1 w1.drew) := Lib.hid ((Below.refl _ w1).drew)
  have hlt1 : w.heap.size + 1 < w1.heap.size := T1.two.lt
  obtain ⟨a0, a1, a2, a3⟩ := T1.one.cells3
  obtain ⟨d0, d1, d2, d3⟩ := T1.one.drew.cells3
  clear h0 hu hb1 T1 HFAIR HFZ HT0
  go_upto_region 4 with fail
  go_cut [6] from 18 to 27 (fun v6 wx => v6 = .nilIface ∧ ∃ A1' c1' A2' c2' A3' c3', Bf wx w.heap.size [.slice A1' s.nodes.length c1', .slice A2' s.loads.length c2', .slice A3' s.pods.length c3'] ∧ Bf wx (w.heap.size + 1) [.slice A5 x.wants.length c5, .int .i64 x.preempts, .int .i64 x.shifts] ∧ RowK 10 cellsN A1' s.nodes (w.heap.size + 2) wx ∧ RowK 5 cellsL A2' s.loads (w.heap.size + 2) wx ∧ RowK 8 cellsP A3' s.pods (w.heap.size + 2) wx ∧ (A3' = none → c3' = 0) ∧ Below w.heap.size w wx)
  case first =>
    go_region_with (first
        | (go_at_call 24; refine (HCN.out _ (HB1.out.trans (HBR.out.mono HB1.out.size))).mono ?_; rintro e wl ⟨A1', c1', rfl, ho, hb⟩; (try (have HQ2 := Lib.hid (HQ2.out.below hb))); (try (have HQ3 := Lib.hid (HQ3.out.below hb))); have HQ1 := Lib.hid ((rowK_of_own (cells := cellsN) (fun _ => rfl) rfl ho).less (B' := w.heap.size + 2) (by have h1 := HBR.out.size; omega)); have HBR := Lib.hid (HBR.out.trans (hb.mono HBR.out.size)); obtain ⟨a0, a1, a2, a3⟩ := (HT1.out.keep HBR.out).one.cells3; have z0 := (HT1.out.keep HBR.out).one.frozen 0; have z1 := (HT1.out.keep HBR.out).one.frozen 1; have z2 := (HT1.out.keep HBR.out).one.frozen 2; clear ho hb)
        | (go_at_call 25; refine (HCL.out _ (HB1.out.trans (HBR.out.mono HB1.out.size))).mono ?_; rintro e wl ⟨A2', c2', rfl, ho, hb⟩; (try (have HQ1 := Lib.hid (HQ1.out.below hb))); (try (have HQ3 := Lib.hid (HQ3.out.below hb))); have HQ2 := Lib.hid ((rowK_of_own (cells := cellsL) (fun _ => rfl) rfl ho).less (B' := w.heap.size + 2) (by have h1 := HBR.out.size; omega)); have HBR := Lib.hid (HBR.out.trans (hb.mono HBR.out.size)); obtain ⟨a0, a1, a2, a3⟩ := (HT1.out.keep HBR.out).one.cells3; have z0 := (HT1.out.keep HBR.out).one.frozen 0; have z1 := (HT1.out.keep HBR.out).one.frozen 1; have z2 := (HT1.out.keep HBR.out).one.frozen 2; clear ho hb)
        | (go_at_call 26; refine (HCP.out _ (HB1.out.trans (HBR.out.mono HB1.out.size))).mono ?_; rintro e wl ⟨A3', c3', rfl, ho, hb⟩; (try (have HQ1 := Lib.hid (HQ1.out.below hb))); (try (have HQ2 := Lib.hid (HQ2.out.below hb))); have HZ3 := Lib.hid (out_of_own (cells := cellsP) (fun _ => rfl) rfl ho).2.2.1; have HQ3 := Lib.hid ((rowK_of_own (cells := cellsP) (fun _ => rfl) rfl ho).less (B' := w.heap.size + 2) (by have h1 := HBR.out.size; omega)); have HBR := Lib.hid (HBR.out.trans (hb.mono HBR.out.size)); obtain ⟨a0, a1, a2, a3⟩ := (HT1.out.keep HBR.out).one.cells3; have z0 := (HT1.out.keep HBR.out).one.frozen 0; have z1 := (HT1.out.keep HBR.out).one.frozen 1; have z2 := (HT1.out.keep HBR.out).one.frozen 2; clear ho hb))
    all_goals
      go_wp2_with fail
      go_meet
      have hT := HT1.out.keep HBR.out
      have ho : Only [w.heap.size] wl (((wl.setCell ⟨w.heap.size, 0, none⟩ (.slice A1' s.nodes.length c1')).setCell ⟨w.heap.size, 1, none⟩ (.slice A2' s.loads.length c2')).setCell ⟨w.heap.size, 2, none⟩ (.slice A3' s.pods.length c3')) := (((Only.refl [w.heap.size] wl).setCell (p := ⟨w.heap.size, 0, none⟩) (List.mem_singleton.2 rfl) _).setCell (p := ⟨w.heap.size, 1, none⟩) (List.mem_singleton.2 rfl) _).setCell (p := ⟨w.heap.size, 2, none⟩) (List.mem_singleton.2 rfl) _
      have hS : ∀ i ∈ [w.heap.size], i < w.heap.size + 2 := fun i hi => by rw [List.mem_singleton.1 hi]; omega
      exact ⟨rfl, A1', c1', A2', c2', A3', c3', bf_set3 hT.one, hT.two.only ho (fun e => by have := List.mem_singleton.1 e; omega), HQ1.out.only ho hS, HQ2.out.only ho hS, HQ3.out.only ho hS, HZ3.out, hT.below.trans (ho.below hT.below.size (fun i hi => by rw [List.mem_singleton.1 hi]; exact Nat.le_refl _))⟩
  case rest =>
  obtain ⟨rfl, A1', c1', A2', c2', A3', c3', hb1, hb2, hq1, hq2, hq3, hz3, hbw⟩ := hcut
  have HZ3 := Lib.hid hz3
  have HX1 := Lib.hid hb1
  have HX2 := Lib.hid hb2
  have HQ1 := Lib.hid hq1
  have HQ2 := Lib.hid hq2
  have HQ3 := Lib.hid hq3
  have HBW := Lib.hid hbw
  have HWC := Lib.hid (HCW.out wc hbw)
  obtain ⟨d0, d1, d2, d3⟩ := hb2.cells3
  clear hb1 hb2 hq1 hq2 hq3 hz3 hbw HCN HCL HCP HCW HB1 HBR hlt1 HT1 a0 a1 a2 a3
  go_wp2_with fail
  refine HWC.out.mono ?_
  rintro e w5 ⟨A5', c5', rfl, ho5, hb5⟩
  have hl5 : w.heap.size + 2 ≤ wc.heap.size := by have := HX2.out.lt; omega
  have hq5 := (rowK_of_own (cells := cellsW) (fun _ => rfl) rfl ho5).less hl5
  have hb2 := HX2.out.below hb5 HX2.out.lt
  have HB2 := Lib.hid hb2
  have HBW5 := Lib.hid (HBW.out.trans (hb5.mono HBW.out.size))
  have HX5 := Lib.hid (HX1.out.below hb5 HX1.out.lt)
  have HQ5 := Lib.hid hq5
  have HQ1 := Lib.hid (HQ1.out.below hb5)
  have HQ2 := Lib.hid (HQ2.out.below hb5)
  have HQ3 := Lib.hid (HQ3.out.below hb5)
  clear d0 d1 d2 d3 ho5 hb5 hq5 HWC
  obtain ⟨d0, d1, d2, d3⟩ := hb2.cells3
  have z0 := hb2.frozen 0
  have ho : Only [w.heap.size + 1] w5 (w5.setCell ⟨w.heap.size + 1, 0, none⟩ (.slice A5' x.wants.length c5')) := (Only.refl [w.heap.size + 1] w5).setCell (p := ⟨w.heap.size + 1, 0, none⟩) (List.mem_singleton.2 rfl) _
  have hS : ∀ i ∈ [w.heap.size + 1], i < w.heap.size + 2 := fun i hi => by rw [List.mem_singleton.1 hi]; omega
  have HY1 := Lib.hid (HX5.out.only ho (fun e => by have := List.mem_singleton.1 e; omega))
  have HY2 : Hid (Bf (w5.setCell ⟨w.heap.size + 1, 0, none⟩ (.slice A5' x.wants.length c5')) (w.heap.size + 1) [.slice A5' x.wants.length c5', .int .i64 x.preempts, .int .i64 x.shifts]) := Lib.hid (hb2.set 0 _)
  have HQ1 := Lib.hid (HQ1.out.only ho hS)
  have HQ2 := Lib.hid (HQ2.out.only ho hS)
  have HQ3 := Lib.hid (HQ3.out.only ho hS)
  have HQ5 := Lib.hid (HQ5.out.only ho hS)
  have HBE := Lib.hid (HBW5.out.trans (ho.below HBW5.out.size (fun i hi => by have := List.mem_singleton.1 hi; omega)))
  clear hb2 HB2 ho hS HX1 HX2 HX5 HBW HBW5
  go_upto_region 6 with fail
  generalize (w5.setCell ⟨w.heap.size + 1, 0, none⟩ (.slice A5' x.wants.length c5')) = W at *
  clear d0 d1 d2 d3 z0
  have HFI : Hid (∀ V, Below W.heap.size W V → Calls Tryz.prog 28 #[.agg #[.slice A1' s.nodes.length c1', .slice A2' s.loads.length c2', .slice A3' s.pods.length c3']] V fun e w' => ∃ A' c', e = .returned (stateV A' s.pods.length c' 0 0) ∧ OwnAt (V.heap.size + 2) s.pods w' A' c' ∧ Below V.heap.size V w') := fun V hV =>
    firstOwn_any s.pods A3' _ c3' _ _ V rfl (by have := HA.out.s3.2.1; omega) (HZ3.out) ((HQ3.out.below hV).1)
  have HNO : Hid (∀ V, Below W.heap.size W V → Calls Tryz.prog 29 #[.agg #[.slice A1' s.nodes.length c1', .slice A2' s.loads.length c2', .slice A3' s.pods.length c3']] V fun e w' => ∃ M : MapsB, e = .returned M.val ∧ NoTo s.nodes M V w') := fun V hV =>
    noCounts_any HA.out.ok.1 A1' A2' A3' _ c1' _ c2' _ c3' V rfl HA.out.s1.2.1 ((HQ1.out.below hV).1)
  have HBR : Hid (Below W.heap.size W W.drew) := Lib.hid ((Below.refl _ W).drew)
  have k6 : W.drew.cell? ⟨w.heap.size, 0, none⟩ = some (.slice A1' s.nodes.length c1') ∧ W.drew.cell? ⟨w.heap.size, 1, none⟩ = some (.slice A2' s.loads.length c2') ∧ W.drew.cell? ⟨w.heap.size, 2, none⟩ = some (.slice A3' s.pods.length c3') ∧ W.drew.cell? ⟨w.heap.size + 1, 0, none⟩ = some (.slice A5' x.wants.length c5') ∧ W.drew.cell? ⟨w.heap.size + 1, 1, none⟩ = some (.int .i64 x.preempts) ∧ W.drew.cell? ⟨w.heap.size + 1, 2, none⟩ = some (.int .i64 x.shifts) := (by obtain ⟨a0, a1, a2, -⟩ := HY1.out.cells3; obtain ⟨d0, d1, d2, -⟩ := HY2.out.cells3; exact ⟨a0, a1, a2, d0, d1, d2⟩)
  go_cut [7] from 32 to 39 (fun v7 wx => ∃ K : KAddr, v7 = .pointer (some ⟨K.kb, 0, none⟩) ∧ KNew K s x (w.heap.size + 2) wx ∧ Bf wx w.heap.size [.slice K.a1 s.nodes.length K.c1, .slice K.a2 s.loads.length K.c2, .slice K.a3 s.pods.length K.c3] ∧ Below w.heap.size w wx)
  case first =>
    go_region_held3 (fun w' => w'.cell? ⟨w.heap.size, 0, none⟩ = some (.slice A1' s.nodes.length c1') ∧ w'.cell? ⟨w.heap.size, 1, none⟩ = some (.slice A2' s.loads.length c2') ∧ w'.cell? ⟨w.heap.size, 2, none⟩ = some (.slice A3' s.pods.length c3') ∧ w'.cell? ⟨w.heap.size + 1, 0, none⟩ = some (.slice A5' x.wants.length c5') ∧ w'.cell? ⟨w.heap.size + 1, 1, none⟩ = some (.int .i64 x.preempts) ∧ w'.cell? ⟨w.heap.size + 1, 2, none⟩ = some (.int .i64 x.shifts))
      (first | with_reducible assumption | ((repeat' apply And.intro) <;> with_reducible assumption) | go_keep)
      (first
        | (go_at_call 28; refine (HFI.out _ HBR.out).mono ?_; rintro e wl ⟨A4, c4, rfl, ho4, hb⟩; (try (have HSEP : Hid (∀ a, A4 = some a → a.block ∉ M.z :: M.four) := Lib.hid (fun a ha e => by have h1 := HSP.out _ e; have h2 := ho4.from a ha; omega))); have HPR := Lib.hid (podRow_of ho4).1; have HF4 : Hid (∀ a, A4 = some a → W.heap.size ≤ a.block ∧ a.block < wl.heap.size) := Lib.hid (fun a ha => by have h1 := ho4.from a ha; have h2 := HBR.out.size; omega); (try (have HSP : Hid (∀ i ∈ M.z :: M.four, W.heap.size ≤ i ∧ i < wl.heap.size) := Lib.hid (fun i hi => by have h1 := HSP.out i hi; have h2 := hb.size; omega))); (try (have HCT := Lib.hid (HCT.out.below hb))); (try (have HZN := Lib.hid (HZN.out.below hb))); have HBR := Lib.hid (HBR.out.trans (hb.mono HBR.out.size)); have k7 : wl.cell? ⟨w.heap.size, 0, none⟩ = some (.slice A1' s.nodes.length c1') ∧ wl.cell? ⟨w.heap.size, 1, none⟩ = some (.slice A2' s.loads.length c2') ∧ wl.cell? ⟨w.heap.size, 2, none⟩ = some (.slice A3' s.pods.length c3') ∧ wl.cell? ⟨w.heap.size + 1, 0, none⟩ = some (.slice A5' x.wants.length c5') ∧ wl.cell? ⟨w.heap.size + 1, 1, none⟩ = some (.int .i64 x.preempts) ∧ wl.cell? ⟨w.heap.size + 1, 2, none⟩ = some (.int .i64 x.shifts) := (by obtain ⟨a0, a1, a2, -⟩ := (HY1.out.below HBR.out HY1.out.lt).cells3; obtain ⟨d0, d1, d2, -⟩ := (HY2.out.below HBR.out HY2.out.lt).cells3; exact ⟨a0, a1, a2, d0, d1, d2⟩); clear ho4 hb)
        | (go_at_call 29; refine (HNO.out _ HBR.out).mono ?_; rintro e wl ⟨M, rfl, hno⟩; have hsp := hno.span; (try (have HSEP : Hid (∀ a, A4 = some a → a.block ∉ M.z :: M.four) := Lib.hid (fun a ha e => by have h1 := hsp _ e; have h2 := HF4.out a ha; omega))); have HAP := Lib.hid hno.apart; have HCT := Lib.hid hno.cnt; have HZN := Lib.hid hno.zone; have HSP : Hid (∀ i ∈ M.z :: M.four, W.heap.size ≤ i ∧ i < wl.heap.size) := Lib.hid (fun i hi => by have h1 := hsp i hi; have h2 := HBR.out.size; omega); (try (have HF4 : Hid (∀ a, A4 = some a → W.heap.size ≤ a.block ∧ a.block < wl.heap.size) := Lib.hid (fun a ha => by have h1 := HF4.out a ha; have h2 := hno.below.size; omega))); (try (have HPR := Lib.hid (HPR.out.below hno.below))); have HBR := Lib.hid (HBR.out.trans (hno.below.mono HBR.out.size)); have k7 : wl.cell? ⟨w.heap.size, 0, none⟩ = some (.slice A1' s.nodes.length c1') ∧ wl.cell? ⟨w.heap.size, 1, none⟩ = some (.slice A2' s.loads.length c2') ∧ wl.cell? ⟨w.heap.size, 2, none⟩ = some (.slice A3' s.pods.length c3') ∧ wl.cell? ⟨w.heap.size + 1, 0, none⟩ = some (.slice A5' x.wants.length c5') ∧ wl.cell? ⟨w.heap.size + 1, 1, none⟩ = some (.int .i64 x.preempts) ∧ wl.cell? ⟨w.heap.size + 1, 2, none⟩ = some (.int .i64 x.shifts) := (by obtain ⟨a0, a1, a2, -⟩ := (HY1.out.below HBR.out HY1.out.lt).cells3; obtain ⟨d0, d1, d2, -⟩ := (HY2.out.below HBR.out HY2.out.lt).cells3; exact ⟨a0, a1, a2, d0, d1, d2⟩); clear hno hsp))
    all_goals
      go_wp2_with fail
      go_meet
      have kb := below_new wl (.cells #[.slice A1' s.nodes.length c1', .slice A2' s.loads.length c2', .slice A3' s.pods.length c3', .slice A5' x.wants.length c5', .int .i64 x.preempts, .int .i64 x.shifts, .slice A4 s.pods.length c4, .int .i64 0, .int .i64 0, .slice none 0 0, .map (some M.z), .map (some M.u), .map (some M.a), .map (some M.i), .map (some M.s)] 92)
      have kall := HBR.out.trans (kb.mono HBR.out.size)
      have hsz : W.heap.size ≤ wl.heap.size := HBR.out.size
      have kn := kNew_of (c1 := c1') (c2 := c2') (c3 := c3') (c5 := c5') (B := W.heap.size) (B0 := w.heap.size + 2) (by have := HY2.out.lt; omega) (HQ1.out.below HBR.out) (HQ2.out.below HBR.out) (HQ3.out.below HBR.out) (HQ5.out.below HBR.out) (fun a ha => (HQ1.out.2 a ha).2) (fun a ha => (HQ2.out.2 a ha).2) (fun a ha => (HQ3.out.2 a ha).2) (fun a ha => (HQ5.out.2 a ha).2) HPR.out (fun a ha => ⟨(HF4.out a ha).1, by have := (HF4.out a ha).2; omega⟩) HAP.out (fun i hi => ⟨(HSP.out i hi).1, by have := (HSP.out i hi).2; omega⟩) HSEP.out HCT.out HZN.out hsz
      exact ⟨_, rfl, kn, HY1.out.below kall HY1.out.lt, HBE.out.trans (kall.mono HBE.out.size)⟩
  case rest =>
  obtain ⟨K, rfl, hk, hbx, hbw⟩ := hcut
  obtain ⟨fN, fL, fP⟩ := fine_of HA.out.ok HC.out
  have HFK : Hid (FineK s x) := Lib.hid ⟨fN, fL, HA.out.wo, HA.out.ok.2.1, HA.out.s1.2.1, HA.out.s5.2.1⟩
  have HFP := Lib.hid fP
  have HNK := Lib.hid (new_K (ns := s.nodes) (ls := s.loads) (x := x) (t := firstD s) fN fL fP)
  have HAT : Hid (NewRel K s x [.slice K.a1 s.nodes.length K.c1, .slice K.a2 s.loads.length K.c2, .slice K.a3 s.pods.length K.c3] w (.int .i64 0) wc) := Lib.hid ⟨0, Nat.zero_le _, rfl, rfl, hk, hbx, hbw⟩
  obtain ⟨a0, a1, a2, a3⟩ := hbx.cells3
  clear hk hbx hbw fN fL fP HY1 HY2 HQ1 HQ2 HQ3 HQ5 HZ3 HBE HFI HNO HBR k6
  have hn40 := HA.out.s1.2.1
  go_wp2
  go_loopw [43] (NewRel K s x [.slice K.a1 s.nodes.length K.c1, .slice K.a2 s.loads.length K.c2, .slice K.a3 s.pods.length K.c3] w) (fun v _ => s.nodes.length - (intOf v).toNat)
  case atStart => exact HAT.out
  case round =>
    obtain ⟨k, hkl, rfl, hnk, hk, hbx, hbw⟩ := hrel
    have HKN := Lib.hid hnk
    have HK := Lib.hid hk
    have HX := Lib.hid hbx
    have HBW := Lib.hid hbw
    clear HAT a0 a1 a2 a3 hnk hk hbx hbw
    by_cases hlt : k < s.nodes.length
    · have hmem : s.nodes[k] ∈ s.nodes := List.getElem_mem hlt
      generalize hn : s.nodes[k] = n at *
      obtain ⟨b, o, hA1, hbwr, he⟩ := HK.out.k.r1.at hlt
      rw [hn] at he
      have e0 := he 0 _ rfl
      have e1 := he 1 _ rfl
      have e2 := he 2 _ rfl
      have e3 := he 3 _ rfl
      have e4 := he 4 _ rfl
      have e5 := he 5 _ rfl
      have e6 := he 6 _ rfl
      have e7 := he 7 _ rfl
      have e8 := he 8 _ rfl
      have e9 := he 9 _ rfl
      rw [Nat.add_zero] at e0
      have HST := Lib.hid (newK_drop (l := s.pods) hlt hn)
      have HME := Lib.hid hmem
      have HKA := Lib.hid hA1
      have ka := below_new wr (.cells #[.int .i64 n.id, .int .i64 n.zone, .int .u64 n.cap.a, .int .u64 n.cap.b, .int .u64 n.cap.c, .int .u64 n.cap.d, .int .u64 n.held.a, .int .u64 n.held.b, .int .u64 n.held.c, .int .u64 n.held.d] 63)
      have hbn : Bf (wr.alloc (.cells #[.int .i64 n.id, .int .i64 n.zone, .int .u64 n.cap.a, .int .u64 n.cap.b, .int .u64 n.cap.c, .int .u64 n.cap.d, .int .u64 n.held.a, .int .u64 n.held.b, .int .u64 n.held.c, .int .u64 n.held.d] 63)) wr.heap.size (cellsN n) := Bf.new wr (cellsN n) 63 rfl
      have HK1 := Lib.hid (HK.out.below ka)
      have HX1 := Lib.hid (HX.out.below ka HX.out.lt)
      have HB1 := Lib.hid (HBW.out.trans (ka.mono HBW.out.size))
      have HBN := Lib.hid hbn
      clear he hmem hn ka hbn
      rw [hA1]
      clear hA1
      go_upto_region 10 with fail
      generalize (wr.alloc (.cells #[.int .i64 n.id, .int .i64 n.zone, .int .u64 n.cap.a, .int .u64 n.cap.b, .int .u64 n.cap.c, .int .u64 n.cap.d, .int .u64 n.held.a, .int .u64 n.held.b, .int .u64 n.held.c, .int .u64 n.held.d] 63)) = V at *
      generalize wr.heap.size = g9 at *
      clear e0 e1 e2 e3 e4 e5 e6 e7 e8 e9 HK HX HBW
      have HRF := Lib.hid (roomFault_any (M := K.M) (nn := 0) (C := zeroC) (n := n) (la := []) (lb := s.pods) (HA.out.ok.1 n HME.out) zer_ok (fun p hp => by cases hp) HA.out.ok.2.2 none K.a4 0 0 s.pods.length K.c4 rfl (by omega) rfl (by have := HA.out.s3.2.1; omega) V.drew HK1.out.k.drew.cnt (.inl rfl) HK1.out.k.drew.pods.out.2.2.2)
      have k10 : V.drew.cell? ⟨K.kb, 10, none⟩ = some (.map (some K.M.z)) ∧ V.drew.cell? ⟨K.kb, 11, none⟩ = some (.map (some K.M.u)) ∧ V.drew.cell? ⟨K.kb, 12, none⟩ = some (.map (some K.M.a)) ∧ V.drew.cell? ⟨K.kb, 13, none⟩ = some (.map (some K.M.i)) ∧ V.drew.cell? ⟨K.kb, 14, none⟩ = some (.map (some K.M.s)) ∧ V.drew.cell? ⟨K.kb, 6, none⟩ = some (.slice K.a4 s.pods.length K.c4) ∧ V.drew.cell? ⟨g9, 0, none⟩ = some (.int .i64 n.id) ∧ V.drew.cell? ⟨g9, 1, none⟩ = some (.int .i64 n.zone) ∧ V.drew.cell? ⟨g9, 2, none⟩ = some (.int .u64 n.cap.a) ∧ V.drew.cell? ⟨g9, 3, none⟩ = some (.int .u64 n.cap.b) ∧ V.drew.cell? ⟨g9, 4, none⟩ = some (.int .u64 n.cap.c) ∧ V.drew.cell? ⟨g9, 5, none⟩ = some (.int .u64 n.cap.d) ∧ V.drew.cell? ⟨g9, 6, none⟩ = some (.int .u64 n.held.a) ∧ V.drew.cell? ⟨g9, 7, none⟩ = some (.int .u64 n.held.b) ∧ V.drew.cell? ⟨g9, 8, none⟩ = some (.int .u64 n.held.c) ∧ V.drew.cell? ⟨g9, 9, none⟩ = some (.int .u64 n.held.d) := (by obtain ⟨-, -, ⟨t0, -, -⟩, -, ⟨q0, q1, q2, q3, q4⟩, -⟩ := HK1.out.k.facts; obtain ⟨⟨b0, b1, b2, b3, b4, b5⟩, b6, b7, b8, b9, b10⟩ := HBN.out.cells10; exact ⟨q0, q1, q2, q3, q4, t0, b0, b1, b2, b3, b4, b5, b6, b7, b8, b9⟩)
      dsimp only at HRF
      generalize roomK (lessV n.cap n.held) n.id .zer [] s.pods = rz at *
      go_region_held3 (fun w' => w'.cell? ⟨K.kb, 10, none⟩ = some (.map (some K.M.z)) ∧ w'.cell? ⟨K.kb, 11, none⟩ = some (.map (some K.M.u)) ∧ w'.cell? ⟨K.kb, 12, none⟩ = some (.map (some K.M.a)) ∧ w'.cell? ⟨K.kb, 13, none⟩ = some (.map (some K.M.i)) ∧ w'.cell? ⟨K.kb, 14, none⟩ = some (.map (some K.M.s)) ∧ w'.cell? ⟨K.kb, 6, none⟩ = some (.slice K.a4 s.pods.length K.c4) ∧ w'.cell? ⟨g9, 0, none⟩ = some (.int .i64 n.id) ∧ w'.cell? ⟨g9, 1, none⟩ = some (.int .i64 n.zone) ∧ w'.cell? ⟨g9, 2, none⟩ = some (.int .u64 n.cap.a) ∧ w'.cell? ⟨g9, 3, none⟩ = some (.int .u64 n.cap.b) ∧ w'.cell? ⟨g9, 4, none⟩ = some (.int .u64 n.cap.c) ∧ w'.cell? ⟨g9, 5, none⟩ = some (.int .u64 n.cap.d) ∧ w'.cell? ⟨g9, 6, none⟩ = some (.int .u64 n.held.a) ∧ w'.cell? ⟨g9, 7, none⟩ = some (.int .u64 n.held.b) ∧ w'.cell? ⟨g9, 8, none⟩ = some (.int .u64 n.held.c) ∧ w'.cell? ⟨g9, 9, none⟩ = some (.int .u64 n.held.d))
        (first | with_reducible assumption | ((repeat' apply And.intro) <;> with_reducible assumption) | go_keep)
        (first
          | (go_at_call 30; refine HRF.out.mono ?_; rintro e w11 ⟨rfl, hb11⟩; have hb12 := (Below.refl _ V).drew.trans hb11; have HK2 := Lib.hid (HK1.out.below hb12); have HX2 := Lib.hid (HX1.out.below hb12 HX1.out.lt); have HB2 := Lib.hid (HB1.out.trans (hb12.mono HB1.out.size)); have k11 : w11.cell? ⟨K.kb, 10, none⟩ = some (.map (some K.M.z)) ∧ w11.cell? ⟨K.kb, 11, none⟩ = some (.map (some K.M.u)) ∧ w11.cell? ⟨K.kb, 12, none⟩ = some (.map (some K.M.a)) ∧ w11.cell? ⟨K.kb, 13, none⟩ = some (.map (some K.M.i)) ∧ w11.cell? ⟨K.kb, 14, none⟩ = some (.map (some K.M.s)) ∧ w11.cell? ⟨K.kb, 6, none⟩ = some (.slice K.a4 s.pods.length K.c4) ∧ w11.cell? ⟨g9, 0, none⟩ = some (.int .i64 n.id) ∧ w11.cell? ⟨g9, 1, none⟩ = some (.int .i64 n.zone) ∧ w11.cell? ⟨g9, 2, none⟩ = some (.int .u64 n.cap.a) ∧ w11.cell? ⟨g9, 3, none⟩ = some (.int .u64 n.cap.b) ∧ w11.cell? ⟨g9, 4, none⟩ = some (.int .u64 n.cap.c) ∧ w11.cell? ⟨g9, 5, none⟩ = some (.int .u64 n.cap.d) ∧ w11.cell? ⟨g9, 6, none⟩ = some (.int .u64 n.held.a) ∧ w11.cell? ⟨g9, 7, none⟩ = some (.int .u64 n.held.b) ∧ w11.cell? ⟨g9, 8, none⟩ = some (.int .u64 n.held.c) ∧ w11.cell? ⟨g9, 9, none⟩ = some (.int .u64 n.held.d) := (by obtain ⟨-, -, ⟨t0, -, -⟩, -, ⟨q0, q1, q2, q3, q4⟩, -⟩ := HK2.out.k.facts; obtain ⟨⟨b0, b1, b2, b3, b4, b5⟩, b6, b7, b8, b9, b10⟩ := (HBN.out.below hb12 HBN.out.lt).cells10; exact ⟨q0, q1, q2, q3, q4, t0, b0, b1, b2, b3, b4, b5, b6, b7, b8, b9⟩); clear hb12))
      clear k10 HRF HK1 HX1 HB1 HBN
      by_cases hc : rz = 0
      case neg =>
        have hst : newK s.pods s.nodes = rz := by rw [← HKN.out, HST.out, if_pos hc]
        have hcs : codeS s.nodes s.loads x (firstD s) = rz := (HNK.out.1 (by show newK s.pods s.nodes ≠ 0; rw [hst]; exact hc)).trans hst
        have HCS := Lib.hid hcs
        have hcv := codeV_pos hc
        have HCV := Lib.hid hcv
        rw [hcv]
        have HC2 := Lib.hid hc
        clear hc hcv hcs hst
        go_wp2
        go_ret2
        exact ⟨HB2.out, .inr (.inl ⟨HC.out, by rw [HCS.out]; exact HC2.out, by rw [HCS.out, HCV.out]; rfl⟩)⟩
      have HST0 : Hid (newK s.pods (s.nodes.drop (k + 1)) = newK s.pods s.nodes) := by rw [← HKN.out, HST.out, if_neg (by simp [hc])]; exact Lib.hid rfl
      rw [hc, codeV_zero]
      clear hc HST HKN
      go_wp2
      go_roundw
      case rel => exact ⟨k + 1, by omega, by go_num, HST0.out, HK2.out, by have h1 := HX2.out; rw [HKA.out] at h1; exact h1, HB2.out⟩
      case measure => simp [intOf]; omega
    · have hkm : k = s.nodes.length := by omega
      have h0 : newK s.pods s.nodes = 0 := by rw [← HKN.out, hkm, List.drop_length]; rfl
      obtain ⟨hcc, hcd⟩ := HNK.out.2 h0
      have HRO : Hid ((roomOf s.nodes s.pods).1 = 0) := Lib.hid ((new_room HFK.out.n HFP.out s.nodes 0 (fun _ h => h)).symm.trans h0)
      have HCC : Hid (comesC (zmOf s.nodes) zeroC s.pods = cntOf (zmOf s.nodes) s.pods) := Lib.hid hcc
      have HCD : Hid (codeS s.nodes s.loads x (firstD s) = faultK s.nodes (cntOf (zmOf s.nodes) s.pods) s.loads x 0 0) := Lib.hid hcd
      have hsepk := HK.out.k.sep
      have HCO := Lib.hid (come_walk (M := K.M) (n := 0) (C := zeroC) (zm := zmOf s.nodes) (l := s.pods) hsepk.m HA.out.ok.2.2 (fun k => zer_ok) (zm_64 HFK.out.n) K.a4 s.pods.length K.c4 rfl (by have := HA.out.s3.2.1; omega) (by have := HA.out.s3.2.1; unfold maxLen; omega) wr.drew HK.out.k.drew.cnt HK.out.k.drew.zone HK.out.k.drew.pods.out.2.2.2 (fun a ha e => (hsepk.g a ha).2 (List.mem_cons_of_mem _ e)))
      have k14 : wr.drew.cell? ⟨K.kb, 10, none⟩ = some (.map (some K.M.z)) ∧ wr.drew.cell? ⟨K.kb, 11, none⟩ = some (.map (some K.M.u)) ∧ wr.drew.cell? ⟨K.kb, 12, none⟩ = some (.map (some K.M.a)) ∧ wr.drew.cell? ⟨K.kb, 13, none⟩ = some (.map (some K.M.i)) ∧ wr.drew.cell? ⟨K.kb, 14, none⟩ = some (.map (some K.M.s)) ∧ wr.drew.cell? ⟨K.kb, 6, none⟩ = some (.slice K.a4 s.pods.length K.c4) := (by obtain ⟨-, -, ⟨t0, -, -⟩, -, ⟨q0, q1, q2, q3, q4⟩, -⟩ := HK.out.k.facts; exact ⟨q0, q1, q2, q3, q4, t0⟩)
      clear h0 hcc hcd hsepk HNK HKN
      go_upto_region 14 with fail
      go_region_held3 (fun w' => w'.cell? ⟨K.kb, 10, none⟩ = some (.map (some K.M.z)) ∧ w'.cell? ⟨K.kb, 11, none⟩ = some (.map (some K.M.u)) ∧ w'.cell? ⟨K.kb, 12, none⟩ = some (.map (some K.M.a)) ∧ w'.cell? ⟨K.kb, 13, none⟩ = some (.map (some K.M.i)) ∧ w'.cell? ⟨K.kb, 14, none⟩ = some (.map (some K.M.s)) ∧ w'.cell? ⟨K.kb, 6, none⟩ = some (.slice K.a4 s.pods.length K.c4))
        (first | with_reducible assumption | ((repeat' apply And.intro) <;> with_reducible assumption) | go_keep)
        (first
          | (go_at_call 31; refine HCO.out.mono ?_; rintro e w14 ⟨rfl, hc14, ho14⟩; have HK4 := Lib.hid (HK.out.k.drew.maps hc14 ho14); have HX4 := Lib.hid ((HX.out.drew).only ho14 (four_far HK.out (by omega))); have HB4 := Lib.hid (HBW.out.drew.trans (ho14.below HBW.out.drew.size (four_le HK.out))); have hsz14 : wr.heap.size ≤ w14.heap.size := ho14.size; have k15 : w14.cell? ⟨K.kb, 10, none⟩ = some (.map (some K.M.z)) ∧ w14.cell? ⟨K.kb, 11, none⟩ = some (.map (some K.M.u)) ∧ w14.cell? ⟨K.kb, 12, none⟩ = some (.map (some K.M.a)) ∧ w14.cell? ⟨K.kb, 13, none⟩ = some (.map (some K.M.i)) ∧ w14.cell? ⟨K.kb, 14, none⟩ = some (.map (some K.M.s)) ∧ w14.cell? ⟨K.kb, 6, none⟩ = some (.slice K.a4 s.pods.length K.c4) := (by obtain ⟨-, -, ⟨t0, -, -⟩, -, ⟨q0, q1, q2, q3, q4⟩, -⟩ := HK4.out.facts; exact ⟨q0, q1, q2, q3, q4, t0⟩)))
      have HK5 : Hid (Kc K s x s.pods 0 0 (cntOf (zmOf s.nodes) s.pods) (0 + 2 * s.pods.length) 0 w14) := by have h1 := HK4.out; rw [HCC.out] at h1; exact Lib.hid h1
      have HFT := Lib.hid (fault_any s.loads K.a2 s.loads.length K.c2 w14 HK5.out HFK.out.n (cntOk_of HFK.out.n HFP.out HRO.out) HFK.out.lo rfl (by have := HFK.out.l.len; omega) HK5.out.r2)
      obtain ⟨b0, b1, b2, b3⟩ := HX4.out.cells3
      clear k14 k15 HCO HK4
      generalize faultK s.nodes (cntOf (zmOf s.nodes) s.pods) s.loads x 0 0 = fz at *
      go_wp2_with fail
      refine HFT.out.mono ?_
      rintro e w15 ⟨rfl, hb15⟩
      have HB5 := Lib.hid (HB4.out.trans (hb15.mono HB4.out.size))
      have HK6 := Lib.hid (HK5.out.below hb15)
      have hsz15 : wr.heap.size ≤ w15.heap.size := Nat.le_trans hsz14 hb15.size
      clear hb15 b0 b1 b2 b3 HFT
      by_cases hc : fz = 0
      case neg =>
        have HCS := HCD
        have hcv := codeV_pos hc
        have HCV := Lib.hid hcv
        rw [hcv]
        have HC2 := Lib.hid hc
        clear hc hcv
        go_wp2
        go_ret2
        exact ⟨HB5.out, .inr (.inl ⟨HC.out, by rw [HCS.out]; exact HC2.out, by rw [HCS.out, HCV.out]; rfl⟩)⟩
      have HCE : Hid (codeS s.nodes s.loads x (firstD s) = 0) := Lib.hid (HCD.out.trans hc)
      rw [hc, codeV_zero]
      clear hc
      go_wp2
      go_ret2
      exact ⟨HB5.out, .inr (.inr ⟨HC.out, HCE.out, K, rfl, kp_first HK.out HK6.out (by have := HA.out.s3.2.1; omega) hsz15 HFP.out HCE.out, fun i hi => by have := HK.out.far i (List.mem_cons_of_mem _ hi); omega, HFK.out⟩)⟩
end Go.Proofs.YtpfjeoldgcepnaaGreatDoor
