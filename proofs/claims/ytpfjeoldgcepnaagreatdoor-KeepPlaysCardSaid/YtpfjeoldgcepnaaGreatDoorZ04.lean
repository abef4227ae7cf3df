/- Joined texts, part 4: VA WM DB DE. -/
import Derived.Maps.OwnSet
import Derived.Maps.RangeWalk
import Derived.WideKeyEntry
import Derived.Test.YtpfjeoldgcepnaaGreatDoorZ01
import Derived.Test.YtpfjeoldgcepnaaGreatDoorZ03
import Derived.IntWalk

/- A map that the call has: what it answers; nothing has turned but some blocks; the look-up and the store at the operation. -/
namespace Go.Proofs.YtpfjeoldgcepnaaGreatDoor
set_option linter.unusedSimpArgs false
open Go.RowKit Go.ChangeMaps Go.MapKept Go.WideShapes
open Go.WideElems (Fit rd rg pl rd_key rd_val rg_of)
open Go.Maps (Keyed)
set_option linter.unusedVariables false

/-- An element that is not read. -/
def noRead (v : Value) : Option (DataW Unit × List MemPlace) := some (.nil, [])
/-- Block b is a map of at most n entries that answers f: z where nothing is laid. -/
def Tells (P : Program) (k : TypeId) (z : Value) (b n : Nat) (f : Value → Value) (w : World) : Prop :=
  ∃ es clock, w.heap[b]? = some (.map es clock) ∧ Fit P k noRead es clock ∧ es.size ≤ n ∧ (∀ x ∈ es.toList, f x.key = x.val) ∧ ∀ key kl, keyOf P k key = some kl → (∀ x ∈ es.toList, x.key ≠ key) → f key = z
/-- Nothing has turned but these blocks. -/
structure Only (S : List Nat) (w w' : World) : Prop where
  os : w'.os = w.os
  tape : w'.tape = w.tape
  output : w'.output = w.output
  size : w.heap.size ≤ w'.heap.size
  block : ∀ i, i < w.heap.size → i ∉ S → w'.heap[i]? = w.heap[i]?
theorem Only.refl (S : List Nat) (w : World) : Only S w w := ⟨rfl, rfl, rfl, Nat.le_refl _, fun _ _ _ => rfl⟩
theorem Only.trans {S : List Nat} {a b c : World} (h : Only S a b) (k : Only S b c) : Only S a c :=
  ⟨k.os.trans h.os, k.tape.trans h.tape, k.output.trans h.output, Nat.le_trans h.size k.size, fun i hi hn => (k.block i (Nat.lt_of_lt_of_le hi h.size) hn).trans (h.block i hi hn)⟩
theorem Only.mono {S T : List Nat} {w w' : World} (h : Only S w w') (hs : ∀ i ∈ S, i ∈ T) : Only T w w' := ⟨h.os, h.tape, h.output, h.size, fun i hi hn => h.block i hi (fun e => hn (hs i e))⟩
theorem Only.drew {S : List Nat} {a w : World} (h : Only S a w) : Only S a w.drew := ⟨h.os, h.tape, h.output, h.size, h.block⟩
theorem Only.of_below {S : List Nat} {B : Nat} {w w' : World} (h : Below B w w') (hB : ∀ i, B ≤ i → i < w.heap.size → i ∈ S) : Only S w w' :=
  ⟨h.os, h.tape, h.output, h.size, fun i hi hn => h.block i (Nat.lt_of_not_le fun e => hn (hB i e hi))⟩
theorem Only.below {S : List Nat} {B : Nat} {w w' : World} (h : Only S w w') (hB : B ≤ w.heap.size) (hS : ∀ i ∈ S, B ≤ i) : Below B w w' :=
  ⟨h.os, h.tape, h.output, h.size, fun i hi => h.block i (by omega) (fun e => by have := hS i e; omega)⟩
theorem Only.alloc {S : List Nat} {a w : World} (h : Only S a w) (o : Obj) : Only S a (w.alloc o) := h.trans (.of_below ((Below.refl _ w).alloc (Nat.le_refl _) o) (fun i h1 h2 => by omega))
theorem Only.grown {S : List Nat} {b : Nat} {w w' : World} (h : w.grownBy w' (some b)) (hb : b ∈ S) : Only S w w' :=
  ⟨h.os, h.tape, h.output, h.size, fun i hi hn => h.block i hi (fun e => hn (by cases e; exact hb))⟩
theorem Only.setCell {S : List Nat} {a w : World} (h : Only S a w) {p : Addr} (hp : p.block ∈ S) (u : Value) : Only S a (w.setCell p u) :=
  h.trans ⟨rfl, rfl, rfl, by simp, fun i hi hn => Below.heap_setCell w p u i (fun e => hn (e ▸ hp))⟩
theorem Only.cell {S : List Nat} {w w' : World} (h : Only S w w') {p : Addr} (hp : p.block < w.heap.size) (hn : p.block ∉ S) : w'.cell? p = w.cell? p := World.cell?_of_block (w := w) (h.block p.block hp hn)
theorem Only.frozen {S : List Nat} {w w' : World} (h : Only S w w') {p : Addr} (hp : p.block < w.heap.size) (hn : p.block ∉ S) : w'.frozen? p = w.frozen? p := World.frozen?_of_block (w := w) (h.block p.block hp hn)

section
variable {P : Program} {k e : TypeId} {z : Value} {b n : Nat} {f : Value → Value} {w : World}
theorem Tells.made (w : World) (P : Program) (k : TypeId) (z : Value) : Tells P k z w.heap.size 0 (fun _ => z) (w.alloc (.map #[] 0)) :=
  ⟨#[], 0, (MapKept.heap_alloc w _).1, ⟨by simp, stamped_empty 0, by simp⟩, Nat.le_refl _, by simp, fun _ _ _ _ => rfl⟩
theorem Tells.mono (h : Tells P k z b n f w) {n' : Nat} (hn : n ≤ n') : Tells P k z b n' f w := by
  obtain ⟨es, clock, h1, h2, h3, h4⟩ := h
  exact ⟨es, clock, h1, h2, Nat.le_trans h3 hn, h4⟩
theorem Tells.lt (h : Tells P k z b n f w) : b < w.heap.size := by
  obtain ⟨es, clock, hb, _⟩ := h
  exact (Array.getElem?_eq_some_iff.1 hb).1
theorem Tells.kept {w' : World} {S : List Nat} (h : Tells P k z b n f w) (hg : Only S w w') (hne : b ∉ S) : Tells P k z b n f w' := by
  have hlt := h.lt
  obtain ⟨es, clock, hb, r⟩ := h
  exact ⟨es, clock, (hg.block b hlt hne).trans hb, r⟩
theorem Tells.below {w' : World} {B : Nat} (h : Tells P k z b n f w) (hg : Below B w w') (hne : b < B) : Tells P k z b n f w' := by
  obtain ⟨es, clock, hb, r⟩ := h
  exact ⟨es, clock, (hg.block b hne).trans hb, r⟩
theorem Tells.turn {g : Value → Value} (h : Tells P k z b n f w) (he : f = g) : Tells P k z b n g w := he ▸ h
theorem Tells.lookup {t : TypeId} (h : Tells P k z b n f w) (K : Keyed P k) (ht : P.underlying t = some (.map k e)) (hz : (zeroValue e).run P w = .ok z w) {key : Value} {kl : Lit} (hkey : keyOf P k key = some kl) :
    (Instr.lookup t (.map (some b)) key false).run P w = .ok (f key) w := by
  obtain ⟨es, clock, hb, F, _, h1, h2⟩ := h
  rcases Maps.fit_look false K ht hz hb F hkey with ⟨hrun, hno, _⟩ | ⟨e0, y, hm, hk, hrun, _⟩
  · rw [h2 key kl hkey hno]; exact hrun
  · rw [← hk, h1 e0 hm]; rw [hk]; exact hrun
theorem Tells.store {t : TypeId} (h : Tells P k z b n f w) (K : Keyed P k) (ht : P.underlying t = some (.map k e)) (hn : n < maxLen) {key : Value} (val : Value) {kl : Lit} (hkey : keyOf P k key = some kl) {g : Value → Value} (hg : g key = val) (ho : ∀ x, x ≠ key → g x = f x) :
    ∃ w', (Instr.mapUpdate t (.map (some b)) key val).run P w = .ok () w' ∧ Tells P k z b (n + 1) g w' ∧ w.grownBy w' (some b) := by
  obtain ⟨es, clock, hb, F, hs, h1, h2⟩ := h
  obtain ⟨es', clock', hrun, F', hput, _, _, hwho⟩ := Maps.fit_store (R' := noRead) K ht hb F (Nat.lt_of_le_of_lt hs hn) (fun _ _ _ _ hz => hz) hkey (yv := (.nil, [])) (by rfl : noRead val = some (.nil, []))
  have hmem : ∀ p : Lit × DataW Unit, p ∈ es'.toList.map (rg P k noRead) ↔ p ∈ putKey kl .nil ((es.toList.map (rg P k noRead)).foldr DataW.insert []) := fun p => by
    rw [← hput]; exact mem_sorted.symm
  have hof : ∀ (A : Array MapEntry) (c : Nat), Fit P k noRead A c → ∀ x ∈ A.toList, ∃ l, keyOf P k x.key = some l ∧ rg P k noRead x = (l, .nil) := fun A c FA x hx => by
    obtain ⟨y, hy⟩ := FA.reads x hx
    obtain ⟨zz, hz, hd⟩ := rd_val hy
    refine ⟨y.1, rd_key hy, ?_⟩
    rw [rg_of hy]
    have : zz = (.nil, []) := (Option.some.inj hz).symm
    subst this
    exact Prod.ext rfl (by first | exact hd | exact hd.symm)
  refine ⟨_, hrun, ⟨es', clock', heap_setBlock_same hb _, F', ?_, ?_, ?_⟩, ⟨rfl, rfl, rfl, by simp [setBlock], fun i _ hi => heap_setBlock_other hb _ (fun e => hi (by rw [e]))⟩⟩
  · have e1 : es'.size = ((es'.toList.map (rg P k noRead)).foldr DataW.insert []).length := by rw [length_sorted]; simp
    rw [e1, hput]
    unfold putKey
    rw [length_insert]
    have e2 := List.length_filter_le (notKey kl) ((es.toList.map (rg P k noRead)).foldr DataW.insert [])
    rw [length_sorted] at e2
    simp at e2
    omega
  · intro x hx
    rcases hwho x hx with ⟨hx1, hx2⟩ | ⟨hx1, hx2⟩
    · rw [ho _ hx2]; exact h1 x hx1
    · rw [hx1, hx2]; exact hg
  · intro key2 kl2 hk2 hno
    have hne : key2 ≠ key := by
      intro e2
      subst e2
      rw [hkey] at hk2
      cases hk2
      have hin : (kl, DataW.nil) ∈ es'.toList.map (rg P k noRead) := (hmem _).2 (mem_insert_iff.2 (.inl rfl))
      obtain ⟨x, hx, hxe⟩ := List.mem_map.1 hin
      obtain ⟨l, hl, hl2⟩ := hof _ _ F' x hx
      rw [hl2] at hxe
      cases hxe
      exact hno x hx (K.inj hl hkey)
    rw [ho _ hne]
    refine h2 key2 kl2 hk2 fun x hx e2 => ?_
    obtain ⟨l, hl, hl2⟩ := hof _ _ F x hx
    have hll : l = kl2 := by rw [e2, hk2] at hl; exact (Option.some.inj hl).symm
    subst hll
    have hin : (l, DataW.nil) ∈ es'.toList.map (rg P k noRead) := by
      refine (hmem _).2 (mem_insert_iff.2 (.inr (List.mem_filter.2 ⟨mem_sorted.2 (List.mem_map.2 ⟨x, hx, hl2⟩), ?_⟩)))
      refine (Maps.notKey_iff (K.key hkey)).2 fun e3 => hne ?_
      have e4 : l = kl := e3
      rw [e4] at hk2
      exact K.inj hk2 hkey
    obtain ⟨x', hx', hxe⟩ := List.mem_map.1 hin
    obtain ⟨l', hl', hl2'⟩ := hof _ _ F' x' hx'
    rw [hl2'] at hxe
    cases hxe
    exact hno x' hx' (K.inj hl' hk2)
end

section
variable {P : Program} (w : World) {ops : Array Oper} {rest : List Oper} {o : Oper} {a : Act} {Q : Exit → Act → World → Prop}
/-- A store, at the operation. -/
theorem wpList_update_tells (hg : o.guard = none) (m x v : Operand) (t : TypeId) (hop : o.op = Op.mapUpdate t m x v)
    (k e : TypeId) (K : Keyed P k) (ht : P.underlying t = some (.map k e)) (z : Value) (b n : Nat) (f : Value → Value)
    (hm : a.eval m = .map (some b)) (h : Tells P k z b n f w) (hn : n < maxLen) (key val : Value) (kl : Lit) (hx : a.eval x = key) (hv : a.eval v = val) (hkey : keyOf P k key = some kl) (g : Value → Value) (hgk : g key = val) (hgo : ∀ x, x ≠ key → g x = f x)
    (hK : ∀ w', Tells P k z b (n + 1) g w' → w.grownBy w' (some b) → wpList P ops Q rest (a.put o.dst undef) w') : wpList P ops Q (o :: rest) a w := by
  refine wpList_plain hg fun K' hK' => ?_
  obtain ⟨w', hrun, r1, r2⟩ := h.store K ht hn val hkey hgk hgo
  unfold Oper.wp
  simp [execOp, hop, hm, hx, hv, hrun, Result.andThen]
  exact hK' _ _ (hK w' r1 r2)
end
section
variable {P : Program} {k e : TypeId} {z : Value} {b n : Nat} {f : Value → Value} {w : World}
theorem setBlock_twice (w : World) (b : Nat) (x y : Obj) : setBlock (setBlock w b x) b y = setBlock w b y := by simp [setBlock]
/-- An entry is made ready, and then stored into. -/
theorem Tells.entry {t : TypeId} (h : Tells P k z b n f w) (K : Go.WideMaps.KeyLaw P k) (ht : P.underlying t = some (.map k e)) (hz : ∀ u : World, (zeroValue e).run P u = .ok z u) (hn : n < maxLen) {key : Value} {kl : Lit} (hkey : keyOf P k key = some kl) :
    ∃ (st : Nat) (w1 : World), (Instr.mapEntry t (.map (some b)) key).run P w = .ok (.tuple #[f key, .int .i64 st]) w1 ∧ Tells P k z b (n + 1) f w1 ∧ w.grownBy w1 (some b) ∧
      ∀ (val : Value) (g : Value → Value), g key = val → (∀ x, x ≠ key → g x = f x) → ∃ w2, (Instr.entryStore t (.map (some b)) (.int .i64 st) val).run P w1 = .ok () w2 ∧ Tells P k z b (n + 1) g w2 ∧ w.grownBy w2 (some b) := by
  have hh := h
  obtain ⟨es, clock, hb, F, hs, h1, h2⟩ := h
  obtain ⟨v0, st, es1, clock1, hrun, hv, hst⟩ := Go.WideElems.entry_then_store K ht hz hb F hkey
  have hv0 : v0 = f key := by
    rcases hv with ⟨e0, hm, hk, rfl⟩ | ⟨hno, rfl⟩
    · rw [← hk, h1 e0 hm]
    · exact (h2 key kl hkey hno).symm
  subst hv0
  have hbw : (setBlock w b (.map es1 clock1)).heap[b]? = some (.map es1 clock1) := heap_setBlock_same hb _
  refine ⟨st, _, hrun, ?_, ⟨rfl, rfl, rfl, by simp [setBlock], fun i _ hi => heap_setBlock_other hb _ (fun e => hi (by rw [e]))⟩, fun val g hg ho => ?_⟩
  · rcases K.find w hkey es.toList F.keys with ⟨f1, f2⟩ | ⟨j, e0, f1, f2, f3⟩
    · have hzz : f key = z := h2 key kl hkey (fun x hx => f2 x hx)
      obtain ⟨w', hr, ht', _⟩ := hh.store (Keyed.of_law K) ht hn z hkey (g := f) hzz (fun _ _ => rfl)
      have hr2 : (Instr.mapUpdate t (.map (some b)) key z).run P w = .ok () (setBlock w b (.map (es.push ⟨key, z, clock⟩) (clock + 1))) := by
        simp [Instr.mapUpdate, run_underlying ht, MapKept.run_getObj_map hb, K.check w false hkey, f1, MapKept.run_setObj_map _ hb, Result.andThen, setBlock]
      have hr3 : (Instr.mapEntry t (.map (some b)) key).run P w = .ok (.tuple #[z, goInt clock]) (setBlock w b (.map (es.push ⟨key, z, clock⟩) (clock + 1))) := by
        simp [Instr.mapEntry, run_underlying ht, MapKept.run_getObj_map hb, K.check w false hkey, f1, hz, MapKept.run_setObj_map _ hb, Result.andThen, setBlock]
      rw [hr2] at hr
      rw [hr3] at hrun
      injection hr with _ hr
      injection hrun with _ hrun
      rw [← hrun, hr]
      exact ht'
    · have hj : es[j]? = some e0 := by simpa using f2
      have hsame : es.modify j (fun e => { e with key := key }) = es := by
        apply Array.ext'
        rw [Array.toList_modify, Go.ChangeMaps.modify_eq_set _ _ _ _ f2]
        have : ({ e0 with key := key } : MapEntry) = e0 := by rw [← f3]
        rw [this]
        exact Go.WideElems.set_self _ _ _ f2
      have hr3 : (Instr.mapEntry t (.map (some b)) key).run P w = .ok (.tuple #[e0.val, goInt e0.born]) (setBlock w b (.map es clock)) := by
        simp [Instr.mapEntry, run_underlying ht, MapKept.run_getObj_map hb, K.check w false hkey, f1, hj, f3, K.stays w hkey, hsame, MapKept.run_setObj_map _ hb, Result.andThen, setBlock]
      rw [hr3] at hrun
      injection hrun with _ hrun
      rw [← hrun]
      exact Tells.mono ⟨es, clock, heap_setBlock_same hb _, F, hs, h1, h2⟩ (Nat.le_succ n)
  · obtain ⟨es', clock', hst1, hst2⟩ := hst _ val hbw
    obtain ⟨w', hr, ht', hg'⟩ := hh.store (Keyed.of_law K) ht hn val hkey (g := g) hg ho
    rw [hst2] at hr
    injection hr with _ hr
    subst hr
    rw [setBlock_twice] at hst1
    exact ⟨_, hst1, ht', hg'⟩
end
end Go.Proofs.YtpfjeoldgcepnaaGreatDoor

/- Plain mathematics of nodes' room; no program stands in it. -/
namespace Go.Proofs.YtpfjeoldgcepnaaGreatDoor
set_option linter.unusedSimpArgs false
open Go.RowKit
set_option linter.unusedVariables false

def V4.add (x y : V4) : V4 := ⟨x.a + y.a, x.b + y.b, x.c + y.c, x.d + y.d⟩
def V4.sub (x y : V4) : V4 := ⟨x.a - y.a, x.b - y.b, x.c - y.c, x.d - y.d⟩
def V4.zer : V4 := ⟨0, 0, 0, 0⟩
def V4.small (x : V4) : Bool := decide (x.a < 18446744073709551616 ∧ x.b < 18446744073709551616 ∧ x.c < 18446744073709551616 ∧ x.d < 18446744073709551616)
/-- The sum, or none: it goes over. -/
def addV (x y : V4) : Option V4 := if (x.add y).small then some (x.add y) else none
/-- The difference, or none: it goes below 0. -/
def subV (x y : V4) : Option V4 := if y.le x then some (x.sub y) else none
def totV : List V4 → V4
  | [] => .zer
  | x :: r => x.add (totV r)
def sumV (l : List V4) : Option V4 := if (totV l).small then some (totV l) else none
def reqsAt (node : Int) : List PodD → List V4
  | [] => []
  | p :: r => if p.node = node then p.req :: reqsAt node r else reqsAt node r
/-- A node's use, or none: it goes over. -/
def useD (l : List PodD) (node : Int) : Option V4 := sumV (reqsAt node l)
/-- What is left of a node beside a use, or none. -/
def leftD (n : NodeD) (u : V4) : Option V4 := match subV n.cap n.held with
  | none => none
  | some f => subV f u
def nodeAt (id : Int) : List NodeD → Option NodeD
  | [] => none
  | x :: r => if x.id = id then some x else nodeAt id r
/-- A node's rest, and an error's number. -/
def restD (ns : List NodeD) (l : List PodD) (id : Int) : V4 × Int :=
  match nodeAt id ns with
  | none => (.zer, 4)
  | some n => match useD l id with
    | none => (.zer, 8)
    | some u => match leftD n u with
      | none => (.zer, 9)
      | some r => (r, 0)
def roomD (ns : List NodeD) (l : List PodD) : List NodeD → Nat → Int × Int
  | [], _ => (0, -1)
  | n :: r, k => if (restD ns l n.id).2 ≠ 0 then ((restD ns l n.id).2, (k : Int)) else roomD ns l r (k + 1)
/-- The first node at fault: an error's number, and its place. -/
def roomOf (ns : List NodeD) (l : List PodD) : Int × Int := roomD ns l ns 0

theorem rest_none {ns : List NodeD} {l : List PodD} {id : Int} (h : nodeAt id ns = none) : restD ns l id = (.zer, 4) := by simp only [restD, h]
theorem rest_over {ns : List NodeD} {l : List PodD} {id : Int} {n : NodeD} (h : nodeAt id ns = some n) (h2 : useD l id = none) : restD ns l id = (.zer, 8) := by simp only [restD, h, h2]
theorem rest_room {ns : List NodeD} {l : List PodD} {id : Int} {n : NodeD} {u : V4} (h : nodeAt id ns = some n) (h2 : useD l id = some u) (h3 : leftD n u = none) : restD ns l id = (.zer, 9) := by simp only [restD, h, h2, h3]
theorem rest_some {ns : List NodeD} {l : List PodD} {id : Int} {n : NodeD} {u r : V4} (h : nodeAt id ns = some n) (h2 : useD l id = some u) (h3 : leftD n u = some r) : restD ns l id = (r, 0) := by simp only [restD, h, h2, h3]
theorem left_none {n : NodeD} {u : V4} (h : subV n.cap n.held = none) : leftD n u = none := by simp only [leftD, h]
theorem left_some {n : NodeD} {u f : V4} (h : subV n.cap n.held = some f) : leftD n u = subV f u := by simp only [leftD, h]
theorem rest_vals (ns : List NodeD) (l : List PodD) (id : Int) : ((restD ns l id).2 = 0) ∨ ((restD ns l id).1 = .zer ∧ ((restD ns l id).2 = 4 ∨ (restD ns l id).2 = 8 ∨ (restD ns l id).2 = 9)) := by
  rcases h1 : nodeAt id ns with _ | n
  · rw [rest_none h1]; simp
  · rcases h2 : useD l id with _ | u
    · rw [rest_over h1 h2]; simp
    · rcases h3 : leftD n u with _ | r
      · rw [rest_room h1 h2 h3]; simp
      · rw [rest_some h1 h2 h3]; simp
theorem rest_zero {ns : List NodeD} {l : List PodD} {id : Int} : (restD ns l id).2 = 0 ↔ ∃ n u r, nodeAt id ns = some n ∧ useD l id = some u ∧ leftD n u = some r ∧ restD ns l id = (r, 0) := by
  constructor
  · intro h
    rcases h1 : nodeAt id ns with _ | n
    · rw [rest_none h1] at h; cases h
    · rcases h2 : useD l id with _ | u
      · rw [rest_over h1 h2] at h; cases h
      · rcases h3 : leftD n u with _ | r
        · rw [rest_room h1 h2 h3] at h; cases h
        · exact ⟨n, u, r, rfl, rfl, h3, rest_some h1 h2 h3⟩
  · rintro ⟨n, u, r, _, _, _, h⟩; rw [h]

theorem nodeAt_no {id : Int} : ∀ {l : List NodeD} {k : Int}, 0 ≤ k → place NodeD.id id l k < 0 → nodeAt id l = none
  | [], _, _, _ => rfl
  | x :: r, k, hk, h => by
    by_cases e : x.id = id
    · simp [place, e] at h; omega
    · simp only [place, if_neg e] at h
      simp only [nodeAt, if_neg e]
      exact nodeAt_no (k := k + 1) (by omega) h
theorem nodeAt_yes {id : Int} : ∀ {l : List NodeD} {k : Int} {i : Nat} (h : i < l.length), 0 ≤ k → place NodeD.id id l k = k + i → nodeAt id l = some l[i]
  | [], _, _, h, _, _ => by simp at h
  | x :: r, k, i, h, hk, hp => by
    by_cases e : x.id = id
    · simp only [place, if_pos e] at hp
      obtain rfl : i = 0 := by omega
      simp [nodeAt, e]
    · simp only [place, if_neg e] at hp
      cases i with
      | zero => have := place_ge (f := NodeD.id) (id := id) (l := r) (k := k + 1) (by omega); rw [hp] at this; exfalso
                have h2 : k + 1 ≤ place NodeD.id id r (k + 1) ∨ place NodeD.id id r (k + 1) < 0 := by
                  by_cases hn : place NodeD.id id r (k + 1) < 0
                  · exact .inr hn
                  · left
                    have : ∀ (r : List NodeD) (k : Int), 0 ≤ k → place NodeD.id id r k < 0 ∨ k ≤ place NodeD.id id r k := by
                      intro r
                      induction r with
                      | nil => intro k _; left; simp [place]
                      | cons y r ih => intro k hk; by_cases e : y.id = id <;> simp only [place, e, if_true, if_false]; exact .inr (Int.le_refl _); rcases ih (k + 1) (by omega) with h | h; exact .inl h; exact .inr (by omega)
                    rcases this r (k + 1) (by omega) with h | h
                    · exact absurd h hn
                    · exact h
                omega
      | succ i =>
        simp only [nodeAt, if_neg e]
        rw [nodeAt_yes (l := r) (k := k + 1) (i := i) (by simpa using h) (by omega) (by omega)]
        simp
theorem roomD_at {ns : List NodeD} {l : List PodD} {m : List NodeD} {k : Nat} {p : Int × Int} (h : k < m.length) {n : NodeD} (hn : m[k] = n) (hp : roomD ns l (m.drop k) k = p) :
    ((restD ns l n.id).2 ≠ 0 → p = ((restD ns l n.id).2, (k : Int))) ∧ ((restD ns l n.id).2 = 0 → roomD ns l (m.drop (k + 1)) (k + 1) = p) := by
  rw [List.drop_eq_getElem_cons h, hn, roomD] at hp
  constructor
  · intro e; rw [if_pos e] at hp; exact hp.symm
  · intro e; rw [if_neg (by simpa using e)] at hp; exact hp
theorem roomD_end {ns : List NodeD} {l : List PodD} {m : List NodeD} {k : Nat} {p : Int × Int} (h : m.length ≤ k) (hp : roomD ns l (m.drop k) k = p) : p = (0, -1) := by
  rw [List.drop_of_length_le h, roomD] at hp; exact hp.symm
theorem roomD_all {ns : List NodeD} {l : List PodD} : ∀ {m : List NodeD} {k : Nat}, (roomD ns l m k).1 = 0 ↔ ∀ n ∈ m, (restD ns l n.id).2 = 0
  | [], _ => by simp [roomD]
  | n :: r, k => by
    by_cases e : (restD ns l n.id).2 = 0
    · simp [roomD, e, roomD_all (m := r) (k := k + 1)]
    · simp [roomD, e]
theorem add_small {x y z : V4} (h : addV x y = some z) : z = x.add y ∧ (x.add y).small = true := by
  unfold addV at h
  split at h
  · rename_i hs; exact ⟨(Option.some.inj h).symm, hs⟩
  · cases h
theorem sub_le {x y z : V4} (h : subV x y = some z) : z = x.sub y ∧ y.le x = true := by
  unfold subV at h
  split at h
  · rename_i hs; exact ⟨(Option.some.inj h).symm, hs⟩
  · cases h
theorem sub_ok4 {x y z : V4} (hx : x.Ok) (hy : y.Ok) (h : subV x y = some z) : z.Ok := by
  obtain ⟨rfl, hl⟩ := sub_le h
  simp only [V4.le, decide_eq_true_eq] at hl
  simp only [V4.Ok, U64, V4.sub] at *
  omega
theorem add_ok4 {x y z : V4} (hx : x.Ok) (hy : y.Ok) (h : addV x y = some z) : z.Ok := by
  obtain ⟨rfl, hl⟩ := add_small h
  simp only [V4.small, decide_eq_true_eq] at hl
  simp only [V4.Ok, U64, V4.add] at *
  omega
theorem tot_pos : ∀ {l : List V4}, (∀ x ∈ l, x.Ok) → 0 ≤ (totV l).a ∧ 0 ≤ (totV l).b ∧ 0 ≤ (totV l).c ∧ 0 ≤ (totV l).d
  | [], _ => by simp [totV, V4.zer]
  | x :: r, h => by
    have h1 := tot_pos (l := r) (fun y hy => h y (List.mem_cons_of_mem _ hy))
    have h2 := h x (List.mem_cons_self ..)
    simp only [V4.Ok, U64] at h2
    simp only [totV, V4.add]
    omega
theorem sum_ok4 {l : List V4} {u : V4} (h : ∀ x ∈ l, x.Ok) (hu : sumV l = some u) : u.Ok := by
  have hp := tot_pos h
  unfold sumV at hu
  split at hu
  · rename_i hs
    have := Option.some.inj hu
    subst this
    simp only [V4.small, decide_eq_true_eq] at hs
    simp only [V4.Ok, U64]
    omega
  · cases hu
theorem reqs_ok {node : Int} : ∀ {l : List PodD}, (∀ p ∈ l, p.Ok) → ∀ x ∈ reqsAt node l, x.Ok
  | [], _, x, hx => by simp [reqsAt] at hx
  | p :: r, h, x, hx => by
    unfold reqsAt at hx
    split at hx
    · rcases List.mem_cons.1 hx with rfl | hx
      · exact (h p (List.mem_cons_self ..)).2.2.2.1
      · exact reqs_ok (fun q hq => h q (List.mem_cons_of_mem _ hq)) x hx
    · exact reqs_ok (fun q hq => h q (List.mem_cons_of_mem _ hq)) x hx
theorem use_ok {l : List PodD} {node : Int} {u : V4} (h : ∀ p ∈ l, p.Ok) (hu : useD l node = some u) : u.Ok := sum_ok4 (reqs_ok h) hu
theorem reqs_len (node : Int) : ∀ l : List PodD, (reqsAt node l).length ≤ l.length
  | [] => Nat.le_refl _
  | p :: r => by
    have := reqs_len node r
    unfold reqsAt
    split <;> simp <;> omega
theorem reqs_append (node : Int) : ∀ (l m : List PodD), reqsAt node (l ++ m) = reqsAt node l ++ reqsAt node m
  | [], m => rfl
  | p :: r, m => by
    rw [List.cons_append, reqsAt, reqsAt, reqs_append node r m]
    split <;> simp
theorem reqs_take {node : Int} {l : List PodD} {k : Nat} (h : k < l.length) {p : PodD} (hp : l[k] = p) :
    (p.node = node → reqsAt node (l.take (k + 1)) = reqsAt node (l.take k) ++ [p.req]) ∧ (p.node ≠ node → reqsAt node (l.take (k + 1)) = reqsAt node (l.take k)) := by
  rw [List.take_succ_eq_append_getElem h, reqs_append, hp]
  constructor
  · intro e; simp [reqsAt, e]
  · intro e; simp [reqsAt, e]
theorem le_trans4 {x y z : V4} (h : x.le y = true) (h2 : y.le z = true) : x.le z = true := by
  simp only [V4.le, decide_eq_true_eq] at *; omega
theorem tot_append : ∀ (l m : List V4), totV (l ++ m) = (totV l).add (totV m)
  | [], m => by simp [totV, V4.add, V4.zer]
  | x :: r, m => by rw [List.cons_append, totV, tot_append r m]; simp [totV, V4.add, Int.add_assoc]
theorem left_less {n : NodeD} {u u' r : V4} (hu : u'.le u = true) (h : leftD n u = some r) : ∃ r', leftD n u' = some r' := by
  unfold leftD at h ⊢
  split at h
  · cases h
  · rename_i f hf
    obtain ⟨_, hl⟩ := sub_le h
    exact ⟨f.sub u', by unfold subV; rw [if_pos (le_trans4 hu hl)]⟩
end Go.Proofs.YtpfjeoldgcepnaaGreatDoor

/- The program's orderFault and idFault, at each kind of record. -/
namespace Go.Proofs.YtpfjeoldgcepnaaGreatDoor
set_option linter.unusedSimpArgs false
open Go.RowKit
set_option linter.unusedVariables false

/-- What a region with loads and calls keeps: all blocks that there were are as they were. -/
def Keeps (W : World) (w' : World) : Prop := (∀ b o, b < W.heap.size → w'.cell? ⟨b, o, none⟩ = W.cell? ⟨b, o, none⟩) ∧ Below W.heap.size W w'
theorem Keeps.of {W v : World} (k : Below W.heap.size W v) : Keeps W v := ⟨fun b o h => k.cell (p := ⟨b, o, none⟩) h, k⟩
theorem Keeps.step {W v v' : World} (h : Keeps W v) (hb : Below v.heap.size v v') : Keeps W v' := Keeps.of (h.2.trans (hb.mono h.2.size))
theorem Keeps.alloc {W v : World} (h : Keeps W v) (o : Obj) : Keeps W (v.alloc o) := Keeps.of (h.2.alloc h.2.size o)
theorem Keeps.refl (W : World) : Keeps W W := Keeps.of (Below.refl _ _)
theorem Keeps.drew {W v : World} (h : Keeps W v) : Keeps W v.drew := Keeps.of (Below.drew h.2)
theorem Keeps.set {W v : World} {p : Addr} (h : Keeps W v) (hp : W.heap.size ≤ p.block) (x : Value) : Keeps W (v.setCell p x) := Keeps.of (h.2.setCell hp x)

/-- What is amiss with an Id beside the one ahead. -/
def ordI (last n : Int) : Int := if n = last then 5 else if n < last then 1 else 0
def idI (order n : Int) : Int := if order = 0 then (if inB n 1 2147483647 = true then 0 else 1) else order

set_option maxHeartbeats 1600000 in
theorem orderN_first (A : Option Addr) (n c : Nat) (f : Value) (w : World) :
    Calls Tryz.prog 147 #[.slice A n c, .int .i64 0, f] w fun e w' => e = .returned (.int .i64 0) ∧ w = w' := by
  go_enter Tryz.func147, Tryz.ntmps147
  go_wp2
  go_ret
  exact ⟨rfl, rfl⟩
set_option maxHeartbeats 3200000 in
set_option maxRecDepth 100000 in
theorem orderN_next (l : List NodeD) (j : Nat) (A : Option Addr) (n c : Nat) (w : World) (hn : n = l.length) (hl : n ≤ 1000) (hj : j + 1 < l.length) (hr : Recs 10 cellsN w w.heap.size A l) :
    Calls Tryz.prog 147 #[.slice A n c, .int .i64 ((j : Int) + 1), .func (.func 88) #[] #[]] w fun e w' => e = .returned (.int .i64 (ordI l[j].id l[j + 1].id)) ∧ Below w.heap.size w w' := by
  obtain ⟨b, o, rfl, hb, he⟩ := hr.at hj
  obtain ⟨b', o', h1, _, hf⟩ := hr.at (show j < l.length by omega)
  injection h1 with h1
  injection h1 with h1 h2 _
  subst h1 h2
  generalize l[j + 1] = x at *
  generalize l[j] = y at *
  have e0 : w.cell? ⟨b, o + (j + 1) * 10, none⟩ = some (.int .i64 x.id) := he 0 _ rfl
  have e1 : w.cell? ⟨b, o + (j + 1) * 10 + 1, none⟩ = some (.int .i64 x.zone) := he 1 _ rfl
  have e2 : w.cell? ⟨b, o + (j + 1) * 10 + 2, none⟩ = some (.int .u64 x.cap.a) := he 2 _ rfl
  have e3 : w.cell? ⟨b, o + (j + 1) * 10 + 3, none⟩ = some (.int .u64 x.cap.b) := he 3 _ rfl
  have e4 : w.cell? ⟨b, o + (j + 1) * 10 + 4, none⟩ = some (.int .u64 x.cap.c) := he 4 _ rfl
  have e5 : w.cell? ⟨b, o + (j + 1) * 10 + 5, none⟩ = some (.int .u64 x.cap.d) := he 5 _ rfl
  have e6 : w.cell? ⟨b, o + (j + 1) * 10 + 6, none⟩ = some (.int .u64 x.held.a) := he 6 _ rfl
  have e7 : w.cell? ⟨b, o + (j + 1) * 10 + 7, none⟩ = some (.int .u64 x.held.b) := he 7 _ rfl
  have e8 : w.cell? ⟨b, o + (j + 1) * 10 + 8, none⟩ = some (.int .u64 x.held.c) := he 8 _ rfl
  have e9 : w.cell? ⟨b, o + (j + 1) * 10 + 9, none⟩ = some (.int .u64 x.held.d) := he 9 _ rfl
  have f0 : w.cell? ⟨b, o + j * 10, none⟩ = some (.int .i64 y.id) := hf 0 _ rfl
  have f1 : w.cell? ⟨b, o + j * 10 + 1, none⟩ = some (.int .i64 y.zone) := hf 1 _ rfl
  have f2 : w.cell? ⟨b, o + j * 10 + 2, none⟩ = some (.int .u64 y.cap.a) := hf 2 _ rfl
  have f3 : w.cell? ⟨b, o + j * 10 + 3, none⟩ = some (.int .u64 y.cap.b) := hf 3 _ rfl
  have f4 : w.cell? ⟨b, o + j * 10 + 4, none⟩ = some (.int .u64 y.cap.c) := hf 4 _ rfl
  have f5 : w.cell? ⟨b, o + j * 10 + 5, none⟩ = some (.int .u64 y.cap.d) := hf 5 _ rfl
  have f6 : w.cell? ⟨b, o + j * 10 + 6, none⟩ = some (.int .u64 y.held.a) := hf 6 _ rfl
  have f7 : w.cell? ⟨b, o + j * 10 + 7, none⟩ = some (.int .u64 y.held.b) := hf 7 _ rfl
  have f8 : w.cell? ⟨b, o + j * 10 + 8, none⟩ = some (.int .u64 y.held.c) := hf 8 _ rfl
  have f9 : w.cell? ⟨b, o + j * 10 + 9, none⟩ = some (.int .u64 y.held.d) := hf 9 _ rfl
  have hjn : (j : Int) + 1 < (n : Int) := by omega
  have hj1 : (j : Int) < (n : Int) := by omega
  have hj0 : (0 : Int) ≤ (j : Int) := by omega
  have hj2 : (0 : Int) ≤ (j : Int) + 1 := by omega
  have hjk : (j : Int) + 1 ≤ 1000 := by omega
  have hjz : ((j : Int) + 1 == 0) = false := by rw [beq_eq_false_iff_ne]; omega
  have s1 : IntKind.i64.wrap ((j : Int) + 1 - 1) = (j : Int) := by rw [IntWalk.i64_in _ (by omega)]; omega
  have s2 : IntKind.i64.wrap (j : Int) = (j : Int) := IntWalk.i64_in _ (by omega)
  have s3 : ((j : Int) + 1).toNat = j + 1 := by omega
  clear he hf hn hr hj
  by_cases hlt : x.id < y.id
  · have HE := Lib.hid (show ordI y.id x.id = 1 by unfold ordI; rw [if_neg (by omega), if_pos hlt])
    have HC : cmpI x.id y.id = -1 := by unfold cmpI; rw [if_pos hlt]
    go_enter Tryz.func147, Tryz.ntmps147
    go_wp2
    go_region_held3 (fun w' => (∀ b o, b < w.heap.size → w'.cell? ⟨b, o, none⟩ = w.cell? ⟨b, o, none⟩) ∧ Below w.heap.size w w')
      (first | (with_reducible assumption) | exact Keeps.of (Below.drew (Below.refl _ _)) | exact Keeps.step (by assumption) (by assumption))
      (first
        | (go_at_call 88; first
            | ((with_reducible refine (idN_any x _).mono ?_); rintro e w' ⟨rfl, hb⟩)
            | ((with_reducible refine (idN_any y _).mono ?_); rintro e w' ⟨rfl, hb⟩))
        | (go_at_call 103; (with_reducible refine (compare_any _ _ _).mono ?_); rintro e w' ⟨rfl, rfl⟩))
    clear s1 s2 s3
    go_wp2
    go_ret
    exact ⟨ret_int HE.out.symm, (by assumption : Keeps w _).2⟩
  · by_cases heq : x.id = y.id
    · have HE := Lib.hid (show ordI y.id x.id = 5 by unfold ordI; rw [if_pos heq])
      have HC : cmpI x.id y.id = 0 := by unfold cmpI; rw [if_neg hlt, if_neg (by omega)]
      clear heq
      go_enter Tryz.func147, Tryz.ntmps147
      go_wp2
      go_region_held3 (fun w' => (∀ b o, b < w.heap.size → w'.cell? ⟨b, o, none⟩ = w.cell? ⟨b, o, none⟩) ∧ Below w.heap.size w w')
        (first | (with_reducible assumption) | exact Keeps.of (Below.drew (Below.refl _ _)) | exact Keeps.step (by assumption) (by assumption))
        (first
          | (go_at_call 88; first
              | ((with_reducible refine (idN_any x _).mono ?_); rintro e w' ⟨rfl, hb⟩)
              | ((with_reducible refine (idN_any y _).mono ?_); rintro e w' ⟨rfl, hb⟩))
          | (go_at_call 103; (with_reducible refine (compare_any _ _ _).mono ?_); rintro e w' ⟨rfl, rfl⟩))
      clear s1 s2 s3
      go_wp2
      go_ret
      exact ⟨ret_int HE.out.symm, (by assumption : Keeps w _).2⟩
    · have HE := Lib.hid (show ordI y.id x.id = 0 by unfold ordI; rw [if_neg heq, if_neg hlt])
      have HC : cmpI x.id y.id = 1 := by unfold cmpI; rw [if_neg hlt, if_pos (by omega)]
      go_enter Tryz.func147, Tryz.ntmps147
      go_wp2
      go_region_held3 (fun w' => (∀ b o, b < w.heap.size → w'.cell? ⟨b, o, none⟩ = w.cell? ⟨b, o, none⟩) ∧ Below w.heap.size w w')
        (first | (with_reducible assumption) | exact Keeps.of (Below.drew (Below.refl _ _)) | exact Keeps.step (by assumption) (by assumption))
        (first
          | (go_at_call 88; first
              | ((with_reducible refine (idN_any x _).mono ?_); rintro e w' ⟨rfl, hb⟩)
              | ((with_reducible refine (idN_any y _).mono ?_); rintro e w' ⟨rfl, hb⟩))
          | (go_at_call 103; (with_reducible refine (compare_any _ _ _).mono ?_); rintro e w' ⟨rfl, rfl⟩))
      clear s1 s2 s3
      go_wp2
      go_ret
      exact ⟨ret_int HE.out.symm, (by assumption : Keeps w _).2⟩

set_option maxHeartbeats 1600000 in
theorem orderL_first (A : Option Addr) (n c : Nat) (f : Value) (w : World) :
    Calls Tryz.prog 148 #[.slice A n c, .int .i64 0, f] w fun e w' => e = .returned (.int .i64 0) ∧ w = w' := by
  go_enter Tryz.func148, Tryz.ntmps148
  go_wp2
  go_ret
  exact ⟨rfl, rfl⟩
set_option maxHeartbeats 3200000 in
set_option maxRecDepth 100000 in
theorem orderL_next (l : List LoadD) (j : Nat) (A : Option Addr) (n c : Nat) (w : World) (hn : n = l.length) (hl : n ≤ 1000) (hj : j + 1 < l.length) (hr : Recs 5 cellsL w w.heap.size A l) :
    Calls Tryz.prog 148 #[.slice A n c, .int .i64 ((j : Int) + 1), .func (.func 97) #[] #[]] w fun e w' => e = .returned (.int .i64 (ordI l[j].id l[j + 1].id)) ∧ Below w.heap.size w w' := by
  obtain ⟨b, o, rfl, hb, he⟩ := hr.at hj
  obtain ⟨b', o', h1, _, hf⟩ := hr.at (show j < l.length by omega)
  injection h1 with h1
  injection h1 with h1 h2 _
  subst h1 h2
  generalize l[j + 1] = x at *
  generalize l[j] = y at *
  have e0 : w.cell? ⟨b, o + (j + 1) * 5, none⟩ = some (.int .i64 x.id) := he 0 _ rfl
  have e1 : w.cell? ⟨b, o + (j + 1) * 5 + 1, none⟩ = some (.bool x.apart) := he 1 _ rfl
  have e2 : w.cell? ⟨b, o + (j + 1) * 5 + 2, none⟩ = some (.int .i64 x.skew) := he 2 _ rfl
  have e3 : w.cell? ⟨b, o + (j + 1) * 5 + 3, none⟩ = some (.int .i64 x.min) := he 3 _ rfl
  have e4 : w.cell? ⟨b, o + (j + 1) * 5 + 4, none⟩ = some (.int .i64 x.max) := he 4 _ rfl
  have f0 : w.cell? ⟨b, o + j * 5, none⟩ = some (.int .i64 y.id) := hf 0 _ rfl
  have f1 : w.cell? ⟨b, o + j * 5 + 1, none⟩ = some (.bool y.apart) := hf 1 _ rfl
  have f2 : w.cell? ⟨b, o + j * 5 + 2, none⟩ = some (.int .i64 y.skew) := hf 2 _ rfl
  have f3 : w.cell? ⟨b, o + j * 5 + 3, none⟩ = some (.int .i64 y.min) := hf 3 _ rfl
  have f4 : w.cell? ⟨b, o + j * 5 + 4, none⟩ = some (.int .i64 y.max) := hf 4 _ rfl
  have hjn : (j : Int) + 1 < (n : Int) := by omega
  have hj1 : (j : Int) < (n : Int) := by omega
  have hj0 : (0 : Int) ≤ (j : Int) := by omega
  have hj2 : (0 : Int) ≤ (j : Int) + 1 := by omega
  have hjk : (j : Int) + 1 ≤ 1000 := by omega
  have hjz : ((j : Int) + 1 == 0) = false := by rw [beq_eq_false_iff_ne]; omega
  have s1 : IntKind.i64.wrap ((j : Int) + 1 - 1) = (j : Int) := by rw [IntWalk.i64_in _ (by omega)]; omega
  have s2 : IntKind.i64.wrap (j : Int) = (j : Int) := IntWalk.i64_in _ (by omega)
  have s3 : ((j : Int) + 1).toNat = j + 1 := by omega
  clear he hf hn hr hj
  by_cases hlt : x.id < y.id
  · have HE := Lib.hid (show ordI y.id x.id = 1 by unfold ordI; rw [if_neg (by omega), if_pos hlt])
    have HC : cmpI x.id y.id = -1 := by unfold cmpI; rw [if_pos hlt]
    go_enter Tryz.func148, Tryz.ntmps148
    go_wp2
    go_region_held3 (fun w' => (∀ b o, b < w.heap.size → w'.cell? ⟨b, o, none⟩ = w.cell? ⟨b, o, none⟩) ∧ Below w.heap.size w w')
      (first | (with_reducible assumption) | exact Keeps.of (Below.drew (Below.refl _ _)) | exact Keeps.step (by assumption) (by assumption))
      (first
        | (go_at_call 97; first
            | ((with_reducible refine (idL_any x _).mono ?_); rintro e w' ⟨rfl, hb⟩)
            | ((with_reducible refine (idL_any y _).mono ?_); rintro e w' ⟨rfl, hb⟩))
        | (go_at_call 103; (with_reducible refine (compare_any _ _ _).mono ?_); rintro e w' ⟨rfl, rfl⟩))
    clear s1 s2 s3
    go_wp2
    go_ret
    exact ⟨ret_int HE.out.symm, (by assumption : Keeps w _).2⟩
  · by_cases heq : x.id = y.id
    · have HE := Lib.hid (show ordI y.id x.id = 5 by unfold ordI; rw [if_pos heq])
      have HC : cmpI x.id y.id = 0 := by unfold cmpI; rw [if_neg hlt, if_neg (by omega)]
      clear heq
      go_enter Tryz.func148, Tryz.ntmps148
      go_wp2
      go_region_held3 (fun w' => (∀ b o, b < w.heap.size → w'.cell? ⟨b, o, none⟩ = w.cell? ⟨b, o, none⟩) ∧ Below w.heap.size w w')
        (first | (with_reducible assumption) | exact Keeps.of (Below.drew (Below.refl _ _)) | exact Keeps.step (by assumption) (by assumption))
        (first
          | (go_at_call 97; first
              | ((with_reducible refine (idL_any x _).mono ?_); rintro e w' ⟨rfl, hb⟩)
              | ((with_reducible refine (idL_any y _).mono ?_); rintro e w' ⟨rfl, hb⟩))
          | (go_at_call 103; (with_reducible refine (compare_any _ _ _).mono ?_); rintro e w' ⟨rfl, rfl⟩))
      clear s1 s2 s3
      go_wp2
      go_ret
      exact ⟨ret_int HE.out.symm, (by assumption : Keeps w _).2⟩
    · have HE := Lib.hid (show ordI y.id x.id = 0 by unfold ordI; rw [if_neg heq, if_neg hlt])
      have HC : cmpI x.id y.id = 1 := by unfold cmpI; rw [if_neg hlt, if_pos (by omega)]
      go_enter Tryz.func148, Tryz.ntmps148
      go_wp2
      go_region_held3 (fun w' => (∀ b o, b < w.heap.size → w'.cell? ⟨b, o, none⟩ = w.cell? ⟨b, o, none⟩) ∧ Below w.heap.size w w')
        (first | (with_reducible assumption) | exact Keeps.of (Below.drew (Below.refl _ _)) | exact Keeps.step (by assumption) (by assumption))
        (first
          | (go_at_call 97; first
              | ((with_reducible refine (idL_any x _).mono ?_); rintro e w' ⟨rfl, hb⟩)
              | ((with_reducible refine (idL_any y _).mono ?_); rintro e w' ⟨rfl, hb⟩))
          | (go_at_call 103; (with_reducible refine (compare_any _ _ _).mono ?_); rintro e w' ⟨rfl, rfl⟩))
      clear s1 s2 s3
      go_wp2
      go_ret
      exact ⟨ret_int HE.out.symm, (by assumption : Keeps w _).2⟩

set_option maxHeartbeats 1600000 in
theorem orderP_first (A : Option Addr) (n c : Nat) (f : Value) (w : World) :
    Calls Tryz.prog 149 #[.slice A n c, .int .i64 0, f] w fun e w' => e = .returned (.int .i64 0) ∧ w = w' := by
  go_enter Tryz.func149, Tryz.ntmps149
  go_wp2
  go_ret
  exact ⟨rfl, rfl⟩
set_option maxHeartbeats 3200000 in
set_option maxRecDepth 100000 in
theorem orderP_next (l : List PodD) (j : Nat) (A : Option Addr) (n c : Nat) (w : World) (hn : n = l.length) (hl : n ≤ 1000) (hj : j + 1 < l.length) (hr : Recs 8 cellsP w w.heap.size A l) :
    Calls Tryz.prog 149 #[.slice A n c, .int .i64 ((j : Int) + 1), .func (.func 100) #[] #[]] w fun e w' => e = .returned (.int .i64 (ordI l[j].id l[j + 1].id)) ∧ Below w.heap.size w w' := by
  obtain ⟨b, o, rfl, hb, he⟩ := hr.at hj
  obtain ⟨b', o', h1, _, hf⟩ := hr.at (show j < l.length by omega)
  injection h1 with h1
  injection h1 with h1 h2 _
  subst h1 h2
  generalize l[j + 1] = x at *
  generalize l[j] = y at *
  have e0 : w.cell? ⟨b, o + (j + 1) * 8, none⟩ = some (.int .i64 x.id) := he 0 _ rfl
  have e1 : w.cell? ⟨b, o + (j + 1) * 8 + 1, none⟩ = some (.int .i64 x.load) := he 1 _ rfl
  have e2 : w.cell? ⟨b, o + (j + 1) * 8 + 2, none⟩ = some (.int .i64 x.prio) := he 2 _ rfl
  have e3 : w.cell? ⟨b, o + (j + 1) * 8 + 3, none⟩ = some (.int .u64 x.req.a) := he 3 _ rfl
  have e4 : w.cell? ⟨b, o + (j + 1) * 8 + 4, none⟩ = some (.int .u64 x.req.b) := he 4 _ rfl
  have e5 : w.cell? ⟨b, o + (j + 1) * 8 + 5, none⟩ = some (.int .u64 x.req.c) := he 5 _ rfl
  have e6 : w.cell? ⟨b, o + (j + 1) * 8 + 6, none⟩ = some (.int .u64 x.req.d) := he 6 _ rfl
  have e7 : w.cell? ⟨b, o + (j + 1) * 8 + 7, none⟩ = some (.int .i64 x.node) := he 7 _ rfl
  have f0 : w.cell? ⟨b, o + j * 8, none⟩ = some (.int .i64 y.id) := hf 0 _ rfl
  have f1 : w.cell? ⟨b, o + j * 8 + 1, none⟩ = some (.int .i64 y.load) := hf 1 _ rfl
  have f2 : w.cell? ⟨b, o + j * 8 + 2, none⟩ = some (.int .i64 y.prio) := hf 2 _ rfl
  have f3 : w.cell? ⟨b, o + j * 8 + 3, none⟩ = some (.int .u64 y.req.a) := hf 3 _ rfl
  have f4 : w.cell? ⟨b, o + j * 8 + 4, none⟩ = some (.int .u64 y.req.b) := hf 4 _ rfl
  have f5 : w.cell? ⟨b, o + j * 8 + 5, none⟩ = some (.int .u64 y.req.c) := hf 5 _ rfl
  have f6 : w.cell? ⟨b, o + j * 8 + 6, none⟩ = some (.int .u64 y.req.d) := hf 6 _ rfl
  have f7 : w.cell? ⟨b, o + j * 8 + 7, none⟩ = some (.int .i64 y.node) := hf 7 _ rfl
  have hjn : (j : Int) + 1 < (n : Int) := by omega
  have hj1 : (j : Int) < (n : Int) := by omega
  have hj0 : (0 : Int) ≤ (j : Int) := by omega
  have hj2 : (0 : Int) ≤ (j : Int) + 1 := by omega
  have hjk : (j : Int) + 1 ≤ 1000 := by omega
  have hjz : ((j : Int) + 1 == 0) = false := by rw [beq_eq_false_iff_ne]; omega
  have s1 : IntKind.i64.wrap ((j : Int) + 1 - 1) = (j : Int) := by rw [IntWalk.i64_in _ (by omega)]; omega
  have s2 : IntKind.i64.wrap (j : Int) = (j : Int) := IntWalk.i64_in _ (by omega)
  have s3 : ((j : Int) + 1).toNat = j + 1 := by omega
  clear he hf hn hr hj
  by_cases hlt : x.id < y.id
  · have HE := Lib.hid (show ordI y.id x.id = 1 by unfold ordI; rw [if_neg (by omega), if_pos hlt])
    have HC : cmpI x.id y.id = -1 := by unfold cmpI; rw [if_pos hlt]
    go_enter Tryz.func149, Tryz.ntmps149
    go_wp2
    go_region_held3 (fun w' => (∀ b o, b < w.heap.size → w'.cell? ⟨b, o, none⟩ = w.cell? ⟨b, o, none⟩) ∧ Below w.heap.size w w')
      (first | (with_reducible assumption) | exact Keeps.of (Below.drew (Below.refl _ _)) | exact Keeps.step (by assumption) (by assumption))
      (first
        | (go_at_call 100; first
            | ((with_reducible refine (idP_any x _).mono ?_); rintro e w' ⟨rfl, hb⟩)
            | ((with_reducible refine (idP_any y _).mono ?_); rintro e w' ⟨rfl, hb⟩))
        | (go_at_call 103; (with_reducible refine (compare_any _ _ _).mono ?_); rintro e w' ⟨rfl, rfl⟩))
    clear s1 s2 s3
    go_wp2
    go_ret
    exact ⟨ret_int HE.out.symm, (by assumption : Keeps w _).2⟩
  · by_cases heq : x.id = y.id
    · have HE := Lib.hid (show ordI y.id x.id = 5 by unfold ordI; rw [if_pos heq])
      have HC : cmpI x.id y.id = 0 := by unfold cmpI; rw [if_neg hlt, if_neg (by omega)]
      clear heq
      go_enter Tryz.func149, Tryz.ntmps149
      go_wp2
      go_region_held3 (fun w' => (∀ b o, b < w.heap.size → w'.cell? ⟨b, o, none⟩ = w.cell? ⟨b, o, none⟩) ∧ Below w.heap.size w w')
        (first | (with_reducible assumption) | exact Keeps.of (Below.drew (Below.refl _ _)) | exact Keeps.step (by assumption) (by assumption))
        (first
          | (go_at_call 100; first
              | ((with_reducible refine (idP_any x _).mono ?_); rintro e w' ⟨rfl, hb⟩)
              | ((with_reducible refine (idP_any y _).mono ?_); rintro e w' ⟨rfl, hb⟩))
          | (go_at_call 103; (with_reducible refine (compare_any _ _ _).mono ?_); rintro e w' ⟨rfl, rfl⟩))
      clear s1 s2 s3
      go_wp2
      go_ret
      exact ⟨ret_int HE.out.symm, (by assumption : Keeps w _).2⟩
    · have HE := Lib.hid (show ordI y.id x.id = 0 by unfold ordI; rw [if_neg heq, if_neg hlt])
      have HC : cmpI x.id y.id = 1 := by unfold cmpI; rw [if_neg hlt, if_pos (by omega)]
      go_enter Tryz.func149, Tryz.ntmps149
      go_wp2
      go_region_held3 (fun w' => (∀ b o, b < w.heap.size → w'.cell? ⟨b, o, none⟩ = w.cell? ⟨b, o, none⟩) ∧ Below w.heap.size w w')
        (first | (with_reducible assumption) | exact Keeps.of (Below.drew (Below.refl _ _)) | exact Keeps.step (by assumption) (by assumption))
        (first
          | (go_at_call 100; first
              | ((with_reducible refine (idP_any x _).mono ?_); rintro e w' ⟨rfl, hb⟩)
              | ((with_reducible refine (idP_any y _).mono ?_); rintro e w' ⟨rfl, hb⟩))
          | (go_at_call 103; (with_reducible refine (compare_any _ _ _).mono ?_); rintro e w' ⟨rfl, rfl⟩))
      clear s1 s2 s3
      go_wp2
      go_ret
      exact ⟨ret_int HE.out.symm, (by assumption : Keeps w _).2⟩

set_option maxHeartbeats 1600000 in
theorem orderW_first (A : Option Addr) (n c : Nat) (f : Value) (w : World) :
    Calls Tryz.prog 56 #[.slice A n c, .int .i64 0, f] w fun e w' => e = .returned (.int .i64 0) ∧ w = w' := by
  go_enter Tryz.func56, Tryz.ntmps56
  go_wp2
  go_ret
  exact ⟨rfl, rfl⟩
set_option maxHeartbeats 3200000 in
set_option maxRecDepth 100000 in
theorem orderW_next (l : List WantD) (j : Nat) (A : Option Addr) (n c : Nat) (w : World) (hn : n = l.length) (hl : n ≤ 1000) (hj : j + 1 < l.length) (hr : Recs 6 cellsW w w.heap.size A l) :
    Calls Tryz.prog 56 #[.slice A n c, .int .i64 ((j : Int) + 1), .func (.func 57) #[] #[]] w fun e w' => e = .returned (.int .i64 (ordI l[j].pod l[j + 1].pod)) ∧ Below w.heap.size w w' := by
  obtain ⟨b, o, rfl, hb, he⟩ := hr.at hj
  obtain ⟨b', o', h1, _, hf⟩ := hr.at (show j < l.length by omega)
  injection h1 with h1
  injection h1 with h1 h2 _
  subst h1 h2
  generalize l[j + 1] = x at *
  generalize l[j] = y at *
  have e0 : w.cell? ⟨b, o + (j + 1) * 6, none⟩ = some (.int .i64 x.pod) := he 0 _ rfl
  have e1 : w.cell? ⟨b, o + (j + 1) * 6 + 1, none⟩ = some (.int .u64 x.req.a) := he 1 _ rfl
  have e2 : w.cell? ⟨b, o + (j + 1) * 6 + 2, none⟩ = some (.int .u64 x.req.b) := he 2 _ rfl
  have e3 : w.cell? ⟨b, o + (j + 1) * 6 + 3, none⟩ = some (.int .u64 x.req.c) := he 3 _ rfl
  have e4 : w.cell? ⟨b, o + (j + 1) * 6 + 4, none⟩ = some (.int .u64 x.req.d) := he 4 _ rfl
  have e5 : w.cell? ⟨b, o + (j + 1) * 6 + 5, none⟩ = some (.bool x.stay) := he 5 _ rfl
  have f0 : w.cell? ⟨b, o + j * 6, none⟩ = some (.int .i64 y.pod) := hf 0 _ rfl
  have f1 : w.cell? ⟨b, o + j * 6 + 1, none⟩ = some (.int .u64 y.req.a) := hf 1 _ rfl
  have f2 : w.cell? ⟨b, o + j * 6 + 2, none⟩ = some (.int .u64 y.req.b) := hf 2 _ rfl
  have f3 : w.cell? ⟨b, o + j * 6 + 3, none⟩ = some (.int .u64 y.req.c) := hf 3 _ rfl
  have f4 : w.cell? ⟨b, o + j * 6 + 4, none⟩ = some (.int .u64 y.req.d) := hf 4 _ rfl
  have f5 : w.cell? ⟨b, o + j * 6 + 5, none⟩ = some (.bool y.stay) := hf 5 _ rfl
  have hjn : (j : Int) + 1 < (n : Int) := by omega
  have hj1 : (j : Int) < (n : Int) := by omega
  have hj0 : (0 : Int) ≤ (j : Int) := by omega
  have hj2 : (0 : Int) ≤ (j : Int) + 1 := by omega
  have hjk : (j : Int) + 1 ≤ 1000 := by omega
  have hjz : ((j : Int) + 1 == 0) = false := by rw [beq_eq_false_iff_ne]; omega
  have s1 : IntKind.i64.wrap ((j : Int) + 1 - 1) = (j : Int) := by rw [IntWalk.i64_in _ (by omega)]; omega
  have s2 : IntKind.i64.wrap (j : Int) = (j : Int) := IntWalk.i64_in _ (by omega)
  have s3 : ((j : Int) + 1).toNat = j + 1 := by omega
  clear he hf hn hr hj
  by_cases hlt : x.pod < y.pod
  · have HE := Lib.hid (show ordI y.pod x.pod = 1 by unfold ordI; rw [if_neg (by omega), if_pos hlt])
    have HC : cmpI x.pod y.pod = -1 := by unfold cmpI; rw [if_pos hlt]
    go_enter Tryz.func56, Tryz.ntmps56
    go_wp2
    go_region_held3 (fun w' => (∀ b o, b < w.heap.size → w'.cell? ⟨b, o, none⟩ = w.cell? ⟨b, o, none⟩) ∧ Below w.heap.size w w')
      (first | (with_reducible assumption) | exact Keeps.of (Below.drew (Below.refl _ _)) | exact Keeps.step (by assumption) (by assumption))
      (first
        | (go_at_call 57; first
            | ((with_reducible refine (idW_any x _).mono ?_); rintro e w' ⟨rfl, hb⟩)
            | ((with_reducible refine (idW_any y _).mono ?_); rintro e w' ⟨rfl, hb⟩))
        | (go_at_call 103; (with_reducible refine (compare_any _ _ _).mono ?_); rintro e w' ⟨rfl, rfl⟩))
    clear s1 s2 s3
    go_wp2
    go_ret
    exact ⟨ret_int HE.out.symm, (by assumption : Keeps w _).2⟩
  · by_cases heq : x.pod = y.pod
    · have HE := Lib.hid (show ordI y.pod x.pod = 5 by unfold ordI; rw [if_pos heq])
      have HC : cmpI x.pod y.pod = 0 := by unfold cmpI; rw [if_neg hlt, if_neg (by omega)]
      clear heq
      go_enter Tryz.func56, Tryz.ntmps56
      go_wp2
      go_region_held3 (fun w' => (∀ b o, b < w.heap.size → w'.cell? ⟨b, o, none⟩ = w.cell? ⟨b, o, none⟩) ∧ Below w.heap.size w w')
        (first | (with_reducible assumption) | exact Keeps.of (Below.drew (Below.refl _ _)) | exact Keeps.step (by assumption) (by assumption))
        (first
          | (go_at_call 57; first
              | ((with_reducible refine (idW_any x _).mono ?_); rintro e w' ⟨rfl, hb⟩)
              | ((with_reducible refine (idW_any y _).mono ?_); rintro e w' ⟨rfl, hb⟩))
          | (go_at_call 103; (with_reducible refine (compare_any _ _ _).mono ?_); rintro e w' ⟨rfl, rfl⟩))
      clear s1 s2 s3
      go_wp2
      go_ret
      exact ⟨ret_int HE.out.symm, (by assumption : Keeps w _).2⟩
    · have HE := Lib.hid (show ordI y.pod x.pod = 0 by unfold ordI; rw [if_neg heq, if_neg hlt])
      have HC : cmpI x.pod y.pod = 1 := by unfold cmpI; rw [if_neg hlt, if_pos (by omega)]
      go_enter Tryz.func56, Tryz.ntmps56
      go_wp2
      go_region_held3 (fun w' => (∀ b o, b < w.heap.size → w'.cell? ⟨b, o, none⟩ = w.cell? ⟨b, o, none⟩) ∧ Below w.heap.size w w')
        (first | (with_reducible assumption) | exact Keeps.of (Below.drew (Below.refl _ _)) | exact Keeps.step (by assumption) (by assumption))
        (first
          | (go_at_call 57; first
              | ((with_reducible refine (idW_any x _).mono ?_); rintro e w' ⟨rfl, hb⟩)
              | ((with_reducible refine (idW_any y _).mono ?_); rintro e w' ⟨rfl, hb⟩))
          | (go_at_call 103; (with_reducible refine (compare_any _ _ _).mono ?_); rintro e w' ⟨rfl, rfl⟩))
      clear s1 s2 s3
      go_wp2
      go_ret
      exact ⟨ret_int HE.out.symm, (by assumption : Keeps w _).2⟩

end Go.Proofs.YtpfjeoldgcepnaaGreatDoor

namespace Go.Proofs.YtpfjeoldgcepnaaGreatDoor
set_option linter.unusedSimpArgs false
open Go.RowKit
set_option linter.unusedVariables false

/-- The first one with that Id, true; or a zero one, false. -/
def FindTo {α : Type} (agg : α → Value) (zero : Value) (f : α → Int) (l : List α) (id : Int) (w : World) (e : Ending) (w' : World) : Prop :=
  ((place f id l 0 < 0 ∧ e = .returned (.tuple #[zero, .bool false])) ∨ ∃ (i : Nat) (h : i < l.length), place f id l 0 = i ∧ e = .returned (.tuple #[agg l[i], .bool true])) ∧ Below w.heap.size w w'
def FRel {α : Type} (f : α → Int) (id : Int) (l : List α) (W : World) (B : Nat) (i : Value) (wr : World) : Prop := ∃ k : Nat, k ≤ l.length ∧ i = .int .i64 k ∧ place f id (l.drop k) k = place f id l 0 ∧ Below B W wr
theorem place_found {α : Type} {f : α → Int} {id : Int} {l : List α} {k : Nat} (h : k < l.length) (he : f l[k] = id) (hp : place f id (l.drop k) k = place f id l 0) : place f id l 0 = k := place_here h he hp
end Go.Proofs.YtpfjeoldgcepnaaGreatDoor
