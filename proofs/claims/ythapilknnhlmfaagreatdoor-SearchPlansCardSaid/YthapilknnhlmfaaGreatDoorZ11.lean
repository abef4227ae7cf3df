/- Joined texts, part 11: OB OC OD BC BD ZB ZD. -/
import Derived.Test.YthapilknnhlmfaaGreatDoorZ09
import Derived.Test.YthapilknnhlmfaaGreatDoorZ01
import Derived.Test.YthapilknnhlmfaaGreatDoorZ10
import Derived.BigQuiet
import Derived.Test.YthapilknnhlmfaaGreatDoorZ08
import Derived.Deep.CutRange
import Derived.Deep.RegionHeld3
import Derived.Test.YthapilknnhlmfaaGreatDoorZ07
import Derived.Test.YthapilknnhlmfaaGreatDoorZ04

namespace Go.Proofs.YthapilknnhlmfaaGreatDoor
set_option linter.unusedSimpArgs false
open Go.RowKit Go.Extern.Stop Go.Stop Go.Extern
set_option linter.unusedVariables false
theorem Tryz.noAsSpot (v:Value) (xT:TypeId) (w:World):(Instr.typeAssert (.iface 123 v) xT 207 true).run Tryz.prog w=.ok (.tuple #[.nilIface,.bool false]) w:=run_typeAssert_lacksB Tryz.underlying207 (by kernel_rfl) (by kernel_rfl) v xT w
theorem Tryz.assignableNoSC (w:World):(ReflectliteType.relation "AssignableTo" ReflectliteType.assignableTo #[.agg #[.pointer (some ⟨1,123,none⟩)],.iface 203 (.agg #[.pointer (some ⟨1,42,none⟩)])]).run Tryz.prog w=.ok (.bool false) w:=by kernel_rfl

set_option maxHeartbeats 4000000 in
theorem as_spotC (g:Nat) (e:Int) (t:Addr) (old:Value) (w:World) (hg:w.cell? ⟨0,0,none⟩=some (.iface 203 (.agg #[.pointer (some ⟨1,36,none⟩)]))) (hgl:g<w.heap.size) (hk:w.cell? ⟨g,1,none⟩=some (.int .i64 e)) (ht0:w.cell? t=some old) (hf0:w.frozen? t=false) :
  Calls Tryz.prog 58 #[.iface 123 (.pointer (some ⟨g,0,none⟩)),.iface 137 (.pointer (some t))] w fun ev w'=>ev=.returned (.bool true)∧w'=((((w.alloc (.cells #[.pointer (some t)] 137)).alloc (.cells #[.pointer (some ⟨1,137,none⟩),.pointer (some ⟨w.heap.size,0,none⟩),.int .u64 150] 163)).alloc (.cells #[.pointer (some ⟨1,137,none⟩),.pointer (some ⟨w.heap.size,0,none⟩),.int .u64 150] 163)).alloc (.cells #[.int .i64 e] 42)).setCell t (.int .i64 e):=by
 have h6:=@run_callFunc_extern Tryz.prog 95 _ (fun args=>ReflectliteValue.unpack (args.getD 0 (.tuple #[]))) Tryz.func95 (by kernel_rfl) (by kernel_rfl) (by kernel_rfl) (by kernel_rfl)
 have h7:=@run_callFunc_extern Tryz.prog 96 _ (ReflectliteValue.methodAny (ReflectliteValue.valueError "reflectlite.Value.Type" 0) (fun t _ _ _=>ReflectliteType.toType t)) Tryz.func96 (by kernel_rfl) (by kernel_rfl) (by kernel_rfl) (by kernel_rfl)
 have h8:=@run_callFunc_extern Tryz.prog 97 _ (ReflectliteValue.method (ReflectliteValue.valueError "reflectlite.Value.IsNil" 0) ReflectliteValue.isNil) Tryz.func97 (by kernel_rfl) (by kernel_rfl) (by kernel_rfl) (by kernel_rfl)
 have h27:=@run_callFunc_extern Tryz.prog 238 _ (ReflectliteType.abiMethod fun t=>do pure (.int .u8 (← Rtype.kind t))) Tryz.func238 (by kernel_rfl) (by kernel_rfl) (by kernel_rfl) (by kernel_rfl)
 have h37:=@run_callFunc_extern Tryz.prog 250 _ (ReflectliteType.method ReflectliteType.elem) Tryz.func250 (by kernel_rfl) (by kernel_rfl) (by kernel_rfl) (by kernel_rfl)
 have h38:=@run_callFunc_extern Tryz.prog 251 _ (ReflectliteType.relation "Implements" ReflectliteType.implements_) Tryz.func251 (by kernel_rfl) (by kernel_rfl) (by kernel_rfl) (by kernel_rfl)
 have h10:=@run_callFunc_extern Tryz.prog 99 _ ReflectliteType.typeOf Tryz.func99 (by kernel_rfl) (by kernel_rfl) (by kernel_rfl) (by kernel_rfl)
 have h35:=@run_callFunc_extern Tryz.prog 248 _ (ReflectliteType.relation "AssignableTo" ReflectliteType.assignableTo) Tryz.func248 (by kernel_rfl) (by kernel_rfl) (by kernel_rfl) (by kernel_rfl)
 have h11:=@run_callFunc_extern Tryz.prog 138 _ (ReflectliteValue.method (ReflectliteValue.valueError "reflectlite.Value.Elem" 0) ReflectliteValue.elem) Tryz.func138 (by kernel_rfl) (by kernel_rfl) (by kernel_rfl) (by kernel_rfl)
 have h12:=@run_callFunc_extern Tryz.prog 139 _ ReflectliteValue.set Tryz.func139 (by kernel_rfl) (by kernel_rfl) (by kernel_rfl) (by kernel_rfl)
 have tO:=Tryz.typeOfCodeC
 have mA:=Tryz.methodAssignableTo
 have a25:=Tryz.assignableCode
 have tS:=Tryz.typeOfSpot
 have aS:=Tryz.assignableNoSC
 have nA:=Tryz.noAsSpot
 have uW:=Tryz.hasUnwrapSpot
 have mU:=Tryz.methodUnwrap
 have v25:=Tryz.valueOfCode
 have f6:=Tryz.valueOfPCode
 have f7:=Tryz.typePCode
 have mK:=Tryz.methodKind
 have mE:=Tryz.methodElem
 have mI:=Tryz.methodImplements
 have k27:=Tryz.kindPCode
 have k25:=Tryz.kindCode
 have e27:=Tryz.elemPCode
 have i25:=Tryz.implementsCode
 have n8:=Tryz.isNilPCode ⟨w.heap.size,0,none⟩ t ((w.alloc (.cells #[.pointer (some t)] 137)).alloc (.cells #[.pointer (some ⟨1,137,none⟩),.pointer (some ⟨w.heap.size,0,none⟩),.int .u64 150] 163)) (by simp)
 have hlt:0<w.heap.size:=by
  rcases Nat.eq_zero_or_pos w.heap.size with h0 | h
  ·simp [World.cell?,h0] at hg
  ·exact h
 have hg2:((w.alloc (.cells #[.pointer (some t)] 137)).alloc (.cells #[.pointer (some ⟨1,137,none⟩),.pointer (some ⟨w.heap.size,0,none⟩),.int .u64 150] 163)).cell? ⟨0,0,none⟩=some (.iface 203 (.agg #[.pointer (some ⟨1,36,none⟩)])):=by
  rw [World.cell?_alloc_lt _ _ ⟨0,0,none⟩ (by simp),World.cell?_alloc_lt _ _ ⟨0,0,none⟩ hlt];exact hg
 have htl:t.block<w.heap.size:=by
  rcases Nat.lt_or_ge t.block w.heap.size with h | h
  ·exact h
  ·simp [World.cell?,Array.getElem?_eq_none h] at ht0
 have el:=Tryz.elemVPCode ⟨w.heap.size,0,none⟩ t (((w.alloc (.cells #[.pointer (some t)] 137)).alloc (.cells #[.pointer (some ⟨1,137,none⟩),.pointer (some ⟨w.heap.size,0,none⟩),.int .u64 150] 163)).alloc (.cells #[.pointer (some ⟨1,137,none⟩),.pointer (some ⟨w.heap.size,0,none⟩),.int .u64 150] 163)) (by rw [World.cell?_alloc_lt _ _ ⟨w.heap.size,0,none⟩ (by simp;omega)];simp)
 have st:=Tryz.setCode t ⟨w.heap.size+1+1+1,0,none⟩ e old ((((w.alloc (.cells #[.pointer (some t)] 137)).alloc (.cells #[.pointer (some ⟨1,137,none⟩),.pointer (some ⟨w.heap.size,0,none⟩),.int .u64 150] 163)).alloc (.cells #[.pointer (some ⟨1,137,none⟩),.pointer (some ⟨w.heap.size,0,none⟩),.int .u64 150] 163)).alloc (.cells #[.int .i64 e] 42))
  (by rw [World.cell?_alloc_at _ _ _ _ (by simp)];rfl)
  (by rw [World.cell?_alloc_lt _ _ t (by simp;omega),World.cell?_alloc_lt _ _ t (by simp;omega),World.cell?_alloc_lt _ _ t (by simp;omega),World.cell?_alloc_lt _ _ t htl];exact ht0)
  (by rw [World.frozen?_alloc_old _ _ t (by simp;omega),World.frozen?_alloc_old _ _ t (by simp;omega),World.frozen?_alloc_old _ _ t (by simp;omega),World.frozen?_alloc_old _ _ t (Nat.ne_of_lt htl)];exact hf0)
 have hk3:(((w.alloc (.cells #[.pointer (some t)] 137)).alloc (.cells #[.pointer (some ⟨1,137,none⟩),.pointer (some ⟨w.heap.size,0,none⟩),.int .u64 150] 163)).alloc (.cells #[.pointer (some ⟨1,137,none⟩),.pointer (some ⟨w.heap.size,0,none⟩),.int .u64 150] 163)).cell? ⟨g,1,none⟩=some (.int .i64 e):=by
  rw [World.cell?_alloc_lt _ _ ⟨g,1,none⟩ (by simp;omega),World.cell?_alloc_lt _ _ ⟨g,1,none⟩ (by simp;omega),World.cell?_alloc_lt _ _ ⟨g,1,none⟩ hgl];exact hk
 go_enter Tryz.func58,Tryz.ntmps58
 go_wp2
 refine wp_loop_rounds 2 ?_
 rw [rounds_succ]
 go_wp2
 rw [rounds_succ]
 go_wp2
 go_ret
 exact ⟨rfl,rfl⟩
end Go.Proofs.YthapilknnhlmfaaGreatDoor
namespace Go.Proofs.YthapilknnhlmfaaGreatDoor
set_option linter.unusedSimpArgs false
open Go.RowKit
set_option linter.unusedVariables false
theorem as_codeO (p:Int × Int) (C B:Nat) (u old:Value) (w:World) (hu:ErrIs p C w u) (hp:okP p=false) (hg:Laid w) (ht0:w.cell? ⟨B,0,none⟩=some old) (hf0:w.frozen? ⟨B,0,none⟩=false) :
  Calls Tryz.prog 58 #[u,.iface 137 (.pointer (some ⟨B,0,none⟩))] w fun ev w'=>ev=.returned (.bool true)∧w'.cell? ⟨B,0,none⟩=some (.int .i64 p.1)∧Below B w w':=by
 have htl:B<w.heap.size:=World.block_lt_of_cell? w ⟨B,0,none⟩ ht0
 have fin:∀ (c:Int) (w':World),w'=((((w.alloc (.cells #[.pointer (some ⟨B,0,none⟩)] 137)).alloc (.cells #[.pointer (some ⟨1,137,none⟩),.pointer (some ⟨w.heap.size,0,none⟩),.int .u64 150] 163)).alloc (.cells #[.pointer (some ⟨1,137,none⟩),.pointer (some ⟨w.heap.size,0,none⟩),.int .u64 150] 163)).alloc (.cells #[.int .i64 c] 42)).setCell ⟨B,0,none⟩ (.int .i64 c) →
   w'.cell? ⟨B,0,none⟩=some (.int .i64 c)∧Below B w w':=by
  rintro c w' rfl
  have hold:((((w.alloc (.cells #[.pointer (some ⟨B,0,none⟩)] 137)).alloc (.cells #[.pointer (some ⟨1,137,none⟩),.pointer (some ⟨w.heap.size,0,none⟩),.int .u64 150] 163)).alloc (.cells #[.pointer (some ⟨1,137,none⟩),.pointer (some ⟨w.heap.size,0,none⟩),.int .u64 150] 163)).alloc (.cells #[.int .i64 c] 42)).cell? ⟨B,0,none⟩=some old:=by
   rw [World.cell?_alloc_lt _ _ ⟨B,0,none⟩ (by simp;omega),World.cell?_alloc_lt _ _ ⟨B,0,none⟩ (by simp;omega),World.cell?_alloc_lt _ _ ⟨B,0,none⟩ (by simp;omega),World.cell?_alloc_lt _ _ ⟨B,0,none⟩ htl];exact ht0
  exact ⟨World.cell?_setCell_same _ _ _ hold,(((((Below.refl B w).alloc (by omega) _).alloc (by simp;omega) _).alloc (by simp;omega) _).alloc (by simp;omega) _).setCell (p:=⟨B,0,none⟩) (Nat.le_refl _) _⟩
 rcases hu with ⟨h,_⟩ | ⟨_,_,_,rfl⟩ | ⟨k,g,_,rfl,_,h4⟩
 ·rw [h] at hp;exact absurd hp (by decide)
 ·refine (as_hitC p.1 ⟨B,0,none⟩ old w hg ht0 hf0).mono ?_
  rintro ev w' ⟨h1,h2⟩
  exact ⟨h1,fin _ w' h2⟩
 ·have hgl:g<w.heap.size:=(Array.getElem?_eq_some_iff.1 h4).1
  refine (as_spotC g p.1 ⟨B,0,none⟩ old w hg hgl (by simp [World.cell?,h4]) ht0 hf0).mono ?_
  rintro ev w' ⟨h1,h2⟩
  exact ⟨h1,fin _ w' h2⟩
theorem safeF1_any (p:Int × Int) (gs gt:Nat) (x0 x1 x2 y0 y1 y2:Value) (V:World) (hs:Bf V gs [x0,x1,x2]) (ht:Bf V gt [y0,y1,y2])
  (hc:Calls Tryz.prog 123 #[.agg #[x0,x1,x2],.agg #[y0,y1,y2]] V (ErrTo p V)) :
  Calls Tryz.prog 122 #[.pointer (some ⟨gs,0,none⟩),.pointer (some ⟨gt,0,none⟩)] V (ErrTo p V):=by
 obtain ⟨a0,a1,a2,a3⟩:=hs.cells3
 obtain ⟨b0,b1,b2,b3⟩:=ht.cells3
 have HC:=Lib.hid hc
 clear hs ht hc
 go_enter Tryz.func122,Tryz.ntmps122
 go_wp2_with fail
 refine HC.out.mono ?_
 rintro e w1 ⟨u,rfl,hu,hb⟩
 go_wp2
 go_ret
 exact ⟨u,rfl,hu,hb⟩
theorem safeF2_any (p:Int × Int) (gs gt:Nat) (x0 x1 x2 y0 y1 y2:Value) (V:World) (hs:Bf V gs [x0,x1,x2]) (ht:Bf V gt [y0,y1,y2])
  (hc:Calls Tryz.prog 125 #[.agg #[x0,x1,x2],.agg #[y0,y1,y2]] V (ErrTo p V)) :
  Calls Tryz.prog 124 #[.pointer (some ⟨gs,0,none⟩),.pointer (some ⟨gt,0,none⟩)] V (ErrTo p V):=by
 obtain ⟨a0,a1,a2,a3⟩:=hs.cells3
 obtain ⟨b0,b1,b2,b3⟩:=ht.cells3
 have HC:=Lib.hid hc
 clear hs ht hc
 go_enter Tryz.func124,Tryz.ntmps124
 go_wp2_with fail
 refine HC.out.mono ?_
 rintro e w1 ⟨u,rfl,hu,hb⟩
 go_wp2
 go_ret
 exact ⟨u,rfl,hu,hb⟩
theorem safeF3_any (p:Int × Int) (gs gt:Nat) (x0 x1 x2 y0 y1 y2:Value) (V:World) (hs:Bf V gs [x0,x1,x2]) (ht:Bf V gt [y0,y1,y2])
  (hc:Calls Tryz.prog 127 #[.agg #[x0,x1,x2],.agg #[y0,y1,y2]] V (ErrTo p V)) :
  Calls Tryz.prog 126 #[.pointer (some ⟨gs,0,none⟩),.pointer (some ⟨gt,0,none⟩)] V (ErrTo p V):=by
 obtain ⟨a0,a1,a2,a3⟩:=hs.cells3
 obtain ⟨b0,b1,b2,b3⟩:=ht.cells3
 have HC:=Lib.hid hc
 clear hs ht hc
 go_enter Tryz.func126,Tryz.ntmps126
 go_wp2_with fail
 refine HC.out.mono ?_
 rintro e w1 ⟨u,rfl,hu,hb⟩
 go_wp2
 go_ret
 exact ⟨u,rfl,hu,hb⟩
theorem safeF4_any (p:Int × Int) (gs gt:Nat) (x0 x1 x2 y0 y1 y2:Value) (V:World) (hs:Bf V gs [x0,x1,x2]) (ht:Bf V gt [y0,y1,y2])
  (hc:Calls Tryz.prog 129 #[.agg #[x0,x1,x2],.agg #[y0,y1,y2]] V (ErrTo p V)) :
  Calls Tryz.prog 128 #[.pointer (some ⟨gs,0,none⟩),.pointer (some ⟨gt,0,none⟩)] V (ErrTo p V):=by
 obtain ⟨a0,a1,a2,a3⟩:=hs.cells3
 obtain ⟨b0,b1,b2,b3⟩:=ht.cells3
 have HC:=Lib.hid hc
 clear hs ht hc
 go_enter Tryz.func128,Tryz.ntmps128
 go_wp2_with fail
 refine HC.out.mono ?_
 rintro e w1 ⟨u,rfl,hu,hb⟩
 go_wp2
 go_ret
 exact ⟨u,rfl,hu,hb⟩
theorem safeF5_any (p:Int × Int) (gs gt:Nat) (x0 x1 x2 y0 y1 y2:Value) (V:World) (hs:Bf V gs [x0,x1,x2]) (ht:Bf V gt [y0,y1,y2])
  (hc:Calls Tryz.prog 131 #[.agg #[x0,x1,x2],.agg #[y0,y1,y2]] V (ErrTo p V)) :
  Calls Tryz.prog 130 #[.pointer (some ⟨gs,0,none⟩),.pointer (some ⟨gt,0,none⟩)] V (ErrTo p V):=by
 obtain ⟨a0,a1,a2,a3⟩:=hs.cells3
 obtain ⟨b0,b1,b2,b3⟩:=ht.cells3
 have HC:=Lib.hid hc
 clear hs ht hc
 go_enter Tryz.func130,Tryz.ntmps130
 go_wp2_with fail
 refine HC.out.mono ?_
 rintro e w1 ⟨u,rfl,hu,hb⟩
 go_wp2
 go_ret
 exact ⟨u,rfl,hu,hb⟩

theorem infoErrO:(Tryz.prog.info? 36).map (fun i=>(i.zero,i.size,i.bytes))=some (some .nilIface,1,16):=by kernel_rfl
def FaultRel (ps:List (Int × Int)) (most:Nat) (a b c:List Value) (w:World) (v i:Value) (wr:World):Prop :=
 ∃ (k:Nat) (us:List Value),k≤5∧i=.int .i64 k∧ErrsIs (badK ps most k) w.heap.size wr us∧wr.ownsRow (w.heap.size+4) 36 1 v us.length us∧w.heap.size+4≤wr.heap.size∧T3 a b c w wr
def FaultsTo (ps:List (Int × Int)) (most:Nat) (w:World) (e:Ending) (w':World):Prop :=
 ∃ (v:Value) (us:List Value),e=.returned v∧ErrsIs (badK ps most 5) w.heap.size w' us∧w'.ownsRow w.heap.size 36 1 v us.length us∧Below w.heap.size w w'
theorem own_slice {w:World} {B:Nat} {e:TypeId} {v:Value} {us:List Value} (h:w.ownsRow B e 1 v us.length us):∃ A c,v=.slice A us.length c∧us.length≤c:=by
 obtain ⟨A,c,h1,h2,_⟩:=recs_of_own (cells:=fun x:Value=>[x]) oneVal rfl (by rw [flat_ones];exact h)
 exact ⟨A,c,h1,h2⟩
theorem own_belowS {w w':World} {B base n size:Nat} {e:TypeId} {v:Value} {xs:List Value} (h:w.ownsRow base e size v n xs) (hb:Below B w w') (hB:w.heap.size≤B):w'.ownsRow base e size v n xs:=by
 refine ⟨h.1,?_⟩
 rcases h.2 with h0 | ⟨g,cap,cur,hv,hb1,hg,rest⟩
 ·exact .inl h0
 ·have hlt:g<w.heap.size:=(Array.getElem?_eq_some_iff.1 hg).1
  exact .inr ⟨g,cap,cur,hv,hb1,(hb.block g (by omega)).trans hg,rest⟩
theorem own_base {w:World} {B B' n size:Nat} {e:TypeId} {v:Value} {xs:List Value} (h:w.ownsRow B e size v n xs) (hB:B'≤B):w.ownsRow B' e size v n xs:=by
 refine ⟨h.1,?_⟩
 rcases h.2 with h0 | ⟨g,cap,cur,hv,hb1,rest⟩
 ·exact .inl h0
 ·exact .inr ⟨g,cap,cur,hv,by omega,rest⟩
theorem T3.pushed {a b c:List Value} {w V V':World} (h:T3 a b c w V) (hb:Below (w.heap.size+4) V V'):T3 a b c w V' :=
 ⟨h.one.below hb (by omega),h.two.below hb (by omega),h.three.below hb (by omega),h.below.trans (hb.mono (by omega))⟩
theorem faults_turn {ps:List (Int × Int)} {most k B:Nat} {wr:World} {us:List Value} {p:Int × Int} (hp:ps[k]?=some p) (h:ErrsIs (badK ps most k) B wr us) :
  us.length≤most∧us.length≤ps.length∧(us.length=most→ErrsIs (badK ps most ps.length) B wr us) ∧
  (∀ w',Below wr.heap.size wr w'→okP p=true→ErrsIs (badK ps most (k+1)) B w' us) ∧
  (∀ w' u,Below wr.heap.size wr w'→us.length≠most→okP p=false→ErrIs p B w' u→ErrsIs (badK ps most (k+1)) B w' (us++[u])):=by
 have hk:=(List.getElem?_eq_some_iff.1 hp).1
 have hl:us.length≤most:=by rw [h.1];exact badK_len ps most k
 refine ⟨hl,by rw [h.1];exact badK_len5 ps most k,fun e=>?_,fun w' hb ho=>?_,fun w' u hb hne ho hu=>?_⟩
 ·rw [badK_full (ps:=ps) (most:=most) (n:=ps.length - k) (k:=k) (by omega) (by rw [← h.1];exact e)];exact h
 ·rw [(badK_more hp).1 ho];exact h.below hb
 ·rw [(badK_more hp).2.1 ho (by rw [← h.1];omega)];exact (h.below hb).snoc hu

theorem index5_0 (a b c d e:Value) (w:World):(Instr.index 195 (.agg #[a,b,c,d,e]) (.int .i64 0)).run Tryz.prog w=.ok a w:=by kernel_rfl
theorem index5_1 (a b c d e:Value) (w:World):(Instr.index 195 (.agg #[a,b,c,d,e]) (.int .i64 1)).run Tryz.prog w=.ok b w:=by kernel_rfl
theorem index5_2 (a b c d e:Value) (w:World):(Instr.index 195 (.agg #[a,b,c,d,e]) (.int .i64 2)).run Tryz.prog w=.ok c w:=by kernel_rfl
theorem index5_3 (a b c d e:Value) (w:World):(Instr.index 195 (.agg #[a,b,c,d,e]) (.int .i64 3)).run Tryz.prog w=.ok d w:=by kernel_rfl
theorem index5_4 (a b c d e:Value) (w:World):(Instr.index 195 (.agg #[a,b,c,d,e]) (.int .i64 4)).run Tryz.prog w=.ok e w:=by kernel_rfl

set_option maxHeartbeats 12800000 in
set_option maxRecDepth 100000 in
theorem safeFaults_walk (p1 p2 p3 p4 p5:Int × Int) (most:Nat) (hm:1≤most) (x0 x1 x2 y0 y1 y2 z0 z1 z2:Value) (w:World)
  (h1:∀ V,Below w.heap.size w V→Calls Tryz.prog 123 #[.agg #[x0,x1,x2],.agg #[z0,z1,z2]] V (ErrTo p1 V))
  (h2:∀ V,Below w.heap.size w V→Calls Tryz.prog 125 #[.agg #[x0,x1,x2],.agg #[z0,z1,z2]] V (ErrTo p2 V))
  (h3:∀ V,Below w.heap.size w V→Calls Tryz.prog 127 #[.agg #[x0,x1,x2],.agg #[z0,z1,z2]] V (ErrTo p3 V))
  (h4:∀ V,Below w.heap.size w V→Calls Tryz.prog 129 #[.agg #[x0,x1,x2],.agg #[z0,z1,z2]] V (ErrTo p4 V))
  (h5:∀ V,Below w.heap.size w V→Calls Tryz.prog 131 #[.agg #[y0,y1,y2],.agg #[z0,z1,z2]] V (ErrTo p5 V)) :
  Calls Tryz.prog 86 #[.agg #[x0,x1,x2],.agg #[y0,y1,y2],.agg #[z0,z1,z2],.int .i64 (most:Int)] w (FaultsTo [p1,p2,p3,p4,p5] most w):=by
 have T0:=(T3.new w [x0,x1,x2] [y0,y1,y2] [z0,z1,z2] 26 29 44).alloc (.cells #[.func (.func 122) #[] #[.pointer (some ⟨w.heap.size,0,none⟩),.pointer (some ⟨w.heap.size+2,0,none⟩)],.func (.func 124) #[] #[.pointer (some ⟨w.heap.size,0,none⟩),.pointer (some ⟨w.heap.size+2,0,none⟩)],.func (.func 126) #[] #[.pointer (some ⟨w.heap.size,0,none⟩),.pointer (some ⟨w.heap.size+2,0,none⟩)],.func (.func 128) #[] #[.pointer (some ⟨w.heap.size,0,none⟩),.pointer (some ⟨w.heap.size+2,0,none⟩)],.func (.func 130) #[] #[.pointer (some ⟨w.heap.size+1,0,none⟩),.pointer (some ⟨w.heap.size+2,0,none⟩)]] 195)
 have C1:=Lib.hid (fun (V:World) (T:T3 [x0,x1,x2] [y0,y1,y2] [z0,z1,z2] w V)=>safeF1_any p1 _ _ _ _ _ _ _ _ V T.one T.three (h1 V T.below))
 have C2:=Lib.hid (fun (V:World) (T:T3 [x0,x1,x2] [y0,y1,y2] [z0,z1,z2] w V)=>safeF2_any p2 _ _ _ _ _ _ _ _ V T.one T.three (h2 V T.below))
 have C3:=Lib.hid (fun (V:World) (T:T3 [x0,x1,x2] [y0,y1,y2] [z0,z1,z2] w V)=>safeF3_any p3 _ _ _ _ _ _ _ _ V T.one T.three (h3 V T.below))
 have C4:=Lib.hid (fun (V:World) (T:T3 [x0,x1,x2] [y0,y1,y2] [z0,z1,z2] w V)=>safeF4_any p4 _ _ _ _ _ _ _ _ V T.one T.three (h4 V T.below))
 have C5:=Lib.hid (fun (V:World) (T:T3 [x0,x1,x2] [y0,y1,y2] [z0,z1,z2] w V)=>safeF5_any p5 _ _ _ _ _ _ _ _ V T.two T.three (h5 V T.below))
 have HT0:=Lib.hid T0
 have HM:=Lib.hid hm
 have hmf:∀ (fn:Fn) (first cap:Array Value) (w:World),(Instr.makeFunc fn first cap).run Tryz.prog w=.ok (.func fn first cap) w:=fun _ _ _ _=>rfl
 have hst:=fun (a:Addr) (fn:Fn) (first cap:Array Value) (V:World) (m:Mode)=>run_store Tryz.prog V a (.func fn first cap) m rfl
 clear T0 h1 h2 h3 h4 h5 hm
 go_enter Tryz.func86,Tryz.ntmps86
 go_wp2
 go_loopw [10,21] (FaultRel [p1,p2,p3,p4,p5] most [x0,x1,x2] [y0,y1,y2] [z0,z1,z2] w) (fun _ i _=>5 - (intOf i).toNat)
 case atStart=>exact ⟨0,[],by omega,rfl,by rw [badK_none];exact errsIs_none,⟨by simp,.inl ⟨rfl,rfl⟩⟩,by simp,HT0.out⟩
 case round =>
  obtain ⟨k,us,hk,hi,hus,hown,hz4,T1⟩:=hrel
  obtain ⟨A',c',rfl,hc'⟩:=own_slice hown
  have HUS:=Lib.hid hus
  have HOW:=Lib.hid hown
  have HT1:=Lib.hid T1
  have HZ:Hid (w.heap.size+4≤wr.heap.size):=hz4
  clear hus hown T1 HT0 hc' hz4
  by_cases hlt:k<5
  ·rcases (by omega:k=0∨k=1∨k=2∨k=3∨k=4) with rfl | rfl | rfl | rfl | rfl
   ·replace hi:_=Value.int IntKind.i64 0:=hi
    subst hi
    have hix:=index5_0
    have HF:=Lib.hid (faults_turn (p:=p1) rfl HUS.out)
    have HC:=Lib.hid (C1.out wr HT1.out)
    clear C1 C2 C3 C4 C5 HUS hlt hk
    generalize hn:us.length=n at *
    have HN:=Lib.hid hn
    clear hn
    by_cases hm:n=most
    ·have hd:((n:Int) == (most:Int))=true:=by simp [hm]
     have HR:=Lib.hid (HF.out.2.2.1 hm)
     clear hm HC HF
     go_wp2
     go_ret
     exact ⟨_,us,rfl,HR.out,by rw [HN.out];exact own_base HOW.out (by omega),HT1.out.below⟩
    ·have hd:((n:Int) == (most:Int))=false:=by simp;omega
     have HNE:=Lib.hid hm
     clear hm
     go_wp2_with fail
     refine HC.out.mono ?_
     rintro e w1 ⟨u,rfl,hu,hb⟩
     have HT2:=Lib.hid (HT1.out.keep hb)
     have HO2:=Lib.hid (own_belowS HOW.out hb (Nat.le_refl _))
     have HU:=Lib.hid (hu.base (show w.heap.size≤wr.heap.size by have:=HZ.out;omega))
     have HZ2:Hid (w.heap.size+4≤w1.heap.size):=by have h1:=HZ.out;have h2:=hb.size;show _≤_;omega
     cases hok:okP p1 with
     | true =>
      have hn:=hu.nil hok
      subst hn
      have HR:=Lib.hid (HF.out.2.2.2.1 w1 hb hok)
      clear hok HF HC hu hb
      go_wp2
      go_roundw
      case rel=>exact ⟨1,us,by omega,rfl,HR.out,by rw [HN.out];exact HO2.out,HZ2.out,HT2.out⟩
      case measure=>simp [intOf]
     | false =>
      obtain ⟨t,v,rfl⟩:=errIs_iface hu hok
      have HR:=Lib.hid (HF.out.2.2.2.2 w1 _ hb HNE.out hok HU.out)
      have HL:Hid (n≤2000000):=by show _≤_;have:=HF.out.2.1;simp at this;omega
      clear hok HF HC hu hb
      go_wp2_with (at_builtin;refine wpList_pushS 152 36 .nilIface 16 Tryz.underlying152 infoErrO rfl (by decide) (by decide) rfl (.tmp 32) (.tmp 34) rfl (w.heap.size+4) _ n us (.iface t v) rfl HO2.out HZ2.out HL.out rfl (by simp [go_sem]) ?_;intro v3 w3 hown3 hb3 hB3 hs3)
      have HO3:=Lib.hid hown3
      have HS3:=Lib.hid hs3
      have HB3:=Lib.hid hb3
      clear hown3 hs3 hb3
      go_wp2
      go_roundw
      case rel=>exact ⟨1,us++[.iface t v],by omega,rfl,HR.out.stay HS3.out,by rw [List.length_append,List.length_singleton,HN.out];exact HO3.out,hB3,HT2.out.pushed HB3.out⟩
      case measure=>simp [intOf]
   ·replace hi:_=Value.int IntKind.i64 1:=hi
    subst hi
    have hix:=index5_1
    have HF:=Lib.hid (faults_turn (p:=p2) rfl HUS.out)
    have HC:=Lib.hid (C2.out wr HT1.out)
    clear C1 C2 C3 C4 C5 HUS hlt hk
    generalize hn:us.length=n at *
    have HN:=Lib.hid hn
    clear hn
    by_cases hm:n=most
    ·have hd:((n:Int) == (most:Int))=true:=by simp [hm]
     have HR:=Lib.hid (HF.out.2.2.1 hm)
     clear hm HC HF
     go_wp2
     go_ret
     exact ⟨_,us,rfl,HR.out,by rw [HN.out];exact own_base HOW.out (by omega),HT1.out.below⟩
    ·have hd:((n:Int) == (most:Int))=false:=by simp;omega
     have HNE:=Lib.hid hm
     clear hm
     go_wp2_with fail
     refine HC.out.mono ?_
     rintro e w1 ⟨u,rfl,hu,hb⟩
     have HT2:=Lib.hid (HT1.out.keep hb)
     have HO2:=Lib.hid (own_belowS HOW.out hb (Nat.le_refl _))
     have HU:=Lib.hid (hu.base (show w.heap.size≤wr.heap.size by have:=HZ.out;omega))
     have HZ2:Hid (w.heap.size+4≤w1.heap.size):=by have h1:=HZ.out;have h2:=hb.size;show _≤_;omega
     cases hok:okP p2 with
     | true =>
      have hn:=hu.nil hok
      subst hn
      have HR:=Lib.hid (HF.out.2.2.2.1 w1 hb hok)
      clear hok HF HC hu hb
      go_wp2
      go_roundw
      case rel=>exact ⟨2,us,by omega,rfl,HR.out,by rw [HN.out];exact HO2.out,HZ2.out,HT2.out⟩
      case measure=>simp [intOf]
     | false =>
      obtain ⟨t,v,rfl⟩:=errIs_iface hu hok
      have HR:=Lib.hid (HF.out.2.2.2.2 w1 _ hb HNE.out hok HU.out)
      have HL:Hid (n≤2000000):=by show _≤_;have:=HF.out.2.1;simp at this;omega
      clear hok HF HC hu hb
      go_wp2_with (at_builtin;refine wpList_pushS 152 36 .nilIface 16 Tryz.underlying152 infoErrO rfl (by decide) (by decide) rfl (.tmp 32) (.tmp 34) rfl (w.heap.size+4) _ n us (.iface t v) rfl HO2.out HZ2.out HL.out rfl (by simp [go_sem]) ?_;intro v3 w3 hown3 hb3 hB3 hs3)
      have HO3:=Lib.hid hown3
      have HS3:=Lib.hid hs3
      have HB3:=Lib.hid hb3
      clear hown3 hs3 hb3
      go_wp2
      go_roundw
      case rel=>exact ⟨2,us++[.iface t v],by omega,rfl,HR.out.stay HS3.out,by rw [List.length_append,List.length_singleton,HN.out];exact HO3.out,hB3,HT2.out.pushed HB3.out⟩
      case measure=>simp [intOf]
   ·replace hi:_=Value.int IntKind.i64 2:=hi
    subst hi
    have hix:=index5_2
    have HF:=Lib.hid (faults_turn (p:=p3) rfl HUS.out)
    have HC:=Lib.hid (C3.out wr HT1.out)
    clear C1 C2 C3 C4 C5 HUS hlt hk
    generalize hn:us.length=n at *
    have HN:=Lib.hid hn
    clear hn
    by_cases hm:n=most
    ·have hd:((n:Int) == (most:Int))=true:=by simp [hm]
     have HR:=Lib.hid (HF.out.2.2.1 hm)
     clear hm HC HF
     go_wp2
     go_ret
     exact ⟨_,us,rfl,HR.out,by rw [HN.out];exact own_base HOW.out (by omega),HT1.out.below⟩
    ·have hd:((n:Int) == (most:Int))=false:=by simp;omega
     have HNE:=Lib.hid hm
     clear hm
     go_wp2_with fail
     refine HC.out.mono ?_
     rintro e w1 ⟨u,rfl,hu,hb⟩
     have HT2:=Lib.hid (HT1.out.keep hb)
     have HO2:=Lib.hid (own_belowS HOW.out hb (Nat.le_refl _))
     have HU:=Lib.hid (hu.base (show w.heap.size≤wr.heap.size by have:=HZ.out;omega))
     have HZ2:Hid (w.heap.size+4≤w1.heap.size):=by have h1:=HZ.out;have h2:=hb.size;show _≤_;omega
     cases hok:okP p3 with
     | true =>
      have hn:=hu.nil hok
      subst hn
      have HR:=Lib.hid (HF.out.2.2.2.1 w1 hb hok)
      clear hok HF HC hu hb
      go_wp2
      go_roundw
      case rel=>exact ⟨3,us,by omega,rfl,HR.out,by rw [HN.out];exact HO2.out,HZ2.out,HT2.out⟩
      case measure=>simp [intOf]
     | false =>
      obtain ⟨t,v,rfl⟩:=errIs_iface hu hok
      have HR:=Lib.hid (HF.out.2.2.2.2 w1 _ hb HNE.out hok HU.out)
      have HL:Hid (n≤2000000):=by show _≤_;have:=HF.out.2.1;simp at this;omega
      clear hok HF HC hu hb
      go_wp2_with (at_builtin;refine wpList_pushS 152 36 .nilIface 16 Tryz.underlying152 infoErrO rfl (by decide) (by decide) rfl (.tmp 32) (.tmp 34) rfl (w.heap.size+4) _ n us (.iface t v) rfl HO2.out HZ2.out HL.out rfl (by simp [go_sem]) ?_;intro v3 w3 hown3 hb3 hB3 hs3)
      have HO3:=Lib.hid hown3
      have HS3:=Lib.hid hs3
      have HB3:=Lib.hid hb3
      clear hown3 hs3 hb3
      go_wp2
      go_roundw
      case rel=>exact ⟨3,us++[.iface t v],by omega,rfl,HR.out.stay HS3.out,by rw [List.length_append,List.length_singleton,HN.out];exact HO3.out,hB3,HT2.out.pushed HB3.out⟩
      case measure=>simp [intOf]
   ·replace hi:_=Value.int IntKind.i64 3:=hi
    subst hi
    have hix:=index5_3
    have HF:=Lib.hid (faults_turn (p:=p4) rfl HUS.out)
    have HC:=Lib.hid (C4.out wr HT1.out)
    clear C1 C2 C3 C4 C5 HUS hlt hk
    generalize hn:us.length=n at *
    have HN:=Lib.hid hn
    clear hn
    by_cases hm:n=most
    ·have hd:((n:Int) == (most:Int))=true:=by simp [hm]
     have HR:=Lib.hid (HF.out.2.2.1 hm)
     clear hm HC HF
     go_wp2
     go_ret
     exact ⟨_,us,rfl,HR.out,by rw [HN.out];exact own_base HOW.out (by omega),HT1.out.below⟩
    ·have hd:((n:Int) == (most:Int))=false:=by simp;omega
     have HNE:=Lib.hid hm
     clear hm
     go_wp2_with fail
     refine HC.out.mono ?_
     rintro e w1 ⟨u,rfl,hu,hb⟩
     have HT2:=Lib.hid (HT1.out.keep hb)
     have HO2:=Lib.hid (own_belowS HOW.out hb (Nat.le_refl _))
     have HU:=Lib.hid (hu.base (show w.heap.size≤wr.heap.size by have:=HZ.out;omega))
     have HZ2:Hid (w.heap.size+4≤w1.heap.size):=by have h1:=HZ.out;have h2:=hb.size;show _≤_;omega
     cases hok:okP p4 with
     | true =>
      have hn:=hu.nil hok
      subst hn
      have HR:=Lib.hid (HF.out.2.2.2.1 w1 hb hok)
      clear hok HF HC hu hb
      go_wp2
      go_roundw
      case rel=>exact ⟨4,us,by omega,rfl,HR.out,by rw [HN.out];exact HO2.out,HZ2.out,HT2.out⟩
      case measure=>simp [intOf]
     | false =>
      obtain ⟨t,v,rfl⟩:=errIs_iface hu hok
      have HR:=Lib.hid (HF.out.2.2.2.2 w1 _ hb HNE.out hok HU.out)
      have HL:Hid (n≤2000000):=by show _≤_;have:=HF.out.2.1;simp at this;omega
      clear hok HF HC hu hb
      go_wp2_with (at_builtin;refine wpList_pushS 152 36 .nilIface 16 Tryz.underlying152 infoErrO rfl (by decide) (by decide) rfl (.tmp 32) (.tmp 34) rfl (w.heap.size+4) _ n us (.iface t v) rfl HO2.out HZ2.out HL.out rfl (by simp [go_sem]) ?_;intro v3 w3 hown3 hb3 hB3 hs3)
      have HO3:=Lib.hid hown3
      have HS3:=Lib.hid hs3
      have HB3:=Lib.hid hb3
      clear hown3 hs3 hb3
      go_wp2
      go_roundw
      case rel=>exact ⟨4,us++[.iface t v],by omega,rfl,HR.out.stay HS3.out,by rw [List.length_append,List.length_singleton,HN.out];exact HO3.out,hB3,HT2.out.pushed HB3.out⟩
      case measure=>simp [intOf]
   ·replace hi:_=Value.int IntKind.i64 4:=hi
    subst hi
    have hix:=index5_4
    have HF:=Lib.hid (faults_turn (p:=p5) rfl HUS.out)
    have HC:=Lib.hid (C5.out wr HT1.out)
    clear C1 C2 C3 C4 C5 HUS hlt hk
    generalize hn:us.length=n at *
    have HN:=Lib.hid hn
    clear hn
    by_cases hm:n=most
    ·have hd:((n:Int) == (most:Int))=true:=by simp [hm]
     have HR:=Lib.hid (HF.out.2.2.1 hm)
     clear hm HC HF
     go_wp2
     go_ret
     exact ⟨_,us,rfl,HR.out,by rw [HN.out];exact own_base HOW.out (by omega),HT1.out.below⟩
    ·have hd:((n:Int) == (most:Int))=false:=by simp;omega
     have HNE:=Lib.hid hm
     clear hm
     go_wp2_with fail
     refine HC.out.mono ?_
     rintro e w1 ⟨u,rfl,hu,hb⟩
     have HT2:=Lib.hid (HT1.out.keep hb)
     have HO2:=Lib.hid (own_belowS HOW.out hb (Nat.le_refl _))
     have HU:=Lib.hid (hu.base (show w.heap.size≤wr.heap.size by have:=HZ.out;omega))
     have HZ2:Hid (w.heap.size+4≤w1.heap.size):=by have h1:=HZ.out;have h2:=hb.size;show _≤_;omega
     cases hok:okP p5 with
     | true =>
      have hn:=hu.nil hok
      subst hn
      have HR:=Lib.hid (HF.out.2.2.2.1 w1 hb hok)
      clear hok HF HC hu hb
      go_wp2
      go_roundw
      case rel=>exact ⟨5,us,by omega,rfl,HR.out,by rw [HN.out];exact HO2.out,HZ2.out,HT2.out⟩
      case measure=>simp [intOf]
     | false =>
      obtain ⟨t,v,rfl⟩:=errIs_iface hu hok
      have HR:=Lib.hid (HF.out.2.2.2.2 w1 _ hb HNE.out hok HU.out)
      have HL:Hid (n≤2000000):=by show _≤_;have:=HF.out.2.1;simp at this;omega
      clear hok HF HC hu hb
      go_wp2_with (at_builtin;refine wpList_pushS 152 36 .nilIface 16 Tryz.underlying152 infoErrO rfl (by decide) (by decide) rfl (.tmp 32) (.tmp 34) rfl (w.heap.size+4) _ n us (.iface t v) rfl HO2.out HZ2.out HL.out rfl (by simp [go_sem]) ?_;intro v3 w3 hown3 hb3 hB3 hs3)
      have HO3:=Lib.hid hown3
      have HS3:=Lib.hid hs3
      have HB3:=Lib.hid hb3
      clear hown3 hs3 hb3
      go_wp2
      go_roundw
      case rel=>exact ⟨5,us++[.iface t v],by omega,rfl,HR.out.stay HS3.out,by rw [List.length_append,List.length_singleton,HN.out];exact HO3.out,hB3,HT2.out.pushed HB3.out⟩
      case measure=>simp [intOf]
  ·have hk5:k=5:=by omega
   subst hk5
   replace hi:_=Value.int IntKind.i64 5:=hi
   subst hi
   have kwr:=HT1.out.below
   clear C1 C2 C3 C4 C5
   go_wp2
   go_ret
   exact ⟨_,us,rfl,HUS.out,own_base HOW.out (by omega),kwr⟩

def ApartRel (ls:List LoadD) (l:List PodD) (a b:List Value) (w:World) (v:Value) (wr:World):Prop:=∃ k:Nat,k≤l.length∧v=.int .i64 k∧apartFrom ls l (l.drop k) k=apartOf ls l∧T2 a b w wr

set_option maxHeartbeats 6400000 in
set_option maxRecDepth 100000 in
theorem apartCheck_any (ls:List LoadD) (l:List PodD) (A2 A4:Option Addr) (n2 c2 n4 c4:Nat) (s1 s3 v1 v2:Value) (w:World)
  (hn2:n2=ls.length) (hl2:n2≤400) (hr2:Recs 5 cellsL w w.heap.size A2 ls) (hn4:n4=l.length) (hl4:n4≤400) (hc4:n4≤c4) (hr4:Recs 8 cellsP w w.heap.size A4 l) :
  Calls Tryz.prog 125 #[.agg #[s1,.slice A2 n2 c2,s3],.agg #[.slice A4 n4 c4,v1,v2]] w (ErrTo (apartOf ls l) w):=by
 have T0:=T2.new w [s1,.slice A2 n2 c2,s3] [.slice A4 n4 c4,v1,v2] 26 44
 have HN4:=Lib.hid hn4
 have HR4:=Lib.hid hr4
 have HC:=Lib.hid (fun (V:World) (hV:Below w.heap.size w V) (p:PodD) (k gs gp:Nat) (hs:Bf V gs [s1,.slice A2 n2 c2,s3]) (hp:Bf V gp (cellsP p)) (hk:k=(l.take k).length) (hkl:k≤1000) =>
  apContains_any ls p (l.take k) gs gp A2 n2 c2 s1 s3 A4 k c4 V hs hp hn2 hl2 ((hr2.below hV (Nat.le_refl _)).more hV.size) hk hkl (((hr4.below hV (Nat.le_refl _)).more hV.size).take k))
 have HT0:=Lib.hid T0
 have hmf:∀ (fn:Fn) (first cap:Array Value) (w:World),(Instr.makeFunc fn first cap).run Tryz.prog w=.ok (.func fn first cap) w:=fun _ _ _ _=>rfl
 clear hr2 hn2 hr4 hn4 T0
 go_enter Tryz.func125,Tryz.ntmps125
 go_wp2
 go_loopw [10] (ApartRel ls l [s1,.slice A2 n2 c2,s3] [.slice A4 n4 c4,v1,v2] w) (fun v _=>n4 - (intOf v).toNat)
 case atStart=>exact ⟨0,by omega,rfl,rfl,HT0.out⟩
 case round =>
  obtain ⟨k,hk,rfl,hp,T1⟩:=hrel
  have HP:=Lib.hid hp
  have HT1:=Lib.hid T1
  clear hp
  by_cases hlt:k<n4
  ·have hkl:k<l.length:=by have:=HN4.out;omega
   have kwr:=T1.below
   obtain ⟨b,o,rfl,hb,he⟩:=HR4.out.at hkl
   generalize hx:l[k]=p at *
   have HX:=Lib.hid (apartFrom_at hkl hx HP.out)
   clear hx
   have e0:wr.cell? ⟨b,o+k * 8,none⟩=some (.int .i64 p.id):=(kwr.cell (p:=⟨b,o+k * 8,none⟩) hb).trans (he 0 _ rfl)
   have e1:wr.cell? ⟨b,o+k * 8+1,none⟩=some (.int .i64 p.load):=(kwr.cell (p:=⟨b,o+k * 8+1,none⟩) hb).trans (he 1 _ rfl)
   have e2:wr.cell? ⟨b,o+k * 8+2,none⟩=some (.int .i64 p.prio):=(kwr.cell (p:=⟨b,o+k * 8+2,none⟩) hb).trans (he 2 _ rfl)
   have e3:wr.cell? ⟨b,o+k * 8+3,none⟩=some (.int .u64 p.req.a):=(kwr.cell (p:=⟨b,o+k * 8+3,none⟩) hb).trans (he 3 _ rfl)
   have e4:wr.cell? ⟨b,o+k * 8+4,none⟩=some (.int .u64 p.req.b):=(kwr.cell (p:=⟨b,o+k * 8+4,none⟩) hb).trans (he 4 _ rfl)
   have e5:wr.cell? ⟨b,o+k * 8+5,none⟩=some (.int .u64 p.req.c):=(kwr.cell (p:=⟨b,o+k * 8+5,none⟩) hb).trans (he 5 _ rfl)
   have e6:wr.cell? ⟨b,o+k * 8+6,none⟩=some (.int .u64 p.req.d):=(kwr.cell (p:=⟨b,o+k * 8+6,none⟩) hb).trans (he 6 _ rfl)
   have e7:wr.cell? ⟨b,o+k * 8+7,none⟩=some (.int .i64 p.node):=(kwr.cell (p:=⟨b,o+k * 8+7,none⟩) hb).trans (he 7 _ rfl)
   have hbw:b<wr.heap.size:=Nat.lt_of_lt_of_le hb kwr.size
   obtain ⟨b0,b1,b2,b3⟩:=T1.two.cells3
   have TW:=T1.alloc (.cells #[.int .i64 p.id,.int .i64 p.load,.int .i64 p.prio,.int .u64 p.req.a,.int .u64 p.req.b,.int .u64 p.req.c,.int .u64 p.req.d,.int .i64 p.node] 63)
   have QW:Bf (wr.alloc (.cells #[.int .i64 p.id,.int .i64 p.load,.int .i64 p.prio,.int .u64 p.req.a,.int .u64 p.req.b,.int .u64 p.req.c,.int .u64 p.req.d,.int .i64 p.node] 63)) wr.heap.size (cellsP p):=Bf.new wr (cellsP p) _ rfl
   have HCW:=Lib.hid (HC.out _ TW.below p k w.heap.size wr.heap.size TW.one QW (by simp;omega) (by omega))
   have HTW:=Lib.hid TW
   have hk0:(0:Int)≤(k:Int):=by omega
   have hkc:(k:Int)≤(c4:Int):=by omega
   clear he T1 kwr TW QW
   go_wp2_with fail
   refine HCW.out.mono ?_
   rintro e w2 ⟨rfl,hb2⟩
   have HT2:=Lib.hid (HTW.out.keep hb2)
   clear hb2 HCW HTW e0 e1 e2 e3 e4 e5 e6 e7 b0 b1 b2 b3
   cases hany:(l.take k).any (clashD ls p) with
   | true =>
    have HE:=Lib.hid (HX.out.1 hany)
    clear hany
    go_wp2
    go_ret
    exact ⟨_,rfl,.inr (.inr ⟨k,w2.heap.size,by rw [HE.out],rfl,HT2.out.below.size,by rw [HE.out];exact heap_alloc_new w2 _⟩),HT2.out.below.alloc HT2.out.below.size _⟩
   | false =>
    have HE:=Lib.hid (HX.out.2 hany)
    clear hany
    go_wp2
    go_roundw
    case rel=>exact ⟨k+1,by omega,by go_num,HE.out,HT2.out⟩
    case measure=>simp [intOf];omega
  ·have HE:=Lib.hid (apartFrom_end (by have:=HN4.out;omega) HP.out)
   have kwr:=T1.below
   clear T1
   go_wp2
   go_ret
   exact ⟨_,rfl,.inl ⟨HE.out,rfl⟩,kwr⟩
def SizeRel (load:Int) (l:List PodD) (w:World) (n i:Value) (wr:World):Prop:=∃ k:Nat,k≤l.length∧n=.int .i64 (sizeD load (l.take k):Nat)∧i=.int .i64 k∧Below w.heap.size w wr

set_option maxHeartbeats 6400000 in
set_option maxRecDepth 100000 in
theorem budgetSize_any (l:List PodD) (load:Int) (A:Option Addr) (n c:Nat) (v1 v2:Value) (w:World) (hn:n=l.length) (hl:n≤1000) (hr:Recs 8 cellsP w w.heap.size A l) :
  Calls Tryz.prog 158 #[.agg #[.slice A n c,v1,v2],.int .i64 load] w fun e w'=>e=.returned (.int .i64 (sizeD load l:Nat))∧Below w.heap.size w w':=by
 have b00:Below w.heap.size w (w.alloc (.cells #[.slice A n c,v1,v2] 44)):=(Below.refl _ _).alloc (Nat.le_refl _) _
 have HR:=Lib.hid hr
 have HN:=Lib.hid hn
 have HB:=Lib.hid b00
 clear hr hn b00
 go_enter Tryz.func158,Tryz.ntmps158
 go_wp2
 go_loopw [5,11] (SizeRel load l w) (fun _ i _=>n - (intOf i).toNat)
 case atStart=>exact ⟨0,by omega,by simp [sizeD],rfl,HB.out⟩
 case round =>
  obtain ⟨k,hk,rfl,rfl,kwr⟩:=hrel
  have HK:=Lib.hid kwr
  by_cases hlt:k<n
  ·have hkl:k<l.length:=by have:=HN.out;omega
   obtain ⟨b,o,rfl,hb,he⟩:=HR.out.at hkl
   have hq:sizeD load (l.take k)≤1000:=by have:=size_le9 load (l.take k);simp at this;omega
   have HI:=Lib.hid (fun h1 h2=>size_in9 (load:=load) hkl rfl h1 h2)
   have HO:=Lib.hid (fun h1=>size_out9 (load:=load) hkl rfl h1)
   generalize l[k]=p at *
   generalize sizeD load (l.take k)=q at *
   have e0:wr.cell? ⟨b,o+k * 8,none⟩=some (.int .i64 p.id):=(kwr.cell (p:=⟨b,o+k * 8,none⟩) hb).trans (he 0 _ rfl)
   have e1:wr.cell? ⟨b,o+k * 8+1,none⟩=some (.int .i64 p.load):=(kwr.cell (p:=⟨b,o+k * 8+1,none⟩) hb).trans (he 1 _ rfl)
   have e2:wr.cell? ⟨b,o+k * 8+2,none⟩=some (.int .i64 p.prio):=(kwr.cell (p:=⟨b,o+k * 8+2,none⟩) hb).trans (he 2 _ rfl)
   have e3:wr.cell? ⟨b,o+k * 8+3,none⟩=some (.int .u64 p.req.a):=(kwr.cell (p:=⟨b,o+k * 8+3,none⟩) hb).trans (he 3 _ rfl)
   have e4:wr.cell? ⟨b,o+k * 8+4,none⟩=some (.int .u64 p.req.b):=(kwr.cell (p:=⟨b,o+k * 8+4,none⟩) hb).trans (he 4 _ rfl)
   have e5:wr.cell? ⟨b,o+k * 8+5,none⟩=some (.int .u64 p.req.c):=(kwr.cell (p:=⟨b,o+k * 8+5,none⟩) hb).trans (he 5 _ rfl)
   have e6:wr.cell? ⟨b,o+k * 8+6,none⟩=some (.int .u64 p.req.d):=(kwr.cell (p:=⟨b,o+k * 8+6,none⟩) hb).trans (he 6 _ rfl)
   have e7:wr.cell? ⟨b,o+k * 8+7,none⟩=some (.int .i64 p.node):=(kwr.cell (p:=⟨b,o+k * 8+7,none⟩) hb).trans (he 7 _ rfl)
   have hbw:b<wr.heap.size:=Nat.lt_of_lt_of_le hb kwr.size
   clear he kwr
   by_cases h1:p.load=load
   ·have d1:(p.load == load)=true:=by simp [h1]
    by_cases h2:p.node=0
    ·have d2:(p.node != 0)=false:=by simp [h2]
     have HE:=Lib.hid (HO.out (fun _=>h2))
     clear h1 h2
     go_wp2
     go_roundw
     case rel=>exact ⟨k+1,by omega,by rw [HE.out],by go_num,HK.out.alloc HK.out.size _⟩
     case measure=>simp [intOf];omega
    ·have d2:(p.node != 0)=true:=by simp [h2]
     have HE:=Lib.hid (HI.out h1 h2)
     clear h1 h2
     go_wp2
     go_roundw
     case rel=>exact ⟨k+1,by omega,by rw [HE.out];exact congrArg (Value.int IntKind.i64) (by omega),by go_num,HK.out.alloc HK.out.size _⟩
     case measure=>simp [intOf];omega
   ·have d1:(p.load == load)=false:=by simp [h1]
    have HE:=Lib.hid (HO.out (fun e=>absurd e h1))
    clear h1
    go_wp2
    go_roundw
    case rel=>exact ⟨k+1,by omega,by rw [HE.out],by go_num,HK.out.alloc HK.out.size _⟩
    case measure=>simp [intOf];omega
  ·have HE:=Lib.hid (size_end9 (load:=load) (l:=l) (k:=k) (by have:=HN.out;omega))
   clear kwr
   go_wp2
   go_ret
   exact ⟨ret_int (by rw [HE.out]),HK.out⟩
set_option maxHeartbeats 3200000 in
theorem sizeFault_any (x:LoadD) (n:Int) (w:World):Calls Tryz.prog 157 #[aggL x,.int .i64 n] w fun e w'=>e=.returned (.int .i64 (fault9 x n))∧Below w.heap.size w w':=by
 have b00:Below w.heap.size w (w.alloc (.cells #[.int .i64 x.id,.bool x.apart,.int .i64 x.skew,.int .i64 x.min,.int .i64 x.max] 61)):=(Below.refl _ _).alloc (Nat.le_refl _) _
 by_cases h1:n<x.min
 ·have HE:=Lib.hid (fault9_few h1)
  have d1:decide (n<x.min)=true:=decide_eq_true h1
  clear h1
  go_enter Tryz.func157,Tryz.ntmps157
  go_wp2
  go_ret
  exact ⟨ret_int HE.out.symm,b00⟩
 ·have d1:decide (n<x.min)=false:=decide_eq_false h1
  by_cases h2:x.max<n
  ·have HE:=Lib.hid (fault9_many h1 h2)
   have d2:decide (x.max<n)=true:=decide_eq_true h2
   clear h1 h2
   go_enter Tryz.func157,Tryz.ntmps157
   go_wp2
   go_ret
   exact ⟨ret_int HE.out.symm,b00⟩
  ·have HE:=Lib.hid (fault9_none h1 h2)
   have d2:decide (x.max<n)=false:=decide_eq_false h2
   clear h1 h2
   go_enter Tryz.func157,Tryz.ntmps157
   go_wp2
   go_ret
   exact ⟨ret_int HE.out.symm,b00⟩
def usedV (b:Bool):Value:=if b=true then .iface 42 (.int .i64 15) else .nilIface
theorem ret_used {b:Bool} {v:Value} (h:usedV b=v):Ending.returned v=.returned (usedV b):=by rw [h]
set_option maxHeartbeats 3200000 in
theorem budgetUsed_any (A4 A5:Option Addr) (n4 c4 n5 c5:Nat) (x1 x2 t1 t2:Int) (w:World) :
  Calls Tryz.prog 131 #[.agg #[.slice A5 n5 c5,.int .i64 x1,.int .i64 x2],.agg #[.slice A4 n4 c4,.int .i64 t1,.int .i64 t2]] w fun e w'=>e=.returned (usedV (usedD x1 x2 t1 t2))∧Below w.heap.size w w':=by
 have b00:=below_two w (.cells #[.slice A5 n5 c5,.int .i64 x1,.int .i64 x2] 29) (.cells #[.slice A4 n4 c4,.int .i64 t1,.int .i64 t2] 44)
 by_cases h1:x1<t1
 ·have HE:=Lib.hid (show usedV (usedD x1 x2 t1 t2)=.iface 42 (.int .i64 15) by simp [usedV,usedD,h1])
  have d1:decide (x1<t1)=true:=decide_eq_true h1
  clear h1
  go_enter Tryz.func131,Tryz.ntmps131
  go_wp2
  go_ret
  exact ⟨ret_used HE.out,b00⟩
 ·have d1:decide (x1<t1)=false:=decide_eq_false h1
  by_cases h2:x2<t2
  ·have HE:=Lib.hid (show usedV (usedD x1 x2 t1 t2)=.iface 42 (.int .i64 15) by simp [usedV,usedD,h2])
   have d2:decide (x2<t2)=true:=decide_eq_true h2
   clear h1 h2
   go_enter Tryz.func131,Tryz.ntmps131
   go_wp2
   go_ret
   exact ⟨ret_used HE.out,b00⟩
  ·have HE:=Lib.hid (show usedV (usedD x1 x2 t1 t2)=.nilIface by simp [usedV,usedD,h1,h2])
   have d2:decide (x2<t2)=false:=decide_eq_false h2
   clear h1 h2
   go_enter Tryz.func131,Tryz.ntmps131
   go_wp2
   go_ret
   exact ⟨ret_used HE.out,b00⟩

theorem Bf.cells5b {V:World} {b:Nat} {x:LoadD} (h:Bf V b (cellsL x)):(V.cell? ⟨b,0,none⟩=some (.int .i64 x.id)∧V.cell? ⟨b,1,none⟩=some (.bool x.apart)∧V.cell? ⟨b,2,none⟩=some (.int .i64 x.skew))∧V.cell? ⟨b,3,none⟩=some (.int .i64 x.min)∧V.cell? ⟨b,4,none⟩=some (.int .i64 x.max)∧b<V.heap.size :=
 ⟨⟨h.cell 0 _ rfl,h.cell 1 _ rfl,h.cell 2 _ rfl⟩,h.cell 3 _ rfl,h.cell 4 _ rfl,h.lt⟩
def BudgetRel (ls:List LoadD) (l:List PodD) (a b:List Value) (w:World) (v:Value) (wr:World):Prop:=∃ k:Nat,k≤ls.length∧v=.int .i64 k∧budgetFrom l (ls.drop k) k=budgetOf ls l∧T2 a b w wr

set_option maxHeartbeats 6400000 in
set_option maxRecDepth 100000 in
theorem budgetCheck_any (ls:List LoadD) (l:List PodD) (A1 A2 A4:Option Addr) (n1 c1 n2 c2 n4 c4:Nat) (s3 v1 v2:Value) (w:World)
  (hn2:n2=ls.length) (hl2:n2≤400) (hr2:Recs 5 cellsL w w.heap.size A2 ls) (hn4:n4=l.length) (hl4:n4≤400) (hr4:Recs 8 cellsP w w.heap.size A4 l) :
  Calls Tryz.prog 129 #[.agg #[.slice A1 n1 c1,.slice A2 n2 c2,s3],.agg #[.slice A4 n4 c4,v1,v2]] w (ErrTo (budgetOf ls l) w):=by
 have T0:=T2.new w [.slice A1 n1 c1,.slice A2 n2 c2,s3] [.slice A4 n4 c4,v1,v2] 26 44
 have HN2:=Lib.hid hn2
 have HR2:=Lib.hid hr2
 have HC:=Lib.hid (fun (V:World) (hV:Below w.heap.size w V) (id:Int)=>budgetSize_any l id A4 n4 c4 v1 v2 V hn4 (by omega) ((hr4.below hV (Nat.le_refl _)).more hV.size))
 have HT0:=Lib.hid T0
 clear hr2 hn2 hr4 hn4 T0
 go_enter Tryz.func129,Tryz.ntmps129
 go_wp2
 go_loopw [11] (BudgetRel ls l [.slice A1 n1 c1,.slice A2 n2 c2,s3] [.slice A4 n4 c4,v1,v2] w) (fun v _=>n2 - (intOf v).toNat)
 case atStart=>exact ⟨0,by omega,rfl,rfl,HT0.out⟩
 case round =>
  obtain ⟨k,hk,rfl,hp,T1⟩:=hrel
  have HP:=Lib.hid hp
  have HT1:=Lib.hid T1
  clear hp
  by_cases hlt:k<n2
  ·have hkl:k<ls.length:=by have:=HN2.out;omega
   have kwr:=T1.below
   obtain ⟨b,o,rfl,hb,he⟩:=HR2.out.at hkl
   generalize hx:ls[k]=x at *
   have HX:=Lib.hid (budgetFrom_at hkl hx HP.out)
   clear hx
   have e0:wr.cell? ⟨b,o+k * 5,none⟩=some (.int .i64 x.id):=(kwr.cell (p:=⟨b,o+k * 5,none⟩) hb).trans (he 0 _ rfl)
   have e1:wr.cell? ⟨b,o+k * 5+1,none⟩=some (.bool x.apart):=(kwr.cell (p:=⟨b,o+k * 5+1,none⟩) hb).trans (he 1 _ rfl)
   have e2:wr.cell? ⟨b,o+k * 5+2,none⟩=some (.int .i64 x.skew):=(kwr.cell (p:=⟨b,o+k * 5+2,none⟩) hb).trans (he 2 _ rfl)
   have e3:wr.cell? ⟨b,o+k * 5+3,none⟩=some (.int .i64 x.min):=(kwr.cell (p:=⟨b,o+k * 5+3,none⟩) hb).trans (he 3 _ rfl)
   have e4:wr.cell? ⟨b,o+k * 5+4,none⟩=some (.int .i64 x.max):=(kwr.cell (p:=⟨b,o+k * 5+4,none⟩) hb).trans (he 4 _ rfl)
   have hbw:b<wr.heap.size:=Nat.lt_of_lt_of_le hb kwr.size
   have TW:=T1.alloc (.cells #[.int .i64 x.id,.bool x.apart,.int .i64 x.skew,.int .i64 x.min,.int .i64 x.max] 61)
   have QW:Bf (wr.alloc (.cells #[.int .i64 x.id,.bool x.apart,.int .i64 x.skew,.int .i64 x.min,.int .i64 x.max] 61)) wr.heap.size (cellsL x):=Bf.new wr (cellsL x) _ rfl
   clear he T1 kwr
   go_wp2_with fail
   go_upto_region 4 with fail
   clear e0 e1 e2 e3 e4 hbw
   generalize hW:wr.alloc (.cells #[.int .i64 x.id,.bool x.apart,.int .i64 x.skew,.int .i64 x.min,.int .i64 x.max] 61)=W at *
   generalize hh:wr.heap.size=h at *
   clear hW hh
   have HTW:=Lib.hid TW
   have kW:=TW.below
   obtain ⟨b0,b1,b2,b3⟩:=TW.two.cells3
   obtain ⟨⟨q0,q1,q2⟩,q3,q4,q5⟩:=QW.cells5b
   have HCW:Hid (∀ V:World,Keeps W V→Calls Tryz.prog 158 #[.agg #[.slice A4 n4 c4,v1,v2],.int .i64 x.id] V fun e w'=>e=.returned (.int .i64 (sizeD x.id l:Nat))∧Below V.heap.size V w'):=fun V hV=>HC.out V (kW.trans (hV.2.mono kW.size)) x.id
   have HFW:Hid (∀ V:World,Keeps W V→Calls Tryz.prog 157 #[aggL x,.int .i64 (sizeD x.id l:Nat)] V fun e w'=>e=.returned (.int .i64 (fault9 x (sizeD x.id l:Nat)))∧Below V.heap.size V w'):=fun V hV=>sizeFault_any x _ V
   clear TW QW
   generalize fault9 x (sizeD x.id l:Nat)=f at *
   generalize sizeD x.id l=z at *
   go_region_held3 (fun w'=>(∀ b o,b<W.heap.size→w'.cell? ⟨b,o,none⟩=W.cell? ⟨b,o,none⟩)∧Below W.heap.size W w')
    (first | (with_reducible assumption) | (show Keeps W _;with_reducible (repeat (first | exact Keeps.refl _ | assumption | refine Keeps.drew ?_ | refine Keeps.alloc ?_ _ | refine Keeps.step ?_ (by assumption)))))
    (first
     | (go_at_call 158;refine (HCW.out _ (by assumption)).mono ?_;rintro e w5 ⟨rfl,hb5⟩)
     | (go_at_call 157;refine (HFW.out _ (by assumption)).mono ?_;rintro e w6 ⟨rfl,hb6⟩))
   rename_i hK
   have HT3:=Lib.hid (HTW.out.keep hK.2)
   have kV:=HT3.out.below
   clear hK b0 b1 b2 b3 q0 q1 q2 q3 q4 q5 HCW HFW hb5
   by_cases hf:f=0
   ·have hd:(f != 0)=false:=by simp [hf]
    have HN:=Lib.hid (HX.out.2 hf)
    clear hf
    go_wp2
    go_roundw
    case rel=>exact ⟨k+1,by omega,by go_num,HN.out,HT3.out⟩
    case measure=>simp [intOf];omega
   ·have hd:(f != 0)=true:=by simp [hf]
    have HN:=Lib.hid (HX.out.1 hf)
    clear hf
    go_wp2
    go_ret
    exact ⟨_,rfl,.inr (.inr ⟨k,_,by rw [HN.out],rfl,kV.size,by rw [HN.out];exact heap_alloc_new _ _⟩),kV.alloc kV.size _⟩
  ·have HE:=Lib.hid (budgetFrom_end (by have:=HN2.out;omega) HP.out)
   have kwr:=T1.below
   clear T1
   go_wp2
   go_ret
   exact ⟨_,rfl,.inl ⟨HE.out,rfl⟩,kwr⟩
end Go.Proofs.YthapilknnhlmfaaGreatDoor
