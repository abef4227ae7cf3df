/- Joined texts, part 13: PC PE PF PD NO NB NE NS NF. -/
import Derived.Test.YthapilknnhlmfaaGreatDoorZ12
import Derived.Sort.Grow
import Derived.Deep.CutRange
import Derived.Test.YthapilknnhlmfaaGreatDoorZ09
import Derived.Test.YthapilknnhlmfaaGreatDoorZ02
import Derived.Test.YthapilknnhlmfaaGreatDoorZ01
import Derived.Deep.QuietTactic
import Derived.BigQuiet
import Derived.Test.YthapilknnhlmfaaGreatDoorZ07

namespace Go.Proofs.YthapilknnhlmfaaGreatDoor
set_option linter.unusedSimpArgs false
open Go.RowKit
set_option linter.unusedVariables false
def Grew (W v:World):Prop:=∃ q os,v=Sort.grow (W.drewN q) os
def GrewK (W v:World):Prop:=(∀ b o,b<W.heap.size→v.cell? ⟨b,o,none⟩=W.cell? ⟨b,o,none⟩)∧Grew W v
theorem Grew.refl (W:World):Grew W W:=⟨0,#[],by rw [Sort.grow_empty];rfl⟩
theorem Grew.trans {W v u:World} (h:Grew W v) (k:Grew v u):Grew W u:=by
 obtain ⟨q,os,rfl⟩:=h
 obtain ⟨q',os',rfl⟩:=k
 refine ⟨q+q',os++os',?_⟩
 rw [← Sort.grow_grow]
 show Sort.grow (Sort.grow ((W.drewN q).drewN q') os) os'=_
 rw [show (W.drewN q).drewN q'=W.drewN (q+q') by simp [World.drewN,Nat.add_assoc]]
theorem Grew.drew (W:World):Grew W W.drew:=⟨1,#[],by rw [Sort.grow_empty];rfl⟩
theorem Grew.alloc (W:World) (o:Obj):Grew W (W.alloc o):=⟨0,#[o],by rw [Sort.alloc_eq_grow];rfl⟩
theorem Grew.cells {W v:World} (h:Grew W v):GrewK W v:=by
 refine ⟨fun b o hb=>?_,h⟩
 obtain ⟨q,os,rfl⟩:=h
 exact Sort.cell?_grow (W.drewN q) os ⟨b,o,none⟩ hb
theorem GrewK.drew {W v:World} (h:GrewK W v):GrewK W v.drew:=(h.2.trans (Grew.drew v)).cells
theorem GrewK.alloc {W v:World} (h:GrewK W v) (o:Obj):GrewK W (v.alloc o):=(h.2.trans (Grew.alloc v o)).cells

theorem own_below8 {w w':World} {B base n size:Nat} {e:TypeId} {v:Value} {xs:List Value} (h:w.ownsRow base e size v n xs) (hb:Below B w w') (hB:w.heap.size≤B):w'.ownsRow base e size v n xs:=by
 refine ⟨h.1,?_⟩
 rcases h.2 with h0 | ⟨g,cap,cur,hv,hb1,hg,rest⟩
 ·exact .inl h0
 ·have hlt:g<w.heap.size:=(Array.getElem?_eq_some_iff.1 hg).1
  exact .inr ⟨g,cap,cur,hv,hb1,(hb.block g (by omega)).trans hg,rest⟩
end Go.Proofs.YthapilknnhlmfaaGreatDoor
namespace Go.Proofs.YthapilknnhlmfaaGreatDoor
set_option linter.unusedSimpArgs false
open Go.RowKit Go.Shelf Go.Sort
set_option linter.unusedVariables false
instance:Inhabited PodD:=⟨noPod⟩
theorem podsHeld {w:World} {g:Nat} {cur:Array Value} {e:TypeId} {vs:List Value} (hb:w.heap[g]?=some (.cells cur e (0,0))) (ht:cur.toList.take vs.length=vs):Holds id w g 0 vs.toArray:=by
 intro j hj
 have hj':j<vs.length:=by simpa using hj
 refine ⟨?_,by simp [World.frozen?,hb]⟩
 have h1:(cur.toList.take vs.length)[j]?=vs[j]?:=by rw [ht]
 rw [List.getElem?_take_of_lt hj'] at h1
 simp only [World.cell?,hb,Nat.zero_add]
 simp only [Option.isSome_none,Bool.false_eq_true,if_false]
 rw [← Array.getElem?_toList,h1]
 simp [hj']
theorem heap_sortedV {w:World} {g n:Nat} {os:Array Obj} {cur:Array Value} {e:TypeId} {fr:Nat × Nat} (d:Array Value) (hb:w.heap[g]?=some (.cells cur e fr)) :
  (grow (putRow id (Sort.ahead w n) g 0 d) os).heap[g]?=some (.cells (putCells id 0 d cur) e fr):=by
 have hg:g<w.heap.size:=(Array.getElem?_eq_some_iff.1 hb).1
 rw [heap_grow_old _ _ (by simpa using hg)]
 simp [putRow,mapBlock,Sort.ahead,Array.getElem?_modify,hb,onCells]
theorem grownBy_sortedV {w:World} {g n:Nat} {os:Array Obj} (d:Array Value):w.grownBy (grow (putRow id (Sort.ahead w n) g 0 d) os) (some g):=by
 refine ⟨rfl,rfl,rfl,by simp,fun k hk hne=>?_⟩
 rw [heap_grow_old _ _ (by simpa using hk)]
 have:g≠k:=fun e=>hne (by rw [e])
 simp [putRow,mapBlock,Sort.ahead,Array.getElem?_modify,this]
theorem take_putCellsV (cur:Array Value) (ts:List Value) (h:ts.length≤cur.size):(putCells id 0 ts.toArray cur).toList.take ts.length=ts:=by
 apply List.ext_getElem?
 intro j
 by_cases hj:j<ts.length
 ·rw [List.getElem?_take_of_lt hj,Array.getElem?_toList]
  simp [putCells,hj,show j<cur.size by omega]
 ·rw [List.getElem?_take_eq_none (by omega),List.getElem?_eq_none (by omega)]
end Go.Proofs.YthapilknnhlmfaaGreatDoor
namespace Go.Proofs.YthapilknnhlmfaaGreatDoor
set_option linter.unusedSimpArgs false
open Go.RowKit
set_option linter.unusedVariables false
def ltM (a b:MoveD):Prop:=a.kind<b.kind∨a.kind=b.kind∧(a.pod<b.pod∨a.pod=b.pod∧(a.node<b.node∨a.node=b.node∧a.over<b.over))
def ordM (a b:MoveD):Int:=orI (cmpI a.kind b.kind) (orI (cmpI a.pod b.pod) (orI (cmpI a.node b.node) (cmpI a.over b.over)))
theorem ordM_neg (a b:MoveD):(ordM a b<0) ↔ ltM a b:=by
 unfold ordM ltM orI cmpI
 repeat' split
 all_goals omega
theorem ltM_total {a b:MoveD} (h:a≠b):ltM a b∨ltM b a:=by
 unfold ltM
 rcases Int.lt_trichotomy a.kind b.kind with h1 | h1 | h1
 ·exact .inl (.inl h1)
 ·rcases Int.lt_trichotomy a.pod b.pod with h2 | h2 | h2
  ·exact .inl (.inr ⟨h1,.inl h2⟩)
  ·rcases Int.lt_trichotomy a.node b.node with h3 | h3 | h3
   ·exact .inl (.inr ⟨h1,.inr ⟨h2,.inl h3⟩⟩)
   ·rcases Int.lt_trichotomy a.over b.over with h4 | h4 | h4
    ·exact .inl (.inr ⟨h1,.inr ⟨h2,.inr ⟨h3,h4⟩⟩⟩)
    ·exact absurd (by cases a;cases b;simp_all) h
    ·exact .inr (.inr ⟨h1.symm,.inr ⟨h2.symm,.inr ⟨h3.symm,h4⟩⟩⟩)
   ·exact .inr (.inr ⟨h1.symm,.inr ⟨h2.symm,.inl h3⟩⟩)
  ·exact .inr (.inr ⟨h1.symm,.inl h2⟩)
 ·exact .inr (.inl h1)
theorem ltM_irr (a:MoveD):¬ ltM a a:=by unfold ltM;omega
theorem ltM_asymm {a b:MoveD} (h:ltM a b):¬ ltM b a:=by unfold ltM at *;omega
theorem ltM_trans {a b c:MoveD} (h:ltM a b) (k:ltM b c):ltM a c:=by unfold ltM at *;omega
theorem sorted_one:∀ {l m:List MoveD},l.Perm m→l.Pairwise ltM→m.Pairwise ltM→l=m
 | [],m,hp,_,_=>by rw [List.nil_perm.1 hp]
 | a :: l,[],hp,_,_=>by cases List.perm_nil.1 hp
 | a :: l,b :: m,hp,hl,hm=>by
  have h1:=List.pairwise_cons.1 hl
  have h2:=List.pairwise_cons.1 hm
  have e:a=b:=by
   rcases List.mem_cons.1 (hp.subset (List.mem_cons_self:a ∈ a :: l)) with e | e
   ·exact e
   ·rcases List.mem_cons.1 (hp.symm.subset (List.mem_cons_self:b ∈ b :: m)) with e' | e'
    ·exact e'.symm
    ·exact absurd (h1.1 b e') (ltM_asymm (h2.1 a e))
  subst e
  rw [sorted_one (List.Perm.cons_inv hp) h1.2 h2.2]
theorem sorted_strict {l:List MoveD} (hn:l.Nodup) (h:l.Pairwise fun x y=>¬ ltM y x):l.Pairwise ltM :=
 (List.pairwise_and_iff.2 ⟨hn,h⟩).imp fun ⟨a,b⟩=>(ltM_total a).resolve_right b
def comingD (ns:List NodeD) (ps:List PodD) (pod:Int):List MoveD:=ns.map (fun n=>⟨1,pod,n.id,0⟩)++ps.map (fun q=>⟨4,pod,q.node,q.id⟩)
def leavingD (ns:List NodeD) (pod:Int):List MoveD:=⟨2,pod,0,0⟩ :: ns.map (fun n=>⟨3,pod,n.id,0⟩)
def rawP (ns:List NodeD) (ps:List PodD) (p:PodD):List MoveD:=if p.node=0 then comingD ns ps p.id else leavingD ns p.id
def rawD (ns:List NodeD) (ps:List PodD):List MoveD:=ps.flatMap (rawP ns ps)
theorem rawP_len (ns:List NodeD) (ps:List PodD) (p:PodD):(rawP ns ps p).length≤ns.length+ps.length+1:=by
 unfold rawP comingD leavingD
 split <;> simp <;> omega
theorem orInt4_any (a b c d:Int) (g:Nat) (w:World) (h0:w.cell? ⟨g,0,none⟩=some (.int .i64 a)) (h1:w.cell? ⟨g,1,none⟩=some (.int .i64 b)) (h2:w.cell? ⟨g,2,none⟩=some (.int .i64 c)) (h3:w.cell? ⟨g,3,none⟩=some (.int .i64 d)) :
  Calls Tryz.prog 187 #[.slice (some ⟨g,0,none⟩) 4 4] w fun e w'=>e=.returned (.int .i64 (orI a (orI b (orI c d))))∧w=w':=by
 by_cases ha:a=0
 ·subst ha
  by_cases hb:b=0
  ·subst hb
   by_cases hc:c=0
   ·subst hc
    by_cases hd:d=0
    ·subst hd
     go_enter Tryz.func187,Tryz.ntmps187
     go_wp2
     refine wp_loop_rounds 5 ?_
     rw [rounds_succ]
     go_wp2
     rw [rounds_succ]
     go_wp2
     rw [rounds_succ]
     go_wp2
     rw [rounds_succ]
     go_wp2
     rw [rounds_succ]
     go_wp2
     go_ret
     exact ⟨rfl,rfl⟩
    ·have hm:(d != 0)=true:=by simpa using hd
     have HE:=Lib.hid (show orI 0 (orI 0 (orI 0 d))=d from rfl)
     clear hd
     go_enter Tryz.func187,Tryz.ntmps187
     go_wp2
     refine wp_loop_rounds 5 ?_
     rw [rounds_succ]
     go_wp2
     rw [rounds_succ]
     go_wp2
     rw [rounds_succ]
     go_wp2
     rw [rounds_succ]
     go_wp2
     go_ret
     exact ⟨ret_int HE.out.symm,rfl⟩
   ·have hm:(c != 0)=true:=by simpa using hc
    have HE:=Lib.hid (show orI 0 (orI 0 (orI c d))=c by simp [orI,hc])
    clear hc
    go_enter Tryz.func187,Tryz.ntmps187
    go_wp2
    refine wp_loop_rounds 5 ?_
    rw [rounds_succ]
    go_wp2
    rw [rounds_succ]
    go_wp2
    rw [rounds_succ]
    go_wp2
    go_ret
    exact ⟨ret_int HE.out.symm,rfl⟩
  ·have hm:(b != 0)=true:=by simpa using hb
   have HE:=Lib.hid (show orI 0 (orI b (orI c d))=b by simp [orI,hb])
   clear hb
   go_enter Tryz.func187,Tryz.ntmps187
   go_wp2
   refine wp_loop_rounds 5 ?_
   rw [rounds_succ]
   go_wp2
   rw [rounds_succ]
   go_wp2
   go_ret
   exact ⟨ret_int HE.out.symm,rfl⟩
 ·have hm:(a != 0)=true:=by simpa using ha
  have HE:=Lib.hid (show orI a (orI b (orI c d))=a by simp [orI,ha])
  clear ha
  go_enter Tryz.func187,Tryz.ntmps187
  go_wp2
  refine wp_loop_rounds 5 ?_
  rw [rounds_succ]
  go_wp2
  go_ret
  exact ⟨ret_int HE.out.symm,rfl⟩

set_option maxHeartbeats 6400000 in
set_option maxRecDepth 100000 in
theorem inOrder18_any (x y:MoveD) (w:World):Calls Tryz.prog 175 #[aggM x,aggM y] w fun e w'=>e=.returned (.int .i64 (ordM x y))∧Grew w w':=by
 have HE:=Lib.hid (show ordM x y=orI (cmpI x.kind y.kind) (orI (cmpI x.pod y.pod) (orI (cmpI x.node y.node) (cmpI x.over y.over))) from rfl)
 have H1:=Lib.hid (fun W=>compare_any x.kind y.kind W)
 have H2:=Lib.hid (fun W=>compare_any x.pod y.pod W)
 have H3:=Lib.hid (fun W=>compare_any x.node y.node W)
 have H4:=Lib.hid (fun W=>compare_any x.over y.over W)
 generalize ordM x y=z at *
 generalize hp:cmpI x.kind y.kind=p at *
 generalize hq:cmpI x.pod y.pod=q at *
 generalize hr:cmpI x.node y.node=r at *
 generalize hs:cmpI x.over y.over=s at *
 clear hp hq hr hs
 go_enter Tryz.func175,Tryz.ntmps175
 go_upto_region 1 with fail
 generalize hW:((w.alloc (.cells #[.int .i64 x.kind,.int .i64 x.pod,.int .i64 x.node,.int .i64 x.over] 89)).alloc (.cells #[.int .i64 y.kind,.int .i64 y.pod,.int .i64 y.node,.int .i64 y.over] 89))=W at *
 have HK:Hid (Grew w W):=by show Grew w W;rw [← hW];exact (Grew.alloc _ _).trans (Grew.alloc _ _)
 have hz1:w.heap.size<W.heap.size:=by rw [← hW];simp;omega
 have hz2:w.heap.size+1<W.heap.size:=by rw [← hW];simp
 have x0:W.cell? ⟨w.heap.size,0,none⟩=some (.int .i64 x.kind):=by rw [← hW];simp
 have x1:W.cell? ⟨w.heap.size,1,none⟩=some (.int .i64 x.pod):=by rw [← hW];simp
 have x2:W.cell? ⟨w.heap.size,2,none⟩=some (.int .i64 x.node):=by rw [← hW];simp
 have x3:W.cell? ⟨w.heap.size,3,none⟩=some (.int .i64 x.over):=by rw [← hW];simp
 have y0:W.cell? ⟨w.heap.size+1,0,none⟩=some (.int .i64 y.kind):=by rw [← hW];simp
 have y1:W.cell? ⟨w.heap.size+1,1,none⟩=some (.int .i64 y.pod):=by rw [← hW];simp
 have y2:W.cell? ⟨w.heap.size+1,2,none⟩=some (.int .i64 y.node):=by rw [← hW];simp
 have y3:W.cell? ⟨w.heap.size+1,3,none⟩=some (.int .i64 y.over):=by rw [← hW];simp
 clear hW
 go_region_held3 (fun w'=>(∀ b o,b<W.heap.size→w'.cell? ⟨b,o,none⟩=W.cell? ⟨b,o,none⟩)∧Grew W w')
  (first | (with_reducible assumption) | exact (Grew.refl _).cells | exact (Grew.drew _).cells | exact GrewK.drew (by assumption) | exact GrewK.alloc (by assumption) _)
  (first
   | (go_at_call 84;first
     | ((with_reducible refine (H1.out _).mono ?_);rintro e w' ⟨rfl,rfl⟩)
     | ((with_reducible refine (H2.out _).mono ?_);rintro e w' ⟨rfl,rfl⟩)
     | ((with_reducible refine (H3.out _).mono ?_);rintro e w' ⟨rfl,rfl⟩)
     | ((with_reducible refine (H4.out _).mono ?_);rintro e w' ⟨rfl,rfl⟩))
   | (go_at_call 187;refine (orInt4_any p q r s _ _ (by simp) (by simp) (by simp) (by simp)).mono ?_;rintro e w' ⟨rfl,rfl⟩))
 go_wp2
 go_ret
 exact ⟨ret_int HE.out.symm,HK.out.trans (by assumption:GrewK W _).2⟩
def moveEq (x y:MoveD):Bool:=x.kind == y.kind && (x.pod == y.pod && (x.node == y.node && x.over == y.over))
theorem moveEq_iff {x y:MoveD}:moveEq x y=true ↔ x=y:=by
 cases x;cases y;simp [moveEq]
set_option maxRecDepth 100000 in
theorem move_is (x y:MoveD) (w:World):(binOp .eql 89 (.agg #[.int .i64 x.kind,.int .i64 x.pod,.int .i64 x.node,.int .i64 x.over]) (.agg #[.int .i64 y.kind,.int .i64 y.pod,.int .i64 y.node,.int .i64 y.over])).run Tryz.prog w=.ok (.bool (moveEq x y)) w:=by
 have hf:(Tryz.prog.fieldsOf 89).toList=[(⟨"Kind",3,0,false,"","",0⟩:Field),(⟨"Pod",3,1,false,"","",8⟩:Field),(⟨"Node",3,2,false,"","",16⟩:Field),(⟨"Over",3,3,false,"","",24⟩:Field)]:=by kernel_rfl
 have e:(Op.equalIn 10000 89 (.agg #[.int .i64 x.kind,.int .i64 x.pod,.int .i64 x.node,.int .i64 x.over]) (.agg #[.int .i64 y.kind,.int .i64 y.pod,.int .i64 y.node,.int .i64 y.over])).run Tryz.prog w=.ok (moveEq x y) w:=by
  rw [run_equalIn_struct w 9999 89 _ _ (by kernel_rfl) (by kernel_rfl),hf]
  clear hf
  refine (eqFields_cons (a:=.int .i64 x.kind) (b:=.int .i64 y.kind) (by decide) (part_int _ 0 _ rfl w) (part_int _ 0 _ rfl w) (int_eqIn2 9998 _ _ w) ?_).trans rfl
  refine (eqFields_cons (a:=.int .i64 x.pod) (b:=.int .i64 y.pod) (by decide) (part_int _ 1 _ rfl w) (part_int _ 1 _ rfl w) (int_eqIn2 9998 _ _ w) ?_)
  refine (eqFields_cons (a:=.int .i64 x.node) (b:=.int .i64 y.node) (by decide) (part_int _ 2 _ rfl w) (part_int _ 2 _ rfl w) (int_eqIn2 9998 _ _ w) ?_)
  refine (eqFields_cons (a:=.int .i64 x.over) (b:=.int .i64 y.over) (r:=true) (by decide) (part_int _ 3 _ rfl w) (part_int _ 3 _ rfl w) (int_eqIn2 9998 _ _ w) ?_).trans (by rw [Bool.and_true])
  simp [Op.eqFields]
 rw [run_eql_struct,e]
 rfl

def CompRel (n:Nat) (W:World) (i:Value) (wr:World):Prop:=∃ k:Nat,1≤k∧k≤n∧i=.int .i64 k∧Below W.heap.size W wr
set_option maxHeartbeats 6400000 in
set_option maxRecDepth 100000 in
theorem compactM_any (xs:List MoveD) (A:Option Addr) (n c:Nat) (w:World) (hn:n=xs.length) (hl:n≤2000000) (hr:Recs 4 cellsM w w.heap.size A xs) (hd:∀ k (h:k+1<xs.length),xs[k+1]≠xs[k]) :
  Calls Tryz.prog 176 #[.slice A n c] w fun e w'=>e=.returned (.slice A n c)∧Below w.heap.size w w':=by
 have HR:=Lib.hid hr
 have HN:=Lib.hid hn
 have HD:=Lib.hid hd
 clear hr hn hd
 by_cases h2:n<2
 ·go_enter Tryz.func176,Tryz.ntmps176
  go_wp2
  go_ret
  exact ⟨rfl,Below.refl _ _⟩
 have e2:decide ((n:Int)<2)=false:=decide_eq_false (by omega)
 go_enter Tryz.func176,Tryz.ntmps176
 go_wp2
 go_loopw [3] (CompRel n w) (fun i _=>n - (intOf i).toNat)
 case atStart=>exact ⟨1,by omega,by omega,rfl,Below.refl _ _⟩
 case round =>
  obtain ⟨k,h1k,hk,rfl,hbr⟩:=hrel
  by_cases hlt:k<n
  ·have hkl:k<xs.length:=by have:=HN.out;omega
   obtain ⟨b,o,rfl,hb,he⟩:=HR.out.at hkl
   obtain ⟨j,rfl⟩:∃ j,k=j+1:=⟨k - 1,by omega⟩
   have hjl:j<xs.length:=by omega
   obtain ⟨b',o',h1,_,hf⟩:=HR.out.at hjl
   injection h1 with h1
   injection h1 with h1 h2 _
   subst h1 h2
   have hne:=HD.out j hkl
   generalize xs[j+1]=x at *
   generalize xs[j]=y at *
   have hm:∀ v,(binOp .eql 89 (.agg #[.int .i64 x.kind,.int .i64 x.pod,.int .i64 x.node,.int .i64 x.over]) (.agg #[.int .i64 y.kind,.int .i64 y.pod,.int .i64 y.node,.int .i64 y.over])).run Tryz.prog v=.ok (.bool false) v:=fun v=>by
    rw [move_is,show moveEq x y=false by rw [← Bool.not_eq_true,moveEq_iff];exact hne]
   have e0:wr.cell? ⟨b,o+(j+1) * 4,none⟩=some (.int .i64 x.kind):=(hbr.cell (p:=⟨b,o+(j+1) * 4,none⟩) hb).trans (he 0 _ rfl)
   have e1:wr.cell? ⟨b,o+(j+1) * 4+1,none⟩=some (.int .i64 x.pod):=(hbr.cell (p:=⟨b,o+(j+1) * 4+1,none⟩) hb).trans (he 1 _ rfl)
   have e2:wr.cell? ⟨b,o+(j+1) * 4+2,none⟩=some (.int .i64 x.node):=(hbr.cell (p:=⟨b,o+(j+1) * 4+2,none⟩) hb).trans (he 2 _ rfl)
   have e3:wr.cell? ⟨b,o+(j+1) * 4+3,none⟩=some (.int .i64 x.over):=(hbr.cell (p:=⟨b,o+(j+1) * 4+3,none⟩) hb).trans (he 3 _ rfl)
   have f0:wr.cell? ⟨b,o+j * 4,none⟩=some (.int .i64 y.kind):=(hbr.cell (p:=⟨b,o+j * 4,none⟩) hb).trans (hf 0 _ rfl)
   have f1:wr.cell? ⟨b,o+j * 4+1,none⟩=some (.int .i64 y.pod):=(hbr.cell (p:=⟨b,o+j * 4+1,none⟩) hb).trans (hf 1 _ rfl)
   have f2:wr.cell? ⟨b,o+j * 4+2,none⟩=some (.int .i64 y.node):=(hbr.cell (p:=⟨b,o+j * 4+2,none⟩) hb).trans (hf 2 _ rfl)
   have f3:wr.cell? ⟨b,o+j * 4+3,none⟩=some (.int .i64 y.over):=(hbr.cell (p:=⟨b,o+j * 4+3,none⟩) hb).trans (hf 3 _ rfl)
   have hj0:(0:Int)≤(j:Int):=by omega
   have hj1:(0:Int)≤(j:Int)+1:=by omega
   have hjn:(j:Int)<(n:Int):=by omega
   have hjn1:(j:Int)+1<(n:Int):=by omega
   have s1:IntKind.i64.wrap ((j:Int)+1 - 1)=(j:Int):=by rw [IntWalk.i64_in _ (by omega)];omega
   have s2:IntKind.i64.wrap (j:Int)=(j:Int):=IntWalk.i64_in _ (by omega)
   have s3:((j:Int)+1).toNat=j+1:=by omega
   have s4:IntKind.i64.wrap ((j:Int)+1+1)=(j:Int)+1+1:=IntWalk.i64_in _ (by omega)
   clear he hf hne
   go_wp2
   go_quiet (fail)
   go_wp2
   go_roundw
   case rel=>exact ⟨j+1+1,by omega,by omega,by go_num,below_draws hbr _⟩
   case measure=>simp [intOf];omega
  ·go_wp2
   go_ret
   exact ⟨rfl,hbr⟩
theorem infoM18:(Tryz.prog.info? 89).map (fun i=>(i.zero,i.size,i.bytes))=some (some (.agg #[.int .i64 0,.int .i64 0,.int .i64 0,.int .i64 0]),4,32):=by kernel_rfl
theorem underM18:Tryz.prog.underlying 32=some (.slice 89):=by kernel_rfl
theorem oneM18 (x:MoveD):∀ u ∈ cellsM x,u.oneCell'=true:=by
 intro u hu;simp only [cellsM,List.mem_cons,List.not_mem_nil,or_false] at hu
 rcases hu with rfl | rfl | rfl | rfl <;> rfl
theorem lenM18 (x:MoveD):(cellsM x).length=4:=rfl
theorem own_more18 {B m:Nat} {e:TypeId} {w1:World} {v:Value} {xs ys:List MoveD} {x:MoveD} (hm:m=xs.length) (h:w1.ownsRow B e 4 v (m+1) (xs.flatMap cellsM++cellsM x)) (he:ys=xs++[x]):m+1=ys.length∧w1.ownsRow B e 4 v (m+1) (ys.flatMap cellsM):=by
 subst he hm;simpa using h
theorem map_more18 {α:Type} {f:α→MoveD} {l:List α} {k:Nat} (h:k<l.length) {y:α} (hx:l[k]=y):(l.take (k+1)).map f=(l.take k).map f++[f y]:=by
 rw [List.take_succ_eq_append_getElem h,hx,List.map_append];rfl
theorem own_mono18 {w:World} {base base' n size:Nat} {e:TypeId} {v:Value} {xs:List Value} (h:w.ownsRow base e size v n xs) (hb:base'≤base):w.ownsRow base' e size v n xs:=by
 refine ⟨h.1,?_⟩
 rcases h.2 with h0 | ⟨g,cap,cur,hv,hb1,rest⟩
 ·exact .inl h0
 ·exact .inr ⟨g,cap,cur,hv,Nat.le_trans hb hb1,rest⟩
theorem front_more18 {a b c:List MoveD} {x:MoveD} (h:b=c++[x]):a++b=(a++c)++[x]:=by rw [h,List.append_assoc]
theorem cons_more18 {y:MoveD} {b c:List MoveD} {x:MoveD} (h:b=c++[x]):y :: b=(y :: c)++[x]:=by rw [h];rfl
def RowRel18 (F:Nat→List MoveD) (n B:Nat) (W:World) (v i:Value) (wr:World):Prop :=
 ∃ k m:Nat,k≤n∧i=.int .i64 k∧(m=(F k).length∧wr.ownsRow B 89 4 v m ((F k).flatMap cellsM))∧Below B W wr
def MovesTo18 (l:List MoveD) (w:World) (e:Ending) (w':World):Prop :=
 ∃ v,e=.returned v∧w'.ownsRow w.heap.size 89 4 v l.length (l.flatMap cellsM)∧Below w.heap.size w w'

set_option maxHeartbeats 6400000 in
set_option maxRecDepth 100000 in
theorem coming_any (ns:List NodeD) (ps:List PodD) (pod:Int) (A1 A4:Option Addr) (n1 c1 n4 c4:Nat) (s2 s3 t1 t2:Value) (w:World) (hn1:n1=ns.length) (hl1:n1≤400) (hr1:Recs 10 cellsN w w.heap.size A1 ns) (hn4:n4=ps.length) (hl4:n4≤400) (hr4:Recs 8 cellsP w w.heap.size A4 ps) :
  Calls Tryz.prog 172 #[.agg #[.slice A1 n1 c1,s2,s3],.agg #[.slice A4 n4 c4,t1,t2],.int .i64 pod] w (MovesTo18 (comingD ns ps pod) w):=by
 have HR1:=Lib.hid hr1
 have HN1:=Lib.hid hn1
 have HR4:=Lib.hid hr4
 have HN4:=Lib.hid hn4
 have k0:=below_two w (.cells #[.slice A1 n1 c1,s2,s3] 26) (.cells #[.slice A4 n4 c4,t1,t2] 44)
 have B1:Bf ((w.alloc (.cells #[.slice A1 n1 c1,s2,s3] 26)).alloc (.cells #[.slice A4 n4 c4,t1,t2] 44)) (w.heap.size+1) [.slice A4 n4 c4,t1,t2]:=Bf.new _ [.slice A4 n4 c4,t1,t2] 44 (by simp)
 clear hr1 hn1 hr4 hn4
 go_enter Tryz.func172,Tryz.ntmps172
 go_wp2
 generalize (w.alloc (.cells #[.slice A1 n1 c1,s2,s3] 26)).alloc (.cells #[.slice A4 n4 c4,t1,t2] 44)=W at *
 have hzW:=k0.size
 go_loopw [7,15] (RowRel18 (fun k=>(ns.take k).map fun y=>⟨1,pod,y.id,0⟩) n1 W.heap.size W) (fun _ i _=>n1 - (intOf i).toNat)
 case atStart=>exact ⟨0,0,by omega,rfl,⟨rfl,by simpa using World.ownsRow_nil _ _ _ _⟩,Below.refl _ _⟩
 case round =>
  obtain ⟨k,m,hk,rfl,hO,hbr⟩:=hrel
  have HO:=Lib.hid hO
  have hz:W.heap.size≤wr.heap.size:=hbr.size
  have kwr:Below w.heap.size w wr:=k0.trans (hbr.mono hzW)
  clear hO
  by_cases hlt:k<n1
  ·have hkl:k<ns.length:=by have:=HN1.out;omega
   obtain ⟨b,o,rfl,hb,he⟩:=HR1.out.at hkl
   generalize hxx:ns[k]=y at *
   have HE:=Lib.hid (map_more18 (f:=fun y=>(⟨1,pod,y.id,0⟩:MoveD)) hkl hxx)
   have e0:wr.cell? ⟨b,o+k * 10,none⟩=some (.int .i64 y.id):=(kwr.cell (p:=⟨b,o+k * 10,none⟩) hb).trans (he 0 _ rfl)
   have e1:wr.cell? ⟨b,o+k * 10+1,none⟩=some (.int .i64 y.zone):=(kwr.cell (p:=⟨b,o+k * 10+1,none⟩) hb).trans (he 1 _ rfl)
   have e2:wr.cell? ⟨b,o+k * 10+2,none⟩=some (.int .u64 y.cap.a):=(kwr.cell (p:=⟨b,o+k * 10+2,none⟩) hb).trans (he 2 _ rfl)
   have e3:wr.cell? ⟨b,o+k * 10+3,none⟩=some (.int .u64 y.cap.b):=(kwr.cell (p:=⟨b,o+k * 10+3,none⟩) hb).trans (he 3 _ rfl)
   have e4:wr.cell? ⟨b,o+k * 10+4,none⟩=some (.int .u64 y.cap.c):=(kwr.cell (p:=⟨b,o+k * 10+4,none⟩) hb).trans (he 4 _ rfl)
   have e5:wr.cell? ⟨b,o+k * 10+5,none⟩=some (.int .u64 y.cap.d):=(kwr.cell (p:=⟨b,o+k * 10+5,none⟩) hb).trans (he 5 _ rfl)
   have e6:wr.cell? ⟨b,o+k * 10+6,none⟩=some (.int .u64 y.held.a):=(kwr.cell (p:=⟨b,o+k * 10+6,none⟩) hb).trans (he 6 _ rfl)
   have e7:wr.cell? ⟨b,o+k * 10+7,none⟩=some (.int .u64 y.held.b):=(kwr.cell (p:=⟨b,o+k * 10+7,none⟩) hb).trans (he 7 _ rfl)
   have e8:wr.cell? ⟨b,o+k * 10+8,none⟩=some (.int .u64 y.held.c):=(kwr.cell (p:=⟨b,o+k * 10+8,none⟩) hb).trans (he 8 _ rfl)
   have e9:wr.cell? ⟨b,o+k * 10+9,none⟩=some (.int .u64 y.held.d):=(kwr.cell (p:=⟨b,o+k * 10+9,none⟩) hb).trans (he 9 _ rfl)
   have hbw:b<wr.heap.size:=by have:=kwr.size;omega
   have HKV:=Lib.hid (hbr.alloc hz (.cells #[.int .i64 y.id,.int .i64 y.zone,.int .u64 y.cap.a,.int .u64 y.cap.b,.int .u64 y.cap.c,.int .u64 y.cap.d,.int .u64 y.held.a,.int .u64 y.held.b,.int .u64 y.held.c,.int .u64 y.held.d] 59))
   have HOV:=Lib.hid (HO.out.2.alloc (.cells #[.int .i64 y.id,.int .i64 y.zone,.int .u64 y.cap.a,.int .u64 y.cap.b,.int .u64 y.cap.c,.int .u64 y.cap.d,.int .u64 y.held.a,.int .u64 y.held.b,.int .u64 y.held.c,.int .u64 y.held.d] 59))
   have hzV:W.heap.size≤(wr.alloc (.cells #[.int .i64 y.id,.int .i64 y.zone,.int .u64 y.cap.a,.int .u64 y.cap.b,.int .u64 y.cap.c,.int .u64 y.cap.d,.int .u64 y.held.a,.int .u64 y.held.b,.int .u64 y.held.c,.int .u64 y.held.d] 59)).heap.size:=by simp;omega
   have HL:Hid (m≤2000000):=by
    have h1:=HO.out.1
    show _≤_
    simp at h1
    omega
   clear he hxx hbr kwr B1 k0
   go_wp2_with (at_builtin;refine wpList_pushR 32 89 (.agg #[.int .i64 0,.int .i64 0,.int .i64 0,.int .i64 0]) 4 32 underM18 infoM18 rfl (by decide) (by decide) rfl (.tmp 19) (.tmp 24) rfl W.heap.size _ m _ (cellsM ⟨1,pod,y.id,0⟩) rfl (oneM18 _) HOV.out hzV HL.out rfl (congrArg (fun g=>Value.slice (some ⟨g,0,none⟩) 1 1) (World.size_alloc wr _).symm) ?_;intro v' w4 hown4 hb4 hB4)
   have HO4:=Lib.hid (own_more18 HO.out.1 hown4 HE.out)
   clear hown4
   go_wp2
   go_roundw
   case rel=>exact ⟨k+1,m+1,by omega,by go_num,HO4.out,HKV.out.trans hb4⟩
   case measure=>simp [intOf];omega
  ·have HK:Hid (ns.take k=ns):=List.take_of_length_le (by have:=HN1.out;omega)
   have HS:Hid (m=(ns.map fun y=>(⟨1,pod,y.id,0⟩:MoveD)).length∧wr.ownsRow W.heap.size 89 4 u7 m ((ns.map fun y=>(⟨1,pod,y.id,0⟩:MoveD)).flatMap cellsM)):=by
    have h:=HO.out
    simp only [HK.out] at h
    exact h
   have HB:=Lib.hid hbr
   obtain ⟨b0,b1,b2,b3⟩:=(B1.below hbr B1.lt).cells3
   clear HO B1 HK
   go_wp2
   clear b0 b1 b2 b3
   go_loopw [7,30] (RowRel18 (fun k=>(ns.map fun y=>(⟨1,pod,y.id,0⟩:MoveD))++(ps.take k).map fun q=>⟨4,pod,q.node,q.id⟩) n4 W.heap.size W) (fun _ i _=>n4 - (intOf i).toNat)
   case atStart=>exact ⟨0,m,by omega,rfl,by simpa using HS.out,HB.out⟩
   case round =>
    obtain ⟨k,m,hk,rfl,hO,hbr⟩:=hrel
    have HO:=Lib.hid hO
    have hz:W.heap.size≤wr.heap.size:=hbr.size
    have kwr:Below w.heap.size w wr:=k0.trans (hbr.mono hzW)
    clear hO HS HB
    by_cases hlt:k<n4
    ·have hkl:k<ps.length:=by have:=HN4.out;omega
     obtain ⟨b,o,rfl,hb,he⟩:=HR4.out.at hkl
     generalize hxx:ps[k]=y at *
     have HE:=Lib.hid (map_more18 (f:=fun q=>(⟨4,pod,q.node,q.id⟩:MoveD)) hkl hxx)
     have e0:wr.cell? ⟨b,o+k * 8,none⟩=some (.int .i64 y.id):=(kwr.cell (p:=⟨b,o+k * 8,none⟩) hb).trans (he 0 _ rfl)
     have e1:wr.cell? ⟨b,o+k * 8+1,none⟩=some (.int .i64 y.load):=(kwr.cell (p:=⟨b,o+k * 8+1,none⟩) hb).trans (he 1 _ rfl)
     have e2:wr.cell? ⟨b,o+k * 8+2,none⟩=some (.int .i64 y.prio):=(kwr.cell (p:=⟨b,o+k * 8+2,none⟩) hb).trans (he 2 _ rfl)
     have e3:wr.cell? ⟨b,o+k * 8+3,none⟩=some (.int .u64 y.req.a):=(kwr.cell (p:=⟨b,o+k * 8+3,none⟩) hb).trans (he 3 _ rfl)
     have e4:wr.cell? ⟨b,o+k * 8+4,none⟩=some (.int .u64 y.req.b):=(kwr.cell (p:=⟨b,o+k * 8+4,none⟩) hb).trans (he 4 _ rfl)
     have e5:wr.cell? ⟨b,o+k * 8+5,none⟩=some (.int .u64 y.req.c):=(kwr.cell (p:=⟨b,o+k * 8+5,none⟩) hb).trans (he 5 _ rfl)
     have e6:wr.cell? ⟨b,o+k * 8+6,none⟩=some (.int .u64 y.req.d):=(kwr.cell (p:=⟨b,o+k * 8+6,none⟩) hb).trans (he 6 _ rfl)
     have e7:wr.cell? ⟨b,o+k * 8+7,none⟩=some (.int .i64 y.node):=(kwr.cell (p:=⟨b,o+k * 8+7,none⟩) hb).trans (he 7 _ rfl)
     have hbw:b<wr.heap.size:=by have:=kwr.size;omega
     have HKV:=Lib.hid (hbr.alloc hz (.cells #[.int .i64 y.id,.int .i64 y.load,.int .i64 y.prio,.int .u64 y.req.a,.int .u64 y.req.b,.int .u64 y.req.c,.int .u64 y.req.d,.int .i64 y.node] 63))
     have HOV:=Lib.hid (HO.out.2.alloc (.cells #[.int .i64 y.id,.int .i64 y.load,.int .i64 y.prio,.int .u64 y.req.a,.int .u64 y.req.b,.int .u64 y.req.c,.int .u64 y.req.d,.int .i64 y.node] 63))
     have hzV:W.heap.size≤(wr.alloc (.cells #[.int .i64 y.id,.int .i64 y.load,.int .i64 y.prio,.int .u64 y.req.a,.int .u64 y.req.b,.int .u64 y.req.c,.int .u64 y.req.d,.int .i64 y.node] 63)).heap.size:=by simp;omega
     have HL:Hid (m≤2000000):=by
      have h1:=HO.out.1
      have h2:=HN1.out
      show _≤_
      simp at h1
      omega
     clear he hxx hbr kwr k0
     go_wp2_with (at_builtin;refine wpList_pushR 32 89 (.agg #[.int .i64 0,.int .i64 0,.int .i64 0,.int .i64 0]) 4 32 underM18 infoM18 rfl (by decide) (by decide) rfl (.tmp 34) (.tmp 41) rfl W.heap.size _ m _ (cellsM ⟨4,pod,y.node,y.id⟩) rfl (oneM18 _) HOV.out hzV HL.out rfl (congrArg (fun g=>Value.slice (some ⟨g,0,none⟩) 1 1) (World.size_alloc wr _).symm) ?_;intro v' w4 hown4 hb4 hB4)
     have HO4:=Lib.hid (own_more18 HO.out.1 hown4 (front_more18 HE.out))
     clear hown4
     go_wp2
     go_roundw
     case rel=>exact ⟨k+1,m+1,by omega,by go_num,HO4.out,HKV.out.trans hb4⟩
     case measure=>simp [intOf];omega
    ·have HK:Hid (ps.take k=ps):=List.take_of_length_le (by have:=HN4.out;omega)
     have HS:Hid (m=(comingD ns ps pod).length∧wr.ownsRow W.heap.size 89 4 u7 m ((comingD ns ps pod).flatMap cellsM)):=by
      have h:=HO.out
      simp only [HK.out] at h
      exact h
     clear HO HK
     go_wp2
     go_ret
     refine ⟨_,rfl,?_,kwr⟩
     rw [← HS.out.1]
     exact own_mono18 HS.out.2 hzW

theorem own_one18 (w:World) (B:Nat) (x:MoveD) (hB:B≤w.heap.size):(w.alloc (.cells (cellsM x).toArray 89)).ownsRow B 89 4 (.slice (some ⟨w.heap.size,0,none⟩) 1 1) 1 ([x].flatMap cellsM) :=
 ⟨rfl,.inr ⟨w.heap.size,1,(cellsM x).toArray,rfl,hB,heap_alloc_new w _,Nat.le_refl _,by decide,rfl,rfl⟩⟩

set_option maxHeartbeats 6400000 in
set_option maxRecDepth 100000 in
theorem leaving_any (ns:List NodeD) (pod:Int) (A1:Option Addr) (n1 c1:Nat) (s2 s3:Value) (w:World) (hn1:n1=ns.length) (hl1:n1≤400) (hr1:Recs 10 cellsN w w.heap.size A1 ns) :
  Calls Tryz.prog 173 #[.agg #[.slice A1 n1 c1,s2,s3],.int .i64 pod] w (MovesTo18 (leavingD ns pod) w):=by
 have HR1:=Lib.hid hr1
 have HN1:=Lib.hid hn1
 have k0:Below w.heap.size w (w.alloc (.cells #[.slice A1 n1 c1,s2,s3] 26)):=(Below.refl _ w).alloc (Nat.le_refl _) _
 have hzW:(w.alloc (.cells #[.slice A1 n1 c1,s2,s3] 26)).heap.size=w.heap.size+1:=by simp
 have b0:(w.alloc (.cells #[.slice A1 n1 c1,s2,s3] 26)).cell? ⟨w.heap.size,0,none⟩=some (.slice A1 n1 c1):=by simp
 clear hr1 hn1
 go_enter Tryz.func173,Tryz.ntmps173
 go_wp2_with fail
 have HS:=Lib.hid (own_one18 (w.alloc (.cells #[.slice A1 n1 c1,s2,s3] 26)) (w.heap.size+1) ⟨2,pod,0,0⟩ (by simp))
 have HB:=Lib.hid ((Below.refl (w.heap.size+1) (w.alloc (.cells #[.slice A1 n1 c1,s2,s3] 26))).alloc (by simp) (.cells (cellsM ⟨2,pod,0,0⟩).toArray 89))
 simp only [cellsM,World.size_alloc] at HS HB
 generalize w.alloc (.cells #[.slice A1 n1 c1,s2,s3] 26)=W at *
 go_loopw [5,14] (RowRel18 (fun k=>⟨2,pod,0,0⟩ :: (ns.take k).map fun y=>⟨3,pod,y.id,0⟩) n1 (w.heap.size+1) W) (fun _ i _=>n1 - (intOf i).toNat)
 case atStart=>exact ⟨0,1,by omega,rfl,⟨rfl,by simpa using HS.out⟩,HB.out⟩
 case round =>
  obtain ⟨k,m,hk,rfl,hO,hbr⟩:=hrel
  have HO:=Lib.hid hO
  have hz:w.heap.size+1≤wr.heap.size:=by have:=hbr.size;omega
  have kwr:Below w.heap.size w wr:=k0.trans (hbr.mono (by omega))
  clear hO HS HB
  by_cases hlt:k<n1
  ·have hkl:k<ns.length:=by have:=HN1.out;omega
   obtain ⟨b,o,rfl,hb,he⟩:=HR1.out.at hkl
   generalize hxx:ns[k]=y at *
   have HE:=Lib.hid (map_more18 (f:=fun y=>(⟨3,pod,y.id,0⟩:MoveD)) hkl hxx)
   have e0:wr.cell? ⟨b,o+k * 10,none⟩=some (.int .i64 y.id):=(kwr.cell (p:=⟨b,o+k * 10,none⟩) hb).trans (he 0 _ rfl)
   have e1:wr.cell? ⟨b,o+k * 10+1,none⟩=some (.int .i64 y.zone):=(kwr.cell (p:=⟨b,o+k * 10+1,none⟩) hb).trans (he 1 _ rfl)
   have e2:wr.cell? ⟨b,o+k * 10+2,none⟩=some (.int .u64 y.cap.a):=(kwr.cell (p:=⟨b,o+k * 10+2,none⟩) hb).trans (he 2 _ rfl)
   have e3:wr.cell? ⟨b,o+k * 10+3,none⟩=some (.int .u64 y.cap.b):=(kwr.cell (p:=⟨b,o+k * 10+3,none⟩) hb).trans (he 3 _ rfl)
   have e4:wr.cell? ⟨b,o+k * 10+4,none⟩=some (.int .u64 y.cap.c):=(kwr.cell (p:=⟨b,o+k * 10+4,none⟩) hb).trans (he 4 _ rfl)
   have e5:wr.cell? ⟨b,o+k * 10+5,none⟩=some (.int .u64 y.cap.d):=(kwr.cell (p:=⟨b,o+k * 10+5,none⟩) hb).trans (he 5 _ rfl)
   have e6:wr.cell? ⟨b,o+k * 10+6,none⟩=some (.int .u64 y.held.a):=(kwr.cell (p:=⟨b,o+k * 10+6,none⟩) hb).trans (he 6 _ rfl)
   have e7:wr.cell? ⟨b,o+k * 10+7,none⟩=some (.int .u64 y.held.b):=(kwr.cell (p:=⟨b,o+k * 10+7,none⟩) hb).trans (he 7 _ rfl)
   have e8:wr.cell? ⟨b,o+k * 10+8,none⟩=some (.int .u64 y.held.c):=(kwr.cell (p:=⟨b,o+k * 10+8,none⟩) hb).trans (he 8 _ rfl)
   have e9:wr.cell? ⟨b,o+k * 10+9,none⟩=some (.int .u64 y.held.d):=(kwr.cell (p:=⟨b,o+k * 10+9,none⟩) hb).trans (he 9 _ rfl)
   have hbw:b<wr.heap.size:=by have:=kwr.size;omega
   have HKV:=Lib.hid (hbr.alloc hz (.cells #[.int .i64 y.id,.int .i64 y.zone,.int .u64 y.cap.a,.int .u64 y.cap.b,.int .u64 y.cap.c,.int .u64 y.cap.d,.int .u64 y.held.a,.int .u64 y.held.b,.int .u64 y.held.c,.int .u64 y.held.d] 59))
   have HOV:=Lib.hid (HO.out.2.alloc (.cells #[.int .i64 y.id,.int .i64 y.zone,.int .u64 y.cap.a,.int .u64 y.cap.b,.int .u64 y.cap.c,.int .u64 y.cap.d,.int .u64 y.held.a,.int .u64 y.held.b,.int .u64 y.held.c,.int .u64 y.held.d] 59))
   have hzV:w.heap.size+1≤(wr.alloc (.cells #[.int .i64 y.id,.int .i64 y.zone,.int .u64 y.cap.a,.int .u64 y.cap.b,.int .u64 y.cap.c,.int .u64 y.cap.d,.int .u64 y.held.a,.int .u64 y.held.b,.int .u64 y.held.c,.int .u64 y.held.d] 59)).heap.size:=by simp;omega
   have HL:Hid (m≤2000000):=by
    have h1:=HO.out.1
    show _≤_
    simp at h1
    omega
   clear he hxx hbr kwr k0 b0
   go_wp2_with (at_builtin;refine wpList_pushR 32 89 (.agg #[.int .i64 0,.int .i64 0,.int .i64 0,.int .i64 0]) 4 32 underM18 infoM18 rfl (by decide) (by decide) rfl (.tmp 18) (.tmp 23) rfl (w.heap.size+1) _ m _ (cellsM ⟨3,pod,y.id,0⟩) rfl (oneM18 _) HOV.out hzV HL.out rfl (congrArg (fun g=>Value.slice (some ⟨g,0,none⟩) 1 1) (World.size_alloc wr _).symm) ?_;intro v' w4 hown4 hb4 hB4)
   have HO4:=Lib.hid (own_more18 HO.out.1 hown4 (cons_more18 HE.out))
   clear hown4
   go_wp2
   go_roundw
   case rel=>exact ⟨k+1,m+1,by omega,by go_num,HO4.out,HKV.out.trans hb4⟩
   case measure=>simp [intOf];omega
  ·have HK:Hid (ns.take k=ns):=List.take_of_length_le (by have:=HN1.out;omega)
   have HS:Hid (m=(leavingD ns pod).length∧wr.ownsRow (w.heap.size+1) 89 4 u5 m ((leavingD ns pod).flatMap cellsM)):=by
    have h:=HO.out
    simp only [HK.out] at h
    exact h
   clear HO HK
   go_wp2
   go_ret
   refine ⟨_,rfl,?_,kwr⟩
   rw [← HS.out.1]
   exact own_mono18 HS.out.2 (Nat.le_succ _)
end Go.Proofs.YthapilknnhlmfaaGreatDoor
namespace Go.Proofs.YthapilknnhlmfaaGreatDoor
set_option linter.unusedSimpArgs false
open Go.RowKit Go.Shelf Go.Sort
set_option linter.unusedVariables false
instance:Inhabited MoveD:=⟨⟨0,0,0,0⟩⟩
theorem flatK_listM (l:List MoveD):flatK cellsM 4 l.toArray=(l.flatMap cellsM).toArray:=by
 refine ext_get! (by simp [flatMap_len lenM18]) fun t ht=>?_
 have ht':t<l.length * 4:=by simpa using ht
 have hi:t / 4<l.length:=by omega
 have hj:t % 4<4:=by omega
 have e:=flatMap_get (size:=4) lenM18 hi hj
 rw [show t / 4 * 4+t % 4=t by omega] at e
 rw [get_flatK _ _ _ _ (by simpa using ht')]
 have hlt:t<(l.flatMap cellsM).length:=by rw [flatMap_len lenM18];exact ht'
 rw [List.getElem?_eq_getElem hlt,List.getElem?_eq_getElem (by rw [lenM18];exact hj)] at e
 have e':=Option.some.inj e
 rw [getElem!_pos (l.flatMap cellsM).toArray t (by simpa using hlt),List.getElem_toArray,e',getElem!_pos l.toArray (t / 4) (by simpa using hi),List.getElem_toArray,getElem!_pos (cellsM l[t / 4]) (t % 4) (by rw [lenM18];exact hj)]
theorem ltM_is (x y:MoveD):ltOf ordM x y=true ↔ ltM x y:=by
 unfold ltOf
 rw [decide_eq_true_iff]
 exact ordM_neg x y
theorem ltM_no (x y:MoveD):ltOf ordM x y=false ↔ ¬ ltM x y:=by rw [← ltM_is,Bool.not_eq_true]
theorem swoM:SWO (ltOf ordM) where
 irrefl x:=(ltM_no x x).2 (ltM_irr x)
 trans x y z h1 h2:=(ltM_is x z).2 (ltM_trans ((ltM_is x y).1 h1) ((ltM_is y z).1 h2))
 ntrans x y z h1 h2:=by
  rw [ltM_no] at h1 h2 ⊢
  unfold ltM at h1 h2 ⊢
  omega
theorem permM_of_in {d d':Array MoveD} (h:PermIn 0 d.size d d'):d'.toList.Perm d.toList:=by
 obtain ⟨h1,_,h3⟩:=h
 rw [Array.extract_eq_self_of_le (by omega),Array.extract_eq_self_of_le (Nat.le_refl _)] at h3
 exact h3
theorem sortedM_of_in {d:Array MoveD} {n:Nat} (hn:n=d.size) (h:SortedIn (ltOf ordM) 0 n d):d.toList.Pairwise fun x y=>¬ ltM y x:=by
 rw [List.pairwise_iff_getElem]
 intro i j hi hj hij
 have h1:=h i j (Nat.zero_le _) hij (by rw [hn];simpa using hj)
 rw [getElem!_pos d j (by simpa using hj),getElem!_pos d i (by simpa using hi)] at h1
 simpa using (ltM_no _ _).1 h1

theorem laysAggM (w:World):(isAgg 89).run Tryz.prog w=.ok true w:=by kernel_rfl
theorem laysSizeM (w:World):(Go.sizeOf 89).run Tryz.prog w=.ok 4 w:=by kernel_rfl
theorem inOrderM_lays (blk off size:Nat) (w:World):CmpLays Tryz.prog 175 #[] cellsM 4 ordM blk off size w :=
 fun _ _ _ _ x y=>inOrder18_any x y _

theorem sortM_any (B:Nat) (v:Value) (xs:List MoveD) (m:Nat) (w:World) (hB:B≤w.heap.size) (hm:m=xs.length) (hown:w.ownsRow B 89 4 v m (xs.flatMap cellsM)) (hl:m≤2000000) :
  Calls Tryz.prog 174 #[v,.func (.func 175) #[] #[]] w fun e w'=>e=.returned (.tuple #[])∧∃ ys:List MoveD,ys.Perm xs∧(ys.Pairwise fun x y=>¬ ltM y x)∧w'.ownsRow B 89 4 v m (ys.flatMap cellsM)∧Below B w w':=by
 subst hm
 have eg:∀ args w,(callFunc 175 args).run Tryz.prog w=.ok (.enter 175 args) w:=enters_of Tryz.func175 (by kernel_rfl) rfl
 rcases hown.2 with ⟨rfl,h0⟩ | ⟨g,cap,cur,rfl,hbase,hb,h1,h2,h3,h4⟩
 ·have h0':=List.eq_nil_of_length_eq_zero h0
  subst h0'
  have hcon:=AnyF.slices_SortFunc_none (P:=Tryz.prog) Tryz.laysSortM none 0 (.func (.func 175) #[] #[]) w
  change Calls Tryz.prog 174 _ _ _ at hcon
  refine hcon.mono fun e w' ⟨he,hw⟩=>⟨he,[],List.Perm.refl _,List.Pairwise.nil,by subst hw;exact hown,by subst hw;exact Below.refl _ _⟩
 ·have hgl:g<w.heap.size:=(Array.getElem?_eq_some_iff.1 hb).1
  have hH:HoldsK cellsM 4 w g 0 xs.toArray:=by
   unfold HoldsK
   rw [flatK_listM]
   refine podsHeld hb ?_
   rw [flatMap_len lenM18]
   exact h4
  have hcon:=AnyQ.slices_SortFunc Tryz.laysSortM 4 laysAggM laysSizeM cellsM lenM18 oneM18 ordM swoM 175 #[] g 0 cap xs.toArray w eg (inOrderM_lays g 0 _ w) hH hgl (by simp;omega)
  change Calls Tryz.prog 174 _ _ _ at hcon
  refine hcon.mono fun e w' ⟨he,d',n,os,hp,hs,hw⟩=>⟨he,d'.toList,by simpa using permM_of_in hp,sortedM_of_in hp.1.symm hs,?_,?_⟩
  ·subst hw
   have hsz:d'.toList.length=xs.length:=by simpa using hp.1
   have hF:flatK cellsM 4 d'=(d'.toList.flatMap cellsM).toArray:=by
    have h:=flatK_listM d'.toList
    simpa using h
   show (grow (putRow id (Sort.ahead w n) g 0 (flatK cellsM 4 d')) os).ownsRow _ _ _ _ _ _
   rw [hF]
   refine ⟨by rw [flatMap_len lenM18,hsz],.inr ⟨g,cap,_,rfl,hbase,heap_sortedV _ hb,h1,h2,by simpa [putCells] using h3,?_⟩⟩
   have hle:(d'.toList.flatMap cellsM).length≤cur.size:=by rw [flatMap_len lenM18,hsz,h3];omega
   have ht:=take_putCellsV cur (d'.toList.flatMap cellsM) hle
   rw [flatMap_len lenM18,hsz] at ht
   exact ht
  ·subst hw
   exact (Below.refl B w).grown (grownBy_sortedV _) hB (fun j hj=>by cases hj;exact hbase)
end Go.Proofs.YthapilknnhlmfaaGreatDoor
namespace Go.Proofs.YthapilknnhlmfaaGreatDoor
set_option linter.unusedSimpArgs false
open Go.RowKit
set_option linter.unusedVariables false
theorem flat_more18 {α β:Type} {f:α→List β} {l:List α} {k:Nat} (h:k<l.length) {y:α} (hx:l[k]=y):(l.take (k+1)).flatMap f=(l.take k).flatMap f++f y:=by
 rw [List.take_succ_eq_append_getElem h,hx,List.flatMap_append];simp
theorem raw_len (ns:List NodeD) (ps:List PodD):∀ l:List PodD,(l.flatMap (rawP ns ps)).length≤l.length * (ns.length+ps.length+1)
 | []=>by simp
 | y :: r=>by
  have h1:=raw_len ns ps r
  have h2:=rawP_len ns ps y
  rw [List.flatMap_cons,List.length_append,List.length_cons,Nat.add_mul,Nat.one_mul]
  omega
theorem raw_small {ns:List NodeD} {ps:List PodD} {n1 n4:Nat} (h1:n1=ns.length) (hl1:n1≤400) (h4:n4=ps.length) (hl4:n4≤400) (l:List PodD) (hl:l.length≤400):(l.flatMap (rawP ns ps)).length≤400000:=by
 refine Nat.le_trans (raw_len ns ps l) (Nat.le_trans (Nat.mul_le_mul hl (show ns.length+ps.length+1≤801 by omega)) (by decide))
def TriesOf (ns:List NodeD) (ps:List PodD) (T:List MoveD):Prop:=T.Perm (rawD ns ps)∧T.Pairwise ltM
theorem TriesOf.nodup {ns:List NodeD} {ps:List PodD} {T:List MoveD} (h:TriesOf ns ps T):(rawD ns ps).Nodup :=
 h.1.nodup_iff.1 (h.2.imp fun hl e=>by subst e;exact ltM_irr _ hl)
theorem TriesOf.only {ns:List NodeD} {ps:List PodD} {T ys:List MoveD} (h:TriesOf ns ps T) (hp:ys.Perm (rawD ns ps)) (hs:ys.Pairwise fun x y=>¬ ltM y x):ys=T :=
 sorted_one (hp.trans h.1.symm) (sorted_strict (hp.nodup_iff.2 h.nodup) hs) h.2
theorem TriesOf.apart {ns:List NodeD} {ps:List PodD} {T:List MoveD} (h:TriesOf ns ps T) (k:Nat) (hk:k+1<T.length):T[k+1]≠T[k]:=fun e=>by
 have:=List.pairwise_iff_getElem.1 h.2 k (k+1) (by omega) hk (by omega)
 rw [e] at this
 exact ltM_irr _ this

set_option maxHeartbeats 6400000 in
set_option maxRecDepth 100000 in
theorem tries_any (ns:List NodeD) (ps:List PodD) (T:List MoveD) (hT:TriesOf ns ps T) (A1 A4:Option Addr) (n1 c1 n4 c4:Nat) (s2 s3 t1 t2:Value) (w:World) (hn1:n1=ns.length) (hl1:n1≤400) (hr1:Recs 10 cellsN w w.heap.size A1 ns) (hn4:n4=ps.length) (hl4:n4≤400) (hr4:Recs 8 cellsP w w.heap.size A4 ps) :
  Calls Tryz.prog 162 #[.agg #[.slice A1 n1 c1,s2,s3],.agg #[.slice A4 n4 c4,t1,t2]] w (MovesTo18 T w):=by
 have HT:=Lib.hid hT
 have HR4:=Lib.hid hr4
 have HN4:=Lib.hid hn4
 have HC:=Lib.hid (fun (pod:Int) (V:World) (hV:Below w.heap.size w V)=>coming_any ns ps pod A1 A4 n1 c1 n4 c4 s2 s3 t1 t2 V hn1 hl1 ((hr1.below hV (Nat.le_refl _)).more hV.size) hn4 hl4 ((hr4.below hV (Nat.le_refl _)).more hV.size))
 have HL:=Lib.hid (fun (pod:Int) (V:World) (hV:Below w.heap.size w V)=>leaving_any ns pod A1 n1 c1 s2 s3 V hn1 hl1 ((hr1.below hV (Nat.le_refl _)).more hV.size))
 have HS:=Lib.hid (fun (l:List PodD) (hl:l.length≤400)=>raw_small hn1 hl1 hn4 hl4 l hl)
 have hlp:∀ y,(rawP ns ps y).length≤801:=fun y=>by have:=rawP_len ns ps y;omega
 have HLP:=Lib.hid hlp
 have T0:=T2.new w [.slice A1 n1 c1,s2,s3] [.slice A4 n4 c4,t1,t2] 26 44
 have hzW:((w.alloc (.cells #[.slice A1 n1 c1,s2,s3] 26)).alloc (.cells #[.slice A4 n4 c4,t1,t2] 44)).heap.size=w.heap.size+2:=by simp
 clear hr1 hn1 hr4 hn4 hT hlp
 go_enter Tryz.func162,Tryz.ntmps162
 go_wp2
 generalize (w.alloc (.cells #[.slice A1 n1 c1,s2,s3] 26)).alloc (.cells #[.slice A4 n4 c4,t1,t2] 44)=W at *
 go_loopw [5,11] (RowRel18 (fun k=>(ps.take k).flatMap (rawP ns ps)) n4 W.heap.size W) (fun _ i _=>n4 - (intOf i).toNat)
 case atStart=>exact ⟨0,0,by omega,rfl,⟨rfl,by simpa using World.ownsRow_nil _ _ _ _⟩,Below.refl _ _⟩
 case round =>
  obtain ⟨k,m,hk,rfl,hO,hbr⟩:=hrel
  have HO:=Lib.hid hO
  have hz:W.heap.size≤wr.heap.size:=hbr.size
  have T1:T2 [.slice A1 n1 c1,s2,s3] [.slice A4 n4 c4,t1,t2] w wr:=T0.keep hbr
  have kwr:=T1.below
  have HM:Hid (m≤400000):=by
   have h1:=HO.out.1
   have h2:=HS.out (ps.take k) (by rw [List.length_take];omega)
   show _≤_
   rw [h1];exact h2
  clear hO
  by_cases hlt:k<n4
  ·have hkl:k<ps.length:=by have:=HN4.out;omega
   obtain ⟨b,o,rfl,hb,he⟩:=HR4.out.at hkl
   generalize hxx:ps[k]=y at *
   have HE:=Lib.hid (flat_more18 (f:=rawP ns ps) hkl hxx)
   have e0:wr.cell? ⟨b,o+k * 8,none⟩=some (.int .i64 y.id):=(kwr.cell (p:=⟨b,o+k * 8,none⟩) hb).trans (he 0 _ rfl)
   have e1:wr.cell? ⟨b,o+k * 8+1,none⟩=some (.int .i64 y.load):=(kwr.cell (p:=⟨b,o+k * 8+1,none⟩) hb).trans (he 1 _ rfl)
   have e2:wr.cell? ⟨b,o+k * 8+2,none⟩=some (.int .i64 y.prio):=(kwr.cell (p:=⟨b,o+k * 8+2,none⟩) hb).trans (he 2 _ rfl)
   have e3:wr.cell? ⟨b,o+k * 8+3,none⟩=some (.int .u64 y.req.a):=(kwr.cell (p:=⟨b,o+k * 8+3,none⟩) hb).trans (he 3 _ rfl)
   have e4:wr.cell? ⟨b,o+k * 8+4,none⟩=some (.int .u64 y.req.b):=(kwr.cell (p:=⟨b,o+k * 8+4,none⟩) hb).trans (he 4 _ rfl)
   have e5:wr.cell? ⟨b,o+k * 8+5,none⟩=some (.int .u64 y.req.c):=(kwr.cell (p:=⟨b,o+k * 8+5,none⟩) hb).trans (he 5 _ rfl)
   have e6:wr.cell? ⟨b,o+k * 8+6,none⟩=some (.int .u64 y.req.d):=(kwr.cell (p:=⟨b,o+k * 8+6,none⟩) hb).trans (he 6 _ rfl)
   have e7:wr.cell? ⟨b,o+k * 8+7,none⟩=some (.int .i64 y.node):=(kwr.cell (p:=⟨b,o+k * 8+7,none⟩) hb).trans (he 7 _ rfl)
   have hbw:b<wr.heap.size:=by have:=kwr.size;omega
   have kV:Below wr.heap.size wr (wr.alloc (.cells #[.int .i64 y.id,.int .i64 y.load,.int .i64 y.prio,.int .u64 y.req.a,.int .u64 y.req.b,.int .u64 y.req.c,.int .u64 y.req.d,.int .i64 y.node] 63)):=(Below.refl _ _).alloc (Nat.le_refl _) _
   have TV:=T1.keep kV
   have HKV:=Lib.hid (hbr.alloc hz (.cells #[.int .i64 y.id,.int .i64 y.load,.int .i64 y.prio,.int .u64 y.req.a,.int .u64 y.req.b,.int .u64 y.req.c,.int .u64 y.req.d,.int .i64 y.node] 63))
   have HOV:=Lib.hid (HO.out.2.alloc (.cells #[.int .i64 y.id,.int .i64 y.load,.int .i64 y.prio,.int .u64 y.req.a,.int .u64 y.req.b,.int .u64 y.req.c,.int .u64 y.req.d,.int .i64 y.node] 63))
   have HCV:=Lib.hid (HC.out y.id _ TV.below)
   have HLV:=Lib.hid (HL.out y.id _ TV.below)
   obtain ⟨a0,a1,a2,a3⟩:=TV.one.cells3
   obtain ⟨d0,d1,d2,d3⟩:=TV.two.cells3
   have HPL:=Lib.hid (HLP.out y)
   clear he hxx hbr kwr T1 TV kV T0 HS HLP
   by_cases hy:y.node=0
   ·have hdn:(y.node == 0)=true:=by simp [hy]
    have HRP:Hid (rawP ns ps y=comingD ns ps y.id):=if_pos hy
    clear hy
    go_wp2_with fail
    refine HCV.out.mono ?_
    rintro e w5 ⟨v,rfl,hown,hb5⟩
    obtain ⟨A',c',rfl,hc1,hc2,hc3⟩:=own_form3 hown
    obtain ⟨A'',c'',he',_,_,_,hrec⟩:=recs_of_own lenM18 rfl hown
    injection he' with q1 _ q2
    subst q1 q2
    have HO5:=Lib.hid (own_below8 HOV.out hb5 (Nat.le_refl _))
    have HK5:=Lib.hid (HKV.out.trans (hb5.mono HKV.out.size))
    have HZ5:Hid (W.heap.size≤w5.heap.size):=HK5.out.size
    have HRC:=Lib.hid hrec
    have HC3:=Lib.hid hc3
    have HQL:Hid (m+(comingD ns ps y.id).length≤2000000):=by
     have h1:=HM.out
     have h2:=HPL.out
     rw [HRP.out] at h2
     show _≤_
     omega
    clear hown hb5 hc1 hc2 hc3 hrec e0 e1 e2 e3 e4 e5 e6 e7 a0 a1 a2 a3 d0 d1 d2 d3
    go_wp2_with (at_builtin;refine wpList_recs 32 89 (.agg #[.int .i64 0,.int .i64 0,.int .i64 0,.int .i64 0]) 4 32 underM18 infoM18 rfl (by decide) (by decide) lenM18 oneM18 rfl (.tmp 18) (.tmp 23) rfl W.heap.size w5.heap.size _ m _ _ (comingD ns ps y.id) A' c' HC3.out HO5.out HRC.out HZ5.out HQL.out rfl rfl rfl ?_;intro v' w6 hown6 hb6 hB6)
    have HO6:Hid (m+(comingD ns ps y.id).length=((ps.take (k+1)).flatMap (rawP ns ps)).length∧w6.ownsRow W.heap.size 89 4 v' (m+(comingD ns ps y.id).length) (((ps.take (k+1)).flatMap (rawP ns ps)).flatMap cellsM)):=by
     show _∧_
     rw [HE.out,HRP.out,List.length_append]
     exact ⟨by rw [HO.out.1],hown6⟩
    clear hown6
    go_wp2
    go_roundw
    case rel=>exact ⟨k+1,_,by omega,by go_num,HO6.out,HK5.out.trans hb6⟩
    case measure=>simp [intOf];omega
   ·have hdn:(y.node == 0)=false:=by simp [hy]
    have HRP:Hid (rawP ns ps y=leavingD ns y.id):=if_neg hy
    clear hy
    go_wp2_with fail
    refine HLV.out.mono ?_
    rintro e w5 ⟨v,rfl,hown,hb5⟩
    obtain ⟨A',c',rfl,hc1,hc2,hc3⟩:=own_form3 hown
    obtain ⟨A'',c'',he',_,_,_,hrec⟩:=recs_of_own lenM18 rfl hown
    injection he' with q1 _ q2
    subst q1 q2
    have HO5:=Lib.hid (own_below8 HOV.out hb5 (Nat.le_refl _))
    have HK5:=Lib.hid (HKV.out.trans (hb5.mono HKV.out.size))
    have HZ5:Hid (W.heap.size≤w5.heap.size):=HK5.out.size
    have HRC:=Lib.hid hrec
    have HC3:=Lib.hid hc3
    have HQL:Hid (m+(leavingD ns y.id).length≤2000000):=by
     have h1:=HM.out
     have h2:=HPL.out
     rw [HRP.out] at h2
     show _≤_
     omega
    clear hown hb5 hc1 hc2 hc3 hrec e0 e1 e2 e3 e4 e5 e6 e7 a0 a1 a2 a3 d0 d1 d2 d3
    go_wp2_with (at_builtin;refine wpList_recs 32 89 (.agg #[.int .i64 0,.int .i64 0,.int .i64 0,.int .i64 0]) 4 32 underM18 infoM18 rfl (by decide) (by decide) lenM18 oneM18 rfl (.tmp 25) (.tmp 29) rfl W.heap.size w5.heap.size _ m _ _ (leavingD ns y.id) A' c' HC3.out HO5.out HRC.out HZ5.out HQL.out rfl rfl rfl ?_;intro v' w6 hown6 hb6 hB6)
    have HO6:Hid (m+(leavingD ns y.id).length=((ps.take (k+1)).flatMap (rawP ns ps)).length∧w6.ownsRow W.heap.size 89 4 v' (m+(leavingD ns y.id).length) (((ps.take (k+1)).flatMap (rawP ns ps)).flatMap cellsM)):=by
     show _∧_
     rw [HE.out,HRP.out,List.length_append]
     exact ⟨by rw [HO.out.1],hown6⟩
    clear hown6
    go_wp2
    go_roundw
    case rel=>exact ⟨k+1,_,by omega,by go_num,HO6.out,HK5.out.trans hb6⟩
    case measure=>simp [intOf];omega
  ·have HK:Hid (ps.take k=ps):=List.take_of_length_le (by have:=HN4.out;omega)
   have HSS:Hid (m=(rawD ns ps).length∧wr.ownsRow W.heap.size 89 4 u5 m ((rawD ns ps).flatMap cellsM)):=by
    have h:=HO.out
    simp only [HK.out] at h
    exact h
   have HKB:=Lib.hid hbr
   have HW0:=Lib.hid T0.below
   have HZW:=Lib.hid hzW
   have HML:Hid (m≤2000000):=by have:=HM.out;show _≤_;omega
   clear HO HK T1 T0 hbr HM
   go_wp2_with fail
   refine (sortM_any W.heap.size _ (rawD ns ps) m wr hz HSS.out.1 HSS.out.2 HML.out).mono ?_
   rintro e w7 ⟨rfl,ys,hp,hs,hown7,hb7⟩
   obtain rfl:=HT.out.only hp hs
   have hlen:m=ys.length:=by rw [hp.length_eq];exact HSS.out.1
   obtain ⟨A',c',rfl,hc1,hc2,hc3⟩:=own_form3 hown7
   obtain ⟨A'',c'',he',_,_,_,hrec⟩:=recs_of_own lenM18 hlen hown7
   injection he' with q1 _ q2
   subst q1 q2
   have HC7:=Lib.hid (compactM_any ys A' m c' w7 hlen HML.out hrec HT.out.apart)
   have HO7:=Lib.hid hown7
   have HK7:=Lib.hid (HKB.out.trans hb7)
   have HLN:=Lib.hid hlen
   clear hp hs hown7 hb7 hc1 hc2 hc3 hrec hlen
   go_wp2_with fail
   refine HC7.out.mono ?_
   rintro e w8 ⟨rfl,hb8⟩
   have HO8:=Lib.hid (own_below8 HO7.out hb8 (Nat.le_refl _))
   have HK8:=Lib.hid (HK7.out.trans (hb8.mono HK7.out.size))
   clear hb8
   go_wp2
   go_ret
   refine ⟨_,rfl,?_,HW0.out.trans (HK8.out.mono HW0.out.size)⟩
   rw [← HLN.out]
   exact own_mono18 HO8.out HW0.out.size
end Go.Proofs.YthapilknnhlmfaaGreatDoor
