/- Joined texts, part 16: TS TU TV TM LC QE QF. -/
import Derived.Test.YthapilknnhlmfaaGreatDoorZ15
import Derived.Lib.SliceRun
import Derived.Deep.RegionHeld3
import Derived.Deep.CutRange
import Derived.Test.YthapilknnhlmfaaGreatDoorZ03
import Derived.Test.YthapilknnhlmfaaGreatDoorZ12
import Derived.Laws.OwnMore

namespace Go.Proofs.YthapilknnhlmfaaGreatDoor
set_option linter.unusedSimpArgs false
open Go.RowKit
set_option linter.unusedVariables false
theorem map_three {α β:Type} {g:α→β} {l:List α} {a b c:β} (h:l.map g=[a,b,c]):∃ x y z,l=[x,y,z]∧g x=a∧g y=b∧g z=c:=by
 match l,h with
 | [x,y,z],h =>
  simp only [List.map_cons,List.map_nil,List.cons.injEq,and_true] at h
  exact ⟨x,y,z,rfl,h.1,h.2.1,h.2.2⟩
set_option maxRecDepth 100000 in
theorem purse_is (x y:PurseD) (w:World):(binOp .eql 113 (aggPu x) (aggPu y)).run Tryz.prog w=.ok (.bool (x.m == y.m && (x.s == y.s && x.p == y.p))) w:=by
 have hf:((Tryz.prog.fieldsOf 113).toList.map fun f=>(f.name,f.type,f.offset))=[("moves",3,0),("shifts",3,1),("preempts",3,2)]:=by kernel_rfl
 obtain ⟨f1,f2,f3,hl,g1,g2,g3⟩:=map_three hf
 obtain ⟨n1,t1,o1,x1,x2,x3,x4⟩:=f1
 obtain ⟨n2,t2,o2,y1,y2,y3,y4⟩:=f2
 obtain ⟨n3,t3,o3,z1,z2,z3,z4⟩:=f3
 simp only [Prod.mk.injEq] at g1 g2 g3
 obtain ⟨rfl,rfl,rfl⟩:=g1
 obtain ⟨rfl,rfl,rfl⟩:=g2
 obtain ⟨rfl,rfl,rfl⟩:=g3
 have e:(Op.equalIn 10000 113 (aggPu x) (aggPu y)).run Tryz.prog w=.ok (x.m == y.m && (x.s == y.s && x.p == y.p)) w:=by
  rw [run_equalIn_struct w 9999 113 _ _ (by kernel_rfl) (by kernel_rfl),hl]
  clear hf hl
  refine (eqFields_cons (a:=.int .i64 x.m) (b:=.int .i64 y.m) (by dsimp only;decide) (part_int _ 0 _ rfl w) (part_int _ 0 _ rfl w) (int_eqIn2 9998 _ _ w) ?_).trans rfl
  refine (eqFields_cons (a:=.int .i64 x.s) (b:=.int .i64 y.s) (by dsimp only;decide) (part_int _ 1 _ rfl w) (part_int _ 1 _ rfl w) (int_eqIn2 9998 _ _ w) ?_)
  refine (eqFields_cons (a:=.int .i64 x.p) (b:=.int .i64 y.p) (r:=true) (by dsimp only;decide) (part_int _ 2 _ rfl w) (part_int _ 2 _ rfl w) (int_eqIn2 9998 _ _ w) ?_).trans (by rw [Bool.and_true])
  simp [Op.eqFields]
 rw [run_eql_struct,e]
 rfl
set_option maxHeartbeats 3200000 in
set_option maxRecDepth 100000 in
theorem forgetClo_any (p q:PurseD) (g b:Nat) (w:World) (h0:w.cell? ⟨g,0,none⟩=some (ptr19 b)) (h9:w.cell? ⟨b,9,none⟩=some (.int .i64 q.m)) (h10:w.cell? ⟨b,10,none⟩=some (.int .i64 q.s)) (h11:w.cell? ⟨b,11,none⟩=some (.int .i64 q.p)) :
  Calls Tryz.prog 136 #[aggPu p,.pointer (some ⟨g,0,none⟩)] w fun e w'=>(∃ z,e=.returned (.bool z))∧Below w.heap.size w w':=by
 have hg:g<w.heap.size:=World.block_lt_of_cell? w _ h0
 have hb:b<w.heap.size:=World.block_lt_of_cell? w _ h9
 have hm:∀ v,(binOp .eql 113 (.agg #[.int .i64 p.m,.int .i64 p.s,.int .i64 p.p]) (.agg #[.int .i64 q.m,.int .i64 q.s,.int .i64 q.p])).run Tryz.prog v=.ok (.bool (p.m == q.m && (p.s == q.s && p.p == q.p))) v:=purse_is p q
 generalize (p.m == q.m && (p.s == q.s && p.p == q.p))=z at hm
 have kw:Below w.heap.size w (w.alloc (.cells #[.int .i64 p.m,.int .i64 p.s,.int .i64 p.p] 113)):=(Below.refl _ w).alloc (Nat.le_refl _) _
 go_enter Tryz.func136,Tryz.ntmps136
 go_wp2
 go_quiet (fail)
 go_wp2
 go_ret
 exact ⟨⟨_,rfl⟩,Below.drewN19 kw⟩
structure CloAt (g b:Nat) (q:PurseD) (w:World):Prop where
 c0:w.cell? ⟨g,0,none⟩=some (ptr19 b)
 c9:w.cell? ⟨b,9,none⟩=some (.int .i64 q.m)
 c10:w.cell? ⟨b,10,none⟩=some (.int .i64 q.s)
 c11:w.cell? ⟨b,11,none⟩=some (.int .i64 q.p)
theorem CloAt.lt {g b:Nat} {q:PurseD} {w:World} (h:CloAt g b q w):g<w.heap.size∧b<w.heap.size:=⟨World.block_lt_of_cell? w _ h.c0,World.block_lt_of_cell? w _ h.c9⟩
theorem CloAt.below {g b:Nat} {q:PurseD} {w w':World} (h:CloAt g b q w) (hb:Below w.heap.size w w'):CloAt g b q w' :=
 ⟨(hb.cell (p:=⟨g,0,none⟩) h.lt.1).trans h.c0,(hb.cell (p:=⟨b,9,none⟩) h.lt.2).trans h.c9,(hb.cell (p:=⟨b,10,none⟩) h.lt.2).trans h.c10,(hb.cell (p:=⟨b,11,none⟩) h.lt.2).trans h.c11⟩
theorem CloAt.setCell {g b:Nat} {q:PurseD} {w:World} (h:CloAt g b q w) {p:Addr} (hg:p.block≠g) (hb:p.block≠b) (v:Value):CloAt g b q (w.setCell p v) :=
 ⟨(World.cell?_setCell_far w p ⟨g,0,none⟩ v hg).trans h.c0,(World.cell?_setCell_far w p ⟨b,9,none⟩ v hb).trans h.c9,(World.cell?_setCell_far w p ⟨b,10,none⟩ v hb).trans h.c10,(World.cell?_setCell_far w p ⟨b,11,none⟩ v hb).trans h.c11⟩

set_option maxHeartbeats 3200000 in
set_option maxRecDepth 100000 in
theorem purseIndex_any (ps:List PurseD) (g b:Nat) (q:PurseD) (A:Option Addr) (n c:Nat) (w:World) (hn:n=ps.length) (hl:n≤1000000000000) (hr:Recs 3 cellsPu w w.heap.size A ps) (hc:CloAt g b q w) :
  Calls Tryz.prog 160 #[.slice A n c,.func (.func 136) #[] #[.pointer (some ⟨g,0,none⟩)]] w fun e w'=>(∃ i:Int,e=.returned (.int .i64 i)∧-1≤i∧i<n)∧Below w.heap.size w w':=by
 have HR:=Lib.hid hr
 have HN:=Lib.hid hn
 have HC:=Lib.hid hc
 clear hr hn hc
 go_enter Tryz.func160,Tryz.ntmps160
 go_wp2
 go_loopw [8] (fun i wr=>∃ k:Nat,k≤n∧i=.int .i64 k∧Below w.heap.size w wr) (fun i _=>n - (intOf i).toNat)
 case atStart=>exact ⟨0,by omega,rfl,Below.refl _ _⟩
 case round =>
  obtain ⟨k,hk,rfl,hbr⟩:=hrel
  have HB:=Lib.hid hbr
  by_cases hlt:k<n
  ·have hkl:k<ps.length:=by have:=HN.out;omega
   obtain ⟨b',o,rfl,hb,he⟩:=HR.out.at hkl
   generalize ps[k]=x at *
   have e0:wr.cell? ⟨b',o+k * 3,none⟩=some (.int .i64 x.m):=(hbr.cell (p:=⟨b',o+k * 3,none⟩) hb).trans (he 0 _ rfl)
   have e1:wr.cell? ⟨b',o+k * 3+1,none⟩=some (.int .i64 x.s):=(hbr.cell (p:=⟨b',o+k * 3+1,none⟩) hb).trans (he 1 _ rfl)
   have e2:wr.cell? ⟨b',o+k * 3+2,none⟩=some (.int .i64 x.p):=(hbr.cell (p:=⟨b',o+k * 3+2,none⟩) hb).trans (he 2 _ rfl)
   have HCW:=Lib.hid (HC.out.below hbr)
   clear he hbr
   go_wp2_with fail
   go_at_call 136
   refine (forgetClo_any x q g b _ HCW.out.c0 HCW.out.c9 HCW.out.c10 HCW.out.c11).mono ?_
   rintro e w1 ⟨⟨z,rfl⟩,hb1⟩
   have k1:=HB.out.trans (hb1.mono HB.out.size)
   clear hb1 e0 e1 e2
   cases z with
   | true =>
    go_wp2
    go_ret
    exact ⟨⟨k,rfl,by omega,by omega⟩,k1⟩
   | false =>
    go_wp2
    go_roundw
    case rel=>exact ⟨k+1,by omega,by go_num,k1⟩
    case measure=>simp [intOf];omega
  ·clear hbr
   go_wp2
   go_ret
   exact ⟨⟨-1,rfl,by omega,by omega⟩,HB.out⟩
theorem Bk.setCells {g:Nat} {T:TypeId}:∀ {vs:List Value} {o:Nat} {w:World} {cs:List Value},Bk w g cs T→∃ cs',Bk (w.setCells g o vs) g cs' T∧cs'.length=cs.length∧∀ j,j<o→cs'[j]?=cs[j]?
 | [],o,w,cs,h=>⟨cs,h,rfl,fun _ _=>rfl⟩
 | v :: r,o,w,cs,h=>by
  obtain ⟨cs',h1,h2,h3⟩:=Bk.setCells (vs:=r) (o:=o+1) (h.set o v)
  refine ⟨cs',h1,by rw [h2];simp,fun j hj=>?_⟩
  rw [h3 j (by omega),List.getElem?_set,if_neg (by omega)]
theorem setCells_other {g:Nat}:∀ (vs:List Value) (o:Nat) (w:World) (k:Nat),k≠g→(w.setCells g o vs).heap[k]?=w.heap[k]?
 | [],o,w,k,h=>rfl
 | v :: r,o,w,k,h=>by rw [World.setCells,setCells_other r (o+1) _ k h];exact heap_setCell_other w _ k v h
theorem setCells_words {g:Nat}:∀ (vs:List Value) (o:Nat) (w:World),(w.setCells g o vs).os=w.os∧(w.setCells g o vs).tape=w.tape∧(w.setCells g o vs).output=w.output∧(w.setCells g o vs).heap.size=w.heap.size
 | [],o,w=>⟨rfl,rfl,rfl,rfl⟩
 | v :: r,o,w=>by
  obtain ⟨h1,h2,h3,h4⟩:=setCells_words (g:=g) r (o+1) (w.setCell ⟨g,o,none⟩ v)
  exact ⟨h1,h2,h3,h4.trans (by simp)⟩
theorem grown_trans {w w1 w2:World} {row:Option Nat} (h:w.grownBy w1 row) (k:w1.grownBy w2 row):w.grownBy w2 row :=
 ⟨k.os.trans h.os,k.tape.trans h.tape,k.output.trans h.output,Nat.le_trans h.size k.size,fun i hi hne=>(k.block i (Nat.lt_of_lt_of_le hi h.size) hne).trans (h.block i hi hne)⟩
theorem grown_below {w w1:World} {row:Option Nat} (h:Below w.heap.size w w1):w.grownBy w1 row:=⟨h.os,h.tape,h.output,h.size,fun i hi _=>h.block i hi⟩
theorem grown_setCells (w:World) (g o:Nat) (vs:List Value):w.grownBy (w.setCells g o vs) (some g):=by
 obtain ⟨h1,h2,h3,h4⟩:=setCells_words (g:=g) vs o w
 exact ⟨h1,h2,h3,Nat.le_of_eq h4.symm,fun i hi hne=>setCells_other vs o w i fun e=>hne (by rw [e])⟩
structure PuAt (w:World) (n0 g c:Nat) (ps:List PurseD) (cs:List Value):Prop where
 ge:n0≤g
 blk:Bk w g cs 113
 nc:ps.length≤c
 cm:c≤maxLen
 len:cs.length=c * 3
 at':∀ i (h:i<ps.length) j u,(cellsPu ps[i])[j]?=some u→cs[i * 3+j]?=some u
theorem flat_take {ps:List PurseD} {cs:List Value}:(ps.length * 3≤cs.length∧∀ i (h:i<ps.length) j u,(cellsPu ps[i])[j]?=some u→cs[i * 3+j]?=some u) ↔ cs.take (ps.length * 3)=ps.flatMap cellsPu:=by
 constructor
 ·rintro ⟨hl,h⟩
  refine List.ext_getElem? fun k=>?_
  by_cases hk:k<ps.length * 3
  ·have hi:k / 3<ps.length:=by omega
   have e:k=k / 3 * 3+k % 3:=by omega
   have hj:k % 3<3:=by omega
   rw [List.getElem?_take,if_pos hk,e,flatMap_get (cells:=cellsPu) (size:=3) (fun _=>rfl) hi hj]
   have hq:(cellsPu ps[k / 3])[k % 3]?=some ((cellsPu ps[k / 3])[k % 3]'(by simpa using hj)):=List.getElem?_eq_getElem _
   rw [hq]
   exact h _ hi _ _ hq
  ·rw [List.getElem?_eq_none (by rw [List.length_take];omega),List.getElem?_eq_none (by rw [puCells_len];omega)]
 ·intro h
  have hl:ps.length * 3≤cs.length:=by
   have:=congrArg List.length h
   rw [List.length_take,puCells_len] at this
   omega
  refine ⟨hl,fun i hi j u hu=>?_⟩
  have hj:j<3:=by simpa using (List.getElem?_eq_some_iff.1 hu).1
  have:=flatMap_get (cells:=cellsPu) (size:=3) (fun _=>rfl) hi hj
  rw [← h,List.getElem?_take,if_pos (by omega),hu] at this
  exact this
theorem PuAt.row {w:World} {n0 g c:Nat} {ps:List PurseD} {cs:List Value} (h:PuAt w n0 g c ps cs):PuRow w n0 (.slice (some ⟨g,0,none⟩) ps.length c) ps:=by
 refine ⟨puCells_len ps,.inr ⟨g,c,cs.toArray,rfl,h.ge,h.blk,h.nc,h.cm,by simpa using h.len,?_⟩⟩
 exact flat_take.1 ⟨by rw [h.len];exact Nat.mul_le_mul_right _ h.nc,h.at'⟩
theorem PuRow.at {w:World} {n0:Nat} {v:Value} {ps:List PurseD} (h:PuRow w n0 v ps) (hp:0<ps.length):∃ g c cs,v=.slice (some ⟨g,0,none⟩) ps.length c∧PuAt w n0 g c ps cs:=by
 obtain ⟨g,cap,cur,rfl,hb,hg,hnc,hcm,hs,ht⟩:=h.2.resolve_left (by rintro ⟨_,e⟩;omega)
 exact ⟨g,cap,cur.toList,rfl,hb,hg,hnc,hcm,by simpa using hs,(flat_take.2 ht).2⟩
theorem PuAt.keep {w w':World} {n0 g c:Nat} {ps:List PurseD} {cs:List Value} (h:PuAt w n0 g c ps cs) (hb:Below w.heap.size w w'):PuAt w' n0 g c ps cs:=⟨h.ge,h.blk.below hb h.blk.lt,h.nc,h.cm,h.len,h.at'⟩
theorem PuAt.set {w:World} {n0 g c:Nat} {ps:List PurseD} {cs:List Value} (h:PuAt w n0 g c ps cs) {i:Nat} (hi:i<ps.length) (x:PurseD) :
  ∃ cs',PuAt (((w.setCell ⟨g,i * 3,none⟩ (.int .i64 x.m)).setCell ⟨g,i * 3+1,none⟩ (.int .i64 x.s)).setCell ⟨g,i * 3+2,none⟩ (.int .i64 x.p)) n0 g c (ps.set i x) cs':=by
 refine ⟨_,h.ge,((h.blk.set (i * 3) _).set (i * 3+1) _).set (i * 3+2) _,by simpa using h.nc,h.cm,by simpa using h.len,fun k hk j u hu=>?_⟩
 have hk':k<ps.length:=by simpa using hk
 have hj:j<3:=by simpa using (List.getElem?_eq_some_iff.1 hu).1
 have hl:i * 3+2<cs.length:=by have:=h.len;have:=h.nc;omega
 by_cases e:k=i
 ·subst e
  rw [List.getElem_set_self] at hu
  rcases j with _ | _ | _ | j
  ·rw [List.getElem?_set,if_neg (by omega),List.getElem?_set,if_neg (by omega),List.getElem?_set,if_pos (by omega),if_pos (by omega)];exact hu
  ·rw [List.getElem?_set,if_neg (by omega),List.getElem?_set,if_pos (by omega),if_pos (by rw [List.length_set];omega)];exact hu
  ·rw [List.getElem?_set,if_pos (by omega),if_pos (by rw [List.length_set,List.length_set];omega)];exact hu
  ·omega
 ·rw [List.getElem_set_ne (fun e2=>e e2.symm)] at hu
  rw [List.getElem?_set,if_neg (by omega),List.getElem?_set,if_neg (by omega),List.getElem?_set,if_neg (by omega)]
  exact h.at' k hk' j u hu
theorem PuAt.cut {w:World} {n0 g c:Nat} {ps:List PurseD} {cs:List Value} (h:PuAt w n0 g c ps cs) {i:Nat} (hi:i≤ps.length) (vs:List Value) :
  ∃ cs',PuAt (w.setCells g (i * 3) vs) n0 g c (ps.take i) cs':=by
 obtain ⟨cs',h1,h2,h3⟩:=h.blk.setCells (vs:=vs) (o:=i * 3)
 refine ⟨cs',h.ge,h1,by rw [List.length_take];have:=h.nc;omega,h.cm,h2.trans h.len,fun k hk j u hu=>?_⟩
 rw [List.length_take] at hk
 rw [List.getElem_take] at hu
 have hj:j<3:=by simpa using (List.getElem?_eq_some_iff.1 hu).1
 rw [h3 _ (by omega)]
 exact h.at' k (by omega) j u hu
theorem CloAt.grown {g b:Nat} {q:PurseD} {w w':World} {row:Option Nat} (h:CloAt g b q w) (hg:w.grownBy w' row) (h1:row≠some g) (h2:row≠some b):CloAt g b q w' :=
 ⟨hg.cell h.c0 (fun e=>h1 e.symm),hg.cell h.c9 (fun e=>h2 e.symm),hg.cell h.c10 (fun e=>h2 e.symm),hg.cell h.c11 (fun e=>h2 e.symm)⟩
def DelTo19 (n0:Nat) (v:Value) (ps:List PurseD) (w:World) (e:Ending) (w':World):Prop :=
 ∃ v' ps',e=.returned v'∧v'.ownBlock=v.ownBlock∧PuRow w' n0 v' ps'∧ps'.length≤ps.length∧w.grownBy w' v.ownBlock
def DelRel19 (n0 gr c n:Nat) (w:World) (si sj:Value) (wr:World):Prop :=
 ∃ (i j:Nat) (qs:List PurseD) (cs:List Value),si=.int .i64 i∧sj=.int .i64 j∧i<j∧j≤n∧qs.length=n∧PuAt wr n0 gr c qs cs∧w.grownBy wr (some gr)
set_option maxHeartbeats 6400000 in
set_option maxRecDepth 100000 in
theorem purseDelete_any (n0:Nat) (v:Value) (ps:List PurseD) (g b:Nat) (q:PurseD) (w:World) (hl:ps.length≤1000000000000) (hr:PuRow w n0 v ps) (hc:CloAt g b q w) (hg:v.ownBlock≠some g) (hb:v.ownBlock≠some b) :
  Calls Tryz.prog 135 #[v,.func (.func 136) #[] #[.pointer (some ⟨g,0,none⟩)]] w (DelTo19 n0 v ps w):=by
 obtain ⟨A0,c0,rfl,hc1,hc2,hrec⟩:=hr.out
 have HI:=Lib.hid (purseIndex_any ps g b q A0 ps.length c0 w rfl hl hrec hc)
 have HR:=Lib.hid hr
 have HC:=Lib.hid hc
 have HG:=Lib.hid hg
 have HB:=Lib.hid hb
 clear hr hrec hc hg hb
 obtain ⟨n,hn⟩:∃ n,n=ps.length:=⟨_,rfl⟩
 have HN:=Lib.hid hn
 rw [← hn] at HI hl hc1 ⊢
 clear hn
 go_enter Tryz.func135,Tryz.ntmps135
 go_wp2_with fail
 refine HI.out.mono ?_
 rintro e w1 ⟨⟨i,rfl,hi0,hi1⟩,hb1⟩
 have HB1:=Lib.hid hb1
 clear HI hb1
 by_cases hi:i=-1
 ·subst hi
  go_wp2
  go_ret
  exact ⟨_,ps,rfl,rfl,by have:=HR.out;rw [← HN.out] at this;rw [HN.out];exact HR.out.keep fun k cs _ hb=>hb.below HB1.out hb.lt,Nat.le_refl _,grown_below HB1.out⟩
 ·obtain ⟨i0,rfl⟩:∃ i0:Nat,i=i0:=⟨i.toNat,by omega⟩
  have hin:i0<n:=by omega
  clear hi hi0 hi1
  obtain ⟨gr,c',cs,hv,HPA⟩:=HR.out.at (by have:=HN.out;omega)
  injection hv with hv1 _ hv2
  subst hv1
  subst hv2
  have HP:=Lib.hid (HPA.keep HB1.out)
  clear HPA
  have hw1:IntKind.i64.wrap ((i0:Int)+1)=(i0:Int)+1:=IntWalk.i64_in _ (by omega)
  have hieq:((i0:Int) == -1)=false:=by simp
  go_wp2
  go_loopw [5,6] (DelRel19 n0 gr c0 n w) (fun _ sj _=>n - (intOf sj).toNat)
  case atStart=>exact ⟨i0,i0+1,ps,cs,rfl,rfl,by omega,by omega,HN.out.symm,HP.out,grown_below HB1.out⟩
  case round =>
   clear HP hw1 hieq hin
   obtain ⟨i,j,qs,cs,rfl,rfl,hij,hjn,hqs,hP,hgr⟩:=hrel
   have HQ:=Lib.hid hqs
   have HP:=Lib.hid hP
   have HGR:=Lib.hid hgr
   by_cases hlt:j<n
   ·have hjq:j<qs.length:=by omega
    have e0:wr.cell? ⟨gr,j * 3,none⟩=some (.int .i64 qs[j].m):=hP.blk.cell (j * 3) _ (hP.at' j hjq 0 _ rfl)
    have e1:wr.cell? ⟨gr,j * 3+1,none⟩=some (.int .i64 qs[j].s):=hP.blk.cell (j * 3+1) _ (hP.at' j hjq 1 _ rfl)
    have e2:wr.cell? ⟨gr,j * 3+2,none⟩=some (.int .i64 qs[j].p):=hP.blk.cell (j * 3+2) _ (hP.at' j hjq 2 _ rfl)
    generalize qs[j]=x at *
    have ka:Below wr.heap.size wr (wr.alloc (.cells #[.int .i64 x.m,.int .i64 x.s,.int .i64 x.p] 113)):=(Below.refl _ wr).alloc (Nat.le_refl _) _
    have HCW:=Lib.hid ((HC.out.grown hgr HG.out HB.out).below ka)
    have HBX:=Lib.hid (Bf.new wr (cellsPu x) 113 rfl)
    have HKA:=Lib.hid ka
    clear hP hgr hqs ka
    go_wp2_with fail
    go_at_call 136
    refine (forgetClo_any x q g b _ HCW.out.c0 HCW.out.c9 HCW.out.c10 HCW.out.c11).mono ?_
    rintro e w3 ⟨⟨z,rfl⟩,hb3⟩
    have hbx:=HBX.out.below hb3 HBX.out.lt
    have d0:=hbx.cell 0 _ rfl
    have d1:=hbx.cell 1 _ rfl
    have d2:=hbx.cell 2 _ rfl
    have hlx:=hbx.lt
    have k3:Below wr.heap.size wr w3:=HKA.out.trans (hb3.mono (by simp))
    have HP3:=Lib.hid (HP.out.keep k3)
    have HG3:=Lib.hid (grown_trans HGR.out (grown_below k3))
    clear hb3 hbx e0 e1 e2 k3
    cases z with
    | true =>
     go_wp2
     go_roundw
     case rel=>exact ⟨i,j+1,qs,cs,rfl,by go_num,by omega,by omega,HQ.out,HP3.out,HG3.out⟩
     case measure=>simp [intOf];omega
    | false =>
     have hi3:i<qs.length:=by have:=HQ.out;omega
     have hin:(i:Int)<(n:Int):=by omega
     have hi0:(0:Int)≤(i:Int):=by omega
     have f0:=HP3.out.blk.cell (i * 3) _ (HP3.out.at' i hi3 0 _ rfl)
     have f1:=HP3.out.blk.cell (i * 3+1) _ (HP3.out.at' i hi3 1 _ rfl)
     have f2:=HP3.out.blk.cell (i * 3+2) _ (HP3.out.at' i hi3 2 _ rfl)
     have z0:=HP3.out.blk.frozen (i * 3)
     have z1:=HP3.out.blk.frozen (i * 3+1)
     have z2:=HP3.out.blk.frozen (i * 3+2)
     generalize qs[i]=y at *
     obtain ⟨cs',hset⟩:=HP3.out.set hi3 x
     have HSET:=Lib.hid (And.intro hset (grown_trans HG3.out (grown_trans (grown_trans (⟨rfl,rfl,rfl,by simp,fun k hk hne=>heap_setCell_other w3 _ k _ fun e=>hne (by rw [e])⟩:w3.grownBy (w3.setCell ⟨gr,i * 3,none⟩ (.int .i64 x.m)) (some gr)) (⟨rfl,rfl,rfl,by simp,fun k hk hne=>heap_setCell_other _ _ k _ fun e=>hne (by rw [e])⟩:(w3.setCell ⟨gr,i * 3,none⟩ (.int .i64 x.m)).grownBy ((w3.setCell ⟨gr,i * 3,none⟩ (.int .i64 x.m)).setCell ⟨gr,i * 3+1,none⟩ (.int .i64 x.s)) (some gr))) (⟨rfl,rfl,rfl,by simp,fun k hk hne=>heap_setCell_other _ _ k _ fun e=>hne (by rw [e])⟩:((w3.setCell ⟨gr,i * 3,none⟩ (.int .i64 x.m)).setCell ⟨gr,i * 3+1,none⟩ (.int .i64 x.s)).grownBy (((w3.setCell ⟨gr,i * 3,none⟩ (.int .i64 x.m)).setCell ⟨gr,i * 3+1,none⟩ (.int .i64 x.s)).setCell ⟨gr,i * 3+2,none⟩ (.int .i64 x.p)) (some gr)))))
     clear hset
     go_wp2
     go_roundw
     case rel=>exact ⟨i+1,j+1,qs.set i x,cs',by go_num,by go_num,by omega,by omega,by rw [List.length_set];exact HQ.out,HSET.out.1,HSET.out.2⟩
     case measure=>simp [intOf];omega
   ·have hjn2:j=n:=by omega
    subst hjn2
    have hiq:i≤qs.length:=by omega
    obtain ⟨cs',hcut⟩:=hP.cut hiq (Builtin.zeroCells #[.int .i64 0,.int .i64 0,.int .i64 0] (j - i)).toList
    have HK:=Lib.hid (And.intro hcut (grown_trans hgr (grown_setCells wr gr (i * 3) (Builtin.zeroCells #[.int .i64 0,.int .i64 0,.int .i64 0] (j - i)).toList)))
    have hcell:∀ k,k<(Builtin.zeroCells #[.int .i64 0,.int .i64 0,.int .i64 0] (j - i)).toList.length→(wr.cell? ⟨gr,i * 3+0+k,none⟩).isSome=true:=fun k hk=>by
     rw [Array.length_toList,size_zeroCells] at hk
     have h1:=hP.len
     have h2:=hP.nc
     rw [hP.blk.cell (i * 3+0+k) _ (List.getElem?_eq_getElem (by simp at hk;omega))];rfl
    have hst:=run_storeCells_cells (P:=Tryz.prog) gr (i * 3) (Builtin.zeroCells #[.int .i64 0,.int .i64 0,.int .i64 0] (j - i)).toList 0 wr hcell (fun k _=>hP.blk.frozen _) (fun u hu=>by
     have:u=.int .i64 0:=by
      rw [Array.mem_toList_iff] at hu
      unfold Builtin.zeroCells at hu
      obtain ⟨k,hk,rfl⟩:=Array.mem_map.1 hu
      have h3:k % 3<3:=Nat.mod_lt _ (by decide)
      show #[Value.int .i64 0,.int .i64 0,.int .i64 0][k % 3]! = _
      rcases hq:k % 3 with _ | _ | _ | q
      ·rfl
      ·rfl
      ·rfl
      ·omega
     rw [this];rfl)
    rw [Nat.add_zero] at hst
    obtain ⟨m,hm⟩:∃ m,j - i=m+1:=⟨j - i - 1,by omega⟩
    have hcl:∀ ty,(Builtin.clear_ #[155] ty #[.slice (some ⟨gr,i * 3,none⟩) (j - i) (c0 - i)]).run Tryz.prog wr=.ok (.tuple #[]) (wr.setCells gr (i * 3) (Builtin.zeroCells #[.int .i64 0,.int .i64 0,.int .i64 0] (j - i)).toList):=fun ty=>by
     have hz:∀ u,(zeroValue 113).run Tryz.prog u=.ok (.agg #[.int .i64 0,.int .i64 0,.int .i64 0]) u:=fun u=>by kernel_rfl
     have hzc:(Value.agg #[.int .i64 0,.int .i64 0,.int .i64 0]).cells=#[.int .i64 0,.int .i64 0,.int .i64 0]:=rfl
     rw [hm] at hst ⊢
     simp [Builtin.clear_,run_underlying Tryz.underlying155,hz,hzc,hst]
    generalize wr.setCells gr (i * 3) (Builtin.zeroCells #[.int .i64 0,.int .i64 0,.int .i64 0] (j - i)).toList=W9 at *
    have hi0:(0:Int)≤(i:Int):=by omega
    have hic:(i:Int)≤(c0:Int):=by omega
    have hij2:(i:Int)≤(j:Int):=by omega
    have hne:¬ c0=i:=by omega
    clear hst hcell hm hP hgr
    go_wp2
    go_ret
    have hrow:=HK.out.1.row
    rw [List.length_take,Nat.min_eq_left hiq] at hrow
    exact ⟨_,qs.take i,rfl,rfl,hrow,by rw [List.length_take,← HN.out];omega,HK.out.2⟩
structure Fr (T:TypeId→Prop) (mp:Nat) (M:Nat→Prop) (w w':World):Prop where
 but:But M w w'
 other:∀ k,k<w.heap.size→k≠mp→(∀ cs t,T t→¬ Bk w k cs t)→w'.heap[k]?=w.heap[k]?
section
variable {T T':TypeId→Prop} {mp:Nat} {M M':Nat→Prop} {w w' w2:World} {b:Nat} {cs:List Value} {t:TypeId}
theorem Fr.refl (T:TypeId→Prop) (mp:Nat) (M:Nat→Prop) (w:World):Fr T mp M w w:=⟨.refl _ _,fun _ _ _ _=>rfl⟩
theorem Fr.of (h:ButT T M w w'):Fr T mp M w w':=⟨h.but,fun k hk _ hn=>h.other k hk hn⟩
theorem Fr.bk (h:Fr T mp M w w') (hb:Bk w b cs t) (ht:¬ T t) (hm:b≠mp):Bk w' b cs t :=
 (h.other b hb.lt hm fun cs' t' ht' hb'=>ht ((hb.one hb').2 ▸ ht')).trans hb
theorem Fr.trans (h:Fr T mp M w w') (k:Fr T mp M' w' w2) (hM:∀ b,b<w.heap.size→M' b→M b):Fr T mp M w w2 :=
 ⟨h.but.trans k.but hM,fun i hi hm hn=>by
  have e:=h.other i hi hm hn
  exact (k.other i (Nat.lt_of_lt_of_le hi h.but.size) hm fun cs t ht hb=>hn cs t ht (e.symm.trans hb)).trans e⟩
theorem Fr.imp (h:Fr T mp M w w') (hT:∀ t,T t→T' t) (hM:∀ b,b<w.heap.size→M b→M' b):Fr T' mp M' w w' :=
 ⟨h.but.imp hM,fun i hi hm hn=>h.other i hi hm fun cs t ht=>hn cs t (hT t ht)⟩
theorem Fr.below (h:Below w.heap.size w w'):Fr T mp M w w':=.of (.of h)
theorem Fr.grown {row:Nat} (h:w.grownBy w' (some row)) (hb:Bk w row cs t) (ht:T t) (hm:M row):Fr T mp M w w' :=
 ⟨⟨h.os,h.tape,h.output,h.size,fun k hk hn=>h.block k hk fun e=>hn (by injection e with e;rw [e];exact hm)⟩,fun k hk _ hn=>h.block k hk fun e=>hn cs t ht (by injection e with e;rw [e];exact hb)⟩
theorem Fr.map (h:w.grownBy w' (some mp)) (hm:M mp):Fr T mp M w w' :=
 ⟨⟨h.os,h.tape,h.output,h.size,fun k hk hn=>h.block k hk fun e=>hn (by injection e with e;rw [e];exact hm)⟩,fun k hk hne _=>h.block k hk fun e=>hne (by injection e)⟩
end
def PurT (t:TypeId):Prop:=t=113
theorem Mp.notBk {mp n0 cnt:Nat} {f:Value→Value} {Ps:ByteArray→List PurseD} {M:Nat→Prop} {w:World} (h:Mp mp n0 cnt f Ps M w) {b:Nat} {cs:List Value} {t:TypeId} (hb:Bk w b cs t):b≠mp:=by
 rintro rfl
 obtain ⟨es,clock,he,_⟩:=h.tells
 have:=he.symm.trans hb
 cases this
theorem Mp.struck {mp n0 cnt:Nat} {f g:Value→Value} {Ps:ByteArray→List PurseD} {M:Nat→Prop} {w w':World} (h:Mp mp n0 cnt f Ps M w) (ht:Tells Tryz.prog 9 (.slice none 0 0) mp cnt g w') (hg:w.grownBy w' (some mp)) (hfg:∀ x,g x=f x∨g x=.slice none 0 0) :
  ∃ Ps',Mp mp n0 cnt g Ps' M w':=by
 classical
 have hrow:∀ s,PuRow w' n0 (f (.string s)) (Ps s):=fun s=>(h.row s).keep fun k cs hk hb=>hb.grown hg fun e=>h.off hk (by injection e with e;exact e.symm)
 refine ⟨fun s=>if g (.string s)=f (.string s) then Ps s else [],ht,h.hm,fun s=>?_,fun s k hk=>?_,fun s u hsu k hk=>?_,fun k hk=>⟨(h.lt k hk).1,Nat.lt_of_lt_of_le (h.lt k hk).2 hg.size⟩,fun s=>by
  split
  ·exact h.few s
  ·exact Nat.zero_le _⟩
 ·split
  ·rename_i e
   rw [e];exact hrow s
  ·rename_i e
   rw [(hfg (.string s)).resolve_left e]
   exact PuRow.nil w' n0
 ·rcases hfg (.string s) with e | e
  ·rw [e] at hk;exact h.rm s k hk
  ·rw [e] at hk;cases hk
 ·rcases hfg (.string s) with e | e
  ·rw [e] at hk
   rcases hfg (.string u) with e2 | e2
   ·rw [e2];exact h.ap s u hsu k hk
   ·rw [e2];intro e3;cases e3
  ·rw [e] at hk;cases hk

theorem updV_ex (f:Value→Value) (key v:Value):∃ g:Value→Value,g key=v∧∀ x,x≠key→g x=f x:=by
 classical
 exact ⟨fun x=>if x=key then v else f x,by simp,fun x hx=>by simp [hx]⟩
theorem Tells.grown {P:Program} {k:TypeId} {z:Value} {b n:Nat} {f:Value→Value} {w w':World} {row:Option Nat} (h:Tells P k z b n f w) (hg:w.grownBy w' row) (hne:row≠some b):Tells P k z b n f w':=by
 have hlt:=h.lt
 obtain ⟨es,clock,hb,r⟩:=h
 exact ⟨es,clock,(hg.block b hlt (fun e=>hne e.symm)).trans hb,r⟩
def ForgetTo19 (mp n0 cnt:Nat) (M:Nat→Prop) (w:World) (e:Ending) (w':World):Prop :=
 ∃ f Ps,e=.returned (.tuple #[])∧Mp mp n0 (cnt+1) f Ps M w'∧Fr PurT mp M w w'
set_option maxHeartbeats 6400000 in
set_option maxRecDepth 100000 in
theorem forget_any {hb mp n0 cnt:Nat} {f:Value→Value} {Ps:ByteArray→List PurseD} {M:Nat→Prop} {w:World} {cs cs':List Value} (h:Mp mp n0 cnt f Ps M w) (hcnt:cnt+1<maxLen) (hh:Bk w hb cs 77) (h7:cs[7]?=some (.map (some mp)))
  (b:Nat) (s:ByteArray) (q:PurseD) (hn:Bk w b cs' 115) (k3:cs'[3]?=some (.string s)) (k9:cs'[9]?=some (.int .i64 q.m)) (k10:cs'[10]?=some (.int .i64 q.s)) (k11:cs'[11]?=some (.int .i64 q.p)) (hs:s.size≤maxLen) (hfew:cnt≤1000000000000) :
  Calls Tryz.prog 91 #[ptr19 hb,ptr19 b] w (ForgetTo19 mp n0 cnt M w):=by
 obtain ⟨kl,hkl⟩:=key_str19 hs
 have ka:Below w.heap.size w (w.alloc (.cells #[ptr19 b] 78)):=(Below.refl _ w).alloc (Nat.le_refl _) _
 have hbx:=Bk.new w [ptr19 b] 78
 have HKA:=Lib.hid (ButT.of ka:ButT PurT M w _)
 have hhW:=hh.below ka hh.lt
 have hnW:=hn.below ka hn.lt
 have hMW:=h.below ka
 have hne1:w.heap.size≠hb:=by have:=hh.lt;omega
 have HH:=Lib.hid h
 clear h hh hn ka
 go_enter Tryz.func91,Tryz.ntmps91
 go_upto_region 1 with fail
 generalize hW:w.alloc (.cells #[ptr19 b] 78)=W at *
 clear hW
 generalize w.heap.size=g at *
 have hclo:CloAt g b q W.drew:=⟨hbx.cell 0 _ rfl,hnW.cell 9 _ k9,hnW.cell 10 _ k10,hnW.cell 11 _ k11⟩
 have hMD:=hMW.below (Below.refl _ W).drew
 have hlk:(Instr.lookup 71 (.map (some mp)) (.string s) false).run Tryz.prog W.drew=.ok (f (.string s)) W.drew:=hMD.tells.lookup strKeyed19 Tryz.underlying71 (zeroPu19 _) hkl
 have hng:(f (.string s)).ownBlock≠some g:=fun e=>by
  obtain ⟨c,hc⟩:=(hMW.row s).type e
  exact absurd (hc.one hbx).2 (by decide)
 have hnb:(f (.string s)).ownBlock≠some b:=fun e=>by
  obtain ⟨c,hc⟩:=(hMW.row s).type e
  exact absurd (hc.one hnW).2 (by decide)
 have hnh:(f (.string s)).ownBlock≠some hb:=fun e=>by
  obtain ⟨c,hc⟩:=(hMW.row s).type e
  exact absurd (hc.one hhW).2 (by decide)
 have HDEL:=Lib.hid (purseDelete_any n0 (f (.string s)) (Ps s) g b q W.drew (Nat.le_trans (hMD.few s) hfew) (hMD.row s) hclo hng hnb)
 have HN3:=Lib.hid (And.intro hng (And.intro hnb hnh))
 have d0:=hbx.drew.cell 0 _ rfl
 have d3:=hnW.drew.cell 3 _ k3
 have d7:=hhW.drew.cell 7 _ h7
 have HBX:=Lib.hid hbx
 have HNW:=Lib.hid hnW
 have HHW:=Lib.hid hhW
 have HMW:=Lib.hid hMW
 clear hclo hMD hng hnb hnh hbx hnW hhW hMW k9 k10 k11
 go_region_held3 (fun w'=>w'.cell? ⟨g,0,none⟩=some (ptr19 b)∧w'.cell? ⟨b,3,none⟩=some (.string s)∧w'.cell? ⟨hb,7,none⟩=some (.map (some mp)))
  (first | (with_reducible assumption) | ((repeat' apply And.intro) <;> with_reducible assumption))
  (first
   | (go_at_call 135;refine HDEL.out.mono ?_;rintro e w3 ⟨v',ps',rfl,hv1,hv2,hv3,hgr3⟩;have x0:=hgr3.cell (row:=(f (.string s)).ownBlock) d0 (fun e=>HN3.out.1 e.symm);have x3:=hgr3.cell (row:=(f (.string s)).ownBlock) d3 (fun e=>HN3.out.2.1 e.symm);have x7:=hgr3.cell (row:=(f (.string s)).ownBlock) d7 (fun e=>HN3.out.2.2 e.symm);have HV:=Lib.hid (And.intro hv1 (And.intro hv2 (And.intro hv3 hgr3)));clear hv1 hv2 hv3 hgr3))
 all_goals
  obtain ⟨hv1,hv2,hv3,hgr3⟩:=HV.out
  have hMD:=HMW.out.below (Below.refl _ W).drew
  have hoff:(f (.string s)).ownBlock≠some mp:=fun e=>HMW.out.off e rfl
  have ht3:Tells Tryz.prog 9 (.slice none 0 0) mp cnt f w3.drew:=hMD.tells.grown (w':=w3.drew) ⟨hgr3.os,hgr3.tape,hgr3.output,hgr3.size,hgr3.block⟩ hoff
  obtain ⟨gf,hgf1,hgf2⟩:=updV_ex f (.string s) v'
  obtain ⟨w4,hrun4,ht4,hgr4⟩:=ht3.store strKeyed19 Tryz.underlying71 (by omega) v' hkl hgf1 hgf2
  have b0:=(HBX.out.drew.grown hgr3 HN3.out.1)
  have b3:=(HNW.out.drew.grown hgr3 HN3.out.2.1)
  have b7:=(HHW.out.drew.grown hgr3 HN3.out.2.2)
  have hm0:mp≠g:=fun e=>(HMW.out.notBk HBX.out) e.symm
  have hm3:mp≠b:=fun e=>(HMW.out.notBk HNW.out) e.symm
  have hm7:mp≠hb:=fun e=>(HMW.out.notBk HHW.out) e.symm
  have c0:=Bk.grown (w:=w3.drew) b0 hgr4 (fun e=>hm0 (by injection e))
  have c3:=Bk.grown (w:=w3.drew) b3 hgr4 (fun e=>hm3 (by injection e))
  have c7:=Bk.grown (w:=w3.drew) b7 hgr4 (fun e=>hm7 (by injection e))
  have hM4:Mp mp n0 (cnt+1) gf (updS Ps s ps') M w4:=hMD.turn (w1:=w3) hv2 (fun k hk hne=>hgr3.block k hk (fun e=>hne e.symm)) hgr3.size ht4 ⟨hgr4.os,hgr4.tape,hgr4.output,hgr4.size,hgr4.block⟩ (fun _ hk=>hk) (fun k hk=>HMW.out.rm s k (by rw [← hv1];exact hk)) (fun k hk=>⟨(hMD.lt k hk).1,Nat.lt_of_lt_of_le (hMD.lt k hk).2 (Nat.le_trans hgr3.size hgr4.size)⟩) (.inl hv1) hgf1 hgf2 (Nat.le_trans hv3 (Nat.le_succ_of_le (HMW.out.few s)))
  have hF4:Fr PurT mp M w w4:=by
   have f1:Fr PurT mp M w W.drew:=.of HKA.out.drew
   have f2:Fr PurT mp M W.drew w3:=by
    refine ⟨⟨hgr3.os,hgr3.tape,hgr3.output,hgr3.size,fun k hk hn=>hgr3.block k hk fun e=>hn (hMD.rm s k e.symm)⟩,fun k hk _ hn=>hgr3.block k hk fun e=>?_⟩
    obtain ⟨c,hc⟩:=(hMD.row s).type e.symm
    exact hn c _ rfl hc
   exact (f1.trans f2 fun _ _ h=>h).trans (Fr.map (w:=w3) ⟨hgr4.os,hgr4.tape,hgr4.output,hgr4.size,hgr4.block⟩ HMW.out.hm) fun _ _ h=>h
  obtain ⟨A',c',rfl,hcc,hcm,-⟩:=hv2.out
  have HM4:=Lib.hid hM4
  have HF4:=Lib.hid hF4
  have HC4:=Lib.hid (And.intro c0 (And.intro c3 c7))
  have HT4:=Lib.hid ht4
  have e0:=b0.drew.cell 0 _ rfl
  have e3:=b3.drew.cell 3 _ k3
  have e7:=b7.drew.cell 7 _ h7
  clear hv1 hv2 hv3 hgr3 hMD hoff ht3 ht4 hgr4 b0 b3 b7 hm0 hm3 hm7 c0 c3 c7 hM4 hF4 HV x0 x3 x7 hlk d0 d3 d7 hgf1 hgf2 HDEL hcc hcm
  go_upto_region 2 with fail
  go_region
  all_goals
   obtain ⟨w5,gd,hrun5,ht5,hgd,hgr5⟩:=Tells.delete (w:=w4.drew) (ty:=0) (t:=71) (HT4.out.grown (w':=w4.drew) (row:=none) ⟨rfl,rfl,rfl,Nat.le_refl _,fun _ _ _=>rfl⟩ (by simp)) strLaw19 Tryz.underlying71 hkl
   clear hrun4 e0 e3 e7
   by_cases hl0:ps'.length=0
   ·rw [hl0]
    obtain ⟨Ps5,hM5⟩:=(HM4.out.below (Below.refl _ w4).drew).struck ht5 hgr5 hgd
    have HFIN:=Lib.hid (show ForgetTo19 mp n0 cnt M w (.returned (.tuple #[])) w5 from ⟨gd,Ps5,rfl,hM5,HF4.out.trans (Fr.map (w:=w4) ⟨hgr5.os,hgr5.tape,hgr5.output,hgr5.size,hgr5.block⟩ HM4.out.hm) fun _ _ h=>h⟩)
    have e0:=HC4.out.1.drew.cell 0 _ rfl
    have e3:=HC4.out.2.1.drew.cell 3 _ k3
    have e7:=HC4.out.2.2.drew.cell 7 _ h7
    clear hM5 ht5 hgr5 hgd
    go_upto_region 4 with fail
    go_region
    all_goals
     go_wp2
     go_end0
     exact HFIN.out
   ·have hne:¬ ((ps'.length:Int)=0):=by omega
    have HFIN:=Lib.hid (show ForgetTo19 mp n0 cnt M w (.returned (.tuple #[])) w4 from ⟨_,_,rfl,HM4.out,HF4.out⟩)
    clear ht5 hgr5 hgd hrun5 hl0
    go_wp2
    go_end0
    exact HFIN.out
def LastTo19 (hb n0:Nat) (a0 a1 a2 a3 a4 a5:Value) (left:Int) (mp:Nat) (R:Nat→List Nat) (N:Nat) (cut:Bool) (M:Nat→Prop) (w:World) (e:Ending) (w':World):Prop :=
 ∃ r b l V',r<77∧R r=l++[b]∧e=.returned (ptr19 b)∧Ln hb n0 a0 a1 a2 a3 a4 a5 left mp V' (upd19 R r l) (N - 1) cut M w'∧ButT LineT M w w'
set_option maxHeartbeats 3200000 in
set_option maxRecDepth 100000 in
theorem lineLast_any {hb n0:Nat} {a0 a1 a2 a3 a4 a5:Value} {left:Int} {mp:Nat} {V:Nat→Value} {R:Nat→List Nat} {N:Nat} {cut:Bool} {M:Nat→Prop} {w:World} (h:Ln hb n0 a0 a1 a2 a3 a4 a5 left mp V R N cut M w) (hs:0<N) (hm:N≤1000000) :
  Calls Tryz.prog 92 #[.pointer (some ⟨hb,8,none⟩)] w (LastTo19 hb n0 a0 a1 a2 a3 a4 a5 left mp R N cut M w):=by
 have H:=Lib.hid h
 clear h
 go_enter Tryz.func92,Tryz.ntmps92
 go_wp2
 go_loopw [3] (fun i wr=>∃ k:Nat,k<77∧i=.int .i64 k∧(∀ q,k<q→q<77→R q=[])∧wr=w) (fun i _=>(intOf i).toNat)
 case atStart=>exact ⟨76,by omega,rfl,fun q hq _=>by omega,rfl⟩
 case round =>
  obtain ⟨k,hlt,rfl,hq,rfl⟩:=hrel
  have HQ:=Lib.hid hq
  clear hq
  have hk0:(0:Int)≤(k:Int):=by omega
  have hk7:(k:Int)<77:=by omega
  have e0:=H.out.blk.cell (8+k) _ (huntL_row hlt)
  obtain ⟨A,c,eV,hc1,hc2⟩:=(H.out.row k hlt).slice
  rw [eV] at e0
  have HV:=Lib.hid eV
  clear eV
  rcases List.eq_nil_or_concat (R k) with hR | ⟨l,b,hR⟩
  ·rw [hR,List.length_nil] at e0
   have HR:=Lib.hid hR
   have hk1:k≠0:=fun e=>by
    have h1:sumR R 77=0:=sumR_none fun r hr=>by
     by_cases e2:r=0
     ·rw [e2,← e];exact HR.out
     ·exact HQ.out r (by omega) hr
    have:=H.out.cnt
    omega
   obtain ⟨j,rfl⟩:∃ j,k=j+1:=⟨k - 1,by omega⟩
   clear hR hc1 hc2 hk1
   go_wp2
   go_roundw
   case rel=>exact ⟨j,by omega,by go_num,fun q hq h7=>by
    by_cases e:q=j+1
    ·rw [e];exact HR.out
    ·exact HQ.out q (by omega) h7,trivial⟩
   case measure=>simp [intOf]
  ·rw [List.concat_eq_append] at hR
   rw [hR,List.length_append,List.length_singleton] at e0
   have hrow:=H.out.row k hlt
   rw [HV.out,hR] at hrow
   obtain ⟨g,o,c',eS,hcs,hc3,hc4⟩:=hrow.cells (by simp)
   injection eS with eA _ eC
   subst eA eC
   obtain ⟨hg0,hf0⟩:=hcs l.length (by simp)
   rw [List.getElem_append_right (Nat.le_refl _)] at hg0
   simp only [Nat.sub_self,List.getElem_cons_zero] at hg0
   have hl0:(0:Int)≤(l.length:Int):=by omega
   have hwl:wrap64 (l.length:Int)=(l.length:Int):=by rw [wrap64];have:=hc4;unfold maxLen at this;rw [List.length_append] at hc3;omega
   have hwl2:IntKind.i64.wrap (l.length:Int)=(l.length:Int):=IntWalk.i64_in _ (by have:=hc4;unfold maxLen at this;rw [List.length_append] at hc3;omega)
   have hlc:l.length≤c:=by rw [List.length_append] at hc3;omega
   have HROW:=Lib.hid hrow
   have HR:=Lib.hid hR
   have hgne:g≠hb:=H.out.off hlt (by rw [HV.out];rfl)
   have e1:(wr.setCell ⟨g,o+l.length,none⟩ (.pointer none)).cell? ⟨hb,8+k,none⟩=some (.slice (some ⟨g,o,none⟩) (l.length+1) c):=(World.cell?_setCell_far wr ⟨g,o+l.length,none⟩ ⟨hb,8+k,none⟩ _ hgne).trans e0
   have f1:(wr.setCell ⟨g,o+l.length,none⟩ (.pointer none)).frozen? ⟨hb,8+k,none⟩=false:=(H.out.blk.other (p:=⟨g,o+l.length,none⟩) hgne _).frozen _
   obtain ⟨N0,rfl⟩:∃ N0,N=N0+1:=⟨N - 1,by omega⟩
   have HFIN:Hid (∀ v,PRow (wr.setCell ⟨g,o+l.length,none⟩ (.pointer none)) n0 v l→v.ownBlock=some g→Ln hb n0 a0 a1 a2 a3 a4 a5 left mp (upd19 V k v) (upd19 R k l) N0 cut M (((wr.setCell ⟨g,o+l.length,none⟩ (.pointer none)).setCell ⟨hb,8+k,none⟩ v).drew.setCell ⟨hb,85,none⟩ (.int .i64 N0))∧ButT LineT M wr (((wr.setCell ⟨g,o+l.length,none⟩ (.pointer none)).setCell ⟨hb,8+k,none⟩ v).drew.setCell ⟨hb,85,none⟩ (.int .i64 N0))):=fun v hv hvb=>by
    have hVk:(V k).ownBlock=some g:=by rw [HV.out];rfl
    obtain ⟨cs,hcs'⟩:=(H.out.row k hlt).type g hVk
    refine ⟨Ln.heap (H.out.turn (M':=M) hlt hv (fun i _ hi=>heap_setCell_other wr _ i _ fun e=>hi (by rw [hVk,e])) (by simp) (fun _ h=>h) (fun i hi=>by rw [hvb] at hi;cases hi;exact H.out.rm k hlt _ hVk) (fun i hi=>by simpa using H.out.lt i hi) (.inl (by rw [hvb,hVk])) (by rw [HR.out,List.length_append];simp;omega)) rfl,?_⟩
    have k1:ButT LineT M wr (wr.setCell ⟨g,o+l.length,none⟩ (.pointer none)):=ButT.set hcs' (.inr rfl) (H.out.rm k hlt _ hVk) _ _
    have b1:=H.out.blk.other (p:=⟨g,o+l.length,none⟩) hgne (.pointer none)
    have k2:=k1.trans (ButT.set (M:=M) b1 (.inl rfl) H.out.hm (8+k) v) fun _ _ h=>h
    have b2:=b1.set (8+k) v
    exact (k2.trans (ButT.set (M:=M) b2 (.inl rfl) H.out.hm 85 (.int .i64 N0)) fun _ _ h=>h).heap rfl rfl rfl rfl
   have H85:Hid (∀ v,((wr.setCell ⟨g,o+l.length,none⟩ (.pointer none)).setCell ⟨hb,8+k,none⟩ v).drew.cell? ⟨hb,85,none⟩=some (.int .i64 (N0+1:Nat))∧((wr.setCell ⟨g,o+l.length,none⟩ (.pointer none)).setCell ⟨hb,8+k,none⟩ v).drew.frozen? ⟨hb,85,none⟩=false):=fun v=>by
    have b2:=(H.out.blk.other (p:=⟨g,o+l.length,none⟩) hgne (.pointer none)).set (8+k) v
    rw [huntL_setRow hlt] at b2
    exact ⟨b2.cell 85 _ huntL_many,b2.frozen 85⟩
   clear hrow hcs hR hc1 hc2
   have HT:=Lib.hid (HROW.out.pop (.pointer none))
   go_wp2
   generalize hW1:wr.setCell ⟨g,o+l.length,none⟩ (.pointer none)=W1 at *
   clear hW1
   go_region
   all_goals
    obtain ⟨x85,y85⟩:=H85.out (.slice (some ⟨g,o,none⟩) l.length c)
    have hfin:=HFIN.out (.slice (some ⟨g,o,none⟩) l.length c) HT.out rfl
    have HF:=Lib.hid hfin
    clear hfin
    generalize (W1.setCell ⟨hb,8+k,none⟩ (.slice (some ⟨g,o,none⟩) l.length c)).drew=W2 at *
    clear e0 e1 f1
    go_wp2
    go_ret
    exact ⟨k,b,l,_,hlt,HR.out,rfl,HF.out.1,HF.out.2⟩
def KeyTo (t:StateD) (w:World) (e:Ending) (w':World):Prop:=e=.returned (.string (keyS t))∧Below w.heap.size w w'

set_option maxHeartbeats 1600000 in
theorem keyOf_any (t:StateD) (A:Option Addr) (n c:Nat) (w:World) (ht:t.Ok) (hn:n=t.pods.length) (hl:n≤600) (hr:Recs 8 cellsP w w.heap.size A t.pods) :
  Calls Tryz.prog 88 #[stateV A n c t.preempts t.shifts] w (KeyTo t w):=by
 have b0:=(Below.refl w.heap.size w).alloc (Nat.le_refl _) (.cells #[.slice A n c,.int .i64 t.preempts,.int .i64 t.shifts] 44)
 have HF:=Lib.hid (numbers_any17 t A n c (w.alloc (.cells #[.slice A n c,.int .i64 t.preempts,.int .i64 t.shifts] 44)) hn (by omega) ((hr.below b0 (Nat.le_refl _)).more b0.size))
 have HB:=Lib.hid b0
 have HNS:=Lib.hid (numsT_nums ht (by omega))
 have HLN:Hid ((numsT t).length≤5000):=by show _≤_;rw [numsT_len];omega
 clear hr hn ht b0
 go_enter Tryz.func88,Tryz.ntmps88
 go_wp2_with fail
 refine HF.out.mono ?_
 rintro e w1 ⟨A1,c1,rfl,hrow1,hb1⟩
 have HR1:=Lib.hid hrow1
 clear hrow1
 go_wp2_with fail
 refine (Put_any (numsT t) A1 c1 w1 HLN.out HNS.out HR1.out).mono ?_
 rintro e w2 ⟨v,rfl,hown2,hb2⟩
 obtain ⟨A2,c2,rfl,_,_,_⟩:=own_form hown2
 have hrow2:=(Row.of_own hown2).1
 have hcv:=conv_row (encs (numsT t)) A2 (encs (numsT t)).length c2 _ w2 rfl hrow2
 have HK:=Lib.hid (show strOfNums (encs (numsT t))=keyS t from rfl)
 clear hown2 hrow2
 go_wp2
 go_ret
 exact ⟨rfl,(HB.out.trans (hb1.mono HB.out.size)).trans (hb2.mono (by have:=HB.out.size;have:=hb1.size;omega))⟩
end Go.Proofs.YthapilknnhlmfaaGreatDoor
namespace Go.Proofs.YthapilknnhlmfaaGreatDoor
set_option linter.unusedSimpArgs false
open Go.RowKit Go.Shelf
set_option linter.unusedVariables false
attribute [local go_sem] Oper.semAt_some
def FstO (g:Nat) (k:Nat):Prop:=k=g+3∨k=g+4∨k=g+5
def FstI (w:World) (pre:List PropQ) (O:Nat→Prop) (V:World):Prop :=
 pre=[]∧O=FstO w.heap.size∧Bf V (w.heap.size+3) (cellsM ⟨0,0,0,0⟩)∧Bf V (w.heap.size+4) [.slice none 0 0,.int .i64 0,.int .i64 0]∧Bf V (w.heap.size+5) [.bool false]∧Below w.heap.size w V
def FstX (w:World) (base:Nat) (pre:List PropQ) (V:World):Prop :=
 ∃ q,pre=[q]∧Out 8 cellsP V q.1.2.pods q.2.1 q.2.2∧(∀ a,q.2.1=some a→base≤a.block)∧Bf V (w.heap.size+3) (cellsM q.1.1)∧Bf V (w.heap.size+4) [.slice q.2.1 q.1.2.pods.length q.2.2,.int .i64 q.1.2.preempts,.int .i64 q.1.2.shifts]∧Bf V (w.heap.size+5) [.bool true]∧Below w.heap.size w V
def FstA (tm:Nat→Nat→PropQ→Array Value) (base:Nat) (q:PropQ) (a':Act) (V:World):Prop :=
 ∃ b1 b2,base≤b1∧base≤b2∧Bf V b1 (cellsM q.1.1)∧Bf V b2 [.slice q.2.1 q.1.2.pods.length q.2.2,.int .i64 q.1.2.preempts,.int .i64 q.1.2.shifts]∧Out 8 cellsP V q.1.2.pods q.2.1 q.2.2∧(∀ a,q.2.1=some a→base≤a.block)∧a'={ tmps:=tm b1 b2 q,defers:=[] }
theorem FstI.but {w W A B:World} {pre:List PropQ} {O:Nat→Prop} (hW:w.heap.size+6≤W.heap.size) (h:FstI w pre O A) (hb:But (RecQ W) A B):FstI w pre O B:=by
 obtain ⟨h1,h2,h3,h4,h5,h6⟩:=h
 exact ⟨h1,h2,h3.but hb (fun e=>by unfold RecQ at e;omega),h4.but hb (fun e=>by unfold RecQ at e;omega),h5.but hb (fun e=>by unfold RecQ at e;omega),h6.trans (hb.below h6.size fun k hk=>by unfold RecQ at hk;omega)⟩
theorem FstX.but {w W A B:World} {pre:List PropQ} (hW:w.heap.size+6≤W.heap.size) (h:FstX w (W.heap.size+2) pre A) (hb:But (RecQ W) A B):FstX w (W.heap.size+2) pre B:=by
 obtain ⟨q,h1,h2,h0,h3,h4,h5,h6⟩:=h
 exact ⟨q,h1,h2.but hb (fun a ha e=>by have:=h0 a ha;unfold RecQ at e;omega),h0,h3.but hb (fun e=>by unfold RecQ at e;omega),h4.but hb (fun e=>by unfold RecQ at e;omega),h5.but hb (fun e=>by unfold RecQ at e;omega),h6.trans (hb.below h6.size fun k hk=>by unfold RecQ at hk;omega)⟩
theorem FstA.but {W A B:World} {tm:Nat→Nat→PropQ→Array Value} {q:PropQ} {a':Act} (h:FstA tm (W.heap.size+2) q a' A) (hb:But (RecQ W) A B):FstA tm (W.heap.size+2) q a' B:=by
 obtain ⟨b1,b2,k1,k2,h1,h2,h3,h4,h5⟩:=h
 exact ⟨b1,b2,k1,k2,h1.but hb (fun e=>by unfold RecQ at e;omega),h2.but hb (fun e=>by unfold RecQ at e;omega),h3.but hb (fun a ha e=>by have:=h4 a ha;unfold RecQ at e;omega),h4,h5⟩
theorem But.setO {O:Nat→Prop} {A B:World} (h:But O A B) {p:Addr} (hp:O p.block) (v:Value):But O A (B.setCell p v):=h.trans (.set p v hp) fun _ _ h=>h
theorem FstX.made {w V W':World} {base:Nat} {q:PropQ} (hg:w.heap.size+6≤base) (hO:Out 8 cellsP V q.1.2.pods q.2.1 q.2.2) (hfr:∀ a,q.2.1=some a→base≤a.block) (hB:Below w.heap.size w V) (kb:But (FstO w.heap.size) V W')
  (b3:Bf W' (w.heap.size+3) (cellsM q.1.1)) (b4:Bf W' (w.heap.size+4) [.slice q.2.1 q.1.2.pods.length q.2.2,.int .i64 q.1.2.preempts,.int .i64 q.1.2.shifts]) (b5:Bf W' (w.heap.size+5) [.bool true]):But (FstO w.heap.size) V W'∧FstX w base [q] W' :=
 ⟨kb,q,rfl,hO.but kb (fun a ha e=>by have:=hfr a ha;unfold FstO at e;omega),hfr,b3,b4,b5,hB.trans (kb.below hB.size fun k hk=>by unfold FstO at hk;omega)⟩
theorem run_append_where {P:Program} (w:World) (base:Nat) (t ty e:TypeId) (i:TypeInfo) (z:Value) (size bytes:Nat) (h1:P.underlying t=some (.slice e)) (h2:P.info? e=some i) (h3:i.zero=some z) (h4:i.size=size) (h5:i.bytes=bytes) (h6:z.cells.size=size) (h7:0<size)
  (v:Value) (k:Nat) (xs:List Value) (hown:w.ownsRow base e size v k xs) (ad:Addr) (m c:Nat) (news:List Value) (hn:news.length=m * size) (hc:∀ j u,news[j]?=some u→w.cell? (ad.add j)=some u) (h1c:∀ u ∈ news,u.oneCell'=true)
  (b1:k+m≤maxLen) (b2:(k+m) * bytes≤140737488355328) (b3:base≤w.heap.size) :
  ∃ v' w',(Builtin.append_ #[t,t] ty #[v,.slice (some ad) m c]).run P w=.ok v' w'∧w'.ownsRow base e size v' (k+m) (xs++news)∧w.grownBy w' v.ownBlock∧∀ g,v'.ownBlock=some g→v.ownBlock=some g∨w.heap.size≤g:=by
 obtain ⟨v',w',hr,r1,r2,_⟩:=run_append_own (P:=P) w base t ty e i z size bytes h1 h2 h3 h4 h5 h6 h7 v k xs hown ad m c news hn hc h1c b1 b2 b3
 refine ⟨v',w',hr,r1,r2,fun g hg=>?_⟩
 rcases hown.2 with ⟨rfl,rfl⟩ | ⟨g0,cap,cur,rfl,hbg,hg0,hnc,hcm,hcs,htake⟩
 ·have hx:xs=[]:=List.eq_nil_of_length_eq_zero (by simpa using hown.1)
  subst hx
  obtain ⟨v2,w2,hr2,q1,_,_⟩:=run_append_own (P:=P) w w.heap.size t ty e i z size bytes h1 h2 h3 h4 h5 h6 h7 (.slice none 0 0) 0 [] (World.ownsRow_nil _ _ _ _) ad m c news hn hc h1c b1 b2 (Nat.le_refl _)
  rw [hr] at hr2
  injection hr2 with e1 e2
  subst e1 e2
  exact .inr (q1.lt g hg).1
 ·by_cases hroom:k+m≤cap
  ·obtain ⟨w2,hr2,_,_⟩:=run_append_fits (P:=P) w base t ty e i size h1 h2 h4 g0 k cap xs hown ad m c news hn hc h1c hroom
   rw [hr] at hr2
   injection hr2 with e1 _
   subst e1
   exact .inl hg
  ·subst h4 h5
   have hr2:=run_append_grow (P:=P) w t ty e i z h1 h2 h3 ⟨g0,0,none⟩ k cap xs hown.1 (hown.cells (g:=g0) rfl) ad m c news hn hc (by omega) (by unfold maxLen at b1;omega) (growslice_fits (by omega) b2)
   rw [hr] at hr2
   injection hr2 with e1 _
   subst e1
   have:w.heap.size=g:=by simpa [Value.ownBlock] using hg
   exact .inr (by omega)
theorem wpListIn_append_where {F:Fence} {n:Nat} {P:Program} (w:World) {ops:Array Oper} {rest:List Oper} {o:Oper} {a:Act} {Q:Exit→Act→World→Prop}
  (hg:o.guard=none) (s x:Operand) (t:TypeId) (hop:o.op=Op.call { callee:=Callee.builtin Builtin.append,args:=#[s,x],argTypes:=#[t,t] })
  (base:Nat) (e:TypeId) (i:TypeInfo) (z:Value) (size bytes:Nat) (h1:P.underlying t=some (.slice e)) (h2:P.info? e=some i) (h3:i.zero=some z) (h4:i.size=size) (h5:i.bytes=bytes) (h6:z.cells.size=size) (h7:0<size)
  (v:Value) (k:Nat) (xs:List Value) (hs:a.eval s=v) (hown:w.ownsRow base e size v k xs) (ad:Addr) (m c:Nat) (news:List Value) (hx:a.eval x=.slice (some ad) m c) (hn:news.length=m * size)
  (hc:∀ j u,news[j]?=some u→w.cell? (ad.add j)=some u) (h1c:∀ u ∈ news,u.oneCell'=true) (b1:k+m≤maxLen) (b2:(k+m) * bytes≤140737488355328) (b3:base≤w.heap.size)
  (hK:∀ v' w',w'.ownsRow base e size v' (k+m) (xs++news)→w.grownBy w' v.ownBlock→(∀ g,v'.ownBlock=some g→v.ownBlock=some g∨w.heap.size≤g)→wpListIn F n P ops Q rest (a.put o.dst v') w') :
  wpListIn F n P ops Q (o :: rest) a w:=by
 refine wpListIn_plain hg fun K hK'=>?_
 obtain ⟨v',w',hrun,r1,r2,r3⟩:=run_append_where (P:=P) w base t o.type e i z size bytes h1 h2 h3 h4 h5 h6 h7 v k xs hown ad m c news hn hc h1c b1 b2 b3
 unfold Oper.wpIn
 refine ⟨?_,?_⟩
 ·simp [Oper.about,hop,resolve,Target.leads,Sem.run_pure]
 ·rw [Oper.semAt_plain F _ _ (by rw [hop];intro c hc';cases hc')]
  simp [execOp,hop,resolve,invoke,builtin,hs,hx,hrun,Result.andThen]
  exact hK' _ _ (hK v' w' r1 r2 r3)

theorem flat_lenQ {α β:Type} {f:α→List β} {m:Nat}:∀ {l:List α},(∀ y ∈ l,(f y).length≤m)→(l.flatMap f).length≤l.length * m
 | [],_=>by simp
 | y :: r,h=>by
  rw [List.flatMap_cons,List.length_append,List.length_cons,Nat.add_mul,Nat.one_mul]
  have h1:=h y (by simp)
  have h2:=flat_lenQ (f:=f) (m:=m) (l:=r) fun z hz=>h z (by simp [hz])
  omega
theorem add_zeroQ (b j:Nat):(⟨b,0,none⟩:Addr).add j=⟨b,j,none⟩:=by unfold Addr.add;split <;> simp_all
theorem own_but {A B:World} {O:Nat→Prop} {base n size:Nat} {e:TypeId} {v:Value} {xs:List Value} (h:A.ownsRow base e size v n xs) (hb:But O A B) (hO:∀ k,v.ownBlock=some k→¬ O k):B.ownsRow base e size v n xs:=by
 refine ⟨h.1,?_⟩
 rcases h.2 with h0 | ⟨g,cap,cur,rfl,h1,hg,rest⟩
 ·exact .inl h0
 ·exact .inr ⟨g,cap,cur,rfl,h1,(hb.block g (Array.getElem?_eq_some_iff.1 hg).1 (hO g rfl)).trans hg,rest⟩
theorem But.grown {O:Nat→Prop} {A B:World} {row:Option Nat} (h:A.grownBy B row) (hO:∀ k,row=some k→O k):But O A B :=
 ⟨h.os,h.tape,h.output,h.size,fun k hk hn=>h.block k hk fun e=>hn (hO k e.symm)⟩
abbrev rowQ (pre:List PropQ):List Value:=pre.flatMap fun q=>cellsM q.1.1
theorem rowQ_snoc (pre:List PropQ) (q:PropQ):rowQ (pre++[q])=rowQ pre++cellsM q.1.1:=by simp [rowQ]
def PrpI (w W:World) (pre:List PropQ) (O:Nat→Prop) (V:World):Prop :=
 ∃ v,(O=fun k=>k=w.heap.size+3∨v.ownBlock=some k)∧Boxed V (w.heap.size+3) 32 v∧V.ownsRow (W.heap.size+2) 89 4 v pre.length (rowQ pre)∧Below w.heap.size w V
def PrpA (tm:Nat→PropQ→Array Value) (base:Nat) (q:PropQ) (a':Act) (V:World):Prop:=∃ b1,base≤b1∧Bf V b1 (cellsM q.1.1)∧a'={ tmps:=tm b1 q,defers:=[] }
theorem PrpI.but {w W A B:World} {pre:List PropQ} {O:Nat→Prop} (hW:w.heap.size+4≤W.heap.size) (h:PrpI w W pre O A) (hb:But (RecQ W) A B):PrpI w W pre O B:=by
 obtain ⟨v,h1,h2,h3,h4⟩:=h
 exact ⟨v,h1,(hb.block _ h2.lt (fun e=>by unfold RecQ at e;omega)).trans h2,own_but h3 hb (fun k hk e=>by have:=(h3.lt k hk).1;unfold RecQ at e;omega),h4.trans (hb.below h4.size fun k hk=>by unfold RecQ at hk;omega)⟩
theorem PrpA.but {W A B:World} {tm:Nat→PropQ→Array Value} {q:PropQ} {a':Act} (h:PrpA tm (W.heap.size+2) q a' A) (hb:But (RecQ W) A B):PrpA tm (W.heap.size+2) q a' B:=by
 obtain ⟨b1,k1,h1,h5⟩:=h
 exact ⟨b1,k1,h1.but hb (fun e=>by unfold RecQ at e;omega),h5⟩
theorem infoMoveQ:(Tryz.prog.info? 89).map (fun i=>(i.zero,i.size,i.bytes))=some (some (.agg #[.int .i64 0,.int .i64 0,.int .i64 0,.int .i64 0]),4,32):=by kernel_rfl
theorem infoQ {P:Program} {e:TypeId} {z:Value} {size bytes:Nat} (h:(P.info? e).map (fun i=>(i.zero,i.size,i.bytes))=some (some z,size,bytes)):∃ i,P.info? e=some i∧i.zero=some z∧i.size=size∧i.bytes=bytes:=by
 cases hi:P.info? e with
 | none=>rw [hi] at h;cases h
 | some i =>
  rw [hi] at h
  have h:=Option.some.inj h
  simp only [Prod.mk.injEq] at h
  exact ⟨i,rfl,h⟩
end Go.Proofs.YthapilknnhlmfaaGreatDoor
