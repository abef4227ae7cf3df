/- Joined texts, part 12: OE PA PB XA QA QB XB QC QD EPG. -/
import Derived.Test.YthapilknnhlmfaaGreatDoorZ11
import Derived.Test.YthapilknnhlmfaaGreatDoorZ10
import Derived.Test.YthapilknnhlmfaaGreatDoorZ07
import Derived.Test.YthapilknnhlmfaaGreatDoorZ06
import Derived.Test.YthapilknnhlmfaaGreatDoorZ08
import Derived.Test.YthapilknnhlmfaaGreatDoorZ02
import Derived.Test.YthapilknnhlmfaaGreatDoorZ05
import Derived.Test.YthapilknnhlmfaaGreatDoorZ09
import Derived.Deep.CutRange
import Derived.Test.YthapilknnhlmfaaGreatDoorZ01
import Derived.RangeFuncNested
import Derived.RangeFuncCalls
import Derived.RangeFuncLeaves
import Derived.Shelf.Abstract
import Derived.Shelf.RegionOpen
import Derived.WalkKit
import Derived.OwnWalkIn
import Derived.TacticsInMore
import Derived.LoopNIn
import Derived.LoopIn
import Derived.Maps.AppendAt
import Derived.Test.YthapilknnhlmfaaGreatDoorZ03
import Derived.Shelf.SlSortCmp.NoneTotal
import Derived.Test.YthapilknnhlmfaaGreatDoorProg

namespace Go.Proofs.YthapilknnhlmfaaGreatDoor
set_option linter.unusedSimpArgs false
open Go.RowKit
set_option linter.unusedVariables false
structure SafeArgs (ns:List NodeD) (ls:List LoadD) (l:List PodD) (A1 A2 A4:Option Addr) (n1 n2 n4 c4:Nat) (w:World):Prop where
 g:Laid w
 no:∀ x ∈ ns,x.Ok
 lo:∀ p ∈ l,p.Ok
 e1:n1=ns.length
 l1:n1≤400
 r1:Recs 10 cellsN w w.heap.size A1 ns
 e2:n2=ls.length
 l2:n2≤400
 r2:Recs 5 cellsL w w.heap.size A2 ls
 e4:n4=l.length
 l4:n4≤400
 k4:n4≤c4
 r4:Recs 8 cellsP w w.heap.size A4 l
theorem SafeArgs.at {ns:List NodeD} {ls:List LoadD} {l:List PodD} {A1 A2 A4:Option Addr} {n1 n2 n4 c4:Nat} {w V:World} (h:SafeArgs ns ls l A1 A2 A4 n1 n2 n4 c4 w) (hV:Below w.heap.size w V):SafeArgs ns ls l A1 A2 A4 n1 n2 n4 c4 V :=
 ⟨Laid.below h.g hV (Nat.le_refl _),h.no,h.lo,h.e1,h.l1,(h.r1.below hV (Nat.le_refl _)).more hV.size,h.e2,h.l2,(h.r2.below hV (Nat.le_refl _)).more hV.size,h.e4,h.l4,h.k4,(h.r4.below hV (Nat.le_refl _)).more hV.size⟩

theorem budgetUsedP (A4 A5:Option Addr) (n4 c4 n5 c5:Nat) (x1 x2 t1 t2:Int) (w:World) :
  Calls Tryz.prog 131 #[.agg #[.slice A5 n5 c5,.int .i64 x1,.int .i64 x2],.agg #[.slice A4 n4 c4,.int .i64 t1,.int .i64 t2]] w (ErrTo (usedP x1 x2 t1 t2) w):=by
 refine (budgetUsed_any A4 A5 n4 c4 n5 c5 x1 x2 t1 t2 w).mono ?_
 rintro e w' ⟨rfl,hb⟩
 refine ⟨_,rfl,?_,hb⟩
 cases hu:usedD x1 x2 t1 t2 with
 | true=>exact .inr (.inl ⟨by simp [usedP,hu],by simp [usedP,hu],by simp [usedP,hu],by simp [usedV,usedP,hu]⟩)
 | false=>exact .inl ⟨by simp [usedP,hu],by simp [usedV]⟩

theorem safeFaults_any (ns:List NodeD) (ls:List LoadD) (l:List PodD) (x1 x2 t1 t2:Int) (A1 A2 A3 A4 A5:Option Addr) (n1 c1 n2 c2 n3 c3 n4 c4 n5 c5:Nat) (most:Nat) (hm:1≤most) (w:World) (h:SafeArgs ns ls l A1 A2 A4 n1 n2 n4 c4 w) :
  Calls Tryz.prog 86 #[.agg #[.slice A1 n1 c1,.slice A2 n2 c2,.slice A3 n3 c3],.agg #[.slice A5 n5 c5,.int .i64 x1,.int .i64 x2],.agg #[.slice A4 n4 c4,.int .i64 t1,.int .i64 t2],.int .i64 (most:Int)] w (FaultsTo (fiveP ns ls l x1 x2 t1 t2) most w) :=
 safeFaults_walk _ _ _ _ _ most hm _ _ _ _ _ _ _ _ _ w
  (fun V hV=>have k:=h.at hV;roomCheck_any ns l k.no k.lo A1 A4 n1 c1 n4 c4 _ _ _ _ V k.g k.e1 k.l1 k.r1 k.e4 k.l4 k.r4)
  (fun V hV=>have k:=h.at hV;apartCheck_any ls l A2 A4 n2 c2 n4 c4 _ _ _ _ V k.e2 k.l2 k.r2 k.e4 k.l4 k.k4 k.r4)
  (fun V hV=>have k:=h.at hV;spreadCheck_any ns ls l A1 A2 A4 n1 c1 n2 c2 n4 c4 _ _ _ V k.e1 k.l1 k.r1 k.e2 k.l2 k.r2 k.e4 k.l4 k.r4)
  (fun V hV=>have k:=h.at hV;budgetCheck_any ls l A1 A2 A4 n1 c1 n2 c2 n4 c4 _ _ _ V k.e2 k.l2 k.r2 k.e4 k.l4 k.r4)
  (fun V hV=>budgetUsedP A4 A5 n4 c4 n5 c5 x1 x2 t1 t2 V)
def whyP (ps:List (Int × Int)):Int × Int:=(badK ps 1 5).headD (0,-1)
theorem errs_nil {ps:List (Int × Int)} {B:Nat} {w:World} {us:List Value} (h:ErrsIs (badK ps 1 5) B w us) (h0:us.length=0):whyP ps=(0,-1):=by
 have e:badK ps 1 5=[]:=List.eq_nil_of_length_eq_zero (by rw [← h.1];exact h0)
 rw [whyP,e];rfl
theorem errs_one {ps:List (Int × Int)} {B:Nat} {w:World} {us:List Value} (h:ErrsIs (badK ps 1 5) B w us) (h0:0<us.length):ErrIs (whyP ps) B w us[0]:=by
 cases e:badK ps 1 5 with
 | nil=>rw [e] at h;have:=h.1;simp only [List.length_nil] at this;omega
 | cons p r =>
  rw [e] at h
  have e2:whyP ps=p:=by rw [whyP,e];rfl
  rw [e2]
  exact h.2 0 p us[0] rfl (List.getElem?_eq_getElem h0)

set_option maxHeartbeats 3200000 in
set_option maxRecDepth 100000 in
theorem safeWhy_any (ns:List NodeD) (ls:List LoadD) (l:List PodD) (x1 x2 t1 t2:Int) (A1 A2 A3 A4 A5:Option Addr) (n1 c1 n2 c2 n3 c3 n4 c4 n5 c5:Nat) (w:World) (h:SafeArgs ns ls l A1 A2 A4 n1 n2 n4 c4 w) :
  Calls Tryz.prog 47 #[.agg #[.slice A1 n1 c1,.slice A2 n2 c2,.slice A3 n3 c3],.agg #[.slice A5 n5 c5,.int .i64 x1,.int .i64 x2],.agg #[.slice A4 n4 c4,.int .i64 t1,.int .i64 t2]] w (ErrTo (whyP (fiveP ns ls l x1 x2 t1 t2)) w):=by
 have T0:=T3.new w [.slice A1 n1 c1,.slice A2 n2 c2,.slice A3 n3 c3] [.slice A5 n5 c5,.int .i64 x1,.int .i64 x2] [.slice A4 n4 c4,.int .i64 t1,.int .i64 t2] 26 29 44
 have HF:=Lib.hid (safeFaults_any ns ls l x1 x2 t1 t2 A1 A2 A3 A4 A5 n1 c1 n2 c2 n3 c3 n4 c4 n5 c5 1 (Nat.le_refl _) _ (h.at T0.below))
 have HT0:=Lib.hid T0
 generalize fiveP ns ls l x1 x2 t1 t2=ps at *
 clear h T0
 go_enter Tryz.func47,Tryz.ntmps47
 go_wp2_with fail
 refine HF.out.mono ?_
 rintro e w1 ⟨v,us,rfl,hus,hown,hb⟩
 obtain ⟨A,c,rfl,hc⟩:=own_slice hown
 have HT1:=Lib.hid (HT0.out.keep hb)
 have HK:=Lib.hid HT1.out.below
 have HUS:=Lib.hid hus
 have HB:Hid (w.heap.size≤(((w.alloc (.cells #[.slice A1 n1 c1,.slice A2 n2 c2,.slice A3 n3 c3] 26)).alloc (.cells #[.slice A5 n5 c5,.int .i64 x1,.int .i64 x2] 29)).alloc (.cells #[.slice A4 n4 c4,.int .i64 t1,.int .i64 t2] 44)).heap.size):=HT0.out.below.size
 by_cases h0:us.length=0
 ·have HE:=Lib.hid (errs_nil HUS.out h0)
  have hd:((us.length:Int) == 0)=true:=by simp [h0]
  clear hus hown hb hc h0
  go_wp2
  go_ret
  exact ⟨_,rfl,.inl ⟨HE.out,rfl⟩,HK.out⟩
 ·obtain ⟨_,_,e1,_,_,_,hrec⟩:=recs_of_own (cells:=fun x:Value=>[x]) oneVal rfl (by rw [flat_ones];exact hown)
  injection e1 with e1 _ e2
  subst e1 e2
  have hpos:0<us.length:=by omega
  have HE:=Lib.hid ((errs_one HUS.out hpos).base HB.out)
  obtain ⟨b,o,rfl,hbb,he⟩:=hrec.at hpos
  have he0:=he 0 _ rfl
  generalize us[0]=u at *
  simp only [Nat.zero_mul,Nat.add_zero] at he0
  have hd:((us.length:Int) == 0)=false:=beq_eq_false_iff_ne.2 (by omega)
  have hgt:¬ ((us.length:Int)≤0):=by omega
  have hlt:(0:Int)<(us.length:Int):=by omega
  clear hus hown hb hc h0 he hrec
  go_wp2
  go_ret
  exact ⟨_,rfl,HE.out,HK.out⟩

set_option maxHeartbeats 3200000 in
set_option maxRecDepth 100000 in
theorem safeIs_any (ns:List NodeD) (ls:List LoadD) (l:List PodD) (x1 x2 t1 t2:Int) (A1 A2 A3 A4 A5:Option Addr) (n1 c1 n2 c2 n3 c3 n4 c4 n5 c5:Nat) (w:World) (h:SafeArgs ns ls l A1 A2 A4 n1 n2 n4 c4 w) :
  Calls Tryz.prog 22 #[.agg #[.slice A1 n1 c1,.slice A2 n2 c2,.slice A3 n3 c3],.agg #[.slice A5 n5 c5,.int .i64 x1,.int .i64 x2],.agg #[.slice A4 n4 c4,.int .i64 t1,.int .i64 t2]] w fun e w'=>e=.returned (.bool (okP (whyP (fiveP ns ls l x1 x2 t1 t2))))∧Below w.heap.size w w':=by
 have T0:=T3.new w [.slice A1 n1 c1,.slice A2 n2 c2,.slice A3 n3 c3] [.slice A5 n5 c5,.int .i64 x1,.int .i64 x2] [.slice A4 n4 c4,.int .i64 t1,.int .i64 t2] 26 29 44
 have HF:=Lib.hid (safeWhy_any ns ls l x1 x2 t1 t2 A1 A2 A3 A4 A5 n1 c1 n2 c2 n3 c3 n4 c4 n5 c5 _ (h.at T0.below))
 have HT0:=Lib.hid T0
 generalize whyP (fiveP ns ls l x1 x2 t1 t2)=p at *
 clear h T0
 go_enter Tryz.func22,Tryz.ntmps22
 go_wp2_with fail
 refine HF.out.mono ?_
 rintro e w1 ⟨u,rfl,hu,hb⟩
 have HK:=Lib.hid (HT0.out.keep hb).below
 cases hok:okP p with
 | true =>
  have hn:=hu.nil hok
  have HOK:=Lib.hid hok
  subst hn
  clear hu hb hok
  go_wp2
  go_ret
  exact ⟨ret_bool HOK.out.symm,HK.out⟩
 | false =>
  obtain ⟨t,v,rfl⟩:=errIs_iface hu hok
  have HOK:=Lib.hid hok
  clear hu hb hok
  go_wp2
  go_ret
  exact ⟨ret_bool HOK.out.symm,HK.out⟩
def goV (o p:PodD):Bool:=decide (o.prio<p.prio)
def hasP (id:Int) (l:List PodD):Bool:=decide (0≤place PodD.id id l 0)
def mayD (pod over:Int) (l:List PodD):Bool:=(hasP pod l && hasP over l) && goV (podZ over l) (podZ pod l)
theorem has_none {id:Int} {l:List PodD} (h:place PodD.id id l 0<0):hasP id l=false:=by simp [hasP];exact h
theorem has_some {id:Int} {l:List PodD} {i:Nat} (h:place PodD.id id l 0=i):hasP id l=true:=by simp [hasP,h]
def isV (node:Int) (p q:PodD):Bool:=q.node == node && goV q p
def vicD (node:Int) (p:PodD) (l:List PodD):List PodD:=l.filter (isV node p)
theorem vic_len (node:Int) (p:PodD) (l:List PodD):(vicD node p l).length≤l.length:=List.length_filter_le _ _
def ltV (a b:PodD):Prop:=a.prio<b.prio∨(a.prio=b.prio∧a.id<b.id)
instance (a b:PodD):Decidable (ltV a b):=by unfold ltV;infer_instance
def VicIs (node pod:Int) (l:List PodD) (zs:List Int):Prop :=
 ((hasP pod l=true∧node≠0)∧∃ vs:List PodD,vs.Perm (vicD node (podZ pod l) l)∧(vs.Pairwise fun x y=>¬ ltV y x)∧zs=vs.map PodD.id)∨((hasP pod l=false∨node=0)∧zs=[])
theorem VicIs.len {node pod:Int} {l:List PodD} {zs:List Int} (h:VicIs node pod l zs):zs.length≤l.length:=by
 rcases h with ⟨_,vs,h1,_,rfl⟩ | ⟨_,rfl⟩
 ·rw [List.length_map,h1.length_eq];exact vic_len _ _ _
 ·exact Nat.zero_le _
def RisesP (l:List PodD):Prop:=l.Pairwise fun x y=>x.id<y.id
section
variable {V:World}
theorem Bf.cells8p {b:Nat} {x:PodD} (h:Bf V b (cellsP x)):(V.cell? ⟨b,0,none⟩=some (.int .i64 x.id)∧V.cell? ⟨b,1,none⟩=some (.int .i64 x.load)∧V.cell? ⟨b,2,none⟩=some (.int .i64 x.prio)∧V.cell? ⟨b,3,none⟩=some (.int .u64 x.req.a)) ∧
  V.cell? ⟨b,4,none⟩=some (.int .u64 x.req.b)∧V.cell? ⟨b,5,none⟩=some (.int .u64 x.req.c)∧V.cell? ⟨b,6,none⟩=some (.int .u64 x.req.d)∧V.cell? ⟨b,7,none⟩=some (.int .i64 x.node)∧b<V.heap.size :=
 ⟨⟨h.cell 0 _ rfl,h.cell 1 _ rfl,h.cell 2 _ rfl,h.cell 3 _ rfl⟩,h.cell 4 _ rfl,h.cell 5 _ rfl,h.cell 6 _ rfl,h.cell 7 _ rfl,h.lt⟩
end
theorem mayGo_any (x y:PodD) (w:World):Calls Tryz.prog 145 #[aggP x,aggP y] w fun e w'=>e=.returned (.bool (goV x y))∧Below w.heap.size w w':=by
 by_cases h:x.prio<y.prio
 ·have HE:=Lib.hid (show goV x y=true from decide_eq_true h)
  have hd:decide (x.prio<y.prio)=true:=decide_eq_true h
  clear h
  go_enter Tryz.func145,Tryz.ntmps145
  go_wp2
  go_ret
  exact ⟨ret_bool HE.out.symm,below_two _ _ _⟩
 ·have HE:=Lib.hid (show goV x y=false from decide_eq_false h)
  have hd:decide (x.prio<y.prio)=false:=decide_eq_false h
  clear h
  go_enter Tryz.func145,Tryz.ntmps145
  go_wp2
  go_ret
  exact ⟨ret_bool HE.out.symm,below_two _ _ _⟩
theorem podOf_any (l:List PodD) (id:Int) (A:Option Addr) (n c:Nat) (v1 v2:Value) (w:World) (hn:n=l.length) (hl:n≤1000) (hr:Recs 8 cellsP w w.heap.size A l) :
  Calls Tryz.prog 37 #[.agg #[.slice A n c,v1,v2],.int .i64 id] w fun e w'=>e=.returned (.tuple #[aggP (podZ id l),.bool (hasP id l)])∧Below w.heap.size w w' :=
 (statePod_any l id A n c v1 v2 w hn hl hr).mono fun e w' ⟨h,hb⟩=>by
  rcases h with ⟨hp,rfl⟩ | ⟨i,hi,hp,rfl⟩
  ·rw [podZ_none hp,has_none hp];exact ⟨rfl,hb⟩
  ·rw [podZ_some hi hp,has_some hp];exact ⟨rfl,hb⟩

set_option maxHeartbeats 3200000 in
set_option maxRecDepth 100000 in
theorem priorMay_any (l:List PodD) (a b:Int) (A:Option Addr) (n c:Nat) (v1 v2:Value) (w:World) (hn:n=l.length) (hl:n≤1000) (hr:Recs 8 cellsP w w.heap.size A l) :
  Calls Tryz.prog 111 #[.agg #[.slice A n c,v1,v2],.int .i64 a,.int .i64 b] w fun e w'=>e=.returned (.bool (mayD a b l))∧Below w.heap.size w w':=by
 have B0:Bf (w.alloc (.cells #[.slice A n c,v1,v2] 44)) w.heap.size [.slice A n c,v1,v2]:=Bf.new w [.slice A n c,v1,v2] 44 rfl
 have k0:Below w.heap.size w (w.alloc (.cells #[.slice A n c,v1,v2] 44)):=(Below.refl _ _).alloc (Nat.le_refl _) _
 have HC:=Lib.hid (fun (id:Int) (V:World) (hV:Below w.heap.size w V)=>podOf_any l id A n c v1 v2 V hn hl ((hr.below hV (Nat.le_refl _)).more hV.size))
 have HC1:=Lib.hid (HC.out a _ k0)
 have HC2:=Lib.hid (fun V hV=>HC.out b V hV)
 have HE:=Lib.hid (show mayD a b l=((hasP a l && hasP b l) && goV (podZ b l) (podZ a l)) from rfl)
 clear hn hr HC
 generalize mayD a b l=r at *
 generalize podZ a l=x at *
 generalize podZ b l=y at *
 generalize hasP a l=s at *
 generalize hasP b l=t at *
 go_enter Tryz.func111,Tryz.ntmps111
 go_wp2_with fail
 refine HC1.out.mono ?_
 rintro e w1 ⟨rfl,hb1⟩
 have k1:=k0.trans (hb1.mono k0.size)
 have B1:=B0.below hb1 B0.lt
 obtain ⟨a0,a1,a2,a3⟩:=B1.cells3
 have X1:Bf (w1.alloc (.cells #[.int .i64 x.id,.int .i64 x.load,.int .i64 x.prio,.int .u64 x.req.a,.int .u64 x.req.b,.int .u64 x.req.c,.int .u64 x.req.d,.int .i64 x.node] 63)) w1.heap.size (cellsP x):=Bf.new w1 (cellsP x) 63 rfl
 have k1a:Below w.heap.size w (w1.alloc (.cells #[.int .i64 x.id,.int .i64 x.load,.int .i64 x.prio,.int .u64 x.req.a,.int .u64 x.req.b,.int .u64 x.req.c,.int .u64 x.req.d,.int .i64 x.node] 63)):=k1.alloc k1.size _
 have HC3:=Lib.hid (HC2.out _ k1a)
 clear hb1 B0 k0
 go_wp2_with fail
 refine HC3.out.mono ?_
 rintro e w2 ⟨rfl,hb2⟩
 have k2:=k1a.trans (hb2.mono k1a.size)
 obtain ⟨⟨x0,x1,x2,x3⟩,x4,x5,x6,x7,x8⟩:=(X1.below hb2 X1.lt).cells8p
 have hne:w1.heap.size≠w2.heap.size:=by omega
 clear hb2 a0 a1 a2 a3 B1 X1
 have k3:Below w.heap.size w (w2.alloc (.cells #[.int .i64 y.id,.int .i64 y.load,.int .i64 y.prio,.int .u64 y.req.a,.int .u64 y.req.b,.int .u64 y.req.c,.int .u64 y.req.d,.int .i64 y.node] 63)):=k2.alloc k2.size _
 cases s with
 | false =>
  go_wp2
  go_ret
  exact ⟨ret_bool (by rw [HE.out];rfl),k3⟩
 | true =>
  cases t with
  | false =>
   go_wp2
   go_ret
   exact ⟨ret_bool (by rw [HE.out];rfl),k3⟩
  | true =>
   go_wp2_with fail
   refine (mayGo_any y x _).mono ?_
   rintro e w3 ⟨rfl,hb3⟩
   go_wp2
   go_ret
   exact ⟨ret_bool (by rw [HE.out];rfl),k3.trans (hb3.mono k3.size)⟩
def prioV (b:Bool):Value:=if b=true then .iface 42 (.int .i64 14) else .nilIface
def prioD (t:List PodD) (m:MoveD):Bool:=m.kind == 4 && !mayD m.pod m.over t
set_option maxHeartbeats 3200000 in
set_option maxRecDepth 100000 in
theorem priorCheck_any (l:List PodD) (m:MoveD) (A:Option Addr) (n c:Nat) (v1 v2:Value) (w:World) (hn:n=l.length) (hl:n≤1000) (hr:Recs 8 cellsP w w.heap.size A l) :
  Calls Tryz.prog 70 #[.agg #[.slice A n c,v1,v2],.agg #[.int .i64 m.kind,.int .i64 m.pod,.int .i64 m.node,.int .i64 m.over]] w fun e w'=>e=.returned (prioV (prioD l m))∧Below w.heap.size w w':=by
 have k0:=below_two w (.cells #[.slice A n c,v1,v2] 44) (.cells #[.int .i64 m.kind,.int .i64 m.pod,.int .i64 m.node,.int .i64 m.over] 89)
 have HC:=Lib.hid (priorMay_any l m.pod m.over A n c v1 v2 _ hn hl ((hr.below k0 (Nat.le_refl _)).more k0.size))
 have HD:Hid (prioD l m=(m.kind == 4 && !mayD m.pod m.over l)):=rfl
 clear hn hr
 generalize mayD m.pod m.over l=r at *
 generalize prioD l m=z at *
 by_cases hk:m.kind=4
 ·have hkd:(m.kind == 4)=true:=by simp [hk]
  have HE:=Lib.hid (show z=!r by rw [HD.out,hkd];rfl)
  clear hk
  go_enter Tryz.func70,Tryz.ntmps70
  go_wp2_with fail
  refine HC.out.mono ?_
  rintro e w1 ⟨rfl,hb1⟩
  have k1:=k0.trans (hb1.mono k0.size)
  clear hb1
  cases r with
  | false =>
   go_wp2
   go_ret
   exact ⟨by rw [HE.out];rfl,k1⟩
  | true =>
   go_wp2
   go_ret
   exact ⟨by rw [HE.out];rfl,k1⟩
 ·have hkd:(m.kind == 4)=false:=by simp [hk]
  have HE:=Lib.hid (show z=false by rw [HD.out,hkd];rfl)
  clear hk
  go_enter Tryz.func70,Tryz.ntmps70
  go_wp2
  go_ret
  exact ⟨by rw [HE.out];rfl,k0⟩
def Told8 (p:Int × Int):Prop:=p=(0,-1)∨(8≤p.1∧p.1≤15)
theorem told8_room {ns:List NodeD} {l:List PodD}:∀ (m:List NodeD) (k:Nat),(∀ n ∈ m,n ∈ ns)→Told8 (roomD ns l m k)
 | [],_,_=>.inl rfl
 | n :: r,k,h=>by
  unfold roomD
  split
  ·rename_i h2
   rcases rest_vals ns l n.id with e | ⟨_,e | e | e⟩
   ·exact absurd e h2
   ·exfalso
    have hn:n ∈ ns:=h n (by simp)
    have:∀ (q:List NodeD),n ∈ q→nodeAt n.id q≠none:=by
     intro q
     induction q with
     | nil=>intro h;simp at h
     | cons y q ih =>
      intro hm
      unfold nodeAt
      split
      ·simp
      ·rename_i hne
       refine ih ?_
       rcases List.mem_cons.1 hm with e | e
       ·exact absurd (by rw [e]) hne
       ·exact e
    have h0:=this ns hn
    cases hq:nodeAt n.id ns with
    | none=>exact h0 hq
    | some n' =>
     rcases h5:useD l n.id with _ | u
     ·rw [rest_over hq h5] at e;exact absurd e (by decide)
     ·rcases h6:leftD n' u with _ | z
      ·rw [rest_room hq h5 h6] at e;exact absurd e (by decide)
      ·rw [rest_some hq h5 h6] at e;simp at e
   ·right;dsimp only;omega
   ·right;dsimp only;omega
  ·exact told8_room r (k+1) (fun n hn=>h n (by simp [hn]))
theorem told8_spread {ns:List NodeD} {l:List PodD}:∀ (m:List LoadD) (k:Nat),Told8 (spreadFrom ns l m k)
 | [],_=>.inl rfl
 | x :: r,k=>by
  unfold spreadFrom
  split
  ·right;dsimp only;omega
  ·exact told8_spread r (k+1)
theorem told8_budget {l:List PodD}:∀ (m:List LoadD) (k:Nat),Told8 (budgetFrom l m k)
 | [],_=>.inl rfl
 | x :: r,k=>by
  unfold budgetFrom
  split
  ·exact told8_budget r (k+1)
  ·rename_i h
   right
   unfold fault9 at h ⊢
   dsimp only
   split
   ·omega
   ·split
    ·omega
    ·rename_i h1 h2;simp [h1,h2] at h
theorem told8_five {ns:List NodeD} {ls:List LoadD} {l:List PodD} {x1 x2 t1 t2:Int} {p:Int × Int} (h:p ∈ fiveP ns ls l x1 x2 t1 t2):Told8 p:=by
 simp only [fiveP,List.mem_cons,List.not_mem_nil,or_false] at h
 rcases h with rfl | rfl | rfl | rfl | rfl
 ·exact told8_room ns 0 (fun _ h=>h)
 ·rcases apartFrom_pair (ls:=ls) (l:=l) l 0 with ⟨_,e⟩ | ⟨j,e⟩
  ·exact .inl e
  ·right
   rw [apartOf,e]
   dsimp only
   omega
 ·exact told8_spread ls 0
 ·exact told8_budget ls 0
 ·unfold usedP
  split
  ·right;dsimp only;omega
  ·exact .inl rfl
theorem told8_why (ns:List NodeD) (ls:List LoadD) (l:List PodD) (x1 x2 t1 t2:Int):Told8 (whyP (fiveP ns ls l x1 x2 t1 t2)):=by
 unfold whyP
 cases e:badK (fiveP ns ls l x1 x2 t1 t2) 1 5 with
 | nil=>exact .inl rfl
 | cons p r =>
  have hp:p ∈ badK (fiveP ns ls l x1 x2 t1 t2) 1 5:=by rw [e];simp
  unfold badK at hp
  exact told8_five (List.mem_of_mem_take (List.mem_filter.1 (List.mem_of_mem_take hp)).1)
theorem told8_ok {p:Int × Int} (h:Told8 p):okP p=(p.1 == 0):=by
 rcases h with rfl | ⟨h1,h2⟩
 ·rfl
 ·have:(p.1 == 0)=false:=by simp;omega
  rw [this,okP,this];rfl
def codeS (ns:List NodeD) (ls:List LoadD) (x:SpecD) (t:StateD):Int:=(whyP (fiveP ns ls t.pods x.preempts x.shifts t.preempts t.shifts)).1
def doD (ns:List NodeD) (ls:List LoadD) (x:SpecD) (t:StateD) (m:MoveD):StateD × Int :=
 if (makeD ns x.wants t m).2≠0 then (noState,(makeD ns x.wants t m).2)
 else if prioD t.pods m=true then (noState,14)
 else if codeS ns ls x (makeD ns x.wants t m).1≠0 then (noState,codeS ns ls x (makeD ns x.wants t m).1)
 else ((makeD ns x.wants t m).1,0)
theorem codeS_vals (ns:List NodeD) (ls:List LoadD) (x:SpecD) (t:StateD):codeS ns ls x t=0∨(8≤codeS ns ls x t∧codeS ns ls x t≤15):=by
 rcases told8_why ns ls t.pods x.preempts x.shifts t.preempts t.shifts with h | h
 ·left;unfold codeS;rw [h]
 ·exact .inr h
theorem make_vals (ns:List NodeD) (x:List WantD) (t:StateD) (m:MoveD):(makeD ns x t m).2=0∨(makeD ns x t m).2=1∨(makeD ns x t m).2=4∨(makeD ns x t m).2=7:=by
 unfold makeD
 split
 ·simp
 ·split
  ·simp
  ·split <;> simp
theorem do_vals (ns:List NodeD) (ls:List LoadD) (x:SpecD) (t:StateD) (m:MoveD):0≤(doD ns ls x t m).2∧(doD ns ls x t m).2≤15:=by
 unfold doD
 have h1:=make_vals ns x.wants t m
 have h2:=codeS_vals ns ls x (makeD ns x.wants t m).1
 split
 ·dsimp only;omega
 ·split
  ·decide
  ·split
   ·dsimp only;omega
   ·dsimp only;omega
theorem do_made {ns:List NodeD} {ls:List LoadD} {x:SpecD} {t:StateD} {m:MoveD} (h:(doD ns ls x t m).2=0):(makeD ns x.wants t m).2=0∧(doD ns ls x t m).1=(makeD ns x.wants t m).1∧codeS ns ls x (doD ns ls x t m).1=0:=by
 by_cases h1:(makeD ns x.wants t m).2=0
 ·by_cases h2:prioD t.pods m=true
  ·rw [doD,if_neg (by simp [h1]),if_pos h2] at h;cases h
  ·by_cases h3:codeS ns ls x (makeD ns x.wants t m).1=0
   ·have e:doD ns ls x t m=((makeD ns x.wants t m).1,0):=by rw [doD,if_neg (by simp [h1]),if_neg h2,if_neg (by simp [h3])]
    rw [e]
    exact ⟨h1,rfl,h3⟩
   ·rw [doD,if_neg (by simp [h1]),if_neg h2,if_pos h3] at h;exact absurd h h3
 ·rw [doD,if_pos h1] at h;exact absurd h h1
theorem do_no1 {ns:List NodeD} {ls:List LoadD} {x:SpecD} {t:StateD} {m:MoveD} (h:(makeD ns x.wants t m).2≠0):doD ns ls x t m=(noState,(makeD ns x.wants t m).2):=by rw [doD,if_pos h]
theorem do_no2 {ns:List NodeD} {ls:List LoadD} {x:SpecD} {t:StateD} {m:MoveD} (h:(makeD ns x.wants t m).2=0) (h2:prioD t.pods m=true):doD ns ls x t m=(noState,14):=by rw [doD,if_neg (by simp [h]),if_pos h2]
theorem do_no3 {ns:List NodeD} {ls:List LoadD} {x:SpecD} {t:StateD} {m:MoveD} (h:(makeD ns x.wants t m).2=0) (h2:prioD t.pods m=false) (h3:codeS ns ls x (makeD ns x.wants t m).1≠0):doD ns ls x t m=(noState,codeS ns ls x (makeD ns x.wants t m).1):=by rw [doD,if_neg (by simp [h]),if_neg (by simp [h2]),if_pos h3]
theorem do_yes {ns:List NodeD} {ls:List LoadD} {x:SpecD} {t:StateD} {m:MoveD} (h:(makeD ns x.wants t m).2=0) (h2:prioD t.pods m=false) (h3:codeS ns ls x (makeD ns x.wants t m).1=0):doD ns ls x t m=((makeD ns x.wants t m).1,0):=by rw [doD,if_neg (by simp [h]),if_neg (by simp [h2]),if_neg (by simp [h3])]
theorem podZ_ok {id:Int} {l:List PodD} (h:∀ p ∈ l,p.Ok):(podZ id l).Ok:=by
 by_cases hp:place PodD.id id l 0<0
 ·rw [podZ_none hp]
  exact ⟨⟨by decide,by decide⟩,⟨by decide,by decide⟩,⟨by decide,by decide⟩,⟨⟨by decide,by decide⟩,⟨by decide,by decide⟩,⟨by decide,by decide⟩,⟨by decide,by decide⟩⟩,⟨by decide,by decide⟩⟩
 ·obtain ⟨i,hi,e⟩:=place_hit hp
  rw [podZ_some hi e]
  exact h _ (List.getElem_mem hi)
theorem come_ok {x:List WantD} {node:Int} {p:PodD} (hx:∀ y ∈ x,y.Ok) (hp:p.Ok) (hn:I64 node):(comeD x node p).Ok:=by
 by_cases h:place WantD.pod p.id x 0<0
 ·rw [come_none h]
  exact ⟨hp.1,hp.2.1,hp.2.2.1,hp.2.2.2.1,hn⟩
 ·obtain ⟨i,hi,e⟩:∃ (i:Nat) (hi:i<x.length),place WantD.pod p.id x 0=i:=by
   have:=place_ge (f:=WantD.pod) (id:=p.id) (l:=x) (k:=0) (by omega)
   exact ⟨(place WantD.pod p.id x 0).toNat,by omega,by omega⟩
  rw [come_some hi e]
  refine ⟨hp.1,hp.2.1,hp.2.2.1,?_,hn⟩
  dsimp only
  split
  ·exact (hx _ (List.getElem_mem hi)).2
  ·exact hp.2.2.2.1
theorem go_ok {p:PodD} (hp:p.Ok):(goD p).Ok:=⟨hp.1,hp.2.1,hp.2.2.1,hp.2.2.2.1,⟨by unfold goD;dsimp only;omega,by unfold goD;dsimp only;omega⟩⟩
theorem set_ok {l:List PodD} {i:Nat} {p:PodD} (h:∀ q ∈ l,q.Ok) (hp:p.Ok):∀ q ∈ l.set i p,q.Ok:=by
 intro q hq
 rcases List.mem_or_eq_of_mem_set hq with e | e
 ·exact h q e
 ·rw [e];exact hp
theorem place_eqA {α:Type} {f:α→Int} {id:Int}:∀ {l:List α} {k:Int} {i:Nat} (hi:i<l.length),place f id l k=k+i→0≤k→f l[i]=id
 | [],_,_,hi,_,_=>by simp at hi
 | x :: r,k,i,hi,h,hk=>by
  by_cases hx:f x=id
  ·simp only [place,if_pos hx] at h
   obtain rfl:i=0:=by omega
   exact hx
  ·simp only [place,if_neg hx] at h
   cases i with
   | zero =>
    have h3:place f id r (k+1)<0∨k+1≤place f id r (k+1):=place_or r (k+1) (by omega)
    omega
   | succ i =>
    simp only [List.getElem_cons_succ]
    exact place_eqA (k:=k+1) (by simpa using hi) (by rw [h];omega) (by omega)
theorem made_ok {ns:List NodeD} {x:List WantD} {t:StateD} {m:MoveD} (hn:∀ n ∈ ns,n.Ok) (hx:∀ y ∈ x,y.Ok) (hl:∀ p ∈ t.pods,p.Ok) (h:(makeD ns x t m).2=0):(∀ p ∈ (makeD ns x t m).1.pods,p.Ok)∧(makeD ns x t m).1.pods.length=t.pods.length:=by
 refine ⟨?_,made_len9 h⟩
 by_cases h1:wellD m=false
 ·rw [makeD,if_pos h1] at h;cases h
 by_cases h2:hereD ns t.pods m=false
 ·rw [makeD,if_neg h1,if_pos h2] at h;cases h
 by_cases h3:canD t.pods m=false
 ·rw [makeD,if_neg h1,if_neg h2,if_pos h3] at h;cases h
 rw [makeD,if_neg h1,if_neg h2,if_neg h3]
 dsimp only
 unfold behindD
 by_cases k2:m.kind=2
 ·rw [if_pos k2]
  exact set_ok hl (go_ok (podZ_ok hl))
 ·have hnode:I64 m.node:=by
   have h2':hereD ns t.pods m=true:=by simpa using h2
   unfold hereD at h2'
   have k2':(m.kind == 2)=false:=by simp [k2]
   simp only [k2',Bool.or_false,Bool.and_eq_true,Bool.not_eq_true',decide_eq_false_iff_not] at h2'
   obtain ⟨i,hi,e⟩:∃ (i:Nat) (hi:i<ns.length),place NodeD.id m.node ns 0=i:=by
    have h3:=h2'.2.1
    have:=place_ge (f:=NodeD.id) (id:=m.node) (l:=ns) (k:=0) (by omega)
    exact ⟨(place NodeD.id m.node ns 0).toNat,by omega,by omega⟩
   have e1:=place_eqA (f:=NodeD.id) (id:=m.node) (k:=0) hi (by rw [e];omega) (by omega)
   rw [← e1]
   exact (hn _ (List.getElem_mem hi)).1
  have hc:=come_ok (node:=m.node) hx (podZ_ok (id:=m.pod) hl) hnode
  rw [if_neg k2]
  split
  ·exact set_ok hl hc
  ·split
   ·exact set_ok (set_ok hl (go_ok (podZ_ok hl))) hc
   ·exact set_ok hl hc
theorem do_ok {ns:List NodeD} {ls:List LoadD} {x:SpecD} {t:StateD} {m:MoveD} (hn:∀ n ∈ ns,n.Ok) (hx:∀ y ∈ x.wants,y.Ok) (hl:∀ p ∈ t.pods,p.Ok) (h:(doD ns ls x t m).2=0):(∀ p ∈ (doD ns ls x t m).1.pods,p.Ok)∧(doD ns ls x t m).1.pods.length=t.pods.length:=by
 obtain ⟨h1,h2,_⟩:=do_made h
 rw [h2]
 exact made_ok hn hx hl h1
def walkK (ns:List NodeD) (ls:List LoadD) (x:SpecD):List MoveD→Nat→StateD→StateD × Nat × Int
 | [],k,t=>(t,k,0)
 | m :: r,k,t=>if (doD ns ls x t m).2=0 then walkK ns ls x r (k+1) (doD ns ls x t m).1 else (t,k,(doD ns ls x t m).2)
theorem walk_at {ns:List NodeD} {ls:List LoadD} {x:SpecD} {l:List MoveD} {k:Nat} {t:StateD} {z:StateD × Nat × Int} (h:k<l.length) {m:MoveD} (hm:l[k]=m) (hp:walkK ns ls x (l.drop k) k t=z) :
  ((doD ns ls x t m).2≠0→z=(t,k,(doD ns ls x t m).2))∧((doD ns ls x t m).2=0→walkK ns ls x (l.drop (k+1)) (k+1) (doD ns ls x t m).1=z):=by
 rw [List.drop_eq_getElem_cons h,hm,walkK] at hp
 constructor
 ·intro e;rw [if_neg e] at hp;exact hp.symm
 ·intro e;rw [if_pos e] at hp;exact hp
theorem walk_end {ns:List NodeD} {ls:List LoadD} {x:SpecD} {l:List MoveD} {k:Nat} {t:StateD} {z:StateD × Nat × Int} (h:l.length≤k) (hp:walkK ns ls x (l.drop k) k t=z):z=(t,k,0):=by
 rw [List.drop_of_length_le h] at hp
 exact hp.symm
theorem walk_vals {ns:List NodeD} {ls:List LoadD} {x:SpecD}:∀ (l:List MoveD) (k:Nat) (t:StateD),k≤(walkK ns ls x l k t).2.1∧(walkK ns ls x l k t).2.1≤k+l.length∧0≤(walkK ns ls x l k t).2.2∧(walkK ns ls x l k t).2.2≤15∧((walkK ns ls x l k t).2.2=0 ↔ (walkK ns ls x l k t).2.1=k+l.length)
 | [],k,t=>by simp [walkK]
 | m :: r,k,t=>by
  unfold walkK
  have h0:=do_vals ns ls x t m
  split
  ·obtain ⟨a1,a2,a3,a4,a5⟩:=walk_vals (ns:=ns) (ls:=ls) (x:=x) r (k+1) (doD ns ls x t m).1
   refine ⟨by omega,by simp only [List.length_cons];omega,a3,a4,?_⟩
   rw [a5]
   simp only [List.length_cons]
   omega
  ·rename_i h
   refine ⟨Nat.le_refl _,Nat.le_add_right _ _,h0.1,h0.2,?_⟩
   simp [h]
theorem walk_ok {ns:List NodeD} {ls:List LoadD} {x:SpecD} (hn:∀ n ∈ ns,n.Ok) (hx:∀ y ∈ x.wants,y.Ok):∀ (l:List MoveD) (k:Nat) (t:StateD),(∀ p ∈ t.pods,p.Ok)→(∀ p ∈ (walkK ns ls x l k t).1.pods,p.Ok)∧(walkK ns ls x l k t).1.pods.length=t.pods.length
 | [],k,t,h=>⟨h,rfl⟩
 | m :: r,k,t,h=>by
  unfold walkK
  split
  ·rename_i h0
   obtain ⟨h1,h2⟩:=do_ok hn hx h h0
   obtain ⟨h3,h4⟩:=walk_ok hn hx r (k+1) _ h1
   exact ⟨h3,h4.trans h2⟩
  ·exact ⟨h,rfl⟩
def firstD (s:SnapD):StateD:=⟨s.pods,0,0⟩
def walkD (s:SnapD) (x:SpecD) (l:List MoveD):StateD × Nat × (Int × Int) :=
 if (fair s x).1≠0 then (noState,0,fair s x)
 else if codeS s.nodes s.loads x (firstD s)≠0 then (noState,0,(codeS s.nodes s.loads x (firstD s),-1))
 else ((walkK s.nodes s.loads x l 0 (firstD s)).1,(walkK s.nodes s.loads x l 0 (firstD s)).2.1,((walkK s.nodes s.loads x l 0 (firstD s)).2.2,-1))

abbrev cellQ (z:Int):List Value:=[.int .i64 z]
theorem Out.later {α:Type} {size:Nat} {cells:α→List Value} {w V:World} {xs:List α} {A:Option Addr} {c:Nat} (h:Out size cells w xs A c) (hb:Below w.heap.size w V):Out size cells V xs A c :=
 ⟨h.1,h.2.1,h.2.2.1,(h.2.2.2.below hb (Nat.le_refl _)).more hb.size⟩
theorem fair_zero {s:SnapD} {x:SpecD} (h:(fair s x).1=0):fair s x=(0,-1):=by
 by_cases h0:(check s).1=0
 ·by_cases h1:x.preempts<0∨40<x.preempts∨x.shifts<0∨40<x.shifts
  ·rw [fair_large h0 h1] at h;cases h
  ·cases hf:firstWant s true 0 0 x.wants with
   | none=>exact fair_fine h0 h1 hf
   | some p =>
    obtain ⟨b,k⟩:=p
    rw [fair_some h0 h1 hf] at h
    have hb:b≠0:=by
     have:∀ (l:List WantD) (f:Bool) (last:Int) (k:Nat) (b:Int) (j:Nat),firstWant s f last k l=some (b,j)→b≠0:=by
      intro l
      induction l with
      | nil=>intro f last k b j h;simp [firstWant] at h
      | cons y r ih =>
       intro f last k b j h
       simp only [firstWant] at h
       split at h
       ·rename_i h0;simp at h;rw [← h.1];exact h0
       ·exact ih _ _ _ _ _ h
     exact this _ _ _ _ _ _ hf
    exact absurd h hb
 ·rw [fair_bad h0] at h;exact absurd h h0

set_option maxHeartbeats 3200000 in
set_option maxRecDepth 100000 in
theorem stepFault_any (ns:List NodeD) (ls:List LoadD) (x:SpecD) (t:StateD) (A1 A2 A3 A4 A5:Option Addr) (n1 c1 n2 c2 n3 c3 n4 c4 n5 c5:Nat) (w:World) (h:SafeArgs ns ls t.pods A1 A2 A4 n1 n2 n4 c4 w) :
  Calls Tryz.prog 35 #[.agg #[.slice A1 n1 c1,.slice A2 n2 c2,.slice A3 n3 c3],.agg #[.slice A5 n5 c5,.int .i64 x.preempts,.int .i64 x.shifts],.agg #[.slice A4 n4 c4,.int .i64 t.preempts,.int .i64 t.shifts]] w fun e w'=>e=.returned (codeV (codeS ns ls x t))∧Below w.heap.size w w':=by
 have T0:=(T3.new w [.slice A1 n1 c1,.slice A2 n2 c2,.slice A3 n3 c3] [.slice A5 n5 c5,.int .i64 x.preempts,.int .i64 x.shifts] [.slice A4 n4 c4,.int .i64 t.preempts,.int .i64 t.shifts] 26 29 44).alloc (.cells #[.int .i64 0] 42)
 have B0:=Bf.new (((w.alloc (.cells #[.slice A1 n1 c1,.slice A2 n2 c2,.slice A3 n3 c3] 26)).alloc (.cells #[.slice A5 n5 c5,.int .i64 x.preempts,.int .i64 x.shifts] 29)).alloc (.cells #[.slice A4 n4 c4,.int .i64 t.preempts,.int .i64 t.shifts] 44)) [.int .i64 0] 42 (b:=w.heap.size+3) (by simp)
 have HF:=Lib.hid (safeWhy_any ns ls t.pods x.preempts x.shifts t.preempts t.shifts A1 A2 A3 A4 A5 n1 c1 n2 c2 n3 c3 n4 c4 n5 c5 _ (h.at T0.below))
 have HG:=Lib.hid h.g
 have HT:=Lib.hid T0
 have HB:=Lib.hid B0
 have HE:Hid (codeS ns ls x t=(whyP (fiveP ns ls t.pods x.preempts x.shifts t.preempts t.shifts)).1):=rfl
 have HOK:=Lib.hid (told8_ok (told8_why ns ls t.pods x.preempts x.shifts t.preempts t.shifts))
 generalize codeS ns ls x t=c at *
 generalize whyP (fiveP ns ls t.pods x.preempts x.shifts t.preempts t.shifts)=p at *
 generalize x.preempts=x1 at *
 generalize x.shifts=x2 at *
 generalize t.preempts=t1 at *
 generalize t.shifts=t2 at *
 clear h T0 B0
 go_enter Tryz.func35,Tryz.ntmps35
 go_wp2_with fail
 refine HF.out.mono ?_
 rintro e w1 ⟨u,rfl,hu,hb1⟩
 have T1:=HT.out.keep hb1
 have B1:=HB.out.below hb1 HB.out.lt
 have HK1:=Lib.hid T1.below
 have hz1:=B1.lt
 cases hok:okP p with
 | true =>
  have hn:=hu.nil hok
  have hc:c=0:=by have h1:=HE.out;have h2:=okP_true hok;rw [h1,h2]
  subst hn hc
  clear hu hok HE HOK hb1 T1 B1
  go_wp2_with fail
  refine (as_nil _ _).mono ?_
  rintro e w2 ⟨rfl,rfl⟩
  go_wp2
  go_ret
  exact ⟨rfl,HK1.out⟩
 | false =>
  have hc0:c≠0:=by
   have h1:=HE.out;have h2:=HOK.out
   rw [hok] at h2
   intro e
   rw [e] at h1
   rw [← h1] at h2
   cases h2
  have HA:=Lib.hid (as_codeO p _ (w.heap.size+3) u (.int .i64 0) w1 hu hok (Laid.below HG.out HK1.out (Nat.le_refl _)) (B1.cell 0 _ rfl) (B1.frozen 0))
  have HC:=Lib.hid (codeV_pos hc0)
  rw [← HE.out] at HA
  clear hu hok HE HOK hb1 T1 B1 hc0
  go_wp2_with fail
  refine HA.out.mono ?_
  rintro e w2 ⟨rfl,hc,hb2⟩
  have HK2:=Lib.hid (HK1.out.trans (hb2.mono (show w.heap.size≤w.heap.size+3 by omega)))
  clear hb2
  go_wp2
  go_ret
  exact ⟨congrArg Ending.returned HC.out.symm,HK2.out⟩
def DoTo (r:StateD × Int) (w:World) (e:Ending) (w':World):Prop:=∃ v,e=.returned (.tuple #[v,codeV r.2])∧StateTo r.1 w v w'
theorem StateTo.less {u:StateD} {w V w':World} {v:Value} (h:StateTo u V v w') (hb:Below w.heap.size w V):StateTo u w v w':=by
 obtain ⟨A,c,h1,h2,h3,h4⟩:=h
 exact ⟨A,c,h1,h2,fun a e=>Nat.le_trans hb.size (h3 a e),hb.trans (h4.mono hb.size)⟩

set_option maxHeartbeats 12800000 in
set_option maxRecDepth 100000 in
theorem stepDo_any (ns:List NodeD) (ls:List LoadD) (x:SpecD) (t:StateD) (m:MoveD) (A1 A2 A3 A4 A5:Option Addr) (n1 c1 n2 c2 n3 c3 n4 c4 n5 c5:Nat) (w:World) (h:SafeArgs ns ls t.pods A1 A2 A4 n1 n2 n4 c4 w)
  (h04:A4=none→c4=0) (hn5:n5=x.wants.length) (hl5:n5≤400) (hr5:Recs 6 cellsW w w.heap.size A5 x.wants) (hxo:∀ y ∈ x.wants,y.Ok) :
  Calls Tryz.prog 36 #[.agg #[.slice A1 n1 c1,.slice A2 n2 c2,.slice A3 n3 c3],.agg #[.slice A5 n5 c5,.int .i64 x.preempts,.int .i64 x.shifts],.agg #[.slice A4 n4 c4,.int .i64 t.preempts,.int .i64 t.shifts],.agg #[.int .i64 m.kind,.int .i64 m.pod,.int .i64 m.node,.int .i64 m.over]] w (DoTo (doD ns ls x t m) w):=by
 have M0:=Mk.new w [.slice A1 n1 c1,.slice A2 n2 c2,.slice A3 n3 c3] [.slice A5 n5 c5,.int .i64 x.preempts,.int .i64 x.shifts] [.slice A4 n4 c4,.int .i64 t.preempts,.int .i64 t.shifts] [.int .i64 m.kind,.int .i64 m.pod,.int .i64 m.node,.int .i64 m.over] 26 29 44 89 44
 have HMK:Hid (∀ V,Below w.heap.size w V→Calls Tryz.prog 69 #[.agg #[.slice A1 n1 c1,.slice A2 n2 c2,.slice A3 n3 c3],.agg #[.slice A5 n5 c5,.int .i64 x.preempts,.int .i64 x.shifts],.agg #[.slice A4 n4 c4,.int .i64 t.preempts,.int .i64 t.shifts],.agg #[.int .i64 m.kind,.int .i64 m.pod,.int .i64 m.node,.int .i64 m.over]] V
   fun e w'=>∃ v,e=.returned (.tuple #[v,codeV (makeD ns x.wants t m).2])∧StateTo (makeD ns x.wants t m).1 V v w'):=fun V hV=>by
  have k:=h.at hV
  exact make_any ns x.wants t m A1 A2 A3 A5 A4 n1 c1 n2 c2 n3 c3 n5 c5 n4 c4 (.int .i64 x.preempts) (.int .i64 x.shifts) V k.e1 (by have:=k.l1;omega) k.r1 hn5 (by omega) ((hr5.below hV (Nat.le_refl _)).more hV.size) k.e4 (by have:=k.l4;omega) h04 k.r4
 have HPR:Hid (∀ V,Below w.heap.size w V→Calls Tryz.prog 70 #[.agg #[.slice A4 n4 c4,.int .i64 t.preempts,.int .i64 t.shifts],.agg #[.int .i64 m.kind,.int .i64 m.pod,.int .i64 m.node,.int .i64 m.over]] V fun e w'=>e=.returned (prioV (prioD t.pods m))∧Below V.heap.size V w'):=fun V hV=>by
  have k:=h.at hV
  exact priorCheck_any t.pods m A4 n4 c4 (.int .i64 t.preempts) (.int .i64 t.shifts) V k.e4 (by have:=k.l4;omega) k.r4
 have HFA:Hid ((makeD ns x.wants t m).2=0→∀ V A c,Below w.heap.size w V→Out 8 cellsP V (makeD ns x.wants t m).1.pods A c→Calls Tryz.prog 35 #[.agg #[.slice A1 n1 c1,.slice A2 n2 c2,.slice A3 n3 c3],.agg #[.slice A5 n5 c5,.int .i64 x.preempts,.int .i64 x.shifts],.agg #[.slice A (makeD ns x.wants t m).1.pods.length c,.int .i64 (makeD ns x.wants t m).1.preempts,.int .i64 (makeD ns x.wants t m).1.shifts]] V
   fun e w'=>e=.returned (codeV (codeS ns ls x (makeD ns x.wants t m).1))∧Below V.heap.size V w'):=fun h0 V A c hV hO=>by
  have k:=h.at hV
  obtain ⟨hok,hlen⟩:=made_ok k.no hxo k.lo h0
  exact stepFault_any ns ls x (makeD ns x.wants t m).1 A1 A2 A3 A A5 n1 c1 n2 c2 n3 c3 _ c n5 c5 V ⟨k.g,k.no,hok,k.e1,k.l1,k.r1,k.e2,k.l2,k.r2,rfl,by rw [hlen,← k.e4];exact k.l4,hO.1,hO.2.2.2⟩
 have H1:=Lib.hid (do_no1 (ns:=ns) (ls:=ls) (x:=x) (t:=t) (m:=m))
 have H2:=Lib.hid (do_no2 (ns:=ns) (ls:=ls) (x:=x) (t:=t) (m:=m))
 have H3:=Lib.hid (do_no3 (ns:=ns) (ls:=ls) (x:=x) (t:=t) (m:=m))
 have H4:=Lib.hid (do_yes (ns:=ns) (ls:=ls) (x:=x) (t:=t) (m:=m))
 generalize doD ns ls x t m=r at *
 generalize codeS ns ls x (makeD ns x.wants t m).1=cs at *
 generalize makeD ns x.wants t m=mk at *
 generalize prioD t.pods m=pr at *
 generalize x.preempts=x1 at *
 generalize x.shifts=x2 at *
 generalize t.preempts=t1 at *
 generalize t.shifts=t2 at *
 obtain ⟨u,mc⟩:=mk
 dsimp only at HMK HFA H1 H2 H3 H4
 have HM0:=Lib.hid M0
 clear h h04 hn5 hr5 hxo M0
 go_enter Tryz.func36,Tryz.ntmps36
 go_wp2_with fail
 refine (HMK.out _ HM0.out.below).mono ?_
 rintro e w1 ⟨_,rfl,A6,c6,rfl,ho,hfr,hb1⟩
 have M1:=HM0.out.keep hb1
 have hfr1:∀ a,A6=some a→a.block≠w.heap.size+4:=fun a ha=>by have h1:=hfr a ha;have h2:=HM0.out.res.lt;omega
 have hfr2:∀ a,A6=some a→w.heap.size≤a.block:=fun a ha=>Nat.le_trans HM0.out.below.size (hfr a ha)
 have HF:=Lib.hid (And.intro hfr1 hfr2)
 have B1:=Bf.new w1 [.slice A6 u.pods.length c6,.int .i64 u.preempts,.int .i64 u.shifts] 44 rfl
 have k2:Below w1.heap.size w1 (w1.alloc (.cells #[.slice A6 u.pods.length c6,.int .i64 u.preempts,.int .i64 u.shifts] 44)):=(Below.refl _ w1).alloc (Nat.le_refl _) _
 have M2:=M1.keep k2
 have HO2:=Lib.hid (ho.later k2)
 have HM2:=Lib.hid M2
 have HB1:=Lib.hid B1
 have HMLT:=Lib.hid (show w.heap.size≤w1.heap.size from M1.below.size)
 obtain ⟨a0,a1,a2⟩:=M1.facts.2.2.1
 obtain ⟨r0,r1,r2⟩:=M2.facts2.1
 obtain ⟨z0,z1,z2⟩:=M2.facts2.2.1
 have hz:=M2.facts2.2.2
 clear ho hfr hb1 hfr1 hfr2 M1 k2 HM0 HMK a0 a1 a2
 by_cases hc:mc=0
 ·subst hc
  have HFA':=Lib.hid (HFA.out rfl)
  have HP:=Lib.hid (HPR.out _ HM2.out.below)
  obtain ⟨⟨a0,a1,a2⟩,⟨a3,a4,a5⟩,⟨a6,a7,a8⟩,a9,a10,a11,a12⟩:=M2.facts
  rw [codeV_zero]
  clear HFA HPR M2 B1
  go_wp2_with fail
  refine HP.out.mono ?_
  rintro e w2 ⟨rfl,hb2⟩
  have M3:=HM2.out.keep hb2
  have B3:=HB1.out.below hb2 HB1.out.lt
  have HO3:=Lib.hid (HO2.out.later hb2)
  have HM3:=Lib.hid M3
  have HB3:=Lib.hid B3
  clear hb2 HP HM2 HO2 HB1 a0 a1 a2 a3 a4 a5 a6 a7 a8 a9 a10 a11 a12 r0 r1 r2 z0 z1 z2 hz
  obtain ⟨⟨a0,a1,a2⟩,⟨a3,a4,a5⟩,⟨a6,a7,a8⟩,a9,a10,a11,a12⟩:=M3.facts
  obtain ⟨r0,r1,r2⟩:=M3.facts2.1
  obtain ⟨z0,z1,z2⟩:=M3.facts2.2.1
  have hz:=M3.facts2.2.2
  cases pr with
  | true =>
   have HE:=Lib.hid (H2.out (by trivial) (by trivial))
   have hpv:prioV true=.iface 42 (.int .i64 14):=rfl
   rw [hpv]
   clear M3 B3 hpv
   go_wp2
   refine bodyPost_ret (v:=.tuple #[stateV none 0 0 0 0,.iface 42 (.int .i64 14)]) ?_ rfl ⟨_,by rw [HE.out];rfl,?_⟩
   ·simp [results,Tryz.results36,go_sem, *]
   ·rw [HE.out];exact HM3.out.no
  | false =>
   have hpv:prioV false=.nilIface:=rfl
   rw [hpv]
   obtain ⟨b0,b1,b2,b3⟩:=B3.cells3
   have HFF:=Lib.hid (HFA'.out w2 A6 c6 HM3.out.below HO3.out)
   clear M3 B3 hpv HFA'
   go_wp2_with fail
   refine HFF.out.mono ?_
   rintro e w3 ⟨rfl,hb3⟩
   have M4:=HM3.out.keep hb3
   have B4:=HB3.out.below hb3 HB3.out.lt
   have HO4:=Lib.hid (HO3.out.later hb3)
   have HM4:=Lib.hid M4
   clear hb3 HFF HM3 HO3 HB3 b0 b1 b2 b3 a0 a1 a2 a3 a4 a5 a6 a7 a8 a9 a10 a11 a12 r0 r1 r2 z0 z1 z2 hz
   obtain ⟨r0,r1,r2⟩:=M4.facts2.1
   obtain ⟨z0,z1,z2⟩:=M4.facts2.2.1
   have hz:=M4.facts2.2.2
   obtain ⟨b0,b1,b2,b3⟩:=B4.cells3
   clear M4 B4
   by_cases hs:cs=0
   ·have HE:=Lib.hid (H4.out (by trivial) (by trivial) hs)
    rw [hs,codeV_zero]
    clear hs
    go_wp2
    refine bodyPost_ret (v:=.tuple #[stateV A6 u.pods.length c6 u.preempts u.shifts,.nilIface]) ?_ rfl ⟨_,by rw [HE.out];rfl,?_⟩
    ·simp [results,Tryz.results36,go_sem, *]
    ·rw [HE.out]
     exact ⟨A6,c6,rfl,((HO4.out.set (p:=⟨w.heap.size+4,0,none⟩) HF.out.1 _).set (p:=⟨w.heap.size+4,1,none⟩) HF.out.1 _).set (p:=⟨w.heap.size+4,2,none⟩) HF.out.1 _,HF.out.2,((HM4.out.below.setCell (by simp;omega) _).setCell (by simp;omega) _).setCell (by simp;omega) _⟩
   ·have HE:=Lib.hid (H3.out (by trivial) (by trivial) hs)
    have HC:=Lib.hid (codeV_pos hs)
    rw [codeV_pos hs]
    clear hs
    go_wp2
    refine bodyPost_ret (v:=.tuple #[stateV none 0 0 0 0,.iface 42 (.int .i64 cs)]) ?_ rfl ⟨_,by rw [HE.out,HC.out],?_⟩
    ·simp [results,Tryz.results36,go_sem, *]
    ·rw [HE.out];exact HM4.out.no
 ·have HE:=Lib.hid (H1.out hc)
  have HC:=Lib.hid (codeV_pos hc)
  rw [codeV_pos hc]
  clear hc M2 B1
  go_wp2
  refine bodyPost_ret (v:=.tuple #[stateV none 0 0 0 0,.iface 42 (.int .i64 mc)]) ?_ rfl ⟨_,by rw [HE.out,HC.out],?_⟩
  ·simp [results,Tryz.results36,go_sem, *]
  ·rw [HE.out];exact HM2.out.no
end Go.Proofs.YthapilknnhlmfaaGreatDoor
namespace Go.Proofs.YthapilknnhlmfaaGreatDoor
set_option linter.unusedSimpArgs false
open Go.RowKit Go.Shelf
set_option linter.unusedVariables false
attribute [local go_sem] Oper.semAt_some
structure TidyArgs (ns:List NodeD) (ls:List LoadD) (x:SpecD) (t:StateD) (A1 A2 A4 A5:Option Addr) (n1 n2 n4 c4 n5:Nat) (w:World):Prop where
 a:SafeArgs ns ls t.pods A1 A2 A4 n1 n2 n4 c4 w
 h04:A4=none→c4=0
 e5:n5=x.wants.length
 l5:n5≤400
 r5:Recs 6 cellsW w w.heap.size A5 x.wants
 xo:∀ y ∈ x.wants,y.Ok
theorem TidyArgs.at {ns:List NodeD} {ls:List LoadD} {x:SpecD} {t:StateD} {A1 A2 A4 A5:Option Addr} {n1 n2 n4 c4 n5:Nat} {w V:World} (h:TidyArgs ns ls x t A1 A2 A4 A5 n1 n2 n4 c4 n5 w) (hV:Below w.heap.size w V):TidyArgs ns ls x t A1 A2 A4 A5 n1 n2 n4 c4 n5 V :=
 ⟨h.a.at hV,h.h04,h.e5,h.l5,(h.r5.below hV (Nat.le_refl _)).more hV.size,h.xo⟩

theorem Bf.but {V V':World} {b:Nat} {cs:List Value} {O:Nat→Prop} (h:Bf V b cs) (hb:But O V V') (hO:¬ O b):Bf V' b cs :=
 ⟨Nat.lt_of_lt_of_le h.lt hb.size,fun j u hu=>(hb.cell (p:=⟨b,j,none⟩) h.lt hO).trans (h.cell j u hu),fun o=>(hb.frozen (p:=⟨b,o,none⟩) h.lt hO).trans (h.frozen o)⟩
theorem Recs.but {α:Type} {size:Nat} {cells:α→List Value} {V V':World} {A:Option Addr} {xs:List α} {O:Nat→Prop} (h:Recs size cells V V.heap.size A xs) (hb:But O V V') (hO:∀ a,A=some a→¬ O a.block):Recs size cells V' V'.heap.size A xs:=by
 rcases h with h | ⟨b,o,h1,h2,h3⟩
 ·exact .inl h
 ·exact .inr ⟨b,o,h1,Nat.lt_of_lt_of_le h2 hb.size,fun i hi j u hu=>(hb.cell (p:=⟨b,o+i * size+j,none⟩) h2 (show ¬ O b from hO _ h1)).trans (h3 i hi j u hu)⟩
theorem Out.but {α:Type} {size:Nat} {cells:α→List Value} {V V':World} {A:Option Addr} {c:Nat} {xs:List α} {O:Nat→Prop} (h:Out size cells V xs A c) (hb:But O V V') (hO:∀ a,A=some a→¬ O a.block):Out size cells V' xs A c :=
 ⟨h.1,h.2.1,h.2.2.1,Recs.but h.2.2.2 hb hO⟩
abbrev PropQ:Type:=(MoveD × StateD) × Option Addr × Nat
def encQ (x:PropQ):Array Value:=#[aggM x.1.1,stateV x.2.1 x.1.2.pods.length x.2.2 x.1.2.preempts x.1.2.shifts]
def AtQ (x:PropQ) (base:Nat) (V:World):Prop:=Out 8 cellsP V x.1.2.pods x.2.1 x.2.2∧∀ a,x.2.1=some a→base≤a.block
structure ItQ (J:List PropQ→(Nat→Prop)→World→Prop) (a b c:List Value) (w:World) (B base:Nat) (Au:Option Addr) (us:List Int) (pre:List PropQ) (O:Nat→Prop) (V:World):Prop where
 j:J pre O V
 lt:∀ k,O k→k<V.heap.size
 d:∀ k,O k→w.heap.size≤k∧¬ (B≤k∧k<B+3)
 one:Bf V B a
 two:Bf V (B+1) b
 three:Bf V (B+2) c
 below:Below w.heap.size w V
 base:base≤V.heap.size
 us:Recs 1 cellQ V V.heap.size Au us
 u:∀ k,Au=some k→¬ O k.block
section
variable {J:List PropQ→(Nat→Prop)→World→Prop} {a b c:List Value} {w V V':World} {B base:Nat} {Au:Option Addr} {us:List Int} {pre pre':List PropQ} {O O':Nat→Prop}
theorem ItQ.keep (hJ:∀ s O A B,J s O A→Below A.heap.size A B→J s O B) (h:ItQ J a b c w B base Au us pre O V) (hb:Below V.heap.size V V'):ItQ J a b c w B base Au us pre O V' :=
 ⟨hJ _ _ _ _ h.j hb,fun k hk=>Nat.lt_of_lt_of_le (h.lt k hk) hb.size,h.d,h.one.below hb h.one.lt,h.two.below hb h.two.lt,h.three.below hb h.three.lt,h.below.trans (hb.mono h.below.size),Nat.le_trans h.base hb.size,
  (h.us.below hb (Nat.le_refl _)).more hb.size,h.u⟩
theorem ItQ.round (h:ItQ J a b c w B base Au us pre O V) (hb:But O V V') (hj:J pre' O' V') (ho:∀ k,O' k→k<V'.heap.size∧(O k∨V.heap.size≤k)) (hu:∀ k,Au=some k→k.block<V.heap.size):ItQ J a b c w B base Au us pre' O' V':=by
 have h1:¬ O B:=fun e=>(h.d _ e).2 ⟨Nat.le_refl _,by omega⟩
 have h2:¬ O (B+1):=fun e=>(h.d _ e).2 ⟨by omega,by omega⟩
 have h3:¬ O (B+2):=fun e=>(h.d _ e).2 ⟨by omega,by omega⟩
 have hlt:=h.three.lt
 refine ⟨hj,fun k hk=>(ho k hk).1,fun k hk=>?_,h.one.but hb h1,h.two.but hb h2,h.three.but hb h3,h.below.trans (hb.below h.below.size fun k hk=>(h.d k hk).1),Nat.le_trans h.base hb.size,Recs.but h.us hb h.u,fun k hk hc=>?_⟩
 ·rcases (ho k hk).2 with e | e
  ·exact h.d k e
  ·exact ⟨Nat.le_trans h.below.size e,by omega⟩
 ·rcases (ho _ hc).2 with e | e
  ·exact h.u k hk e
  ·have:=hu k hk;omega
end
abbrev outQ (pre:List PropQ):List (MoveD × StateD):=pre.map (·.1)
theorem so_less {pre:List PropQ} {q:PropQ} {l:List (MoveD × StateD)} (h:outQ pre++[q.1] <+: l):pre.length<l.length:=by
 have:=h.length_le
 simp at this
 omega
theorem do_good {r:StateD × Int} {w:World} (h:r.2=0) {e:Ending} {w':World} (hd:DoTo r w e w'):∃ A c,e=.returned (.tuple #[stateV A r.1.pods.length c r.1.preempts r.1.shifts,.nilIface])∧Out 8 cellsP w' r.1.pods A c∧(∀ a,A=some a→w.heap.size≤a.block)∧Below w.heap.size w w':=by
 obtain ⟨v,he,A,c,rfl,h1,h2,h3⟩:=hd
 exact ⟨A,c,by rw [he,h,codeV_zero],h1,h2,h3⟩
theorem do_bad {r:StateD × Int} {w:World} (h:r.2≠0) {e:Ending} {w':World} (hd:DoTo r w e w'):∃ A c,e=.returned (.tuple #[stateV A r.1.pods.length c r.1.preempts r.1.shifts,.iface 42 (.int .i64 r.2)])∧Out 8 cellsP w' r.1.pods A c∧(∀ a,A=some a→w.heap.size≤a.block)∧Below w.heap.size w w':=by
 obtain ⟨v,he,A,c,rfl,h1,h2,h3⟩:=hd
 exact ⟨A,c,by rw [he,codeV_pos h],h1,h2,h3⟩
theorem Bf.cells4q {V:World} {b:Nat} {m:MoveD} (h:Bf V b (cellsM m)):(V.cell? ⟨b,0,none⟩=some (.int .i64 m.kind)∧V.cell? ⟨b,1,none⟩=some (.int .i64 m.pod))∧V.cell? ⟨b,2,none⟩=some (.int .i64 m.node)∧V.cell? ⟨b,3,none⟩=some (.int .i64 m.over)∧b<V.heap.size :=
 ⟨⟨h.cell 0 _ rfl,h.cell 1 _ rfl⟩,h.cell 2 _ rfl,h.cell 3 _ rfl,h.lt⟩
end Go.Proofs.YthapilknnhlmfaaGreatDoor
namespace Go.Proofs.YthapilknnhlmfaaGreatDoor
set_option linter.unusedSimpArgs false
open Go.Shelf
def Tryz.laysSortM_ren:Go.Shelf.Ren:=⟨fun | 6=>174 | 15=>186 | 14=>185 | 28=>202 | 29=>203 | 20=>194 | 21=>195 | 22=>196 | 23=>197 | 24=>198 | 25=>199 | 26=>200 | 27=>201 | 46=>214 | 47=>215 | 48=>216 | 49=>217 | 50=>218 | 57=>222 | n=>n,fun | 22=>32 | 24=>89 | 25=>248 | 3=>3 | 39=>244 | 0=>0 | 53=>274 | 55=>55 | 4=>4 | 46=>268 | 45=>267 | 50=>255 | 5=>5 | 9=>9 | 66=>282 | 70=>286 | 76=>290 | 77=>39 | n=>n,fun | n=>n⟩
theorem Tryz.laysSortM:Go.Proofs.SlLaysF0.n6 Tryz.prog Tryz.laysSortM_ren:={
 mixed:=by kernel_rfl
 f6:=⟨Tryz.f174.name,by decide,Tryz.func174.trans (congrArg some (by kernel_rfl))⟩
 f14:=⟨Tryz.f185.name,by decide,Tryz.func185.trans (congrArg some (by kernel_rfl))⟩
 f15:=Tryz.func186.trans (congrArg some (by kernel_rfl))
 f20:=⟨Tryz.f194.name,by decide,Tryz.func194.trans (congrArg some (by kernel_rfl))⟩
 f21:=⟨Tryz.f195.name,by decide,Tryz.func195.trans (congrArg some (by kernel_rfl))⟩
 f22:=⟨Tryz.f196.name,by decide,Tryz.func196.trans (congrArg some (by kernel_rfl))⟩
 f23:=⟨Tryz.f197.name,by decide,Tryz.func197.trans (congrArg some (by kernel_rfl))⟩
 f24:=⟨Tryz.f198.name,by decide,Tryz.func198.trans (congrArg some (by kernel_rfl))⟩
 f25:=⟨Tryz.f199.name,by decide,Tryz.func199.trans (congrArg some (by kernel_rfl))⟩
 f26:=⟨Tryz.f200.name,by decide,Tryz.func200.trans (congrArg some (by kernel_rfl))⟩
 f27:=⟨Tryz.f201.name,by decide,Tryz.func201.trans (congrArg some (by kernel_rfl))⟩
 f28:=Tryz.func202.trans (congrArg some (by kernel_rfl))
 f29:=Tryz.func203.trans (congrArg some (by kernel_rfl))
 f46:=⟨Tryz.f214.name,by decide,Tryz.func214.trans (congrArg some (by kernel_rfl))⟩
 f47:=Tryz.func215.trans (congrArg some (by kernel_rfl))
 f48:=Tryz.func216.trans (congrArg some (by kernel_rfl))
 f49:=⟨Tryz.f217.name,by decide,Tryz.func217.trans (congrArg some (by kernel_rfl))⟩
 f50:=⟨Tryz.f218.name,by decide,Tryz.func218.trans (congrArg some (by kernel_rfl))⟩
 f57:=⟨Tryz.f222.name,by decide,Tryz.func222.trans (congrArg some (by kernel_rfl))⟩
 t0:=Tryz.underlying0
 a0:=Tryz.isAgg0
 z0:=Tryz.sizeOf0
 v0:=Tryz.zeroValue0
 t3:=Tryz.underlying3
 a3:=Tryz.isAgg3
 z3:=Tryz.sizeOf3
 v3:=Tryz.zeroValue3
 t4:=Tryz.underlying4
 a4:=Tryz.isAgg4
 z4:=Tryz.sizeOf4
 v4:=Tryz.zeroValue4
 t5:=Tryz.underlying5
 a5:=Tryz.isAgg5
 z5:=Tryz.sizeOf5
 v5:=Tryz.zeroValue5
 t9:=Tryz.underlying9
 a9:=Tryz.isAgg9
 z9:=Tryz.sizeOf9
 v9:=Tryz.zeroValue9
 t22:=Tryz.underlying32
 a22:=Tryz.isAgg32
 z22:=Tryz.sizeOf32
 v22:=Tryz.zeroValue32
 t25:=Tryz.underlying248
 a25:=Tryz.isAgg248
 z25:=Tryz.sizeOf248
 v25:=Tryz.zeroValue248
 t39:=Tryz.underlying244
 a39:=Tryz.isAgg244
 z39:=Tryz.sizeOf244
 v39:=Tryz.zeroValue244
 t45:=Tryz.underlying267
 a45:=Tryz.isAgg267
 z45:=Tryz.sizeOf267
 v45:=Tryz.zeroValue267
 t46:=Tryz.underlying268
 a46:=Tryz.isAgg268
 z46:=Tryz.sizeOf268
 v46:=Tryz.zeroValue268
 t50:=Tryz.underlying255
 a50:=Tryz.isAgg255
 z50:=Tryz.sizeOf255
 v50:=Tryz.zeroValue255
 t53:=Tryz.underlying274
 a53:=Tryz.isAgg274
 z53:=Tryz.sizeOf274
 v53:=Tryz.zeroValue274
 t55:=Tryz.underlying55
 a55:=Tryz.isAgg55
 z55:=Tryz.sizeOf55
 v55:=Tryz.zeroValue55
 t66:=Tryz.underlying282
 a66:=Tryz.isAgg282
 z66:=Tryz.sizeOf282
 v66:=Tryz.zeroValue282
 t70:=Tryz.underlying286
 a70:=Tryz.isAgg286
 z70:=Tryz.sizeOf286
 v70:=Tryz.zeroValue286
 t76:=Tryz.underlying290
 a76:=Tryz.isAgg290
 z76:=Tryz.sizeOf290
 v76:=Tryz.zeroValue290
 t77:=Tryz.underlying39
 a77:=Tryz.isAgg39
 z77:=Tryz.sizeOf39
 v77:=Tryz.zeroValue39 }
end Go.Proofs.YthapilknnhlmfaaGreatDoor
