/- Joined texts, part 14: NA NG TA TE TF. -/
import Derived.Test.YthapilknnhlmfaaGreatDoorZ12
import Derived.Test.YthapilknnhlmfaaGreatDoorZ13
import Derived.Test.YthapilknnhlmfaaGreatDoorZ01

namespace Go.Proofs.YthapilknnhlmfaaGreatDoor
set_option linter.unusedSimpArgs false
open Go.RowKit
set_option linter.unusedVariables false
def unmetD (x:List WantD) (l:List PodD):Nat:=x.countP fun w=>!metD l w
theorem unmet_le (x:List WantD) (l:List PodD):unmetD x l≤x.length:=List.countP_le_length
theorem unmet_goal {x:List WantD} {l:List PodD}:unmetD x l=0 ↔ goalD x l=true:=by
 unfold unmetD goalD
 rw [List.countP_eq_zero,List.all_eq_true]
 simp
theorem podAt_set {id:Int}:∀ {l:List PodD} {i:Nat} (hi:i<l.length) {p:PodD},p.id=l[i].id→p.id≠id→podAt id (l.set i p)=podAt id l
 | [],_,hi,_,_,_=>by simp at hi
 | x :: r,0,_,p,h,hn=>by
  simp only [List.getElem_cons_zero] at h
  simp only [List.set_cons_zero,podAt]
  rw [if_neg hn,if_neg (by rw [← h];exact hn)]
 | x :: r,i+1,hi,p,h,hn=>by
  simp only [List.getElem_cons_succ] at h
  simp only [List.set_cons_succ,podAt]
  rw [podAt_set (by simpa using hi) h hn]
theorem podAt_behind {x:List WantD} {t:StateD} {m:MoveD} (hp:¬ place PodD.id m.pod t.pods 0<0) (ho:m.kind=4→¬ place PodD.id m.over t.pods 0<0∧m.over≠m.pod) {id:Int} (h1:id≠m.pod) (h2:id≠m.over) :
  podAt id (behindD x t m).pods=podAt id t.pods:=by
 obtain ⟨i,hi,hpi⟩:=place_hit hp
 have ei:idxD m.pod t.pods=i:=by rw [idxD,hpi];rfl
 have ez:=podZ_some hi hpi
 have eid:=place_is hi hpi
 unfold behindD
 rw [ei,ez]
 split
 ·exact podAt_set hi rfl (by show t.pods[i].id≠id;rw [eid];exact h1.symm)
 split
 ·exact podAt_set hi rfl (by show t.pods[i].id≠id;rw [eid];exact h1.symm)
 split
 ·rename_i h4
  obtain ⟨hov,hne⟩:=ho h4
  obtain ⟨k,hk,hpk⟩:=place_hit hov
  have ek:idxD m.over t.pods=k:=by rw [idxD,hpk];rfl
  have ezk:=podZ_some hk hpk
  have eidk:=place_is hk hpk
  have hki:k≠i:=fun e=>by
   subst e
   exact hne (eidk.symm.trans eid)
  rw [ek,ezk]
  dsimp only
  rw [podAt_set (by simpa using hi) (by rw [List.getElem_set_ne hki];rfl) (by show t.pods[i].id≠id;rw [eid];exact h1.symm)]
  exact podAt_set hk rfl (by show t.pods[k].id≠id;rw [eidk];exact h2.symm)
 ·exact podAt_set hi rfl (by show t.pods[i].id≠id;rw [eid];exact h1.symm)
theorem met_same {l l':List PodD} {w:WantD} (h:podAt w.pod l=podAt w.pod l'):metD l w=metD l' w:=by rw [metD,metD,h]
def RiseW (x:List WantD):Prop:=x.Pairwise fun a b=>a.pod<b.pod
theorem one_of_rise {id:Int}:∀ {x:List WantD},RiseW x→x.countP (fun w=>w.pod == id)≤1
 | [],_=>by simp
 | w :: r,h=>by
  have h1:=List.pairwise_cons.1 h
  have ih:=one_of_rise (id:=id) h1.2
  rw [List.countP_cons]
  by_cases hw:w.pod=id
  ·have:r.countP (fun w=>w.pod == id)=0:=List.countP_eq_zero.2 fun v hv=>by
    have:=h1.1 v hv
    simp;omega
   rw [this];simp [hw]
  ·simpa [hw] using ih
def tellD (ns:List NodeD) (ls:List LoadD) (x:SpecD) (t:StateD) (m:MoveD):List (MoveD × StateD):=if (doD ns ls x t m).2=0 then [(m,(doD ns ls x t m).1)] else []
def allD (ns:List NodeD) (ls:List LoadD) (x:SpecD) (t:StateD) (T:List MoveD):List (MoveD × StateD):=T.flatMap (tellD ns ls x t)
end Go.Proofs.YthapilknnhlmfaaGreatDoor
namespace Go.Proofs.YthapilknnhlmfaaGreatDoor
set_option linter.unusedSimpArgs false
open Go.RowKit Go.Shelf
set_option linter.unusedVariables false
attribute [local go_sem] Oper.semAt_some
theorem recsM18 {w:World} {B n:Nat} {v:Value} {zs:List MoveD} (hn:n=zs.length) (h:w.ownsRow B 89 4 v n (zs.flatMap cellsM)):∃ A c,v=.slice A n c∧Recs 4 cellsM w w.heap.size A zs∧∀ a,A=some a→B≤a.block:=by
 obtain ⟨A,c,e,_,_,_,hr⟩:=recs_of_own lenM18 hn h
 refine ⟨A,c,e,hr,fun a ha=>?_⟩
 subst ha
 rcases h.2 with ⟨h1,_⟩ | ⟨g,cap,cur,h1,h2,_⟩
 ·rw [h1] at e
  injection e with e1
  cases e1
 ·rw [h1] at e
  injection e with e1
  injection e1 with e1
  rw [← e1];exact h2
structure ItM (J:List PropQ→(Nat→Prop)→World→Prop) (a b c:List Value) (w:World) (B base:Nat) (Au:Option Addr) (us:List MoveD) (pre:List PropQ) (O:Nat→Prop) (V:World):Prop where
 j:J pre O V
 lt:∀ k,O k→k<V.heap.size
 d:∀ k,O k→w.heap.size≤k∧¬ (B≤k∧k<B+3)
 one:Bf V B a
 two:Bf V (B+1) b
 three:Bf V (B+2) c
 below:Below w.heap.size w V
 base:base≤V.heap.size
 us:Recs 4 cellsM V V.heap.size Au us
 u:∀ k,Au=some k→¬ O k.block
section
variable {J:List PropQ→(Nat→Prop)→World→Prop} {a b c:List Value} {w V V':World} {B base:Nat} {Au:Option Addr} {us:List MoveD} {pre pre':List PropQ} {O O':Nat→Prop}
theorem ItM.keep (hJ:∀ s O A B,J s O A→Below A.heap.size A B→J s O B) (h:ItM J a b c w B base Au us pre O V) (hb:Below V.heap.size V V'):ItM J a b c w B base Au us pre O V' :=
 ⟨hJ _ _ _ _ h.j hb,fun k hk=>Nat.lt_of_lt_of_le (h.lt k hk) hb.size,h.d,h.one.below hb h.one.lt,h.two.below hb h.two.lt,h.three.below hb h.three.lt,h.below.trans (hb.mono h.below.size),Nat.le_trans h.base hb.size,
  (h.us.below hb (Nat.le_refl _)).more hb.size,h.u⟩
theorem ItM.round (h:ItM J a b c w B base Au us pre O V) (hb:But O V V') (hj:J pre' O' V') (ho:∀ k,O' k→k<V'.heap.size∧(O k∨V.heap.size≤k)) (hu:∀ k,Au=some k→k.block<V.heap.size):ItM J a b c w B base Au us pre' O' V':=by
 have h1:¬ O B:=fun e=>(h.d _ e).2 ⟨Nat.le_refl _,by omega⟩
 have h2:¬ O (B+1):=fun e=>(h.d _ e).2 ⟨by omega,by omega⟩
 have h3:¬ O (B+2):=fun e=>(h.d _ e).2 ⟨by omega,by omega⟩
 have hlt:=h.three.lt
 refine ⟨hj,fun k hk=>(ho k hk).1,fun k hk=>?_,h.one.but hb h1,h.two.but hb h2,h.three.but hb h3,h.below.trans (hb.below h.below.size fun k hk=>(h.d k hk).1),Nat.le_trans h.base hb.size,Recs.but h.us hb h.u,fun k hk hc=>?_⟩
 ·rcases (ho k hk).2 with e | e
  ·exact h.d k e
  ·exact ⟨Nat.le_trans h.below.size e,by omega⟩
 ·rcases (ho _ hc).2 with e | e
  ·exact h.u k hk e
  ·have:=hu k hk;omega
end

set_option maxHeartbeats 1000000 in
theorem doable_any (A1 A2 A3 A4 A5:Option Addr) (n1 c1 n2 c2 n3 c3 n4 c4 n5 c5:Nat) (x1 x2 t1 t2:Int) (w:World) :
  Calls Tryz.prog 137 #[.agg #[.slice A1 n1 c1,.slice A2 n2 c2,.slice A3 n3 c3],.agg #[.slice A5 n5 c5,.int .i64 x1,.int .i64 x2],.agg #[.slice A4 n4 c4,.int .i64 t1,.int .i64 t2]] w fun e w' =>
   e=.returned (.func (.func 161) #[] #[.pointer (some ⟨w.heap.size,0,none⟩),.pointer (some ⟨w.heap.size+2,0,none⟩),.pointer (some ⟨w.heap.size+1,0,none⟩)]) ∧
   w'=((w.alloc (.cells #[.slice A1 n1 c1,.slice A2 n2 c2,.slice A3 n3 c3] 26)).alloc (.cells #[.slice A5 n5 c5,.int .i64 x1,.int .i64 x2] 29)).alloc (.cells #[.slice A4 n4 c4,.int .i64 t1,.int .i64 t2] 44):=by
 go_enter Tryz.func137,Tryz.ntmps137
 go_wp2
 go_ret
 exact ⟨rfl,rfl⟩
theorem all_so_far {ns:List NodeD} {ls:List LoadD} {x:SpecD} {t:StateD} {T:List MoveD} {k:Nat} (hk:k<T.length) {m:MoveD} (hx:T[k]=m) (hd:(doD ns ls x t m).2=0) :
  (T.take k).flatMap (tellD ns ls x t)++[(m,(doD ns ls x t m).1)] <+: allD ns ls x t T:=by
 have e1:[(m,(doD ns ls x t m).1)]=tellD ns ls x t m:=(if_pos hd).symm
 rw [e1,← flat_more18 hk hx]
 have e2:allD ns ls x t T=(T.take (k+1)).flatMap (tellD ns ls x t)++(T.drop (k+1)).flatMap (tellD ns ls x t):=by
  rw [← List.flatMap_append,List.take_append_drop];rfl
 rw [e2]
 exact List.prefix_append _ _
theorem tell_yes {ns:List NodeD} {ls:List LoadD} {x:SpecD} {t:StateD} {m:MoveD} (h:(doD ns ls x t m).2=0):tellD ns ls x t m=[(m,(doD ns ls x t m).1)]:=if_pos h
theorem tell_no {ns:List NodeD} {ls:List LoadD} {x:SpecD} {t:StateD} {m:MoveD} (h:(doD ns ls x t m).2≠0):tellD ns ls x t m=[]:=if_neg h

set_option maxHeartbeats 12800000 in
set_option maxRecDepth 100000 in
theorem doable_in (n:Nat) (hn:1≤n) (l:Nat) (ns:List NodeD) (ls:List LoadD) (x:SpecD) (t:StateD) (T:List MoveD) (hT:TriesOf ns t.pods T) (A1 A2 A3 A4 A5:Option Addr) (n1 c1 n2 c2 n3 c3 n4 c4 n5 c5:Nat) (w:World) (h:TidyArgs ns ls x t A1 A2 A4 A5 n1 n2 n4 c4 n5 w) (B:Nat)
  (J:List PropQ→(Nat→Prop)→World→Prop) (Jx:List PropQ→World→Prop) (O:Nat→Prop) (W:World) (hJ:∀ s O A B,J s O A→Below A.heap.size A B→J s O B) (hJx:∀ s A B,Jx s A→Below A.heap.size A B→Jx s B)
  (hY:∀ pre O q V,J pre O V→(∀ k,O k→k<V.heap.size)→AtQ q W.heap.size V→pre.length<(allD ns ls x t T).length→YieldAt Fence.wide (n - 1) Tryz.prog l (encQ q) V fun e V' =>
   (e=.returned (.bool true)∧But O V V'∧∃ O',J (pre++[q]) O' V'∧∀ k,O' k→k<V'.heap.size∧(O k∨V.heap.size≤k))∨(e=.returned (.bool false)∧Jx (pre++[q]) V'))
  (hb1:Bf W B [.slice A1 n1 c1,.slice A2 n2 c2,.slice A3 n3 c3]) (hb2:Bf W (B+1) [.slice A5 n5 c5,.int .i64 x.preempts,.int .i64 x.shifts]) (hb3:Bf W (B+2) [.slice A4 n4 c4,.int .i64 t.preempts,.int .i64 t.shifts])
  (hw:Below w.heap.size w W) (hO:∀ k,O k→k<W.heap.size∧w.heap.size≤k∧¬ (B≤k∧k<B+3)) (h0:J [] O W) :
  CallsIn Fence.wide n Tryz.prog 161 #[.func (.yield l) #[] #[],.pointer (some ⟨B,0,none⟩),.pointer (some ⟨B+2,0,none⟩),.pointer (some ⟨B+1,0,none⟩)] W fun e W'=>(∃ v,e=.returned v) ∧
   ((∃ xs O',outQ xs=allD ns ls x t T∧J xs O' W')∨∃ pre,outQ pre <+: allD ns ls x t T∧Jx pre W'):=by
 have HI0:Hid (ItM J [.slice A1 n1 c1,.slice A2 n2 c2,.slice A3 n3 c3] [.slice A5 n5 c5,.int .i64 x.preempts,.int .i64 x.shifts] [.slice A4 n4 c4,.int .i64 t.preempts,.int .i64 t.shifts] w B W.heap.size none [] [] O W) :=
  ⟨h0,fun k hk=>(hO k hk).1,fun k hk=>(hO k hk).2,hb1,hb2,hb3,hw,Nat.le_refl _,.inl rfl,fun _ e=>by cases e⟩
 have HJ:=Lib.hid hJ
 have HJX:=Lib.hid hJx
 have HY:=Lib.hid hY
 have HA:=Lib.hid (fun (V:World) (hV:Below w.heap.size w V)=>h.at hV)
 have HU:=Lib.hid (tries_any ns t.pods T hT A1 A4 n1 c1 n4 c4 (.slice A2 n2 c2) (.slice A3 n3 c3) (.int .i64 t.preempts) (.int .i64 t.shifts) W h.a.e1 h.a.l1 (h.at hw).a.r1 h.a.e4 h.a.l4 (h.at hw).a.r4)
 have htl:T.length≤400000:=by
  rw [hT.1.length_eq]
  exact raw_small h.a.e1 h.a.l1 h.a.e4 h.a.l4 t.pods (by have:=h.a.e4;have:=h.a.l4;omega)
 obtain ⟨a0,a1,a2,a3⟩:=hb1.cells3
 obtain ⟨d0,d1,d2,d3⟩:=hb3.cells3
 clear hb1 hb2 hb3 hw hO h0 hJ hJx hY h
 refine callsIn_of_wp Tryz.func161 rfl trivial ?_ rfl
 simp only [Tryz.ntmps161,List.size_toArray,List.length_cons,List.length_nil,Nat.reduceAdd,Nat.reduceSub,Array.replicate_succ,Array.replicate_zero,List.push_toArray,List.append_toArray,List.nil_append,List.cons_append]
 gi_wp2_with fail
 refine ⟨trivial,(callsIn_wide.2 HU.out).mono ?_⟩
 rintro e w1 ⟨v,rfl,hown,hb⟩
 obtain ⟨Au,cu,rfl,hru,hbu⟩:=recsM18 rfl hown
 have I1:=HI0.out.keep HJ.out hb
 have HI1:Hid (ItM J [.slice A1 n1 c1,.slice A2 n2 c2,.slice A3 n3 c3] [.slice A5 n5 c5,.int .i64 x.preempts,.int .i64 x.shifts] [.slice A4 n4 c4,.int .i64 t.preempts,.int .i64 t.shifts] w B W.heap.size Au T [] O w1) :=
  ⟨I1.j,I1.lt,I1.d,I1.one,I1.two,I1.three,I1.below,I1.base,hru,fun k hk hc=>by have h1:=hbu k hk;have h2:=HI0.out.lt _ hc;omega⟩
 clear a0 a1 a2 a3 d0 d1 d2 d3 hown hb hru hbu I1 HU HI0
 obtain ⟨mu,hmu⟩:∃ m,T.length=m:=⟨_,rfl⟩
 have HMU:=Lib.hid hmu
 rw [hmu] at htl ⊢
 clear hmu
 gi_wp2
 gi_loopw [13] (fun i wr=>∃ (k:Nat) (pre:List PropQ) (O:Nat→Prop),k≤mu∧i=.int .i64 k∧outQ pre=(T.take k).flatMap (tellD ns ls x t)∧ItM J [.slice A1 n1 c1,.slice A2 n2 c2,.slice A3 n3 c3] [.slice A5 n5 c5,.int .i64 x.preempts,.int .i64 x.shifts] [.slice A4 n4 c4,.int .i64 t.preempts,.int .i64 t.shifts] w B W.heap.size Au T pre O wr)
  (fun i _=>mu - (intOf i).toNat)
 case atStart=>exact ⟨0,[],O,Nat.zero_le _,rfl,by simp,HI1.out⟩
 case round =>
  obtain ⟨k,pre,O1,hk,rfl,hpre,hI⟩:=hrel
  have HPRE:=Lib.hid hpre
  have HI:=Lib.hid hI
  clear hpre hI HI1
  by_cases hlt:k<mu
  ·have hkl:k<T.length:=by have:=HMU.out;omega
   obtain ⟨bu,ou,rfl,hbu,hcu⟩:=HI.out.us.at hkl
   generalize hm:T[k]=m at *
   have HM:=Lib.hid hm
   have p0:wr.cell? ⟨bu,ou+k * 4,none⟩=some (.int .i64 m.kind):=hcu 0 _ rfl
   have p1:wr.cell? ⟨bu,ou+k * 4+1,none⟩=some (.int .i64 m.pod):=hcu 1 _ rfl
   have p2:wr.cell? ⟨bu,ou+k * 4+2,none⟩=some (.int .i64 m.node):=hcu 2 _ rfl
   have p3:wr.cell? ⟨bu,ou+k * 4+3,none⟩=some (.int .i64 m.over):=hcu 3 _ rfl
   have hkm:Below wr.heap.size wr (wr.alloc (.cells #[.int .i64 m.kind,.int .i64 m.pod,.int .i64 m.node,.int .i64 m.over] 89)):=(Below.refl _ _).alloc (Nat.le_refl _) _
   have I6:=HI.out.keep HJ.out hkm
   have HI6:=Lib.hid I6
   have BM:Bf (wr.alloc (.cells #[.int .i64 m.kind,.int .i64 m.pod,.int .i64 m.node,.int .i64 m.over] 89)) wr.heap.size (cellsM m):=Bf.new wr (cellsM m) 89 rfl
   have HBM:=Lib.hid BM
   have HDO:Hid (Calls Tryz.prog 36 #[.agg #[.slice A1 n1 c1,.slice A2 n2 c2,.slice A3 n3 c3],.agg #[.slice A5 n5 c5,.int .i64 x.preempts,.int .i64 x.shifts],.agg #[.slice A4 n4 c4,.int .i64 t.preempts,.int .i64 t.shifts],.agg #[.int .i64 m.kind,.int .i64 m.pod,.int .i64 m.node,.int .i64 m.over]] (wr.alloc (.cells #[.int .i64 m.kind,.int .i64 m.pod,.int .i64 m.node,.int .i64 m.over] 89)) (DoTo (doD ns ls x t m) (wr.alloc (.cells #[.int .i64 m.kind,.int .i64 m.pod,.int .i64 m.node,.int .i64 m.over] 89)))):=by
    have k:=HA.out _ I6.below
    exact stepDo_any ns ls x t m A1 A2 A3 A4 A5 n1 c1 n2 c2 n3 c3 n4 c4 n5 c5 _ k.a k.h04 k.e5 k.l5 k.r5 k.xo
   obtain ⟨a0,a1,a2,a3⟩:=I6.one.cells3
   obtain ⟨b0,b1,b2,b3⟩:=I6.two.cells3
   obtain ⟨d0,d1,d2,d3⟩:=I6.three.cells3
   obtain ⟨⟨m0,m1⟩,m2,m3,m4⟩:=BM.cells4q
   clear hkm I6 BM hcu hm
   by_cases hd0:(doD ns ls x t m).2=0
   ·have HD1:=Lib.hid (HDO.out.mono fun e w' h=>do_good hd0 h)
    have HT:=Lib.hid (tell_yes hd0)
    have HSF:=Lib.hid (all_so_far hkl HM.out hd0)
    clear hd0 HDO
    gi_wp2_with fail
    refine ⟨trivial,(callsIn_wide.2 HD1.out).mono ?_⟩
    rintro e w7 ⟨A7,c7,rfl,ho7,hfr7,hb7⟩
    generalize doD ns ls x t m=r at *
    have k8:Below w7.heap.size w7 (w7.alloc (.cells #[.slice A7 r.1.pods.length c7,.int .i64 r.1.preempts,.int .i64 r.1.shifts] 44)):=(Below.refl _ _).alloc (Nat.le_refl _) _
    have I8:=(HI6.out.keep HJ.out hb7).keep HJ.out k8
    have HI8:=Lib.hid I8
    have BM8:=(HBM.out.below hb7 HBM.out.lt).below k8 (HBM.out.below hb7 HBM.out.lt).lt
    have BS8:=Bf.new w7 [.slice A7 r.1.pods.length c7,.int .i64 r.1.preempts,.int .i64 r.1.shifts] 44 rfl
    have HSQ:Hid (outQ pre++[(m,r.1)] <+: allD ns ls x t T):=by
     show _ <+: _
     rw [HPRE.out];exact HSF.out
    have hat:AtQ ((m,r.1),A7,c7) W.heap.size (w7.alloc (.cells #[.slice A7 r.1.pods.length c7,.int .i64 r.1.preempts,.int .i64 r.1.shifts] 44)) :=
     ⟨ho7.later k8,fun a ha=>by have h1:=hfr7 a ha;have h2:=HI6.out.base;omega⟩
    obtain ⟨fn',tmps',assign',body',hyy,hR⟩:=HY.out pre O1 ((m,r.1),A7,c7) _ I8.j I8.lt hat (so_less (q:=((m,r.1),A7,c7)) HSQ.out)
    have HRR:=Lib.hid hR
    dsimp only [encQ,aggM,stateV] at hyy
    obtain ⟨⟨m0,m1⟩,m2,m3,m4⟩:=BM8.cells4q
    obtain ⟨s0,s1,s2,s3⟩:=BS8.cells3
    have HBU:Hid (bu<(w7.alloc (.cells #[.slice A7 r.1.pods.length c7,.int .i64 r.1.preempts,.int .i64 r.1.shifts] 44)).heap.size):=by
     have h1:=(HI6.out.keep HJ.out hb7).below.size
     have h2:=hb7.size
     have h3:=k8.size
     show bu<_
     simp at h2 h3 ⊢
     omega
    clear ho7 hfr7 hb7 k8 HI6 HD1 a0 a1 a2 a3 b0 b1 b2 b3 d0 d1 d2 d3 p0 p1 p2 p3 I8 BM8 BS8 hat hR
    gi_wp2
    refine HRR.out.mono ?_
    rintro e V' (⟨rfl,hbut,O',hj',ho'⟩ | ⟨rfl,hjx⟩)
    ·have HI9:=Lib.hid (HI8.out.round hbut hj' ho' (fun k e=>by cases e;exact HBU.out))
     clear hbut hj' ho' HI8 m0 m1 m2 m3 m4 s0 s1 s2 s3 hyy HRR
     gi_wp2
     go_roundw
     case rel=>exact ⟨k+1,pre++[((m,r.1),A7,c7)],O',by omega,by go_num,by rw [outQ,List.map_append,flat_more18 hkl HM.out,HT.out,← HPRE.out];rfl,HI9.out⟩
     case measure=>simp [intOf];omega
    ·have HX:=Lib.hid hjx
     clear hjx HI8 m0 m1 m2 m3 m4 s0 s1 s2 s3 hyy HRR
     gi_wp2
     refine bodyPost_ret (results_none rfl _ _ _) rfl ?_
     exact ⟨⟨_,rfl⟩,.inr ⟨pre++[((m,r.1),A7,c7)],by rw [outQ,List.map_append];exact HSQ.out,HX.out⟩⟩
   ·have HD1:=Lib.hid (HDO.out.mono fun e w' h=>do_bad hd0 h)
    have HT:=Lib.hid (tell_no hd0)
    clear hd0 HDO
    gi_wp2_with fail
    refine ⟨trivial,(callsIn_wide.2 HD1.out).mono ?_⟩
    rintro e w7 ⟨A7,c7,rfl,ho7,hfr7,hb7⟩
    generalize doD ns ls x t m=r at *
    have k8:Below w7.heap.size w7 (w7.alloc (.cells #[.slice A7 r.1.pods.length c7,.int .i64 r.1.preempts,.int .i64 r.1.shifts] 44)):=(Below.refl _ _).alloc (Nat.le_refl _) _
    have HI8:=Lib.hid ((HI6.out.keep HJ.out hb7).keep HJ.out k8)
    clear ho7 hfr7 hb7 k8 HI6 HD1 a0 a1 a2 a3 b0 b1 b2 b3 d0 d1 d2 d3 m0 m1 m2 m3 m4 p0 p1 p2 p3
    gi_wp2
    refine ⟨fun _ h=>(by cases h),?_⟩
    gi_wp2
    go_roundw
    case rel=>exact ⟨k+1,pre,O1,by omega,by go_num,by rw [HPRE.out,flat_more18 hkl HM.out,HT.out,List.append_nil],HI8.out⟩
    case measure=>simp [intOf];omega
  ·have HK:Hid (T.take k=T):=List.take_of_length_le (by have:=HMU.out;omega)
   gi_wp2
   go_end0
   exact ⟨⟨_,rfl⟩,.inl ⟨pre,O1,by rw [HPRE.out,HK.out];rfl,HI.out.j⟩⟩

theorem doable_stops (n:Nat) (hn:1≤n) (ns:List NodeD) (ls:List LoadD) (x:SpecD) (t:StateD) (T:List MoveD) (hT:TriesOf ns t.pods T) (A1 A2 A3 A4 A5:Option Addr) (n1 c1 n2 c2 n3 c3 n4 c4 n5 c5:Nat) (w:World) (h:TidyArgs ns ls x t A1 A2 A4 A5 n1 n2 n4 c4 n5 w) (B:Nat) (w0:World)
  (hb1:Bf w0 B [.slice A1 n1 c1,.slice A2 n2 c2,.slice A3 n3 c3]) (hb2:Bf w0 (B+1) [.slice A5 n5 c5,.int .i64 x.preempts,.int .i64 x.shifts]) (hb3:Bf w0 (B+2) [.slice A4 n4 c4,.int .i64 t.preempts,.int .i64 t.shifts]) (hw:Below w.heap.size w w0) :
  SeqQ Fence.wide n Tryz.prog 161 #[.pointer (some ⟨B,0,none⟩),.pointer (some ⟨B+2,0,none⟩),.pointer (some ⟨B+1,0,none⟩)] encQ (fun k=>k<w.heap.size∨(B≤k∧k<B+3)) AtQ
   (fun xs=>outQ xs=allD ns ls x t T) (fun pre=>outQ pre <+: allD ns ls x t T) (allD ns ls x t T).length w0:=fun l J Jx O W hW hJ hJx hO hY h0 =>
 doable_in n hn l ns ls x t T hT A1 A2 A3 A4 A5 n1 c1 n2 c2 n3 c3 n4 c4 n5 c5 w h B J Jx O W hJ hJx hY (hb1.below hW hb1.lt) (hb2.below hW hb2.lt) (hb3.below hW hb3.lt) (hw.trans (hW.mono hw.size))
  (fun k hk=>⟨(hO k hk).1,Nat.not_lt.1 fun hc=>(hO k hk).2 (.inl hc),fun hc=>(hO k hk).2 (.inr hc)⟩) h0
end Go.Proofs.YthapilknnhlmfaaGreatDoor
namespace Go.Proofs.YthapilknnhlmfaaGreatDoor
set_option linter.unusedSimpArgs false
open Go.RowKit
set_option linter.unusedVariables false
def RiseN (l:List NodeD):Prop:=l.Pairwise fun a b=>a.id<b.id
theorem rawP_pod {ns:List NodeD} {ps:List PodD} {p:PodD} {m:MoveD} (h:m ∈ rawP ns ps p):m.pod=p.id:=by
 unfold rawP comingD leavingD at h
 split at h
 ·simp only [List.mem_append,List.mem_map] at h
  rcases h with ⟨_,_,rfl⟩ | ⟨_,_,rfl⟩ <;> rfl
 ·simp only [List.mem_cons,List.mem_map] at h
  rcases h with rfl | ⟨_,_,rfl⟩ <;> rfl
theorem map_nodup19 {α:Type} {f:α→MoveD} {l:List α} (h:l.Pairwise fun a b=>f a≠f b):(l.map f).Nodup:=List.pairwise_map.2 h
theorem rawP_nodup {ns:List NodeD} {ps:List PodD} (hn:RiseN ns) (hp:RisesP ps) (p:PodD):(rawP ns ps p).Nodup:=by
 have h1:∀ kind:Int,(ns.map fun n=>(⟨kind,p.id,n.id,0⟩:MoveD)).Nodup:=fun kind=>map_nodup19 (hn.imp fun {a b} hab e=>by
  injection e with _ _ e3 _
  omega)
 have h2:(ps.map fun q=>(⟨4,p.id,q.node,q.id⟩:MoveD)).Nodup:=map_nodup19 (hp.imp fun {a b} hab e=>by
  injection e with _ _ _ e4
  omega)
 unfold rawP comingD leavingD
 split
 ·refine List.nodup_append.2 ⟨h1 1,h2,fun a ha b hb e=>?_⟩
  obtain ⟨_,_,rfl⟩:=List.mem_map.1 ha
  obtain ⟨_,_,rfl⟩:=List.mem_map.1 hb
  injection e with e1 _ _ _
  omega
 ·refine List.nodup_cons.2 ⟨fun h=>?_,h1 3⟩
  obtain ⟨_,_,e⟩:=List.mem_map.1 h
  injection e with e1 _ _ _
  omega
theorem rawD_nodup {ns:List NodeD} {ps:List PodD} (hn:RiseN ns) (hp:RisesP ps):(rawD ns ps).Nodup:=by
 unfold rawD
 refine List.pairwise_flatMap.2 ⟨fun p _=>rawP_nodup hn hp p,hp.imp fun {p q} hpq a ha b hb e=>?_⟩
 have h1:=rawP_pod ha
 have h2:=rawP_pod hb
 rw [e] at h1
 omega
theorem put_sorted (a:MoveD):∀ T:List MoveD,T.Pairwise ltM→a ∉ T→∃ T':List MoveD,T'.Perm (a :: T)∧T'.Pairwise ltM
 | [],_,_=>⟨[a],List.Perm.refl _,by simp⟩
 | b :: T,h,hn=>by
  have h1:=List.pairwise_cons.1 h
  have hab:a≠b:=fun e=>hn (by rw [e];simp)
  rcases ltM_total hab with hl | hl
  ·refine ⟨a :: b :: T,List.Perm.refl _,List.pairwise_cons.2 ⟨fun c hc=>?_,h⟩⟩
   rcases List.mem_cons.1 hc with rfl | hc
   ·exact hl
   ·exact ltM_trans hl (h1.1 c hc)
  ·obtain ⟨T',hp,hs⟩:=put_sorted a T h1.2 (fun hc=>hn (by simp [hc]))
   refine ⟨b :: T',((hp.cons b).trans (List.Perm.swap a b T)),List.pairwise_cons.2 ⟨fun c hc=>?_,hs⟩⟩
   rcases List.mem_cons.1 (hp.subset hc) with rfl | hc
   ·exact hl
   ·exact h1.1 c hc
theorem sorted_ex:∀ l:List MoveD,l.Nodup→∃ T:List MoveD,T.Perm l∧T.Pairwise ltM
 | [],_=>⟨[],List.Perm.refl _,List.Pairwise.nil⟩
 | a :: l,h=>by
  have h1:=List.nodup_cons.1 h
  obtain ⟨T,hp,hs⟩:=sorted_ex l h1.2
  obtain ⟨T',hp',hs'⟩:=put_sorted a T hs fun hc=>h1.1 (hp.subset hc)
  exact ⟨T',hp'.trans (hp.cons a),hs'⟩
theorem tries_ex {ns:List NodeD} {ps:List PodD} (hn:RiseN ns) (hp:RisesP ps):∃ T,TriesOf ns ps T:=sorted_ex _ (rawD_nodup hn hp)
theorem node_hit19 {ns:List NodeD} {id:Int} (h:¬ place NodeD.id id ns 0<0):∃ n ∈ ns,n.id=id:=by
 rcases place_or (f:=NodeD.id) (id:=id) ns 0 (by omega) with h1 | h1
 ·exact absurd h1 h
 ·have h2:=place_ge (f:=NodeD.id) (id:=id) (l:=ns) (k:=0) (by omega)
  obtain ⟨i,hi⟩:∃ i:Nat,place NodeD.id id ns 0=i:=⟨(place NodeD.id id ns 0).toNat,by omega⟩
  have hl:i<ns.length:=by omega
  exact ⟨ns[i],List.getElem_mem hl,place_eqA (k:=0) hl (by rw [hi];omega) (by omega)⟩
theorem made_raw {ns:List NodeD} {x:List WantD} {t:StateD} {m:MoveD} (h:(makeD ns x t m).2=0):m ∈ rawD ns t.pods:=by
 obtain ⟨w1,w2,w3⟩:wellD m=true∧hereD ns t.pods m=true∧canD t.pods m=true:=by
  unfold makeD at h
  split at h
  ·cases h
  ·split at h
   ·cases h
   ·split at h
    ·cases h
    ·rename_i q1 q2 q3
     exact ⟨by simpa using q1,by simpa using q2,by simpa using q3⟩
 obtain ⟨i,hi,hp⟩:=place_hit (here_pod w2)
 have ez:=podZ_some hi hp
 have eid:=place_is hi hp
 have hk:=well_kinds w1
 have ho:=here_over w2 w3
 refine List.mem_flatMap.2 ⟨t.pods[i],List.getElem_mem hi,?_⟩
 have hnode:m.kind≠2→∃ n ∈ ns,n.id=m.node:=fun h2=>by
  unfold hereD at w2
  simp only [Bool.and_eq_true,Bool.or_eq_true,beq_iff_eq] at w2
  rcases w2.2.1 with h3 | h3
  ·exact node_hit19 (by simpa using h3)
  ·exact absurd h3 h2
 unfold canD at w3
 rw [ez] at w3
 unfold wellD at w1
 unfold rawP comingD leavingD
 obtain ⟨kind,pod,node,over⟩:=m
 dsimp only at *
 rcases hk with rfl | rfl | rfl | rfl
 ·have h0:t.pods[i].node=0:=by simpa using w3
  have hov:over=0:=by simpa using w1
  obtain ⟨n,hn,rfl⟩:=hnode (by decide)
  rw [if_pos h0,List.mem_append,List.mem_map]
  exact .inl ⟨n,hn,by rw [eid,hov]⟩
 ·have h0:t.pods[i].node≠0:=by simpa using w3
  have hov:node=0∧over=0:=by simpa using w1
  rw [if_neg h0,eid,hov.1,hov.2]
  simp
 ·have h0:t.pods[i].node≠0:=by simp at w3;exact w3.1
  have hov:over=0:=by simpa using w1
  obtain ⟨n,hn,rfl⟩:=hnode (by decide)
  rw [if_neg h0]
  exact List.mem_cons_of_mem _ (List.mem_map.2 ⟨n,hn,by rw [eid,hov]⟩)
 ·obtain ⟨hov,hne⟩:=ho rfl
  obtain ⟨k,hk',hpk⟩:=place_hit hov
  have ezk:=podZ_some hk' hpk
  have eidk:=place_is hk' hpk
  rw [ezk] at w3
  have h30:t.pods[i].node=0:=by simp at w3;exact w3.1
  have h3k:t.pods[k].node=node:=by simp at w3;exact w3.2.2
  rw [if_pos h30,List.mem_append,List.mem_map,List.mem_map]
  exact .inr ⟨t.pods[k],List.getElem_mem hk',by rw [eid,h3k,eidk]⟩
theorem done_raw {ns:List NodeD} {ls:List LoadD} {x:SpecD} {t:StateD} {m:MoveD} (h:(doD ns ls x t m).2=0):m ∈ rawD ns t.pods:=made_raw (do_made h).1
theorem all_mem {ns:List NodeD} {ls:List LoadD} {x:SpecD} {t:StateD} {T:List MoveD} (hT:TriesOf ns t.pods T) {q:MoveD × StateD}:q ∈ allD ns ls x t T ↔ (doD ns ls x t q.1).2=0∧q.2=(doD ns ls x t q.1).1:=by
 unfold allD
 rw [List.mem_flatMap]
 constructor
 ·rintro ⟨m,_,hq⟩
  unfold tellD at hq
  split at hq
  ·rename_i h0
   rw [List.mem_singleton] at hq
   subst hq
   exact ⟨h0,rfl⟩
  ·simp at hq
 ·rintro ⟨h0,h1⟩
  refine ⟨q.1,hT.1.symm.subset (done_raw h0),?_⟩
  rw [tell_yes h0,List.mem_singleton,← h1]
theorem ids_behind {x:List WantD} {t:StateD} {m:MoveD} (hp:¬ place PodD.id m.pod t.pods 0<0) (ho:m.kind=4→¬ place PodD.id m.over t.pods 0<0∧m.over≠m.pod):(behindD x t m).pods.map PodD.id=t.pods.map PodD.id:=by
 have key:∀ (l:List PodD) (i:Nat) (hi:i<l.length) (p:PodD),p.id=l[i].id→(l.set i p).map PodD.id=l.map PodD.id:=fun l i hi p h=>by
  rw [List.map_set,h]
  have:(l.map PodD.id)[i]'(by simpa using hi)=l[i].id:=by simp
  rw [← this,List.set_getElem_self]
 obtain ⟨i,hi,hpi⟩:=place_hit hp
 have ei:idxD m.pod t.pods=i:=by rw [idxD,hpi];rfl
 have ez:=podZ_some hi hpi
 unfold behindD
 rw [ei,ez]
 split
 ·exact key _ _ hi _ rfl
 split
 ·exact key _ _ hi _ rfl
 split
 ·rename_i h4
  obtain ⟨hov,hne⟩:=ho h4
  obtain ⟨k,hk,hpk⟩:=place_hit hov
  have ek:idxD m.over t.pods=k:=by rw [idxD,hpk];rfl
  have ezk:=podZ_some hk hpk
  have hki:k≠i:=fun e=>by
   subst e
   exact hne ((place_is hk hpk).symm.trans (place_is hi hpi))
  rw [ek,ezk]
  dsimp only
  rw [key _ i (by simpa using hi) _ (by rw [List.getElem_set_ne hki];rfl)]
  exact key _ _ hk _ rfl
 ·exact key _ _ hi _ rfl
theorem ids_done {ns:List NodeD} {ls:List LoadD} {x:SpecD} {t:StateD} {m:MoveD} (h:(doD ns ls x t m).2=0):(doD ns ls x t m).1.pods.map PodD.id=t.pods.map PodD.id:=by
 obtain ⟨hm,he,_⟩:=do_made h
 rw [he]
 clear he h
 unfold makeD at hm ⊢
 split at hm
 ·cases hm
 ·split at hm
  ·cases hm
  ·split at hm
   ·cases hm
   ·rename_i q1 q2 q3
    rw [if_neg q1,if_neg q2,if_neg q3]
    exact ids_behind (here_pod (by simpa using q2)) (here_over (by simpa using q2) (by simpa using q3))
theorem risesP_ids {l m:List PodD} (h:l.map PodD.id=m.map PodD.id) (hm:RisesP m):RisesP l:=by
 have h1:(l.map PodD.id).Pairwise (·<·):=by rw [h];exact List.pairwise_map.2 hm
 exact List.pairwise_map.1 h1
def Way (ns:List NodeD) (ls:List LoadD) (x:SpecD):List MoveD→StateD→StateD→Prop
 | [],t,u=>t=u
 | m :: r,t,u=>(doD ns ls x t m).2=0∧Way ns ls x r (doD ns ls x t m).1 u
theorem way_walk {ns:List NodeD} {ls:List LoadD} {x:SpecD}:∀ {l:List MoveD} {k:Nat} {t u:StateD},Way ns ls x l t u ↔ walkK ns ls x l k t=(u,k+l.length,0)
 | [],k,t,u=>by simp [Way,walkK]
 | m :: r,k,t,u=>by
  unfold Way walkK
  by_cases h:(doD ns ls x t m).2=0
  ·rw [if_pos h,way_walk (k:=k+1),List.length_cons]
   simp [h,Nat.add_assoc,Nat.add_comm 1]
  ·rw [if_neg h]
   constructor
   ·exact fun e=>absurd e.1 h
   ·intro e
    injection e with _ e
    injection e with _ e
    exact absurd e h
theorem way_snoc {ns:List NodeD} {ls:List LoadD} {x:SpecD} {m:MoveD}:∀ {l:List MoveD} {t u:StateD},Way ns ls x l t u→(doD ns ls x u m).2=0→Way ns ls x (l++[m]) t (doD ns ls x u m).1
 | [],t,u,h,hd=>by cases h;exact ⟨hd,rfl⟩
 | a :: r,t,u,h,hd=>⟨h.1,way_snoc h.2 hd⟩
theorem way_split {ns:List NodeD} {ls:List LoadD} {x:SpecD} {m:MoveD}:∀ {l:List MoveD} {t u:StateD},Way ns ls x (l++[m]) t u→∃ v,Way ns ls x l t v∧(doD ns ls x v m).2=0∧(doD ns ls x v m).1=u
 | [],t,u,h=>⟨t,rfl,h.1,h.2⟩
 | a :: r,t,u,h=>by
  obtain ⟨v,h1,h2⟩:=way_split h.2
  exact ⟨v,⟨h.1,h1⟩,h2⟩
theorem way_ids {ns:List NodeD} {ls:List LoadD} {x:SpecD}:∀ {l:List MoveD} {t u:StateD},Way ns ls x l t u→u.pods.map PodD.id=t.pods.map PodD.id
 | [],t,u,h=>by cases h;rfl
 | a :: r,t,u,h=>(way_ids h.2).trans (ids_done h.1)
def Plan19 (ns:List NodeD) (ls:List LoadD) (x:SpecD) (t:StateD) (depth:Nat):Prop:=∃ l u,l.length≤depth∧Way ns ls x l t u∧goalD x.wants u.pods=true
def movesB (p n:Nat):Nat:=2 * p * n+p+p * p * n
def geoB (b:Nat):Nat→Nat
 | 0=>0
 | k+1=>geoB b k+b ^ k
def canB (ns:List NodeD) (ls:List LoadD) (x:SpecD) (t:StateD) (m:MoveD):Bool:=(doD ns ls x t m).2 == 0
theorem all_count (ns:List NodeD) (ls:List LoadD) (x:SpecD) (t:StateD):∀ T:List MoveD,(allD ns ls x t T).length=T.countP (canB ns ls x t)
 | []=>rfl
 | m :: T=>by
  have ih:=all_count ns ls x t T
  unfold allD at ih ⊢
  rw [List.flatMap_cons,List.length_append,ih,List.countP_cons]
  unfold tellD canB
  by_cases h:(doD ns ls x t m).2=0
  ·simp [h,Nat.add_comm]
  ·simp [h]
theorem can_node {ns:List NodeD} {ls:List LoadD} {x:SpecD} {t:StateD} {m:MoveD} (h:canB ns ls x t m=true) (h2:m.kind≠2):ns≠[]:=by
 intro e
 subst e
 have hm:=(do_made (by simpa [canB] using h)).1
 unfold makeD at hm
 split at hm
 ·cases hm
 ·split at hm
  ·cases hm
  ·rename_i q1 q2
   have w2:hereD [] t.pods m=true:=by simpa using q2
   unfold hereD at w2
   simp only [Bool.and_eq_true,Bool.or_eq_true,beq_iff_eq] at w2
   rcases w2.2.1 with h3 | h3
   ·simp [place] at h3
   ·exact h2 h3
theorem rawP_count (ns:List NodeD) (ls:List LoadD) (x:SpecD) (t:StateD) (ps:List PodD) (hp:0<ps.length) (p:PodD):(rawP ns ps p).countP (canB ns ls x t)≤2 * ns.length+1+ps.length * ns.length:=by
 by_cases hn:ns=[]
 ·subst hn
  have h1:(rawP [] ps p).countP (canB [] ls x t)≤1:=by
   unfold rawP comingD leavingD
   split
   ·rw [List.map_nil,List.nil_append]
    have:(ps.map fun q=>(⟨4,p.id,q.node,q.id⟩:MoveD)).countP (canB [] ls x t)=0:=List.countP_eq_zero.2 fun m hm hc=>by
     obtain ⟨q,_,rfl⟩:=List.mem_map.1 hm
     exact can_node hc (by show (4:Int)≠2;decide) rfl
    omega
   ·rw [List.map_nil]
    exact List.countP_le_length
  simp only [List.length_nil,Nat.mul_zero]
  omega
 ·have hn1:0<ns.length:=List.length_pos_iff.2 hn
  have h1:=List.countP_le_length (p:=canB ns ls x t) (l:=rawP ns ps p)
  have h2:(rawP ns ps p).length≤ns.length+ps.length∨(rawP ns ps p).length≤ns.length+1:=by
   unfold rawP comingD leavingD
   split
   ·exact .inl (by simp)
   ·exact .inr (by simp)
  have h3:ps.length≤ps.length * ns.length:=Nat.le_mul_of_pos_right _ hn1
  omega
theorem flat_count {α:Type} {f:α→List MoveD} {c:MoveD→Bool} {m:Nat}:∀ {l:List α},(∀ y ∈ l,(f y).countP c≤m)→(l.flatMap f).countP c≤l.length * m
 | [],_=>by simp
 | y :: r,h=>by
  rw [List.flatMap_cons,List.countP_append,List.length_cons,Nat.add_mul,Nat.one_mul]
  have h1:=h y (by simp)
  have h2:=flat_count (f:=f) (c:=c) (m:=m) (l:=r) fun z hz=>h z (by simp [hz])
  omega
theorem all_few {ns:List NodeD} {ls:List LoadD} {x:SpecD} {t:StateD} {T:List MoveD} (hT:TriesOf ns t.pods T):(allD ns ls x t T).length≤movesB t.pods.length ns.length:=by
 rw [all_count,hT.1.countP_eq]
 unfold rawD
 have h:=flat_count (f:=rawP ns t.pods) (c:=canB ns ls x t) (m:=2 * ns.length+1+t.pods.length * ns.length) (l:=t.pods) fun y hy=>rawP_count ns ls x t t.pods (List.length_pos_of_mem hy) y
 refine Nat.le_trans h (Nat.le_of_eq ?_)
 unfold movesB
 rw [Nat.mul_add,Nat.mul_add,Nat.mul_one,← Nat.mul_assoc t.pods.length t.pods.length,Nat.mul_left_comm t.pods.length 2,← Nat.mul_assoc 2]
theorem way_len {ns:List NodeD} {ls:List LoadD} {x:SpecD} {l:List MoveD} {t u:StateD} (h:Way ns ls x l t u):u.pods.length=t.pods.length:=by
 have:=congrArg List.length (way_ids h)
 simpa using this
theorem podBad_rises19 (ns:List NodeD) (ls:List LoadD) (last:Int) (p:PodD) (h:podBad ns ls last p=0):last<p.id:=by
 unfold podBad at h
 split at h
 ·rename_i h1;exact absurd h h1
 ·rename_i h1;exact (idBad_ok (by simpa using h1)).2.2
theorem firstWant_rises {s:SnapD}:∀ {l:List WantD} {first:Bool} {last:Int} {k:Nat},firstWant s first last k l=none→RiseW l∧(first=false→∀ w ∈ l,last<w.pod)
 | [],_,_,_,_=>⟨List.Pairwise.nil,fun _ w hw=>by simp at hw⟩
 | w :: r,first,last,k,h=>by
  unfold firstWant at h
  split at h
  ·cases h
  ·rename_i h0
   obtain ⟨h1,h2⟩:=firstWant_rises h
   have h2':=h2 rfl
   refine ⟨List.pairwise_cons.2 ⟨h2',h1⟩,fun hf v hv=>?_⟩
   subst hf
   have hw:last<w.pod:=by
    have h3:wantBad s false last w=0:=by simpa using h0
    unfold wantBad at h3
    split at h3
    ·cases h3
    ·split at h3
     ·cases h3
     ·rename_i q1 q2
      simp at q1 q2
      omega
   rcases List.mem_cons.1 hv with rfl | hv
   ·exact hw
   ·have:=h2' v hv;omega
theorem fair_rises {s:SnapD} {x:SpecD} (h:(fair s x).1=0):RiseN s.nodes∧RisesP s.pods∧RiseW x.wants∧s.nodes.length≤8∧s.loads.length≤8∧s.pods.length≤12∧0≤x.preempts∧x.preempts≤40∧0≤x.shifts∧x.shifts≤40:=by
 have hc:(check s).1=0:=by
  by_cases hc:(check s).1=0
  ·exact hc
  ·rw [fair_bad hc] at h;exact absurd h hc
 have hx:¬ (x.preempts<0∨40<x.preempts∨x.shifts<0∨40<x.shifts):=fun hx=>by
  rw [fair_large hc hx] at h;cases h
 have hw:firstWant s true 0 0 x.wants=none:=by
  cases hf:firstWant s true 0 0 x.wants with
  | none=>rfl
  | some p =>
   obtain ⟨b,k⟩:=p
   have hb:b≠0:=by
    have key:∀ (l:List WantD) (first:Bool) (last:Int) (j:Nat),firstWant s first last j l=some (b,k)→b≠0:=by
     intro l
     induction l with
     | nil=>intro _ _ _ e;cases e
     | cons y r ih =>
      intro first last j e
      unfold firstWant at e
      split at e
      ·rename_i h0
       injection e with e
       injection e with e1 _
       rw [← e1];exact h0
      ·exact ih _ _ _ e
    exact key _ _ _ _ hf
   rw [fair_some hc hx hf] at h
   exact absurd h hb
 obtain ⟨h1,h2,h3,h4⟩:=check_ok.1 hc
 simp only [large,decide_eq_false_iff_not] at h1
 refine ⟨?_,?_,(firstWant_rises hw).1,by omega,by omega,by omega,by omega,by omega,by omega,by omega⟩
 ·exact List.pairwise_iff_getElem.2 fun i j hi hj hij=>(firstBad_rises nodeBad_rises h2 j hj).2 i hij
 ·exact List.pairwise_iff_getElem.2 fun i j hi hj hij=>(firstBad_rises (podBad_rises19 _ _) h4 j hj).2 i hij
end Go.Proofs.YthapilknnhlmfaaGreatDoor
