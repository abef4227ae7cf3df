/- Joined texts, part 15: TG TO VA TR TQ. -/
import Derived.Test.YthapilknnhlmfaaGreatDoorZ14
import Derived.Test.YthapilknnhlmfaaGreatDoorZ04
import Derived.BigQuiet
import Derived.Maps.OwnSet
import Derived.Maps.RangeWalk
import Derived.WideKeyEntry
import Derived.Test.YthapilknnhlmfaaGreatDoorZ02
import Derived.Test.YthapilknnhlmfaaGreatDoorZ06
import Derived.Test.YthapilknnhlmfaaGreatDoorZ09
import Derived.Deep.CutRange
import Derived.Deep.RegionHeld3

namespace Go.Proofs.YthapilknnhlmfaaGreatDoor
set_option linter.unusedSimpArgs false
open Go.RowKit
set_option linter.unusedVariables false
def stayD (x:List WantD) (l:List PodD):Nat:=x.countP fun w=>w.stay && !metD l w
def leaveD (x:List WantD) (l:List PodD):Nat:=x.countP fun w=>!w.stay && !metD l w
def leastD (x:List WantD) (l:List PodD):Nat:=max (stayD x l) (leaveD x l)
theorem stay_leave (l:List PodD):∀ x:List WantD,stayD x l+leaveD x l=unmetD x l
 | []=>rfl
 | w :: r=>by
  have ih:=stay_leave l r
  unfold stayD leaveD unmetD at ih ⊢
  rw [List.countP_cons,List.countP_cons,List.countP_cons]
  cases hs:w.stay <;> cases hm:metD l w <;> simp <;> omega
theorem least_goal {x:List WantD} {l:List PodD}:leastD x l=0 ↔ goalD x l=true:=by
 rw [← unmet_goal,← stay_leave]
 unfold leastD
 omega
theorem count_one {bad bad':WantD→Bool} {a:Int}:∀ {x:List WantD},(∀ w ∈ x,bad w=true→bad' w=false→w.pod=a)→x.countP bad≤x.countP bad'+x.countP (fun w=>w.pod == a)
 | [],_=>by simp
 | w :: r,h=>by
  have ih:=count_one (x:=r) fun v hv=>h v (List.mem_cons_of_mem _ hv)
  rw [List.countP_cons,List.countP_cons,List.countP_cons]
  cases hb:bad w with
  | false=>simp;omega
  | true =>
   cases hb':bad' w with
   | true=>simp;omega
   | false =>
    rw [if_pos (show (w.pod == a)=true by simpa using h w (by simp) hb hb')]
    simp;omega
theorem podAt_hit {id:Int} {p:PodD}:∀ {l:List PodD} {k:Int} {i:Nat} (hi:i<l.length),place PodD.id id l k=k+i→0≤k→p.id=id→podAt id (l.set i p)=some p
 | [],_,_,hi,_,_,_=>by simp at hi
 | x :: r,k,i,hi,h,hk,hp=>by
  by_cases hx:x.id=id
  ·simp only [place,if_pos hx] at h
   obtain rfl:i=0:=by omega
   simp [podAt,hp]
  ·simp only [place,if_neg hx] at h
   cases i with
   | zero =>
    have h3:place PodD.id id r (k+1)<0∨k+1≤place PodD.id id r (k+1):=place_or r (k+1) (by omega)
    omega
   | succ i =>
    simp only [List.set_cons_succ,podAt,if_neg hx]
    exact podAt_hit (k:=k+1) (by simpa using hi) (by rw [h];omega) (by omega) hp
theorem made_pod {ns:List NodeD} {x:List WantD} {t:StateD} {m:MoveD} (h:(makeD ns x t m).2=0) :
  (m.kind≠4→∀ id,id≠m.pod→podAt id (makeD ns x t m).1.pods=podAt id t.pods) ∧
  (m.kind=2→∃ p,podAt m.pod (makeD ns x t m).1.pods=some p∧p.node=0) ∧
  (m.kind=4→(∃ p,podAt m.over (makeD ns x t m).1.pods=some p∧p.node=0)∧(∃ p,podAt m.pod t.pods=some p∧p.node=0)∧∀ id,id≠m.pod→id≠m.over→podAt id (makeD ns x t m).1.pods=podAt id t.pods):=by
 obtain ⟨q1,q2,q3⟩:wellD m=true∧hereD ns t.pods m=true∧canD t.pods m=true:=by
  unfold makeD at h
  split at h
  ·cases h
  ·split at h
   ·cases h
   ·split at h
    ·cases h
    ·rename_i q1 q2 q3
     exact ⟨by simpa using q1,by simpa using q2,by simpa using q3⟩
 have e:(makeD ns x t m).1=behindD x t m:=by rw [makeD,if_neg (by simp [q1]),if_neg (by simp [q2]),if_neg (by simp [q3])]
 rw [e]
 clear e h
 have hp:=here_pod q2
 have ho:=here_over q2 q3
 obtain ⟨i,hi,hpi⟩:=place_hit hp
 have ei:idxD m.pod t.pods=i:=by rw [idxD,hpi];rfl
 have ez:=podZ_some hi hpi
 have eid:=place_is hi hpi
 have epi:=podAt_some (l:=t.pods) (k:=0) hi (by rw [hpi];omega) (by omega)
 refine ⟨fun h4 id hid=>?_,fun h2=>?_,fun h4=>?_⟩
 ·unfold behindD
  rw [ei,ez,if_neg h4]
  split
  ·exact podAt_set hi rfl (by show t.pods[i].id≠id;rw [eid];exact hid.symm)
  split
  ·exact podAt_set hi rfl (by show t.pods[i].id≠id;rw [eid];exact hid.symm)
  exact podAt_set hi rfl (by show t.pods[i].id≠id;rw [eid];exact hid.symm)
 ·unfold behindD
  rw [if_pos h2,ei,ez]
  exact ⟨goD t.pods[i],podAt_hit (k:=0) hi (by rw [hpi];omega) (by omega) eid,rfl⟩
 ·obtain ⟨hov,hne⟩:=ho h4
  obtain ⟨k,hk,hpk⟩:=place_hit hov
  have ek:idxD m.over t.pods=k:=by rw [idxD,hpk];rfl
  have ezk:=podZ_some hk hpk
  have eidk:=place_is hk hpk
  have hki:k≠i:=fun e=>by
   subst e
   exact hne (eidk.symm.trans eid)
  refine ⟨⟨goD t.pods[k],?_,rfl⟩,⟨t.pods[i],epi,?_⟩,fun id h1 h2=>podAt_behind hp ho h1 h2⟩
  ·unfold behindD
   rw [if_neg (by omega),if_neg (by omega),if_pos h4,ei,ez,ek,ezk]
   dsimp only
   rw [podAt_set (by simpa using hi) (by rw [List.getElem_set_ne hki];rfl) (by show t.pods[i].id≠m.over;rw [eid];exact hne.symm)]
   exact podAt_hit (k:=0) hk (by rw [hpk];omega) (by omega) eidk
  ·unfold canD at q3
   rw [if_neg (by omega),if_neg (by omega),if_pos h4,ez] at q3
   simp at q3
   exact q3.1
theorem met_away {l:List PodD} {w:WantD} {p:PodD} (h:podAt w.pod l=some p) (h0:p.node=0):metD l w=!w.stay:=by
 rw [metD,h]
 cases hs:w.stay <;> simp [h0]
theorem least_less {ns:List NodeD} {ls:List LoadD} {x:SpecD} {t:StateD} {m:MoveD} (hr:RiseW x.wants) (h:(doD ns ls x t m).2=0):leastD x.wants t.pods≤leastD x.wants (doD ns ls x t m).1.pods+1:=by
 obtain ⟨hm,he,_⟩:=do_made h
 rw [he]
 obtain ⟨p1,p2,p4⟩:=made_pod hm
 have hs:stayD x.wants t.pods≤stayD x.wants (makeD ns x.wants t m).1.pods+x.wants.countP (fun w=>w.pod == m.pod):=by
  refine count_one fun w _ h1 h2=>?_
  rw [Bool.and_eq_true,Bool.not_eq_true'] at h1
  rw [h1.1,Bool.true_and,Bool.not_eq_false'] at h2
  refine Classical.byContradiction fun hne=>?_
  by_cases h4:m.kind=4
  ·obtain ⟨⟨p,e1,e2⟩,_,e3⟩:=p4 h4
   by_cases hov:w.pod=m.over
   ·rw [met_away (w:=w) (by rw [hov];exact e1) e2,h1.1] at h2;cases h2
   ·rw [met_same (e3 w.pod hne hov),h1.2] at h2;cases h2
  ·rw [met_same (p1 h4 w.pod hne),h1.2] at h2;cases h2
 have hl:leaveD x.wants t.pods≤leaveD x.wants (makeD ns x.wants t m).1.pods+x.wants.countP (fun w=>w.pod == if m.kind=4 then m.over else m.pod):=by
  refine count_one fun w _ h1 h2=>?_
  rw [Bool.and_eq_true,Bool.not_eq_true',Bool.not_eq_true'] at h1
  rw [h1.1,Bool.not_false,Bool.true_and,Bool.not_eq_false'] at h2
  refine Classical.byContradiction fun hne=>?_
  by_cases h4:m.kind=4
  ·rw [if_pos h4] at hne
   obtain ⟨_,⟨p,e1,e2⟩,e3⟩:=p4 h4
   by_cases hov:w.pod=m.pod
   ·have:=met_away (w:=w) (by rw [hov];exact e1) e2
    rw [h1.2,h1.1] at this;cases this
   ·rw [met_same (e3 w.pod hov hne),h1.2] at h2;cases h2
  ·rw [if_neg h4] at hne
   rw [met_same (p1 h4 w.pod hne),h1.2] at h2;cases h2
 have o1:=one_of_rise (id:=m.pod) hr
 have o2:=one_of_rise (id:=if m.kind=4 then m.over else m.pod) hr
 unfold leastD
 omega
theorem least_way {ns:List NodeD} {ls:List LoadD} {x:SpecD} (hr:RiseW x.wants):∀ {l:List MoveD} {t u:StateD},Way ns ls x l t u→goalD x.wants u.pods=true→leastD x.wants t.pods≤l.length
 | [],t,u,h,hg=>by cases h;rw [least_goal.2 hg];exact Nat.zero_le _
 | m :: r,t,u,h,hg=>by
  have h1:=least_less hr h.1
  have h2:=least_way hr h.2 hg
  rw [List.length_cons]
  omega
structure PurseD where
 m:Int
 s:Int
 p:Int
def covD (a b:PurseD):Bool:=decide (b.m≤a.m) && (decide (b.s≤a.s) && decide (b.p≤a.p))
theorem covD_iff {a b:PurseD}:covD a b=true ↔ b.m≤a.m∧b.s≤a.s∧b.p≤a.p:=by simp [covD]
def purseD (x:SpecD) (t:StateD) (left:Int):PurseD:=⟨left,min left (x.shifts - t.shifts),min left (x.preempts - t.preempts)⟩
structure Fine19 (x:SpecD) (t:StateD):Prop where
 p0:0≤t.preempts
 p1:t.preempts≤x.preempts
 s0:0≤t.shifts
 s1:t.shifts≤x.shifts
 x1:x.preempts≤40
 x2:x.shifts≤40
theorem code_zero {ns:List NodeD} {ls:List LoadD} {x:SpecD} {t:StateD}:codeS ns ls x t=0 ↔ ∀ p ∈ fiveP ns ls t.pods x.preempts x.shifts t.preempts t.shifts,okP p=true:=by
 have e5:badK (fiveP ns ls t.pods x.preempts x.shifts t.preempts t.shifts) 1 5=((fiveP ns ls t.pods x.preempts x.shifts t.preempts t.shifts).filter fun p=>!okP p).take 1:=by
  unfold badK
  rw [List.take_of_length_le (l:=fiveP ns ls t.pods x.preempts x.shifts t.preempts t.shifts) (by simp [fiveP])]
 constructor
 ·intro h p hp
  rcases told8_why ns ls t.pods x.preempts x.shifts t.preempts t.shifts with h0 | h0
  ·cases hb:badK (fiveP ns ls t.pods x.preempts x.shifts t.preempts t.shifts) 1 5 with
   | nil =>
    rw [e5,List.take_eq_nil_iff] at hb
    have:=List.filter_eq_nil_iff.1 (hb.resolve_left (by decide)) p hp
    simpa using this
   | cons q r =>
    have hq:q ∈ badK (fiveP ns ls t.pods x.preempts x.shifts t.preempts t.shifts) 1 5:=by rw [hb];simp
    rw [e5] at hq
    have h2:=(List.mem_filter.1 (List.mem_of_mem_take hq)).2
    rw [whyP,hb] at h0
    have h3:q=(0,-1):=h0
    rw [h3] at h2
    simp [okP] at h2
  ·unfold codeS at h
   omega
 ·intro h
  have hb:badK (fiveP ns ls t.pods x.preempts x.shifts t.preempts t.shifts) 1 5=[]:=by
   rw [e5,List.filter_eq_nil_iff.2 (fun p hp=>by simp [h p hp])];rfl
  rw [codeS,whyP,hb];rfl
theorem used_ok {x1 x2 t1 t2:Int}:okP (usedP x1 x2 t1 t2)=true ↔ t1≤x1∧t2≤x2:=by
 unfold usedP usedD
 by_cases h1:x1<t1
 ·simp [h1,okP];omega
 ·by_cases h2:x2<t2
  ·simp [h1,h2,okP]
  ·simp [h1,h2,okP];omega
theorem code_budget {ns:List NodeD} {ls:List LoadD} {x:SpecD} {t:StateD} (h:codeS ns ls x t=0):t.preempts≤x.preempts∧t.shifts≤x.shifts:=used_ok.1 (code_zero.1 h _ (by simp [fiveP]))
theorem code_same {ns:List NodeD} {ls:List LoadD} {x:SpecD} {t u:StateD} (h:codeS ns ls x t=0) (hp:t.pods=u.pods) (hb:u.preempts≤x.preempts∧u.shifts≤x.shifts):codeS ns ls x u=0:=by
 have h0:=code_zero.1 h
 refine code_zero.2 fun p hp'=>?_
 rw [hp] at h0
 simp only [fiveP,List.mem_cons,List.not_mem_nil,or_false] at hp'
 rcases hp' with rfl | rfl | rfl | rfl | rfl
 ·exact h0 _ (by simp [fiveP])
 ·exact h0 _ (by simp [fiveP])
 ·exact h0 _ (by simp [fiveP])
 ·exact h0 _ (by simp [fiveP])
 ·exact used_ok.2 hb
def costS (m:MoveD):Int:=if m.kind=3 then 1 else 0
def costP (m:MoveD):Int:=if m.kind=4 then 1 else 0
theorem wrap_few {n:Int} (h0:0≤n) (h1:n≤100):wrap64 n=n:=by
 rw [wrap64];omega
theorem made_cost {ns:List NodeD} {x:SpecD} {t:StateD} {m:MoveD} (hf:Fine19 x t) (h:(makeD ns x.wants t m).2=0):(makeD ns x.wants t m).1.preempts=t.preempts+costP m∧(makeD ns x.wants t m).1.shifts=t.shifts+costS m:=by
 have e:(makeD ns x.wants t m).1=behindD x.wants t m:=by
  unfold makeD at h ⊢
  split at h
  ·cases h
  ·split at h
   ·cases h
   ·split at h
    ·cases h
    ·rename_i q1 q2 q3
     rw [if_neg q1,if_neg q2,if_neg q3]
 obtain ⟨f1,f2,f3,f4,f5,f6⟩:=hf
 rw [e]
 unfold behindD costP costS
 by_cases h2:m.kind=2
 ·rw [if_pos h2,if_neg (by omega),if_neg (by omega)];simp
 rw [if_neg h2]
 by_cases h3:m.kind=3
 ·rw [if_pos h3,if_neg (by omega),if_pos h3]
  exact ⟨by simp,wrap_few (by omega) (by omega)⟩
 rw [if_neg h3]
 by_cases h4:m.kind=4
 ·rw [if_pos h4,if_pos h4,if_neg (by omega)]
  exact ⟨wrap_few (by omega) (by omega),by simp⟩
 rw [if_neg h4,if_neg h4,if_neg h3]
 simp
theorem made_same {ns:List NodeD} {x:List WantD} {t u:StateD} {m:MoveD} (hp:t.pods=u.pods):(makeD ns x t m).2=(makeD ns x u m).2∧(makeD ns x t m).1.pods=(makeD ns x u m).1.pods:=by
 unfold makeD
 rw [hp]
 split
 ·exact ⟨rfl,rfl⟩
 split
 ·exact ⟨rfl,rfl⟩
 split
 ·exact ⟨rfl,rfl⟩
 refine ⟨rfl,?_⟩
 dsimp only
 unfold behindD
 rw [hp]
 split
 ·rfl
 split
 ·rfl
 split
 ·rfl
 ·rfl
theorem costs_nonneg (m:MoveD):0≤costS m∧0≤costP m∧costS m≤1∧costP m≤1:=by
 unfold costS costP
 split <;> split <;> omega
theorem do_fine {ns:List NodeD} {ls:List LoadD} {x:SpecD} {t:StateD} {m:MoveD} (hf:Fine19 x t) (h:(doD ns ls x t m).2=0):Fine19 x (doD ns ls x t m).1∧(doD ns ls x t m).1.preempts=t.preempts+costP m∧(doD ns ls x t m).1.shifts=t.shifts+costS m:=by
 obtain ⟨hm,he,hc⟩:=do_made h
 have hb:=code_budget hc
 have h1:=made_cost hf hm
 have h2:=costs_nonneg m
 rw [← he] at h1
 obtain ⟨f1,f2,f3,f4,f5,f6⟩:=hf
 exact ⟨⟨by omega,hb.1,by omega,hb.2,f5,f6⟩,h1⟩
theorem do_same {ns:List NodeD} {ls:List LoadD} {x:SpecD} {t u:StateD} {m:MoveD} (hp:t.pods=u.pods) (hu:Fine19 x u) (h:(doD ns ls x t m).2=0) (hb:u.preempts+costP m≤x.preempts∧u.shifts+costS m≤x.shifts):(doD ns ls x u m).2=0∧(doD ns ls x t m).1.pods=(doD ns ls x u m).1.pods:=by
 obtain ⟨hm,he,hc⟩:=do_made h
 obtain ⟨e1,e2⟩:=made_same (ns:=ns) (x:=x.wants) (m:=m) hp
 have hmu:(makeD ns x.wants u m).2=0:=by rw [← e1];exact hm
 have h1:=made_cost hu hmu
 have hpr:prioD u.pods m=false:=by
  cases hq:prioD u.pods m with
  | false=>rfl
  | true =>
   rw [← hp] at hq
   rw [doD,if_neg (by simp [hm]),if_pos hq] at h
   cases h
 have hcu:codeS ns ls x (makeD ns x.wants u m).1=0:=by
  rw [he] at hc
  exact code_same hc e2 (by rw [h1.1,h1.2];exact hb)
 have ed:=do_yes hmu hpr hcu
 rw [ed]
 exact ⟨rfl,by rw [he];exact e2⟩
def sumS:List MoveD→Int
 | []=>0
 | m :: r=>costS m+sumS r
def sumP:List MoveD→Int
 | []=>0
 | m :: r=>costP m+sumP r
theorem sum_le:∀ l:List MoveD,0≤sumS l∧0≤sumP l∧sumS l≤l.length∧sumP l≤l.length
 | []=>by simp [sumS,sumP]
 | m :: r=>by
  have h:=sum_le r
  have h2:=costs_nonneg m
  simp only [sumS,sumP,List.length_cons]
  omega
theorem way_fine {ns:List NodeD} {ls:List LoadD} {x:SpecD}:∀ {l:List MoveD} {t u:StateD},Fine19 x t→Way ns ls x l t u→Fine19 x u∧u.preempts=t.preempts+sumP l∧u.shifts=t.shifts+sumS l
 | [],t,u,hf,h=>by cases h;exact ⟨hf,by simp [sumP],by simp [sumS]⟩
 | m :: r,t,u,hf,h=>by
  obtain ⟨h1,h2,h3⟩:=do_fine hf h.1
  obtain ⟨g1,g2,g3⟩:=way_fine h1 h.2
  exact ⟨g1,by rw [g2,h2,sumP];omega,by rw [g3,h3,sumS];omega⟩
theorem way_same {ns:List NodeD} {ls:List LoadD} {x:SpecD}:∀ {l:List MoveD} {t u v:StateD},t.pods=u.pods→Fine19 x u→Way ns ls x l t v→u.preempts+sumP l≤x.preempts→u.shifts+sumS l≤x.shifts→∃ v',Way ns ls x l u v'∧v'.pods=v.pods
 | [],t,u,v,hp,hu,h,_,_=>by cases h;exact ⟨u,rfl,hp.symm⟩
 | m :: r,t,u,v,hp,hu,h,b1,b2=>by
  simp only [sumS,sumP] at b1 b2
  have hr:=sum_le r
  obtain ⟨h1,h2⟩:=do_same hp hu h.1 ⟨by omega,by omega⟩
  obtain ⟨g1,g2,g3⟩:=do_fine hu h1
  obtain ⟨v',w1,w2⟩:=way_same h2 g1 h.2 (by omega) (by omega)
  exact ⟨v',⟨h1,w1⟩,w2⟩
theorem way_cover {ns:List NodeD} {ls:List LoadD} {x:SpecD} {l:List MoveD} {t u v:StateD} {a b:Int} (hp:t.pods=u.pods) (ht:Fine19 x t) (hu:Fine19 x u) (h:Way ns ls x l t v) (hl:(l.length:Int)≤a) (hc:covD (purseD x u b) (purseD x t a)=true):(l.length:Int)≤b∧∃ v',Way ns ls x l u v'∧v'.pods=v.pods:=by
 obtain ⟨c1,c2,c3⟩:=covD_iff.1 hc
 obtain ⟨f,e1,e2⟩:=way_fine ht h
 have hs:=sum_le l
 have f1:=f.p1
 have f2:=f.s1
 simp only [purseD] at c1 c2 c3
 exact ⟨by omega,way_same hp hu h (by omega) (by omega)⟩
structure GN where
 t:StateD
 left:Int
def Shut (x:SpecD) (L:List GN) (c:StateD) (left:Int):Prop :=
 goalD x.wants c.pods=false∧(left<leastD x.wants c.pods∨∃ g ∈ L,g.t.pods=c.pods∧covD (purseD x g.t g.left) (purseD x c left)=true)
theorem Shut.mono {x:SpecD} {L M:List GN} {c:StateD} {left:Int} (h:Shut x L c left) (hs:∀ g ∈ L,g ∈ M):Shut x M c left:=by
 refine ⟨h.1,h.2.imp id ?_⟩
 rintro ⟨g,hg,r⟩
 exact ⟨g,hs g hg,r⟩
structure Seen (ns:List NodeD) (ls:List LoadD) (x:SpecD) (L:List GN) (W:List GN):Prop where
 fine:∀ g ∈ L,Fine19 x g.t
 not:∀ g ∈ L,goalD x.wants g.t.pods=false
 done:∀ g ∈ L,g ∈ W∨∀ m,(doD ns ls x g.t m).2=0→Shut x L (doD ns ls x g.t m).1 (g.left - 1)
theorem Seen.mono {ns:List NodeD} {ls:List LoadD} {x:SpecD} {L W W':List GN} (h:Seen ns ls x L W) (hs:∀ g ∈ W,g ∈ W'):Seen ns ls x L W':=⟨h.fine,h.not,fun g hg=>(h.done g hg).imp (hs g) id⟩
theorem Seen.more {ns:List NodeD} {ls:List LoadD} {x:SpecD} {L W:List GN} (h:Seen ns ls x L W) {g:GN} (hf:Fine19 x g.t) (hg:goalD x.wants g.t.pods=false):Seen ns ls x (g :: L) (g :: W) where
 fine a ha:=by
  rcases List.mem_cons.1 ha with rfl | ha
  ·exact hf
  ·exact h.fine a ha
 not a ha:=by
  rcases List.mem_cons.1 ha with rfl | ha
  ·exact hg
  ·exact h.not a ha
 done a ha:=by
  rcases List.mem_cons.1 ha with rfl | ha
  ·exact .inl (by simp)
  ·rcases h.done a ha with h1 | h1
   ·exact .inl (by simp [h1])
   ·exact .inr fun m hm=>(h1 m hm).mono fun g hg=>by simp [hg]
theorem Seen.gone {ns:List NodeD} {ls:List LoadD} {x:SpecD} {L W:List GN} {g:GN} (h:Seen ns ls x L (g :: W)) (hd:∀ m,(doD ns ls x g.t m).2=0→Shut x L (doD ns ls x g.t m).1 (g.left - 1)):Seen ns ls x L W where
 fine:=h.fine
 not:=h.not
 done a ha:=by
  rcases h.done a ha with h1 | h1
  ·rcases List.mem_cons.1 h1 with rfl | h1
   ·exact .inr hd
   ·exact .inl h1
  ·exact .inr h1
theorem Seen.none {ns:List NodeD} {ls:List LoadD} {x:SpecD} {L:List GN} (hr:RiseW x.wants) (h:Seen ns ls x L []):∀ (l:List MoveD) (g:GN) (v:StateD),g ∈ L→(l.length:Int)≤g.left→Way ns ls x l g.t v→goalD x.wants v.pods=false
 | [],g,v,hg,_,hw=>by cases hw;exact h.not g hg
 | m :: r,g,v,hg,hl,hw=>by
  have hd:=(h.done g hg).resolve_left (by simp) m hw.1
  have hf:=(do_fine (h.fine g hg) hw.1).1
  have hl':(r.length:Int)≤g.left - 1:=by rw [List.length_cons] at hl;omega
  cases hv:goalD x.wants v.pods with
  | false=>rfl
  | true =>
   rcases hd.2 with h1 | ⟨g',hg',e1,e2⟩
   ·have:=least_way hr hw.2 hv
    omega
   ·obtain ⟨k1,v',k2,k3⟩:=way_cover e1.symm hf (h.fine g' hg') hw.2 hl' e2
    have:=Seen.none hr h r g' v' hg' k1 k2
    rw [k3,hv] at this
    exact this
theorem Seen.start {ns:List NodeD} {ls:List LoadD} {x:SpecD}:Seen ns ls x [] []:=⟨by simp,by simp,by simp⟩
set_option maxHeartbeats 3200000 in
set_option maxRecDepth 100000 in
theorem lineWould_any {hb n0:Nat} {a0 a1 a2 a3 a4 a5:Value} {left:Int} {mp:Nat} {V:Nat→Value} {R:Nat→List Nat} {N:Nat} {cut:Bool} {M:Nat→Prop} {w:World} (h:Ln hb n0 a0 a1 a2 a3 a4 a5 left mp V R N cut M w) (b:Nat) (m u:Int) (h9:w.cell? ⟨b,9,none⟩=some (.int .i64 m)) (h12:w.cell? ⟨b,12,none⟩=some (.int .i64 u)) (hm0:0≤m∧m≤40) (hu:0≤u∧u≤12) (r:Nat) (hr:(r:Int)=40 - m+3 * u) :
  Calls Tryz.prog 87 #[.pointer (some ⟨hb,8,none⟩),ptr19 b] w fun e w'=>(∃ z,e=.returned (.bool z))∧Below w.heap.size w w':=by
 have hr7:r<77:=by omega
 have HF:=Lib.hid (rank_any19 b m u w h9 h12 hm0 hu)
 rw [← hr] at HF
 have H:=Lib.hid h
 clear h hr hm0 hu h9 h12
 have hw1:IntKind.i64.wrap ((r:Int)+1)=(r:Int)+1:=IntWalk.i64_in _ (by omega)
 go_enter Tryz.func87,Tryz.ntmps87
 go_wp2_with fail
 refine HF.out.mono ?_
 rintro e w1 ⟨rfl,hb1⟩
 have HB:=Lib.hid hb1
 have H1:=Lib.hid (H.out.below hb1)
 clear hb1 HF
 go_wp2
 go_loopw [5] (fun i wr=>∃ k:Nat,k≤77∧i=.int .i64 k∧wr=w1) (fun i _=>77 - (intOf i).toNat)
 case atStart=>exact ⟨r+1,by omega,by go_num,rfl⟩
 case round =>
  obtain ⟨k,hk,rfl,rfl⟩:=hrel
  by_cases hlt:k<77
  ·have hk0:(0:Int)≤(k:Int):=by omega
   have e0:=H1.out.blk.cell (8+k) _ (huntL_row hlt)
   obtain ⟨A,c,eV,hc1,hc2⟩:=(H1.out.row k hlt).slice
   rw [eV] at e0
   clear eV hc1 hc2
   by_cases hl:(R k).length=0
   ·rw [hl] at e0
    go_wp2
    go_roundw
    case rel=>exact ⟨k+1,by omega,by go_num,trivial⟩
    case measure=>simp [intOf];omega
   ·have hl0:(0:Int)<((R k).length:Int):=by omega
    generalize (R k).length=n at *
    go_wp2
    go_ret
    exact ⟨⟨false,rfl⟩,HB.out⟩
  ·go_wp2
   go_ret
   exact ⟨⟨true,rfl⟩,HB.out⟩

abbrev cellsPu (p:PurseD):List Value:=[.int .i64 p.m,.int .i64 p.s,.int .i64 p.p]
abbrev aggPu (p:PurseD):Value:=.agg #[.int .i64 p.m,.int .i64 p.s,.int .i64 p.p]
set_option maxHeartbeats 3200000 in
set_option maxRecDepth 100000 in
theorem covers_any19 (a b:PurseD) (w:World) :
  Calls Tryz.prog 89 #[aggPu a,aggPu b] w fun e w'=>e=.returned (.bool (covD a b))∧Below w.heap.size w w':=by
 have kw:Below w.heap.size w ((w.alloc (.cells #[.int .i64 a.m,.int .i64 a.s,.int .i64 a.p] 113)).alloc (.cells #[.int .i64 b.m,.int .i64 b.s,.int .i64 b.p] 113)):=((Below.refl _ _).alloc (Nat.le_refl _) _).alloc (by simp) _
 obtain ⟨a1,a2,a3⟩:=a
 obtain ⟨b1,b2,b3⟩:=b
 by_cases h1:b1≤a1
 ·have g1:a1 ≥ b1:=h1
  by_cases h2:b2≤a2
  ·by_cases h3:b3≤a3
   ·have HE:=Lib.hid (show covD ⟨a1,a2,a3⟩ ⟨b1,b2,b3⟩=true by simp [covD,h1,h2,h3])
    go_enter Tryz.func89,Tryz.ntmps89
    go_wp2
    go_ret
    exact ⟨ret_bool HE.out.symm,kw⟩
   ·have HE:=Lib.hid (show covD ⟨a1,a2,a3⟩ ⟨b1,b2,b3⟩=false by simp [covD,h1,h2,h3])
    go_enter Tryz.func89,Tryz.ntmps89
    go_wp2
    go_ret
    exact ⟨ret_bool HE.out.symm,kw⟩
  ·have HE:=Lib.hid (show covD ⟨a1,a2,a3⟩ ⟨b1,b2,b3⟩=false by simp [covD,h1,h2])
   go_enter Tryz.func89,Tryz.ntmps89
   go_wp2
   go_ret
   exact ⟨ret_bool HE.out.symm,kw⟩
 ·have HE:=Lib.hid (show covD ⟨a1,a2,a3⟩ ⟨b1,b2,b3⟩=false by simp [covD,h1])
  go_enter Tryz.func89,Tryz.ntmps89
  go_wp2
  go_ret
  exact ⟨ret_bool HE.out.symm,kw⟩
end Go.Proofs.YthapilknnhlmfaaGreatDoor
namespace Go.Proofs.YthapilknnhlmfaaGreatDoor
set_option linter.unusedSimpArgs false
open Go.RowKit Go.ChangeMaps Go.MapKept Go.WideShapes
open Go.WideElems (Fit rd rg pl rd_key rd_val rg_of)
open Go.Maps (Keyed)
set_option linter.unusedVariables false
def noRead (v:Value):Option (DataW Unit × List MemPlace):=some (.nil,[])
def Tells (P:Program) (k:TypeId) (z:Value) (b n:Nat) (f:Value→Value) (w:World):Prop :=
 ∃ es clock,w.heap[b]?=some (.map es clock)∧Fit P k noRead es clock∧es.size≤n∧(∀ x ∈ es.toList,f x.key=x.val)∧∀ key kl,keyOf P k key=some kl→(∀ x ∈ es.toList,x.key≠key)→f key=z
structure Only (S:List Nat) (w w':World):Prop where
 os:w'.os=w.os
 tape:w'.tape=w.tape
 output:w'.output=w.output
 size:w.heap.size≤w'.heap.size
 block:∀ i,i<w.heap.size→i ∉ S→w'.heap[i]?=w.heap[i]?
theorem Only.refl (S:List Nat) (w:World):Only S w w:=⟨rfl,rfl,rfl,Nat.le_refl _,fun _ _ _=>rfl⟩
theorem Only.trans {S:List Nat} {a b c:World} (h:Only S a b) (k:Only S b c):Only S a c :=
 ⟨k.os.trans h.os,k.tape.trans h.tape,k.output.trans h.output,Nat.le_trans h.size k.size,fun i hi hn=>(k.block i (Nat.lt_of_lt_of_le hi h.size) hn).trans (h.block i hi hn)⟩
theorem Only.mono {S T:List Nat} {w w':World} (h:Only S w w') (hs:∀ i ∈ S,i ∈ T):Only T w w':=⟨h.os,h.tape,h.output,h.size,fun i hi hn=>h.block i hi (fun e=>hn (hs i e))⟩
theorem Only.drew {S:List Nat} {a w:World} (h:Only S a w):Only S a w.drew:=⟨h.os,h.tape,h.output,h.size,h.block⟩
theorem Only.of_below {S:List Nat} {B:Nat} {w w':World} (h:Below B w w') (hB:∀ i,B≤i→i<w.heap.size→i ∈ S):Only S w w' :=
 ⟨h.os,h.tape,h.output,h.size,fun i hi hn=>h.block i (Nat.lt_of_not_le fun e=>hn (hB i e hi))⟩
theorem Only.below {S:List Nat} {B:Nat} {w w':World} (h:Only S w w') (hB:B≤w.heap.size) (hS:∀ i ∈ S,B≤i):Below B w w' :=
 ⟨h.os,h.tape,h.output,h.size,fun i hi=>h.block i (by omega) (fun e=>by have:=hS i e;omega)⟩
theorem Only.alloc {S:List Nat} {a w:World} (h:Only S a w) (o:Obj):Only S a (w.alloc o):=h.trans (.of_below ((Below.refl _ w).alloc (Nat.le_refl _) o) (fun i h1 h2=>by omega))
theorem Only.grown {S:List Nat} {b:Nat} {w w':World} (h:w.grownBy w' (some b)) (hb:b ∈ S):Only S w w' :=
 ⟨h.os,h.tape,h.output,h.size,fun i hi hn=>h.block i hi (fun e=>hn (by cases e;exact hb))⟩
theorem Only.setCell {S:List Nat} {a w:World} (h:Only S a w) {p:Addr} (hp:p.block ∈ S) (u:Value):Only S a (w.setCell p u) :=
 h.trans ⟨rfl,rfl,rfl,by simp,fun i hi hn=>Below.heap_setCell w p u i (fun e=>hn (e ▸ hp))⟩
theorem Only.cell {S:List Nat} {w w':World} (h:Only S w w') {p:Addr} (hp:p.block<w.heap.size) (hn:p.block ∉ S):w'.cell? p=w.cell? p:=World.cell?_of_block (w:=w) (h.block p.block hp hn)
theorem Only.frozen {S:List Nat} {w w':World} (h:Only S w w') {p:Addr} (hp:p.block<w.heap.size) (hn:p.block ∉ S):w'.frozen? p=w.frozen? p:=World.frozen?_of_block (w:=w) (h.block p.block hp hn)

section
variable {P:Program} {k e:TypeId} {z:Value} {b n:Nat} {f:Value→Value} {w:World}
theorem Tells.made (w:World) (P:Program) (k:TypeId) (z:Value):Tells P k z w.heap.size 0 (fun _=>z) (w.alloc (.map #[] 0)) :=
 ⟨#[],0,(MapKept.heap_alloc w _).1,⟨by simp,stamped_empty 0,by simp⟩,Nat.le_refl _,by simp,fun _ _ _ _=>rfl⟩
theorem Tells.mono (h:Tells P k z b n f w) {n':Nat} (hn:n≤n'):Tells P k z b n' f w:=by
 obtain ⟨es,clock,h1,h2,h3,h4⟩:=h
 exact ⟨es,clock,h1,h2,Nat.le_trans h3 hn,h4⟩
theorem Tells.lt (h:Tells P k z b n f w):b<w.heap.size:=by
 obtain ⟨es,clock,hb,_⟩:=h
 exact (Array.getElem?_eq_some_iff.1 hb).1
theorem Tells.kept {w':World} {S:List Nat} (h:Tells P k z b n f w) (hg:Only S w w') (hne:b ∉ S):Tells P k z b n f w':=by
 have hlt:=h.lt
 obtain ⟨es,clock,hb,r⟩:=h
 exact ⟨es,clock,(hg.block b hlt hne).trans hb,r⟩
theorem Tells.below {w':World} {B:Nat} (h:Tells P k z b n f w) (hg:Below B w w') (hne:b<B):Tells P k z b n f w':=by
 obtain ⟨es,clock,hb,r⟩:=h
 exact ⟨es,clock,(hg.block b hne).trans hb,r⟩
theorem Tells.turn {g:Value→Value} (h:Tells P k z b n f w) (he:f=g):Tells P k z b n g w:=he ▸ h
theorem Tells.lookup {t:TypeId} (h:Tells P k z b n f w) (K:Keyed P k) (ht:P.underlying t=some (.map k e)) (hz:(zeroValue e).run P w=.ok z w) {key:Value} {kl:Lit} (hkey:keyOf P k key=some kl) :
  (Instr.lookup t (.map (some b)) key false).run P w=.ok (f key) w:=by
 obtain ⟨es,clock,hb,F,_,h1,h2⟩:=h
 rcases Maps.fit_look false K ht hz hb F hkey with ⟨hrun,hno,_⟩ | ⟨e0,y,hm,hk,hrun,_⟩
 ·rw [h2 key kl hkey hno];exact hrun
 ·rw [← hk,h1 e0 hm];rw [hk];exact hrun
theorem Tells.store {t:TypeId} (h:Tells P k z b n f w) (K:Keyed P k) (ht:P.underlying t=some (.map k e)) (hn:n<maxLen) {key:Value} (val:Value) {kl:Lit} (hkey:keyOf P k key=some kl) {g:Value→Value} (hg:g key=val) (ho:∀ x,x≠key→g x=f x) :
  ∃ w',(Instr.mapUpdate t (.map (some b)) key val).run P w=.ok () w'∧Tells P k z b (n+1) g w'∧w.grownBy w' (some b):=by
 obtain ⟨es,clock,hb,F,hs,h1,h2⟩:=h
 obtain ⟨es',clock',hrun,F',hput,_,_,hwho⟩:=Maps.fit_store (R':=noRead) K ht hb F (Nat.lt_of_le_of_lt hs hn) (fun _ _ _ _ hz=>hz) hkey (yv:=(.nil,[])) (by rfl:noRead val=some (.nil,[]))
 have hmem:∀ p:Lit × DataW Unit,p ∈ es'.toList.map (rg P k noRead) ↔ p ∈ putKey kl .nil ((es.toList.map (rg P k noRead)).foldr DataW.insert []):=fun p=>by
  rw [← hput];exact mem_sorted.symm
 have hof:∀ (A:Array MapEntry) (c:Nat),Fit P k noRead A c→∀ x ∈ A.toList,∃ l,keyOf P k x.key=some l∧rg P k noRead x=(l,.nil):=fun A c FA x hx=>by
  obtain ⟨y,hy⟩:=FA.reads x hx
  obtain ⟨zz,hz,hd⟩:=rd_val hy
  refine ⟨y.1,rd_key hy,?_⟩
  rw [rg_of hy]
  have:zz=(.nil,[]):=(Option.some.inj hz).symm
  subst this
  exact Prod.ext rfl (by first | exact hd | exact hd.symm)
 refine ⟨_,hrun,⟨es',clock',heap_setBlock_same hb _,F',?_,?_,?_⟩,⟨rfl,rfl,rfl,by simp [setBlock],fun i _ hi=>heap_setBlock_other hb _ (fun e=>hi (by rw [e]))⟩⟩
 ·have e1:es'.size=((es'.toList.map (rg P k noRead)).foldr DataW.insert []).length:=by rw [length_sorted];simp
  rw [e1,hput]
  unfold putKey
  rw [length_insert]
  have e2:=List.length_filter_le (notKey kl) ((es.toList.map (rg P k noRead)).foldr DataW.insert [])
  rw [length_sorted] at e2
  simp at e2
  omega
 ·intro x hx
  rcases hwho x hx with ⟨hx1,hx2⟩ | ⟨hx1,hx2⟩
  ·rw [ho _ hx2];exact h1 x hx1
  ·rw [hx1,hx2];exact hg
 ·intro key2 kl2 hk2 hno
  have hne:key2≠key:=by
   intro e2
   subst e2
   rw [hkey] at hk2
   cases hk2
   have hin:(kl,DataW.nil) ∈ es'.toList.map (rg P k noRead):=(hmem _).2 (mem_insert_iff.2 (.inl rfl))
   obtain ⟨x,hx,hxe⟩:=List.mem_map.1 hin
   obtain ⟨l,hl,hl2⟩:=hof _ _ F' x hx
   rw [hl2] at hxe
   cases hxe
   exact hno x hx (K.inj hl hkey)
  rw [ho _ hne]
  refine h2 key2 kl2 hk2 fun x hx e2=>?_
  obtain ⟨l,hl,hl2⟩:=hof _ _ F x hx
  have hll:l=kl2:=by rw [e2,hk2] at hl;exact (Option.some.inj hl).symm
  subst hll
  have hin:(l,DataW.nil) ∈ es'.toList.map (rg P k noRead):=by
   refine (hmem _).2 (mem_insert_iff.2 (.inr (List.mem_filter.2 ⟨mem_sorted.2 (List.mem_map.2 ⟨x,hx,hl2⟩),?_⟩)))
   refine (Maps.notKey_iff (K.key hkey)).2 fun e3=>hne ?_
   have e4:l=kl:=e3
   rw [e4] at hk2
   exact K.inj hk2 hkey
  obtain ⟨x',hx',hxe⟩:=List.mem_map.1 hin
  obtain ⟨l',hl',hl2'⟩:=hof _ _ F' x' hx'
  rw [hl2'] at hxe
  cases hxe
  exact hno x' hx' (K.inj hl' hk2)
end

section
variable {P:Program} (w:World) {ops:Array Oper} {rest:List Oper} {o:Oper} {a:Act} {Q:Exit→Act→World→Prop}
end
section
variable {P:Program} {k e:TypeId} {z:Value} {b n:Nat} {f:Value→Value} {w:World}
end
theorem strLaw19:Go.WideMaps.KeyLaw Tryz.prog 9:=Go.WideMaps.string_law Tryz.underlying9
theorem strKeyed19:Keyed Tryz.prog 9:=Keyed.of_law strLaw19
theorem key_str19 {s:ByteArray} (h:s.size≤maxLen):∃ kl,keyOf Tryz.prog 9 (.string s)=some kl:=by
 refine ⟨.string s.data.toList,?_⟩
 simp [keyOf,Tryz.underlying9,mapKey,h]
theorem zeroPu19 (w:World):(zeroValue 155).run Tryz.prog w=.ok (.slice none 0 0) w:=by kernel_rfl
section
variable {P:Program} {k e:TypeId} {z:Value} {b n:Nat} {f:Value→Value} {w:World}
theorem Tells.delete {t ty:TypeId} (h:Tells P k z b n f w) (K:Go.WideMaps.KeyLaw P k) (ht:P.underlying t=some (.map k e)) {key:Value} {kl:Lit} (hkey:keyOf P k key=some kl) :
  ∃ w' g,(Builtin.delete_ #[t,k] ty #[.map (some b),key]).run P w=.ok (.tuple #[]) w'∧Tells P k z b n g w'∧(∀ x,g x=f x∨g x=z)∧w.grownBy w' (some b):=by
 obtain ⟨es,clock,hb,F,hs,h1,h2⟩:=h
 rcases K.find w hkey es.toList F.keys with ⟨f1,f2⟩ | ⟨j,e0,f1,f2,f3⟩
 ·refine ⟨setBlock w b (.map es clock),f,?_,⟨es,clock,heap_setBlock_same hb _,F,hs,h1,h2⟩,fun _=>.inl rfl,⟨rfl,rfl,rfl,by simp [setBlock],fun i _ hi=>heap_setBlock_other hb _ (fun e=>hi (by rw [e]))⟩⟩
  simp [Builtin.delete_,run_underlying ht,MapKept.run_getObj_map hb,K.check w _ hkey,f1,MapKept.run_setObj_map _ hb,Result.andThen,setBlock]
 ·have hjl:j<es.toList.length:=(List.getElem?_eq_some_iff.1 f2).1
  have hjs:j<es.size:=by simpa using hjl
  have hsub:(es.eraseIdxIfInBounds j).toList=es.toList.eraseIdx j:=by
   unfold Array.eraseIdxIfInBounds
   rw [dif_pos hjs]
   simp
  have hin:∀ x ∈ (es.eraseIdxIfInBounds j).toList,x ∈ es.toList:=fun x hx=>by rw [hsub] at hx;exact (List.eraseIdx_sublist _ _).subset hx
  classical
  refine ⟨setBlock w b (.map (es.eraseIdxIfInBounds j) clock),fun x=>if ∃ y ∈ (es.eraseIdxIfInBounds j).toList,y.key=x then f x else z,?_,⟨_,clock,heap_setBlock_same hb _,⟨Nat.le_trans (MapFrom.size_erase es j) F.size,stamped_erase F.stamped j,fun x hx=>F.reads x (hin x hx)⟩,Nat.le_trans (MapFrom.size_erase es j) hs,fun x hx=>?_,fun key2 kl2 hk2 hno=>?_⟩,fun x=>?_,⟨rfl,rfl,rfl,by simp [setBlock],fun i _ hi=>heap_setBlock_other hb _ (fun e=>hi (by rw [e]))⟩⟩
  ·simp [Builtin.delete_,run_underlying ht,MapKept.run_getObj_map hb,K.check w _ hkey,f1,MapKept.run_setObj_map _ hb,Result.andThen,setBlock]
  ·dsimp only
   rw [if_pos ⟨x,hx,rfl⟩]
   exact h1 x (hin x hx)
  ·dsimp only
   rw [if_neg]
   rintro ⟨y,hy,e⟩
   exact hno y hy e
  ·dsimp only
   split
   ·exact .inl rfl
   ·exact .inr rfl
end
abbrev PuRow (w:World) (n0:Nat) (v:Value) (ps:List PurseD):Prop:=w.ownsRow n0 113 3 v ps.length (ps.flatMap cellsPu)
theorem puCells_len (ps:List PurseD):(ps.flatMap cellsPu).length=ps.length * 3:=by
 induction ps with
 | nil=>rfl
 | cons p r ih=>rw [List.flatMap_cons,List.length_append,ih,List.length_cons];simp;omega
theorem PuRow.nil (w:World) (n0:Nat):PuRow w n0 (.slice none 0 0) []:=World.ownsRow_nil w n0 _ 3
theorem PuRow.keep {w w':World} {n0:Nat} {v:Value} {ps:List PurseD} (h:PuRow w n0 v ps) (hk:∀ k cs,v.ownBlock=some k→Bk w k cs 113→Bk w' k cs 113):PuRow w' n0 v ps:=by
 refine ⟨h.1,?_⟩
 rcases h.2 with hn | ⟨g,cap,cur,rfl,hb,hg,rest⟩
 ·exact .inl hn
 ·exact .inr ⟨g,cap,cur,rfl,hb,hk g cur.toList rfl hg,rest⟩
theorem PuRow.type {w:World} {n0:Nat} {v:Value} {ps:List PurseD} (h:PuRow w n0 v ps) {k:Nat} (hk:v.ownBlock=some k):∃ cs,Bk w k cs 113:=by
 rcases h.2 with ⟨rfl,_⟩ | ⟨g,cap,cur,rfl,hb,hg,rest⟩
 ·cases hk
 ·cases hk
  exact ⟨cur.toList,hg⟩
theorem PuRow.out {w:World} {n0:Nat} {v:Value} {ps:List PurseD} (h:PuRow w n0 v ps):∃ A c,v=.slice A ps.length c∧ps.length≤c∧c≤maxLen∧Recs 3 cellsPu w w.heap.size A ps:=by
 obtain ⟨A,c,e,h1,h2,_,h4⟩:=recs_of_own (cells:=cellsPu) (size:=3) (fun _=>rfl) rfl h
 exact ⟨A,c,e,h1,h2,h4⟩
structure Mp (mp n0 cnt:Nat) (f:Value→Value) (Ps:ByteArray→List PurseD) (M:Nat→Prop) (w:World):Prop where
 tells:Tells Tryz.prog 9 (.slice none 0 0) mp cnt f w
 hm:M mp
 row:∀ s,PuRow w n0 (f (.string s)) (Ps s)
 rm:∀ s k,(f (.string s)).ownBlock=some k→M k
 ap:∀ s u,s≠u→∀ k,(f (.string s)).ownBlock=some k→(f (.string u)).ownBlock≠some k
 lt:∀ k,M k→n0≤k∧k<w.heap.size
 few:∀ s,(Ps s).length≤cnt
section
variable {mp n0 cnt:Nat} {f:Value→Value} {Ps:ByteArray→List PurseD} {M M':Nat→Prop} {w w':World}
theorem Mp.keep (h:Mp mp n0 cnt f Ps M w) (hk:∀ b cs,Bk w b cs 113→Bk w' b cs 113) (hm:∀ es clock,w.heap[mp]?=some (.map es clock)→w'.heap[mp]?=some (.map es clock)) (hs:w.heap.size≤w'.heap.size):Mp mp n0 cnt f Ps M w':=by
 refine ⟨?_,h.hm,fun s=>(h.row s).keep fun k cs _ hb=>hk k cs hb,h.rm,h.ap,fun k hk'=>⟨(h.lt k hk').1,Nat.lt_of_lt_of_le (h.lt k hk').2 hs⟩,h.few⟩
 obtain ⟨es,clock,hb,r⟩:=h.tells
 exact ⟨es,clock,hm es clock hb,r⟩
theorem Mp.below (h:Mp mp n0 cnt f Ps M w) (hb:Below w.heap.size w w'):Mp mp n0 cnt f Ps M w':=h.keep (fun b cs hk=>hk.below hb hk.lt) (fun es clock he=>(hb.block mp (Array.getElem?_eq_some_iff.1 he).1).trans he) hb.size
theorem Mp.butT {T:TypeId→Prop} (h:Mp mp n0 cnt f Ps M w) (hb:ButT T M' w w') (hT:¬ T 113):Mp mp n0 cnt f Ps M w':=h.keep (fun b cs hk=>hb.bk hk hT) (fun es clock he=>hb.obj he) hb.but.size
theorem Mp.more (h:Mp mp n0 cnt f Ps M w) (hM:∀ k,M k→M' k) (hl:∀ k,M' k→n0≤k∧k<w.heap.size):Mp mp n0 cnt f Ps M' w :=
 ⟨h.tells,hM _ h.hm,h.row,fun s k hk=>hM k (h.rm s k hk),h.ap,hl,h.few⟩
theorem Mp.off (h:Mp mp n0 cnt f Ps M w) {s:ByteArray} {k:Nat} (hk:(f (.string s)).ownBlock=some k):k≠mp:=by
 rintro rfl
 obtain ⟨cs,hc⟩:=(h.row s).type hk
 obtain ⟨es,clock,hb,_⟩:=h.tells
 have:=hb.symm.trans hc
 cases this
end
def updS {α:Type} (g:ByteArray→α) (s:ByteArray) (x:α):ByteArray→α:=fun u=>if u=s then x else g u
theorem updS_same {α:Type} (g:ByteArray→α) (s:ByteArray) (x:α):updS g s x s=x:=by simp [updS]
theorem updS_other {α:Type} (g:ByteArray→α) {s u:ByteArray} (x:α) (h:u≠s):updS g s x u=g u:=by simp [updS,h]
theorem Mp.turn {mp n0 cnt:Nat} {f g:Value→Value} {Ps:ByteArray→List PurseD} {M M':Nat→Prop} {w w1 w2:World} (h:Mp mp n0 cnt f Ps M w) {s:ByteArray} {v:Value} {ps:List PurseD} (hv:PuRow w1 n0 v ps)
  (hk:∀ k,k<w.heap.size→(f (.string s)).ownBlock≠some k→w1.heap[k]?=w.heap[k]?) (hs:w.heap.size≤w1.heap.size) (ht:Tells Tryz.prog 9 (.slice none 0 0) mp (cnt+1) g w2) (hg2:w1.grownBy w2 (some mp))
  (hM:∀ k,M k→M' k) (hvm:∀ k,v.ownBlock=some k→M' k) (hl:∀ k,M' k→n0≤k∧k<w2.heap.size) (hw:v.ownBlock=(f (.string s)).ownBlock∨∀ k,v.ownBlock=some k→w.heap.size≤k)
  (hgs:g (.string s)=v) (hgo:∀ x,x≠.string s→g x=f x) (hfw:ps.length≤cnt+1):Mp mp n0 (cnt+1) g (updS Ps s ps) M' w2:=by
 have hmp:mp<w.heap.size:=h.tells.lt
 have hvp:v.ownBlock≠some mp:=fun e=>by
  obtain ⟨cs,hc⟩:=hv.type e
  obtain ⟨es,clock,hb,_⟩:=h.tells
  have h1:=hk mp hmp fun e2=>h.off e2 rfl
  rw [hb] at h1
  have:=h1.symm.trans hc
  cases this
 have go:∀ u,u≠s→g (.string u)=f (.string u):=fun u hu=>hgo _ fun e=>hu (by injection e)
 refine ⟨ht,hM _ h.hm,fun u=>?_,fun u k hk'=>?_,fun u q huq k hk'=>?_,hl,fun u=>by
  by_cases hu:u=s
  ·rw [hu,updS_same];exact hfw
  ·rw [updS_other _ _ hu];exact Nat.le_succ_of_le (h.few u)⟩
 ·by_cases hu:u=s
  ·subst hu
   rw [hgs,updS_same]
   exact hv.keep fun k cs hk' hb=>hb.grown hg2 fun e=>hvp (by rw [hk',e])
  ·rw [go u hu,updS_other _ _ hu]
   refine (h.row u).keep fun k cs hk' hb=>?_
   have h1:Bk w1 k cs _:=(hk k hb.lt fun e=>h.ap s u (fun e=>hu e.symm) k e hk').trans hb
   exact h1.grown hg2 fun e=>h.off hk' (by injection e with e;exact e.symm)
 ·by_cases hu:u=s
  ·subst hu
   rw [hgs] at hk'
   exact hvm k hk'
  ·rw [go u hu] at hk'
   exact hM k (h.rm u k hk')
 ·by_cases hu:u=s
  ·subst hu
   rw [hgs] at hk'
   rw [go q (fun e=>huq e.symm)]
   intro e
   rcases hw with hw | hw
   ·rw [hw] at hk'
    exact h.ap u q huq k hk' e
   ·have h1:=hw k hk'
    have h2:=(h.lt k (h.rm q k e)).2
    omega
  ·rw [go u hu] at hk'
   by_cases hq:q=s
   ·subst hq
    rw [hgs]
    intro e
    rcases hw with hw | hw
    ·rw [hw] at e
     exact h.ap u q huq k hk' e
    ·have h1:=hw k e
     have h2:=(h.lt k (h.rm u k hk')).2
     omega
   ·rw [go q hq]
    exact h.ap u q huq k hk'
end Go.Proofs.YthapilknnhlmfaaGreatDoor
namespace Go.Proofs.YthapilknnhlmfaaGreatDoor
set_option linter.unusedSimpArgs false
open Go.RowKit
set_option linter.unusedVariables false
abbrev nodeL (v p s key ahead:Value) (m:MoveD) (pu:PurseD) (unmet least:Nat):List Value :=
 [v,p,s,key,ahead,.int .i64 m.kind,.int .i64 m.pod,.int .i64 m.node,.int .i64 m.over,.int .i64 pu.m,.int .i64 pu.s,.int .i64 pu.p,.int .i64 unmet,.int .i64 least]
abbrev noMove:MoveD:=⟨0,0,0,0⟩
theorem stay_next {x:List WantD} {l:List PodD} {k:Nat} (h:k<x.length) {w:WantD} (hx:x[k]=w):stayD (x.take (k+1)) l=stayD (x.take k) l+(if w.stay=true∧metD l w=false then 1 else 0)∧leaveD (x.take (k+1)) l=leaveD (x.take k) l+(if w.stay=false∧metD l w=false then 1 else 0):=by
 unfold stayD leaveD
 rw [List.take_succ_eq_append_getElem h,hx,List.countP_append,List.countP_append]
 cases hm:metD l w <;> cases hs:w.stay <;> simp [List.countP_cons,hm,hs]
theorem stay_le (x:List WantD) (l:List PodD):stayD x l≤x.length∧leaveD x l≤x.length:=⟨List.countP_le_length,List.countP_le_length⟩
theorem goal_one {l:List PodD} {w:WantD}:goalD [w] l=metD l w:=by simp [goalD]
theorem recs_one19 {α:Type} {size:Nat} {cells:α→List Value} {w:World} {b o k:Nat} {xs:List α} (h:Recs size cells w w.heap.size (some ⟨b,o,none⟩) xs) (hk:k<xs.length):Recs size cells w w.heap.size (some ⟨b,o+k * size,none⟩) [xs[k]]:=by
 rcases h with h | ⟨b',o',e,h2,h3⟩
 ·rw [h] at hk;simp at hk
 ·injection e with e
  injection e with e1 e2 _
  subst e1 e2
  refine .inr ⟨b,o+k * size,rfl,h2,fun i hi j u hu=>?_⟩
  obtain rfl:i=0:=by simpa using hi
  have:=h3 k hk j u (by simpa using hu)
  simpa using this
def NodeRel (x:List WantD) (l:List PodD) (a b:List Value) (w:World) (s v i:Value) (wr:World):Prop :=
 ∃ k:Nat,k≤x.length∧i=.int .i64 k∧s=.int .i64 (stayD (x.take k) l)∧v=.int .i64 (leaveD (x.take k) l)∧T2 a b w wr
def NewTo19 (x:SpecD) (t:StateD) (A:Option Addr) (n c:Nat) (left:Int) (w:World) (e:Ending) (w':World):Prop :=
 ∃ b,e=.returned (ptr19 b)∧w.heap.size≤b∧Bk w' b (nodeL (.slice A n c) (.int .i64 t.preempts) (.int .i64 t.shifts) (.string ⟨#[]⟩) (.pointer none) noMove (purseD x t left) (unmetD x.wants t.pods) (leastD x.wants t.pods)) 115∧Below w.heap.size w w'

set_option maxHeartbeats 6400000 in
set_option maxRecDepth 100000 in
theorem newNode_any (x:SpecD) (t:StateD) (left:Int) (A A':Option Addr) (n c n' c':Nat) (w:World) (hn:n=x.wants.length) (hl:n≤400) (hc:n≤c∧c≤maxLen) (hr:Recs 6 cellsW w w.heap.size A x.wants) (hn':n'=t.pods.length) (hl':n'≤400) (hr':Recs 8 cellsP w w.heap.size A' t.pods)
  (hle:0≤left∧left≤40) (hx:0≤x.preempts∧x.preempts≤40∧0≤x.shifts∧x.shifts≤40) (ht:0≤t.preempts∧t.preempts≤100∧0≤t.shifts∧t.shifts≤100) :
  Calls Tryz.prog 48 #[.agg #[.slice A n c,.int .i64 x.preempts,.int .i64 x.shifts],.agg #[.slice A' n' c',.int .i64 t.preempts,.int .i64 t.shifts],.int .i64 left] w (NewTo19 x t A' n' c' left w):=by
 have T0:=T2.new w [.slice A n c,.int .i64 x.preempts,.int .i64 x.shifts] [.slice A' n' c',.int .i64 t.preempts,.int .i64 t.shifts] 29 44
 have HG:=Lib.hid (fun (V:World) (k:Below w.heap.size w V) (y:WantD) (B:Addr) (q:Nat) (hy:Recs 6 cellsW V V.heap.size (some B) [y])=>stateGoal_any [y] t.pods (some B) A' 1 q n' c' (.int .i64 0) (.int .i64 0) (.int .i64 t.preempts) (.int .i64 t.shifts) V rfl (by decide) hn' (by omega) hy ((hr'.below k (Nat.le_refl _)).more k.size))
 have HR:=Lib.hid hr
 have HN:=Lib.hid hn
 have HT0:=Lib.hid T0
 have HX:=Lib.hid hx
 have HT:=Lib.hid ht
 have HC:=Lib.hid hc
 have HLE:=Lib.hid hle
 clear hr hn hr' hn' T0 hx ht hc hle
 go_enter Tryz.func48,Tryz.ntmps48
 obtain ⟨a0,a1,a2,a3⟩:=HT0.out.one.cells3
 obtain ⟨b0,b1,b2,b3⟩:=HT0.out.two.cells3
 go_wp2
 go_loopw [7,8,14] (NodeRel x.wants t.pods [.slice A n c,.int .i64 x.preempts,.int .i64 x.shifts] [.slice A' n' c',.int .i64 t.preempts,.int .i64 t.shifts] w) (fun _ _ i _=>n - (intOf i).toNat)
 case atStart=>exact ⟨0,by omega,rfl,rfl,rfl,HT0.out⟩
 case round =>
  clear a0 a1 a2 a3 b0 b1 b2 b3
  obtain ⟨k,hk,rfl,rfl,rfl,hT⟩:=hrel
  have HT1:=Lib.hid hT
  obtain ⟨a0,a1,a2,a3⟩:=hT.one.cells3
  obtain ⟨b0,b1,b2,b3⟩:=hT.two.cells3
  have hs1:=(stay_le (x.wants.take k) t.pods).1
  have hs2:=(stay_le (x.wants.take k) t.pods).2
  rw [List.length_take] at hs1 hs2
  by_cases hlt:k<n
  ·have hkl:k<x.wants.length:=by have:=HN.out;omega
   obtain ⟨b,o,rfl,hb,he⟩:=HR.out.at hkl
   have HONE:=Lib.hid (fun (V:World) (k':Below w.heap.size w V)=>((recs_one19 HR.out hkl).below k' (Nat.le_refl _)).more k'.size)
   have HNX:=Lib.hid (stay_next (l:=t.pods) hkl rfl)
   generalize hy:x.wants[k]=y at *
   clear hy
   generalize stayD (x.wants.take k) t.pods=s0 at *
   generalize leaveD (x.wants.take k) t.pods=l0 at *
   have kwr:=hT.below
   have e0:wr.cell? ⟨b,o+k * 6,none⟩=some (.int .i64 y.pod):=(kwr.cell (p:=⟨b,o+k * 6,none⟩) hb).trans (he 0 _ rfl)
   have e1:wr.cell? ⟨b,o+k * 6+1,none⟩=some (.int .u64 y.req.a):=(kwr.cell (p:=⟨b,o+k * 6+1,none⟩) hb).trans (he 1 _ rfl)
   have e2:wr.cell? ⟨b,o+k * 6+2,none⟩=some (.int .u64 y.req.b):=(kwr.cell (p:=⟨b,o+k * 6+2,none⟩) hb).trans (he 2 _ rfl)
   have e3:wr.cell? ⟨b,o+k * 6+3,none⟩=some (.int .u64 y.req.c):=(kwr.cell (p:=⟨b,o+k * 6+3,none⟩) hb).trans (he 3 _ rfl)
   have e4:wr.cell? ⟨b,o+k * 6+4,none⟩=some (.int .u64 y.req.d):=(kwr.cell (p:=⟨b,o+k * 6+4,none⟩) hb).trans (he 4 _ rfl)
   have e5:wr.cell? ⟨b,o+k * 6+5,none⟩=some (.bool y.stay):=(kwr.cell (p:=⟨b,o+k * 6+5,none⟩) hb).trans (he 5 _ rfl)
   have hbw:b<wr.heap.size:=Nat.lt_of_lt_of_le hb kwr.size
   have hwl:w.heap.size<wr.heap.size:=a3
   have hwl1:w.heap.size+1<wr.heap.size:=b3
   have hcap:k<c:=by have:=HC.out.1;omega
   have hcap2:¬ c=k:=by omega
   have hki:(k:Int)+1≤(c:Int):=by omega
   have hkn:(k:Int)+1≤(n:Int):=by omega
   have hkc:(k:Int)≤(c:Int):=by omega
   have hk0:(0:Int)≤(k:Int):=by omega
   have hk1:(0:Int)≤(k:Int)+1:=by omega
   have hwp:IntKind.i64.wrap ((k:Int)+1)=(k:Int)+1:=IntWalk.i64_in _ (by omega)
   have htn:((k:Int)+1).toNat=k+1:=by omega
   have ka:Below wr.heap.size wr (wr.alloc (.cells #[.int .i64 y.pod,.int .u64 y.req.a,.int .u64 y.req.b,.int .u64 y.req.c,.int .u64 y.req.d,.bool y.stay] 65)):=(Below.refl _ wr).alloc (Nat.le_refl _) _
   have BW:Bf (wr.alloc (.cells #[.int .i64 y.pod,.int .u64 y.req.a,.int .u64 y.req.b,.int .u64 y.req.c,.int .u64 y.req.d,.bool y.stay] 65)) wr.heap.size (cellsW y):=Bf.new wr (cellsW y) 65 rfl
   have TW:=hT.keep ka
   have HBW:=Lib.hid BW
   have HTW:=Lib.hid TW
   clear he hT
   go_upto_region 5 with fail
   clear e0 e1 e2 e3 e4 e5 a0 a1 a2 a3 b0 b1 b2 b3 kwr ka BW
   generalize hW:wr.alloc (.cells #[.int .i64 y.pod,.int .u64 y.req.a,.int .u64 y.req.b,.int .u64 y.req.c,.int .u64 y.req.d,.bool y.stay] 65)=W at *
   clear hW
   obtain ⟨a0,a1,a2,a3⟩:=TW.one.cells3
   obtain ⟨b0,b1,b2,b3⟩:=TW.two.cells3
   clear TW
   go_region_held3 (fun w'=>(∀ b o,b<W.heap.size→w'.cell? ⟨b,o,none⟩=W.cell? ⟨b,o,none⟩)∧Below W.heap.size W w')
    (first | (with_reducible assumption) | (show Keeps W _;with_reducible (repeat (first | exact Keeps.refl _ | refine Keeps.drew ?_ | refine Keeps.set ?_ (by simp) _ | refine Keeps.alloc ?_ _ | refine Keeps.step ?_ (by assumption)))))
    (first
     | (go_at_call 17;refine (HG.out _ (HTW.out.below.trans ((show Keeps W _ by assumption).2.mono HTW.out.below.size)) y _ _ (HONE.out _ (HTW.out.below.trans ((show Keeps W _ by assumption).2.mono HTW.out.below.size)))).mono ?_;rintro e w' ⟨rfl,hb⟩;obtain ⟨hcx,hfx⟩:=old_cells hb))
   all_goals
    rename_i hK
    have hbw':=HBW.out.below hK.2 HBW.out.lt
    have d5:=hbw'.cell 5 _ rfl
    have hlt':=hbw'.lt
    have HT2:=Lib.hid (HTW.out.keep hK.2)
    have hwr:wr.heap.size<w'.heap.size:=hlt'
    clear hK hcx hfx hb a0 a1 a2 a3 b0 b1 b2 b3 hbw'
    rw [goal_one]
    have hw2:IntKind.i64.wrap ((s0:Int)+1)=(s0:Int)+1:=IntWalk.i64_in _ (by omega)
    have hw3:IntKind.i64.wrap ((l0:Int)+1)=(l0:Int)+1:=IntWalk.i64_in _ (by omega)
    cases hm:metD t.pods y with
    | true =>
     have HE:=Lib.hid hm
     clear hm
     go_wp2
     go_roundw
     case rel=>exact ⟨k+1,by omega,by go_num,by rw [HNX.out.1,if_neg (by simp [HE.out]),Nat.add_zero],by rw [HNX.out.2,if_neg (by simp [HE.out]),Nat.add_zero],HT2.out⟩
     case measure=>simp [intOf];omega
    | false =>
     have HE:=Lib.hid hm
     clear hm
     cases hst:y.stay with
     | true =>
      rw [hst] at d5
      have HS:=Lib.hid hst
      clear hst
      go_wp2
      go_roundw
      case rel=>exact ⟨k+1,by omega,by go_num,by rw [HNX.out.1,if_pos ⟨HS.out,HE.out⟩];rfl,by rw [HNX.out.2,if_neg (by simp [HS.out]),Nat.add_zero],HT2.out⟩
      case measure=>simp [intOf];omega
     | false =>
      rw [hst] at d5
      have HS:=Lib.hid hst
      clear hst
      go_wp2
      go_roundw
      case rel=>exact ⟨k+1,by omega,by go_num,by rw [HNX.out.1,if_neg (by simp [HS.out]),Nat.add_zero],by rw [HNX.out.2,if_pos ⟨HS.out,HE.out⟩];rfl,HT2.out⟩
      case measure=>simp [intOf];omega
  ·have hkx:k=x.wants.length:=by have:=HN.out;omega
   have HU:=Lib.hid (stay_leave t.pods x.wants)
   have HLL:=Lib.hid (show leastD x.wants t.pods=max (stayD x.wants t.pods) (leaveD x.wants t.pods) from rfl)
   subst hkx
   rw [List.take_length] at hs1 hs2 ⊢
   generalize stayD x.wants t.pods=s0 at *
   generalize leaveD x.wants t.pods=l0 at *
   obtain ⟨x1,x2,x3,x4⟩:=HX.out
   obtain ⟨t1,t2,t3,t4⟩:=HT.out
   have hw2:IntKind.i64.wrap ((s0:Int)+(l0:Int))=(s0:Int)+(l0:Int):=IntWalk.i64_in _ (by have:=HN.out;omega)
   have hw3:IntKind.i64.wrap (x.shifts - t.shifts)=x.shifts - t.shifts:=IntWalk.i64_in _ (by omega)
   have hw4:IntKind.i64.wrap (x.preempts - t.preempts)=x.preempts - t.preempts:=IntWalk.i64_in _ (by omega)
   clear x1 x2 x3 x4 t1 t2 t3 t4 hs1 hs2 hT
   go_wp2
   have hu:(s0:Int)+(l0:Int)=((unmetD x.wants t.pods:Nat):Int):=by have:=HU.out;omega
   have hm:max (s0:Int) (l0:Int)=((leastD x.wants t.pods:Nat):Int):=by have:=HLL.out;omega
   rw [hu,hm]
   have hbn:=Bk.new wr (nodeL (.slice A' n' c') (.int .i64 t.preempts) (.int .i64 t.shifts) (.string ⟨#[]⟩) (.pointer none) noMove (purseD x t left) (unmetD x.wants t.pods) (leastD x.wants t.pods)) 115
   have hbw:=HT1.out.below.alloc HT1.out.below.size (.cells #[.slice A' n' c',.int .i64 t.preempts,.int .i64 t.shifts,.string ⟨#[]⟩,.pointer none,.int .i64 0,.int .i64 0,.int .i64 0,.int .i64 0,.int .i64 left,.int .i64 (min left (x.shifts - t.shifts)),.int .i64 (min left (x.preempts - t.preempts)),.int .i64 (unmetD x.wants t.pods:Nat),.int .i64 (leastD x.wants t.pods:Nat)] 115)
   have HBN:=Lib.hid (And.intro hbn hbw)
   have hsz:=HT1.out.below.size
   clear hbn hbw hu hm
   go_ret
   exact ⟨_,rfl,hsz,HBN.out.1,HBN.out.2⟩
end Go.Proofs.YthapilknnhlmfaaGreatDoor
