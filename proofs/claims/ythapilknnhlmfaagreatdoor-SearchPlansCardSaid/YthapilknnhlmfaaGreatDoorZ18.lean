/- Joined texts, part 18: TX DC DD DG. -/
import Derived.Test.YthapilknnhlmfaaGreatDoorZ17
import Derived.Test.YthapilknnhlmfaaGreatDoorZ04
import Derived.Test.YthapilknnhlmfaaGreatDoorZ02
import Derived.Test.YthapilknnhlmfaaGreatDoorZ05
import Derived.Test.YthapilknnhlmfaaGreatDoorZ01

namespace Go.Proofs.YthapilknnhlmfaaGreatDoor
set_option linter.unusedSimpArgs false
open Go.RowKit
set_option linter.unusedVariables false
def rowsN {α:Type} (R:Nat→List Nat) (g:Nat→α) (n:Nat):List α:=(List.range n).flatMap fun r=>(R r).map g
theorem rowsN_succ {α:Type} (R:Nat→List Nat) (g:Nat→α) (n:Nat):rowsN R g (n+1)=rowsN R g n++(R n).map g:=by
 unfold rowsN
 rw [List.range_succ,List.flatMap_append];simp
theorem rowsN_mem {α:Type} {R:Nat→List Nat} {g:Nat→α} {n:Nat} {a:α}:a ∈ rowsN R g n ↔ ∃ r,r<n∧∃ b ∈ R r,g b=a:=by
 unfold rowsN
 simp only [List.mem_flatMap,List.mem_range,List.mem_map]
theorem rowsN_congr {α:Type} {R:Nat→List Nat} {g h:Nat→α} {n:Nat} (e:∀ r,r<n→∀ b ∈ R r,g b=h b):rowsN R g n=rowsN R h n:=by
 induction n with
 | zero=>rfl
 | succ n ih =>
  rw [rowsN_succ,rowsN_succ,ih fun r hr=>e r (by omega)]
  congr 1
  exact List.map_congr_left fun b hb=>e n (by omega) b hb
theorem rowsN_len {α:Type} {R:Nat→List Nat} {g:Nat→α}:∀ n:Nat,(rowsN R g n).length=sumR R n
 | 0=>rfl
 | n+1=>by rw [rowsN_succ,List.length_append,rowsN_len n,sumR_succ,List.length_map]
theorem rowsN_out {α:Type} {R:Nat→List Nat} {g:Nat→α} {r:Nat} {l:List Nat}:∀ {n:Nat},n≤r→rowsN (upd19 R r l) g n=rowsN R g n
 | 0,_=>rfl
 | n+1,h=>by rw [rowsN_succ,rowsN_succ,rowsN_out (n:=n) (by omega),upd19_other _ _ (by omega)]
theorem rowsN_perm {α:Type} {R:Nat→List Nat} {g:Nat→α} {r:Nat} {l:List Nat}:∀ {n:Nat},r<n→(rowsN (upd19 R r l) g n++(R r).map g).Perm (rowsN R g n++l.map g)
 | 0,h=>by omega
 | n+1,h=>by
  rw [rowsN_succ,rowsN_succ]
  by_cases e:r=n
  ·subst e
   rw [upd19_same,rowsN_out (Nat.le_refl _),List.append_assoc,List.append_assoc]
   exact List.Perm.append_left _ List.perm_append_comm
  ·rw [upd19_other _ _ (fun h2=>e h2.symm)]
   have ih:=rowsN_perm (R:=R) (g:=g) (r:=r) (l:=l) (n:=n) (by omega)
   have h1:((rowsN (upd19 R r l) g n++(R n).map g)++(R r).map g).Perm ((rowsN (upd19 R r l) g n++(R r).map g)++(R n).map g):=by
    rw [List.append_assoc,List.append_assoc]
    exact List.Perm.append_left _ List.perm_append_comm
   refine h1.trans ((ih.append_right _).trans ?_)
   rw [List.append_assoc,List.append_assoc]
   exact List.Perm.append_left _ List.perm_append_comm
theorem rows_put {α:Type} {R:Nat→List Nat} {g:Nat→α} {r b:Nat} (h:r<77):(rowsN (upd19 R r (R r++[b])) g 77).Perm (g b :: rowsN R g 77):=by
 have h1:=rowsN_perm (R:=R) (g:=g) (l:=R r++[b]) h
 rw [List.map_append,List.map_singleton] at h1
 have h2:(rowsN R g 77++((R r).map g++[g b])).Perm ((g b :: rowsN R g 77)++(R r).map g):=by
  rw [← List.append_assoc,List.cons_append]
  exact List.perm_append_singleton _ _
 exact (List.perm_append_right_iff _).1 (h1.trans h2)
theorem rows_take {α:Type} {R:Nat→List Nat} {g:Nat→α} {r b:Nat} {l:List Nat} (h:r<77) (hr:R r=b :: l):(rowsN R g 77).Perm (g b :: rowsN (upd19 R r l) g 77):=by
 have h1:=rowsN_perm (R:=R) (g:=g) (l:=l) h
 rw [hr,List.map_cons] at h1
 have h2:(rowsN (upd19 R r l) g 77++g b :: l.map g).Perm ((g b :: rowsN (upd19 R r l) g 77)++l.map g):=by
  rw [List.cons_append]
  exact List.perm_middle
 exact ((List.perm_append_right_iff _).1 (h2.symm.trans h1)).symm

theorem rows_pop {α:Type} {R:Nat→List Nat} {g:Nat→α} {r b:Nat} {l:List Nat} (h:r<77) (hr:R r=l++[b]):(rowsN R g 77).Perm (g b :: rowsN (upd19 R r l) g 77):=by
 have h1:=rowsN_perm (R:=R) (g:=g) (l:=l) h
 rw [hr,List.map_append,List.map_singleton,← List.append_assoc] at h1
 have h2:((rowsN (upd19 R r l) g 77++l.map g)++[g b]).Perm ((g b :: rowsN (upd19 R r l) g 77)++l.map g):=by
  rw [List.cons_append]
  exact List.perm_append_singleton _ _
 exact ((List.perm_append_right_iff _).1 (h2.symm.trans h1)).symm
structure Nd where
 t:StateD
 lf:Int
 path:List MoveD
def Nd.gn (n:Nd):GN:=⟨n.t,n.lf⟩
section
variable (ns:List NodeD) (ls:List LoadD) (x:SpecD) (t0:StateD) (depth:Nat)
structure NOk (n:Nd):Prop where
 way:Way ns ls x n.path t0 n.t
 len:(n.path.length:Int)+n.lf=depth
 lf0:0≤n.lf
 fine:Fine19 x n.t
 pods:∀ p ∈ n.t.pods,p.Ok
 np:n.t.pods.length=t0.pods.length
 not:goalD x.wants n.t.pods=false
def Path19 (q:List MoveD):Prop:=q.length<depth∧∃ u,Way ns ls x q t0 u
structure Gh (steps:Int) (geo:Nat) (E:List Nd) (done:List MoveD) (S:List (StateD × Int)) (left:Int) (R:Nat→List Nat) (N:Nat) (cut:Bool) (Ps:ByteArray→List PurseD) (G:Nat→Nd):Prop where
 cnt:sumR R 77=N
 many:(N:Int)≤left
 cutN:cut=true→(N:Int)=left
 ok:∀ r,r<77→∀ b ∈ R r,NOk ns ls x t0 depth (G b)∧((leastD x.wants (G b).t.pods:Nat):Int)≤(G b).lf
 eok:∀ n ∈ E,NOk ns ls x t0 depth n
 seen:cut=false→∃ L:List GN,Seen ns ls x L ((E++rowsN R G 77).map Nd.gn)∧(∀ s p,p ∈ Ps s→∃ g ∈ L,keyS (podsOnly g.t)=s∧purseD x g.t g.left=p)∧(∀ q ∈ S,Shut x L q.1 q.2)∧(∀ g ∈ L,(∀ p ∈ g.t.pods,p.Ok)∧g.t.pods.length=t0.pods.length)
 tree:cut=false→∃ X:List (List MoveD),(X++(E++rowsN R G 77).map Nd.path).Nodup∧((X.length+E.length:Nat):Int)=steps - left∧(∀ q ∈ X++(E++rowsN R G 77).map Nd.path,Path19 ns ls x t0 depth q) ∧
  (∀ q ∈ X++(E++rowsN R G 77).map Nd.path,q=[]∨∃ p m,q=p++[m]∧(p ∈ X∨∃ n ∈ E,n.path=p∧m ∈ done))
 less:cut=true→steps<geo
 ids:(rowsN R (fun b=>b) 77).Nodup
end
theorem key_pods {a b:StateD} (h:keyS (podsOnly a)=keyS (podsOnly b)) (ha:∀ p ∈ a.pods,p.Ok) (hb:∀ p ∈ b.pods,p.Ok) (la:a.pods.length≤1000) (lb:b.pods.length≤1000):a.pods=b.pods:=by
 have h1:=key_one (t:=podsOnly a) (u:=podsOnly b) ⟨ha,i64_zero19,i64_zero19⟩ ⟨hb,i64_zero19,i64_zero19⟩ la lb
 rw [h] at h1
 have h2:=stateEq_iff.1 (h1.symm.trans (by simp))
 have h3:(podsOnly a).pods=(podsOnly b).pods:=congrArg StateD.pods h2
 exact h3
theorem covD_self (a:PurseD):covD a a=true:=covD_iff.2 ⟨Int.le_refl _,Int.le_refl _,Int.le_refl _⟩
section
variable {ns:List NodeD} {ls:List LoadD} {x:SpecD} {t0:StateD} {depth:Nat} {steps:Int} {geo:Nat} {E:List Nd} {done done':List MoveD} {S S':List (StateD × Int)} {left:Int} {R R':Nat→List Nat} {N N':Nat} {cut cut':Bool} {Ps Ps':ByteArray→List PurseD} {G:Nat→Nd}
theorem seen_perm {L W W':List GN} (h:Seen ns ls x L W) (hp:W.Perm W'):Seen ns ls x L W':=h.mono fun g hg=>hp.subset hg
theorem Gh.meet {t:StateD} {lf:Int} {b:Nat} {path:List MoveD} (h:Gh ns ls x t0 depth steps geo E done S left R N cut Ps G) (hR:MeetR x t lf b left R N cut Ps R' N' cut' Ps') (hb:∀ r,r<77→b ∉ R r)
  (hn:NOk ns ls x t0 depth ⟨t,lf,path⟩) (hgeo:∀ Q:List (List MoveD),Q.Nodup→(∀ q ∈ Q,Path19 ns ls x t0 depth q)→Q.length≤geo)
  (hnew:∀ X:List (List MoveD),(∀ q ∈ X++(E++rowsN R G 77).map Nd.path,q=[]∨∃ p m,q=p++[m]∧(p ∈ X∨∃ n ∈ E,n.path=p∧m ∈ done))→(X++(E++rowsN R G 77).map Nd.path).Nodup→((X.length+E.length:Nat):Int)=steps - left →
   path ∉ X++(E++rowsN R G 77).map Nd.path∧(path=[]∨∃ p m,path=p++[m]∧(p ∈ X∨∃ n ∈ E,n.path=p∧m ∈ done')))
  (hnp:t0.pods.length≤1000) (hd:∀ q ∈ done,q ∈ done') (hd':∀ q ∈ S',q ∈ S∨q=(t,lf)) :
  Gh ns ls x t0 depth steps geo E done' S' left R' N' cut' Ps' (upd19 G b ⟨t,lf,path⟩):=by
 have hGold:∀ r,r<77→∀ b' ∈ R r,upd19 G b ⟨t,lf,path⟩ b'=G b':=fun r hr b' hb'=>upd19_other _ _ fun e=>hb r hr (e ▸ hb')
 have hrows:rowsN R (upd19 G b ⟨t,lf,path⟩) 77=rowsN R G 77:=rowsN_congr hGold
 have hplen:(leastD x.wants t.pods:Int)≤lf→Path19 ns ls x t0 depth path:=fun hl=>by
  have h1:=hn.len
  have h2:leastD x.wants t.pods≠0:=fun e=>by
   have:=least_goal.1 e
   rw [hn.not] at this;cases this
  dsimp only at h1
  exact ⟨by omega,t,hn.way⟩
 have hmono:∀ X:List (List MoveD),(∀ q ∈ X++(E++rowsN R G 77).map Nd.path,q=[]∨∃ p m,q=p++[m]∧(p ∈ X∨∃ n ∈ E,n.path=p∧m ∈ done)) →
   ∀ q ∈ X++(E++rowsN R G 77).map Nd.path,q=[]∨∃ p m,q=p++[m]∧(p ∈ X∨∃ n ∈ E,n.path=p∧m ∈ done'):=fun X h4 q hq=>by
  rcases h4 q hq with e | ⟨p,m,e,hp⟩
  ·exact .inl e
  ·exact .inr ⟨p,m,e,hp.imp id fun ⟨n,hn,e2,hu⟩=>⟨n,hn,e2,hd _ hu⟩⟩
 have hputs:∀ (r:Nat),r<77→((E++rowsN (upd19 R r (R r++[b])) (upd19 G b ⟨t,lf,path⟩) 77)).Perm (⟨t,lf,path⟩ :: (E++rowsN R G 77)):=fun r hr=>by
  have h1:=rows_put (g:=upd19 G b ⟨t,lf,path⟩) (R:=R) (b:=b) hr
  rw [upd19_same,hrows] at h1
  exact (List.Perm.append_left E h1).trans List.perm_middle
 have hids:∀ (r:Nat),r<77→(rowsN (upd19 R r (R r++[b])) (fun b=>b) 77).Nodup:=fun r hr =>
  (rows_put (g:=fun b=>b) (R:=R) (b:=b) hr).nodup_iff.2 (List.nodup_cons.2 ⟨fun hm=>by
   obtain ⟨q,hq,b',hb',e⟩:=rowsN_mem.1 hm
   exact hb q hq (by rw [← show b'=b from e];exact hb'),h.ids⟩)
 cases hR with
 | skip why =>
  refine ⟨h.cnt,h.many,h.cutN,fun r hr b' hb'=>by rw [hGold r hr b' hb'];exact h.ok r hr b' hb',h.eok,fun hc=>?_,fun hc=>?_,h.less,h.ids⟩
  ·obtain ⟨L,s1,s2,s3,s4⟩:=h.seen hc
   rw [hrows]
   refine ⟨L,s1,s2,fun q hq=>?_,s4⟩
   rcases hd' q hq with hq | e1
   ·exact s3 q hq
   ·rw [e1]
    refine ⟨hn.not,?_⟩
    rcases why with e | e | ⟨p,hp,e⟩
    ·rw [e] at hc;cases hc
    ·exact .inl e
    ·obtain ⟨g,hg,k1,k2⟩:=s2 _ p hp
     refine .inr ⟨g,hg,key_pods k1 (s4 g hg).1 hn.pods (by rw [(s4 g hg).2];exact hnp) (by have:=hn.np;dsimp only at this ⊢;omega),?_⟩
     rw [k2];exact e
  ·obtain ⟨X,t1,t2,t3,t4⟩:=h.tree hc
   rw [hrows]
   exact ⟨X,t1,t2,t3,hmono X t4⟩
 | put r hr hle hN =>
  have hperm:=hputs r hr
  refine ⟨?_,by omega,fun hc=>by have:=h.cutN hc;omega,fun q hq b' hb'=>?_,h.eok,fun hc=>?_,fun hc=>?_,h.less,hids r hr⟩
  ·have h1:=sumR_upd (R:=R) (l:=R r++[b]) hr
   have h2:=h.cnt
   rw [List.length_append,List.length_singleton] at h1
   omega
  ·by_cases e:b'=b
   ·rw [e,upd19_same]
    exact ⟨hn,hle⟩
   ·rw [upd19_other _ _ e]
    refine h.ok q hq b' ?_
    by_cases e2:q=r
    ·rw [e2,upd19_same] at hb'
     rcases List.mem_append.1 hb' with h1 | h1
     ·rw [e2];exact h1
     ·rw [List.mem_singleton] at h1;exact absurd h1 e
    ·rw [upd19_other _ _ e2] at hb';exact hb'
  ·obtain ⟨L,s1,s2,s3,s4⟩:=h.seen hc
   have hmore:∀ g ∈ L,g ∈ (⟨t,lf⟩:GN) :: L:=fun g hg=>List.mem_cons_of_mem _ hg
   refine ⟨⟨t,lf⟩ :: L,seen_perm (s1.more (g:=⟨t,lf⟩) hn.fine hn.not) (hperm.map Nd.gn).symm,fun s p hp=>?_,fun q hq=>?_,fun g hg=>?_⟩
   ·by_cases e:s=keyS (podsOnly t)
    ·rw [e,updS_same] at hp
     rcases List.mem_append.1 hp with hp | hp
     ·obtain ⟨g,hg,k1,k2⟩:=s2 _ p hp
      exact ⟨g,hmore g hg,by rw [e];exact k1,k2⟩
     ·rw [List.mem_singleton] at hp
      exact ⟨⟨t,lf⟩,by simp,e.symm,hp.symm⟩
    ·rw [updS_other _ _ e] at hp
     obtain ⟨g,hg,k1,k2⟩:=s2 s p hp
     exact ⟨g,hmore g hg,k1,k2⟩
   ·rcases hd' q hq with hq | e1
    ·exact (s3 q hq).mono hmore
    ·rw [e1]
     exact ⟨hn.not,.inr ⟨⟨t,lf⟩,by simp,rfl,covD_self _⟩⟩
   ·rcases List.mem_cons.1 hg with rfl | hg
    ·exact ⟨hn.pods,hn.np⟩
    ·exact s4 g hg
  ·obtain ⟨X,t1,t2,t3,t4⟩:=h.tree hc
   obtain ⟨n1,n2⟩:=hnew X t4 t1 t2
   have hp2:(X++(E++rowsN (upd19 R r (R r++[b])) (upd19 G b ⟨t,lf,path⟩) 77).map Nd.path).Perm (path :: (X++(E++rowsN R G 77).map Nd.path)):=by
    have h1:=(hperm.map Nd.path).append_left X
    rw [List.map_cons] at h1
    exact h1.trans List.perm_middle
   refine ⟨X,hp2.nodup_iff.2 (List.nodup_cons.2 ⟨n1,t1⟩),t2,fun q hq=>?_,fun q hq=>?_⟩
   ·rcases List.mem_cons.1 (hp2.subset hq) with rfl | hq
    ·exact hplen hle
    ·exact t3 q hq
   ·rcases List.mem_cons.1 (hp2.subset hq) with rfl | hq
    ·exact n2
    ·exact hmono X t4 q hq
 | over r q b' l Ps' hr hq hle hN hRq =>
  have hNl:(N:Int)=left:=by have:=h.many;omega
  have hin:∀ q',q'<77→∀ b2 ∈ upd19 (upd19 R r (R r++[b])) q l q',b2=b∨b2 ∈ R q':=fun q' hq' b2 hb2=>by
   have h1:b2 ∈ upd19 R r (R r++[b]) q':=by
    by_cases e:q'=q
    ·rw [e,upd19_same] at hb2
     rw [e,hRq];simp [hb2]
    ·rw [upd19_other _ _ e] at hb2;exact hb2
   by_cases e2:q'=r
   ·rw [e2,upd19_same] at h1
    rcases List.mem_append.1 h1 with h1 | h1
    ·rw [e2];exact .inr h1
    ·rw [List.mem_singleton] at h1;exact .inl h1
   ·rw [upd19_other _ _ e2] at h1;exact .inr h1
  refine ⟨?_,by omega,fun _=>hNl,fun q' hq' b2 hb2=>?_,h.eok,fun hc=>(by cases hc),fun hc=>(by cases hc),fun _=>?_,(List.nodup_cons.1 ((rows_pop (g:=fun b=>b) hq hRq).nodup_iff.1 (hids r hr))).2⟩
  ·have h1:=sumR_upd (R:=R) (l:=R r++[b]) hr
   have h2:=sumR_upd (R:=upd19 R r (R r++[b])) (l:=l) hq
   have h3:=h.cnt
   rw [hRq,List.length_append,List.length_singleton] at h2
   rw [List.length_append,List.length_singleton] at h1
   omega
  ·by_cases e:b2=b
   ·rw [e,upd19_same]
    exact ⟨hn,hle⟩
   ·rw [upd19_other _ _ e]
    exact h.ok q' hq' b2 ((hin q' hq' b2 hb2).resolve_left e)
  ·by_cases hc:cut=true
   ·exact h.less hc
   ·obtain ⟨X,t1,t2,t3,t4⟩:=h.tree (by simpa using hc)
    obtain ⟨n1,n2⟩:=hnew X t4 t1 t2
    have h1:=hgeo (path :: (X++(E++rowsN R G 77).map Nd.path)) (List.nodup_cons.2 ⟨n1,t1⟩) fun q hq=>by
     rcases List.mem_cons.1 hq with rfl | hq
     ·exact hplen hle
     ·exact t3 q hq
    have h2:=h.cnt
    rw [List.length_cons,List.length_append,List.length_map,List.length_append,rowsN_len,h2] at h1
    omega
theorem Gh.first {r b:Nat} {l:List Nat} (h:Gh ns ls x t0 depth steps geo [] done S left R N cut Ps G) (hr:r<77) (hR:R r=b :: l):Gh ns ls x t0 depth steps geo [G b] [] S (left - 1) (upd19 R r l) (N - 1) cut Ps G∧1≤N∧∀ q,q<77→b ∉ upd19 R r l q:=by
 have h1:=sumR_upd (R:=R) (l:=l) hr
 have h2:=h.cnt
 rw [hR,List.length_cons] at h1
 have hN:1≤N:=by have:=sumR_row (R:=R) hr;rw [hR,List.length_cons] at this;omega
 have hp:=rows_take (g:=G) hr hR
 have hsub:∀ q,q<77→∀ b' ∈ upd19 R r l q,b' ∈ R q:=fun q hq b' hb'=>by
  by_cases e:q=r
  ·rw [e,upd19_same] at hb'
   rw [e,hR];simp [hb']
  ·rw [upd19_other _ _ e] at hb';exact hb'
 have hm:=h.many
 have hnd:=(rows_take (g:=fun b=>b) hr hR).nodup_iff.1 h.ids
 refine ⟨⟨by omega,by omega,fun hc=>by have:=h.cutN hc;omega,fun q hq b' hb'=>h.ok q hq b' (hsub q hq b' hb'),fun n hn=>by
  rw [List.mem_singleton] at hn
  rw [hn]
  exact (h.ok r hr b (by rw [hR];simp)).1,fun hc=>?_,fun hc=>?_,h.less,(List.nodup_cons.1 hnd).2⟩,hN,fun q hq hm=>(List.nodup_cons.1 hnd).1 (rowsN_mem.2 ⟨q,hq,b,hm,rfl⟩)⟩
 ·obtain ⟨L,s1,s2,s3,s4⟩:=h.seen hc
  exact ⟨L,seen_perm s1 (hp.map Nd.gn),s2,s3,s4⟩
 ·obtain ⟨X,t1,t2,t3,t4⟩:=h.tree hc
  have hq:(X++(([]:List Nd)++rowsN R G 77).map Nd.path).Perm (X++([G b]++rowsN (upd19 R r l) G 77).map Nd.path):=(hp.map Nd.path).append_left X
  refine ⟨X,hq.nodup_iff.1 t1,by simp at t2 ⊢;omega,fun q hq'=>t3 q (hq.symm.subset hq'),fun q hq'=>?_⟩
  rcases t4 q (hq.symm.subset hq') with e | ⟨p,m,e,hp'⟩
  ·exact .inl e
  ·exact .inr ⟨p,m,e,.inl (hp'.resolve_right (by simp))⟩
theorem Gh.finish {n:Nd} (h:Gh ns ls x t0 depth steps geo [n] done S left R N cut Ps G) (hS:∀ m,(doD ns ls x n.t m).2=0→((doD ns ls x n.t m).1,n.lf - 1) ∈ S):Gh ns ls x t0 depth steps geo [] [] S left R N cut Ps G:=by
 refine ⟨h.cnt,h.many,h.cutN,h.ok,fun n hn=>by simp at hn,fun hc=>?_,fun hc=>?_,h.less,h.ids⟩
 ·obtain ⟨L,s1,s2,s3,s4⟩:=h.seen hc
  refine ⟨L,?_,s2,s3,s4⟩
  have s1':Seen ns ls x L (n.gn :: (rowsN R G 77).map Nd.gn):=s1
  exact s1'.gone fun m hm=>s3 _ (hS m hm)
 ·obtain ⟨X,t1,t2,t3,t4⟩:=h.tree hc
  have hq:(X++([n]++rowsN R G 77).map Nd.path).Perm ((n.path :: X)++(([]:List Nd)++rowsN R G 77).map Nd.path):=by
   show (X++(n.path :: (rowsN R G 77).map Nd.path)).Perm (n.path :: (X++(rowsN R G 77).map Nd.path))
   exact List.perm_middle
  refine ⟨n.path :: X,hq.nodup_iff.1 t1,by simp at t2 ⊢;omega,fun q hq'=>t3 q (hq.symm.subset hq'),fun q hq'=>?_⟩
  rcases t4 q (hq.symm.subset hq') with e | ⟨p,m,e,hp'⟩
  ·exact .inl e
  ·refine .inr ⟨p,m,e,.inl ?_⟩
   rcases hp' with hp' | ⟨n',hn',e2,_⟩
   ·exact List.mem_cons_of_mem _ hp'
   ·rw [List.mem_singleton] at hn'
    rw [← e2,hn'];simp
theorem Gh.start (ns:List NodeD) (ls:List LoadD) (x:SpecD) (t0:StateD) (depth:Nat) {steps:Int} (hs:0≤steps) (geo:Nat) (G:Nat→Nd):Gh ns ls x t0 depth steps geo [] [] [] steps (fun _=>[]) 0 false (fun _=>[]) G where
 cnt:=sumR_none fun _ _=>rfl
 many:=by omega
 cutN h:=by cases h
 ok r hr b hb:=by simp at hb
 eok n hn:=by simp at hn
 seen _:=by
  have e:rowsN (fun _=>[]) G 77=([]:List Nd):=List.eq_nil_of_length_eq_zero (by rw [rowsN_len];exact sumR_none fun _ _=>rfl)
  rw [e]
  exact ⟨[],Seen.start,by simp,by simp,by simp⟩
 tree _:=by
  have e:rowsN (fun _=>[]) G 77=([]:List Nd):=List.eq_nil_of_length_eq_zero (by rw [rowsN_len];exact sumR_none fun _ _=>rfl)
  rw [e]
  exact ⟨[],by simp,by simp,by simp,by simp⟩
 less h:=by cases h
 ids:=by
  have e:rowsN (fun _=>[]) (fun b=>b) 77=([]:List Nat):=List.eq_nil_of_length_eq_zero (by rw [rowsN_len];exact sumR_none fun _ _=>rfl)
  rw [e];simp
theorem Gh.last (h:Gh ns ls x t0 depth steps geo [] done S left R 0 cut Ps G) (hr:RiseW x.wants) (hf:Fine19 x t0) (hS:(t0,(depth:Int)) ∈ S):(cut=false∧¬ Plan19 ns ls x t0 depth)∨(cut=true∧left=0∧steps<geo):=by
 by_cases hc:cut=true
 ·exact .inr ⟨hc,by have:=h.cutN hc;omega,h.less hc⟩
 ·have hc':cut=false:=by simpa using hc
  refine .inl ⟨hc',?_⟩
  rintro ⟨l,u,hl,hw,hg⟩
  obtain ⟨L,s1,s2,s3,s4⟩:=h.seen hc'
  have e:rowsN R G 77=([]:List Nd):=List.eq_nil_of_length_eq_zero (by rw [rowsN_len];exact h.cnt)
  rw [e] at s1
  have hsh:=s3 _ hS
  dsimp only at hsh
  rcases hsh.2 with h1 | ⟨g,hgL,e1,e2⟩
  ·have:=least_way hr hw hg
   omega
  ·obtain ⟨k1,v',k2,k3⟩:=way_cover e1.symm hf (s1.fine g hgL) hw (by omega) e2
   have:=Seen.none hr s1 l g v' hgL k1 k2
   rw [k3,hg] at this
   cases this
end
theorem nodup_few {α:Type} [DecidableEq α]:∀ {Q P:List α},Q.Nodup→(∀ q ∈ Q,q ∈ P)→Q.length≤P.length
 | [],_,_,_=>Nat.zero_le _
 | q :: Q,P,hQ,hs=>by
  obtain ⟨h1,h2⟩:=List.nodup_cons.1 hQ
  have hq:=hs q (by simp)
  have h3:=nodup_few (Q:=Q) (P:=P.erase q) h2 fun r hr=>(List.mem_erase_of_ne (fun e:r=q=>h1 (by rw [← e];exact hr))).2 (hs r (by simp [hr]))
  rw [List.length_erase_of_mem hq] at h3
  have:=List.length_pos_of_mem hq
  rw [List.length_cons]
  omega
theorem all_nodup {ns:List NodeD} {ls:List LoadD} {x:SpecD} {t:StateD} {T:List MoveD} (hT:T.Pairwise ltM):((allD ns ls x t T).map (·.1)).Nodup:=by
 have e:(allD ns ls x t T).map (·.1)=T.filter (canB ns ls x t):=by
  clear hT
  unfold allD
  induction T with
  | nil=>rfl
  | cons m T ih =>
   rw [List.flatMap_cons,List.map_append,ih,List.filter_cons]
   unfold tellD canB
   by_cases h:(doD ns ls x t m).2=0
   ·simp [h]
   ·simp [h]
 rw [e]
 refine List.Pairwise.filter _ (hT.imp fun {a b} h hab=>?_)
 rw [hab] at h
 exact ltM_irr b h
theorem firstWant_pods {s:SnapD}:∀ {l:List WantD} {first:Bool} {last:Int} {k:Nat},firstWant s first last k l=none→∀ w ∈ l,w.pod ∈ s.pods.map PodD.id
 | [],_,_,_,_,w,hw=>by simp at hw
 | v :: r,first,last,k,h,w,hw=>by
  unfold firstWant at h
  split at h
  ·cases h
  ·rename_i h0
   rcases List.mem_cons.1 hw with rfl | hw
   ·have h3:wantBad s first last w=0:=by simpa using h0
    unfold wantBad at h3
    split at h3
    ·cases h3
    ·split at h3
     ·cases h3
     ·split at h3
      ·cases h3
      ·rename_i q3
       obtain ⟨i,hi,hp⟩:=place_hit q3
       exact List.mem_map.2 ⟨s.pods[i],List.getElem_mem hi,place_is hi hp⟩
   ·exact firstWant_pods h w hw
theorem fair_wants {s:SnapD} {x:SpecD} (h:(fair s x).1=0):x.wants.length≤12:=by
 have hr:=fair_rises h
 have hc:(check s).1=0:=by
  by_cases hc:(check s).1=0
  ·exact hc
  ·rw [fair_bad hc] at h;exact absurd h hc
 have hx:¬ (x.preempts<0∨40<x.preempts∨x.shifts<0∨40<x.shifts):=fun hx=>by
  rw [fair_large hc hx] at h;cases h
 have hw:firstWant s true 0 0 x.wants=none:=by
  cases hf:firstWant s true 0 0 x.wants with
  | none=>rfl
  | some p =>
   obtain ⟨b,k⟩:=p
   exfalso
   have hb:b≠0:=by
    have key:∀ (l:List WantD) (first:Bool) (last:Int) (j:Nat),firstWant s first last j l=some (b,k)→b≠0:=by
     intro l
     induction l with
     | nil=>intro _ _ _ e;cases e
     | cons y r ih =>
      intro first last j e
      unfold firstWant at e
      split at e
      ·rename_i h0
       injection e with e
       injection e with e1 _
       rw [← e1];exact h0
      ·exact ih _ _ _ e
    exact key _ _ _ _ hf
   rw [fair_some hc hx hf] at h
   exact hb h
 have h1:(x.wants.map WantD.pod).Nodup:=List.pairwise_map.2 (hr.2.2.1.imp fun {a b} hab e=>by omega)
 have h2:=nodup_few h1 fun i hi=>by
  obtain ⟨w,hw',rfl⟩:=List.mem_map.1 hi
  exact firstWant_pods hw w hw'
 rw [List.length_map,List.length_map] at h2
 have:=hr.2.2.2.2.2.1
 omega
theorem paths_few {ns:List NodeD} {ls:List LoadD} {x:SpecD} {t0:StateD} (hn:RiseN ns) (hp:RisesP t0.pods):∀ (k:Nat),∃ P:List (List MoveD),P.length≤geoB (movesB t0.pods.length ns.length) k∧∀ q:List MoveD,q.length<k→(∃ u,Way ns ls x q t0 u)→q ∈ P:=by
 have key:∀ k:Nat,∃ P:List (List MoveD),P.length≤movesB t0.pods.length ns.length ^ k∧∀ q:List MoveD,q.length=k→(∃ u,Way ns ls x q t0 u)→q ∈ P:=by
  intro k
  induction k with
  | zero=>exact ⟨[[]],by simp,fun q hq _=>by rw [List.length_eq_zero_iff.1 hq];simp⟩
  | succ k ih =>
   obtain ⟨P,h1,h2⟩:=ih
   classical
   have hT:∀ u:StateD,u.pods.map PodD.id=t0.pods.map PodD.id→∃ T,TriesOf ns u.pods T:=fun u hu=>tries_ex hn (risesP_ids hu hp)
   let f:List MoveD→List (List MoveD):=fun p=>if h:∃ u,Way ns ls x p t0 u then (allD ns ls x h.choose (hT h.choose (way_ids h.choose_spec)).choose).map fun q=>p++[q.1] else []
   have hf:∀ p,(f p).length≤movesB t0.pods.length ns.length:=fun p=>by
    dsimp only [f]
    split
    ·rename_i h
     rw [List.length_map]
     have h3:=all_few (ls:=ls) (x:=x) (hT h.choose (way_ids h.choose_spec)).choose_spec
     rw [way_len h.choose_spec] at h3
     exact h3
    ·exact Nat.zero_le _
   refine ⟨P.flatMap f,?_,fun q hq hw=>?_⟩
   ·have:∀ Z:List (List MoveD),(Z.flatMap f).length≤Z.length * movesB t0.pods.length ns.length:=by
     intro Z
     induction Z with
     | nil=>simp
     | cons z Z ih =>
      rw [List.flatMap_cons,List.length_append,List.length_cons,Nat.add_mul,Nat.one_mul]
      have:=hf z
      omega
    exact Nat.le_trans (this P) (by rw [Nat.pow_succ];exact Nat.mul_le_mul_right _ h1)
   ·have hne:q≠[]:=fun e=>by subst e;simp at hq
    obtain ⟨p,m,rfl⟩:∃ p m,q=p++[m]:=⟨q.dropLast,q.getLast hne,(List.dropLast_concat_getLast hne).symm⟩
    obtain ⟨u,hu⟩:=hw
    obtain ⟨v,w1,w2,w3⟩:=way_split hu
    rw [List.length_append,List.length_singleton] at hq
    refine List.mem_flatMap.2 ⟨p,h2 p (by omega) ⟨v,w1⟩,?_⟩
    have hex:∃ u,Way ns ls x p t0 u:=⟨v,w1⟩
    dsimp only [f]
    rw [dif_pos hex]
    have huniq:hex.choose=v:=by
     have e1:=(way_walk (k:=0)).1 hex.choose_spec
     have e2:=(way_walk (k:=0)).1 w1
     rw [e1] at e2
     injection e2
    refine List.mem_map.2 ⟨(m,(doD ns ls x hex.choose m).1),(all_mem (hT hex.choose (way_ids hex.choose_spec)).choose_spec).2 ⟨by rw [huniq];exact w2,rfl⟩,rfl⟩
 intro k
 induction k with
 | zero=>exact ⟨[],by simp,fun q hq=>by omega⟩
 | succ k ih =>
  obtain ⟨P,h1,h2⟩:=ih
  obtain ⟨P',h3,h4⟩:=key k
  refine ⟨P++P',by rw [List.length_append];show _≤geoB _ k+_ ^ k;omega,fun q hq hw=>?_⟩
  by_cases e:q.length=k
  ·exact List.mem_append.2 (.inr (h4 q e hw))
  ·exact List.mem_append.2 (.inl (h2 q (by omega) hw))
theorem paths_geo {ns:List NodeD} {ls:List LoadD} {x:SpecD} {t0:StateD} {depth:Nat} (hn:RiseN ns) (hp:RisesP t0.pods) {Q:List (List MoveD)} (hQ:Q.Nodup) (h:∀ q ∈ Q,Path19 ns ls x t0 depth q):Q.length≤geoB (movesB t0.pods.length ns.length) depth:=by
 classical
 obtain ⟨P,h1,h2⟩:=paths_few (ls:=ls) (x:=x) hn hp depth
 exact Nat.le_trans (nodup_few hQ fun q hq=>h2 q (h q hq).1 (h q hq).2) h1
def ordAt {α:Type} (f:α→Int) (l:List α):Nat→Int
 | 0=>0
 | j+1=>match l[j]?,l[j+1]? with
  | some y,some x=>ordI (f y) (f x)
  | _,_=>0
theorem ordAt_next {α:Type} {f:α→Int} {l:List α} {j:Nat} (h:j+1<l.length):ordAt f l (j+1)=ordI (f l[j]) (f l[j+1]):=by
 simp [ordAt,List.getElem?_eq_getElem h,List.getElem?_eq_getElem (show j<l.length by omega)]

theorem orderN_any (l:List NodeD) (k:Nat) (A:Option Addr) (n c:Nat) (w:World) (hn:n=l.length) (hl:n≤1000) (hk:k<l.length) (hr:Recs 10 cellsN w w.heap.size A l) :
  Calls Tryz.prog 146 #[.slice A n c,.int .i64 (k:Int),.func (.func 75) #[] #[]] w fun e w'=>e=.returned (.int .i64 (ordAt NodeD.id l k))∧Below w.heap.size w w':=by
 cases k with
 | zero=>exact (orderN_first A n c _ w).mono fun e w' ⟨h1,h2⟩=>⟨h1,h2 ▸ Below.refl _ _⟩
 | succ j =>
  rw [ordAt_next hk]
  exact orderN_next l j A n c w hn hl hk hr

theorem orderL_any (l:List LoadD) (k:Nat) (A:Option Addr) (n c:Nat) (w:World) (hn:n=l.length) (hl:n≤1000) (hk:k<l.length) (hr:Recs 5 cellsL w w.heap.size A l) :
  Calls Tryz.prog 147 #[.slice A n c,.int .i64 (k:Int),.func (.func 78) #[] #[]] w fun e w'=>e=.returned (.int .i64 (ordAt LoadD.id l k))∧Below w.heap.size w w':=by
 cases k with
 | zero=>exact (orderL_first A n c _ w).mono fun e w' ⟨h1,h2⟩=>⟨h1,h2 ▸ Below.refl _ _⟩
 | succ j =>
  rw [ordAt_next hk]
  exact orderL_next l j A n c w hn hl hk hr

theorem orderP_any (l:List PodD) (k:Nat) (A:Option Addr) (n c:Nat) (w:World) (hn:n=l.length) (hl:n≤1000) (hk:k<l.length) (hr:Recs 8 cellsP w w.heap.size A l) :
  Calls Tryz.prog 148 #[.slice A n c,.int .i64 (k:Int),.func (.func 81) #[] #[]] w fun e w'=>e=.returned (.int .i64 (ordAt PodD.id l k))∧Below w.heap.size w w':=by
 cases k with
 | zero=>exact (orderP_first A n c _ w).mono fun e w' ⟨h1,h2⟩=>⟨h1,h2 ▸ Below.refl _ _⟩
 | succ j =>
  rw [ordAt_next hk]
  exact orderP_next l j A n c w hn hl hk hr

theorem orderW_any (l:List WantD) (k:Nat) (A:Option Addr) (n c:Nat) (w:World) (hn:n=l.length) (hl:n≤1000) (hk:k<l.length) (hr:Recs 6 cellsW w w.heap.size A l) :
  Calls Tryz.prog 42 #[.slice A n c,.int .i64 (k:Int),.func (.func 43) #[] #[]] w fun e w'=>e=.returned (.int .i64 (ordAt WantD.pod l k))∧Below w.heap.size w w':=by
 cases k with
 | zero=>exact (orderW_first A n c _ w).mono fun e w' ⟨h1,h2⟩=>⟨h1,h2 ▸ Below.refl _ _⟩
 | succ j =>
  rw [ordAt_next hk]
  exact orderW_next l j A n c w hn hl hk hr

set_option maxHeartbeats 1600000 in
theorem idFaultN_any (l:List NodeD) (k:Nat) (A:Option Addr) (n c:Nat) (w:World) (hn:n=l.length) (hl:n≤1000) (hk:k<l.length) (hr:Recs 10 cellsN w w.heap.size A l) :
  Calls Tryz.prog 114 #[.slice A n c,.int .i64 (k:Int),.func (.func 75) #[] #[]] w fun e w'=>e=.returned (.int .i64 (idI (ordAt NodeD.id l k) l[k].id))∧Below w.heap.size w w':=by
 have HO:=Lib.hid (orderN_any l k A n c w hn hl hk hr)
 obtain ⟨b,o,rfl,hb,he⟩:=hr.at hk
 have hkn:(k:Int)<(n:Int):=by omega
 have hk0:(0:Int)≤(k:Int):=by omega
 generalize l[k]=x at *
 generalize ordAt NodeD.id l k=q at *
 have HEE:=Lib.hid he
 clear he hn hr hk
 go_enter Tryz.func114,Tryz.ntmps114
 go_wp2_with fail
 refine HO.out.mono ?_
 rintro e w1 ⟨rfl,hb1⟩
 by_cases hq:q=0
 ·obtain rfl:=hq
  have e0:w1.cell? ⟨b,o+k * 10,none⟩=some (.int .i64 x.id):=(hb1.cell (p:=⟨b,o+k * 10,none⟩) hb).trans (HEE.out 0 _ rfl)
  have e1:w1.cell? ⟨b,o+k * 10+1,none⟩=some (.int .i64 x.zone):=(hb1.cell (p:=⟨b,o+k * 10+1,none⟩) hb).trans (HEE.out 1 _ rfl)
  have e2:w1.cell? ⟨b,o+k * 10+2,none⟩=some (.int .u64 x.cap.a):=(hb1.cell (p:=⟨b,o+k * 10+2,none⟩) hb).trans (HEE.out 2 _ rfl)
  have e3:w1.cell? ⟨b,o+k * 10+3,none⟩=some (.int .u64 x.cap.b):=(hb1.cell (p:=⟨b,o+k * 10+3,none⟩) hb).trans (HEE.out 3 _ rfl)
  have e4:w1.cell? ⟨b,o+k * 10+4,none⟩=some (.int .u64 x.cap.c):=(hb1.cell (p:=⟨b,o+k * 10+4,none⟩) hb).trans (HEE.out 4 _ rfl)
  have e5:w1.cell? ⟨b,o+k * 10+5,none⟩=some (.int .u64 x.cap.d):=(hb1.cell (p:=⟨b,o+k * 10+5,none⟩) hb).trans (HEE.out 5 _ rfl)
  have e6:w1.cell? ⟨b,o+k * 10+6,none⟩=some (.int .u64 x.held.a):=(hb1.cell (p:=⟨b,o+k * 10+6,none⟩) hb).trans (HEE.out 6 _ rfl)
  have e7:w1.cell? ⟨b,o+k * 10+7,none⟩=some (.int .u64 x.held.b):=(hb1.cell (p:=⟨b,o+k * 10+7,none⟩) hb).trans (HEE.out 7 _ rfl)
  have e8:w1.cell? ⟨b,o+k * 10+8,none⟩=some (.int .u64 x.held.c):=(hb1.cell (p:=⟨b,o+k * 10+8,none⟩) hb).trans (HEE.out 8 _ rfl)
  have e9:w1.cell? ⟨b,o+k * 10+9,none⟩=some (.int .u64 x.held.d):=(hb1.cell (p:=⟨b,o+k * 10+9,none⟩) hb).trans (HEE.out 9 _ rfl)
  go_wp2_with fail
  refine (idN_any x _).mono ?_
  rintro e w2 ⟨rfl,hb2⟩
  have kk:Below w.heap.size w w2:=hb1.trans (hb2.mono hb1.size)
  go_wp2_with fail
  refine (within_any _ _ _ _).mono ?_
  rintro e w2 ⟨rfl,rfl⟩
  by_cases hi:inB x.id 1 2147483647=true
  ·have HE:=Lib.hid (show idI 0 x.id=0 by simp [idI,hi])
   go_wp2
   go_ret
   exact ⟨ret_int HE.out.symm,kk⟩
  ·have hi':inB x.id 1 2147483647=false:=by simpa using hi
   have HE:=Lib.hid (show idI 0 x.id=1 by simp [idI,hi'])
   clear hi
   go_wp2
   go_ret
   exact ⟨ret_int HE.out.symm,kk⟩
 ·have hm:(q != 0)=true:=by simpa using hq
  have HE:=Lib.hid (show idI q x.id=q by simp [idI,hq])
  clear hq
  go_wp2
  go_ret
  exact ⟨ret_int HE.out.symm,hb1⟩

set_option maxHeartbeats 1600000 in
theorem idFaultL_any (l:List LoadD) (k:Nat) (A:Option Addr) (n c:Nat) (w:World) (hn:n=l.length) (hl:n≤1000) (hk:k<l.length) (hr:Recs 5 cellsL w w.heap.size A l) :
  Calls Tryz.prog 116 #[.slice A n c,.int .i64 (k:Int),.func (.func 78) #[] #[]] w fun e w'=>e=.returned (.int .i64 (idI (ordAt LoadD.id l k) l[k].id))∧Below w.heap.size w w':=by
 have HO:=Lib.hid (orderL_any l k A n c w hn hl hk hr)
 obtain ⟨b,o,rfl,hb,he⟩:=hr.at hk
 have hkn:(k:Int)<(n:Int):=by omega
 have hk0:(0:Int)≤(k:Int):=by omega
 generalize l[k]=x at *
 generalize ordAt LoadD.id l k=q at *
 have HEE:=Lib.hid he
 clear he hn hr hk
 go_enter Tryz.func116,Tryz.ntmps116
 go_wp2_with fail
 refine HO.out.mono ?_
 rintro e w1 ⟨rfl,hb1⟩
 by_cases hq:q=0
 ·obtain rfl:=hq
  have e0:w1.cell? ⟨b,o+k * 5,none⟩=some (.int .i64 x.id):=(hb1.cell (p:=⟨b,o+k * 5,none⟩) hb).trans (HEE.out 0 _ rfl)
  have e1:w1.cell? ⟨b,o+k * 5+1,none⟩=some (.bool x.apart):=(hb1.cell (p:=⟨b,o+k * 5+1,none⟩) hb).trans (HEE.out 1 _ rfl)
  have e2:w1.cell? ⟨b,o+k * 5+2,none⟩=some (.int .i64 x.skew):=(hb1.cell (p:=⟨b,o+k * 5+2,none⟩) hb).trans (HEE.out 2 _ rfl)
  have e3:w1.cell? ⟨b,o+k * 5+3,none⟩=some (.int .i64 x.min):=(hb1.cell (p:=⟨b,o+k * 5+3,none⟩) hb).trans (HEE.out 3 _ rfl)
  have e4:w1.cell? ⟨b,o+k * 5+4,none⟩=some (.int .i64 x.max):=(hb1.cell (p:=⟨b,o+k * 5+4,none⟩) hb).trans (HEE.out 4 _ rfl)
  go_wp2_with fail
  refine (idL_any x _).mono ?_
  rintro e w2 ⟨rfl,hb2⟩
  have kk:Below w.heap.size w w2:=hb1.trans (hb2.mono hb1.size)
  go_wp2_with fail
  refine (within_any _ _ _ _).mono ?_
  rintro e w2 ⟨rfl,rfl⟩
  by_cases hi:inB x.id 1 2147483647=true
  ·have HE:=Lib.hid (show idI 0 x.id=0 by simp [idI,hi])
   go_wp2
   go_ret
   exact ⟨ret_int HE.out.symm,kk⟩
  ·have hi':inB x.id 1 2147483647=false:=by simpa using hi
   have HE:=Lib.hid (show idI 0 x.id=1 by simp [idI,hi'])
   clear hi
   go_wp2
   go_ret
   exact ⟨ret_int HE.out.symm,kk⟩
 ·have hm:(q != 0)=true:=by simpa using hq
  have HE:=Lib.hid (show idI q x.id=q by simp [idI,hq])
  clear hq
  go_wp2
  go_ret
  exact ⟨ret_int HE.out.symm,hb1⟩

set_option maxHeartbeats 1600000 in
theorem idFaultP_any (l:List PodD) (k:Nat) (A:Option Addr) (n c:Nat) (w:World) (hn:n=l.length) (hl:n≤1000) (hk:k<l.length) (hr:Recs 8 cellsP w w.heap.size A l) :
  Calls Tryz.prog 118 #[.slice A n c,.int .i64 (k:Int),.func (.func 81) #[] #[]] w fun e w'=>e=.returned (.int .i64 (idI (ordAt PodD.id l k) l[k].id))∧Below w.heap.size w w':=by
 have HO:=Lib.hid (orderP_any l k A n c w hn hl hk hr)
 obtain ⟨b,o,rfl,hb,he⟩:=hr.at hk
 have hkn:(k:Int)<(n:Int):=by omega
 have hk0:(0:Int)≤(k:Int):=by omega
 generalize l[k]=x at *
 generalize ordAt PodD.id l k=q at *
 have HEE:=Lib.hid he
 clear he hn hr hk
 go_enter Tryz.func118,Tryz.ntmps118
 go_wp2_with fail
 refine HO.out.mono ?_
 rintro e w1 ⟨rfl,hb1⟩
 by_cases hq:q=0
 ·obtain rfl:=hq
  have e0:w1.cell? ⟨b,o+k * 8,none⟩=some (.int .i64 x.id):=(hb1.cell (p:=⟨b,o+k * 8,none⟩) hb).trans (HEE.out 0 _ rfl)
  have e1:w1.cell? ⟨b,o+k * 8+1,none⟩=some (.int .i64 x.load):=(hb1.cell (p:=⟨b,o+k * 8+1,none⟩) hb).trans (HEE.out 1 _ rfl)
  have e2:w1.cell? ⟨b,o+k * 8+2,none⟩=some (.int .i64 x.prio):=(hb1.cell (p:=⟨b,o+k * 8+2,none⟩) hb).trans (HEE.out 2 _ rfl)
  have e3:w1.cell? ⟨b,o+k * 8+3,none⟩=some (.int .u64 x.req.a):=(hb1.cell (p:=⟨b,o+k * 8+3,none⟩) hb).trans (HEE.out 3 _ rfl)
  have e4:w1.cell? ⟨b,o+k * 8+4,none⟩=some (.int .u64 x.req.b):=(hb1.cell (p:=⟨b,o+k * 8+4,none⟩) hb).trans (HEE.out 4 _ rfl)
  have e5:w1.cell? ⟨b,o+k * 8+5,none⟩=some (.int .u64 x.req.c):=(hb1.cell (p:=⟨b,o+k * 8+5,none⟩) hb).trans (HEE.out 5 _ rfl)
  have e6:w1.cell? ⟨b,o+k * 8+6,none⟩=some (.int .u64 x.req.d):=(hb1.cell (p:=⟨b,o+k * 8+6,none⟩) hb).trans (HEE.out 6 _ rfl)
  have e7:w1.cell? ⟨b,o+k * 8+7,none⟩=some (.int .i64 x.node):=(hb1.cell (p:=⟨b,o+k * 8+7,none⟩) hb).trans (HEE.out 7 _ rfl)
  go_wp2_with fail
  refine (idP_any x _).mono ?_
  rintro e w2 ⟨rfl,hb2⟩
  have kk:Below w.heap.size w w2:=hb1.trans (hb2.mono hb1.size)
  go_wp2_with fail
  refine (within_any _ _ _ _).mono ?_
  rintro e w2 ⟨rfl,rfl⟩
  by_cases hi:inB x.id 1 2147483647=true
  ·have HE:=Lib.hid (show idI 0 x.id=0 by simp [idI,hi])
   go_wp2
   go_ret
   exact ⟨ret_int HE.out.symm,kk⟩
  ·have hi':inB x.id 1 2147483647=false:=by simpa using hi
   have HE:=Lib.hid (show idI 0 x.id=1 by simp [idI,hi'])
   clear hi
   go_wp2
   go_ret
   exact ⟨ret_int HE.out.symm,kk⟩
 ·have hm:(q != 0)=true:=by simpa using hq
  have HE:=Lib.hid (show idI q x.id=q by simp [idI,hq])
  clear hq
  go_wp2
  go_ret
  exact ⟨ret_int HE.out.symm,hb1⟩
def nodeF (x:NodeD):Int:=if inB x.zone 1 8=true∧x.held.le x.cap=true then 0 else 1
def loadF (x:LoadD):Int:=if countOk x.skew=true∧countOk x.min=true∧countOk x.max=true∧x.min≤x.max then 0 else 1

set_option maxHeartbeats 1600000 in
theorem nodeFault_any (x:NodeD) (w:World):Calls Tryz.prog 76 #[aggN x] w fun e w'=>e=.returned (.int .i64 (nodeF x))∧Below w.heap.size w w':=by
 have b00:Below w.heap.size w (w.alloc (.cells #[.int .i64 x.id,.int .i64 x.zone,.int .u64 x.cap.a,.int .u64 x.cap.b,.int .u64 x.cap.c,.int .u64 x.cap.d,.int .u64 x.held.a,.int .u64 x.held.b,.int .u64 x.held.c,.int .u64 x.held.d] 59)):=(Below.refl _ _).alloc (Nat.le_refl _) _
 go_enter Tryz.func76,Tryz.ntmps76
 go_wp2_with fail
 refine (within_any _ _ _ _).mono ?_
 rintro e w' ⟨rfl,rfl⟩
 by_cases h1:inB x.zone 1 8=true
 ·go_wp2_with fail
  refine (fits_any x.held x.cap _).mono ?_
  rintro e w2 ⟨rfl,hb2⟩
  have kk:Below w.heap.size w w2:=b00.trans (hb2.mono (by simp))
  by_cases h2:x.held.le x.cap=true
  ·have HE:=Lib.hid (show nodeF x=0 by simp [nodeF,h1,h2])
   go_wp2
   go_ret
   exact ⟨ret_int HE.out.symm,kk⟩
  ·have h2':x.held.le x.cap=false:=by simpa using h2
   have HE:=Lib.hid (show nodeF x=1 by simp [nodeF,h2'])
   clear h2
   go_wp2
   go_ret
   exact ⟨ret_int HE.out.symm,kk⟩
 ·have h1':inB x.zone 1 8=false:=by simpa using h1
  have HE:=Lib.hid (show nodeF x=1 by simp [nodeF,h1'])
  clear h1
  go_wp2
  go_ret
  exact ⟨ret_int HE.out.symm,b00⟩

set_option maxHeartbeats 1600000 in
theorem loadFault_any (x:LoadD) (w:World):Calls Tryz.prog 79 #[aggL x] w fun e w'=>e=.returned (.int .i64 (loadF x))∧Below w.heap.size w w':=by
 have b00:Below w.heap.size w (w.alloc (.cells #[.int .i64 x.id,.bool x.apart,.int .i64 x.skew,.int .i64 x.min,.int .i64 x.max] 61)):=(Below.refl _ _).alloc (Nat.le_refl _) _
 go_enter Tryz.func79,Tryz.ntmps79
 go_wp2_with fail
 refine (isCount_any _ _).mono ?_
 rintro e w' ⟨rfl,rfl⟩
 by_cases h1:countOk x.skew=true
 ·go_wp2_with fail
  refine (isCount_any _ _).mono ?_
  rintro e w' ⟨rfl,rfl⟩
  by_cases h2:countOk x.min=true
  ·go_wp2_with fail
   refine (isCount_any _ _).mono ?_
   rintro e w' ⟨rfl,rfl⟩
   by_cases h3:countOk x.max=true
   ·by_cases h4:x.max<x.min
    ·have HE:=Lib.hid (show loadF x=1 by unfold loadF;rw [if_neg (by omega)])
     have hd:decide (x.max<x.min)=true:=decide_eq_true h4
     go_wp2
     go_ret
     exact ⟨ret_int HE.out.symm,b00⟩
    ·have HE:=Lib.hid (show loadF x=0 by unfold loadF;rw [if_pos ⟨h1,h2,h3,by omega⟩])
     have hd:decide (x.max<x.min)=false:=decide_eq_false h4
     go_wp2
     go_ret
     exact ⟨ret_int HE.out.symm,b00⟩
   ·have h3':countOk x.max=false:=by simpa using h3
    have HE:=Lib.hid (show loadF x=1 by simp [loadF,h3'])
    clear h3
    go_wp2
    go_ret
    exact ⟨ret_int HE.out.symm,b00⟩
  ·have h2':countOk x.min=false:=by simpa using h2
   have HE:=Lib.hid (show loadF x=1 by simp [loadF,h2'])
   clear h2
   go_wp2
   go_ret
   exact ⟨ret_int HE.out.symm,b00⟩
 ·have h1':countOk x.skew=false:=by simpa using h1
  have HE:=Lib.hid (show loadF x=1 by simp [loadF,h1'])
  clear h1
  go_wp2
  go_ret
  exact ⟨ret_int HE.out.symm,b00⟩
def podF (nodes:List NodeD) (loads:List LoadD) (p:PodD):Int :=
 if countOk p.prio=false then 1 else if place LoadD.id p.load loads 0<0 then 4 else if place NodeD.id p.node nodes 0<0∧p.node≠0 then 4 else 0
def wantF (pods:List PodD) (x:WantD):Int:=if place PodD.id x.pod pods 0<0 then 4 else if x.stay=false∧x.req.zero=false then 1 else 0

set_option maxHeartbeats 3200000 in
set_option maxRecDepth 100000 in
theorem podFault_any (nodes:List NodeD) (loads:List LoadD) (p:PodD) (A1 A2 A3:Option Addr) (n1 c1 n2 c2 n3 c3:Nat) (w:World) (hn1:n1=nodes.length) (hn2:n2=loads.length) (hl1:n1≤1000) (hl2:n2≤1000) (hr1:Recs 10 cellsN w w.heap.size A1 nodes) (hr2:Recs 5 cellsL w w.heap.size A2 loads) :
  Calls Tryz.prog 83 #[snapV A1 A2 A3 n1 c1 n2 c2 n3 c3,aggP p] w fun e w'=>e=.returned (.int .i64 (podF nodes loads p))∧Below w.heap.size w w':=by
 have b00:=below_two w (.cells #[.slice A1 n1 c1,.slice A2 n2 c2,.slice A3 n3 c3] 26) (.cells #[.int .i64 p.id,.int .i64 p.load,.int .i64 p.prio,.int .u64 p.req.a,.int .u64 p.req.b,.int .u64 p.req.c,.int .u64 p.req.d,.int .i64 p.node] 63)
 have HLD:=Lib.hid (load_any loads p.load A2 n2 c2 (.slice A1 n1 c1) (.slice A3 n3 c3) ((w.alloc (.cells #[.slice A1 n1 c1,.slice A2 n2 c2,.slice A3 n3 c3] 26)).alloc (.cells #[.int .i64 p.id,.int .i64 p.load,.int .i64 p.prio,.int .u64 p.req.a,.int .u64 p.req.b,.int .u64 p.req.c,.int .u64 p.req.d,.int .i64 p.node] 63)) hn2 hl2 ((hr2.below b00 (Nat.le_refl _)).more b00.size))
 have HR1:=Lib.hid hr1
 have HN1:=Lib.hid hn1
 clear hr1 hr2 hn1 hn2
 go_enter Tryz.func83,Tryz.ntmps83
 go_wp2_with fail
 refine (isCount_any _ _).mono ?_
 rintro e w' ⟨rfl,rfl⟩
 by_cases hc:countOk p.prio=true
 ·go_wp2_with fail
  refine HLD.out.mono ?_
  rintro e w1 ⟨hh,hb1⟩
  have kw1:Below w.heap.size w w1:=b00.trans (hb1.mono b00.size)
  have hz1:w.heap.size+2≤w1.heap.size:=by have:=hb1.size;simpa using this
  have hz10:w.heap.size<w1.heap.size:=by omega
  have hz11:w.heap.size+1<w1.heap.size:=by omega
  have a0:w1.cell? ⟨w.heap.size,0,none⟩=some (.slice A1 n1 c1):=(hb1.cell (p:=⟨w.heap.size,0,none⟩) (by simp <;> omega)).trans (by simp)
  have a1:w1.cell? ⟨w.heap.size,1,none⟩=some (.slice A2 n2 c2):=(hb1.cell (p:=⟨w.heap.size,1,none⟩) (by simp <;> omega)).trans (by simp)
  have a2:w1.cell? ⟨w.heap.size,2,none⟩=some (.slice A3 n3 c3):=(hb1.cell (p:=⟨w.heap.size,2,none⟩) (by simp <;> omega)).trans (by simp)
  have q7:w1.cell? ⟨w.heap.size+1,7,none⟩=some (.int .i64 p.node):=(hb1.cell (p:=⟨w.heap.size+1,7,none⟩) (by simp <;> omega)).trans (by simp)
  rcases hh with ⟨hp,rfl⟩ | ⟨i,hi,hp,rfl⟩
  ·have HE:=Lib.hid (show podF nodes loads p=4 by simp [podF,hc,hp])
   clear hp
   go_wp2
   go_ret
   exact ⟨ret_int HE.out.symm,kw1.alloc kw1.size _⟩
  ·generalize loads[i]=x at *
   have HPL:=Lib.hid (show ¬ place LoadD.id p.load loads 0<0 by omega)
   clear hp
   have k2:Below w.heap.size w (w1.alloc (.cells #[.int .i64 x.id,.bool x.apart,.int .i64 x.skew,.int .i64 x.min,.int .i64 x.max] 61)):=kw1.alloc kw1.size _
   have HND:=Lib.hid (node_any nodes p.node A1 n1 c1 (.slice A2 n2 c2) (.slice A3 n3 c3) (w1.alloc (.cells #[.int .i64 x.id,.bool x.apart,.int .i64 x.skew,.int .i64 x.min,.int .i64 x.max] 61)) HN1.out hl1 ((HR1.out.below k2 (Nat.le_refl _)).more k2.size))
   go_wp2_with fail
   refine HND.out.mono ?_
   rintro e w3 ⟨hh3,hb3⟩
   have kw3:Below w.heap.size w w3:=k2.trans (hb3.mono k2.size)
   have q3:w3.cell? ⟨w.heap.size+1,7,none⟩=some (.int .i64 p.node):=(hb3.cell (p:=⟨w.heap.size+1,7,none⟩) (by simp;omega)).trans (by rw [World.cell?_alloc_lt _ _ _ (by show w.heap.size+1<w1.heap.size;omega)];exact q7)
   have hz3:w.heap.size+1<w3.heap.size:=by have:=hb3.size;simp at this;omega
   rcases hh3 with ⟨hp,rfl⟩ | ⟨i',hi',hp,rfl⟩
   ·by_cases hn0:p.node=0
    ·have HE:=Lib.hid (show podF nodes loads p=0 by unfold podF;rw [if_neg (by simp [hc]),if_neg (by have:=HPL.out;omega),if_neg (by simp [hn0])])
     have hm:(p.node != 0)=false:=by simp [hn0]
     clear hp hn0
     go_wp2
     go_ret
     exact ⟨ret_int HE.out.symm,kw3.alloc kw3.size _⟩
    ·have HE:=Lib.hid (show podF nodes loads p=4 by unfold podF;rw [if_neg (by simp [hc]),if_neg (by have:=HPL.out;omega),if_pos ⟨hp,hn0⟩])
     have hm:(p.node != 0)=true:=by simpa using hn0
     clear hp hn0
     go_wp2
     go_ret
     exact ⟨ret_int HE.out.symm,kw3.alloc kw3.size _⟩
   ·have HE:=Lib.hid (show podF nodes loads p=0 by unfold podF;rw [if_neg (by simp [hc]),if_neg (by have:=HPL.out;omega),if_neg (by omega)])
    generalize nodes[i']=y at *
    clear hp
    go_wp2
    go_ret
    exact ⟨ret_int HE.out.symm,kw3.alloc kw3.size _⟩
 ·have hc':countOk p.prio=false:=by simpa using hc
  have HE:=Lib.hid (show podF nodes loads p=1 by simp [podF,hc'])
  clear hc
  go_wp2
  go_ret
  exact ⟨ret_int HE.out.symm,b00⟩
theorem podClosure_any (nodes:List NodeD) (loads:List LoadD) (p:PodD) (g:Nat) (A1 A2 A3:Option Addr) (n1 c1 n2 c2 n3 c3:Nat) (w:World) (h0:w.cell? ⟨g,0,none⟩=some (.slice A1 n1 c1)) (h1:w.cell? ⟨g,1,none⟩=some (.slice A2 n2 c2)) (h2:w.cell? ⟨g,2,none⟩=some (.slice A3 n3 c3))
  (hn1:n1=nodes.length) (hn2:n2=loads.length) (hl1:n1≤1000) (hl2:n2≤1000) (hr1:Recs 10 cellsN w w.heap.size A1 nodes) (hr2:Recs 5 cellsL w w.heap.size A2 loads) :
  Calls Tryz.prog 82 #[aggP p,.pointer (some ⟨g,0,none⟩)] w fun e w'=>e=.returned (.int .i64 (podF nodes loads p))∧Below w.heap.size w w':=by
 have hg:g<w.heap.size:=World.block_lt_of_cell? w _ h0
 have b00:Below w.heap.size w (w.alloc (.cells #[.int .i64 p.id,.int .i64 p.load,.int .i64 p.prio,.int .u64 p.req.a,.int .u64 p.req.b,.int .u64 p.req.c,.int .u64 p.req.d,.int .i64 p.node] 63)):=(Below.refl _ _).alloc (Nat.le_refl _) _
 have HPF:=Lib.hid (podFault_any nodes loads p A1 A2 A3 n1 c1 n2 c2 n3 c3 (w.alloc (.cells #[.int .i64 p.id,.int .i64 p.load,.int .i64 p.prio,.int .u64 p.req.a,.int .u64 p.req.b,.int .u64 p.req.c,.int .u64 p.req.d,.int .i64 p.node] 63)) hn1 hn2 hl1 hl2 ((hr1.below b00 (Nat.le_refl _)).more b00.size) ((hr2.below b00 (Nat.le_refl _)).more b00.size))
 clear hr1 hr2 hn1 hn2
 go_enter Tryz.func82,Tryz.ntmps82
 go_wp2_with fail
 refine HPF.out.mono ?_
 rintro e w1 ⟨rfl,hb1⟩
 go_wp2
 go_ret
 exact ⟨rfl,b00.trans (hb1.mono b00.size)⟩

set_option maxHeartbeats 3200000 in
set_option maxRecDepth 100000 in
theorem wantFault_any (pods:List PodD) (x:WantD) (A1 A2 A3:Option Addr) (n1 c1 n2 c2 n3 c3:Nat) (w:World) (hn3:n3=pods.length) (hl3:n3≤1000) (hr3:Recs 8 cellsP w w.heap.size A3 pods) :
  Calls Tryz.prog 44 #[snapV A1 A2 A3 n1 c1 n2 c2 n3 c3,aggW x] w fun e w'=>e=.returned (.int .i64 (wantF pods x))∧Below w.heap.size w w':=by
 have b00:=below_two w (.cells #[.slice A1 n1 c1,.slice A2 n2 c2,.slice A3 n3 c3] 26) (.cells #[.int .i64 x.pod,.int .u64 x.req.a,.int .u64 x.req.b,.int .u64 x.req.c,.int .u64 x.req.d,.bool x.stay] 65)
 have HFD:=Lib.hid (findP_any pods x.pod A3 n3 c3 ((w.alloc (.cells #[.slice A1 n1 c1,.slice A2 n2 c2,.slice A3 n3 c3] 26)).alloc (.cells #[.int .i64 x.pod,.int .u64 x.req.a,.int .u64 x.req.b,.int .u64 x.req.c,.int .u64 x.req.d,.bool x.stay] 65)) hn3 hl3 ((hr3.below b00 (Nat.le_refl _)).more b00.size))
 have hvn:=vec_neq0 x.req
 clear hr3 hn3
 go_enter Tryz.func44,Tryz.ntmps44
 go_wp2_with fail
 refine HFD.out.mono ?_
 rintro e w1 ⟨hh,hb1⟩
 have kw1:Below w.heap.size w w1:=b00.trans (hb1.mono b00.size)
 have hz1:w.heap.size+2≤w1.heap.size:=by have:=hb1.size;simpa using this
 have hz11:w.heap.size+1<w1.heap.size:=by omega
 have q1:w1.cell? ⟨w.heap.size+1,1,none⟩=some (.int .u64 x.req.a):=(hb1.cell (p:=⟨w.heap.size+1,1,none⟩) (by simp <;> omega)).trans (by simp)
 have q2:w1.cell? ⟨w.heap.size+1,2,none⟩=some (.int .u64 x.req.b):=(hb1.cell (p:=⟨w.heap.size+1,2,none⟩) (by simp <;> omega)).trans (by simp)
 have q3:w1.cell? ⟨w.heap.size+1,3,none⟩=some (.int .u64 x.req.c):=(hb1.cell (p:=⟨w.heap.size+1,3,none⟩) (by simp <;> omega)).trans (by simp)
 have q4:w1.cell? ⟨w.heap.size+1,4,none⟩=some (.int .u64 x.req.d):=(hb1.cell (p:=⟨w.heap.size+1,4,none⟩) (by simp <;> omega)).trans (by simp)
 have q5:w1.cell? ⟨w.heap.size+1,5,none⟩=some (.bool x.stay):=(hb1.cell (p:=⟨w.heap.size+1,5,none⟩) (by simp <;> omega)).trans (by simp)
 rcases hh with ⟨hp,rfl⟩ | ⟨i,hi,hp,rfl⟩
 ·have HE:=Lib.hid (show wantF pods x=4 by simp [wantF,hp])
  clear hp
  go_wp2
  go_ret
  exact ⟨ret_int HE.out.symm,kw1.alloc kw1.size _⟩
 ·generalize pods[i]=y at *
  have HPL:=Lib.hid (show ¬ place PodD.id x.pod pods 0<0 by omega)
  clear hp
  cases hst:x.stay with
  | true =>
   have HE:=Lib.hid (show wantF pods x=0 by unfold wantF;rw [if_neg (by have:=HPL.out;omega),if_neg (by simp [hst])])
   go_wp2
   go_ret
   exact ⟨ret_int HE.out.symm,kw1.alloc kw1.size _⟩
  | false =>
   cases hze:x.req.zero with
   | true =>
    have HE:=Lib.hid (show wantF pods x=0 by unfold wantF;rw [if_neg (by have:=HPL.out;omega),if_neg (by simp [hze])])
    go_wp2
    go_ret
    exact ⟨ret_int HE.out.symm,kw1.alloc kw1.size _⟩
   | false =>
    have HE:=Lib.hid (show wantF pods x=1 by unfold wantF;rw [if_neg (by have:=HPL.out;omega),if_pos ⟨hst,hze⟩])
    go_wp2
    go_ret
    exact ⟨ret_int HE.out.symm,kw1.alloc kw1.size _⟩
end Go.Proofs.YthapilknnhlmfaaGreatDoor
