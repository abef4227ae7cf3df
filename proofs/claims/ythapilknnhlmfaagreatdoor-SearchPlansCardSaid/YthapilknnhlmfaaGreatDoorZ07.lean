/- Joined texts, part 7: UI UJ ZA EM YA VecA. -/
import Derived.Test.YthapilknnhlmfaaGreatDoorZ06
import Derived.Lib.SlicesCompact
import Derived.Test.YthapilknnhlmfaaGreatDoorZ01
import Derived.Lib.Slices
import Derived.Test.YthapilknnhlmfaaGreatDoorRows
import Derived.WalkKit
import Derived.WalkSpells
import Derived.WalkLawsBesides
import Derived.Laws.Externs
import Derived.Shelf.Spec.BitsCarry
import Derived.Lib.Hide
import Derived.Deep.QuietTactic
import Derived.BigQuiet

namespace Go.Proofs.YthapilknnhlmfaaGreatDoor
set_option linter.unusedSimpArgs false
open Go.RowKit
set_option linter.unusedVariables false
structure Bf (V:World) (b:Nat) (cs:List Value):Prop where
 lt:b<V.heap.size
 cell:∀ j u,cs[j]?=some u→V.cell? ⟨b,j,none⟩=some u
 frozen:∀ o,V.frozen? ⟨b,o,none⟩=false
section
variable {V V':World} {b B:Nat} {cs:List Value}
theorem Bf.below (h:Bf V b cs) (hb:Below B V V') (hB:b<B):Bf V' b cs :=
 ⟨Nat.lt_of_lt_of_le h.lt hb.size,fun j u hu=>(hb.cell (p:=⟨b,j,none⟩) hB).trans (h.cell j u hu),fun o=>(hb.frozen (p:=⟨b,o,none⟩) hB).trans (h.frozen o)⟩
theorem Bf.new (w:World) (cs:List Value) (t:TypeId) {b:Nat} (hb:b=w.heap.size):Bf (w.alloc (.cells cs.toArray t)) b cs:=by
 subst hb
 exact ⟨by simp,fun j u hu=>by simpa using hu,fun o=>by simp⟩
theorem Bf.alloc (h:Bf V b cs) (o:Obj):Bf (V.alloc o) b cs:=h.below ((Below.refl _ V).alloc (Nat.le_refl _) o) h.lt
theorem Bf.other (h:Bf V b cs) {p:Addr} (hp:p.block≠b) (v:Value):Bf (V.setCell p v) b cs :=
 ⟨by simpa using h.lt,fun j u hu=>by rw [World.cell?_setCell_other _ _ _ _ (by intro e;exact hp (by rw [e]))];exact h.cell j u hu,fun o=>by simpa using h.frozen o⟩
theorem Bf.set (h:Bf V b cs) (i:Nat) (v:Value):Bf (V.setCell ⟨b,i,none⟩ v) b (cs.set i v):=by
 refine ⟨by simpa using h.lt,fun j u hu=>?_,fun o=>by simpa using h.frozen o⟩
 by_cases e:j=i
 ·subst e
  have hj:j<cs.length:=by have:=(List.getElem?_eq_some_iff.1 hu).1;simpa using this
  rw [List.getElem?_set_self hj] at hu
  obtain rfl:=Option.some.inj hu
  exact World.cell?_setCell_same _ _ _ (h.cell j _ (List.getElem?_eq_getElem hj))
 ·rw [List.getElem?_set_ne (fun e'=>e e'.symm)] at hu
  rw [World.cell?_setCell_other _ _ _ _ (by intro e';injection e';omega)]
  exact h.cell j u hu
end
structure Beh (A:Option Addr) (n c:Nat) (v1 v2:Value) (g c' k:Nat) (p s:Int) (m:MoveD) (l:List PodD) (w V:World):Prop where
 spec:Bf V w.heap.size [.slice A n c,v1,v2]
 state:Bf V (w.heap.size+1) [.slice (some ⟨g,0,none⟩) k c',.int .i64 p,.int .i64 s]
 move:Bf V (w.heap.size+2) [.int .i64 m.kind,.int .i64 m.pod,.int .i64 m.node,.int .i64 m.over]
 res:Bf V (w.heap.size+3) [.slice none 0 0,.int .i64 0,.int .i64 0]
 lst:Lst g l V
 below:Below w.heap.size w V
 hg:w.heap.size+4≤g
section
variable {A:Option Addr} {n c:Nat} {v1 v2:Value} {g c' k:Nat} {p s:Int} {m:MoveD} {l:List PodD} {w V V':World}
theorem Beh.keep (h:Beh A n c v1 v2 g c' k p s m l w V) (hb:Below V.heap.size V V'):Beh A n c v1 v2 g c' k p s m l w V' :=
 ⟨h.spec.below hb h.spec.lt,h.state.below hb h.state.lt,h.move.below hb h.move.lt,h.res.below hb h.res.lt,h.lst.below hb,h.below.trans (hb.mono h.below.size),h.hg⟩
theorem Beh.turn {l':List PodD} (h:Beh A n c v1 v2 g c' k p s m l w V) (hb:Below g V V') (hl:Lst g l' V'):Beh A n c v1 v2 g c' k p s m l' w V':=by
 have hg:=h.hg
 exact ⟨h.spec.below hb (by omega),h.state.below hb (by omega),h.move.below hb (by omega),h.res.below hb (by omega),hl,h.below.trans (hb.mono (by omega)),h.hg⟩
theorem Beh.shift (h:Beh A n c v1 v2 g c' k p s m l w V) (s':Int):Beh A n c v1 v2 g c' k p s' m l w (V.setCell ⟨w.heap.size+1,2,none⟩ (.int .i64 s')):=by
 have hg:=h.hg
 exact ⟨h.spec.other (by simp) _,h.state.set 2 _,h.move.other (by simp) _,h.res.other (by simp) _,h.lst.other (by show w.heap.size+1≠g;omega) _,h.below.setCell (by simp) _,h.hg⟩
theorem Beh.pre (h:Beh A n c v1 v2 g c' k p s m l w V) (p':Int):Beh A n c v1 v2 g c' k p' s m l w (V.setCell ⟨w.heap.size+1,1,none⟩ (.int .i64 p')):=by
 have hg:=h.hg
 exact ⟨h.spec.other (by simp) _,h.state.set 1 _,h.move.other (by simp) _,h.res.other (by simp) _,h.lst.other (by show w.heap.size+1≠g;omega) _,h.below.setCell (by simp) _,h.hg⟩
theorem Beh.facts (h:Beh A n c v1 v2 g c' k p s m l w V) :
  (V.cell? ⟨w.heap.size,0,none⟩=some (.slice A n c)∧V.cell? ⟨w.heap.size,1,none⟩=some v1∧V.cell? ⟨w.heap.size,2,none⟩=some v2) ∧
  (V.cell? ⟨w.heap.size+1,0,none⟩=some (.slice (some ⟨g,0,none⟩) k c')∧V.cell? ⟨w.heap.size+1,1,none⟩=some (.int .i64 p)∧V.cell? ⟨w.heap.size+1,2,none⟩=some (.int .i64 s)) ∧
  (V.cell? ⟨w.heap.size+2,0,none⟩=some (.int .i64 m.kind)∧V.cell? ⟨w.heap.size+2,1,none⟩=some (.int .i64 m.pod)∧V.cell? ⟨w.heap.size+2,2,none⟩=some (.int .i64 m.node)∧V.cell? ⟨w.heap.size+2,3,none⟩=some (.int .i64 m.over)) ∧
  w.heap.size<V.heap.size∧w.heap.size+1<V.heap.size∧w.heap.size+2<V.heap.size∧w.heap.size+3<V.heap.size∧g<V.heap.size :=
 ⟨⟨h.spec.cell 0 _ rfl,h.spec.cell 1 _ rfl,h.spec.cell 2 _ rfl⟩,⟨h.state.cell 0 _ rfl,h.state.cell 1 _ rfl,h.state.cell 2 _ rfl⟩,⟨h.move.cell 0 _ rfl,h.move.cell 1 _ rfl,h.move.cell 2 _ rfl,h.move.cell 3 _ rfl⟩,h.spec.lt,h.state.lt,h.move.lt,h.res.lt,h.lst.lt⟩
theorem Beh.facts2 (h:Beh A n c v1 v2 g c' k p s m l w V) :
  (V.cell? ⟨w.heap.size+3,0,none⟩=some (.slice none 0 0)∧V.cell? ⟨w.heap.size+3,1,none⟩=some (.int .i64 0)∧V.cell? ⟨w.heap.size+3,2,none⟩=some (.int .i64 0)) ∧
  (V.frozen? ⟨w.heap.size+3,0,none⟩=false∧V.frozen? ⟨w.heap.size+3,1,none⟩=false∧V.frozen? ⟨w.heap.size+3,2,none⟩=false) ∧
  (V.frozen? ⟨w.heap.size+1,1,none⟩=false∧V.frozen? ⟨w.heap.size+1,2,none⟩=false) :=
 ⟨⟨h.res.cell 0 _ rfl,h.res.cell 1 _ rfl,h.res.cell 2 _ rfl⟩,⟨h.res.frozen 0,h.res.frozen 1,h.res.frozen 2⟩,h.state.frozen 1,h.state.frozen 2⟩
end
theorem place_eq {id:Int}:∀ {l:List PodD} {k:Int} {i:Nat} (hi:i<l.length),place PodD.id id l k=k+i→0≤k→l[i].id=id
 | [],_,_,hi,_,_=>by simp at hi
 | x :: r,k,i,hi,h,hk=>by
  by_cases hx:x.id=id
  ·simp only [place,if_pos hx] at h
   obtain rfl:i=0:=by omega
   exact hx
  ·simp only [place,if_neg hx] at h
   cases i with
   | zero =>
    have h3:place PodD.id id r (k+1)<0∨k+1≤place PodD.id id r (k+1):=place_or r (k+1) (by omega)
    omega
   | succ i =>
    simp only [List.getElem_cons_succ]
    exact place_eq (k:=k+1) (by simpa using hi) (by rw [h];omega) (by omega)
theorem place_is {l:List PodD} {id:Int} {i:Nat} (hi:i<l.length) (h:place PodD.id id l 0=i):l[i].id=id:=by
 have:=place_eq (l:=l) (id:=id) (k:=0) hi (by omega) (by omega)
 exact this
def goD (p:PodD):PodD:=⟨p.id,p.load,p.prio,p.req,0⟩
def idxD (id:Int) (l:List PodD):Nat:=(place PodD.id id l 0).toNat
def behindD (x:List WantD) (t:StateD) (m:MoveD):StateD :=
 if m.kind=2 then ⟨t.pods.set (idxD m.pod t.pods) (goD (podZ m.pod t.pods)),t.preempts,t.shifts⟩
 else if m.kind=3 then ⟨t.pods.set (idxD m.pod t.pods) (comeD x m.node (podZ m.pod t.pods)),t.preempts,wrap64 (t.shifts+1)⟩
 else if m.kind=4 then ⟨(t.pods.set (idxD m.over t.pods) (goD (podZ m.over t.pods))).set (idxD m.pod t.pods) (comeD x m.node (podZ m.pod t.pods)),wrap64 (t.preempts+1),t.shifts⟩
 else ⟨t.pods.set (idxD m.pod t.pods) (comeD x m.node (podZ m.pod t.pods)),t.preempts,t.shifts⟩
def StateTo (u:StateD) (w:World) (v:Value) (w':World):Prop:=∃ A c,v=stateV A u.pods.length c u.preempts u.shifts∧Out 8 cellsP w' u.pods A c∧(∀ a,A=some a→w.heap.size≤a.block)∧Below w.heap.size w w'
theorem Beh.done {A:Option Addr} {n c:Nat} {v1 v2:Value} {g c' k:Nat} {p s:Int} {m:MoveD} {l:List PodD} {w V:World} (h:Beh A n c v1 v2 g c' k p s m l w V) (hk:k=l.length) (hc:k≤c') (hm:c'≤maxLen) {x y z:Value} :
  StateTo ⟨l,p,s⟩ w (stateV (some ⟨g,0,none⟩) k c' p s) (((V.setCell ⟨w.heap.size+3,0,none⟩ x).setCell ⟨w.heap.size+3,1,none⟩ y).setCell ⟨w.heap.size+3,2,none⟩ z):=by
 subst hk
 have hg:=h.hg
 have hl:=(((h.lst.other (p:=⟨w.heap.size+3,0,none⟩) (by show w.heap.size+3≠g;omega) x).other (p:=⟨w.heap.size+3,1,none⟩) (by show w.heap.size+3≠g;omega) y).other (p:=⟨w.heap.size+3,2,none⟩) (by show w.heap.size+3≠g;omega) z)
 exact ⟨_,_,rfl,⟨hc,hm,(by intro e;cases e),hl.recs⟩,(by intro a e;injection e with e;subst e;show w.heap.size≤g;omega),((h.below.setCell (by simp) _).setCell (by simp) _).setCell (by simp) _⟩
set_option maxHeartbeats 6400000 in
set_option maxRecDepth 100000 in
theorem behind_any (x:List WantD) (t:StateD) (m:MoveD) (hk1:m.kind=1∨m.kind=2∨m.kind=3∨m.kind=4) (hpod:¬ place PodD.id m.pod t.pods 0<0) (hover:m.kind=4→¬ place PodD.id m.over t.pods 0<0∧m.over≠m.pod)
  (A A2:Option Addr) (n c n2 c2:Nat) (v1 v2:Value) (w:World) (hn:n=x.length) (hl:n≤1000) (hr:Recs 6 cellsW w w.heap.size A x) (hn2:n2=t.pods.length) (hl2:n2≤1000) (h02:A2=none→c2=0) (hr2:Recs 8 cellsP w w.heap.size A2 t.pods) :
  Calls Tryz.prog 110 #[.agg #[.slice A n c,v1,v2],stateV A2 n2 c2 t.preempts t.shifts,aggM m] w fun e w'=>∃ v,e=.returned v∧StateTo (behindD x t m) w v w':=by
 obtain ⟨i,hi,hpi⟩:=place_hit hpod
 obtain ⟨l,p,s⟩:=t
 have HR:=Lib.hid hr
 have HN:=Lib.hid hn
 have HO:=Lib.hid hover
 have b00:=below_four w (.cells #[.slice A n c,v1,v2] 29) (.cells #[.slice A2 n2 c2,.int .i64 p,.int .i64 s] 44) (.cells #[.int .i64 m.kind,.int .i64 m.pod,.int .i64 m.node,.int .i64 m.over] 89) (.cells #[.slice none 0 0,.int .i64 0,.int .i64 0] 44)
 have HC:=Lib.hid (clone_any l A2 n2 c2 _ hn2 hl2 h02 ((hr2.below b00 (Nat.le_refl _)).more b00.size))
 have HN2:=Lib.hid hn2
 clear hr hn hover hr2 hn2 h02 hpod
 go_enter Tryz.func110,Tryz.ntmps110
 go_wp2_with fail
 refine HC.out.mono ?_
 rintro e w1 ⟨A3,c3,rfl,hfr,hb1⟩
 obtain ⟨g,rfl,hg,hc3,hm3,hL⟩:=Lst.fresh hfr (by omega)
 have hlen:l.length=n2:=HN2.out.symm
 rw [hlen] at hc3
 have s0:=((((Bf.new w [.slice A n c,v1,v2] 29 rfl).alloc (.cells #[.slice A2 n2 c2,.int .i64 p,.int .i64 s] 44)).alloc (.cells #[.int .i64 m.kind,.int .i64 m.pod,.int .i64 m.node,.int .i64 m.over] 89)).alloc (.cells #[.slice none 0 0,.int .i64 0,.int .i64 0] 44)).below hb1 (by first | (simp;done) | (simp;omega))
 have s1:=(((Bf.new (w.alloc (.cells #[.slice A n c,v1,v2] 29)) [.slice A2 n2 c2,.int .i64 p,.int .i64 s] 44 (b:=w.heap.size+1) (by simp)).alloc (.cells #[.int .i64 m.kind,.int .i64 m.pod,.int .i64 m.node,.int .i64 m.over] 89)).alloc (.cells #[.slice none 0 0,.int .i64 0,.int .i64 0] 44)).below hb1 (by first | (simp;done) | (simp;omega))
 have s2:=((Bf.new ((w.alloc (.cells #[.slice A n c,v1,v2] 29)).alloc (.cells #[.slice A2 n2 c2,.int .i64 p,.int .i64 s] 44)) [.int .i64 m.kind,.int .i64 m.pod,.int .i64 m.node,.int .i64 m.over] 89 (b:=w.heap.size+2) (by simp)).alloc (.cells #[.slice none 0 0,.int .i64 0,.int .i64 0] 44)).below hb1 (by first | (simp;done) | (simp;omega))
 have s3:=(Bf.new (((w.alloc (.cells #[.slice A n c,v1,v2] 29)).alloc (.cells #[.slice A2 n2 c2,.int .i64 p,.int .i64 s] 44)).alloc (.cells #[.int .i64 m.kind,.int .i64 m.pod,.int .i64 m.node,.int .i64 m.over] 89)) [.slice none 0 0,.int .i64 0,.int .i64 0] 44 (b:=w.heap.size+3) (by simp)).below hb1 (by first | (simp;done) | (simp;omega))
 have hg4:w.heap.size+4≤g:=by simpa using hg
 have B1:Beh A n c v1 v2 g c3 n2 p s m l w (w1.setCell ⟨w.heap.size+1,0,none⟩ (.slice (some ⟨g,0,none⟩) n2 c3)) :=
  ⟨s0.other (by simp) _,s1.set 0 _,s2.other (by simp) _,s3.other (by simp) _,hL.other (by show w.heap.size+1≠g;omega) _,(b00.trans (hb1.mono b00.size)).setCell (by simp) _,hg4⟩
 have fc:=s1.cell 0 _ rfl
 have fz:=s1.frozen 0
 have S1:=Lib.hid hlen
 clear s0 s1 s2 s3 hg hL hfr hb1 HC b00 hlen
 go_wp2
 generalize hW:w1.setCell ⟨w.heap.size+1,0,none⟩ (.slice (some ⟨g,0,none⟩) n2 c3)=W at *
 clear hW fc fz
 have HB1:=Lib.hid B1
 obtain ⟨⟨a0,a1,a2⟩,⟨a3,a4,a5⟩,⟨a6,a7,a8,a9⟩,hz0,hz1,hz2,hz3,hzg⟩:=B1.facts
 have HPP:Hid (∀ (id:Int) (v:World),Keeps W v→Calls Tryz.prog 71 #[stateV (some ⟨g,0,none⟩) n2 c3 p s,.int .i64 id] v fun e w'=>e=.returned (.int .i64 (place PodD.id id l 0))∧Below v.heap.size v w') :=
  fun id v hv=>place_any l id (some ⟨g,0,none⟩) n2 c3 (.int .i64 p) (.int .i64 s) v HN2.out hl2 (HB1.out.keep hv.2).lst.recs
 have HP1:Hid (∀ (v:World),Keeps W v→Calls Tryz.prog 71 #[stateV (some ⟨g,0,none⟩) n2 c3 p s,.int .i64 m.pod] v fun e w'=>e=.returned (.int .i64 (i:Int))∧Below v.heap.size v w'):=by
  have:=HPP.out m.pod
  rw [hpi] at this
  exact this
 have hin:i<n2:=by have:=S1.out;omega
 have hi0:(0:Int)≤(i:Int):=by omega
 have hi1:(i:Int)<(n2:Int):=by omega
 have HPI:=Lib.hid hpi
 clear hpi B1 HPP
 go_region_held3 (fun w'=>(∀ b o,b<W.heap.size→w'.cell? ⟨b,o,none⟩=W.cell? ⟨b,o,none⟩)∧Below W.heap.size W w')
  (first | (with_reducible assumption) | (show Keeps W _;with_reducible (repeat (first | exact Keeps.refl _ | refine Keeps.drew ?_ | refine Keeps.set ?_ (by simp) _ | refine Keeps.alloc ?_ _ | refine Keeps.step ?_ (by assumption)))))
  (first
   | (go_at_call 71;refine (HP1.out _ (by assumption)).mono ?_;rintro e w' ⟨rfl,hb⟩))
 rename_i hK
 have B2:=HB1.out.keep hK.2
 have HB2:=Lib.hid B2
 clear hK hb HP1 a0 a1 a2 a3 a4 a5 a6 a7 a8 a9 hz0 hz1 hz2 hz3 hzg HB1
 generalize hV:w'=V at *
 clear hV
 obtain ⟨⟨a0,a1,a2⟩,⟨a3,a4,a5⟩,⟨a6,a7,a8,a9⟩,hz0,hz1,hz2,hz3,hzg⟩:=B2.facts
 obtain ⟨⟨r0,r1,r2⟩,⟨z0,z1,z2⟩,z3,z4⟩:=B2.facts2
 have hgn1:g≠w.heap.size+1:=by omega
 have hgn2:g≠w.heap.size+2:=by omega
 have hgn3:g≠w.heap.size+3:=by omega
 have hgn0:g≠w.heap.size:=by omega
 have hon1:w.heap.size+1≠g:=by omega
 have hon2:w.heap.size+2≠g:=by omega
 have hon3:w.heap.size+3≠g:=by omega
 have HIX:Hid (idxD m.pod l=i):=by show _=_;rw [idxD,HPI.out];rfl
 have HPZ:=Lib.hid (podZ_some hi HPI.out)
 have HLEN:Hid (n2≤c3∧c3≤maxLen):=⟨hc3,hm3⟩
 clear hc3 hm3
 have HCM:=Lib.hid (fun (l':List PodD) (i':Nat) (hi':i'<l'.length) (p' s':Int) (v:World) (hB:Beh A n c v1 v2 g c3 n2 p' s' m l' w v)=>come_any x l' g i' hi' m.node A n c v1 v2 v HN.out hl ((HR.out.below hB.below (Nat.le_refl _)).more (by have:=hB.hg;omega)) hB.lst)
 by_cases h2:m.kind=2
 ·have HE:=Lib.hid (show behindD x ⟨l,p,s⟩ m=⟨l.set i (goD l[i]),p,s⟩ by simp only [behindD,if_pos h2,HIX.out,HPZ.out])
  have d2:(m.kind == 2)=true:=by simp [h2]
  have c7:=HB2.out.lst.at hi rfl 7 _ rfl
  have zz7:=HB2.out.lst.frozen (i * 8+7)
  clear h2
  go_wp2
  refine bodyPost_ret (v:=stateV (some ⟨g,0,none⟩) n2 c3 p s) ?_ rfl ⟨_,rfl,?_⟩
  ·simp [results,Tryz.results110,go_sem, *]
  ·rw [HE.out]
   exact (HB2.out.turn ((Below.refl g V).setCell (Nat.le_refl _) _) (HB2.out.lst.put hi (j:=7) (by omega) (.int .i64 0) (goD l[i]) rfl)).done (by simpa using S1.out.symm) HLEN.out.1 HLEN.out.2
 have d2:(m.kind == 2)=false:=by simp [h2]
 by_cases h3:m.kind=3
 ·have HE:=Lib.hid (show behindD x ⟨l,p,s⟩ m=⟨l.set i (comeD x m.node l[i]),p,wrap64 (s+1)⟩ by simp only [behindD,if_neg h2,if_pos h3,HIX.out,HPZ.out])
  have d3:(m.kind == 3)=true:=by simp [h3]
  have B3:=HB2.out.shift (wrap64 (s+1))
  clear h2 h3
  go_wp2_with fail
  refine (HCM.out l i hi _ _ _ B3).mono ?_
  rintro e w5 ⟨rfl,hL5,hb5⟩
  have B5:=B3.turn hb5 hL5
  have HB5:=Lib.hid B5
  clear r0 r1 r2 z0 z1 z2 z3 z4 a0 a1 a2 a3 a4 a5 a6 a7 a8 a9 B3 B2 hL5 hb5
  obtain ⟨⟨a0,a1,a2⟩,⟨a3,a4,a5⟩,⟨a6,a7,a8,a9⟩,_⟩:=B5.facts
  obtain ⟨⟨r0,r1,r2⟩,⟨z0,z1,z2⟩,z3,z4⟩:=B5.facts2
  go_wp2
  refine bodyPost_ret (v:=stateV (some ⟨g,0,none⟩) n2 c3 p (wrap64 (s+1))) ?_ rfl ⟨_,rfl,?_⟩
  ·simp [results,Tryz.results110,go_sem, *]
  ·rw [HE.out]
   exact HB5.out.done (by simpa using S1.out.symm) HLEN.out.1 HLEN.out.2
 have d3:(m.kind == 3)=false:=by simp [h3]
 by_cases h4:m.kind=4
 ·obtain ⟨hov,hne⟩:=HO.out h4
  obtain ⟨k,hk,hpk⟩:=place_hit (l:=l) (id:=m.over) (by omega)
  have HPK:=Lib.hid (podZ_some hk hpk)
  have HIK:Hid (idxD m.over l=k):=by show _=_;rw [idxD,hpk];rfl
  have HNE:Hid (k≠i):=by
   show k≠i
   intro e
   subst e
   have e1:=place_is hk hpk
   have e2:=place_is hk HPI.out
   exact hne (e1.symm.trans e2)
  have HE:=Lib.hid (show behindD x ⟨l,p,s⟩ m=⟨(l.set k (goD l[k])).set i (comeD x m.node l[i]),wrap64 (p+1),s⟩ by simp only [behindD,if_neg h2,if_neg h3,if_pos h4,HIX.out,HPZ.out,HIK.out,HPK.out])
  have d4:(m.kind == 4)=true:=by simp [h4]
  have B3:=HB2.out.pre (wrap64 (p+1))
  clear h2 h3 h4 hov hne
  go_wp2
  generalize hW:V.setCell ⟨w.heap.size+1,1,none⟩ (.int .i64 (wrap64 (p+1)))=U at *
  clear hW r0 r1 r2 z0 z1 z2 z3 z4 a0 a1 a2 a3 a4 a5 a6 a7 a8 a9 B2 hz0 hz1 hz2 hz3 hzg
  obtain ⟨⟨a0,a1,a2⟩,⟨a3,a4,a5⟩,⟨a6,a7,a8,a9⟩,hz0,hz1,hz2,hz3,hzg⟩:=B3.facts
  have HB3:=Lib.hid B3
  have c7:=B3.lst.at hk rfl 7 _ rfl
  have zz7:=B3.lst.frozen (k * 8+7)
  have hk0:(0:Int)≤(k:Int):=by omega
  have hk1:(k:Int)<(n2:Int):=by have:=S1.out;omega
  have HPO:Hid (∀ (v:World),Keeps U v→Calls Tryz.prog 71 #[stateV (some ⟨g,0,none⟩) n2 c3 (wrap64 (p+1)) s,.int .i64 m.over] v fun e w'=>e=.returned (.int .i64 (k:Int))∧Below v.heap.size v w'):=by
   have:=fun (v:World) (hv:Keeps U v)=>place_any l m.over (some ⟨g,0,none⟩) n2 c3 (.int .i64 (wrap64 (p+1))) (.int .i64 s) v HN2.out hl2 (HB3.out.keep hv.2).lst.recs
   rw [hpk] at this
   exact this
  have HBK:=Lib.hid (fun (v:World) (hb:Below U.drew.heap.size U.drew v)=>let B4:=HB3.out.keep (V':=v) ⟨hb.os,hb.tape,hb.output,hb.size,hb.block⟩;And.intro B4.facts (And.intro (B4.lst.at hk rfl 7 _ rfl) (B4.lst.frozen (k * 8+7))))
  clear hpk B3
  go_region_with (go_at_call 71;refine (HPO.out _ (Keeps.drew (Keeps.refl _))).mono ?_;rintro e w' ⟨rfl,hb⟩;obtain ⟨⟨⟨f0,f1,f2⟩,⟨f3,f4,f5⟩,⟨f6,f7,f8,f9⟩,y0,y1,y2,y3,y4⟩,q7,qq7⟩:=HBK.out w' hb)
  all_goals
   have B4:=HB3.out.keep (V':=w') ⟨hb.os,hb.tape,hb.output,hb.size,hb.block⟩
   have B5:=B4.turn ((Below.refl g w').setCell (p:=⟨g,k * 8+7,none⟩) (Nat.le_refl _) (.int .i64 0)) (B4.lst.put hk (j:=7) (by omega) (.int .i64 0) (goD l[k]) rfl)
   clear f0 f1 f2 f3 f4 f5 f6 f7 f8 f9 y0 y1 y2 y3 y4 q7 qq7 hb B4 a0 a1 a2 a3 a4 a5 a6 a7 a8 a9 c7 zz7 hz0 hz1 hz2 hz3 hzg
   generalize w'.setCell ⟨g,k * 8+7,none⟩ (.int .i64 0)=Y at *
   obtain ⟨⟨a0,a1,a2⟩,⟨a3,a4,a5⟩,⟨a6,a7,a8,a9⟩,hz0,hz1,hz2,hz3,hzg⟩:=B5.facts
   have HB5:=Lib.hid B5
   clear B5
   go_wp2_with fail
   refine (HCM.out (l.set k (goD l[k])) i (by simpa using hi) _ _ _ HB5.out).mono ?_
   rintro e w5 ⟨rfl,hL5,hb5⟩
   have B6:=HB5.out.turn hb5 hL5
   rw [List.getElem_set_ne HNE.out] at B6
   have HB6:=Lib.hid B6
   clear a0 a1 a2 a3 a4 a5 a6 a7 a8 a9 hz0 hz1 hz2 hz3 hzg hL5 hb5
   obtain ⟨⟨a0,a1,a2⟩,⟨a3,a4,a5⟩,⟨a6,a7,a8,a9⟩,_⟩:=B6.facts
   obtain ⟨⟨r0,r1,r2⟩,⟨z0,z1,z2⟩,z3,z4⟩:=B6.facts2
   clear B6
   go_wp2
   refine bodyPost_ret (v:=stateV (some ⟨g,0,none⟩) n2 c3 (wrap64 (p+1)) s) ?_ rfl ⟨_,rfl,?_⟩
   ·simp [results,Tryz.results110,go_sem, *]
   ·rw [HE.out]
    exact HB6.out.done (by simpa using S1.out.symm) HLEN.out.1 HLEN.out.2
 have d4:(m.kind == 4)=false:=by simp [h4]
 have d1:(m.kind == 1)=true:=by rcases hk1 with h | h | h | h <;> simp_all
 have HE:=Lib.hid (show behindD x ⟨l,p,s⟩ m=⟨l.set i (comeD x m.node l[i]),p,s⟩ by simp only [behindD,if_neg h2,if_neg h3,if_neg h4,HIX.out,HPZ.out])
 clear h2 h3 h4 hk1
 go_wp2_with fail
 refine (HCM.out l i hi _ _ _ HB2.out).mono ?_
 rintro e w5 ⟨rfl,hL5,hb5⟩
 have B5:=HB2.out.turn hb5 hL5
 have HB5:=Lib.hid B5
 clear r0 r1 r2 z0 z1 z2 z3 z4 a0 a1 a2 a3 a4 a5 a6 a7 a8 a9 B2 hL5 hb5
 obtain ⟨⟨a0,a1,a2⟩,⟨a3,a4,a5⟩,⟨a6,a7,a8,a9⟩,_⟩:=B5.facts
 obtain ⟨⟨r0,r1,r2⟩,⟨z0,z1,z2⟩,z3,z4⟩:=B5.facts2
 go_wp2
 refine bodyPost_ret (v:=stateV (some ⟨g,0,none⟩) n2 c3 p s) ?_ rfl ⟨_,rfl,?_⟩
 ·simp [results,Tryz.results110,go_sem, *]
 ·rw [HE.out]
  exact HB5.out.done (by simpa using S1.out.symm) HLEN.out.1 HLEN.out.2
def noState:StateD:=⟨[],0,0⟩
def makeD (nodes:List NodeD) (x:List WantD) (t:StateD) (m:MoveD):StateD × Int :=
 if wellD m=false then (noState,1) else if hereD nodes t.pods m=false then (noState,4) else if canD t.pods m=false then (noState,7) else (behindD x t m,0)
def codeV (c:Int):Value:=if c=0 then .nilIface else .iface 42 (.int .i64 c)
theorem well_kinds {m:MoveD} (h:wellD m=true):m.kind=1∨m.kind=2∨m.kind=3∨m.kind=4:=by
 unfold wellD at h
 split at h
 ·omega
 ·split at h
  ·omega
  ·have:m.kind=4:=by simpa using h
   omega
theorem here_pod {nodes:List NodeD} {l:List PodD} {m:MoveD} (h:hereD nodes l m=true):¬ place PodD.id m.pod l 0<0:=by
 intro e
 simp [hereD,e] at h
theorem here_over {nodes:List NodeD} {l:List PodD} {m:MoveD} (h:hereD nodes l m=true) (hc:canD l m=true):m.kind=4→¬ place PodD.id m.over l 0<0∧m.over≠m.pod:=by
 intro h4
 constructor
 ·intro e
  simp [hereD,e,h4] at h
 ·intro e
  simp [canD,h4,e] at hc
structure Mk (snap spec state move:List Value) (w V:World):Prop where
 snap:Bf V w.heap.size snap
 spec:Bf V (w.heap.size+1) spec
 state:Bf V (w.heap.size+2) state
 move:Bf V (w.heap.size+3) move
 res:Bf V (w.heap.size+4) [.slice none 0 0,.int .i64 0,.int .i64 0]
 below:Below w.heap.size w V
section
variable {a b c d:List Value} {w V V':World}
theorem Mk.keep (h:Mk a b c d w V) (hb:Below V.heap.size V V'):Mk a b c d w V' :=
 ⟨h.snap.below hb h.snap.lt,h.spec.below hb h.spec.lt,h.state.below hb h.state.lt,h.move.below hb h.move.lt,h.res.below hb h.res.lt,h.below.trans (hb.mono h.below.size)⟩
theorem Mk.new (w:World) (a b c d:List Value) (t1 t2 t3 t4 t5:TypeId):Mk a b c d w (((((w.alloc (.cells a.toArray t1)).alloc (.cells b.toArray t2)).alloc (.cells c.toArray t3)).alloc (.cells d.toArray t4)).alloc (.cells #[.slice none 0 0,.int .i64 0,.int .i64 0] t5)) :=
 ⟨((((Bf.new w a t1 rfl).alloc _).alloc _).alloc _).alloc _,(((Bf.new (w.alloc (.cells a.toArray t1)) b t2 (b:=w.heap.size+1) (by simp)).alloc _).alloc _).alloc _,
  ((Bf.new ((w.alloc (.cells a.toArray t1)).alloc (.cells b.toArray t2)) c t3 (b:=w.heap.size+2) (by simp)).alloc _).alloc _,(Bf.new (((w.alloc (.cells a.toArray t1)).alloc (.cells b.toArray t2)).alloc (.cells c.toArray t3)) d t4 (b:=w.heap.size+3) (by simp)).alloc _,
  Bf.new ((((w.alloc (.cells a.toArray t1)).alloc (.cells b.toArray t2)).alloc (.cells c.toArray t3)).alloc (.cells d.toArray t4)) [.slice none 0 0,.int .i64 0,.int .i64 0] t5 (b:=w.heap.size+4) (by simp),
  (below_four w _ _ _ _).alloc (by simp;omega) _⟩
theorem Mk.facts {a0 a1 a2 b0 b1 b2 c0 c1 c2 d0 d1 d2 d3:Value} (h:Mk [a0,a1,a2] [b0,b1,b2] [c0,c1,c2] [d0,d1,d2,d3] w V) :
  (V.cell? ⟨w.heap.size,0,none⟩=some a0∧V.cell? ⟨w.heap.size,1,none⟩=some a1∧V.cell? ⟨w.heap.size,2,none⟩=some a2) ∧
  (V.cell? ⟨w.heap.size+1,0,none⟩=some b0∧V.cell? ⟨w.heap.size+1,1,none⟩=some b1∧V.cell? ⟨w.heap.size+1,2,none⟩=some b2) ∧
  (V.cell? ⟨w.heap.size+2,0,none⟩=some c0∧V.cell? ⟨w.heap.size+2,1,none⟩=some c1∧V.cell? ⟨w.heap.size+2,2,none⟩=some c2) ∧
  (V.cell? ⟨w.heap.size+3,0,none⟩=some d0∧V.cell? ⟨w.heap.size+3,1,none⟩=some d1∧V.cell? ⟨w.heap.size+3,2,none⟩=some d2∧V.cell? ⟨w.heap.size+3,3,none⟩=some d3) :=
 ⟨⟨h.snap.cell 0 _ rfl,h.snap.cell 1 _ rfl,h.snap.cell 2 _ rfl⟩,⟨h.spec.cell 0 _ rfl,h.spec.cell 1 _ rfl,h.spec.cell 2 _ rfl⟩,⟨h.state.cell 0 _ rfl,h.state.cell 1 _ rfl,h.state.cell 2 _ rfl⟩,⟨h.move.cell 0 _ rfl,h.move.cell 1 _ rfl,h.move.cell 2 _ rfl,h.move.cell 3 _ rfl⟩⟩
theorem Mk.facts2 (h:Mk a b c d w V) :
  (V.cell? ⟨w.heap.size+4,0,none⟩=some (.slice none 0 0)∧V.cell? ⟨w.heap.size+4,1,none⟩=some (.int .i64 0)∧V.cell? ⟨w.heap.size+4,2,none⟩=some (.int .i64 0)) ∧
  (V.frozen? ⟨w.heap.size+4,0,none⟩=false∧V.frozen? ⟨w.heap.size+4,1,none⟩=false∧V.frozen? ⟨w.heap.size+4,2,none⟩=false)∧w.heap.size+4<V.heap.size :=
 ⟨⟨h.res.cell 0 _ rfl,h.res.cell 1 _ rfl,h.res.cell 2 _ rfl⟩,⟨h.res.frozen 0,h.res.frozen 1,h.res.frozen 2⟩,h.res.lt⟩
theorem Mk.no (h:Mk a b c d w V) {x y z:Value}:StateTo noState w (stateV none 0 0 0 0) (((V.setCell ⟨w.heap.size+4,0,none⟩ x).setCell ⟨w.heap.size+4,1,none⟩ y).setCell ⟨w.heap.size+4,2,none⟩ z) :=
 ⟨none,0,rfl,Out.nil rfl,(by intro a e;cases e),((h.below.setCell (by simp) _).setCell (by simp) _).setCell (by simp) _⟩
end
theorem Out.set {l:List PodD} {w:World} {A:Option Addr} {c:Nat} (h:Out 8 cellsP w l A c) {p:Addr} (hp:∀ a,A=some a→a.block≠p.block) (v:Value):Out 8 cellsP (w.setCell p v) l A c:=by
 refine ⟨h.1,h.2.1,h.2.2.1,?_⟩
 rcases h.2.2.2 with h0 | ⟨b,o,e,hb,hc⟩
 ·exact .inl h0
 ·refine .inr ⟨b,o,e,by simpa using hb,fun i hi j u hu=>?_⟩
  have:=hp _ e
  rw [World.cell?_setCell_other _ _ _ _ (by intro e';rw [e'] at this;exact this rfl)]
  exact hc i hi j u hu
set_option maxHeartbeats 6400000 in
set_option maxRecDepth 100000 in
theorem make_any (nodes:List NodeD) (x:List WantD) (t:StateD) (m:MoveD) (A1 A2 A3 A A4:Option Addr) (n1 c1 n2 c2 n3 c3 n c n4 c4:Nat) (v1 v2:Value) (w:World)
  (hn1:n1=nodes.length) (hl1:n1≤1000) (hr1:Recs 10 cellsN w w.heap.size A1 nodes) (hn:n=x.length) (hl:n≤1000) (hr:Recs 6 cellsW w w.heap.size A x) (hn4:n4=t.pods.length) (hl4:n4≤1000) (h04:A4=none→c4=0) (hr4:Recs 8 cellsP w w.heap.size A4 t.pods) :
  Calls Tryz.prog 69 #[.agg #[.slice A1 n1 c1,.slice A2 n2 c2,.slice A3 n3 c3],.agg #[.slice A n c,v1,v2],stateV A4 n4 c4 t.preempts t.shifts,aggM m] w
   fun e w'=>∃ v,e=.returned (.tuple #[v,codeV (makeD nodes x t m).2])∧StateTo (makeD nodes x t m).1 w v w':=by
 have HR1:=Lib.hid hr1
 have HR:=Lib.hid hr
 have HR4:=Lib.hid hr4
 have HN1:=Lib.hid hn1
 have HN:=Lib.hid hn
 have HN4:=Lib.hid hn4
 have H04:=Lib.hid h04
 clear hr1 hr hr4 hn1 hn hn4 h04
 have M0:=Mk.new w [.slice A1 n1 c1,.slice A2 n2 c2,.slice A3 n3 c3] [.slice A n c,v1,v2] [.slice A4 n4 c4,.int .i64 t.preempts,.int .i64 t.shifts] [.int .i64 m.kind,.int .i64 m.pod,.int .i64 m.node,.int .i64 m.over] 26 29 44 89 44
 go_enter Tryz.func69,Tryz.ntmps69
 go_wp2_with fail
 refine (stateWell_any m _).mono ?_
 rintro e w1 ⟨rfl,hb1⟩
 have M1:=M0.keep hb1
 clear hb1 M0
 obtain ⟨⟨a0,a1,a2⟩,⟨a3,a4,a5⟩,⟨a6,a7,a8⟩,a9,a10,a11,a12⟩:=M1.facts
 obtain ⟨⟨r0,r1,r2⟩,⟨z0,z1,z2⟩,hz⟩:=M1.facts2
 cases hw:wellD m with
 | false =>
  have HE:=Lib.hid (show makeD nodes x t m=(noState,1) by simp [makeD,hw])
  have HM:=Lib.hid M1
  clear M1
  go_wp2
  refine bodyPost_ret (v:=.tuple #[stateV none 0 0 0 0,codeV 1]) ?_ rfl ⟨_,by rw [HE.out],?_⟩
  ·simp [results,Tryz.results69,go_sem,codeV, *]
  ·rw [HE.out];exact HM.out.no
 | true =>
  have HT:=Lib.hid (allThere_any nodes t.pods m A1 A2 A3 A4 n1 c1 n2 c2 n3 c3 n4 c4 (.int .i64 t.preempts) (.int .i64 t.shifts) w1 HN1.out hl1 HN4.out hl4 ((HR1.out.below M1.below (Nat.le_refl _)).more M1.below.size) ((HR4.out.below M1.below (Nat.le_refl _)).more M1.below.size))
  go_wp2_with fail
  refine HT.out.mono ?_
  rintro e w2 ⟨rfl,hb2⟩
  have M2:=M1.keep hb2
  clear hb2 M1 HT a0 a1 a2 a3 a4 a5 a6 a7 a8 a9 a10 a11 a12 r0 r1 r2 z0 z1 z2 hz
  obtain ⟨⟨a0,a1,a2⟩,⟨a3,a4,a5⟩,⟨a6,a7,a8⟩,a9,a10,a11,a12⟩:=M2.facts
  obtain ⟨⟨r0,r1,r2⟩,⟨z0,z1,z2⟩,hz⟩:=M2.facts2
  cases hh:hereD nodes t.pods m with
  | false =>
   have HE:=Lib.hid (show makeD nodes x t m=(noState,4) by simp [makeD,hw,hh])
   have HM:=Lib.hid M2
   clear M2
   go_wp2
   refine bodyPost_ret (v:=.tuple #[stateV none 0 0 0 0,codeV 4]) ?_ rfl ⟨_,by rw [HE.out],?_⟩
   ·simp [results,Tryz.results69,go_sem,codeV, *]
   ·rw [HE.out];exact HM.out.no
  | true =>
   have HT:=Lib.hid (canBeMade_any t.pods m A4 n4 c4 (.int .i64 t.preempts) (.int .i64 t.shifts) w2 HN4.out hl4 ((HR4.out.below M2.below (Nat.le_refl _)).more M2.below.size))
   go_wp2_with fail
   refine HT.out.mono ?_
   rintro e w3 ⟨rfl,hb3⟩
   have M3:=M2.keep hb3
   clear hb3 M2 HT a0 a1 a2 a3 a4 a5 a6 a7 a8 a9 a10 a11 a12 r0 r1 r2 z0 z1 z2 hz
   obtain ⟨⟨a0,a1,a2⟩,⟨a3,a4,a5⟩,⟨a6,a7,a8⟩,a9,a10,a11,a12⟩:=M3.facts
   obtain ⟨⟨r0,r1,r2⟩,⟨z0,z1,z2⟩,hz⟩:=M3.facts2
   cases hc:canD t.pods m with
   | false =>
    have HE:=Lib.hid (show makeD nodes x t m=(noState,7) by simp [makeD,hw,hh,hc])
    have HM:=Lib.hid M3
    clear M3
    go_wp2
    refine bodyPost_ret (v:=.tuple #[stateV none 0 0 0 0,codeV 7]) ?_ rfl ⟨_,by rw [HE.out],?_⟩
    ·simp [results,Tryz.results69,go_sem,codeV, *]
    ·rw [HE.out];exact HM.out.no
   | true =>
    have HE:=Lib.hid (show makeD nodes x t m=(behindD x t m,0) by simp [makeD,hw,hh,hc])
    have HT:=Lib.hid (behind_any x t m (well_kinds hw) (here_pod hh) (here_over hh hc) A A4 n c n4 c4 v1 v2 w3 HN.out hl ((HR.out.below M3.below (Nat.le_refl _)).more M3.below.size) HN4.out hl4 H04.out ((HR4.out.below M3.below (Nat.le_refl _)).more M3.below.size))
    go_wp2_with fail
    refine HT.out.mono ?_
    rintro e w4 ⟨_,rfl,A5,c5,rfl,ho,hfr,hb4⟩
    have M4:=M3.keep hb4
    have hfr5:∀ a,A5=some a→a.block≠w.heap.size+4:=fun a ha=>by have:=hfr a ha;omega
    have hfr6:∀ a,A5=some a→w.heap.size≤a.block:=fun a ha=>by have:=hfr a ha;omega
    generalize hu:behindD x t m=u at *
    have HM:=Lib.hid M4
    have HOU:=Lib.hid ho
    have HF5:=Lib.hid (And.intro hfr5 hfr6)
    clear M3 ho hfr hb4 HT hu hfr5 hfr6 a0 a1 a2 a3 a4 a5 a6 a7 a8 a9 a10 a11 a12 r0 r1 r2 z0 z1 z2 hz
    obtain ⟨⟨r0,r1,r2⟩,⟨z0,z1,z2⟩,hz⟩:=M4.facts2
    clear M4
    go_wp2
    refine bodyPost_ret (v:=.tuple #[stateV A5 u.pods.length c5 u.preempts u.shifts,codeV 0]) ?_ rfl ⟨_,by rw [HE.out],?_⟩
    ·simp [results,Tryz.results69,go_sem,codeV, *]
    ·rw [HE.out]
     exact ⟨A5,c5,rfl,((HOU.out.set (p:=⟨w.heap.size+4,0,none⟩) HF5.out.1 _).set (p:=⟨w.heap.size+4,1,none⟩) HF5.out.1 _).set (p:=⟨w.heap.size+4,2,none⟩) HF5.out.1 _,HF5.out.2,((HM.out.below.setCell (by simp;omega) _).setCell (by simp;omega) _).setCell (by simp;omega) _⟩
def inS (load:Int) (p:PodD):Bool:=p.load == load && p.node != 0
def sizeD (load:Int) (l:List PodD):Nat:=l.countP (inS load)
theorem size_le9 (load:Int) (l:List PodD):sizeD load l≤l.length:=List.countP_le_length
theorem size_next9 {load:Int} {l:List PodD} {k:Nat} (h:k<l.length) {p:PodD} (hx:l[k]=p):sizeD load (l.take (k+1))=sizeD load (l.take k)+if inS load p=true then 1 else 0:=by
 unfold sizeD
 rw [List.take_succ_eq_append_getElem h,hx,List.countP_append]
 simp [List.countP_cons]
theorem size_in9 {load:Int} {l:List PodD} {k:Nat} (h:k<l.length) {p:PodD} (hx:l[k]=p) (hl:p.load=load) (hn:p.node≠0):sizeD load (l.take (k+1))=sizeD load (l.take k)+1:=by
 rw [size_next9 h hx,if_pos (by simp [inS,hl,hn])]
theorem size_out9 {load:Int} {l:List PodD} {k:Nat} (h:k<l.length) {p:PodD} (hx:l[k]=p) (ho:p.load=load→p.node=0):sizeD load (l.take (k+1))=sizeD load (l.take k):=by
 rw [size_next9 h hx,if_neg (by simp [inS];exact ho)]
 rfl
theorem size_end9 {load:Int} {l:List PodD} {k:Nat} (h:l.length≤k):sizeD load (l.take k)=sizeD load l:=by rw [List.take_of_length_le h]
theorem made_len9 {ns:List NodeD} {x:List WantD} {t:StateD} {m:MoveD} (h:(makeD ns x t m).2=0):(makeD ns x t m).1.pods.length=t.pods.length:=by
 have e:(makeD ns x t m).1=behindD x t m:=by
  unfold makeD at h ⊢
  split at h
  ·cases h
  ·split at h
   ·cases h
   ·split at h
    ·cases h
    ·rename_i q1 q2 q3
     rw [if_neg q1,if_neg q2,if_neg q3]
 rw [e]
 unfold behindD
 split
 ·simp
 ·split
  ·simp
  ·split <;> simp
def fault9 (x:LoadD) (n:Int):Int:=if n<x.min then 12 else if x.max<n then 13 else 0
theorem fault9_few {x:LoadD} {n:Int} (h:n<x.min):fault9 x n=12:=by rw [fault9,if_pos h]
theorem fault9_many {x:LoadD} {n:Int} (h1:¬ n<x.min) (h:x.max<n):fault9 x n=13:=by rw [fault9,if_neg h1,if_pos h]
theorem fault9_none {x:LoadD} {n:Int} (h1:¬ n<x.min) (h:¬ x.max<n):fault9 x n=0:=by rw [fault9,if_neg h1,if_neg h]
def budgetFrom (l:List PodD):List LoadD→Nat→Int × Int
 | [],_=>(0,-1)
 | x :: r,k=>if fault9 x (sizeD x.id l:Nat)=0 then budgetFrom l r (k+1) else (fault9 x (sizeD x.id l:Nat),(k:Int))
def budgetOf (ls:List LoadD) (l:List PodD):Int × Int:=budgetFrom l ls 0
theorem budgetFrom_at {l:List PodD} {ls:List LoadD} {k:Nat} {z:Int × Int} (h:k<ls.length) {x:LoadD} (hx:ls[k]=x) (hp:budgetFrom l (ls.drop k) k=z) :
  (fault9 x (sizeD x.id l:Nat)≠0→z=(fault9 x (sizeD x.id l:Nat),(k:Int)))∧(fault9 x (sizeD x.id l:Nat)=0→budgetFrom l (ls.drop (k+1)) (k+1)=z):=by
 rw [List.drop_eq_getElem_cons h,hx,budgetFrom] at hp
 constructor
 ·intro e;rw [if_neg e] at hp;exact hp.symm
 ·intro e;rw [if_pos e] at hp;exact hp
theorem budgetFrom_end {l:List PodD} {ls:List LoadD} {k:Nat} {z:Int × Int} (h:ls.length≤k) (hp:budgetFrom l (ls.drop k) k=z):z=(0,-1):=by
 rw [List.drop_of_length_le h] at hp
 exact hp.symm
def usedD (x1 x2 t1 t2:Int):Bool:=decide (x1<t1) || decide (x2<t2)
end Go.Proofs.YthapilknnhlmfaaGreatDoor
namespace Go.Proofs.YthapilknnhlmfaaGreatDoor
set_option linter.unusedSimpArgs false
open Go.Lib
theorem rising_eq:∀ {a b:List Int},Rising a→Rising b→(∀ y,y ∈ a ↔ y ∈ b)→a=b
 | [],[],_,_,_=>rfl
 | [],y :: r,_,_,h=>by have:=(h y).2 (by simp);simp at this
 | x :: r,[],_,_,h=>by have:=(h x).1 (by simp);simp at this
 | x :: r,y :: t,ha,hb,h=>by
  have hxy:x=y:=by
   rcases List.mem_cons.1 ((h x).1 (by simp)) with e | e
   ·exact e
   ·rcases List.mem_cons.1 ((h y).2 (by simp)) with f | f
    ·exact f.symm
    ·have h1:=hb.1 x e
     have h2:=ha.1 y f
     omega
  subst hxy
  have hr:r=t:=rising_eq ha.2 hb.2 fun z=>by
   constructor
   ·intro hz
    rcases List.mem_cons.1 ((h z).1 (by simp [hz])) with e | e
    ·have:=ha.1 z hz;omega
    ·exact e
   ·intro hz
    rcases List.mem_cons.1 ((h z).2 (by simp [hz])) with e | e
    ·have:=hb.1 z hz;omega
    ·exact e
  rw [hr]
theorem rising_snoc {z:Int}:∀ {l:List Int},Rising l→(∀ y ∈ l,y<z)→Rising (l++[z])
 | [],_,_=>⟨by simp,trivial⟩
 | x :: r,h,hz=>by
  refine ⟨fun y hy=>?_,rising_snoc h.2 fun y hy=>hz y (by simp [hy])⟩
  rcases List.mem_append.1 hy with hy | hy
  ·exact h.1 y hy
  ·rw [List.mem_singleton.1 hy];exact hz x (by simp)

theorem compact_upTo (d:Array Int) (hs:∀ i j,i≤j→j<d.size→d[i]! ≤ d[j]!):∀ m,m≤d.size→Rising (compactUpTo d m)∧∀ y,y ∈ compactUpTo d m ↔ ∃ j,j<m∧d[j]! = y
 | 0,_=>⟨by simp [compactUpTo,Rising],fun y=>by simp [compactUpTo]⟩
 | m+1,hm=>by
  obtain ⟨h1,h2⟩:=compact_upTo d hs m (by omega)
  rw [compactUpTo_succ]
  by_cases hk:keeps d m=true
  ·rw [if_pos hk]
   refine ⟨rising_snoc h1 fun y hy=>?_,fun y=>?_⟩
   ·obtain ⟨j,hj,rfl⟩:=(h2 y).1 hy
    have hne:d[m]! ≠ d[m - 1]! := by
     have:=hk
     unfold keeps at this
     rcases of_decide_eq_true this with e | e
     ·omega
     ·exact e
    have a1:=hs j (m - 1) (by omega) (by omega)
    have a2:=hs (m - 1) m (by omega) (by omega)
    omega
   ·constructor
    ·intro hy
     rcases List.mem_append.1 hy with hy | hy
     ·obtain ⟨j,hj,e⟩:=(h2 y).1 hy
      exact ⟨j,by omega,e⟩
     ·exact ⟨m,by omega,(List.mem_singleton.1 hy).symm⟩
    ·rintro ⟨j,hj,e⟩
     by_cases hjm:j=m
     ·subst hjm;simp [e]
     ·exact List.mem_append.2 (.inl ((h2 y).2 ⟨j,by omega,e⟩))
  ·rw [if_neg hk,List.append_nil]
   refine ⟨h1,fun y=>?_⟩
   have hk':m≠0∧d[m]! = d[m - 1]! := by
    have e:¬ (m=0∨d[m]! ≠ d[m - 1]!):=fun e=>hk (by unfold keeps;exact decide_eq_true e)
    refine ⟨fun h=>e (.inl h),?_⟩
    by_cases q:d[m]! = d[m - 1]!
    ·exact q
    ·exact absurd (.inr q) e
   constructor
   ·intro hy
    obtain ⟨j,hj,e⟩:=(h2 y).1 hy
    exact ⟨j,by omega,e⟩
   ·rintro ⟨j,hj,e⟩
    by_cases hjm:j=m
    ·subst hjm
     exact (h2 y).2 ⟨j - 1,by omega,by rw [← hk'.2];exact e⟩
    ·exact (h2 y).2 ⟨j,by omega,e⟩

theorem compact_sorted (ts:List Int) (hs:ts.Pairwise (·≤·)):Rising (compact ts)∧∀ y,y ∈ compact ts ↔ y ∈ ts:=by
 have hget:∀ i,∀ h:i<ts.length,ts.toArray[i]! = ts[i]:=fun i h=>by simp [h]
 have key:=compact_upTo ts.toArray (fun i j hij hj=>by
  have hj':j<ts.length:=by simpa using hj
  rw [hget i (by omega),hget j hj']
  by_cases e:i=j
  ·subst e;exact Int.le_refl _
  ·exact List.pairwise_iff_getElem.1 hs i j (by omega) hj' (by omega)) ts.length (by simp)
 refine ⟨key.1,fun y=>(key.2 y).trans ?_⟩
 constructor
 ·rintro ⟨j,hj,rfl⟩
  rw [hget j hj]
  exact List.getElem_mem hj
 ·intro hy
  obtain ⟨j,hj,rfl⟩:=List.mem_iff_getElem.1 hy
  exact ⟨j,hj,hget j hj⟩
theorem zones_mem (l:List NodeD):∀ (acc:List Int) (y:Int),y ∈ l.foldl (fun acc n=>insZ n.zone acc) acc ↔ y ∈ l.map NodeD.zone∨y ∈ acc:=by
 induction l with
 | nil=>intro acc y;simp
 | cons n r ih =>
  intro acc y
  simp only [List.foldl_cons,ih,insZ_mem,List.map_cons,List.mem_cons]
  constructor
  ·rintro (h | h | h)
   ·exact .inl (.inr h)
   ·exact .inl (.inl h)
   ·exact .inr h
  ·rintro ((h | h) | h)
   ·exact .inr (.inl h)
   ·exact .inl h
   ·exact .inr (.inr h)
theorem zones_compact (l:List NodeD):compact ((l.map NodeD.zone).mergeSort fun x y=>decide (x≤y))=zonesOf l:=by
 have hs:((l.map NodeD.zone).mergeSort fun x y=>decide (x≤y)).Pairwise (·≤·):=by
  have:=List.pairwise_mergeSort (le:=fun x y:Int=>decide (x≤y)) (fun a b c h1 h2=>by simp at *;omega) (fun a b=>by simp;omega) (l.map NodeD.zone)
  exact this.imp fun h=>by simpa using h
 obtain ⟨h1,h2⟩:=compact_sorted _ hs
 refine rising_eq h1 (zones_fold l [] trivial).1 fun y=>(h2 y).trans ?_
 rw [List.mem_mergeSort]
 unfold zonesOf
 rw [zones_mem]
 simp
end Go.Proofs.YthapilknnhlmfaaGreatDoor
namespace Go.Proofs.YthapilknnhlmfaaGreatDoor
set_option linter.unusedSimpArgs false
open Go.RowKit
set_option linter.unusedVariables false
def zoneD (ns:List NodeD) (p:PodD):Option Int :=
 if p.node=0 then none else
  if place NodeD.id p.node ns 0<0 then none else (ns[(place NodeD.id p.node ns 0).toNat]?).map NodeD.zone
theorem zoneD_nowhere {ns:List NodeD} {p:PodD} (h:p.node=0):zoneD ns p=none:=by simp [zoneD,h]
theorem zoneD_none {ns:List NodeD} {p:PodD} (h:place NodeD.id p.node ns 0<0):zoneD ns p=none:=by simp [zoneD,h]
theorem zoneD_some {ns:List NodeD} {p:PodD} {i:Nat} (h0:p.node≠0) (hi:i<ns.length) (h:place NodeD.id p.node ns 0=i):zoneD ns p=some ns[i].zone:=by
 have:¬ (i:Int)<0:=by omega
 simp [zoneD,h0,h,this,hi]
def inZ (ns:List NodeD) (load z:Int) (p:PodD):Bool:=p.load == load && zoneD ns p == some z
def countD (ns:List NodeD) (load z:Int) (l:List PodD):Nat:=l.countP (inZ ns load z)
def countsD (ns:List NodeD) (load:Int) (zs:List Int) (l:List PodD):List Int:=zs.map fun z=>(countD ns load z l:Int)
theorem counts_len {ns:List NodeD} {load:Int} {zs:List Int} {l:List PodD}:(countsD ns load zs l).length=zs.length:=by simp [countsD]
theorem count_le (ns:List NodeD) (load z:Int) (l:List PodD):countD ns load z l≤l.length:=List.countP_le_length
theorem count_next {ns:List NodeD} {load z:Int} {l:List PodD} {k:Nat} (h:k<l.length) {p:PodD} (hx:l[k]=p):countD ns load z (l.take (k+1))=countD ns load z (l.take k)+if inZ ns load z p=true then 1 else 0:=by
 unfold countD
 rw [List.take_succ_eq_append_getElem h,hx,List.countP_append]
 simp [List.countP_cons]
theorem counts_zero (ns:List NodeD) (load:Int) (zs:List Int) (l:List PodD):countsD ns load zs (l.take 0)=List.replicate zs.length 0:=by
 simp [countsD,countD,List.map_const']
theorem counts_skip {ns:List NodeD} {load:Int} {zs:List Int} {l:List PodD} {k:Nat} (h:k<l.length) {p:PodD} (hx:l[k]=p) (hno:∀ z ∈ zs,inZ ns load z p=false):countsD ns load zs (l.take (k+1))=countsD ns load zs (l.take k):=by
 unfold countsD
 refine List.map_congr_left fun z hz=>?_
 rw [count_next h hx,hno z hz]
 simp
theorem inZ_load {ns:List NodeD} {load z:Int} {p:PodD} (h:p.load≠load):inZ ns load z p=false:=by simp [inZ,h]
theorem inZ_none {ns:List NodeD} {load z:Int} {p:PodD} (h:zoneD ns p=none):inZ ns load z p=false:=by simp [inZ,h]
theorem inZ_other {ns:List NodeD} {load z y:Int} {p:PodD} (h:zoneD ns p=some y) (hy:y≠z):inZ ns load z p=false:=by simp [inZ,h,hy]
theorem inZ_here {ns:List NodeD} {load z:Int} {p:PodD} (hl:p.load=load) (h:zoneD ns p=some z):inZ ns load z p=true:=by simp [inZ,h,hl]
theorem rising_at8 {z:Int}:∀ {zs:List Int},Rising zs→z ∈ zs→∃ hi:zs.countP (·<z)<zs.length,zs[zs.countP (·<z)]=z∧∀ j,∀ hj:j<zs.length,j≠zs.countP (·<z)→zs[j]≠z
 | [],_,h=>by simp at h
 | x :: r,hr,h=>by
  by_cases hx:x=z
  ·subst hx
   have h0:r.countP (·<x)=0:=by
    rw [List.countP_eq_zero]
    intro y hy
    have:=hr.1 y hy
    simp;omega
   have e:(x :: r).countP (·<x)=0:=by simp [h0]
   refine ⟨by rw [e];simp,by simp [e],fun j hj hne=>?_⟩
   rw [e] at hne
   cases j with
   | zero=>exact absurd rfl hne
   | succ j =>
    have:=hr.1 _ (List.getElem_mem (l:=r) (n:=j) (by simpa using hj))
    simp only [List.getElem_cons_succ]
    omega
  ·have hm:z ∈ r:=by
    rcases List.mem_cons.1 h with e | e
    ·exact absurd e.symm hx
    ·exact e
   obtain ⟨i1,i2,i3⟩:=rising_at8 hr.2 hm
   have hlt:=hr.1 z hm
   have e:(x :: r).countP (·<z)=r.countP (·<z)+1:=by simp [hlt]
   refine ⟨by rw [e];simpa using i1,by simp only [e,List.getElem_cons_succ];exact i2,fun j hj hne=>?_⟩
   rw [e] at hne
   cases j with
   | zero=>simpa using hx
   | succ j=>simp only [List.getElem_cons_succ];exact i3 j (by simpa using hj) (by omega)
theorem counts_bump {ns:List NodeD} {load z:Int} {zs:List Int} {l:List PodD} {k:Nat} (h:k<l.length) {p:PodD} (hx:l[k]=p) (hl:p.load=load) (hz:zoneD ns p=some z) (hr:Rising zs) (hm:z ∈ zs) :
  zs.countP (·<z)<zs.length∧(countsD ns load zs (l.take k))[zs.countP (·<z)]?=some (countD ns load z (l.take k):Int)∧countsD ns load zs (l.take (k+1))=(countsD ns load zs (l.take k)).set (zs.countP (·<z)) ((countD ns load z (l.take k):Int)+1):=by
 obtain ⟨hi,he,hne⟩:=rising_at8 hr hm
 refine ⟨hi,?_,?_⟩
 ·unfold countsD
  rw [List.getElem?_map,List.getElem?_eq_getElem hi,he]
  rfl
 ·refine List.ext_getElem (by simp [counts_len]) fun j h1 h2=>?_
  have hj:j<zs.length:=by simpa [counts_len] using h1
  rw [List.getElem_set]
  by_cases e:zs.countP (·<z)=j
  ·subst e
   rw [if_pos rfl]
   simp only [countsD,List.getElem_map,he]
   rw [count_next h hx,inZ_here hl hz]
   simp
  ·rw [if_neg e]
   simp only [countsD,List.getElem_map]
   rw [count_next h hx,inZ_other hz (fun q=>hne j hj (fun w=>e w.symm) q.symm)]
   simp
theorem rising_le:∀ {zs:List Int},Rising zs→zs.Pairwise (·≤·)
 | [],_=>List.Pairwise.nil
 | x :: r,h=>List.Pairwise.cons (fun y hy=>by have:=h.1 y hy;omega) (rising_le h.2)
theorem foldl_max:∀ (r:List Int) (a:Int),a≤r.foldl max a∧(∀ x ∈ r,x≤r.foldl max a)∧(r.foldl max a=a∨r.foldl max a ∈ r)
 | [],a=>⟨Int.le_refl _,by simp,.inl rfl⟩
 | y :: r,a=>by
  obtain ⟨h1,h2,h3⟩:=foldl_max r (max a y)
  refine ⟨by simp only [List.foldl_cons];omega,fun x hx=>?_,?_⟩
  ·simp only [List.foldl_cons]
   rcases List.mem_cons.1 hx with e | e
   ·omega
   ·exact h2 x e
  ·simp only [List.foldl_cons]
   rcases h3 with e | e
   ·rw [e]
    by_cases q:y≤a
    ·left;omega
    ·right;rw [show max a y=y by omega];simp
   ·right;simp [e]
theorem foldl_min:∀ (r:List Int) (a:Int),r.foldl min a≤a∧(∀ x ∈ r,r.foldl min a≤x)∧(r.foldl min a=a∨r.foldl min a ∈ r)
 | [],a=>⟨Int.le_refl _,by simp,.inl rfl⟩
 | y :: r,a=>by
  obtain ⟨h1,h2,h3⟩:=foldl_min r (min a y)
  refine ⟨by simp only [List.foldl_cons];omega,fun x hx=>?_,?_⟩
  ·simp only [List.foldl_cons]
   rcases List.mem_cons.1 hx with e | e
   ·omega
   ·exact h2 x e
  ·simp only [List.foldl_cons]
   rcases h3 with e | e
   ·rw [e]
    by_cases q:a≤y
    ·left;omega
    ·right;rw [show min a y=y by omega];simp
   ·right;simp [e]
theorem maxOf_spec {zs:List Int} (h:zs≠[]):Lib.maxOf zs ∈ zs∧∀ x ∈ zs,x≤Lib.maxOf zs:=by
 obtain ⟨a,r,rfl⟩:=List.exists_cons_of_ne_nil h
 obtain ⟨h1,h2,h3⟩:=foldl_max (a :: r) a
 refine ⟨?_,h2⟩
 rcases h3 with e | e
 ·unfold Lib.maxOf;rw [List.headD_cons,e];simp
 ·exact e
theorem minOf_spec {zs:List Int} (h:zs≠[]):Lib.minOf zs ∈ zs∧∀ x ∈ zs,Lib.minOf zs≤x:=by
 obtain ⟨a,r,rfl⟩:=List.exists_cons_of_ne_nil h
 obtain ⟨h1,h2,h3⟩:=foldl_min (a :: r) a
 refine ⟨?_,h2⟩
 rcases h3 with e | e
 ·unfold Lib.minOf;rw [List.headD_cons,e];simp
 ·exact e
def skewD (ns:List NodeD) (load:Int) (zs:List Int) (l:List PodD):Int:=if zs=[] then 0 else Lib.maxOf (countsD ns load zs l) - Lib.minOf (countsD ns load zs l)
theorem counts_ne {ns:List NodeD} {load:Int} {zs:List Int} {l:List PodD} (h:zs≠[]):countsD ns load zs l≠[]:=by
 intro e
 exact h (List.eq_nil_of_length_eq_zero (by rw [← counts_len (ns:=ns) (load:=load) (l:=l),e];rfl))
theorem counts_bounds {ns:List NodeD} {load:Int} {zs:List Int} {l:List PodD} {x:Int} (h:x ∈ countsD ns load zs l):0≤x∧x≤l.length:=by
 simp only [countsD,List.mem_map] at h
 obtain ⟨z,_,rfl⟩:=h
 have:=count_le ns load z l
 omega
theorem skew_max {ns:List NodeD} {load:Int} {zs:List Int} {l:List PodD} (h:zs≠[]):skewD ns load zs l=Lib.maxOf (countsD ns load zs l) - Lib.minOf (countsD ns load zs l)∧0≤Lib.minOf (countsD ns load zs l)∧Lib.minOf (countsD ns load zs l)≤Lib.maxOf (countsD ns load zs l)∧Lib.maxOf (countsD ns load zs l)≤l.length:=by
 have hn:=counts_ne (ns:=ns) (load:=load) (l:=l) h
 obtain ⟨m1,m2⟩:=maxOf_spec hn
 obtain ⟨n1,n2⟩:=minOf_spec hn
 exact ⟨by rw [skewD,if_neg h],(counts_bounds n1).1,m2 _ n1,(counts_bounds m1).2⟩
theorem below_drewN {B:Nat} {a w:World} (h:Below B a w) (n:Nat):Below B a (w.drewN n):=⟨h.os,h.tape,h.output,h.size,h.block⟩
theorem add64_ok (x y:Int) (hx:0≤x) (hy:0≤y) (h:x+y<18446744073709551616) (w:World) :
  (callFunc 205 #[.int .u64 x,.int .u64 y,.int .u64 0]).run Tryz.prog w=.ok (.value (.tuple #[.int .u64 (x+y),.int .u64 0])) w:=by
 rw [run_callFunc_extern Tryz.func205 (by kernel_rfl) (by kernel_rfl) (by kernel_rfl) (e:=add64Entry) (by kernel_rfl),
  run_add64 (P:=Tryz.prog) x y 0 hx hy (by omega) (by omega) w]
 rw [show (x+y+0) % 18446744073709551616=x+y by omega,show (x+y+0) / 18446744073709551616=0 by omega]
 rfl
theorem add64_over (x y:Int) (hx:0≤x) (hy:0≤y) (hx1:x<18446744073709551616) (hy1:y<18446744073709551616) (h:18446744073709551616≤x+y) (w:World) :
  (callFunc 205 #[.int .u64 x,.int .u64 y,.int .u64 0]).run Tryz.prog w=.ok (.value (.tuple #[.int .u64 ((x+y) % 18446744073709551616),.int .u64 1])) w:=by
 rw [run_callFunc_extern Tryz.func205 (by kernel_rfl) (by kernel_rfl) (by kernel_rfl) (e:=add64Entry) (by kernel_rfl),
  run_add64 (P:=Tryz.prog) x y 0 hx hy (by omega) (by omega) w]
 rw [show x+y+0=x+y by omega,show (x+y) / 18446744073709551616=1 by omega]
 rfl
theorem sub64_ok (x y:Int) (hx:0≤x) (hy:0≤y) (hx1:x<18446744073709551616) (h:y≤x) (w:World) :
  (callFunc 190 #[.int .u64 x,.int .u64 y,.int .u64 0]).run Tryz.prog w=.ok (.value (.tuple #[.int .u64 (x - y),.int .u64 0])) w:=by
 obtain ⟨x,rfl⟩:=Int.eq_ofNat_of_zero_le hx
 obtain ⟨y,rfl⟩:=Int.eq_ofNat_of_zero_le hy
 rw [run_callFunc_extern Tryz.func190 (by kernel_rfl) (by kernel_rfl) (by kernel_rfl) (e:=sub64Entry) (by kernel_rfl),show (sub64Entry #[.int .u64 x,.int .u64 y,.int .u64 0]).run Tryz.prog w=_ from run_sub64 x y 0 (by omega) w]
 rw [if_neg (by omega),show (((x+18446744073709551616 - y - 0) % 18446744073709551616:Nat):Int)=x - y by omega]
 rfl
theorem sub64_over (x y:Int) (hx:0≤x) (hy:0≤y) (h:x<y) (w:World) :
  (callFunc 190 #[.int .u64 x,.int .u64 y,.int .u64 0]).run Tryz.prog w=.ok (.value (.tuple #[.int .u64 ((x+18446744073709551616 - y).toNat % 18446744073709551616:Nat),.int .u64 1])) w:=by
 obtain ⟨x,rfl⟩:=Int.eq_ofNat_of_zero_le hx
 obtain ⟨y,rfl⟩:=Int.eq_ofNat_of_zero_le hy
 rw [run_callFunc_extern Tryz.func190 (by kernel_rfl) (by kernel_rfl) (by kernel_rfl) (e:=sub64Entry) (by kernel_rfl),show (sub64Entry #[.int .u64 x,.int .u64 y,.int .u64 0]).run Tryz.prog w=_ from run_sub64 x y 0 (by omega) w]
 rw [if_pos (by omega),show ((x:Int)+18446744073709551616 - y).toNat=x+18446744073709551616 - y - 0 by omega]
 rfl
end Go.Proofs.YthapilknnhlmfaaGreatDoor
