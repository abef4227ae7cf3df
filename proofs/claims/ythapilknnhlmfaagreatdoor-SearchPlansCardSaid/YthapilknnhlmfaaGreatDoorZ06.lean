/- Joined texts, part 6: UF UC UG UH. -/
import Derived.Test.YthapilknnhlmfaaGreatDoorZ03
import Derived.Test.YthapilknnhlmfaaGreatDoorZ02
import Derived.Test.YthapilknnhlmfaaGreatDoorZ05
import Derived.Test.YthapilknnhlmfaaGreatDoorZ01

namespace Go.Proofs.YthapilknnhlmfaaGreatDoor
set_option linter.unusedSimpArgs false
open Go.RowKit
set_option linter.unusedVariables false
theorem infoPod:(Tryz.prog.info? 63).map (fun i=>(i.zero,i.size,i.bytes))=some (some (.agg #[.int .i64 0,.int .i64 0,.int .i64 0,.int .u64 0,.int .u64 0,.int .u64 0,.int .u64 0,.int .i64 0]),8,64):=by kernel_rfl
theorem underPods:Tryz.prog.underlying 24=some (.slice 63):=by kernel_rfl
theorem onePod (x:PodD):∀ u ∈ cellsP x,u.oneCell'=true:=by
 intro u hu;simp only [cellsP,List.mem_cons,List.not_mem_nil,or_false] at hu
 rcases hu with rfl | rfl | rfl | rfl | rfl | rfl | rfl | rfl <;> rfl
theorem info_parts3 {P:Program} {t:TypeId} {z:Value} {s b:Nat} (h:(P.info? t).map (fun i=>(i.zero,i.size,i.bytes))=some (some z,s,b)):∃ i,P.info? t=some i∧i.zero=some z∧i.size=s∧i.bytes=b:=by
 cases hi:P.info? t with
 | none=>rw [hi] at h;cases h
 | some i =>
  rw [hi] at h
  have h:=Option.some.inj h
  simp only [Prod.mk.injEq] at h
  exact ⟨i,rfl,h.1,h.2.1,h.2.2⟩
theorem flatMap_len {α:Type} {size:Nat} {cells:α→List Value} (hc:∀ x,(cells x).length=size):∀ xs:List α,(xs.flatMap cells).length=xs.length * size
 | []=>by simp
 | x :: r=>by rw [List.flatMap_cons,List.length_append,hc,flatMap_len hc r,List.length_cons,Nat.add_one_mul];omega
section
variable {ops:Array Oper} {rest:List Oper} {o:Oper} {a:Act} {Q:Exit→Act→World→Prop} {wr:World}
theorem wpList_recs {α:Type} {cells:α→List Value} (t e:TypeId) (z:Value) (size bytes:Nat) (ht:Tryz.prog.underlying t=some (.slice e)) (hinfo:(Tryz.prog.info? e).map (fun i=>(i.zero,i.size,i.bytes))=some (some z,size,bytes)) (hz:z.cells.size=size) (hsz:0<size) (hby:bytes≤1000)
  (hc:∀ x,(cells x).length=size) (hu:∀ x,∀ u ∈ cells x,u.oneCell'=true)
  (hgd:o.guard=none) (s x:Operand) (ho:o.op=.call { callee:=.builtin .append,args:=#[s,x],argTypes:=#[t,t] })
  (B R:Nat) (v:Value) (n m:Nat) (xs ys:List α) (A:Option Addr) (c:Nat) (hnil:A=none→c=0) (hown:wr.ownsRow B e size v n (xs.flatMap cells)) (hrow:Recs size cells wr R A ys) (hB:B≤wr.heap.size) (hl:n+m≤2000000)
  (hs:a.eval s=v) (hx:a.eval x=.slice A m c) (hm:m=ys.length)
  (h:∀ v' w',w'.ownsRow B e size v' (n+m) ((xs++ys).flatMap cells)→Below B wr w'→B≤w'.heap.size→wpList Tryz.prog ops Q rest (a.put o.dst v') w') :
  wpList Tryz.prog ops Q (o :: rest) a wr:=by
 obtain ⟨i0,hi,hz0,hz1,hz2⟩:=info_parts3 hinfo
 have fin:∀ v' w',w'.ownsRow B e size v' (n+m) (xs.flatMap cells++ys.flatMap cells)→wr.grownBy w' v.ownBlock→wpList Tryz.prog ops Q rest (a.put o.dst v') w':=fun v' w' h1 h2 =>
  h v' w' (by rw [List.flatMap_append];exact h1) ((Below.refl B wr).grown h2 hB (fun j hj=>(hown.lt j hj).1)) (by have:=h2.size;omega)
 rcases A with _ | ad
 ·have h0:ys=[]:=by
   rcases hrow with h0 | ⟨_,_,h0,_⟩
   ·exact h0
   ·cases h0
  subst h0
  have:=hnil rfl
  subst this
  have hm0:m=0:=hm
  subst hm0
  exact wpList_append_own_none hgd s x t ho B e i0 size ht hi v n (xs.flatMap cells) hs hown hx (fin v wr (by simpa using hown) (World.grownBy.refl _ _))
 ·refine wpList_append_own _ hgd s x t ho B e i0 z size bytes ht hi hz0 hz1 hz2 hz hsz v n (xs.flatMap cells) hs hown ad m c (ys.flatMap cells) hx (by rw [flatMap_len hc,hm]) ?_ ?_ ?_ ?_ hB (fun v' w' h1 h2 _=>fin v' w' h1 h2)
  ·intro j y hy
   rcases hrow with h0 | ⟨b,o',h0,_,h1⟩
   ·subst h0;simp at hy
   ·have h0':=Option.some.inj h0
    subst h0'
    have hj:j<ys.length * size:=by have:=(List.getElem?_eq_some_iff.1 hy).1;rwa [flatMap_len hc] at this
    have hi:j / size<ys.length:=Nat.div_lt_of_lt_mul (by rw [Nat.mul_comm];exact hj)
    have e1:j=j / size * size+j % size:=by rw [Nat.mul_comm];exact (Nat.div_add_mod j size).symm
    rw [e1,flatMap_get hc hi (Nat.mod_lt _ hsz)] at hy
    rw [Addr.add_lit]
    have:=h1 (j / size) hi (j % size) y hy
    rw [Nat.add_assoc,← e1] at this
    exact this
  ·intro u hu'
   obtain ⟨x,_,hx⟩:=List.mem_flatMap.1 hu'
   exact hu x u hx
  ·unfold maxLen;omega
  ·have:(n+m) * bytes≤(n+m) * 1000:=Nat.mul_le_mul_left _ hby
   omega
end
theorem own_form3 {w:World} {base n size:Nat} {e:TypeId} {v:Value} {xs:List Value} (h:w.ownsRow base e size v n xs):∃ A c,v=.slice A n c∧n≤c∧c≤maxLen∧(A=none→c=0):=by
 rcases h.2 with ⟨hv,h0⟩ | ⟨g,cap,cur,hv,hb,hg,hc,hm,_⟩
 ·exact ⟨none,0,by rw [hv,h0],by omega,by decide,fun _=>rfl⟩
 ·exact ⟨_,cap,hv,hc,hm,fun h=>by cases h⟩
def Fresh (l:List PodD) (w:World) (A:Option Addr) (c:Nat) (w':World):Prop:=w'.ownsRow w.heap.size 63 8 (.slice A l.length c) l.length (l.flatMap cellsP)
theorem lenP (x:PodD):(cellsP x).length=8:=rfl
theorem Fresh.out {l:List PodD} {w w':World} {A:Option Addr} {c:Nat} (h:Fresh l w A c w'):Out 8 cellsP w' l A c:=out_of_own lenP rfl h
theorem Fresh.recs {l:List PodD} {w w':World} {A:Option Addr} {c:Nat} (h:Fresh l w A c w'):Recs 8 cellsP w' w'.heap.size A l:=h.out.2.2.2
set_option maxHeartbeats 800000 in
theorem clone_any (l:List PodD) (A:Option Addr) (n c:Nat) (w:World) (hn:n=l.length) (hl:n≤1000) (h0:A=none→c=0) (hr:Recs 8 cellsP w w.heap.size A l) :
  Calls Tryz.prog 46 #[.slice A n c] w fun e w'=>∃ A' c',e=.returned (.slice A' n c')∧Fresh l w A' c' w'∧Below w.heap.size w w':=by
 have HR:=Lib.hid hr
 have HN:=Lib.hid hn
 have H0:=Lib.hid h0
 clear hr hn h0
 go_enter Tryz.func46,Tryz.ntmps46
 go_wp2_with (at_builtin;refine wpList_recs 24 63 (.agg #[.int .i64 0,.int .i64 0,.int .i64 0,.int .u64 0,.int .u64 0,.int .u64 0,.int .u64 0,.int .i64 0]) 8 64 underPods infoPod rfl (by decide) (by decide) lenP onePod rfl (.const (.slice none 0 0)) (.tmp 3) rfl w.heap.size w.heap.size (.slice none 0 0) 0 n [] l A c H0.out (World.ownsRow_nil _ _ _ _) HR.out (Nat.le_refl _) (by omega) rfl rfl HN.out ?_;intro v' w' hown hb hB)
 obtain ⟨A',c',rfl,_⟩:=own_form3 hown
 rw [Nat.zero_add] at hown
 go_ret
 refine ⟨A',c',congrArg (fun k=>Ending.returned (.slice A' k c')) (Nat.zero_add n),?_,hb⟩
 have:=HN.out
 subst this
 exact hown
def OwnAt (B:Nat) (l:List PodD) (w:World) (A:Option Addr) (c:Nat):Prop:=w.ownsRow B 63 8 (.slice A l.length c) l.length (l.flatMap cellsP)
theorem OwnAt.set {B:Nat} {l:List PodD} {w:World} {A:Option Addr} {c:Nat} (h:OwnAt B l w A c) {p:Addr} (hp:p.block<B) (v:Value):OwnAt B l (w.setCell p v) A c:=by
 refine ⟨h.1,?_⟩
 rcases h.2 with h0 | ⟨g,cap,cur,hv,hb,hg,rest⟩
 ·exact .inl h0
 ·exact .inr ⟨g,cap,cur,hv,hb,(Below.heap_setCell w p v g (by omega)).trans hg,rest⟩
theorem OwnAt.out {B:Nat} {l:List PodD} {w:World} {A:Option Addr} {c:Nat} (h:OwnAt B l w A c):Out 8 cellsP w l A c:=out_of_own lenP rfl h
theorem OwnAt.of {l:List PodD} {w w':World} {A:Option Addr} {c:Nat} (h:Fresh l w A c w'):OwnAt w.heap.size l w' A c:=h
theorem below_three (w:World) (o o' o'':Obj):Below w.heap.size w (((w.alloc o).alloc o').alloc o''):=(below_two w o o').alloc (by simp;omega) o''
theorem below_four (w:World) (o o' o'' o3:Obj):Below w.heap.size w ((((w.alloc o).alloc o').alloc o'').alloc o3):=(below_three w o o' o'').alloc (by simp;omega) o3
def metB (p:PodD) (x:WantD):Bool:=if x.stay then p.node != 0 && vecEq p.req x.req else p.node == 0
set_option maxHeartbeats 1600000 in
theorem meets_any (p:PodD) (x:WantD) (w:World):Calls Tryz.prog 38 #[aggP p,aggW x] w fun e w'=>e=.returned (.bool (metB p x))∧Below w.heap.size w w':=by
 have b00:=below_two w (.cells #[.int .i64 p.id,.int .i64 p.load,.int .i64 p.prio,.int .u64 p.req.a,.int .u64 p.req.b,.int .u64 p.req.c,.int .u64 p.req.d,.int .i64 p.node] 63) (.cells #[.int .i64 x.pod,.int .u64 x.req.a,.int .u64 x.req.b,.int .u64 x.req.c,.int .u64 x.req.d,.bool x.stay] 65)
 have hve:=fun v=>vec_is p.req x.req v
 cases hs:x.stay with
 | true =>
  rw [hs] at b00
  go_enter Tryz.func38,Tryz.ntmps38
  go_wp2_with fail
  refine (somewhere_any p _).mono ?_
  rintro e w1 ⟨rfl,hb1⟩
  have kw1:Below w.heap.size w w1:=b00.trans (hb1.mono b00.size)
  have hz1:w.heap.size+2≤w1.heap.size:=by have:=hb1.size;simpa using this
  have a0:w1.cell? ⟨w.heap.size,0,none⟩=some (.int .i64 p.id):=(hb1.cell (p:=⟨w.heap.size,0,none⟩) (by simp;omega)).trans (by simp)
  have a1:w1.cell? ⟨w.heap.size,1,none⟩=some (.int .i64 p.load):=(hb1.cell (p:=⟨w.heap.size,1,none⟩) (by simp;omega)).trans (by simp)
  have a2:w1.cell? ⟨w.heap.size,2,none⟩=some (.int .i64 p.prio):=(hb1.cell (p:=⟨w.heap.size,2,none⟩) (by simp;omega)).trans (by simp)
  have a3:w1.cell? ⟨w.heap.size,3,none⟩=some (.int .u64 p.req.a):=(hb1.cell (p:=⟨w.heap.size,3,none⟩) (by simp;omega)).trans (by simp)
  have a4:w1.cell? ⟨w.heap.size,4,none⟩=some (.int .u64 p.req.b):=(hb1.cell (p:=⟨w.heap.size,4,none⟩) (by simp;omega)).trans (by simp)
  have a5:w1.cell? ⟨w.heap.size,5,none⟩=some (.int .u64 p.req.c):=(hb1.cell (p:=⟨w.heap.size,5,none⟩) (by simp;omega)).trans (by simp)
  have a6:w1.cell? ⟨w.heap.size,6,none⟩=some (.int .u64 p.req.d):=(hb1.cell (p:=⟨w.heap.size,6,none⟩) (by simp;omega)).trans (by simp)
  have a7:w1.cell? ⟨w.heap.size,7,none⟩=some (.int .i64 p.node):=(hb1.cell (p:=⟨w.heap.size,7,none⟩) (by simp;omega)).trans (by simp)
  have c0:w1.cell? ⟨w.heap.size+1,0,none⟩=some (.int .i64 x.pod):=(hb1.cell (p:=⟨w.heap.size+1,0,none⟩) (by simp)).trans (by simp)
  have c1:w1.cell? ⟨w.heap.size+1,1,none⟩=some (.int .u64 x.req.a):=(hb1.cell (p:=⟨w.heap.size+1,1,none⟩) (by simp)).trans (by simp)
  have c2:w1.cell? ⟨w.heap.size+1,2,none⟩=some (.int .u64 x.req.b):=(hb1.cell (p:=⟨w.heap.size+1,2,none⟩) (by simp)).trans (by simp)
  have c3:w1.cell? ⟨w.heap.size+1,3,none⟩=some (.int .u64 x.req.c):=(hb1.cell (p:=⟨w.heap.size+1,3,none⟩) (by simp)).trans (by simp)
  have c4:w1.cell? ⟨w.heap.size+1,4,none⟩=some (.int .u64 x.req.d):=(hb1.cell (p:=⟨w.heap.size+1,4,none⟩) (by simp)).trans (by simp)
  have c5:w1.cell? ⟨w.heap.size+1,5,none⟩=some (.bool x.stay):=(hb1.cell (p:=⟨w.heap.size+1,5,none⟩) (by simp)).trans (by simp [hs])
  by_cases hn:p.node=0
  ·have hd:(p.node != 0)=false:=by simp [hn]
   have HE:=Lib.hid (show metB p x=false by simp [metB,hs,hn])
   clear hn
   go_wp2
   go_ret
   exact ⟨ret_bool HE.out.symm,kw1⟩
  ·have hd:(p.node != 0)=true:=by simp [hn]
   have HE:=Lib.hid (show metB p x=vecEq p.req x.req by simp [metB,hs,hn])
   clear hn
   generalize vecEq p.req x.req=q at *
   go_wp2
   go_ret
   exact ⟨ret_bool HE.out.symm,kw1⟩
 | false =>
  rw [hs] at b00
  have HE:=Lib.hid (show metB p x=!(p.node != 0) by simp [metB,hs,bne])
  go_enter Tryz.func38,Tryz.ntmps38
  go_wp2_with fail
  refine (somewhere_any p _).mono ?_
  rintro e w1 ⟨rfl,hb1⟩
  have kw1:Below w.heap.size w w1:=b00.trans (hb1.mono b00.size)
  generalize (p.node != 0)=q at *
  go_wp2
  go_ret
  exact ⟨ret_bool HE.out.symm,kw1⟩
def GoalRel (x:List WantD) (l:List PodD) (W:World) (B:Nat) (i:Value) (wr:World):Prop:=∃ k:Nat,k≤x.length∧i=.int .i64 k∧goalD (x.drop k) l=goalD x l∧Below B W wr
set_option maxHeartbeats 3200000 in
set_option maxRecDepth 100000 in
theorem stateGoal_any (x:List WantD) (l:List PodD) (A A':Option Addr) (n c n' c':Nat) (v1 v2 u1 u2:Value) (w:World) (hn:n=x.length) (hl:n≤1000) (hn':n'=l.length) (hl':n'≤1000) (hr:Recs 6 cellsW w w.heap.size A x) (hr':Recs 8 cellsP w w.heap.size A' l) :
  Calls Tryz.prog 17 #[.agg #[.slice A n c,v1,v2],.agg #[.slice A' n' c',u1,u2]] w fun e w'=>e=.returned (.bool (goalD x l))∧Below w.heap.size w w':=by
 have HR:=Lib.hid hr
 have HN:=Lib.hid hn
 have HR':=Lib.hid hr'
 have HN':=Lib.hid hn'
 have b00:=below_two w (.cells #[.slice A n c,v1,v2] 29) (.cells #[.slice A' n' c',u1,u2] 44)
 clear hr hn hr' hn'
 go_enter Tryz.func17,Tryz.ntmps17
 go_wp2
 go_loopw [12] (GoalRel x l ((w.alloc (.cells #[.slice A n c,v1,v2] 29)).alloc (.cells #[.slice A' n' c',u1,u2] 44)) (w.heap.size+2)) (fun i _=>n - (intOf i).toNat)
 case atStart=>exact ⟨0,by omega,rfl,rfl,Below.refl _ _⟩
 case round =>
  obtain ⟨k,hk,rfl,hg,hbr⟩:=hrel
  have HG:=Lib.hid hg
  have kwr:=b00.trans (hbr.mono (by omega))
  have hzr:w.heap.size+2≤wr.heap.size:=by have:=hbr.size;simpa using this
  obtain ⟨⟨b0,b1,b2⟩,b3,b4,b5⟩:=box2_cells hbr
  have hwl:w.heap.size<wr.heap.size:=by omega
  have hwl1:w.heap.size+1<wr.heap.size:=by omega
  clear hg
  by_cases hlt:k<n
  ·have hkl:k<x.length:=by have:=HN.out;omega
   obtain ⟨b,o,rfl,hb,he⟩:=HR.out.at hkl
   generalize hx:x[k]=y at *
   have HX:=Lib.hid (goal_at hkl hx HG.out)
   clear hx
   have e0:wr.cell? ⟨b,o+k * 6,none⟩=some (.int .i64 y.pod):=(kwr.cell (p:=⟨b,o+k * 6,none⟩) hb).trans (he 0 _ rfl)
   have e1:wr.cell? ⟨b,o+k * 6+1,none⟩=some (.int .u64 y.req.a):=(kwr.cell (p:=⟨b,o+k * 6+1,none⟩) hb).trans (he 1 _ rfl)
   have e2:wr.cell? ⟨b,o+k * 6+2,none⟩=some (.int .u64 y.req.b):=(kwr.cell (p:=⟨b,o+k * 6+2,none⟩) hb).trans (he 2 _ rfl)
   have e3:wr.cell? ⟨b,o+k * 6+3,none⟩=some (.int .u64 y.req.c):=(kwr.cell (p:=⟨b,o+k * 6+3,none⟩) hb).trans (he 3 _ rfl)
   have e4:wr.cell? ⟨b,o+k * 6+4,none⟩=some (.int .u64 y.req.d):=(kwr.cell (p:=⟨b,o+k * 6+4,none⟩) hb).trans (he 4 _ rfl)
   have e5:wr.cell? ⟨b,o+k * 6+5,none⟩=some (.bool y.stay):=(kwr.cell (p:=⟨b,o+k * 6+5,none⟩) hb).trans (he 5 _ rfl)
   have hbw:b<wr.heap.size:=by omega
   clear he
   go_wp2_with fail
   refine (statePod_any l y.pod A' n' c' u1 u2 _ HN'.out hl' ((HR'.out.below (kwr.alloc (by omega) _) (Nat.le_refl _)).more (kwr.alloc (by omega) _).size)).mono ?_
   rintro e w1 ⟨hh,hb1⟩
   have k1:=(hbr.alloc hzr (.cells #[.int .i64 y.pod,.int .u64 y.req.a,.int .u64 y.req.b,.int .u64 y.req.c,.int .u64 y.req.d,.bool y.stay] 65)).trans (hb1.mono (by simp;omega))
   have hz1:wr.heap.size+1≤w1.heap.size:=by have:=hb1.size;simpa using this
   have kw1:=b00.trans (k1.mono (by omega))
   rcases hh with ⟨hp,rfl⟩ | ⟨i,hi,hp,rfl⟩
   ·have HE:=Lib.hid (HX.out.1 (met_none hp))
    clear hp e0 e1 e2 e3 e4 e5
    go_wp2
    go_ret
    exact ⟨ret_bool HE.out.symm,kw1.alloc kw1.size _⟩
   ·generalize hq:l[i]=p at *
    have HM:=Lib.hid (met_some hi hp hq)
    clear hp hq e0 e1 e2 e3 e4 e5
    have d0:w1.cell? ⟨wr.heap.size,0,none⟩=some (.int .i64 y.pod):=(hb1.cell (p:=⟨wr.heap.size,0,none⟩) (by simp)).trans (by simp)
    have d1:w1.cell? ⟨wr.heap.size,1,none⟩=some (.int .u64 y.req.a):=(hb1.cell (p:=⟨wr.heap.size,1,none⟩) (by simp)).trans (by simp)
    have d2:w1.cell? ⟨wr.heap.size,2,none⟩=some (.int .u64 y.req.b):=(hb1.cell (p:=⟨wr.heap.size,2,none⟩) (by simp)).trans (by simp)
    have d3:w1.cell? ⟨wr.heap.size,3,none⟩=some (.int .u64 y.req.c):=(hb1.cell (p:=⟨wr.heap.size,3,none⟩) (by simp)).trans (by simp)
    have d4:w1.cell? ⟨wr.heap.size,4,none⟩=some (.int .u64 y.req.d):=(hb1.cell (p:=⟨wr.heap.size,4,none⟩) (by simp)).trans (by simp)
    have d5:w1.cell? ⟨wr.heap.size,5,none⟩=some (.bool y.stay):=(hb1.cell (p:=⟨wr.heap.size,5,none⟩) (by simp)).trans (by simp)
    have hwr1:wr.heap.size<w1.heap.size:=by omega
    go_wp2_with fail
    refine (meets_any p y _).mono ?_
    rintro e w2 ⟨rfl,hb2⟩
    have k2:=(k1.alloc (by omega) (.cells #[.int .i64 p.id,.int .i64 p.load,.int .i64 p.prio,.int .u64 p.req.a,.int .u64 p.req.b,.int .u64 p.req.c,.int .u64 p.req.d,.int .i64 p.node] 63)).trans (hb2.mono (by simp;omega))
    have kw2:=b00.trans (k2.mono (by omega))
    cases hm:metB p y with
    | false =>
     have HE:=Lib.hid (HX.out.1 (HM.out.trans hm))
     go_wp2
     go_ret
     exact ⟨ret_bool HE.out.symm,kw2⟩
    | true =>
     have HE:=Lib.hid (HX.out.2 (HM.out.trans hm))
     go_wp2
     go_roundw
     case rel=>exact ⟨k+1,by omega,by go_num,HE.out,k2⟩
     case measure=>simp [intOf];omega
  ·have HE:=Lib.hid (goal_end (by have:=HN.out;omega) HG.out)
   go_wp2
   go_ret
   exact ⟨ret_bool HE.out.symm,kwr⟩
def noPod:PodD:=⟨0,0,0,⟨0,0,0,0⟩,0⟩
def podZ (id:Int) (l:List PodD):PodD:=(podAt id l).getD noPod
theorem podZ_none {id:Int} {l:List PodD} (h:place PodD.id id l 0<0):podZ id l=noPod:=by
 rw [podZ,(podAt_none (l:=l) (k:=0) (by omega)).2 h];rfl
theorem podZ_some {id:Int} {l:List PodD} {i:Nat} (hi:i<l.length) (h:place PodD.id id l 0=i):podZ id l=l[i]:=by
 rw [podZ,podAt_some (l:=l) (k:=0) hi (by rw [h];omega) (by omega)];rfl
def wellD (m:MoveD):Bool:=if m.kind=1∨m.kind=3 then m.over == 0 else if m.kind=2 then m.node == 0 && m.over == 0 else m.kind == 4
def hereD (nodes:List NodeD) (l:List PodD) (m:MoveD):Bool :=
 !decide (place PodD.id m.pod l 0<0) && ((!decide (place NodeD.id m.node nodes 0<0) || m.kind == 2) && (m.kind != 4 || !decide (place PodD.id m.over l 0<0)))
def canD (l:List PodD) (m:MoveD):Bool :=
 if m.kind=2 then (podZ m.pod l).node != 0 else if m.kind=3 then (podZ m.pod l).node != 0 && (podZ m.pod l).node != m.node
 else if m.kind=4 then !((podZ m.pod l).node != 0) && (m.over != m.pod && (podZ m.over l).node == m.node) else !((podZ m.pod l).node != 0)
theorem statePodZ_any (l:List PodD) (id:Int) (A:Option Addr) (n c:Nat) (v1 v2:Value) (w:World) (hn:n=l.length) (hl:n≤1000) (hr:Recs 8 cellsP w w.heap.size A l) :
  Calls Tryz.prog 37 #[.agg #[.slice A n c,v1,v2],.int .i64 id] w fun e w'=>∃ b,e=.returned (.tuple #[aggP (podZ id l),.bool b])∧Below w.heap.size w w':=by
 refine (statePod_any l id A n c v1 v2 w hn hl hr).mono ?_
 rintro e w' ⟨⟨hp,rfl⟩ | ⟨i,hi,hp,rfl⟩,hb⟩
 ·exact ⟨false,by rw [podZ_none hp];rfl,hb⟩
 ·exact ⟨true,by rw [podZ_some hi hp],hb⟩
set_option maxHeartbeats 1600000 in
theorem stateWell_any (m:MoveD) (w:World):Calls Tryz.prog 107 #[aggM m] w fun e w'=>e=.returned (.bool (wellD m))∧Below w.heap.size w w':=by
 have b00:Below w.heap.size w (w.alloc (.cells #[.int .i64 m.kind,.int .i64 m.pod,.int .i64 m.node,.int .i64 m.over] 89)):=(Below.refl _ _).alloc (Nat.le_refl _) _
 obtain ⟨k,p,n,o⟩:=m
 by_cases h1:k=1
 ·subst h1
  go_enter Tryz.func107,Tryz.ntmps107
  go_wp2
  go_ret
  exact ⟨ret_bool (by simp [wellD]),b00⟩
 have d1:(k == 1)=false:=by simp [h1]
 by_cases h3:k=3
 ·subst h3
  go_enter Tryz.func107,Tryz.ntmps107
  go_wp2
  go_ret
  exact ⟨ret_bool (by simp [wellD]),b00⟩
 have d3:(k == 3)=false:=by simp [h3]
 by_cases h2:k=2
 ·subst h2
  by_cases hn:n=0
  ·subst hn
   go_enter Tryz.func107,Tryz.ntmps107
   go_wp2
   go_ret
   exact ⟨ret_bool (by simp [wellD]),b00⟩
  ·have dn:(n == 0)=false:=by simp [hn]
   have HE:=Lib.hid (show wellD ⟨2,p,n,o⟩=false by simp [wellD,hn])
   clear hn
   go_enter Tryz.func107,Tryz.ntmps107
   go_wp2
   go_ret
   exact ⟨ret_bool HE.out.symm,b00⟩
 have d2:(k == 2)=false:=by simp [h2]
 have HE:=Lib.hid (show wellD ⟨k,p,n,o⟩=(k == 4) by simp [wellD,h1,h2,h3])
 clear h1 h2 h3
 go_enter Tryz.func107,Tryz.ntmps107
 go_wp2
 go_ret
 exact ⟨ret_bool HE.out.symm,b00⟩
theorem box3_cells {w wr:World} {x y z x' y' z' a b c d:Value} {t t' t'':TypeId} (hb:Below (w.heap.size+3) (((w.alloc (.cells #[x,y,z] t)).alloc (.cells #[x',y',z'] t')).alloc (.cells #[a,b,c,d] t'')) wr) :
  (wr.cell? ⟨w.heap.size,0,none⟩=some x∧wr.cell? ⟨w.heap.size,1,none⟩=some y∧wr.cell? ⟨w.heap.size,2,none⟩=some z) ∧
  (wr.cell? ⟨w.heap.size+1,0,none⟩=some x'∧wr.cell? ⟨w.heap.size+1,1,none⟩=some y'∧wr.cell? ⟨w.heap.size+1,2,none⟩=some z') ∧
  (wr.cell? ⟨w.heap.size+2,0,none⟩=some a∧wr.cell? ⟨w.heap.size+2,1,none⟩=some b∧wr.cell? ⟨w.heap.size+2,2,none⟩=some c∧wr.cell? ⟨w.heap.size+2,3,none⟩=some d):=by
 have h2:Below (w.heap.size+2) ((w.alloc (.cells #[x,y,z] t)).alloc (.cells #[x',y',z'] t')) wr:=((Below.refl _ _).alloc (by simp) _).trans (hb.mono (by omega))
 obtain ⟨p,q⟩:=box2_cells h2
 refine ⟨p,q,?_,?_,?_,?_⟩
 all_goals
  rw [hb.cell (by simp),World.cell?_alloc_at _ _ _ _ (by simp)]
  simp
set_option maxHeartbeats 3200000 in
set_option maxRecDepth 100000 in
theorem allThere_any (nodes:List NodeD) (l:List PodD) (m:MoveD) (A1 A2 A3 A:Option Addr) (n1 c1 n2 c2 n3 c3 n c:Nat) (p s:Value) (w:World) (hn1:n1=nodes.length) (hl1:n1≤1000) (hn:n=l.length) (hl:n≤1000) (hr1:Recs 10 cellsN w w.heap.size A1 nodes) (hr:Recs 8 cellsP w w.heap.size A l) :
  Calls Tryz.prog 108 #[.agg #[.slice A1 n1 c1,.slice A2 n2 c2,.slice A3 n3 c3],.agg #[.slice A n c,p,s],aggM m] w fun e w'=>e=.returned (.bool (hereD nodes l m))∧Below w.heap.size w w':=by
 have b00:=below_three w (.cells #[.slice A1 n1 c1,.slice A2 n2 c2,.slice A3 n3 c3] 26) (.cells #[.slice A n c,p,s] 44) (.cells #[.int .i64 m.kind,.int .i64 m.pod,.int .i64 m.node,.int .i64 m.over] 89)
 have HR1:=Lib.hid hr1
 have HR:=Lib.hid hr
 have HN1:=Lib.hid hn1
 have HN:=Lib.hid hn
 clear hr1 hr hn1 hn
 have HP:=Lib.hid (fun (id:Int) (v:World) (hv:Below w.heap.size w v)=>place_any l id A n c p s v HN.out hl ((HR.out.below hv (Nat.le_refl _)).more hv.size))
 have HD:=Lib.hid (fun (v:World) (hv:Below w.heap.size w v)=>node_any nodes m.node A1 n1 c1 (.slice A2 n2 c2) (.slice A3 n3 c3) v HN1.out hl1 ((HR1.out.below hv (Nat.le_refl _)).more hv.size))
 go_enter Tryz.func108,Tryz.ntmps108
 go_wp2_with fail
 refine (HP.out m.pod _ b00).mono ?_
 rintro e w1 ⟨rfl,hb1⟩
 have k1:Below (w.heap.size+3) _ w1:=hb1.mono (by simp)
 have kw1:=b00.trans (k1.mono (by omega))
 by_cases h1:place PodD.id m.pod l 0<0
 ·have HE:=Lib.hid (show hereD nodes l m=false by simp [hereD,h1])
  have hd:decide (place PodD.id m.pod l 0<0)=true:=decide_eq_true h1
  clear h1
  go_wp2
  go_ret
  exact ⟨ret_bool HE.out.symm,kw1⟩
 have hd:decide (place PodD.id m.pod l 0<0)=false:=decide_eq_false h1
 obtain ⟨⟨a0,a1,a2⟩,⟨a3,a4,a5⟩,a6,a7,a8,a9⟩:=box3_cells k1
 have hz1:w.heap.size+3≤w1.heap.size:=by have:=k1.size;simp at this;omega
 go_wp2_with fail
 refine (HD.out _ kw1).mono ?_
 rintro e w2 ⟨hh,hb2⟩
 have k2:=k1.trans (hb2.mono hz1)
 have kw2:=b00.trans (k2.mono (by omega))
 have hz2:w.heap.size+3≤w2.heap.size:=by have:=hb2.size;omega
 have HH1:=Lib.hid h1
 clear a0 a1 a2 a3 a4 a5 a6 a7 a8 a9 h1 hd
 obtain ⟨q,b,rfl,hq⟩:∃ (q:NodeD) (b:Bool),e=.returned (.tuple #[aggN q,.bool b])∧b=!decide (place NodeD.id m.node nodes 0<0):=by
  rcases hh with ⟨hp,rfl⟩ | ⟨i,hi,hp,rfl⟩
  ·exact ⟨⟨0,0,⟨0,0,0,0⟩,⟨0,0,0,0⟩⟩,false,rfl,by simp [hp]⟩
  ·exact ⟨nodes[i],true,rfl,by rw [hp];simp⟩
 have HQ:=Lib.hid hq
 clear hh hq
 have k3:=k2.alloc hz2 (.cells #[.int .i64 q.id,.int .i64 q.zone,.int .u64 q.cap.a,.int .u64 q.cap.b,.int .u64 q.cap.c,.int .u64 q.cap.d,.int .u64 q.held.a,.int .u64 q.held.b,.int .u64 q.held.c,.int .u64 q.held.d] 59)
 have kw3:=b00.trans (k3.mono (by omega))
 obtain ⟨⟨a0,a1,a2⟩,⟨a3,a4,a5⟩,a6,a7,a8,a9⟩:=box3_cells k2
 have hw0:w.heap.size<w2.heap.size:=by omega
 have hw1:w.heap.size+1<w2.heap.size:=by omega
 have hw2:w.heap.size+2<w2.heap.size:=by omega
 have hn0:w2.heap.size≠w.heap.size+1:=by omega
 have hn1:w2.heap.size≠w.heap.size+2:=by omega
 cases b with
 | false =>
  have hp:place NodeD.id m.node nodes 0<0:=by simpa using HQ.out
  by_cases hk:m.kind=2
  ·have HE:=Lib.hid (show hereD nodes l m=true by simp [hereD,HH1.out,hk])
   have d2:(m.kind != 2)=false:=by simp [hk]
   have d4:(m.kind != 4)=true:=by simp [hk]
   clear hk hp
   go_wp2
   go_ret
   exact ⟨ret_bool HE.out.symm,kw3⟩
  ·have HE:=Lib.hid (show hereD nodes l m=false by simp [hereD,hp,hk])
   have d2:(m.kind != 2)=true:=by simp [hk]
   clear hk hp
   go_wp2
   go_ret
   exact ⟨ret_bool HE.out.symm,kw3⟩
 | true =>
  have hp:¬ place NodeD.id m.node nodes 0<0:=by simpa using HQ.out
  by_cases hk:m.kind=4
  ·have HE:=Lib.hid (show hereD nodes l m=decide (0≤place PodD.id m.over l 0) by have:=HH1.out;have hz:decide (0≤place PodD.id m.over l 0)=!decide (place PodD.id m.over l 0<0):=by { rw [Bool.eq_iff_iff];simp };rw [hz];simp [hereD,this,hp,hk])
   have d4:(m.kind != 4)=false:=by simp [hk]
   clear hk hp
   go_wp2_with fail
   refine (HP.out m.over _ kw3).mono ?_
   rintro e w4 ⟨rfl,hb4⟩
   generalize place PodD.id m.over l 0=po at *
   go_wp2
   go_ret
   exact ⟨ret_bool HE.out.symm,kw3.trans (hb4.mono kw3.size)⟩
  ·have HE:=Lib.hid (show hereD nodes l m=true by simp [hereD,HH1.out,hp,hk])
   have d4:(m.kind != 4)=true:=by simp [hk]
   clear hk hp
   go_wp2
   go_ret
   exact ⟨ret_bool HE.out.symm,kw3⟩
set_option maxHeartbeats 3200000 in
set_option maxRecDepth 100000 in
theorem canBeMade_any (l:List PodD) (m:MoveD) (A:Option Addr) (n c:Nat) (v1 v2:Value) (w:World) (hn:n=l.length) (hl:n≤1000) (hr:Recs 8 cellsP w w.heap.size A l) :
  Calls Tryz.prog 109 #[.agg #[.slice A n c,v1,v2],aggM m] w fun e w'=>e=.returned (.bool (canD l m))∧Below w.heap.size w w':=by
 have b00:=below_two w (.cells #[.slice A n c,v1,v2] 44) (.cells #[.int .i64 m.kind,.int .i64 m.pod,.int .i64 m.node,.int .i64 m.over] 89)
 have HR:=Lib.hid hr
 have HN:=Lib.hid hn
 clear hr hn
 have HP:=Lib.hid (fun (id:Int) (v:World) (hv:Below w.heap.size w v)=>statePodZ_any l id A n c v1 v2 v HN.out hl ((HR.out.below hv (Nat.le_refl _)).more hv.size))
 go_enter Tryz.func109,Tryz.ntmps109
 go_wp2_with fail
 refine (HP.out m.pod _ b00).mono ?_
 rintro e w1 ⟨ib,rfl,hb1⟩
 generalize hq:podZ m.pod l=q at *
 have k1:Below (w.heap.size+2) _ w1:=hb1.mono (by simp)
 have kw1:=b00.trans (k1.mono (by omega))
 have hz1:w.heap.size+2≤w1.heap.size:=by have:=k1.size;simp at this;omega
 have HQ:=Lib.hid hq
 clear hq
 have k2:=k1.alloc hz1 (.cells #[.int .i64 q.id,.int .i64 q.load,.int .i64 q.prio,.int .u64 q.req.a,.int .u64 q.req.b,.int .u64 q.req.c,.int .u64 q.req.d,.int .i64 q.node] 63)
 have kw2:=b00.trans (k2.mono (by omega))
 have a0:w1.cell? ⟨w.heap.size,0,none⟩=some (.slice A n c):=(k1.cell (p:=⟨w.heap.size,0,none⟩) (by simp)).trans (by simp)
 have a1:w1.cell? ⟨w.heap.size,1,none⟩=some v1:=(k1.cell (p:=⟨w.heap.size,1,none⟩) (by simp)).trans (by simp)
 have a2:w1.cell? ⟨w.heap.size,2,none⟩=some v2:=(k1.cell (p:=⟨w.heap.size,2,none⟩) (by simp)).trans (by simp)
 have a3:w1.cell? ⟨w.heap.size+1,0,none⟩=some (.int .i64 m.kind):=(k1.cell (p:=⟨w.heap.size+1,0,none⟩) (by simp)).trans (by simp)
 have a4:w1.cell? ⟨w.heap.size+1,1,none⟩=some (.int .i64 m.pod):=(k1.cell (p:=⟨w.heap.size+1,1,none⟩) (by simp)).trans (by simp)
 have a5:w1.cell? ⟨w.heap.size+1,2,none⟩=some (.int .i64 m.node):=(k1.cell (p:=⟨w.heap.size+1,2,none⟩) (by simp)).trans (by simp)
 have a6:w1.cell? ⟨w.heap.size+1,3,none⟩=some (.int .i64 m.over):=(k1.cell (p:=⟨w.heap.size+1,3,none⟩) (by simp)).trans (by simp)
 have hw0:w.heap.size<w1.heap.size:=by omega
 have hw1:w.heap.size+1<w1.heap.size:=by omega
 have hn0:w1.heap.size≠w.heap.size+1:=by omega
 have HS:=Lib.hid (fun (v:World)=>somewhere_any q v)
 by_cases h2:m.kind=2
 ·have HE:=Lib.hid (show canD l m=(q.node != 0) by simp [canD,h2,HQ.out])
  have d2:(m.kind == 2)=true:=by simp [h2]
  clear h2
  go_wp2_with fail
  refine (HS.out _).mono ?_
  rintro e w3 ⟨rfl,hb3⟩
  generalize (q.node != 0)=t at *
  go_wp2
  go_ret
  exact ⟨ret_bool HE.out.symm,kw2.trans (hb3.mono kw2.size)⟩
 have d2:(m.kind == 2)=false:=by simp [h2]
 by_cases h3:m.kind=3
 ·have HE:=Lib.hid (show canD l m=(q.node != 0 && q.node != m.node) by simp [canD,h3,HQ.out])
  have d3:(m.kind == 3)=true:=by simp [h3]
  clear h2 h3
  go_wp2_with fail
  refine (HS.out _).mono ?_
  rintro e w3 ⟨rfl,hb3⟩
  have k3:=k2.trans (hb3.mono (by simp;omega))
  have kw3:=kw2.trans (hb3.mono kw2.size)
  have g5:w3.cell? ⟨w.heap.size+1,2,none⟩=some (.int .i64 m.node):=(k3.cell (p:=⟨w.heap.size+1,2,none⟩) (by simp)).trans (by simp)
  have g7:w3.cell? ⟨w1.heap.size,7,none⟩=some (.int .i64 q.node):=(hb3.cell (p:=⟨w1.heap.size,7,none⟩) (by simp)).trans (by simp)
  have hw3:w.heap.size+1<w3.heap.size:=by have:=k3.size;simp at this;omega
  cases ht:(q.node != 0) with
  | false =>
   go_wp2
   go_ret
   exact ⟨ret_bool (by rw [HE.out,ht];rfl),kw3⟩
  | true =>
   go_wp2
   go_ret
   exact ⟨ret_bool (by rw [HE.out,ht];rfl),kw3⟩
 have d3:(m.kind == 3)=false:=by simp [h3]
 by_cases h4:m.kind=4
 ·have HE:=Lib.hid (show canD l m=(!(q.node != 0) && (m.over != m.pod && (podZ m.over l).node == m.node)) by simp [canD,h4,HQ.out])
  have d4:(m.kind == 4)=true:=by simp [h4]
  clear h2 h3 h4
  go_wp2_with fail
  refine (HP.out m.over _ kw2).mono ?_
  rintro e w3 ⟨ic,rfl,hb3⟩
  generalize podZ m.over l=r at *
  have k3:=k2.trans (hb3.mono (by simp;omega))
  have kw3:=kw2.trans (hb3.mono kw2.size)
  have hz3:w1.heap.size+1≤w3.heap.size:=by have:=hb3.size;simpa using this
  have f0:w3.cell? ⟨w1.heap.size,0,none⟩=some (.int .i64 q.id):=(hb3.cell (p:=⟨w1.heap.size,0,none⟩) (by simp)).trans (by simp)
  have f1:w3.cell? ⟨w1.heap.size,1,none⟩=some (.int .i64 q.load):=(hb3.cell (p:=⟨w1.heap.size,1,none⟩) (by simp)).trans (by simp)
  have f2:w3.cell? ⟨w1.heap.size,2,none⟩=some (.int .i64 q.prio):=(hb3.cell (p:=⟨w1.heap.size,2,none⟩) (by simp)).trans (by simp)
  have f3:w3.cell? ⟨w1.heap.size,3,none⟩=some (.int .u64 q.req.a):=(hb3.cell (p:=⟨w1.heap.size,3,none⟩) (by simp)).trans (by simp)
  have f4:w3.cell? ⟨w1.heap.size,4,none⟩=some (.int .u64 q.req.b):=(hb3.cell (p:=⟨w1.heap.size,4,none⟩) (by simp)).trans (by simp)
  have f5:w3.cell? ⟨w1.heap.size,5,none⟩=some (.int .u64 q.req.c):=(hb3.cell (p:=⟨w1.heap.size,5,none⟩) (by simp)).trans (by simp)
  have f6:w3.cell? ⟨w1.heap.size,6,none⟩=some (.int .u64 q.req.d):=(hb3.cell (p:=⟨w1.heap.size,6,none⟩) (by simp)).trans (by simp)
  have f7:w3.cell? ⟨w1.heap.size,7,none⟩=some (.int .i64 q.node):=(hb3.cell (p:=⟨w1.heap.size,7,none⟩) (by simp)).trans (by simp)
  have hw13:w1.heap.size<w3.heap.size:=by omega
  have k4:=k3.alloc (by omega) (.cells #[.int .i64 r.id,.int .i64 r.load,.int .i64 r.prio,.int .u64 r.req.a,.int .u64 r.req.b,.int .u64 r.req.c,.int .u64 r.req.d,.int .i64 r.node] 63)
  have kw4:=b00.trans (k4.mono (by omega))
  clear a0 a1 a2 a3 a4 a5 a6
  go_wp2_with fail
  refine (HS.out _).mono ?_
  rintro e w5 ⟨rfl,hb5⟩
  have k5:=k4.trans (hb5.mono (by simp;omega))
  have kw5:=kw4.trans (hb5.mono kw4.size)
  have g4:w5.cell? ⟨w.heap.size+1,1,none⟩=some (.int .i64 m.pod):=(k5.cell (p:=⟨w.heap.size+1,1,none⟩) (by simp)).trans (by simp)
  have g5:w5.cell? ⟨w.heap.size+1,2,none⟩=some (.int .i64 m.node):=(k5.cell (p:=⟨w.heap.size+1,2,none⟩) (by simp)).trans (by simp)
  have g6:w5.cell? ⟨w.heap.size+1,3,none⟩=some (.int .i64 m.over):=(k5.cell (p:=⟨w.heap.size+1,3,none⟩) (by simp)).trans (by simp)
  have g7:w5.cell? ⟨w3.heap.size,7,none⟩=some (.int .i64 r.node):=(hb5.cell (p:=⟨w3.heap.size,7,none⟩) (by simp)).trans (by simp)
  clear f0 f1 f2 f3 f4 f5 f6 f7
  cases ht:(q.node != 0) with
  | true =>
   go_wp2
   go_ret
   exact ⟨ret_bool (by rw [HE.out,ht];rfl),kw5⟩
  | false =>
   by_cases ho:m.over=m.pod
   ·have do_:(m.over != m.pod)=false:=by simp [ho]
    have HF:=Lib.hid (show canD l m=false by rw [HE.out,do_];simp)
    clear ho
    go_wp2
    go_ret
    exact ⟨ret_bool HF.out.symm,kw5⟩
   ·have do_:(m.over != m.pod)=true:=by simp [ho]
    have HF:=Lib.hid (show canD l m=(r.node == m.node) by rw [HE.out,do_,ht];simp)
    clear ho
    go_wp2
    go_ret
    exact ⟨ret_bool HF.out.symm,kw5⟩
 have d4:(m.kind == 4)=false:=by simp [h4]
 have HE:=Lib.hid (show canD l m=!(q.node != 0) by simp [canD,h2,h3,h4,HQ.out])
 clear h2 h3 h4
 go_wp2_with fail
 refine (HS.out _).mono ?_
 rintro e w3 ⟨rfl,hb3⟩
 generalize (q.node != 0)=t at *
 go_wp2
 go_ret
 exact ⟨ret_bool HE.out.symm,kw2.trans (hb3.mono kw2.size)⟩
structure Lst (g:Nat) (l:List PodD) (w:World):Prop where
 lt:g<w.heap.size
 cell:∀ i (h:i<l.length) j u,(cellsP l[i])[j]?=some u→w.cell? ⟨g,i * 8+j,none⟩=some u
 frozen:∀ o,w.frozen? ⟨g,o,none⟩=false
section
variable {g:Nat} {l:List PodD} {w w':World}
theorem Lst.below (h:Lst g l w) (hb:Below w.heap.size w w'):Lst g l w' :=
 ⟨Nat.lt_of_lt_of_le h.lt hb.size,fun i hi j u hu=>(hb.cell (p:=⟨g,i * 8+j,none⟩) h.lt).trans (h.cell i hi j u hu),fun o=>(hb.frozen (p:=⟨g,o,none⟩) h.lt).trans (h.frozen o)⟩
theorem Lst.alloc (h:Lst g l w) (o:Obj):Lst g l (w.alloc o):=h.below ((Below.refl _ w).alloc (Nat.le_refl _) o)
theorem Lst.drew (h:Lst g l w):Lst g l w.drew:=⟨h.lt,h.cell,h.frozen⟩
theorem Lst.other (h:Lst g l w) {p:Addr} (hp:p.block≠g) (v:Value):Lst g l (w.setCell p v) :=
 ⟨by simpa using h.lt,fun i hi j u hu=>by rw [World.cell?_setCell_other _ _ _ _ (by intro e;exact hp (by rw [e]))];exact h.cell i hi j u hu,fun o=>by simpa using h.frozen o⟩
theorem Lst.put (h:Lst g l w) {i j:Nat} (hi:i<l.length) (hj:j<8) (u:Value) (p':PodD) (hp:cellsP p'=(cellsP l[i]).set j u):Lst g (l.set i p') (w.setCell ⟨g,i * 8+j,none⟩ u):=by
 refine ⟨by simpa using h.lt,fun i' hi' j' u' hu=>?_,fun o=>by simpa using h.frozen o⟩
 have hl':i'<l.length:=by simpa using hi'
 have hj':j'<8:=by have:=(List.getElem?_eq_some_iff.1 hu).1;simpa [cellsP] using this
 by_cases e:i'=i
 ·subst e
  rw [List.getElem_set_self,hp] at hu
  by_cases ej:j'=j
  ·subst ej
   rw [List.getElem?_set_self (by simpa [cellsP] using hj)] at hu
   obtain rfl:=Option.some.inj hu
   have hc:∃ u0,(cellsP l[i'])[j']?=some u0:=⟨_,List.getElem?_eq_getElem (by simpa [cellsP] using hj)⟩
   obtain ⟨u0,hu0⟩:=hc
   exact World.cell?_setCell_same _ _ _ (h.cell i' hl' j' u0 hu0)
  ·rw [List.getElem?_set_ne (fun e=>ej e.symm)] at hu
   rw [World.cell?_setCell_other _ _ _ _ (by intro e;injection e;omega)]
   exact h.cell i' hl' j' u' hu
 ·rw [List.getElem_set_ne (fun e'=>e e'.symm)] at hu
  rw [World.cell?_setCell_other _ _ _ _ (by intro e';injection e';omega)]
  exact h.cell i' hl' j' u' hu
theorem Lst.at (h:Lst g l w) {i:Nat} (hi:i<l.length) {p:PodD} (hp:l[i]=p) (j:Nat) (u:Value) (hu:(cellsP p)[j]?=some u):w.cell? ⟨g,i * 8+j,none⟩=some u:=h.cell i hi j u (by rw [hp];exact hu)
theorem Lst.recs (h:Lst g l w):Recs 8 cellsP w w.heap.size (some ⟨g,0,none⟩) l:=.inr ⟨g,0,rfl,h.lt,fun i hi j u hu=>by rw [Nat.zero_add];exact h.cell i hi j u hu⟩
theorem Lst.fresh {A:Option Addr} {c:Nat} {w0:World} (h:Fresh l w0 A c w) (hl:0<l.length):∃ g,A=some ⟨g,0,none⟩∧w0.heap.size≤g∧l.length≤c∧c≤maxLen∧Lst g l w:=by
 have h1:=h.recs
 rcases h.2 with ⟨_,h0⟩ | ⟨g,cap,cur,hv,hb,hg,hnc,hm,_⟩
 ·omega
 ·injection hv with e1 _ e2
  subst e1 e2
  refine ⟨g,rfl,hb,hnc,hm,?_,fun i hi j u hu=>?_,fun o=>by simp [World.frozen?,hg]⟩
  ·exact (Array.getElem?_eq_some_iff.1 hg).1
  ·obtain ⟨b,o,e,_,hc⟩:=h1.at hi
   injection e with e
   injection e with e1 e2
   subst e1 e2
   simpa using hc j u hu
end
def comeD (x:List WantD) (node:Int) (p:PodD):PodD :=
 let k:=place WantD.pod p.id x 0
 let req:=if k<0 then p.req else match x[k.toNat]? with
  | some y=>if y.stay then y.req else p.req
  | none=>p.req
 ⟨p.id,p.load,p.prio,req,node⟩
theorem come_none {x:List WantD} {node:Int} {p:PodD} (h:place WantD.pod p.id x 0<0):comeD x node p=⟨p.id,p.load,p.prio,p.req,node⟩:=by simp [comeD,h]
theorem come_some {x:List WantD} {node:Int} {p:PodD} {i:Nat} (hi:i<x.length) (h:place WantD.pod p.id x 0=i):comeD x node p=⟨p.id,p.load,p.prio,if x[i].stay then x[i].req else p.req,node⟩:=by
 have:¬ (i:Int)<0:=by omega
 simp [comeD,h,this,hi]
set_option maxHeartbeats 3200000 in
set_option maxRecDepth 100000 in
theorem come_any (x:List WantD) (l:List PodD) (g i:Nat) (hi:i<l.length) (node:Int) (A:Option Addr) (n c:Nat) (v1 v2:Value) (w:World) (hn:n=x.length) (hl:n≤1000) (hr:Recs 6 cellsW w g A x) (hL:Lst g l w) :
  Calls Tryz.prog 144 #[.agg #[.slice A n c,v1,v2],.pointer (some ⟨g,i * 8,none⟩),.int .i64 node] w fun e w'=>e=.returned (.tuple #[])∧Lst g (l.set i (comeD x node l[i])) w'∧Below g w w':=by
 have hgl:=hL.lt
 have HR:=Lib.hid hr
 have HN:=Lib.hid hn
 have HL:=Lib.hid hL
 clear hr hn hL
 generalize hp:l[i]=p at *
 have c7:=HL.out.at hi hp 7 _ rfl
 have z7:=HL.out.frozen (i * 8+7)
 have c0:=HL.out.at hi hp 0 _ rfl
 rw [Nat.add_zero] at c0
 have hgne:w.heap.size≠g:=by omega
 have hL1:=(HL.out.put hi (j:=7) (by omega) (.int .i64 node) ⟨p.id,p.load,p.prio,p.req,node⟩ (by rw [hp];rfl)).alloc (.cells #[.slice A n c,v1,v2] 29)
 have kW:Below g w ((w.setCell ⟨g,i * 8+7,none⟩ (.int .i64 node)).alloc (.cells #[.slice A n c,v1,v2] 29)):=((Below.refl g w).setCell (Nat.le_refl _) _).alloc (by simp;omega) _
 go_enter Tryz.func144,Tryz.ntmps144
 go_wp2
 generalize hW:(w.setCell ⟨g,i * 8+7,none⟩ (.int .i64 node)).alloc (.cells #[.slice A n c,v1,v2] 29)=W at *
 have hWs:W.heap.size=w.heap.size+1:=by rw [← hW];simp
 have a0:W.cell? ⟨w.heap.size,0,none⟩=some (.slice A n c):=by rw [← hW,World.cell?_alloc_at _ _ _ _ (by simp)];simp
 have a1:W.cell? ⟨w.heap.size,1,none⟩=some v1:=by rw [← hW,World.cell?_alloc_at _ _ _ _ (by simp)];simp
 have a2:W.cell? ⟨w.heap.size,2,none⟩=some v2:=by rw [← hW,World.cell?_alloc_at _ _ _ _ (by simp)];simp
 have HL1:=Lib.hid hL1
 have hi1:i<(l.set i ⟨p.id,p.load,p.prio,p.req,node⟩).length:=by simpa using hi
 have c0':=HL1.out.at hi1 (p:=⟨p.id,p.load,p.prio,p.req,node⟩) (by simp) 0 _ rfl
 rw [Nat.add_zero] at c0'
 have hwW:w.heap.size<W.heap.size:=by omega
 have hgW:g<W.heap.size:=by omega
 have HWS:=Lib.hid hWs
 clear hL1 hW c7 z7 c0 hWs
 have HWT0:=Lib.hid (fun (v:World) (hv:Keeps W v)=>want_any x p.id A n c v1 v2 v HN.out hl ((HR.out.below (kW.trans (hv.2.mono (by have:=HWS.out;omega))) (Nat.le_refl _)).more (by have:=hv.2.size;have:=HWS.out;omega)))
 obtain ⟨q,b,hq⟩:∃ (q:WantD) (b:Bool),(b=false∧place WantD.pod p.id x 0<0∧q=⟨0,⟨0,0,0,0⟩,false⟩)∨(b=true∧∃ (j:Nat) (hj:j<x.length),place WantD.pod p.id x 0=j∧q=x[j]):=by
  by_cases h:place WantD.pod p.id x 0<0
  ·exact ⟨_,_,.inl ⟨rfl,h,rfl⟩⟩
  ·have:=place_ge (f:=WantD.pod) (id:=p.id) (l:=x) (k:=0) (by omega)
   exact ⟨_,_,.inr ⟨rfl,(place WantD.pod p.id x 0).toNat,by omega,by omega,rfl⟩⟩
 have HQ:=Lib.hid hq
 have HWT:Hid (∀ v:World,Keeps W v→Calls Tryz.prog 164 #[.agg #[.slice A n c,v1,v2],.int .i64 p.id] v fun e w'=>e=.returned (.tuple #[aggW q,.bool b])∧Below v.heap.size v w'):=fun v hv =>
  (HWT0.out v hv).mono fun e w' ⟨h,hb⟩=>by
   refine ⟨?_,hb⟩
   rcases HQ.out with ⟨rfl,h0,rfl⟩ | ⟨rfl,j,hj,h0,rfl⟩
   ·rcases h with ⟨_,rfl⟩ | ⟨j,hj,h1,_⟩
    ·rfl
    ·omega
   ·rcases h with ⟨h1,_⟩ | ⟨j',hj',h1,rfl⟩
    ·omega
    ·have:j'=j:=by omega
     subst this
     rfl
 clear HWT0 hq
 go_region_held3 (fun w'=>(∀ b o,b<W.heap.size→w'.cell? ⟨b,o,none⟩=W.cell? ⟨b,o,none⟩)∧Below W.heap.size W w')
  (first | (with_reducible assumption) | (show Keeps W _;with_reducible (repeat (first | exact Keeps.refl _ | refine Keeps.drew ?_ | refine Keeps.set ?_ (by simp) _ | refine Keeps.alloc ?_ _ | refine Keeps.step ?_ (by assumption)))))
  (first
   | (go_at_call 164;refine (HWT.out _ (by assumption)).mono ?_;rintro e w' ⟨rfl,hb⟩;obtain ⟨hcx,hfx⟩:=old_cells hb))
 ·rename_i hK
  have q0:(w'.alloc (.cells #[.int .i64 q.pod,.int .u64 q.req.a,.int .u64 q.req.b,.int .u64 q.req.c,.int .u64 q.req.d,.bool q.stay] 65)).cell? ⟨w'.heap.size,0,none⟩=some (.int .i64 q.pod):=by simp
  have q1:(w'.alloc (.cells #[.int .i64 q.pod,.int .u64 q.req.a,.int .u64 q.req.b,.int .u64 q.req.c,.int .u64 q.req.d,.bool q.stay] 65)).cell? ⟨w'.heap.size,1,none⟩=some (.int .u64 q.req.a):=by simp
  have q2:(w'.alloc (.cells #[.int .i64 q.pod,.int .u64 q.req.a,.int .u64 q.req.b,.int .u64 q.req.c,.int .u64 q.req.d,.bool q.stay] 65)).cell? ⟨w'.heap.size,2,none⟩=some (.int .u64 q.req.b):=by simp
  have q3:(w'.alloc (.cells #[.int .i64 q.pod,.int .u64 q.req.a,.int .u64 q.req.b,.int .u64 q.req.c,.int .u64 q.req.d,.bool q.stay] 65)).cell? ⟨w'.heap.size,3,none⟩=some (.int .u64 q.req.c):=by simp
  have q4:(w'.alloc (.cells #[.int .i64 q.pod,.int .u64 q.req.a,.int .u64 q.req.b,.int .u64 q.req.c,.int .u64 q.req.d,.bool q.stay] 65)).cell? ⟨w'.heap.size,4,none⟩=some (.int .u64 q.req.d):=by simp
  have q5:(w'.alloc (.cells #[.int .i64 q.pod,.int .u64 q.req.a,.int .u64 q.req.b,.int .u64 q.req.c,.int .u64 q.req.d,.bool q.stay] 65)).cell? ⟨w'.heap.size,5,none⟩=some (.bool q.stay):=by simp
  have LV:=HL1.out.below hK.2
  have KV:=kW.trans (hK.2.mono (by have:=HWS.out;omega))
  generalize hV:w'.alloc (.cells #[.int .i64 q.pod,.int .u64 q.req.a,.int .u64 q.req.b,.int .u64 q.req.c,.int .u64 q.req.d,.bool q.stay] 65)=V at *
  have HLV:=Lib.hid LV
  clear hK LV hV hcx hfx hb
  generalize w'.heap.size=h at *
  rcases HQ.out with ⟨hbe,h0,he⟩ | ⟨hbe,j,hj,h0,he⟩
  ·have HE:=Lib.hid (come_none (x:=x) (node:=node) (p:=p) h0)
   subst hbe
   clear he
   go_wp2
   go_end0
   exact ⟨rfl,by rw [HE.out];exact HLV.out,KV⟩
  ·have HE:=Lib.hid (come_some (x:=x) (node:=node) (p:=p) hj h0)
   rw [← he] at HE
   subst hbe
   clear he
   cases hs:q.stay with
   | false =>
    go_wp2
    go_end0
    exact ⟨rfl,by rw [HE.out,hs];exact HLV.out,KV⟩
   | true =>
    have c3:=HLV.out.at hi1 (p:=⟨p.id,p.load,p.prio,p.req,node⟩) (by simp) 3 _ rfl
    have z3:=HLV.out.frozen (i * 8+3)
    have c4:=HLV.out.at hi1 (p:=⟨p.id,p.load,p.prio,p.req,node⟩) (by simp) 4 _ rfl
    have z4:=HLV.out.frozen (i * 8+4)
    have c5:=HLV.out.at hi1 (p:=⟨p.id,p.load,p.prio,p.req,node⟩) (by simp) 5 _ rfl
    have z5:=HLV.out.frozen (i * 8+5)
    have c6:=HLV.out.at hi1 (p:=⟨p.id,p.load,p.prio,p.req,node⟩) (by simp) 6 _ rfl
    have z6:=HLV.out.frozen (i * 8+6)
    have hz:h<V.heap.size:=World.block_lt_of_cell? V _ q0
    go_wp2
    go_end0
    refine ⟨rfl,?_,?_⟩
    ·have L3:=HLV.out.put hi1 (j:=3) (by omega) (.int .u64 q.req.a) ⟨p.id,p.load,p.prio,⟨q.req.a,p.req.b,p.req.c,p.req.d⟩,node⟩ (by simp;rfl)
     have L4:=L3.put (i:=i) (by simpa using hi) (j:=4) (by omega) (.int .u64 q.req.b) ⟨p.id,p.load,p.prio,⟨q.req.a,q.req.b,p.req.c,p.req.d⟩,node⟩ (by simp;rfl)
     have L5:=L4.put (i:=i) (by simpa using hi) (j:=5) (by omega) (.int .u64 q.req.c) ⟨p.id,p.load,p.prio,⟨q.req.a,q.req.b,q.req.c,p.req.d⟩,node⟩ (by simp;rfl)
     have L6:=L5.put (i:=i) (by simpa using hi) (j:=6) (by omega) (.int .u64 q.req.d) ⟨p.id,p.load,p.prio,⟨q.req.a,q.req.b,q.req.c,q.req.d⟩,node⟩ (by simp;rfl)
     rw [HE.out,hs]
     simpa using L6
    ·repeat (first | with_reducible exact KV | with_reducible refine Below.setCell ?_ ?_ _)
     all_goals exact Nat.le_refl _
 ·rename_i hK
  have hzn:W.heap.size<w'.heap.size:=by have:=hb.size;simp at this;omega
  have hc0:w'.cell? ⟨W.heap.size,0,none⟩=some (.int .i64 0):=(hcx _ _ (by simp)).trans (by simp)
  have hc1:w'.cell? ⟨W.heap.size,1,none⟩=some (.int .u64 0):=(hcx _ _ (by simp)).trans (by simp)
  have hc2:w'.cell? ⟨W.heap.size,2,none⟩=some (.int .u64 0):=(hcx _ _ (by simp)).trans (by simp)
  have hc3:w'.cell? ⟨W.heap.size,3,none⟩=some (.int .u64 0):=(hcx _ _ (by simp)).trans (by simp)
  have hc4:w'.cell? ⟨W.heap.size,4,none⟩=some (.int .u64 0):=(hcx _ _ (by simp)).trans (by simp)
  have hc5:w'.cell? ⟨W.heap.size,5,none⟩=some (.bool false):=(hcx _ _ (by simp)).trans (by simp)
  have q0:((((((w'.setCell ⟨W.heap.size,0,none⟩ (.int .i64 q.pod)).setCell ⟨W.heap.size,1,none⟩ (.int .u64 q.req.a)).setCell ⟨W.heap.size,2,none⟩ (.int .u64 q.req.b)).setCell ⟨W.heap.size,3,none⟩ (.int .u64 q.req.c)).setCell ⟨W.heap.size,4,none⟩ (.int .u64 q.req.d)).setCell ⟨W.heap.size,5,none⟩ (.bool q.stay)).cell? ⟨W.heap.size,0,none⟩=some (.int .i64 q.pod):=by simp [go_sem, *]
  have q1:((((((w'.setCell ⟨W.heap.size,0,none⟩ (.int .i64 q.pod)).setCell ⟨W.heap.size,1,none⟩ (.int .u64 q.req.a)).setCell ⟨W.heap.size,2,none⟩ (.int .u64 q.req.b)).setCell ⟨W.heap.size,3,none⟩ (.int .u64 q.req.c)).setCell ⟨W.heap.size,4,none⟩ (.int .u64 q.req.d)).setCell ⟨W.heap.size,5,none⟩ (.bool q.stay)).cell? ⟨W.heap.size,1,none⟩=some (.int .u64 q.req.a):=by simp [go_sem, *]
  have q2:((((((w'.setCell ⟨W.heap.size,0,none⟩ (.int .i64 q.pod)).setCell ⟨W.heap.size,1,none⟩ (.int .u64 q.req.a)).setCell ⟨W.heap.size,2,none⟩ (.int .u64 q.req.b)).setCell ⟨W.heap.size,3,none⟩ (.int .u64 q.req.c)).setCell ⟨W.heap.size,4,none⟩ (.int .u64 q.req.d)).setCell ⟨W.heap.size,5,none⟩ (.bool q.stay)).cell? ⟨W.heap.size,2,none⟩=some (.int .u64 q.req.b):=by simp [go_sem, *]
  have q3:((((((w'.setCell ⟨W.heap.size,0,none⟩ (.int .i64 q.pod)).setCell ⟨W.heap.size,1,none⟩ (.int .u64 q.req.a)).setCell ⟨W.heap.size,2,none⟩ (.int .u64 q.req.b)).setCell ⟨W.heap.size,3,none⟩ (.int .u64 q.req.c)).setCell ⟨W.heap.size,4,none⟩ (.int .u64 q.req.d)).setCell ⟨W.heap.size,5,none⟩ (.bool q.stay)).cell? ⟨W.heap.size,3,none⟩=some (.int .u64 q.req.c):=by simp [go_sem, *]
  have q4:((((((w'.setCell ⟨W.heap.size,0,none⟩ (.int .i64 q.pod)).setCell ⟨W.heap.size,1,none⟩ (.int .u64 q.req.a)).setCell ⟨W.heap.size,2,none⟩ (.int .u64 q.req.b)).setCell ⟨W.heap.size,3,none⟩ (.int .u64 q.req.c)).setCell ⟨W.heap.size,4,none⟩ (.int .u64 q.req.d)).setCell ⟨W.heap.size,5,none⟩ (.bool q.stay)).cell? ⟨W.heap.size,4,none⟩=some (.int .u64 q.req.d):=by simp [go_sem, *]
  have q5:((((((w'.setCell ⟨W.heap.size,0,none⟩ (.int .i64 q.pod)).setCell ⟨W.heap.size,1,none⟩ (.int .u64 q.req.a)).setCell ⟨W.heap.size,2,none⟩ (.int .u64 q.req.b)).setCell ⟨W.heap.size,3,none⟩ (.int .u64 q.req.c)).setCell ⟨W.heap.size,4,none⟩ (.int .u64 q.req.d)).setCell ⟨W.heap.size,5,none⟩ (.bool q.stay)).cell? ⟨W.heap.size,5,none⟩=some (.bool q.stay):=by simp [go_sem, *]
  clear hc0 hc1 hc2 hc3 hc4 hc5 hzn
  have LV:=HL1.out.below hK.2
  have KV:=kW.trans (hK.2.mono (by have:=HWS.out;omega))
  generalize hV:(((((w'.setCell ⟨W.heap.size,0,none⟩ (.int .i64 q.pod)).setCell ⟨W.heap.size,1,none⟩ (.int .u64 q.req.a)).setCell ⟨W.heap.size,2,none⟩ (.int .u64 q.req.b)).setCell ⟨W.heap.size,3,none⟩ (.int .u64 q.req.c)).setCell ⟨W.heap.size,4,none⟩ (.int .u64 q.req.d)).setCell ⟨W.heap.size,5,none⟩ (.bool q.stay)=V at *
  have HLV:=Lib.hid LV
  clear hK LV hV hcx hfx hb
  generalize hh:W.heap.size=h at *
  clear hh
  rcases HQ.out with ⟨hbe,h0,he⟩ | ⟨hbe,j,hj,h0,he⟩
  ·have HE:=Lib.hid (come_none (x:=x) (node:=node) (p:=p) h0)
   subst hbe
   clear he
   go_wp2
   go_end0
   exact ⟨rfl,by rw [HE.out];exact HLV.out,KV⟩
  ·have HE:=Lib.hid (come_some (x:=x) (node:=node) (p:=p) hj h0)
   rw [← he] at HE
   subst hbe
   clear he
   cases hs:q.stay with
   | false =>
    go_wp2
    go_end0
    exact ⟨rfl,by rw [HE.out,hs];exact HLV.out,KV⟩
   | true =>
    have c3:=HLV.out.at hi1 (p:=⟨p.id,p.load,p.prio,p.req,node⟩) (by simp) 3 _ rfl
    have z3:=HLV.out.frozen (i * 8+3)
    have c4:=HLV.out.at hi1 (p:=⟨p.id,p.load,p.prio,p.req,node⟩) (by simp) 4 _ rfl
    have z4:=HLV.out.frozen (i * 8+4)
    have c5:=HLV.out.at hi1 (p:=⟨p.id,p.load,p.prio,p.req,node⟩) (by simp) 5 _ rfl
    have z5:=HLV.out.frozen (i * 8+5)
    have c6:=HLV.out.at hi1 (p:=⟨p.id,p.load,p.prio,p.req,node⟩) (by simp) 6 _ rfl
    have z6:=HLV.out.frozen (i * 8+6)
    have hz:h<V.heap.size:=World.block_lt_of_cell? V _ q0
    go_wp2
    go_end0
    refine ⟨rfl,?_,?_⟩
    ·have L3:=HLV.out.put hi1 (j:=3) (by omega) (.int .u64 q.req.a) ⟨p.id,p.load,p.prio,⟨q.req.a,p.req.b,p.req.c,p.req.d⟩,node⟩ (by simp;rfl)
     have L4:=L3.put (i:=i) (by simpa using hi) (j:=4) (by omega) (.int .u64 q.req.b) ⟨p.id,p.load,p.prio,⟨q.req.a,q.req.b,p.req.c,p.req.d⟩,node⟩ (by simp;rfl)
     have L5:=L4.put (i:=i) (by simpa using hi) (j:=5) (by omega) (.int .u64 q.req.c) ⟨p.id,p.load,p.prio,⟨q.req.a,q.req.b,q.req.c,p.req.d⟩,node⟩ (by simp;rfl)
     have L6:=L5.put (i:=i) (by simpa using hi) (j:=6) (by omega) (.int .u64 q.req.d) ⟨p.id,p.load,p.prio,⟨q.req.a,q.req.b,q.req.c,q.req.d⟩,node⟩ (by simp;rfl)
     rw [HE.out,hs]
     simpa using L6
    ·repeat (first | with_reducible exact KV | with_reducible refine Below.setCell ?_ ?_ _)
     all_goals exact Nat.le_refl _
end Go.Proofs.YthapilknnhlmfaaGreatDoor
