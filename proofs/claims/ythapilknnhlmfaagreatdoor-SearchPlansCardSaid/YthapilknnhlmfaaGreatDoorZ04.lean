/- Joined texts, part 4: TK WM DB DE DEN. -/
import Derived.Test.YthapilknnhlmfaaGreatDoorZ03
import Derived.Test.YthapilknnhlmfaaGreatDoorZ01
import Derived.Test.YthapilknnhlmfaaGreatDoorZ02
import Derived.IntWalk

namespace Go.Proofs.YthapilknnhlmfaaGreatDoor
set_option linter.unusedSimpArgs false
open Go.RowKit
set_option linter.unusedVariables false
theorem PRow.alloc {w:World} {n0:Nat} {v:Value} {ids:List Nat} (h:PRow w n0 v ids) (o:Obj):PRow (w.alloc o) n0 v ids:=h.keep fun k cs _ hb=>hb.alloc o
theorem PRow.drew {w:World} {n0:Nat} {v:Value} {ids:List Nat} (h:PRow w n0 v ids):PRow w.drew n0 v ids:=h
section
variable {ops:Array Oper} {o:Oper} {a:Act} {wr:World} {K:Act→World→Prop} {Q:Exit→Act→World→Prop} {E:Prop}
theorem step_put19 (hgd:o.guard=none) (s x:Operand) (ho:o.op=.call { callee:=.builtin .append,args:=#[s,x],argTypes:=#[72,72] })
  (n0:Nat) (v:Value) (ids:List Nat) (hr:PRow wr n0 v ids) (hs:a.eval s=v) (b g0:Nat) (hx:a.eval x=.slice (some ⟨g0,0,none⟩) 1 1) (hc:wr.cell? ⟨g0,0,none⟩=some (ptr19 b)) (hn:n0≤wr.heap.size) (hl:ids.length≤1000000)
  {W:World} (hW:Below W.heap.size W wr) {hb:Nat} {cs:List Value} (hbk:Bk wr hb cs 77)
  (h:∀ v' w',PRow w' n0 v' (ids++[b])→(∀ k,k<W.heap.size→v.ownBlock≠some k→w'.heap[k]?=W.heap[k]?)→(w'.os=W.os∧w'.tape=W.tape∧w'.output=W.output∧W.heap.size≤w'.heap.size)→(v'.ownBlock=v.ownBlock∨∀ k,v'.ownBlock=some k→W.heap.size≤k)→Bk w' hb cs 77→K (a.put o.dst v') w') :
  if Region.wanted o (yielded ops a.tmps)=true then Oper.wp Tryz.prog o a wr K Q else E:=by
 refine step_push19 hgd s x ho n0 v ids hr hs b g0 hx hc hn hl fun v' w' h1 h2 h3=>h v' w' h1 (fun k hk hne=>?_) ⟨h2.os.trans hW.os,h2.tape.trans hW.tape,h2.output.trans hW.output,Nat.le_trans hW.size h2.size⟩ (h3.imp id fun e k hk=>?_) (hbk.grown h2 fun e=>?_)
 ·exact (h2.block k (Nat.lt_of_lt_of_le hk hW.size) (fun e=>hne e.symm)).trans (hW.block k hk)
 ·rw [hk] at e
  injection e with e
  have:=hW.size
  omega
 ·obtain ⟨cs',hc'⟩:=hr.type hb e
  exact absurd (hc'.one hbk).2 (by decide)
end
def Mg (M:Nat→Prop) (w w':World):Nat→Prop:=fun k=>M k∨w.heap.size≤k∧k<w'.heap.size
def PutTo19 (hb n0:Nat) (a0 a1 a2 a3 a4 a5:Value) (left:Int) (mp:Nat) (R:Nat→List Nat) (N:Nat) (cut:Bool) (M:Nat→Prop) (r b:Nat) (w:World) (e:Ending) (w':World):Prop :=
 ∃ V',e=.returned (.tuple #[])∧Ln hb n0 a0 a1 a2 a3 a4 a5 left mp V' (upd19 R r (R r++[b])) (N+1) cut (Mg M w w') w'∧ButT LineT M w w'
set_option maxHeartbeats 3200000 in
set_option maxRecDepth 100000 in
theorem linePut_any {hb n0:Nat} {a0 a1 a2 a3 a4 a5:Value} {left:Int} {mp:Nat} {V:Nat→Value} {R:Nat→List Nat} {N:Nat} {cut:Bool} {M:Nat→Prop} {w:World} (h:Ln hb n0 a0 a1 a2 a3 a4 a5 left mp V R N cut M w) (hm:N≤1000000) (b:Nat) (m u:Int) (h9:w.cell? ⟨b,9,none⟩=some (.int .i64 m)) (h12:w.cell? ⟨b,12,none⟩=some (.int .i64 u)) (hm0:0≤m∧m≤40) (hu:0≤u∧u≤12) (r:Nat) (hr:(r:Int)=40 - m+3 * u) :
  Calls Tryz.prog 90 #[.pointer (some ⟨hb,8,none⟩),ptr19 b] w (PutTo19 hb n0 a0 a1 a2 a3 a4 a5 left mp R N cut M r b w):=by
 have hr7:r<77:=by omega
 have hr8:(r:Int)<77:=by omega
 have HF:=Lib.hid (rank_any19 b m u w h9 h12 hm0 hu)
 rw [← hr] at HF
 have H:=Lib.hid h
 clear h hr hm0 hu h9 h12
 go_enter Tryz.func90,Tryz.ntmps90
 go_wp2_with fail
 refine HF.out.mono ?_
 rintro e w1 ⟨rfl,hb1⟩
 have HB:=Lib.hid hb1
 have H1:=Lib.hid (H.out.below hb1)
 clear hb1 HF
 have hlen:(R r).length≤1000000:=by have:=sumR_row (R:=R) hr7;have:=H.out.cnt;omega
 have e0:=H1.out.blk.cell (8+r) _ (huntL_row hr7)
 have e0':=(H1.out.blk.alloc (.cells #[ptr19 b] 78)).cell (8+r) _ (huntL_row hr7)
 have HROW:=Lib.hid (H1.out.row r hr7)
 have HLEN:=Lib.hid hlen
 have HNE:=Lib.hid (show (V r).ownBlock≠some hb from fun e=>H.out.off hr7 e rfl)
 clear hlen
 go_wp2
 go_region_law (refine step_put19 rfl (.tmp 14) (.tmp 16) rfl n0 (V r) (R r) (by with_reducible (repeat (first | exact HROW.out | refine PRow.alloc ?_ _ | refine PRow.drew ?_))) rfl b _ rfl (by exact (Bk.new _ [ptr19 b] 78).cell 0 _ rfl) (by have:=H1.out.n0;simp;omega) HLEN.out (W:=w1) (by with_reducible (repeat (first | exact Below.refl _ _ | refine Below.drew ?_ | refine Below.alloc ?_ (Nat.le_refl _) _))) (hb:=hb) (cs:=huntL a0 a1 a2 a3 a4 a5 left mp V N cut) (by with_reducible (repeat (first | exact H1.out.blk | refine Bk.alloc ?_ _ | refine Bk.drew ?_))) ?_;intro v' w8 hrow8 hgr8 hsz8 hwh8 B8;obtain ⟨A8,q8,rfl,-⟩:=hrow8.slice;have c8:=B8.cell (8+r) _ (huntL_row hr7);have f8:=B8.frozen (8+r);have HB8:=Lib.hid B8;have HG8:=Lib.hid (And.intro hgr8 hsz8);have HR8:=Lib.hid hrow8;have HW8:=Lib.hid hwh8;clear B8 hgr8 hsz8 hrow8 hwh8)
 all_goals
  have HFIN:Hid (PutTo19 hb n0 a0 a1 a2 a3 a4 a5 left mp R N cut M r b w (.returned (.tuple #[])) ((w8.setCell ⟨hb,8+r,none⟩ (.slice A8 (R r++[b]).length q8)).setCell ⟨hb,85,none⟩ (.int .i64 (N+1:Nat)))):=by
   obtain ⟨g1,g2,g3,g4,g5⟩:=HG8.out
   have hsw:w.heap.size≤w1.heap.size:=HB.out.size
   have k1:ButT LineT M w w8:=(ButT.of HB.out:ButT LineT M w w1).trans (M':=M) ⟨⟨g2,g3,g4,g5,fun k hk hn=>g1 k hk fun e=>hn (H.out.rm r hr7 k e)⟩,fun k hk hn=>g1 k hk fun e=>by
    obtain ⟨cs,hc⟩:=(H1.out.row r hr7).type k e
    exact hn cs _ (.inr rfl) hc⟩ fun _ _ h=>h
   refine ⟨_,rfl,H1.out.turn (w1:=w8) hr7 HR8.out g1 g5 (fun k hk=>.inl hk) (fun k hk=>?_) (fun k hk=>?_) HW8.out (by rw [List.length_append];simp;omega),?_⟩
   ·have h8:=(HR8.out.lt k hk).2
    rcases HW8.out with e | e
    ·rw [e] at hk;exact .inl (H.out.rm r hr7 k hk)
    ·exact .inr ⟨by have:=e k hk;omega,by simpa using h8⟩
   ·rcases hk with hk | hk
    ·have:=H.out.lt k hk;exact ⟨this.1,by omega⟩
    ·have:=H.out.n0;simp at hk;exact ⟨by omega,hk.2⟩
   ·have k2:=k1.trans (ButT.set (M:=M) HB8.out (.inl rfl) H.out.hm (8+r) (.slice A8 (R r++[b]).length q8)) fun _ _ h=>h
    exact k2.trans (ButT.set (M:=M) (HB8.out.set (8+r) _) (.inl rfl) H.out.hm 85 _) fun _ _ h=>h
  have b9:=HB8.out.set (8+r) (.slice A8 (R r++[b]).length q8)
  rw [huntL_setRow hr7] at b9
  have c9:=b9.cell 85 _ huntL_many
  have f9:=b9.frozen 85
  have hw9:IntKind.i64.wrap ((N:Int)+1)=(N:Int)+1:=IntWalk.i64_in _ (by omega)
  rw [List.length_append,List.length_singleton] at c9 f9 HFIN
  generalize w8.setCell ⟨hb,8+r,none⟩ (.slice A8 ((R r).length+1) q8)=W9 at *
  clear b9 HG8 HR8 HW8 HB8 c8 f8
  go_wp2
  go_end0
  exact HFIN.out
def V4.add (x y:V4):V4:=⟨x.a+y.a,x.b+y.b,x.c+y.c,x.d+y.d⟩
def V4.sub (x y:V4):V4:=⟨x.a - y.a,x.b - y.b,x.c - y.c,x.d - y.d⟩
def V4.zer:V4:=⟨0,0,0,0⟩
def V4.small (x:V4):Bool:=decide (x.a<18446744073709551616∧x.b<18446744073709551616∧x.c<18446744073709551616∧x.d<18446744073709551616)
def subV (x y:V4):Option V4:=if y.le x then some (x.sub y) else none
def totV:List V4→V4
 | []=>.zer
 | x :: r=>x.add (totV r)
def sumV (l:List V4):Option V4:=if (totV l).small then some (totV l) else none
def reqsAt (node:Int):List PodD→List V4
 | []=>[]
 | p :: r=>if p.node=node then p.req :: reqsAt node r else reqsAt node r
def useD (l:List PodD) (node:Int):Option V4:=sumV (reqsAt node l)
def leftD (n:NodeD) (u:V4):Option V4:=match subV n.cap n.held with
 | none=>none
 | some f=>subV f u
def nodeAt (id:Int):List NodeD→Option NodeD
 | []=>none
 | x :: r=>if x.id=id then some x else nodeAt id r
def restD (ns:List NodeD) (l:List PodD) (id:Int):V4 × Int :=
 match nodeAt id ns with
 | none=>(.zer,4)
 | some n=>match useD l id with
  | none=>(.zer,8)
  | some u=>match leftD n u with
   | none=>(.zer,9)
   | some r=>(r,0)
def roomD (ns:List NodeD) (l:List PodD):List NodeD→Nat→Int × Int
 | [],_=>(0,-1)
 | n :: r,k=>if (restD ns l n.id).2≠0 then ((restD ns l n.id).2,(k:Int)) else roomD ns l r (k+1)
def roomOf (ns:List NodeD) (l:List PodD):Int × Int:=roomD ns l ns 0

theorem rest_none {ns:List NodeD} {l:List PodD} {id:Int} (h:nodeAt id ns=none):restD ns l id=(.zer,4):=by simp only [restD,h]
theorem rest_over {ns:List NodeD} {l:List PodD} {id:Int} {n:NodeD} (h:nodeAt id ns=some n) (h2:useD l id=none):restD ns l id=(.zer,8):=by simp only [restD,h,h2]
theorem rest_room {ns:List NodeD} {l:List PodD} {id:Int} {n:NodeD} {u:V4} (h:nodeAt id ns=some n) (h2:useD l id=some u) (h3:leftD n u=none):restD ns l id=(.zer,9):=by simp only [restD,h,h2,h3]
theorem rest_some {ns:List NodeD} {l:List PodD} {id:Int} {n:NodeD} {u r:V4} (h:nodeAt id ns=some n) (h2:useD l id=some u) (h3:leftD n u=some r):restD ns l id=(r,0):=by simp only [restD,h,h2,h3]
theorem left_none {n:NodeD} {u:V4} (h:subV n.cap n.held=none):leftD n u=none:=by simp only [leftD,h]
theorem left_some {n:NodeD} {u f:V4} (h:subV n.cap n.held=some f):leftD n u=subV f u:=by simp only [leftD,h]
theorem rest_vals (ns:List NodeD) (l:List PodD) (id:Int):((restD ns l id).2=0)∨((restD ns l id).1=.zer∧((restD ns l id).2=4∨(restD ns l id).2=8∨(restD ns l id).2=9)):=by
 rcases h1:nodeAt id ns with _ | n
 ·rw [rest_none h1];simp
 ·rcases h2:useD l id with _ | u
  ·rw [rest_over h1 h2];simp
  ·rcases h3:leftD n u with _ | r
   ·rw [rest_room h1 h2 h3];simp
   ·rw [rest_some h1 h2 h3];simp
theorem nodeAt_no {id:Int}:∀ {l:List NodeD} {k:Int},0≤k→place NodeD.id id l k<0→nodeAt id l=none
 | [],_,_,_=>rfl
 | x :: r,k,hk,h=>by
  by_cases e:x.id=id
  ·simp [place,e] at h;omega
  ·simp only [place,if_neg e] at h
   simp only [nodeAt,if_neg e]
   exact nodeAt_no (k:=k+1) (by omega) h
theorem nodeAt_yes {id:Int}:∀ {l:List NodeD} {k:Int} {i:Nat} (h:i<l.length),0≤k→place NodeD.id id l k=k+i→nodeAt id l=some l[i]
 | [],_,_,h,_,_=>by simp at h
 | x :: r,k,i,h,hk,hp=>by
  by_cases e:x.id=id
  ·simp only [place,if_pos e] at hp
   obtain rfl:i=0:=by omega
   simp [nodeAt,e]
  ·simp only [place,if_neg e] at hp
   cases i with
   | zero=>have:=place_ge (f:=NodeD.id) (id:=id) (l:=r) (k:=k+1) (by omega);rw [hp] at this;exfalso
           have h2:k+1≤place NodeD.id id r (k+1)∨place NodeD.id id r (k+1)<0:=by
            by_cases hn:place NodeD.id id r (k+1)<0
            ·exact .inr hn
            ·left
             have:∀ (r:List NodeD) (k:Int),0≤k→place NodeD.id id r k<0∨k≤place NodeD.id id r k:=by
              intro r
              induction r with
              | nil=>intro k _;left;simp [place]
              | cons y r ih=>intro k hk;by_cases e:y.id=id <;> simp only [place,e,if_true,if_false];exact .inr (Int.le_refl _);rcases ih (k+1) (by omega) with h | h;exact .inl h;exact .inr (by omega)
             rcases this r (k+1) (by omega) with h | h
             ·exact absurd h hn
             ·exact h
           omega
   | succ i =>
    simp only [nodeAt,if_neg e]
    rw [nodeAt_yes (l:=r) (k:=k+1) (i:=i) (by simpa using h) (by omega) (by omega)]
    simp
theorem roomD_at {ns:List NodeD} {l:List PodD} {m:List NodeD} {k:Nat} {p:Int × Int} (h:k<m.length) {n:NodeD} (hn:m[k]=n) (hp:roomD ns l (m.drop k) k=p) :
  ((restD ns l n.id).2≠0→p=((restD ns l n.id).2,(k:Int)))∧((restD ns l n.id).2=0→roomD ns l (m.drop (k+1)) (k+1)=p):=by
 rw [List.drop_eq_getElem_cons h,hn,roomD] at hp
 constructor
 ·intro e;rw [if_pos e] at hp;exact hp.symm
 ·intro e;rw [if_neg (by simpa using e)] at hp;exact hp
theorem roomD_end {ns:List NodeD} {l:List PodD} {m:List NodeD} {k:Nat} {p:Int × Int} (h:m.length≤k) (hp:roomD ns l (m.drop k) k=p):p=(0,-1):=by
 rw [List.drop_of_length_le h,roomD] at hp;exact hp.symm
theorem sub_le {x y z:V4} (h:subV x y=some z):z=x.sub y∧y.le x=true:=by
 unfold subV at h
 split at h
 ·rename_i hs;exact ⟨(Option.some.inj h).symm,hs⟩
 ·cases h
theorem sub_ok4 {x y z:V4} (hx:x.Ok) (hy:y.Ok) (h:subV x y=some z):z.Ok:=by
 obtain ⟨rfl,hl⟩:=sub_le h
 simp only [V4.le,decide_eq_true_eq] at hl
 simp only [V4.Ok,U64,V4.sub] at *
 omega
theorem tot_pos:∀ {l:List V4},(∀ x ∈ l,x.Ok)→0≤(totV l).a∧0≤(totV l).b∧0≤(totV l).c∧0≤(totV l).d
 | [],_=>by simp [totV,V4.zer]
 | x :: r,h=>by
  have h1:=tot_pos (l:=r) (fun y hy=>h y (List.mem_cons_of_mem _ hy))
  have h2:=h x (List.mem_cons_self ..)
  simp only [V4.Ok,U64] at h2
  simp only [totV,V4.add]
  omega
theorem sum_ok4 {l:List V4} {u:V4} (h:∀ x ∈ l,x.Ok) (hu:sumV l=some u):u.Ok:=by
 have hp:=tot_pos h
 unfold sumV at hu
 split at hu
 ·rename_i hs
  have:=Option.some.inj hu
  subst this
  simp only [V4.small,decide_eq_true_eq] at hs
  simp only [V4.Ok,U64]
  omega
 ·cases hu
theorem reqs_ok {node:Int}:∀ {l:List PodD},(∀ p ∈ l,p.Ok)→∀ x ∈ reqsAt node l,x.Ok
 | [],_,x,hx=>by simp [reqsAt] at hx
 | p :: r,h,x,hx=>by
  unfold reqsAt at hx
  split at hx
  ·rcases List.mem_cons.1 hx with rfl | hx
   ·exact (h p (List.mem_cons_self ..)).2.2.2.1
   ·exact reqs_ok (fun q hq=>h q (List.mem_cons_of_mem _ hq)) x hx
  ·exact reqs_ok (fun q hq=>h q (List.mem_cons_of_mem _ hq)) x hx
theorem use_ok {l:List PodD} {node:Int} {u:V4} (h:∀ p ∈ l,p.Ok) (hu:useD l node=some u):u.Ok:=sum_ok4 (reqs_ok h) hu
theorem reqs_len (node:Int):∀ l:List PodD,(reqsAt node l).length≤l.length
 | []=>Nat.le_refl _
 | p :: r=>by
  have:=reqs_len node r
  unfold reqsAt
  split <;> simp <;> omega
theorem reqs_append (node:Int):∀ (l m:List PodD),reqsAt node (l++m)=reqsAt node l++reqsAt node m
 | [],m=>rfl
 | p :: r,m=>by
  rw [List.cons_append,reqsAt,reqsAt,reqs_append node r m]
  split <;> simp
theorem reqs_take {node:Int} {l:List PodD} {k:Nat} (h:k<l.length) {p:PodD} (hp:l[k]=p) :
  (p.node=node→reqsAt node (l.take (k+1))=reqsAt node (l.take k)++[p.req])∧(p.node≠node→reqsAt node (l.take (k+1))=reqsAt node (l.take k)):=by
 rw [List.take_succ_eq_append_getElem h,reqs_append,hp]
 constructor
 ·intro e;simp [reqsAt,e]
 ·intro e;simp [reqsAt,e]
theorem tot_append:∀ (l m:List V4),totV (l++m)=(totV l).add (totV m)
 | [],m=>by simp [totV,V4.add,V4.zer]
 | x :: r,m=>by rw [List.cons_append,totV,tot_append r m];simp [totV,V4.add,Int.add_assoc]
def Keeps (W:World) (w':World):Prop:=(∀ b o,b<W.heap.size→w'.cell? ⟨b,o,none⟩=W.cell? ⟨b,o,none⟩)∧Below W.heap.size W w'
theorem Keeps.of {W v:World} (k:Below W.heap.size W v):Keeps W v:=⟨fun b o h=>k.cell (p:=⟨b,o,none⟩) h,k⟩
theorem Keeps.step {W v v':World} (h:Keeps W v) (hb:Below v.heap.size v v'):Keeps W v':=Keeps.of (h.2.trans (hb.mono h.2.size))
theorem Keeps.alloc {W v:World} (h:Keeps W v) (o:Obj):Keeps W (v.alloc o):=Keeps.of (h.2.alloc h.2.size o)
theorem Keeps.refl (W:World):Keeps W W:=Keeps.of (Below.refl _ _)
theorem Keeps.drew {W v:World} (h:Keeps W v):Keeps W v.drew:=Keeps.of (Below.drew h.2)
theorem Keeps.set {W v:World} {p:Addr} (h:Keeps W v) (hp:W.heap.size≤p.block) (x:Value):Keeps W (v.setCell p x):=Keeps.of (h.2.setCell hp x)
def ordI (last n:Int):Int:=if n=last then 5 else if n<last then 1 else 0
def idI (order n:Int):Int:=if order=0 then (if inB n 1 2147483647=true then 0 else 1) else order

set_option maxHeartbeats 1600000 in
theorem orderN_first (A:Option Addr) (n c:Nat) (f:Value) (w:World) :
  Calls Tryz.prog 146 #[.slice A n c,.int .i64 0,f] w fun e w'=>e=.returned (.int .i64 0)∧w=w':=by
 go_enter Tryz.func146,Tryz.ntmps146
 go_wp2
 go_ret
 exact ⟨rfl,rfl⟩
set_option maxHeartbeats 3200000 in
set_option maxRecDepth 100000 in
theorem orderN_next (l:List NodeD) (j:Nat) (A:Option Addr) (n c:Nat) (w:World) (hn:n=l.length) (hl:n≤1000) (hj:j+1<l.length) (hr:Recs 10 cellsN w w.heap.size A l) :
  Calls Tryz.prog 146 #[.slice A n c,.int .i64 ((j:Int)+1),.func (.func 75) #[] #[]] w fun e w'=>e=.returned (.int .i64 (ordI l[j].id l[j+1].id))∧Below w.heap.size w w':=by
 obtain ⟨b,o,rfl,hb,he⟩:=hr.at hj
 obtain ⟨b',o',h1,_,hf⟩:=hr.at (show j<l.length by omega)
 injection h1 with h1
 injection h1 with h1 h2 _
 subst h1 h2
 generalize l[j+1]=x at *
 generalize l[j]=y at *
 have e0:w.cell? ⟨b,o+(j+1) * 10,none⟩=some (.int .i64 x.id):=he 0 _ rfl
 have e1:w.cell? ⟨b,o+(j+1) * 10+1,none⟩=some (.int .i64 x.zone):=he 1 _ rfl
 have e2:w.cell? ⟨b,o+(j+1) * 10+2,none⟩=some (.int .u64 x.cap.a):=he 2 _ rfl
 have e3:w.cell? ⟨b,o+(j+1) * 10+3,none⟩=some (.int .u64 x.cap.b):=he 3 _ rfl
 have e4:w.cell? ⟨b,o+(j+1) * 10+4,none⟩=some (.int .u64 x.cap.c):=he 4 _ rfl
 have e5:w.cell? ⟨b,o+(j+1) * 10+5,none⟩=some (.int .u64 x.cap.d):=he 5 _ rfl
 have e6:w.cell? ⟨b,o+(j+1) * 10+6,none⟩=some (.int .u64 x.held.a):=he 6 _ rfl
 have e7:w.cell? ⟨b,o+(j+1) * 10+7,none⟩=some (.int .u64 x.held.b):=he 7 _ rfl
 have e8:w.cell? ⟨b,o+(j+1) * 10+8,none⟩=some (.int .u64 x.held.c):=he 8 _ rfl
 have e9:w.cell? ⟨b,o+(j+1) * 10+9,none⟩=some (.int .u64 x.held.d):=he 9 _ rfl
 have f0:w.cell? ⟨b,o+j * 10,none⟩=some (.int .i64 y.id):=hf 0 _ rfl
 have f1:w.cell? ⟨b,o+j * 10+1,none⟩=some (.int .i64 y.zone):=hf 1 _ rfl
 have f2:w.cell? ⟨b,o+j * 10+2,none⟩=some (.int .u64 y.cap.a):=hf 2 _ rfl
 have f3:w.cell? ⟨b,o+j * 10+3,none⟩=some (.int .u64 y.cap.b):=hf 3 _ rfl
 have f4:w.cell? ⟨b,o+j * 10+4,none⟩=some (.int .u64 y.cap.c):=hf 4 _ rfl
 have f5:w.cell? ⟨b,o+j * 10+5,none⟩=some (.int .u64 y.cap.d):=hf 5 _ rfl
 have f6:w.cell? ⟨b,o+j * 10+6,none⟩=some (.int .u64 y.held.a):=hf 6 _ rfl
 have f7:w.cell? ⟨b,o+j * 10+7,none⟩=some (.int .u64 y.held.b):=hf 7 _ rfl
 have f8:w.cell? ⟨b,o+j * 10+8,none⟩=some (.int .u64 y.held.c):=hf 8 _ rfl
 have f9:w.cell? ⟨b,o+j * 10+9,none⟩=some (.int .u64 y.held.d):=hf 9 _ rfl
 have hjn:(j:Int)+1<(n:Int):=by omega
 have hj1:(j:Int)<(n:Int):=by omega
 have hj0:(0:Int)≤(j:Int):=by omega
 have hj2:(0:Int)≤(j:Int)+1:=by omega
 have hjk:(j:Int)+1≤1000:=by omega
 have hjz:((j:Int)+1 == 0)=false:=by rw [beq_eq_false_iff_ne];omega
 have s1:IntKind.i64.wrap ((j:Int)+1 - 1)=(j:Int):=by rw [IntWalk.i64_in _ (by omega)];omega
 have s2:IntKind.i64.wrap (j:Int)=(j:Int):=IntWalk.i64_in _ (by omega)
 have s3:((j:Int)+1).toNat=j+1:=by omega
 clear he hf hn hr hj
 by_cases hlt:x.id<y.id
 ·have HE:=Lib.hid (show ordI y.id x.id=1 by unfold ordI;rw [if_neg (by omega),if_pos hlt])
  have HC:cmpI x.id y.id=-1:=by unfold cmpI;rw [if_pos hlt]
  go_enter Tryz.func146,Tryz.ntmps146
  go_wp2
  go_region_held3 (fun w'=>(∀ b o,b<w.heap.size→w'.cell? ⟨b,o,none⟩=w.cell? ⟨b,o,none⟩)∧Below w.heap.size w w')
   (first | (with_reducible assumption) | exact Keeps.of (Below.drew (Below.refl _ _)) | exact Keeps.step (by assumption) (by assumption))
   (first
    | (go_at_call 75;first
      | ((with_reducible refine (idN_any x _).mono ?_);rintro e w' ⟨rfl,hb⟩)
      | ((with_reducible refine (idN_any y _).mono ?_);rintro e w' ⟨rfl,hb⟩))
    | (go_at_call 84;(with_reducible refine (compare_any _ _ _).mono ?_);rintro e w' ⟨rfl,rfl⟩))
  clear s1 s2 s3
  go_wp2
  go_ret
  exact ⟨ret_int HE.out.symm,(by assumption:Keeps w _).2⟩
 ·by_cases heq:x.id=y.id
  ·have HE:=Lib.hid (show ordI y.id x.id=5 by unfold ordI;rw [if_pos heq])
   have HC:cmpI x.id y.id=0:=by unfold cmpI;rw [if_neg hlt,if_neg (by omega)]
   clear heq
   go_enter Tryz.func146,Tryz.ntmps146
   go_wp2
   go_region_held3 (fun w'=>(∀ b o,b<w.heap.size→w'.cell? ⟨b,o,none⟩=w.cell? ⟨b,o,none⟩)∧Below w.heap.size w w')
    (first | (with_reducible assumption) | exact Keeps.of (Below.drew (Below.refl _ _)) | exact Keeps.step (by assumption) (by assumption))
    (first
     | (go_at_call 75;first
       | ((with_reducible refine (idN_any x _).mono ?_);rintro e w' ⟨rfl,hb⟩)
       | ((with_reducible refine (idN_any y _).mono ?_);rintro e w' ⟨rfl,hb⟩))
     | (go_at_call 84;(with_reducible refine (compare_any _ _ _).mono ?_);rintro e w' ⟨rfl,rfl⟩))
   clear s1 s2 s3
   go_wp2
   go_ret
   exact ⟨ret_int HE.out.symm,(by assumption:Keeps w _).2⟩
  ·have HE:=Lib.hid (show ordI y.id x.id=0 by unfold ordI;rw [if_neg heq,if_neg hlt])
   have HC:cmpI x.id y.id=1:=by unfold cmpI;rw [if_neg hlt,if_pos (by omega)]
   go_enter Tryz.func146,Tryz.ntmps146
   go_wp2
   go_region_held3 (fun w'=>(∀ b o,b<w.heap.size→w'.cell? ⟨b,o,none⟩=w.cell? ⟨b,o,none⟩)∧Below w.heap.size w w')
    (first | (with_reducible assumption) | exact Keeps.of (Below.drew (Below.refl _ _)) | exact Keeps.step (by assumption) (by assumption))
    (first
     | (go_at_call 75;first
       | ((with_reducible refine (idN_any x _).mono ?_);rintro e w' ⟨rfl,hb⟩)
       | ((with_reducible refine (idN_any y _).mono ?_);rintro e w' ⟨rfl,hb⟩))
     | (go_at_call 84;(with_reducible refine (compare_any _ _ _).mono ?_);rintro e w' ⟨rfl,rfl⟩))
   clear s1 s2 s3
   go_wp2
   go_ret
   exact ⟨ret_int HE.out.symm,(by assumption:Keeps w _).2⟩

set_option maxHeartbeats 1600000 in
theorem orderL_first (A:Option Addr) (n c:Nat) (f:Value) (w:World) :
  Calls Tryz.prog 147 #[.slice A n c,.int .i64 0,f] w fun e w'=>e=.returned (.int .i64 0)∧w=w':=by
 go_enter Tryz.func147,Tryz.ntmps147
 go_wp2
 go_ret
 exact ⟨rfl,rfl⟩
set_option maxHeartbeats 3200000 in
set_option maxRecDepth 100000 in
theorem orderL_next (l:List LoadD) (j:Nat) (A:Option Addr) (n c:Nat) (w:World) (hn:n=l.length) (hl:n≤1000) (hj:j+1<l.length) (hr:Recs 5 cellsL w w.heap.size A l) :
  Calls Tryz.prog 147 #[.slice A n c,.int .i64 ((j:Int)+1),.func (.func 78) #[] #[]] w fun e w'=>e=.returned (.int .i64 (ordI l[j].id l[j+1].id))∧Below w.heap.size w w':=by
 obtain ⟨b,o,rfl,hb,he⟩:=hr.at hj
 obtain ⟨b',o',h1,_,hf⟩:=hr.at (show j<l.length by omega)
 injection h1 with h1
 injection h1 with h1 h2 _
 subst h1 h2
 generalize l[j+1]=x at *
 generalize l[j]=y at *
 have e0:w.cell? ⟨b,o+(j+1) * 5,none⟩=some (.int .i64 x.id):=he 0 _ rfl
 have e1:w.cell? ⟨b,o+(j+1) * 5+1,none⟩=some (.bool x.apart):=he 1 _ rfl
 have e2:w.cell? ⟨b,o+(j+1) * 5+2,none⟩=some (.int .i64 x.skew):=he 2 _ rfl
 have e3:w.cell? ⟨b,o+(j+1) * 5+3,none⟩=some (.int .i64 x.min):=he 3 _ rfl
 have e4:w.cell? ⟨b,o+(j+1) * 5+4,none⟩=some (.int .i64 x.max):=he 4 _ rfl
 have f0:w.cell? ⟨b,o+j * 5,none⟩=some (.int .i64 y.id):=hf 0 _ rfl
 have f1:w.cell? ⟨b,o+j * 5+1,none⟩=some (.bool y.apart):=hf 1 _ rfl
 have f2:w.cell? ⟨b,o+j * 5+2,none⟩=some (.int .i64 y.skew):=hf 2 _ rfl
 have f3:w.cell? ⟨b,o+j * 5+3,none⟩=some (.int .i64 y.min):=hf 3 _ rfl
 have f4:w.cell? ⟨b,o+j * 5+4,none⟩=some (.int .i64 y.max):=hf 4 _ rfl
 have hjn:(j:Int)+1<(n:Int):=by omega
 have hj1:(j:Int)<(n:Int):=by omega
 have hj0:(0:Int)≤(j:Int):=by omega
 have hj2:(0:Int)≤(j:Int)+1:=by omega
 have hjk:(j:Int)+1≤1000:=by omega
 have hjz:((j:Int)+1 == 0)=false:=by rw [beq_eq_false_iff_ne];omega
 have s1:IntKind.i64.wrap ((j:Int)+1 - 1)=(j:Int):=by rw [IntWalk.i64_in _ (by omega)];omega
 have s2:IntKind.i64.wrap (j:Int)=(j:Int):=IntWalk.i64_in _ (by omega)
 have s3:((j:Int)+1).toNat=j+1:=by omega
 clear he hf hn hr hj
 by_cases hlt:x.id<y.id
 ·have HE:=Lib.hid (show ordI y.id x.id=1 by unfold ordI;rw [if_neg (by omega),if_pos hlt])
  have HC:cmpI x.id y.id=-1:=by unfold cmpI;rw [if_pos hlt]
  go_enter Tryz.func147,Tryz.ntmps147
  go_wp2
  go_region_held3 (fun w'=>(∀ b o,b<w.heap.size→w'.cell? ⟨b,o,none⟩=w.cell? ⟨b,o,none⟩)∧Below w.heap.size w w')
   (first | (with_reducible assumption) | exact Keeps.of (Below.drew (Below.refl _ _)) | exact Keeps.step (by assumption) (by assumption))
   (first
    | (go_at_call 78;first
      | ((with_reducible refine (idL_any x _).mono ?_);rintro e w' ⟨rfl,hb⟩)
      | ((with_reducible refine (idL_any y _).mono ?_);rintro e w' ⟨rfl,hb⟩))
    | (go_at_call 84;(with_reducible refine (compare_any _ _ _).mono ?_);rintro e w' ⟨rfl,rfl⟩))
  clear s1 s2 s3
  go_wp2
  go_ret
  exact ⟨ret_int HE.out.symm,(by assumption:Keeps w _).2⟩
 ·by_cases heq:x.id=y.id
  ·have HE:=Lib.hid (show ordI y.id x.id=5 by unfold ordI;rw [if_pos heq])
   have HC:cmpI x.id y.id=0:=by unfold cmpI;rw [if_neg hlt,if_neg (by omega)]
   clear heq
   go_enter Tryz.func147,Tryz.ntmps147
   go_wp2
   go_region_held3 (fun w'=>(∀ b o,b<w.heap.size→w'.cell? ⟨b,o,none⟩=w.cell? ⟨b,o,none⟩)∧Below w.heap.size w w')
    (first | (with_reducible assumption) | exact Keeps.of (Below.drew (Below.refl _ _)) | exact Keeps.step (by assumption) (by assumption))
    (first
     | (go_at_call 78;first
       | ((with_reducible refine (idL_any x _).mono ?_);rintro e w' ⟨rfl,hb⟩)
       | ((with_reducible refine (idL_any y _).mono ?_);rintro e w' ⟨rfl,hb⟩))
     | (go_at_call 84;(with_reducible refine (compare_any _ _ _).mono ?_);rintro e w' ⟨rfl,rfl⟩))
   clear s1 s2 s3
   go_wp2
   go_ret
   exact ⟨ret_int HE.out.symm,(by assumption:Keeps w _).2⟩
  ·have HE:=Lib.hid (show ordI y.id x.id=0 by unfold ordI;rw [if_neg heq,if_neg hlt])
   have HC:cmpI x.id y.id=1:=by unfold cmpI;rw [if_neg hlt,if_pos (by omega)]
   go_enter Tryz.func147,Tryz.ntmps147
   go_wp2
   go_region_held3 (fun w'=>(∀ b o,b<w.heap.size→w'.cell? ⟨b,o,none⟩=w.cell? ⟨b,o,none⟩)∧Below w.heap.size w w')
    (first | (with_reducible assumption) | exact Keeps.of (Below.drew (Below.refl _ _)) | exact Keeps.step (by assumption) (by assumption))
    (first
     | (go_at_call 78;first
       | ((with_reducible refine (idL_any x _).mono ?_);rintro e w' ⟨rfl,hb⟩)
       | ((with_reducible refine (idL_any y _).mono ?_);rintro e w' ⟨rfl,hb⟩))
     | (go_at_call 84;(with_reducible refine (compare_any _ _ _).mono ?_);rintro e w' ⟨rfl,rfl⟩))
   clear s1 s2 s3
   go_wp2
   go_ret
   exact ⟨ret_int HE.out.symm,(by assumption:Keeps w _).2⟩

set_option maxHeartbeats 1600000 in
theorem orderP_first (A:Option Addr) (n c:Nat) (f:Value) (w:World) :
  Calls Tryz.prog 148 #[.slice A n c,.int .i64 0,f] w fun e w'=>e=.returned (.int .i64 0)∧w=w':=by
 go_enter Tryz.func148,Tryz.ntmps148
 go_wp2
 go_ret
 exact ⟨rfl,rfl⟩
set_option maxHeartbeats 3200000 in
set_option maxRecDepth 100000 in
theorem orderP_next (l:List PodD) (j:Nat) (A:Option Addr) (n c:Nat) (w:World) (hn:n=l.length) (hl:n≤1000) (hj:j+1<l.length) (hr:Recs 8 cellsP w w.heap.size A l) :
  Calls Tryz.prog 148 #[.slice A n c,.int .i64 ((j:Int)+1),.func (.func 81) #[] #[]] w fun e w'=>e=.returned (.int .i64 (ordI l[j].id l[j+1].id))∧Below w.heap.size w w':=by
 obtain ⟨b,o,rfl,hb,he⟩:=hr.at hj
 obtain ⟨b',o',h1,_,hf⟩:=hr.at (show j<l.length by omega)
 injection h1 with h1
 injection h1 with h1 h2 _
 subst h1 h2
 generalize l[j+1]=x at *
 generalize l[j]=y at *
 have e0:w.cell? ⟨b,o+(j+1) * 8,none⟩=some (.int .i64 x.id):=he 0 _ rfl
 have e1:w.cell? ⟨b,o+(j+1) * 8+1,none⟩=some (.int .i64 x.load):=he 1 _ rfl
 have e2:w.cell? ⟨b,o+(j+1) * 8+2,none⟩=some (.int .i64 x.prio):=he 2 _ rfl
 have e3:w.cell? ⟨b,o+(j+1) * 8+3,none⟩=some (.int .u64 x.req.a):=he 3 _ rfl
 have e4:w.cell? ⟨b,o+(j+1) * 8+4,none⟩=some (.int .u64 x.req.b):=he 4 _ rfl
 have e5:w.cell? ⟨b,o+(j+1) * 8+5,none⟩=some (.int .u64 x.req.c):=he 5 _ rfl
 have e6:w.cell? ⟨b,o+(j+1) * 8+6,none⟩=some (.int .u64 x.req.d):=he 6 _ rfl
 have e7:w.cell? ⟨b,o+(j+1) * 8+7,none⟩=some (.int .i64 x.node):=he 7 _ rfl
 have f0:w.cell? ⟨b,o+j * 8,none⟩=some (.int .i64 y.id):=hf 0 _ rfl
 have f1:w.cell? ⟨b,o+j * 8+1,none⟩=some (.int .i64 y.load):=hf 1 _ rfl
 have f2:w.cell? ⟨b,o+j * 8+2,none⟩=some (.int .i64 y.prio):=hf 2 _ rfl
 have f3:w.cell? ⟨b,o+j * 8+3,none⟩=some (.int .u64 y.req.a):=hf 3 _ rfl
 have f4:w.cell? ⟨b,o+j * 8+4,none⟩=some (.int .u64 y.req.b):=hf 4 _ rfl
 have f5:w.cell? ⟨b,o+j * 8+5,none⟩=some (.int .u64 y.req.c):=hf 5 _ rfl
 have f6:w.cell? ⟨b,o+j * 8+6,none⟩=some (.int .u64 y.req.d):=hf 6 _ rfl
 have f7:w.cell? ⟨b,o+j * 8+7,none⟩=some (.int .i64 y.node):=hf 7 _ rfl
 have hjn:(j:Int)+1<(n:Int):=by omega
 have hj1:(j:Int)<(n:Int):=by omega
 have hj0:(0:Int)≤(j:Int):=by omega
 have hj2:(0:Int)≤(j:Int)+1:=by omega
 have hjk:(j:Int)+1≤1000:=by omega
 have hjz:((j:Int)+1 == 0)=false:=by rw [beq_eq_false_iff_ne];omega
 have s1:IntKind.i64.wrap ((j:Int)+1 - 1)=(j:Int):=by rw [IntWalk.i64_in _ (by omega)];omega
 have s2:IntKind.i64.wrap (j:Int)=(j:Int):=IntWalk.i64_in _ (by omega)
 have s3:((j:Int)+1).toNat=j+1:=by omega
 clear he hf hn hr hj
 by_cases hlt:x.id<y.id
 ·have HE:=Lib.hid (show ordI y.id x.id=1 by unfold ordI;rw [if_neg (by omega),if_pos hlt])
  have HC:cmpI x.id y.id=-1:=by unfold cmpI;rw [if_pos hlt]
  go_enter Tryz.func148,Tryz.ntmps148
  go_wp2
  go_region_held3 (fun w'=>(∀ b o,b<w.heap.size→w'.cell? ⟨b,o,none⟩=w.cell? ⟨b,o,none⟩)∧Below w.heap.size w w')
   (first | (with_reducible assumption) | exact Keeps.of (Below.drew (Below.refl _ _)) | exact Keeps.step (by assumption) (by assumption))
   (first
    | (go_at_call 81;first
      | ((with_reducible refine (idP_any x _).mono ?_);rintro e w' ⟨rfl,hb⟩)
      | ((with_reducible refine (idP_any y _).mono ?_);rintro e w' ⟨rfl,hb⟩))
    | (go_at_call 84;(with_reducible refine (compare_any _ _ _).mono ?_);rintro e w' ⟨rfl,rfl⟩))
  clear s1 s2 s3
  go_wp2
  go_ret
  exact ⟨ret_int HE.out.symm,(by assumption:Keeps w _).2⟩
 ·by_cases heq:x.id=y.id
  ·have HE:=Lib.hid (show ordI y.id x.id=5 by unfold ordI;rw [if_pos heq])
   have HC:cmpI x.id y.id=0:=by unfold cmpI;rw [if_neg hlt,if_neg (by omega)]
   clear heq
   go_enter Tryz.func148,Tryz.ntmps148
   go_wp2
   go_region_held3 (fun w'=>(∀ b o,b<w.heap.size→w'.cell? ⟨b,o,none⟩=w.cell? ⟨b,o,none⟩)∧Below w.heap.size w w')
    (first | (with_reducible assumption) | exact Keeps.of (Below.drew (Below.refl _ _)) | exact Keeps.step (by assumption) (by assumption))
    (first
     | (go_at_call 81;first
       | ((with_reducible refine (idP_any x _).mono ?_);rintro e w' ⟨rfl,hb⟩)
       | ((with_reducible refine (idP_any y _).mono ?_);rintro e w' ⟨rfl,hb⟩))
     | (go_at_call 84;(with_reducible refine (compare_any _ _ _).mono ?_);rintro e w' ⟨rfl,rfl⟩))
   clear s1 s2 s3
   go_wp2
   go_ret
   exact ⟨ret_int HE.out.symm,(by assumption:Keeps w _).2⟩
  ·have HE:=Lib.hid (show ordI y.id x.id=0 by unfold ordI;rw [if_neg heq,if_neg hlt])
   have HC:cmpI x.id y.id=1:=by unfold cmpI;rw [if_neg hlt,if_pos (by omega)]
   go_enter Tryz.func148,Tryz.ntmps148
   go_wp2
   go_region_held3 (fun w'=>(∀ b o,b<w.heap.size→w'.cell? ⟨b,o,none⟩=w.cell? ⟨b,o,none⟩)∧Below w.heap.size w w')
    (first | (with_reducible assumption) | exact Keeps.of (Below.drew (Below.refl _ _)) | exact Keeps.step (by assumption) (by assumption))
    (first
     | (go_at_call 81;first
       | ((with_reducible refine (idP_any x _).mono ?_);rintro e w' ⟨rfl,hb⟩)
       | ((with_reducible refine (idP_any y _).mono ?_);rintro e w' ⟨rfl,hb⟩))
     | (go_at_call 84;(with_reducible refine (compare_any _ _ _).mono ?_);rintro e w' ⟨rfl,rfl⟩))
   clear s1 s2 s3
   go_wp2
   go_ret
   exact ⟨ret_int HE.out.symm,(by assumption:Keeps w _).2⟩

set_option maxHeartbeats 1600000 in
theorem orderW_first (A:Option Addr) (n c:Nat) (f:Value) (w:World) :
  Calls Tryz.prog 42 #[.slice A n c,.int .i64 0,f] w fun e w'=>e=.returned (.int .i64 0)∧w=w':=by
 go_enter Tryz.func42,Tryz.ntmps42
 go_wp2
 go_ret
 exact ⟨rfl,rfl⟩
set_option maxHeartbeats 3200000 in
set_option maxRecDepth 100000 in
theorem orderW_next (l:List WantD) (j:Nat) (A:Option Addr) (n c:Nat) (w:World) (hn:n=l.length) (hl:n≤1000) (hj:j+1<l.length) (hr:Recs 6 cellsW w w.heap.size A l) :
  Calls Tryz.prog 42 #[.slice A n c,.int .i64 ((j:Int)+1),.func (.func 43) #[] #[]] w fun e w'=>e=.returned (.int .i64 (ordI l[j].pod l[j+1].pod))∧Below w.heap.size w w':=by
 obtain ⟨b,o,rfl,hb,he⟩:=hr.at hj
 obtain ⟨b',o',h1,_,hf⟩:=hr.at (show j<l.length by omega)
 injection h1 with h1
 injection h1 with h1 h2 _
 subst h1 h2
 generalize l[j+1]=x at *
 generalize l[j]=y at *
 have e0:w.cell? ⟨b,o+(j+1) * 6,none⟩=some (.int .i64 x.pod):=he 0 _ rfl
 have e1:w.cell? ⟨b,o+(j+1) * 6+1,none⟩=some (.int .u64 x.req.a):=he 1 _ rfl
 have e2:w.cell? ⟨b,o+(j+1) * 6+2,none⟩=some (.int .u64 x.req.b):=he 2 _ rfl
 have e3:w.cell? ⟨b,o+(j+1) * 6+3,none⟩=some (.int .u64 x.req.c):=he 3 _ rfl
 have e4:w.cell? ⟨b,o+(j+1) * 6+4,none⟩=some (.int .u64 x.req.d):=he 4 _ rfl
 have e5:w.cell? ⟨b,o+(j+1) * 6+5,none⟩=some (.bool x.stay):=he 5 _ rfl
 have f0:w.cell? ⟨b,o+j * 6,none⟩=some (.int .i64 y.pod):=hf 0 _ rfl
 have f1:w.cell? ⟨b,o+j * 6+1,none⟩=some (.int .u64 y.req.a):=hf 1 _ rfl
 have f2:w.cell? ⟨b,o+j * 6+2,none⟩=some (.int .u64 y.req.b):=hf 2 _ rfl
 have f3:w.cell? ⟨b,o+j * 6+3,none⟩=some (.int .u64 y.req.c):=hf 3 _ rfl
 have f4:w.cell? ⟨b,o+j * 6+4,none⟩=some (.int .u64 y.req.d):=hf 4 _ rfl
 have f5:w.cell? ⟨b,o+j * 6+5,none⟩=some (.bool y.stay):=hf 5 _ rfl
 have hjn:(j:Int)+1<(n:Int):=by omega
 have hj1:(j:Int)<(n:Int):=by omega
 have hj0:(0:Int)≤(j:Int):=by omega
 have hj2:(0:Int)≤(j:Int)+1:=by omega
 have hjk:(j:Int)+1≤1000:=by omega
 have hjz:((j:Int)+1 == 0)=false:=by rw [beq_eq_false_iff_ne];omega
 have s1:IntKind.i64.wrap ((j:Int)+1 - 1)=(j:Int):=by rw [IntWalk.i64_in _ (by omega)];omega
 have s2:IntKind.i64.wrap (j:Int)=(j:Int):=IntWalk.i64_in _ (by omega)
 have s3:((j:Int)+1).toNat=j+1:=by omega
 clear he hf hn hr hj
 by_cases hlt:x.pod<y.pod
 ·have HE:=Lib.hid (show ordI y.pod x.pod=1 by unfold ordI;rw [if_neg (by omega),if_pos hlt])
  have HC:cmpI x.pod y.pod=-1:=by unfold cmpI;rw [if_pos hlt]
  go_enter Tryz.func42,Tryz.ntmps42
  go_wp2
  go_region_held3 (fun w'=>(∀ b o,b<w.heap.size→w'.cell? ⟨b,o,none⟩=w.cell? ⟨b,o,none⟩)∧Below w.heap.size w w')
   (first | (with_reducible assumption) | exact Keeps.of (Below.drew (Below.refl _ _)) | exact Keeps.step (by assumption) (by assumption))
   (first
    | (go_at_call 43;first
      | ((with_reducible refine (idW_any x _).mono ?_);rintro e w' ⟨rfl,hb⟩)
      | ((with_reducible refine (idW_any y _).mono ?_);rintro e w' ⟨rfl,hb⟩))
    | (go_at_call 84;(with_reducible refine (compare_any _ _ _).mono ?_);rintro e w' ⟨rfl,rfl⟩))
  clear s1 s2 s3
  go_wp2
  go_ret
  exact ⟨ret_int HE.out.symm,(by assumption:Keeps w _).2⟩
 ·by_cases heq:x.pod=y.pod
  ·have HE:=Lib.hid (show ordI y.pod x.pod=5 by unfold ordI;rw [if_pos heq])
   have HC:cmpI x.pod y.pod=0:=by unfold cmpI;rw [if_neg hlt,if_neg (by omega)]
   clear heq
   go_enter Tryz.func42,Tryz.ntmps42
   go_wp2
   go_region_held3 (fun w'=>(∀ b o,b<w.heap.size→w'.cell? ⟨b,o,none⟩=w.cell? ⟨b,o,none⟩)∧Below w.heap.size w w')
    (first | (with_reducible assumption) | exact Keeps.of (Below.drew (Below.refl _ _)) | exact Keeps.step (by assumption) (by assumption))
    (first
     | (go_at_call 43;first
       | ((with_reducible refine (idW_any x _).mono ?_);rintro e w' ⟨rfl,hb⟩)
       | ((with_reducible refine (idW_any y _).mono ?_);rintro e w' ⟨rfl,hb⟩))
     | (go_at_call 84;(with_reducible refine (compare_any _ _ _).mono ?_);rintro e w' ⟨rfl,rfl⟩))
   clear s1 s2 s3
   go_wp2
   go_ret
   exact ⟨ret_int HE.out.symm,(by assumption:Keeps w _).2⟩
  ·have HE:=Lib.hid (show ordI y.pod x.pod=0 by unfold ordI;rw [if_neg heq,if_neg hlt])
   have HC:cmpI x.pod y.pod=1:=by unfold cmpI;rw [if_neg hlt,if_pos (by omega)]
   go_enter Tryz.func42,Tryz.ntmps42
   go_wp2
   go_region_held3 (fun w'=>(∀ b o,b<w.heap.size→w'.cell? ⟨b,o,none⟩=w.cell? ⟨b,o,none⟩)∧Below w.heap.size w w')
    (first | (with_reducible assumption) | exact Keeps.of (Below.drew (Below.refl _ _)) | exact Keeps.step (by assumption) (by assumption))
    (first
     | (go_at_call 43;first
       | ((with_reducible refine (idW_any x _).mono ?_);rintro e w' ⟨rfl,hb⟩)
       | ((with_reducible refine (idW_any y _).mono ?_);rintro e w' ⟨rfl,hb⟩))
     | (go_at_call 84;(with_reducible refine (compare_any _ _ _).mono ?_);rintro e w' ⟨rfl,rfl⟩))
   clear s1 s2 s3
   go_wp2
   go_ret
   exact ⟨ret_int HE.out.symm,(by assumption:Keeps w _).2⟩
def FindTo {α:Type} (agg:α→Value) (zero:Value) (f:α→Int) (l:List α) (id:Int) (w:World) (e:Ending) (w':World):Prop :=
 ((place f id l 0<0∧e=.returned (.tuple #[zero,.bool false]))∨∃ (i:Nat) (h:i<l.length),place f id l 0=i∧e=.returned (.tuple #[agg l[i],.bool true]))∧Below w.heap.size w w'
def FRel {α:Type} (f:α→Int) (id:Int) (l:List α) (W:World) (B:Nat) (i:Value) (wr:World):Prop:=∃ k:Nat,k≤l.length∧i=.int .i64 k∧place f id (l.drop k) k=place f id l 0∧Below B W wr
theorem place_found {α:Type} {f:α→Int} {id:Int} {l:List α} {k:Nat} (h:k<l.length) (he:f l[k]=id) (hp:place f id (l.drop k) k=place f id l 0):place f id l 0=k:=place_here h he hp
abbrev zeroN:Value:=.agg #[.int .i64 0,.int .i64 0,.int .u64 0,.int .u64 0,.int .u64 0,.int .u64 0,.int .u64 0,.int .u64 0,.int .u64 0,.int .u64 0]
set_option maxHeartbeats 3200000 in
set_option maxRecDepth 100000 in
theorem findN_any (l:List NodeD) (id:Int) (A:Option Addr) (n c:Nat) (w:World) (hn:n=l.length) (hl:n≤1000) (hr:Recs 10 cellsN w w.heap.size A l) :
  Calls Tryz.prog 150 #[.slice A n c,.int .i64 id,.func (.func 75) #[] #[]] w (FindTo aggN zeroN NodeD.id l id w):=by
 have HR:=Lib.hid hr
 have HN:=Lib.hid hn
 clear hr hn
 have b00:Below w.heap.size w (w.alloc (.cells #[.int .i64 0,.int .i64 0,.int .u64 0,.int .u64 0,.int .u64 0,.int .u64 0,.int .u64 0,.int .u64 0,.int .u64 0,.int .u64 0] 59)):=(Below.refl _ _).alloc (Nat.le_refl _) _
 go_enter Tryz.func150,Tryz.ntmps150
 go_wp2
 go_loopw [13] (FRel NodeD.id id l (w.alloc (.cells #[.int .i64 0,.int .i64 0,.int .u64 0,.int .u64 0,.int .u64 0,.int .u64 0,.int .u64 0,.int .u64 0,.int .u64 0,.int .u64 0] 59)) (w.heap.size+1)) (fun i _=>n - (intOf i).toNat)
 case atStart=>exact ⟨0,by omega,rfl,rfl,Below.refl _ _⟩
 case round =>
  obtain ⟨k,hk,rfl,hp,hbr⟩:=hrel
  have HP:=Lib.hid hp
  have hzr:w.heap.size+1≤wr.heap.size:=by have:=hbr.size;simpa using this
  have kwr:Below w.heap.size w wr:=b00.trans (hbr.mono (by omega))
  clear hp
  by_cases hlt:k<n
  ·have hkl:k<l.length:=by have:=HN.out;omega
   obtain ⟨b,o,rfl,hb,he⟩:=HR.out.at hkl
   generalize hx:l[k]=x at *
   have HX:=Lib.hid hx
   clear hx
   have e0:wr.cell? ⟨b,o+k * 10,none⟩=some (.int .i64 x.id):=(kwr.cell (p:=⟨b,o+k * 10,none⟩) hb).trans (he 0 _ rfl)
   have e1:wr.cell? ⟨b,o+k * 10+1,none⟩=some (.int .i64 x.zone):=(kwr.cell (p:=⟨b,o+k * 10+1,none⟩) hb).trans (he 1 _ rfl)
   have e2:wr.cell? ⟨b,o+k * 10+2,none⟩=some (.int .u64 x.cap.a):=(kwr.cell (p:=⟨b,o+k * 10+2,none⟩) hb).trans (he 2 _ rfl)
   have e3:wr.cell? ⟨b,o+k * 10+3,none⟩=some (.int .u64 x.cap.b):=(kwr.cell (p:=⟨b,o+k * 10+3,none⟩) hb).trans (he 3 _ rfl)
   have e4:wr.cell? ⟨b,o+k * 10+4,none⟩=some (.int .u64 x.cap.c):=(kwr.cell (p:=⟨b,o+k * 10+4,none⟩) hb).trans (he 4 _ rfl)
   have e5:wr.cell? ⟨b,o+k * 10+5,none⟩=some (.int .u64 x.cap.d):=(kwr.cell (p:=⟨b,o+k * 10+5,none⟩) hb).trans (he 5 _ rfl)
   have e6:wr.cell? ⟨b,o+k * 10+6,none⟩=some (.int .u64 x.held.a):=(kwr.cell (p:=⟨b,o+k * 10+6,none⟩) hb).trans (he 6 _ rfl)
   have e7:wr.cell? ⟨b,o+k * 10+7,none⟩=some (.int .u64 x.held.b):=(kwr.cell (p:=⟨b,o+k * 10+7,none⟩) hb).trans (he 7 _ rfl)
   have e8:wr.cell? ⟨b,o+k * 10+8,none⟩=some (.int .u64 x.held.c):=(kwr.cell (p:=⟨b,o+k * 10+8,none⟩) hb).trans (he 8 _ rfl)
   have e9:wr.cell? ⟨b,o+k * 10+9,none⟩=some (.int .u64 x.held.d):=(kwr.cell (p:=⟨b,o+k * 10+9,none⟩) hb).trans (he 9 _ rfl)
   have hbw:b<wr.heap.size:=by omega
   clear he
   go_wp2_with fail
   refine (idN_any x _).mono ?_
   rintro e w2 ⟨rfl,hb2⟩
   have k1:Below (w.heap.size+1) (w.alloc (.cells #[.int .i64 0,.int .i64 0,.int .u64 0,.int .u64 0,.int .u64 0,.int .u64 0,.int .u64 0,.int .u64 0,.int .u64 0,.int .u64 0] 59)) (wr.alloc (.cells #[.int .i64 x.id,.int .i64 x.zone,.int .u64 x.cap.a,.int .u64 x.cap.b,.int .u64 x.cap.c,.int .u64 x.cap.d,.int .u64 x.held.a,.int .u64 x.held.b,.int .u64 x.held.c,.int .u64 x.held.d] 59)):=hbr.alloc hzr _
   have k2:Below (w.heap.size+1) (w.alloc (.cells #[.int .i64 0,.int .i64 0,.int .u64 0,.int .u64 0,.int .u64 0,.int .u64 0,.int .u64 0,.int .u64 0,.int .u64 0,.int .u64 0] 59)) w2:=k1.trans (hb2.mono (by simp;omega))
   have kw2:Below w.heap.size w w2:=b00.trans (k2.mono (by omega))
   clear e0 e1 e2 e3 e4 e5 e6 e7 e8 e9
   by_cases hid:x.id=id
   ·have HE:=Lib.hid (place_found hkl (by rw [HX.out];exact hid) HP.out)
    subst hid
    have f0:w2.cell? ⟨wr.heap.size,0,none⟩=some (.int .i64 x.id):=(hb2.cell (p:=⟨wr.heap.size,0,none⟩) (by simp)).trans (by simp)
    have f1:w2.cell? ⟨wr.heap.size,1,none⟩=some (.int .i64 x.zone):=(hb2.cell (p:=⟨wr.heap.size,1,none⟩) (by simp)).trans (by simp)
    have f2:w2.cell? ⟨wr.heap.size,2,none⟩=some (.int .u64 x.cap.a):=(hb2.cell (p:=⟨wr.heap.size,2,none⟩) (by simp)).trans (by simp)
    have f3:w2.cell? ⟨wr.heap.size,3,none⟩=some (.int .u64 x.cap.b):=(hb2.cell (p:=⟨wr.heap.size,3,none⟩) (by simp)).trans (by simp)
    have f4:w2.cell? ⟨wr.heap.size,4,none⟩=some (.int .u64 x.cap.c):=(hb2.cell (p:=⟨wr.heap.size,4,none⟩) (by simp)).trans (by simp)
    have f5:w2.cell? ⟨wr.heap.size,5,none⟩=some (.int .u64 x.cap.d):=(hb2.cell (p:=⟨wr.heap.size,5,none⟩) (by simp)).trans (by simp)
    have f6:w2.cell? ⟨wr.heap.size,6,none⟩=some (.int .u64 x.held.a):=(hb2.cell (p:=⟨wr.heap.size,6,none⟩) (by simp)).trans (by simp)
    have f7:w2.cell? ⟨wr.heap.size,7,none⟩=some (.int .u64 x.held.b):=(hb2.cell (p:=⟨wr.heap.size,7,none⟩) (by simp)).trans (by simp)
    have f8:w2.cell? ⟨wr.heap.size,8,none⟩=some (.int .u64 x.held.c):=(hb2.cell (p:=⟨wr.heap.size,8,none⟩) (by simp)).trans (by simp)
    have f9:w2.cell? ⟨wr.heap.size,9,none⟩=some (.int .u64 x.held.d):=(hb2.cell (p:=⟨wr.heap.size,9,none⟩) (by simp)).trans (by simp)
    have g0:w2.cell? ⟨w.heap.size,0,none⟩=some (.int .i64 0):=(k2.cell (p:=⟨w.heap.size,0,none⟩) (by show w.heap.size<w.heap.size+1;omega)).trans (by simp)
    have h0:w2.frozen? ⟨w.heap.size,0,none⟩=false:=(k2.frozen (p:=⟨w.heap.size,0,none⟩) (by show w.heap.size<w.heap.size+1;omega)).trans (by simp)
    have g1:w2.cell? ⟨w.heap.size,1,none⟩=some (.int .i64 0):=(k2.cell (p:=⟨w.heap.size,1,none⟩) (by show w.heap.size<w.heap.size+1;omega)).trans (by simp)
    have h1:w2.frozen? ⟨w.heap.size,1,none⟩=false:=(k2.frozen (p:=⟨w.heap.size,1,none⟩) (by show w.heap.size<w.heap.size+1;omega)).trans (by simp)
    have g2:w2.cell? ⟨w.heap.size,2,none⟩=some (.int .u64 0):=(k2.cell (p:=⟨w.heap.size,2,none⟩) (by show w.heap.size<w.heap.size+1;omega)).trans (by simp)
    have h2:w2.frozen? ⟨w.heap.size,2,none⟩=false:=(k2.frozen (p:=⟨w.heap.size,2,none⟩) (by show w.heap.size<w.heap.size+1;omega)).trans (by simp)
    have g3:w2.cell? ⟨w.heap.size,3,none⟩=some (.int .u64 0):=(k2.cell (p:=⟨w.heap.size,3,none⟩) (by show w.heap.size<w.heap.size+1;omega)).trans (by simp)
    have h3:w2.frozen? ⟨w.heap.size,3,none⟩=false:=(k2.frozen (p:=⟨w.heap.size,3,none⟩) (by show w.heap.size<w.heap.size+1;omega)).trans (by simp)
    have g4:w2.cell? ⟨w.heap.size,4,none⟩=some (.int .u64 0):=(k2.cell (p:=⟨w.heap.size,4,none⟩) (by show w.heap.size<w.heap.size+1;omega)).trans (by simp)
    have h4:w2.frozen? ⟨w.heap.size,4,none⟩=false:=(k2.frozen (p:=⟨w.heap.size,4,none⟩) (by show w.heap.size<w.heap.size+1;omega)).trans (by simp)
    have g5:w2.cell? ⟨w.heap.size,5,none⟩=some (.int .u64 0):=(k2.cell (p:=⟨w.heap.size,5,none⟩) (by show w.heap.size<w.heap.size+1;omega)).trans (by simp)
    have h5:w2.frozen? ⟨w.heap.size,5,none⟩=false:=(k2.frozen (p:=⟨w.heap.size,5,none⟩) (by show w.heap.size<w.heap.size+1;omega)).trans (by simp)
    have g6:w2.cell? ⟨w.heap.size,6,none⟩=some (.int .u64 0):=(k2.cell (p:=⟨w.heap.size,6,none⟩) (by show w.heap.size<w.heap.size+1;omega)).trans (by simp)
    have h6:w2.frozen? ⟨w.heap.size,6,none⟩=false:=(k2.frozen (p:=⟨w.heap.size,6,none⟩) (by show w.heap.size<w.heap.size+1;omega)).trans (by simp)
    have g7:w2.cell? ⟨w.heap.size,7,none⟩=some (.int .u64 0):=(k2.cell (p:=⟨w.heap.size,7,none⟩) (by show w.heap.size<w.heap.size+1;omega)).trans (by simp)
    have h7:w2.frozen? ⟨w.heap.size,7,none⟩=false:=(k2.frozen (p:=⟨w.heap.size,7,none⟩) (by show w.heap.size<w.heap.size+1;omega)).trans (by simp)
    have g8:w2.cell? ⟨w.heap.size,8,none⟩=some (.int .u64 0):=(k2.cell (p:=⟨w.heap.size,8,none⟩) (by show w.heap.size<w.heap.size+1;omega)).trans (by simp)
    have h8:w2.frozen? ⟨w.heap.size,8,none⟩=false:=(k2.frozen (p:=⟨w.heap.size,8,none⟩) (by show w.heap.size<w.heap.size+1;omega)).trans (by simp)
    have g9:w2.cell? ⟨w.heap.size,9,none⟩=some (.int .u64 0):=(k2.cell (p:=⟨w.heap.size,9,none⟩) (by show w.heap.size<w.heap.size+1;omega)).trans (by simp)
    have h9:w2.frozen? ⟨w.heap.size,9,none⟩=false:=(k2.frozen (p:=⟨w.heap.size,9,none⟩) (by show w.heap.size<w.heap.size+1;omega)).trans (by simp)
    go_wp2
    refine bodyPost_ret (v:=.tuple #[aggN x,.bool true]) ?_ rfl ?_
    ·simp [results,Tryz.results150,go_sem, *]
    ·refine ⟨.inr ⟨k,hkl,HE.out,by rw [HX.out]⟩,?_⟩
     repeat (first | with_reducible exact kw2 | with_reducible refine Below.setCell ?_ ?_ _)
     all_goals exact Nat.le_refl _
   ·have HE:=Lib.hid (place_step hkl (by rw [HX.out];exact hid) HP.out)
    go_wp2
    go_roundw
    case rel=>exact ⟨k+1,by omega,by go_num,HE.out,k2⟩
    case measure=>simp [intOf];omega
  ·have HE:=Lib.hid (place_end (by have:=HN.out;omega) HP.out)
   have g0:wr.cell? ⟨w.heap.size,0,none⟩=some (.int .i64 0):=(hbr.cell (p:=⟨w.heap.size,0,none⟩) (by show w.heap.size<w.heap.size+1;omega)).trans (by simp)
   have h0:wr.frozen? ⟨w.heap.size,0,none⟩=false:=(hbr.frozen (p:=⟨w.heap.size,0,none⟩) (by show w.heap.size<w.heap.size+1;omega)).trans (by simp)
   have g1:wr.cell? ⟨w.heap.size,1,none⟩=some (.int .i64 0):=(hbr.cell (p:=⟨w.heap.size,1,none⟩) (by show w.heap.size<w.heap.size+1;omega)).trans (by simp)
   have h1:wr.frozen? ⟨w.heap.size,1,none⟩=false:=(hbr.frozen (p:=⟨w.heap.size,1,none⟩) (by show w.heap.size<w.heap.size+1;omega)).trans (by simp)
   have g2:wr.cell? ⟨w.heap.size,2,none⟩=some (.int .u64 0):=(hbr.cell (p:=⟨w.heap.size,2,none⟩) (by show w.heap.size<w.heap.size+1;omega)).trans (by simp)
   have h2:wr.frozen? ⟨w.heap.size,2,none⟩=false:=(hbr.frozen (p:=⟨w.heap.size,2,none⟩) (by show w.heap.size<w.heap.size+1;omega)).trans (by simp)
   have g3:wr.cell? ⟨w.heap.size,3,none⟩=some (.int .u64 0):=(hbr.cell (p:=⟨w.heap.size,3,none⟩) (by show w.heap.size<w.heap.size+1;omega)).trans (by simp)
   have h3:wr.frozen? ⟨w.heap.size,3,none⟩=false:=(hbr.frozen (p:=⟨w.heap.size,3,none⟩) (by show w.heap.size<w.heap.size+1;omega)).trans (by simp)
   have g4:wr.cell? ⟨w.heap.size,4,none⟩=some (.int .u64 0):=(hbr.cell (p:=⟨w.heap.size,4,none⟩) (by show w.heap.size<w.heap.size+1;omega)).trans (by simp)
   have h4:wr.frozen? ⟨w.heap.size,4,none⟩=false:=(hbr.frozen (p:=⟨w.heap.size,4,none⟩) (by show w.heap.size<w.heap.size+1;omega)).trans (by simp)
   have g5:wr.cell? ⟨w.heap.size,5,none⟩=some (.int .u64 0):=(hbr.cell (p:=⟨w.heap.size,5,none⟩) (by show w.heap.size<w.heap.size+1;omega)).trans (by simp)
   have h5:wr.frozen? ⟨w.heap.size,5,none⟩=false:=(hbr.frozen (p:=⟨w.heap.size,5,none⟩) (by show w.heap.size<w.heap.size+1;omega)).trans (by simp)
   have g6:wr.cell? ⟨w.heap.size,6,none⟩=some (.int .u64 0):=(hbr.cell (p:=⟨w.heap.size,6,none⟩) (by show w.heap.size<w.heap.size+1;omega)).trans (by simp)
   have h6:wr.frozen? ⟨w.heap.size,6,none⟩=false:=(hbr.frozen (p:=⟨w.heap.size,6,none⟩) (by show w.heap.size<w.heap.size+1;omega)).trans (by simp)
   have g7:wr.cell? ⟨w.heap.size,7,none⟩=some (.int .u64 0):=(hbr.cell (p:=⟨w.heap.size,7,none⟩) (by show w.heap.size<w.heap.size+1;omega)).trans (by simp)
   have h7:wr.frozen? ⟨w.heap.size,7,none⟩=false:=(hbr.frozen (p:=⟨w.heap.size,7,none⟩) (by show w.heap.size<w.heap.size+1;omega)).trans (by simp)
   have g8:wr.cell? ⟨w.heap.size,8,none⟩=some (.int .u64 0):=(hbr.cell (p:=⟨w.heap.size,8,none⟩) (by show w.heap.size<w.heap.size+1;omega)).trans (by simp)
   have h8:wr.frozen? ⟨w.heap.size,8,none⟩=false:=(hbr.frozen (p:=⟨w.heap.size,8,none⟩) (by show w.heap.size<w.heap.size+1;omega)).trans (by simp)
   have g9:wr.cell? ⟨w.heap.size,9,none⟩=some (.int .u64 0):=(hbr.cell (p:=⟨w.heap.size,9,none⟩) (by show w.heap.size<w.heap.size+1;omega)).trans (by simp)
   have h9:wr.frozen? ⟨w.heap.size,9,none⟩=false:=(hbr.frozen (p:=⟨w.heap.size,9,none⟩) (by show w.heap.size<w.heap.size+1;omega)).trans (by simp)
   have hwl:w.heap.size<wr.heap.size:=by omega
   have hne:w.heap.size≠wr.heap.size:=by omega
   go_wp2
   refine bodyPost_ret (v:=.tuple #[zeroN,.bool false]) ?_ rfl ?_
   ·simp [results,Tryz.results150,go_sem, *]
   ·refine ⟨.inl ⟨by rw [HE.out];decide,rfl⟩,?_⟩
    have kwa:Below w.heap.size w (wr.alloc (.cells #[.int .i64 0,.int .i64 0,.int .u64 0,.int .u64 0,.int .u64 0,.int .u64 0,.int .u64 0,.int .u64 0,.int .u64 0,.int .u64 0] 59)):=kwr.alloc (by omega) _
    clear kwa
    repeat (first | with_reducible exact kwr | with_reducible refine Below.setCell ?_ ?_ _ | with_reducible refine Below.alloc ?_ ?_ _)
    all_goals first | (simp;done) | (simp;omega)
end Go.Proofs.YthapilknnhlmfaaGreatDoor
