/- Joined texts, part 9: WU WR EC WS WB WC CZ EZ BA. -/
import Derived.Test.YthapilknnhlmfaaGreatDoorZ08
import Derived.Test.YthapilknnhlmfaaGreatDoorZ02
import Derived.Deep.CutRange
import Derived.Test.YthapilknnhlmfaaGreatDoorZ07
import Derived.Test.YthapilknnhlmfaaGreatDoorZ05
import Derived.Test.YthapilknnhlmfaaGreatDoorZ01
import Derived.Test.YthapilknnhlmfaaGreatDoorZ04
import Derived.Deep.QuietTactic
import Derived.BigQuiet

namespace Go.Proofs.YthapilknnhlmfaaGreatDoor
set_option linter.unusedSimpArgs false
open Go.RowKit
set_option linter.unusedVariables false
theorem infoVec:(Tryz.prog.info? 57).map (fun i=>(i.zero,i.size,i.bytes))=some (some (.agg #[.int .u64 0,.int .u64 0,.int .u64 0,.int .u64 0]),4,32):=by kernel_rfl
theorem underVecs:Tryz.prog.underlying 235=some (.slice 57):=by kernel_rfl
theorem oneVec (x:V4):∀ u ∈ cellsV x,u.oneCell'=true:=by
 intro u hu;simp only [cellsV,List.mem_cons,List.not_mem_nil,or_false] at hu
 rcases hu with rfl | rfl | rfl | rfl <;> rfl
theorem lenVec (x:V4):(cellsV x).length=4:=rfl
section
variable {ops:Array Oper} {rest:List Oper} {o:Oper} {a:Act} {Q:Exit→Act→World→Prop} {wr:World}
theorem wpList_pushR (t e:TypeId) (z:Value) (size bytes:Nat) (ht:Tryz.prog.underlying t=some (.slice e)) (hinfo:(Tryz.prog.info? e).map (fun i=>(i.zero,i.size,i.bytes))=some (some z,size,bytes)) (hz:z.cells.size=size) (hsz:0<size) (hby:bytes≤1000)
  (hgd:o.guard=none) (s x:Operand) (ho:o.op=.call { callee:=.builtin .append,args:=#[s,x],argTypes:=#[t,t] })
  (B:Nat) (v:Value) (n:Nat) (xs cs:List Value) (hcs:cs.length=size) (hu:∀ u ∈ cs,u.oneCell'=true) (hown:wr.ownsRow B e size v n xs) (hB:B≤wr.heap.size) (hl:n≤2000000)
  (hs:a.eval s=v) (hx:a.eval x=.slice (some ⟨wr.heap.size,0,none⟩) 1 1)
  (h:∀ v' w',w'.ownsRow B e size v' (n+1) (xs++cs)→Below B wr w'→B≤w'.heap.size→wpList Tryz.prog ops Q rest (a.put o.dst v') w') :
  wpList Tryz.prog ops Q (o :: rest) a (wr.alloc (.cells cs.toArray e)):=by
 obtain ⟨i0,hi,hz0,hz1,hz2⟩:∃ i,Tryz.prog.info? e=some i∧i.zero=some z∧i.size=size∧i.bytes=bytes:=by
  cases hi:Tryz.prog.info? e with
  | none=>rw [hi] at hinfo;cases hinfo
  | some i =>
   rw [hi] at hinfo
   have h:=Option.some.inj hinfo
   simp only [Prod.mk.injEq] at h
   exact ⟨i,rfl,h.1,h.2.1,h.2.2⟩
 refine wpList_append_own _ hgd s x t ho B e i0 z size bytes ht hi hz0 hz1 hz2 hz hsz v n xs hs (hown.alloc _) ⟨wr.heap.size,0,none⟩ 1 1 cs hx (by omega) ?_ hu ?_ ?_ ?_ ?_
 ·intro j y hy
  have:=cell_of_row (wr.alloc (.cells cs.toArray e)) wr.heap.size j cs.toArray e (0,0) (heap_alloc_new wr _)
  rw [Addr.add_lit,Nat.zero_add,this]
  simpa using hy
 ·unfold maxLen;omega
 ·have:(n+1) * bytes≤(n+1) * 1000:=Nat.mul_le_mul_left _ hby
  omega
 ·simp;omega
 ·intro v' w' h1 h2 _
  exact h v' w' h1 (((Below.refl B wr).alloc hB _).grown h2 (by simp;omega) (fun j hj=>(hown.lt j hj).1)) (by have:=h2.size;simp at this;omega)
end
theorem two_head (w:World) (v0 v1 v2:Value) (t t':TypeId):Row4 ((w.alloc (.cells #[v0,v1,v2] t)).alloc (.cells #[.int .u64 0,.int .u64 0,.int .u64 0,.int .u64 0] t')) (w.heap.size+1) (.int .u64 0) (.int .u64 0) (.int .u64 0) (.int .u64 0) :=
 ⟨by simp,by simp,by simp,by simp,by simp,by simp,by simp,by simp⟩
theorem own_reqs {B m:Nat} {e:TypeId} {w1:World} {v:Value} {xs ys:List V4} {x:V4} (hm:m=xs.length) (h:w1.ownsRow B e 4 v (m+1) (xs.flatMap cellsV++cellsV x)) (he:ys=xs++[x]):w1.ownsRow B e 4 v (m+1) (ys.flatMap cellsV)∧m+1=ys.length:=by
 subst he hm;simpa using h

def UseRel (l:List PodD) (node:Int) (W:World) (B:Nat) (v i:Value) (wr:World):Prop :=
 ∃ k m:Nat,k≤l.length∧i=.int .i64 k∧m=(reqsAt node (l.take k)).length∧wr.ownsRow B 57 4 v m ((reqsAt node (l.take k)).flatMap cellsV)∧Below B W wr
theorem makeVecs (w:World):(Instr.makeSlice 235 (.int .i64 0) (.int .i64 12)).run Tryz.prog w=.ok (.slice (some ⟨w.heap.size,0,none⟩) 0 12) (w.alloc (.cells (Array.replicate 48 (Value.int .u64 0)) 57)):=by kernel_rfl
set_option maxHeartbeats 3200000 in
set_option maxRecDepth 100000 in
theorem roomUse_walk (l:List PodD) (node:Int) (ho:∀ p ∈ l,p.Ok) (A:Option Addr) (n c:Nat) (v1 v2 z e8:Value) (w:World) (hn:n=l.length) (hl:n≤400) (hr:Recs 8 cellsP w w.heap.size A l)
  (hsum:∀ (A':Option Addr) (n' c':Nat) (w':World),n'=(reqsAt node l).length→n'≤500→Recs 4 cellsV w' w'.heap.size A' (reqsAt node l) →
   Calls Tryz.prog 179 #[.slice A' n' c'] w' fun e w''=>∃ u:V4,z=aggV u∧e=.returned (.tuple #[aggV u,e8])∧Below w'.heap.size w' w'') :
  Calls Tryz.prog 165 #[.agg #[.slice A n c,v1,v2],.int .i64 node] w fun e w'=>e=.returned (.tuple #[z,e8])∧Below w.heap.size w w':=by
 have HR:=Lib.hid hr
 have HN:=Lib.hid hn
 have HS:=Lib.hid hsum
 have b00:=below_two w (.cells #[.slice A n c,v1,v2] 44) (.cells #[.int .u64 0,.int .u64 0,.int .u64 0,.int .u64 0] 57)
 have hmk:=makeVecs
 have HT:=Lib.hid (two_head w (.slice A n c) v1 v2 44 57)
 have HM:=Lib.hid (World.ownsRow_made (base:=w.heap.size+2) (e:=57) (size:=4) ((w.alloc (.cells #[.slice A n c,v1,v2] 44)).alloc (.cells #[.int .u64 0,.int .u64 0,.int .u64 0,.int .u64 0] 57)) (Array.replicate 48 (Value.int .u64 0)) 12 (by simp) (by decide) (by simp))
 clear hr hn hsum ho
 go_enter Tryz.func165,Tryz.ntmps165
 go_wp2
 go_loopw [6,13] (UseRel l node ((w.alloc (.cells #[.slice A n c,v1,v2] 44)).alloc (.cells #[.int .u64 0,.int .u64 0,.int .u64 0,.int .u64 0] 57)) (w.heap.size+2)) (fun _ i _=>n - (intOf i).toNat)
 case atStart=>exact ⟨0,0,by omega,rfl,rfl,by simpa [reqsAt] using HM.out,(Below.refl _ _).alloc (by simp) _⟩
 case round =>
  obtain ⟨k,m,hk,rfl,hm,hown,hbr⟩:=hrel
  have HMM:=Lib.hid hm
  have HOW:=Lib.hid hown
  have hz:=hbr.size
  have hz2:w.heap.size+2≤wr.heap.size:=by simpa using hz
  have kwr:=b00.trans (hbr.mono (by omega))
  clear hm hown hz hmk
  by_cases hlt:k<n
  ·have hkl:k<l.length:=by have:=HN.out;omega
   obtain ⟨b,o,rfl,hb,he⟩:=HR.out.at hkl
   generalize hx:l[k]=y at *
   have HXX:=Lib.hid (reqs_take (node:=node) hkl hx)
   clear hx
   have e0:wr.cell? ⟨b,o+k * 8,none⟩=some (.int .i64 y.id):=(kwr.cell (p:=⟨b,o+k * 8,none⟩) hb).trans (he 0 _ rfl)
   have e1:wr.cell? ⟨b,o+k * 8+1,none⟩=some (.int .i64 y.load):=(kwr.cell (p:=⟨b,o+k * 8+1,none⟩) hb).trans (he 1 _ rfl)
   have e2:wr.cell? ⟨b,o+k * 8+2,none⟩=some (.int .i64 y.prio):=(kwr.cell (p:=⟨b,o+k * 8+2,none⟩) hb).trans (he 2 _ rfl)
   have e3:wr.cell? ⟨b,o+k * 8+3,none⟩=some (.int .u64 y.req.a):=(kwr.cell (p:=⟨b,o+k * 8+3,none⟩) hb).trans (he 3 _ rfl)
   have e4:wr.cell? ⟨b,o+k * 8+4,none⟩=some (.int .u64 y.req.b):=(kwr.cell (p:=⟨b,o+k * 8+4,none⟩) hb).trans (he 4 _ rfl)
   have e5:wr.cell? ⟨b,o+k * 8+5,none⟩=some (.int .u64 y.req.c):=(kwr.cell (p:=⟨b,o+k * 8+5,none⟩) hb).trans (he 5 _ rfl)
   have e6:wr.cell? ⟨b,o+k * 8+6,none⟩=some (.int .u64 y.req.d):=(kwr.cell (p:=⟨b,o+k * 8+6,none⟩) hb).trans (he 6 _ rfl)
   have e7:wr.cell? ⟨b,o+k * 8+7,none⟩=some (.int .i64 y.node):=(kwr.cell (p:=⟨b,o+k * 8+7,none⟩) hb).trans (he 7 _ rfl)
   have hbw:b<wr.heap.size:=by omega
   have HL:Hid (m≤2000000):=by
    have h1:=reqs_len node (l.take k)
    have h2:=HMM.out
    have h3:=List.length_take_le k l
    have h4:=HN.out
    show _≤_
    rw [List.length_take] at h1
    omega
   clear he
   by_cases hy:y.node=node
   ·have hd:(y.node == node)=true:=by simp [hy]
    have HE:=Lib.hid (HXX.out.1 hy)
    have d3:(wr.alloc (.cells #[.int .i64 y.id,.int .i64 y.load,.int .i64 y.prio,.int .u64 y.req.a,.int .u64 y.req.b,.int .u64 y.req.c,.int .u64 y.req.d,.int .i64 y.node] 63)).cell? ⟨wr.heap.size,3,none⟩=some (.int .u64 y.req.a):=by simp
    have d4:(wr.alloc (.cells #[.int .i64 y.id,.int .i64 y.load,.int .i64 y.prio,.int .u64 y.req.a,.int .u64 y.req.b,.int .u64 y.req.c,.int .u64 y.req.d,.int .i64 y.node] 63)).cell? ⟨wr.heap.size,4,none⟩=some (.int .u64 y.req.b):=by simp
    have d5:(wr.alloc (.cells #[.int .i64 y.id,.int .i64 y.load,.int .i64 y.prio,.int .u64 y.req.a,.int .u64 y.req.b,.int .u64 y.req.c,.int .u64 y.req.d,.int .i64 y.node] 63)).cell? ⟨wr.heap.size,5,none⟩=some (.int .u64 y.req.c):=by simp
    have d6:(wr.alloc (.cells #[.int .i64 y.id,.int .i64 y.load,.int .i64 y.prio,.int .u64 y.req.a,.int .u64 y.req.b,.int .u64 y.req.c,.int .u64 y.req.d,.int .i64 y.node] 63)).cell? ⟨wr.heap.size,6,none⟩=some (.int .u64 y.req.d):=by simp
    have d7:(wr.alloc (.cells #[.int .i64 y.id,.int .i64 y.load,.int .i64 y.prio,.int .u64 y.req.a,.int .u64 y.req.b,.int .u64 y.req.c,.int .u64 y.req.d,.int .i64 y.node] 63)).cell? ⟨wr.heap.size,7,none⟩=some (.int .i64 y.node):=by simp
    have hbl:wr.heap.size<(wr.alloc (.cells #[.int .i64 y.id,.int .i64 y.load,.int .i64 y.prio,.int .u64 y.req.a,.int .u64 y.req.b,.int .u64 y.req.c,.int .u64 y.req.d,.int .i64 y.node] 63)).heap.size:=by simp
    have HOWN:=Lib.hid (HOW.out.alloc (.cells #[.int .i64 y.id,.int .i64 y.load,.int .i64 y.prio,.int .u64 y.req.a,.int .u64 y.req.b,.int .u64 y.req.c,.int .u64 y.req.d,.int .i64 y.node] 63))
    have HBW:=Lib.hid (hbr.alloc (by omega) (.cells #[.int .i64 y.id,.int .i64 y.load,.int .i64 y.prio,.int .u64 y.req.a,.int .u64 y.req.b,.int .u64 y.req.c,.int .u64 y.req.d,.int .i64 y.node] 63))
    clear hy
    go_upto_region 6 with fail
    generalize (wr.alloc (.cells #[.int .i64 y.id,.int .i64 y.load,.int .i64 y.prio,.int .u64 y.req.a,.int .u64 y.req.b,.int .u64 y.req.c,.int .u64 y.req.d,.int .i64 y.node] 63))=W at *
    have HZW:Hid (w.heap.size+2≤W.heap.size):=by have h1:=hbl;show _≤_;omega
    go_wp2_with (at_builtin;refine wpList_pushR 235 57 (.agg #[.int .u64 0,.int .u64 0,.int .u64 0,.int .u64 0]) 4 32 underVecs infoVec rfl (by decide) (by decide) rfl (.tmp 21) (.tmp 24) rfl (w.heap.size+2) _ m _ (cellsV y.req) rfl (oneVec _) HOWN.out HZW.out HL.out rfl rfl ?_;intro v' w2 hown2 hb2 hB2)
    have HO2:=Lib.hid (own_reqs HMM.out hown2 HE.out)
    clear hown2
    go_wp2
    go_roundw
    case rel=>exact ⟨k+1,m+1,by omega,by go_num,HO2.out.2,(by have h:=HO2.out.1;exact h),HBW.out.trans hb2⟩
    case measure=>simp [intOf];omega
   ·have hd:(y.node == node)=false:=by simp [hy]
    have HE:=Lib.hid (HXX.out.2 hy)
    clear hy
    go_wp2
    go_roundw
    case rel=>exact ⟨k+1,m,by omega,by go_num,by rw [HE.out];exact HMM.out,by rw [HE.out];exact HOW.out.alloc _,hbr.alloc (by omega) _⟩
    case measure=>simp [intOf];omega
  ·have htk:l.take k=l:=List.take_of_length_le (by have:=HN.out;omega)
   have hm':=HMM.out
   have how:=HOW.out
   rw [htk] at hm' how
   obtain ⟨A',c',rfl,hc1,hc2,hc3,hrec⟩:=recs_of_own lenVec hm' how
   have HRE:=Lib.hid hrec
   have HMM':=Lib.hid hm'
   have HLL:Hid (m≤500):=by
    have h1:=reqs_len node l
    have h4:=HN.out
    have h5:=HMM'.out
    show _≤_
    omega
   have hr4:=HT.out.below hbr (by simp)
   obtain ⟨g0,g1,g2,g3,f0,f1,f2,f3⟩:=hr4
   have hwl:w.heap.size+1<wr.heap.size:=by omega
   clear how hm' htk hrec
   go_wp2_with fail
   refine (HS.out A' m c' _ HMM'.out HLL.out HRE.out).mono ?_
   rintro e w1 ⟨u,hu,rfl,hb1⟩
   have HU:=Lib.hid hu
   clear hu
   have g0:w1.cell? ⟨w.heap.size+1,0,none⟩=some (.int .u64 0):=(hb1.cell (p:=⟨w.heap.size+1,0,none⟩) hwl).trans g0
   have g1:w1.cell? ⟨w.heap.size+1,1,none⟩=some (.int .u64 0):=(hb1.cell (p:=⟨w.heap.size+1,1,none⟩) hwl).trans g1
   have g2:w1.cell? ⟨w.heap.size+1,2,none⟩=some (.int .u64 0):=(hb1.cell (p:=⟨w.heap.size+1,2,none⟩) hwl).trans g2
   have g3:w1.cell? ⟨w.heap.size+1,3,none⟩=some (.int .u64 0):=(hb1.cell (p:=⟨w.heap.size+1,3,none⟩) hwl).trans g3
   have f0:w1.frozen? ⟨w.heap.size+1,0,none⟩=false:=(hb1.frozen (p:=⟨w.heap.size+1,0,none⟩) hwl).trans f0
   have f1:w1.frozen? ⟨w.heap.size+1,1,none⟩=false:=(hb1.frozen (p:=⟨w.heap.size+1,1,none⟩) hwl).trans f1
   have f2:w1.frozen? ⟨w.heap.size+1,2,none⟩=false:=(hb1.frozen (p:=⟨w.heap.size+1,2,none⟩) hwl).trans f2
   have f3:w1.frozen? ⟨w.heap.size+1,3,none⟩=false:=(hb1.frozen (p:=⟨w.heap.size+1,3,none⟩) hwl).trans f3
   have kw1:Below w.heap.size w w1:=kwr.trans (hb1.mono (by omega))
   go_wp2
   refine bodyPost_ret (v:=.tuple #[aggV u,e8]) ?_ rfl ?_
   ·simp [results,Tryz.results165,go_sem, *]
   ·refine ⟨by rw [HU.out],?_⟩
    repeat (first | with_reducible exact kw1 | with_reducible refine Below.setCell ?_ ?_ _)
    all_goals (show w.heap.size≤w.heap.size+1;omega)
theorem roomUse_some {l:List PodD} {node:Int} {u:V4} (ho:∀ p ∈ l,p.Ok) (h:useD l node=some u) (A:Option Addr) (n c:Nat) (v1 v2:Value) (w:World) (hn:n=l.length) (hl:n≤400) (hr:Recs 8 cellsP w w.heap.size A l) :
  Calls Tryz.prog 165 #[.agg #[.slice A n c,v1,v2],.int .i64 node] w fun e w'=>e=.returned (.tuple #[aggV u,.nilIface])∧Below w.heap.size w w' :=
 roomUse_walk l node ho A n c v1 v2 (aggV u) .nilIface w hn hl hr fun A' n' c' w' h1 h2 h3=>(vSum_some (reqs_ok ho) h A' n' c' w' h1 h2 h3).mono fun e w'' ⟨he,hb⟩=>⟨u,rfl,he,hb⟩
theorem roomUse_none {l:List PodD} {node:Int} (ho:∀ p ∈ l,p.Ok) (h:useD l node=none) (A:Option Addr) (n c:Nat) (v1 v2:Value) (w:World) (hn:n=l.length) (hl:n≤400) (hr:Recs 8 cellsP w w.heap.size A l) :
  Calls Tryz.prog 165 #[.agg #[.slice A n c,v1,v2],.int .i64 node] w fun e w'=>e=.returned (.tuple #[zeroV,.iface 42 (.int .i64 8)])∧Below w.heap.size w w' :=
 roomUse_walk l node ho A n c v1 v2 zeroV _ w hn hl hr fun A' n' c' w' h1 h2 h3=>(vSum_none (reqs_ok ho) h A' n' c' w' h1 h2 h3).mono fun e w'' ⟨he,hb⟩=>⟨.zer,rfl,he,hb⟩
section
variable {V:World}
theorem Bf.cells10 {b:Nat} {x:NodeD} (h:Bf V b (cellsN x)):(V.cell? ⟨b,0,none⟩=some (.int .i64 x.id)∧V.cell? ⟨b,1,none⟩=some (.int .i64 x.zone)∧V.cell? ⟨b,2,none⟩=some (.int .u64 x.cap.a)∧V.cell? ⟨b,3,none⟩=some (.int .u64 x.cap.b)∧V.cell? ⟨b,4,none⟩=some (.int .u64 x.cap.c)∧V.cell? ⟨b,5,none⟩=some (.int .u64 x.cap.d)) ∧
  V.cell? ⟨b,6,none⟩=some (.int .u64 x.held.a)∧V.cell? ⟨b,7,none⟩=some (.int .u64 x.held.b)∧V.cell? ⟨b,8,none⟩=some (.int .u64 x.held.c)∧V.cell? ⟨b,9,none⟩=some (.int .u64 x.held.d)∧b<V.heap.size :=
 ⟨⟨h.cell 0 _ rfl,h.cell 1 _ rfl,h.cell 2 _ rfl,h.cell 3 _ rfl,h.cell 4 _ rfl,h.cell 5 _ rfl⟩,h.cell 6 _ rfl,h.cell 7 _ rfl,h.cell 8 _ rfl,h.cell 9 _ rfl,h.lt⟩
end
theorem rest_ret {p:V4 × Int} {a:Value} {b:Value} (q:V4 × Int) (h:p=q) (ha:a=aggV q.1) (hb:b=codeV q.2):Ending.returned (.tuple #[a,b])=.returned (.tuple #[aggV p.1,codeV p.2]):=by subst h ha hb;rfl

set_option maxHeartbeats 6400000 in
set_option maxRecDepth 100000 in
theorem roomRest_any (ns:List NodeD) (l:List PodD) (id:Int) (hno:∀ x ∈ ns,x.Ok) (hlo:∀ p ∈ l,p.Ok) (A1 A4:Option Addr) (n1 c1 n4 c4:Nat) (s2 s3 v1 v2:Value) (w:World)
  (hn1:n1=ns.length) (hl1:n1≤400) (hr1:Recs 10 cellsN w w.heap.size A1 ns) (hn4:n4=l.length) (hl4:n4≤400) (hr4:Recs 8 cellsP w w.heap.size A4 l) :
  Calls Tryz.prog 151 #[.agg #[.slice A1 n1 c1,s2,s3],.agg #[.slice A4 n4 c4,v1,v2],.int .i64 id] w fun e w'=>e=.returned (.tuple #[aggV (restD ns l id).1,codeV (restD ns l id).2])∧Below w.heap.size w w':=by
 have HR1:=Lib.hid hr1
 have HR4:=Lib.hid hr4
 have HN1:=Lib.hid hn1
 have HN4:=Lib.hid hn4
 have HNO:=Lib.hid hno
 have HLO:=Lib.hid hlo
 have T0:=T3.new w [.slice A1 n1 c1,s2,s3] [.slice A4 n4 c4,v1,v2] (cellsV .zer) 26 44 57
 have HF:=Lib.hid (fun W (h1:Recs 10 cellsN W W.heap.size A1 ns)=>node_any ns id A1 n1 c1 s2 s3 W hn1 (by omega) h1)
 clear hr1 hr4 hn1 hn4 hno hlo
 go_enter Tryz.func151,Tryz.ntmps151
 go_wp2_with fail
 refine (HF.out _ ((HR1.out.below T0.below (Nat.le_refl _)).more T0.below.size)).mono ?_
 rintro e w1 ⟨hh,hb1⟩
 have T1:=T0.keep hb1
 clear hb1 T0 HF
 obtain ⟨a0,a1,a2,a3⟩:=T1.two.cells3
 obtain ⟨⟨g0,g1,g2,g3⟩,g4⟩:=T1.three.zero4
 obtain ⟨f0,f1,f2,f3⟩:=T1.three.free4
 have hwl1:w.heap.size+1<w1.heap.size:=T1.two.lt
 rcases hh with ⟨hp,rfl⟩ | ⟨i,hi,hp,rfl⟩
 ·have HE:=Lib.hid (rest_none (l:=l) (nodeAt_no (k:=0) (Int.le_refl _) hp))
  have kw2:=T1.below
  clear hp T1
  go_wp2
  refine bodyPost_ret (v:=.tuple #[zeroV,.iface 42 (.int .i64 4)]) ?_ rfl ?_
  ·simp [results,Tryz.results151,go_sem, *]
  ·refine ⟨rest_ret _ HE.out rfl rfl,?_⟩
   repeat (first | with_reducible exact kw2 | with_reducible refine Below.setCell ?_ ?_ _ | with_reducible refine Below.alloc ?_ ?_ _)
   all_goals first | (show w.heap.size≤w.heap.size+2;omega) | (simp;omega) | omega
 ·have HP:=Lib.hid (nodeAt_yes (k:=0) hi (Int.le_refl _) (by rw [hp];omega))
  have HX:=Lib.hid (HNO.out _ (List.getElem_mem hi))
  generalize hx:ns[i]=x at *
  clear hp hx
  have NB:=Bf.new w1 (cellsN x) 59 rfl
  rcases hu:useD l id with _ | u
  ·have HC:=Lib.hid (fun W (h1:Recs 8 cellsP W W.heap.size A4 l)=>roomUse_none HLO.out hu A4 n4 c4 v1 v2 W HN4.out hl4 h1)
   have HE:=Lib.hid (rest_over HP.out hu)
   clear hu NB
   have T1a:=T1.alloc (.cells (cellsN x).toArray 59)
   have HRR:=Lib.hid ((HR4.out.below T1a.below (Nat.le_refl _)).more T1a.below.size)
   have HT:=Lib.hid T1a
   clear T1a T1
   go_wp2_with fail
   refine (HC.out _ HRR.out).mono ?_
   rintro e w2 ⟨rfl,hb2⟩
   have T2:=HT.out.keep hb2
   clear hb2 HT HRR a0 a1 a2 a3 g0 g1 g2 g3 g4 f0 f1 f2 f3 hwl1
   obtain ⟨⟨g0,g1,g2,g3⟩,g4⟩:=T2.three.zero4
   obtain ⟨f0,f1,f2,f3⟩:=T2.three.free4
   have kw2:=T2.below
   clear T2
   go_wp2
   refine bodyPost_ret (v:=.tuple #[zeroV,.iface 42 (.int .i64 8)]) ?_ rfl ?_
   ·simp [results,Tryz.results151,go_sem, *]
   ·refine ⟨rest_ret _ HE.out rfl rfl,?_⟩
    repeat (first | with_reducible exact kw2 | with_reducible refine Below.setCell ?_ ?_ _ | with_reducible refine Below.alloc ?_ ?_ _)
    all_goals first | (show w.heap.size≤w.heap.size+2;omega) | (simp;omega) | omega
  ·have HC:=Lib.hid (fun W (h1:Recs 8 cellsP W W.heap.size A4 l)=>roomUse_some HLO.out hu A4 n4 c4 v1 v2 W HN4.out hl4 h1)
   have HUO:=Lib.hid (use_ok HLO.out hu)
   have HL:Hid (∀ W,Calls Tryz.prog 166 #[aggN x,aggV u] W fun e w'=>e=.returned (.tuple #[aggV (restD ns l id).1,codeV (restD ns l id).2])∧Below W.heap.size W w'):=by
    intro W
    rcases hl:leftD x u with _ | r
    ·rw [rest_room HP.out hu hl];exact leftW_none HX.out HUO.out hl W
    ·rw [rest_some HP.out hu hl];exact leftW_some HX.out HUO.out hl W
   generalize hz:(restD ns l id)=z at *
   obtain ⟨r,code⟩:=z
   have HZ:=Lib.hid hz
   clear hu hz
   have T1a:=T1.alloc (.cells (cellsN x).toArray 59)
   have HRR:=Lib.hid ((HR4.out.below T1a.below (Nat.le_refl _)).more T1a.below.size)
   have HT:=Lib.hid T1a
   have HNB:=Lib.hid NB
   clear T1a T1 NB
   go_wp2_with fail
   refine (HC.out _ HRR.out).mono ?_
   rintro e w2 ⟨rfl,hb2⟩
   have T2:=HT.out.keep hb2
   have N2:=HNB.out.below hb2 HNB.out.lt
   clear hb2 HT HNB HRR a0 a1 a2 a3 g0 g1 g2 g3 g4 f0 f1 f2 f3 hwl1
   obtain ⟨⟨n0,n1',n2,n3,n4',n5⟩,n6,n7,n8,n9,n10⟩:=N2.cells10
   go_wp2_with fail
   refine (HL.out _).mono ?_
   rintro e w3 ⟨rfl,hb3⟩
   have T3':=(T2.alloc _).keep hb3
   clear hb3 T2 N2 n0 n1' n2 n3 n4' n5 n6 n7 n8 n9 n10
   obtain ⟨⟨g0,g1,g2,g3⟩,g4⟩:=T3'.three.zero4
   obtain ⟨f0,f1,f2,f3⟩:=T3'.three.free4
   have kw2:=T3'.below
   clear T3'
   go_wp2
   refine bodyPost_ret (v:=.tuple #[aggV r,codeV code]) ?_ rfl ?_
   ·simp [results,Tryz.results151,go_sem, *]
   ·refine ⟨by rw [HZ.out],?_⟩
    repeat (first | with_reducible exact kw2 | with_reducible refine Below.setCell ?_ ?_ _ | with_reducible refine Below.alloc ?_ ?_ _)
    all_goals first | (show w.heap.size≤w.heap.size+2;omega) | (simp;omega) | omega
end Go.Proofs.YthapilknnhlmfaaGreatDoor
namespace Go.Proofs.YthapilknnhlmfaaGreatDoor
set_option linter.unusedSimpArgs false
open Go.RowKit Go.Extern.Stop Go.Stop Go.Extern
set_option linter.unusedVariables false
theorem Tryz.valueOfPCode (t:Addr) (w:World):(ReflectliteValue.unpack (.iface 137 (.pointer (some t)))).run Tryz.prog w
  = .ok (.agg #[.pointer (some ⟨1,137,none⟩),.pointer (some ⟨w.heap.size,0,none⟩),.int .u64 150]) (w.alloc (.cells #[.pointer (some t)] 137)):=by kernel_rfl
theorem Tryz.typePCode (a:Addr) (w:World):(ReflectliteValue.methodAny (ReflectliteValue.valueError "reflectlite.Value.Type" 0) (fun t _ _ _=>ReflectliteType.toType t) #[.agg #[.pointer (some ⟨1,137,none⟩),.pointer (some a),.int .u64 150]]).run Tryz.prog w
  = .ok (.iface 203 (.agg #[.pointer (some ⟨1,137,none⟩)])) w:=by kernel_rfl
theorem Tryz.kindPCode (w:World):((ReflectliteType.abiMethod fun t=>(fun a:Nat=>Value.int IntKind.u8 (a:Int)) <$> Rtype.kind t) #[.pointer (some ⟨1,137,none⟩)]).run Tryz.prog w=.ok (.int .u8 22) w:=by kernel_rfl
theorem Tryz.kindCode (w:World):((ReflectliteType.abiMethod fun t=>(fun a:Nat=>Value.int IntKind.u8 (a:Int)) <$> Rtype.kind t) #[.pointer (some ⟨1,42,none⟩)]).run Tryz.prog w=.ok (.int .u8 2) w:=by kernel_rfl

theorem Tryz.partsPCode (a:Addr) (w:World):(ReflectliteValue.parts (.agg #[.pointer (some ⟨1,137,none⟩),.pointer (some a),.int .u64 150])).run Tryz.prog w=.ok (some (137,a,150)) w:=by kernel_rfl
theorem Tryz.isNilPCode (a p:Addr) (W:World) (ha:W.cell? a=some (.pointer (some p))) :
  (ReflectliteValue.method (ReflectliteValue.valueError "reflectlite.Value.IsNil" 0) ReflectliteValue.isNil #[.agg #[.pointer (some ⟨1,137,none⟩),.pointer (some a),.int .u64 150]]).run Tryz.prog W=.ok (.bool false) W:=by
 rw [rlm]
 simp only [Sem.run_bind,Tryz.partsPCode,Result.andThen]
 simp [ReflectliteValue.isNil,loadVar,isAgg,underlying,Tryz.underlying137,ha,Result.andThen]

theorem Tryz.elemPCode (w:World):(ReflectliteType.method ReflectliteType.elem #[.agg #[.pointer (some ⟨1,137,none⟩)]]).run Tryz.prog w=.ok (.iface 203 (.agg #[.pointer (some ⟨1,42,none⟩)])) w:=by kernel_rfl
theorem Tryz.implementsCode (w:World):(ReflectliteType.relation "Implements" ReflectliteType.implements_ #[.agg #[.pointer (some ⟨1,42,none⟩)],.iface 203 (.agg #[.pointer (some ⟨1,36,none⟩)])]).run Tryz.prog w=.ok (.bool true) w:=by kernel_rfl
theorem Tryz.typeOfCodeC (v:Value) (w:World):(ReflectliteType.typeOf #[.iface 42 v]).run Tryz.prog w=.ok (.iface 203 (.agg #[.pointer (some ⟨1,42,none⟩)])) w:=by kernel_rfl
theorem Tryz.assignableCode (w:World):(ReflectliteType.relation "AssignableTo" ReflectliteType.assignableTo #[.agg #[.pointer (some ⟨1,42,none⟩)],.iface 203 (.agg #[.pointer (some ⟨1,42,none⟩)])]).run Tryz.prog w=.ok (.bool true) w:=by kernel_rfl
theorem Tryz.valueOfCode (e:Int) (w:World):(ReflectliteValue.unpack (.iface 42 (.int .i64 e))).run Tryz.prog w
  = .ok (.agg #[.pointer (some ⟨1,42,none⟩),.pointer (some ⟨w.heap.size,0,none⟩),.int .u64 130]) (w.alloc (.cells #[.int .i64 e] 42)):=by kernel_rfl

theorem Tryz.elemOfPCode (w:World):(Rtype.elem? 137).run Tryz.prog w=.ok (some 42) w:=by kernel_rfl
theorem Tryz.mkCode (p:Addr) (w:World):(ReflectliteValue.mk 42 p ReflectliteValue.flagAddr).run Tryz.prog w=.ok (.agg #[.pointer (some ⟨1,42,none⟩),.pointer (some p),.int .u64 386]) w:=by kernel_rfl
theorem Tryz.elemVPCode (a p:Addr) (W:World) (ha:W.cell? a=some (.pointer (some p))) :
  (ReflectliteValue.method (ReflectliteValue.valueError "reflectlite.Value.Elem" 0) ReflectliteValue.elem #[.agg #[.pointer (some ⟨1,137,none⟩),.pointer (some a),.int .u64 150]]).run Tryz.prog W
   = .ok (.agg #[.pointer (some ⟨1,42,none⟩),.pointer (some p),.int .u64 386]) W:=by
 rw [rlm]
 simp only [Sem.run_bind,Tryz.partsPCode,Result.andThen]
 simp [ReflectliteValue.elem,loadVar,isAgg,underlying,Tryz.underlying137,ha,Result.andThen,Tryz.elemOfPCode,Tryz.mkCode]
theorem Tryz.partsCodeA (a:Addr) (w:World):(ReflectliteValue.parts (.agg #[.pointer (some ⟨1,42,none⟩),.pointer (some a),.int .u64 386])).run Tryz.prog w=.ok (some (42,a,386)) w:=by kernel_rfl
theorem Tryz.partsCode (a:Addr) (w:World):(ReflectliteValue.parts (.agg #[.pointer (some ⟨1,42,none⟩),.pointer (some a),.int .u64 130])).run Tryz.prog w=.ok (some (42,a,130)) w:=by kernel_rfl
theorem Tryz.directCode (w:World):(Rtype.directlyAssignable 42 42).run Tryz.prog w=.ok true w:=by kernel_rfl
theorem Tryz.setCode (ta b:Addr) (e:Int) (old:Value) (W:World) (hb:W.cell? b=some (.int .i64 e)) (ht:W.cell? ta=some old) (hf:W.frozen? ta=false) :
  (ReflectliteValue.set #[.agg #[.pointer (some ⟨1,42,none⟩),.pointer (some ta),.int .u64 386],.agg #[.pointer (some ⟨1,42,none⟩),.pointer (some b),.int .u64 130]]).run Tryz.prog W
   = .ok (.tuple #[]) (W.setCell ta (.int .i64 e)):=by
 show (bind (ReflectliteValue.parts (.agg #[.pointer (some ⟨1,42,none⟩),.pointer (some ta),.int .u64 386])) fun p=>bind (ReflectliteValue.parts (.agg #[.pointer (some ⟨1,42,none⟩),.pointer (some b),.int .u64 130])) _:Sem Value).run Tryz.prog W=_
 simp only [Sem.run_bind,Tryz.partsCodeA,Tryz.partsCode,Result.andThen]
 simp [ReflectliteValue.flagAddr,loadVar,isAgg,underlying,Tryz.underlying42,hb,Result.andThen,Tryz.directCode,storeVar,Value.cells,storeCells,Addr.add]
 rw [run_store Tryz.prog W ta _ _ (by rfl)]
 simp [ht,hf]

set_option maxHeartbeats 4000000 in
theorem as_hitC (e:Int) (t:Addr) (old:Value) (w:World) (hg:w.cell? ⟨0,0,none⟩=some (.iface 203 (.agg #[.pointer (some ⟨1,36,none⟩)]))) (ht0:w.cell? t=some old) (hf0:w.frozen? t=false) :
  Calls Tryz.prog 58 #[.iface 42 (.int .i64 e),.iface 137 (.pointer (some t))] w fun ev w'=>ev=.returned (.bool true)∧w'=((((w.alloc (.cells #[.pointer (some t)] 137)).alloc (.cells #[.pointer (some ⟨1,137,none⟩),.pointer (some ⟨w.heap.size,0,none⟩),.int .u64 150] 163)).alloc (.cells #[.pointer (some ⟨1,137,none⟩),.pointer (some ⟨w.heap.size,0,none⟩),.int .u64 150] 163)).alloc (.cells #[.int .i64 e] 42)).setCell t (.int .i64 e):=by
 have h6:=@run_callFunc_extern Tryz.prog 95 _ (fun args=>ReflectliteValue.unpack (args.getD 0 (.tuple #[]))) Tryz.func95 (by kernel_rfl) (by kernel_rfl) (by kernel_rfl) (by kernel_rfl)
 have h7:=@run_callFunc_extern Tryz.prog 96 _ (ReflectliteValue.methodAny (ReflectliteValue.valueError "reflectlite.Value.Type" 0) (fun t _ _ _=>ReflectliteType.toType t)) Tryz.func96 (by kernel_rfl) (by kernel_rfl) (by kernel_rfl) (by kernel_rfl)
 have h8:=@run_callFunc_extern Tryz.prog 97 _ (ReflectliteValue.method (ReflectliteValue.valueError "reflectlite.Value.IsNil" 0) ReflectliteValue.isNil) Tryz.func97 (by kernel_rfl) (by kernel_rfl) (by kernel_rfl) (by kernel_rfl)
 have h27:=@run_callFunc_extern Tryz.prog 238 _ (ReflectliteType.abiMethod fun t=>do pure (.int .u8 (← Rtype.kind t))) Tryz.func238 (by kernel_rfl) (by kernel_rfl) (by kernel_rfl) (by kernel_rfl)
 have h37:=@run_callFunc_extern Tryz.prog 250 _ (ReflectliteType.method ReflectliteType.elem) Tryz.func250 (by kernel_rfl) (by kernel_rfl) (by kernel_rfl) (by kernel_rfl)
 have h38:=@run_callFunc_extern Tryz.prog 251 _ (ReflectliteType.relation "Implements" ReflectliteType.implements_) Tryz.func251 (by kernel_rfl) (by kernel_rfl) (by kernel_rfl) (by kernel_rfl)
 have h10:=@run_callFunc_extern Tryz.prog 99 _ ReflectliteType.typeOf Tryz.func99 (by kernel_rfl) (by kernel_rfl) (by kernel_rfl) (by kernel_rfl)
 have h35:=@run_callFunc_extern Tryz.prog 248 _ (ReflectliteType.relation "AssignableTo" ReflectliteType.assignableTo) Tryz.func248 (by kernel_rfl) (by kernel_rfl) (by kernel_rfl) (by kernel_rfl)
 have h11:=@run_callFunc_extern Tryz.prog 138 _ (ReflectliteValue.method (ReflectliteValue.valueError "reflectlite.Value.Elem" 0) ReflectliteValue.elem) Tryz.func138 (by kernel_rfl) (by kernel_rfl) (by kernel_rfl) (by kernel_rfl)
 have h12:=@run_callFunc_extern Tryz.prog 139 _ ReflectliteValue.set Tryz.func139 (by kernel_rfl) (by kernel_rfl) (by kernel_rfl) (by kernel_rfl)
 have tO:=Tryz.typeOfCodeC
 have mA:=Tryz.methodAssignableTo
 have a25:=Tryz.assignableCode
 have v25:=Tryz.valueOfCode
 have f6:=Tryz.valueOfPCode
 have f7:=Tryz.typePCode
 have mK:=Tryz.methodKind
 have mE:=Tryz.methodElem
 have mI:=Tryz.methodImplements
 have k27:=Tryz.kindPCode
 have k25:=Tryz.kindCode
 have e27:=Tryz.elemPCode
 have i25:=Tryz.implementsCode
 have n8:=Tryz.isNilPCode ⟨w.heap.size,0,none⟩ t ((w.alloc (.cells #[.pointer (some t)] 137)).alloc (.cells #[.pointer (some ⟨1,137,none⟩),.pointer (some ⟨w.heap.size,0,none⟩),.int .u64 150] 163)) (by simp)
 have hlt:0<w.heap.size:=by
  rcases Nat.eq_zero_or_pos w.heap.size with h0 | h
  ·simp [World.cell?,h0] at hg
  ·exact h
 have hg2:((w.alloc (.cells #[.pointer (some t)] 137)).alloc (.cells #[.pointer (some ⟨1,137,none⟩),.pointer (some ⟨w.heap.size,0,none⟩),.int .u64 150] 163)).cell? ⟨0,0,none⟩=some (.iface 203 (.agg #[.pointer (some ⟨1,36,none⟩)])):=by
  rw [World.cell?_alloc_lt _ _ ⟨0,0,none⟩ (by simp),World.cell?_alloc_lt _ _ ⟨0,0,none⟩ hlt];exact hg
 have htl:t.block<w.heap.size:=by
  rcases Nat.lt_or_ge t.block w.heap.size with h | h
  ·exact h
  ·simp [World.cell?,Array.getElem?_eq_none h] at ht0
 have el:=Tryz.elemVPCode ⟨w.heap.size,0,none⟩ t (((w.alloc (.cells #[.pointer (some t)] 137)).alloc (.cells #[.pointer (some ⟨1,137,none⟩),.pointer (some ⟨w.heap.size,0,none⟩),.int .u64 150] 163)).alloc (.cells #[.pointer (some ⟨1,137,none⟩),.pointer (some ⟨w.heap.size,0,none⟩),.int .u64 150] 163)) (by rw [World.cell?_alloc_lt _ _ ⟨w.heap.size,0,none⟩ (by simp;omega)];simp)
 have st:=Tryz.setCode t ⟨w.heap.size+1+1+1,0,none⟩ e old ((((w.alloc (.cells #[.pointer (some t)] 137)).alloc (.cells #[.pointer (some ⟨1,137,none⟩),.pointer (some ⟨w.heap.size,0,none⟩),.int .u64 150] 163)).alloc (.cells #[.pointer (some ⟨1,137,none⟩),.pointer (some ⟨w.heap.size,0,none⟩),.int .u64 150] 163)).alloc (.cells #[.int .i64 e] 42))
  (by rw [World.cell?_alloc_at _ _ _ _ (by simp)];rfl)
  (by rw [World.cell?_alloc_lt _ _ t (by simp;omega),World.cell?_alloc_lt _ _ t (by simp;omega),World.cell?_alloc_lt _ _ t (by simp;omega),World.cell?_alloc_lt _ _ t htl];exact ht0)
  (by rw [World.frozen?_alloc_old _ _ t (by simp;omega),World.frozen?_alloc_old _ _ t (by simp;omega),World.frozen?_alloc_old _ _ t (by simp;omega),World.frozen?_alloc_old _ _ t (Nat.ne_of_lt htl)];exact hf0)
 go_enter Tryz.func58,Tryz.ntmps58
 go_wp2
 refine wp_loop_rounds 1 ?_
 rw [rounds_succ]
 go_wp2
 go_ret
 exact ⟨rfl,rfl⟩
end Go.Proofs.YthapilknnhlmfaaGreatDoor
namespace Go.Proofs.YthapilknnhlmfaaGreatDoor
set_option linter.unusedSimpArgs false
open Go.RowKit
set_option linter.unusedVariables false
set_option maxHeartbeats 1600000 in
theorem roomSpot_any (k:Nat) (c:Int) (w:World) (hg:Laid w) :
  Calls Tryz.prog 152 #[.int .i64 (k:Int),.iface 42 (.int .i64 c)] w fun e w'=>∃ g:Nat,e=.returned (.iface 123 (.pointer (some ⟨g,0,none⟩)))∧w.heap.size≤g ∧
   w'.heap[g]?=some (.cells #[.int .i64 (k:Int),.int .i64 c] 128 (0,0))∧Below w.heap.size w w':=by
 have hgl:0<w.heap.size:=World.block_lt_of_cell? w _ hg
 have htA:(w.alloc (.cells #[.int .i64 0] 42)).cell? ⟨w.heap.size,0,none⟩=some (.int .i64 0):=by simp
 have hfA:(w.alloc (.cells #[.int .i64 0] 42)).frozen? ⟨w.heap.size,0,none⟩=false:=by simp
 have hgA:Laid (w.alloc (.cells #[.int .i64 0] 42)):=Laid.below hg ((Below.refl _ w).alloc (Nat.le_refl _) _) (Nat.le_refl _)
 have HA:=Lib.hid (as_hitC c ⟨w.heap.size,0,none⟩ (.int .i64 0) (w.alloc (.cells #[.int .i64 0] 42)) hgA htA hfA)
 clear hg hgA htA hfA
 go_enter Tryz.func152,Tryz.ntmps152
 go_wp2_with fail
 refine HA.out.mono ?_
 rintro e w1 ⟨rfl,hw1⟩
 have hb1:Below w.heap.size w w1:=by
  rw [hw1]
  refine Below.setCell (p:=⟨w.heap.size,0,none⟩) ?_ (Nat.le_refl _) _
  exact ((((((Below.refl _ w).alloc (Nat.le_refl _) _).alloc (by simp) _).alloc (by simp;omega) _).alloc (by simp;omega) _).alloc (by simp;omega) _)
 have hc1:w1.cell? ⟨w.heap.size,0,none⟩=some (.int .i64 c):=by
  rw [hw1]
  refine World.cell?_setCell_same (u:=.int .i64 0) _ _ _ ?_
  rw [World.cell?_alloc_lt _ _ ⟨w.heap.size,0,none⟩ (by simp;omega),World.cell?_alloc_lt _ _ ⟨w.heap.size,0,none⟩ (by simp;omega),World.cell?_alloc_lt _ _ ⟨w.heap.size,0,none⟩ (by simp;omega),World.cell?_alloc_lt _ _ ⟨w.heap.size,0,none⟩ (by simp)]
  simp
 clear hw1
 have HB:=Lib.hid hb1
 clear hb1
 go_wp2
 go_ret
 exact ⟨w1.heap.size,rfl,HB.out.size,heap_alloc_new w1 _,HB.out.alloc HB.out.size _⟩
theorem Bf.later {W v w':World} {z:V4} (h0:Bf v W.heap.size (cellsV .zer)) (hb:Below v.heap.size v w') :
  Bf ((((w'.setCell ⟨W.heap.size,0,none⟩ (.int .u64 z.a)).setCell ⟨W.heap.size,1,none⟩ (.int .u64 z.b)).setCell ⟨W.heap.size,2,none⟩ (.int .u64 z.c)).setCell ⟨W.heap.size,3,none⟩ (.int .u64 z.d)) W.heap.size (cellsV z) :=
 (((((h0.below hb h0.lt).set 0 (.int .u64 z.a)).set 1 (.int .u64 z.b)).set 2 (.int .u64 z.c)).set 3 (.int .u64 z.d))
theorem Bf.drew {V:World} {b:Nat} {cs:List Value} (h:Bf V b cs):Bf V.drew b cs:=h.below (Below.refl _ V).drew h.lt
structure T2 (a b:List Value) (w V:World):Prop where
 one:Bf V w.heap.size a
 two:Bf V (w.heap.size+1) b
 below:Below w.heap.size w V
section
variable {a b:List Value} {w V V':World}
theorem T2.keep (h:T2 a b w V) (hb:Below V.heap.size V V'):T2 a b w V':=⟨h.one.below hb h.one.lt,h.two.below hb h.two.lt,h.below.trans (hb.mono h.below.size)⟩
theorem T2.alloc (h:T2 a b w V) (o:Obj):T2 a b w (V.alloc o):=h.keep ((Below.refl _ V).alloc (Nat.le_refl _) o)
theorem T2.new (w:World) (a b:List Value) (t1 t2:TypeId):T2 a b w ((w.alloc (.cells a.toArray t1)).alloc (.cells b.toArray t2)) :=
 ⟨(Bf.new w a t1 rfl).alloc _,Bf.new (w.alloc (.cells a.toArray t1)) b t2 (b:=w.heap.size+1) (by simp),((Below.refl _ w).alloc (Nat.le_refl _) _).alloc (by simp) _⟩
end
theorem codeV_zero:codeV 0=.nilIface:=rfl
theorem codeV_pos {c:Int} (h:c≠0):codeV c=.iface 42 (.int .i64 c):=by unfold codeV;rw [if_neg h]
theorem rest_code {ns:List NodeD} {l:List PodD} {id:Int} (h:(restD ns l id).2≠0):1≤(restD ns l id).2∧(restD ns l id).2≤17:=by
 rcases rest_vals ns l id with h1 | ⟨_,h1 | h1 | h1⟩
 ·exact absurd h1 h
 ·omega
 ·omega
 ·omega
def RoomRel (ns:List NodeD) (l:List PodD) (a b:List Value) (w:World) (i:Value) (wr:World):Prop:=∃ k:Nat,k≤ns.length∧i=.int .i64 k∧roomD ns l (ns.drop k) k=roomOf ns l∧T2 a b w wr

set_option maxHeartbeats 6400000 in
set_option maxRecDepth 100000 in
theorem roomCheck_any (ns:List NodeD) (l:List PodD) (hno:∀ x ∈ ns,x.Ok) (hlo:∀ p ∈ l,p.Ok) (A1 A4:Option Addr) (n1 c1 n4 c4:Nat) (s2 s3 v1 v2:Value) (w:World) (hg:Laid w)
  (hn1:n1=ns.length) (hl1:n1≤400) (hr1:Recs 10 cellsN w w.heap.size A1 ns) (hn4:n4=l.length) (hl4:n4≤400) (hr4:Recs 8 cellsP w w.heap.size A4 l) :
  Calls Tryz.prog 123 #[.agg #[.slice A1 n1 c1,s2,s3],.agg #[.slice A4 n4 c4,v1,v2]] w (ErrTo (roomOf ns l) w):=by
 have HR1:=Lib.hid hr1
 have HN1:=Lib.hid hn1
 have HG:=Lib.hid hg
 have HC:=Lib.hid (fun (W:World) (hW:Below w.heap.size w W) (id:Int)=>roomRest_any ns l id hno hlo A1 A4 n1 c1 n4 c4 s2 s3 v1 v2 W hn1 hl1 ((hr1.below hW (Nat.le_refl _)).more hW.size) hn4 hl4 ((hr4.below hW (Nat.le_refl _)).more hW.size))
 have T0:=T2.new w [.slice A1 n1 c1,s2,s3] [.slice A4 n4 c4,v1,v2] 26 44
 have HT0:=Lib.hid T0
 clear hr1 hr4 hn1 hn4 hno hlo hg T0
 go_enter Tryz.func123,Tryz.ntmps123
 go_wp2
 go_loopw [12] (RoomRel ns l [.slice A1 n1 c1,s2,s3] [.slice A4 n4 c4,v1,v2] w) (fun i _=>n1 - (intOf i).toNat)
 case atStart=>exact ⟨0,by omega,rfl,rfl,HT0.out⟩
 case round =>
  obtain ⟨k,hk,rfl,hp,T1⟩:=hrel
  have HP:=Lib.hid hp
  have HT1:=Lib.hid T1
  clear hp
  by_cases hlt:k<n1
  ·have hkl:k<ns.length:=by have:=HN1.out;omega
   obtain ⟨b,o,rfl,hb,he⟩:=HR1.out.at hkl
   generalize hx:ns[k]=y at *
   have HX:=Lib.hid (roomD_at hkl hx HP.out)
   clear hx
   have kwr:=T1.below
   have e0:wr.cell? ⟨b,o+k * 10,none⟩=some (.int .i64 y.id):=(kwr.cell (p:=⟨b,o+k * 10,none⟩) hb).trans (he 0 _ rfl)
   have e1:wr.cell? ⟨b,o+k * 10+1,none⟩=some (.int .i64 y.zone):=(kwr.cell (p:=⟨b,o+k * 10+1,none⟩) hb).trans (he 1 _ rfl)
   have e2:wr.cell? ⟨b,o+k * 10+2,none⟩=some (.int .u64 y.cap.a):=(kwr.cell (p:=⟨b,o+k * 10+2,none⟩) hb).trans (he 2 _ rfl)
   have e3:wr.cell? ⟨b,o+k * 10+3,none⟩=some (.int .u64 y.cap.b):=(kwr.cell (p:=⟨b,o+k * 10+3,none⟩) hb).trans (he 3 _ rfl)
   have e4:wr.cell? ⟨b,o+k * 10+4,none⟩=some (.int .u64 y.cap.c):=(kwr.cell (p:=⟨b,o+k * 10+4,none⟩) hb).trans (he 4 _ rfl)
   have e5:wr.cell? ⟨b,o+k * 10+5,none⟩=some (.int .u64 y.cap.d):=(kwr.cell (p:=⟨b,o+k * 10+5,none⟩) hb).trans (he 5 _ rfl)
   have e6:wr.cell? ⟨b,o+k * 10+6,none⟩=some (.int .u64 y.held.a):=(kwr.cell (p:=⟨b,o+k * 10+6,none⟩) hb).trans (he 6 _ rfl)
   have e7:wr.cell? ⟨b,o+k * 10+7,none⟩=some (.int .u64 y.held.b):=(kwr.cell (p:=⟨b,o+k * 10+7,none⟩) hb).trans (he 7 _ rfl)
   have e8:wr.cell? ⟨b,o+k * 10+8,none⟩=some (.int .u64 y.held.c):=(kwr.cell (p:=⟨b,o+k * 10+8,none⟩) hb).trans (he 8 _ rfl)
   have e9:wr.cell? ⟨b,o+k * 10+9,none⟩=some (.int .u64 y.held.d):=(kwr.cell (p:=⟨b,o+k * 10+9,none⟩) hb).trans (he 9 _ rfl)
   have hbw:b<wr.heap.size:=Nat.lt_of_lt_of_le hb kwr.size
   obtain ⟨a0,a1,a2,a3⟩:=T1.one.cells3
   obtain ⟨b0,b1,b2,b3⟩:=T1.two.cells3
   have HCR:=Lib.hid (HC.out (wr.alloc (.cells (cellsN y).toArray 59)) (kwr.alloc kwr.size _) y.id)
   have HRC:=Lib.hid (fun h=>rest_code (ns:=ns) (l:=l) (id:=y.id) h)
   clear he T1 kwr
   generalize hz:restD ns l y.id=z at *
   obtain ⟨r,code⟩:=z
   clear hz
   by_cases hc:code=0
   ·subst hc
    have HE:=Lib.hid (HX.out.2 rfl)
    have HCC:Hid (Calls Tryz.prog 151 #[.agg #[.slice (some ⟨b,o,none⟩) n1 c1,s2,s3],.agg #[.slice A4 n4 c4,v1,v2],.int .i64 y.id] (wr.alloc (.cells #[.int .i64 y.id,.int .i64 y.zone,.int .u64 y.cap.a,.int .u64 y.cap.b,.int .u64 y.cap.c,.int .u64 y.cap.d,.int .u64 y.held.a,.int .u64 y.held.b,.int .u64 y.held.c,.int .u64 y.held.d] 59)) fun e w'=>e=.returned (.tuple #[aggV r,.nilIface])∧Below (wr.alloc (.cells #[.int .i64 y.id,.int .i64 y.zone,.int .u64 y.cap.a,.int .u64 y.cap.b,.int .u64 y.cap.c,.int .u64 y.cap.d,.int .u64 y.held.a,.int .u64 y.held.b,.int .u64 y.held.c,.int .u64 y.held.d] 59)).heap.size (wr.alloc (.cells #[.int .i64 y.id,.int .i64 y.zone,.int .u64 y.cap.a,.int .u64 y.cap.b,.int .u64 y.cap.c,.int .u64 y.cap.d,.int .u64 y.held.a,.int .u64 y.held.b,.int .u64 y.held.c,.int .u64 y.held.d] 59)) w'):=HCR.out
    clear HCR
    go_wp2_with fail
    refine HCC.out.mono ?_
    rintro e w1 ⟨rfl,hb1⟩
    have HTT:=Lib.hid (((HT1.out.alloc _).keep hb1).alloc (.cells #[.int .u64 r.a,.int .u64 r.b,.int .u64 r.c,.int .u64 r.d] 57))
    clear hb1 e0 e1 e2 e3 e4 e5 e6 e7 e8 e9 a0 a1 a2 a3 b0 b1 b2 b3
    go_wp2
    go_roundw
    case rel=>exact ⟨k+1,by omega,by go_num,HE.out,HTT.out⟩
    case measure=>simp [intOf];omega
   ·have HE:=Lib.hid (HX.out.1 hc)
    have HCO:=Lib.hid (HRC.out hc)
    have HCC:Hid (Calls Tryz.prog 151 #[.agg #[.slice (some ⟨b,o,none⟩) n1 c1,s2,s3],.agg #[.slice A4 n4 c4,v1,v2],.int .i64 y.id] (wr.alloc (.cells #[.int .i64 y.id,.int .i64 y.zone,.int .u64 y.cap.a,.int .u64 y.cap.b,.int .u64 y.cap.c,.int .u64 y.cap.d,.int .u64 y.held.a,.int .u64 y.held.b,.int .u64 y.held.c,.int .u64 y.held.d] 59)) fun e w'=>e=.returned (.tuple #[aggV r,.iface 42 (.int .i64 code)])∧Below (wr.alloc (.cells #[.int .i64 y.id,.int .i64 y.zone,.int .u64 y.cap.a,.int .u64 y.cap.b,.int .u64 y.cap.c,.int .u64 y.cap.d,.int .u64 y.held.a,.int .u64 y.held.b,.int .u64 y.held.c,.int .u64 y.held.d] 59)).heap.size (wr.alloc (.cells #[.int .i64 y.id,.int .i64 y.zone,.int .u64 y.cap.a,.int .u64 y.cap.b,.int .u64 y.cap.c,.int .u64 y.cap.d,.int .u64 y.held.a,.int .u64 y.held.b,.int .u64 y.held.c,.int .u64 y.held.d] 59)) w'):=by
     have h:=HCR.out
     rw [codeV_pos hc] at h
     exact h
    clear HCR hc
    go_wp2_with fail
    refine HCC.out.mono ?_
    rintro e w1 ⟨rfl,hb1⟩
    have TT:=((HT1.out.alloc _).keep hb1).alloc (.cells #[.int .u64 r.a,.int .u64 r.b,.int .u64 r.c,.int .u64 r.d] 57)
    have HSP:=Lib.hid (roomSpot_any k code (w1.alloc (.cells #[.int .u64 r.a,.int .u64 r.b,.int .u64 r.c,.int .u64 r.d] 57)) (Laid.below HG.out TT.below (Nat.le_refl _)))
    have HTT:=Lib.hid TT
    clear hb1 e0 e1 e2 e3 e4 e5 e6 e7 e8 e9 a0 a1 a2 a3 b0 b1 b2 b3 TT
    go_wp2_with fail
    refine HSP.out.mono ?_
    rintro e w2 ⟨g,rfl,hg1,hg2,hb2⟩
    have HG1:=Lib.hid hg1
    have HG2:=Lib.hid hg2
    have HB2:=Lib.hid hb2
    clear hg1 hg2 hb2
    go_wp2
    go_ret
    refine ⟨_,rfl,.inr (.inr ⟨k,g,by rw [HE.out],rfl,Nat.le_trans HTT.out.below.size HG1.out,by rw [HE.out];exact HG2.out⟩),(HTT.out.keep HB2.out).below⟩
  ·have HE:=Lib.hid (roomD_end (by have:=HN1.out;omega) HP.out)
   have kwr:=T1.below
   clear T1
   go_wp2
   go_ret
   exact ⟨_,rfl,.inl ⟨HE.out,rfl⟩,kwr⟩
abbrev i64s (l:List Int):List Value:=l.map (Value.int .i64)
theorem Tryz.info3:(Tryz.prog.info? 3).map (fun i=>(i.zero,i.size,i.bytes))=some (some (.int .i64 0),1,8):=by kernel_rfl

def ZonesTo (l:List NodeD) (w:World) (e:Ending) (w':World):Prop :=
 ∃ v,e=.returned v∧w'.ownsRow (w.heap.size+1) 3 1 v (i64s (zonesOf l)).length (i64s (zonesOf l))∧Below w.heap.size w w'
abbrev sortI (zs:List Int):List Int:=zs.mergeSort fun x y=>decide (x≤y)
def SortOwn:Prop:=∀ (B:Nat) (v:Value) (zs:List Int) (w:World),B≤w.heap.size→w.ownsRow B 3 1 v zs.length (i64s zs)→zs.length≤1000 →
 Calls Tryz.prog 181 #[v] w fun e w'=>e=.returned (.tuple #[])∧w'.ownsRow B 3 1 v zs.length (i64s (sortI zs))∧Below B w w'
def CompTo (zs:List Int) (B:Nat) (w:World) (e:Ending) (w':World):Prop:=∃ v',e=.returned v'∧w'.ownsRow B 3 1 v' (Lib.compact zs).length (i64s (Lib.compact zs))∧Below B w w'
def CompOwn:Prop:=∀ (B:Nat) (v:Value) (zs:List Int) (w:World),B≤w.heap.size→w.ownsRow B 3 1 v zs.length (i64s zs)→zs.length≤1000→Calls Tryz.prog 182 #[v] w (CompTo zs B w)

def ZoRel (l:List NodeD) (W:World) (B:Nat) (v i:Value) (wr:World):Prop :=
 ∃ k:Nat,k≤l.length∧i=.int .i64 k∧wr.ownsRow B 3 1 v (i64s ((l.take k).map NodeD.zone)).length (i64s ((l.take k).map NodeD.zone))∧Below B W wr
theorem zones_more {l:List NodeD} {k:Nat} {nd:NodeD} (h:k<l.length) (hx:l[k]=nd):i64s ((l.take (k+1)).map NodeD.zone)=i64s ((l.take k).map NodeD.zone)++[.int .i64 nd.zone]:=by
 rw [List.take_succ_eq_append_getElem h,hx];simp

set_option maxHeartbeats 3200000 in
set_option maxRecDepth 100000 in
theorem zones_any (HS:SortOwn) (HC:CompOwn) (l:List NodeD) (A:Option Addr) (n c:Nat) (v2 v3:Value) (w:World) (hn:n=l.length) (hl:n≤1000) (hr:Recs 10 cellsN w w.heap.size A l) :
  Calls Tryz.prog 168 #[.agg #[.slice A n c,v2,v3]] w (ZonesTo l w):=by
 have HSS:=Lib.hid HS
 have HCC:=Lib.hid HC
 have HR:=Lib.hid hr
 have HN:=Lib.hid hn
 clear hr hn HS HC
 have b00:Below w.heap.size w (w.alloc (.cells #[.slice A n c,v2,v3] 26)):=(Below.refl _ _).alloc (Nat.le_refl _) _
 go_enter Tryz.func168,Tryz.ntmps168
 go_wp2
 go_loopw [3,9] (ZoRel l (w.alloc (.cells #[.slice A n c,v2,v3] 26)) (w.heap.size+1)) (fun _ i _=>n - (intOf i).toNat)
 case atStart=>exact ⟨0,by omega,rfl,⟨by simp,.inl ⟨rfl,by simp⟩⟩,Below.refl _ _⟩
 case round =>
  obtain ⟨k,hk,rfl,hown,hbr⟩:=hrel
  have HOWN:=Lib.hid hown
  have hzr:w.heap.size+1≤wr.heap.size:=by have:=hbr.size;simpa using this
  have kwr:Below w.heap.size w wr:=b00.trans (hbr.mono (by omega))
  clear hown
  by_cases hlt:k<n
  ·have hkl:k<l.length:=by have:=HN.out;omega
   obtain ⟨b,o,rfl,hb,he⟩:=HR.out.at hkl
   generalize hx:l[k]=nd at *
   have HX:=Lib.hid hx
   clear hx
   have e0:wr.cell? ⟨b,o+k * 10,none⟩=some (.int .i64 nd.id):=(kwr.cell (p:=⟨b,o+k * 10,none⟩) hb).trans (he 0 _ rfl)
   have e1:wr.cell? ⟨b,o+k * 10+1,none⟩=some (.int .i64 nd.zone):=(kwr.cell (p:=⟨b,o+k * 10+1,none⟩) hb).trans (he 1 _ rfl)
   have e2:wr.cell? ⟨b,o+k * 10+2,none⟩=some (.int .u64 nd.cap.a):=(kwr.cell (p:=⟨b,o+k * 10+2,none⟩) hb).trans (he 2 _ rfl)
   have e3:wr.cell? ⟨b,o+k * 10+3,none⟩=some (.int .u64 nd.cap.b):=(kwr.cell (p:=⟨b,o+k * 10+3,none⟩) hb).trans (he 3 _ rfl)
   have e4:wr.cell? ⟨b,o+k * 10+4,none⟩=some (.int .u64 nd.cap.c):=(kwr.cell (p:=⟨b,o+k * 10+4,none⟩) hb).trans (he 4 _ rfl)
   have e5:wr.cell? ⟨b,o+k * 10+5,none⟩=some (.int .u64 nd.cap.d):=(kwr.cell (p:=⟨b,o+k * 10+5,none⟩) hb).trans (he 5 _ rfl)
   have e6:wr.cell? ⟨b,o+k * 10+6,none⟩=some (.int .u64 nd.held.a):=(kwr.cell (p:=⟨b,o+k * 10+6,none⟩) hb).trans (he 6 _ rfl)
   have e7:wr.cell? ⟨b,o+k * 10+7,none⟩=some (.int .u64 nd.held.b):=(kwr.cell (p:=⟨b,o+k * 10+7,none⟩) hb).trans (he 7 _ rfl)
   have e8:wr.cell? ⟨b,o+k * 10+8,none⟩=some (.int .u64 nd.held.c):=(kwr.cell (p:=⟨b,o+k * 10+8,none⟩) hb).trans (he 8 _ rfl)
   have e9:wr.cell? ⟨b,o+k * 10+9,none⟩=some (.int .u64 nd.held.d):=(kwr.cell (p:=⟨b,o+k * 10+9,none⟩) hb).trans (he 9 _ rfl)
   have hbw:b<wr.heap.size:=by omega
   have HM:=Lib.hid (zones_more hkl HX.out)
   have HL:Hid ((i64s ((l.take k).map NodeD.zone)).length≤2000000):=by show _≤_;simp;omega
   have k1:Below (w.heap.size+1) (w.alloc (.cells #[.slice (some ⟨b,o,none⟩) n c,v2,v3] 26)) (wr.alloc (.cells #[.int .i64 nd.id,.int .i64 nd.zone,.int .u64 nd.cap.a,.int .u64 nd.cap.b,.int .u64 nd.cap.c,.int .u64 nd.cap.d,.int .u64 nd.held.a,.int .u64 nd.held.b,.int .u64 nd.held.c,.int .u64 nd.held.d] 59)):=hbr.alloc hzr _
   have HO1:=Lib.hid (HOWN.out.alloc (.cells #[.int .i64 nd.id,.int .i64 nd.zone,.int .u64 nd.cap.a,.int .u64 nd.cap.b,.int .u64 nd.cap.c,.int .u64 nd.cap.d,.int .u64 nd.held.a,.int .u64 nd.held.b,.int .u64 nd.held.c,.int .u64 nd.held.d] 59))
   clear he
   go_wp2_with (at_builtin;refine wpList_push 135 3 (.int .i64 0) 8 Tryz.underlying135 Tryz.info3 rfl (by decide) rfl (.tmp 13) (.tmp 16) rfl (w.heap.size+1) _ (i64s ((l.take k).map NodeD.zone)) (.int .i64 nd.zone) rfl HO1.out (by show w.heap.size+1≤(wr.alloc _).heap.size;simp;omega) HL.out rfl (by simp [go_sem]) ?_;intro v5 w3 hown3 hb3 hB3)
   have HO3:=Lib.hid hown3
   clear hown3
   go_wp2
   go_roundw
   case rel=>exact ⟨k+1,by omega,by go_num,by rw [HM.out];exact HO3.out,k1.trans hb3⟩
   case measure=>simp [intOf];omega
  ·have HK:Hid (l.take k=l):=List.take_of_length_le (by have:=HN.out;omega)
   have HO:Hid (wr.ownsRow (w.heap.size+1) 3 1 u3 (l.map NodeD.zone).length (i64s (l.map NodeD.zone))):=by
    have h:=HOWN.out
    rw [HK.out,List.length_map (f:=Value.int .i64)] at h
    exact h
   have HLL:Hid ((l.map NodeD.zone).length≤1000):=by show _≤_;have:=HN.out;simp;omega
   go_wp2_with fail
   refine (HSS.out _ _ _ _ hzr HO.out HLL.out).mono ?_
   rintro e w1 ⟨rfl,hown1,hb1⟩
   have HO1:Hid (w1.ownsRow (w.heap.size+1) 3 1 u3 (sortI (l.map NodeD.zone)).length (i64s (sortI (l.map NodeD.zone)))):=by
    rw [show (sortI (l.map NodeD.zone)).length=(l.map NodeD.zone).length from List.length_mergeSort _];exact hown1
   have HL1:Hid ((sortI (l.map NodeD.zone)).length≤1000):=by
    show _≤_;rw [show (sortI (l.map NodeD.zone)).length=(l.map NodeD.zone).length from List.length_mergeSort _];exact HLL.out
   clear hown1
   have hz1:w.heap.size+1≤w1.heap.size:=Nat.le_trans hzr hb1.size
   go_wp2_with fail
   refine (HCC.out _ _ _ _ hz1 HO1.out HL1.out).mono ?_
   rintro e w2 ⟨v',rfl,hown2,hb2⟩
   rw [zones_compact] at hown2
   have HO2:=Lib.hid hown2
   clear hown2
   have kw2:Below w.heap.size w w2:=b00.trans (((hbr.trans hb1).trans hb2).mono (by omega))
   go_wp2
   go_ret
   exact ⟨_,rfl,by rw [List.length_map];exact HO2.out,kw2⟩
def apartD (id:Int):List LoadD→Bool
 | []=>false
 | x :: r=>if x.id=id then x.apart else apartD id r
theorem apartD_no {id:Int}:∀ {l:List LoadD} {k:Int},0≤k→place LoadD.id id l k<0→apartD id l=false
 | [],_,_,_=>rfl
 | x :: r,k,hk,h=>by
  by_cases hx:x.id=id
  ·simp [place,hx] at h;omega
  ·simp only [place,if_neg hx] at h
   simp only [apartD,if_neg hx]
   exact apartD_no (by omega) h
theorem apartD_yes {id:Int}:∀ {l:List LoadD} {k:Int} {i:Nat} (hi:i<l.length),place LoadD.id id l k=k+i→0≤k→apartD id l=l[i].apart
 | [],_,_,hi,_,_=>by simp at hi
 | x :: r,k,i,hi,h,hk=>by
  by_cases hx:x.id=id
  ·simp only [place,if_pos hx] at h
   obtain rfl:i=0:=by omega
   simp [apartD,hx]
  ·simp only [place,if_neg hx] at h
   cases i with
   | zero =>
    have h3:place LoadD.id id r (k+1)<0∨k+1≤place LoadD.id id r (k+1):=place_or r (k+1) (by omega)
    omega
   | succ i =>
    simp only [apartD,if_neg hx,List.getElem_cons_succ]
    exact apartD_yes (by simpa using hi) (by rw [h];omega) (by omega)
def clashD (ls:List LoadD) (a b:PodD):Bool:=a.node != 0 && (a.node == b.node && (a.load == b.load && apartD a.load ls))
def apartFrom (ls:List LoadD) (l:List PodD):List PodD→Nat→Int × Int
 | [],_=>(0,-1)
 | p :: r,k=>if (l.take k).any (clashD ls p)=true then (10,(k:Int)) else apartFrom ls l r (k+1)
def apartOf (ls:List LoadD) (l:List PodD):Int × Int:=apartFrom ls l l 0
theorem apartFrom_at {ls:List LoadD} {l:List PodD} {k:Nat} {z:Int × Int} (h:k<l.length) {p:PodD} (hx:l[k]=p) (hp:apartFrom ls l (l.drop k) k=z) :
  ((l.take k).any (clashD ls p)=true→z=(10,(k:Int)))∧((l.take k).any (clashD ls p)=false→apartFrom ls l (l.drop (k+1)) (k+1)=z):=by
 rw [List.drop_eq_getElem_cons h,hx,apartFrom] at hp
 constructor
 ·intro e;rw [if_pos e] at hp;exact hp.symm
 ·intro e;rw [if_neg (by rw [e];decide)] at hp;exact hp
theorem apartFrom_end {ls:List LoadD} {l:List PodD} {k:Nat} {z:Int × Int} (h:l.length≤k) (hp:apartFrom ls l (l.drop k) k=z):z=(0,-1):=by
 rw [List.drop_of_length_le h] at hp
 exact hp.symm
def idxF (f:PodD→Bool):List PodD→Int→Int
 | [],_=>-1
 | q :: r,k=>if f q=true then k else idxF f r (k+1)
theorem idxF_at {f:PodD→Bool} {l:List PodD} {k:Nat} {z:Int} (h:k<l.length) {q:PodD} (hx:l[k]=q) (hp:idxF f (l.drop k) k=z) :
  (f q=true→z=k)∧(f q=false→idxF f (l.drop (k+1)) ((k+1:Nat):Int)=z):=by
 rw [List.drop_eq_getElem_cons h,hx,idxF] at hp
 constructor
 ·intro e;rw [if_pos e] at hp;exact hp.symm
 ·intro e;rw [if_neg (by rw [e];decide)] at hp;exact hp
theorem idxF_end {f:PodD→Bool} {l:List PodD} {k:Nat} {z:Int} (h:l.length≤k) (hp:idxF f (l.drop k) k=z):z=-1:=by
 rw [List.drop_of_length_le h] at hp
 exact hp.symm
theorem idxF_any {f:PodD→Bool}:∀ (l:List PodD) (k:Int),0≤k→(decide (0≤idxF f l k)=l.any f)
 | [],k,hk=>by simp [idxF]
 | q :: r,k,hk=>by
  cases h:f q with
  | true=>simp [idxF,h,hk]
  | false=>simp only [idxF,h,List.any_cons,Bool.false_or];rw [if_neg (by decide)];exact idxF_any r (k+1) (by omega)
theorem apartFrom_pair {ls:List LoadD} {l:List PodD}:∀ (r:List PodD) (k:Nat),((apartFrom ls l r k).1=0∧apartFrom ls l r k=(0,-1))∨∃ j:Nat,apartFrom ls l r k=(10,(j:Int))
 | [],_=>.inl ⟨rfl,rfl⟩
 | p :: r,k=>by
  unfold apartFrom
  split
  ·exact .inr ⟨k,rfl⟩
  ·exact apartFrom_pair r (k+1)
end Go.Proofs.YthapilknnhlmfaaGreatDoor
