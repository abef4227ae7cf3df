/- Joined texts, part 21: TZ TJ T0 EPR. -/
import Derived.Test.YthapilknnhlmfaaGreatDoorZ20
import Derived.Test.YthapilknnhlmfaaGreatDoorZ03
import Derived.Shelf.SlicesQ.Reverse
import Derived.Test.YthapilknnhlmfaaGreatDoorProg

namespace Go.Proofs.YthapilknnhlmfaaGreatDoor
set_option linter.unusedSimpArgs false
open Go.RowKit
set_option linter.unusedVariables false
section
variable {hb n0:Nat} {a0 a1 a2 a3 a4 a5:Value} {left:Int} {mp:Nat} {V:Nat→Value} {R:Nat→List Nat} {N:Nat} {cut:Bool} {M:Nat→Prop} {w:World}
theorem Ln.setLeft (h:Ln hb n0 a0 a1 a2 a3 a4 a5 left mp V R N cut M w) (l:Int):Ln hb n0 a0 a1 a2 a3 a4 a5 l mp V R N cut M (w.setCell ⟨hb,6,none⟩ (.int .i64 l)):=by
 have hb2:=h.blk.set 6 (.int .i64 l)
 rw [huntL_setLeft] at hb2
 refine ⟨hb2,h.cnt,h.hm,fun r hr=>(h.row r hr).keep fun k cs hk hb'=>hb'.other (p:=⟨hb,6,none⟩) (fun e=>h.off hr hk e.symm) _,h.rm,h.ap,fun k hk=>by simpa using h.lt k hk,by have:=h.n0;simpa using this⟩
end
theorem Rd.hunt {M:Nat→Prop} {w:World} {hb:Nat} {cs:List Value} (h:Bk w hb cs 77) (hm:M hb) (i:Nat) (v:Value):Rd M M w (w.setCell ⟨hb,i,none⟩ v) :=
 ⟨.set _ _ hm,fun _ h=>h,fun _ _ h=>h,fun k cs' hk=>hk.other (p:=⟨hb,i,none⟩) (fun e=>by
  have e':hb=k:=e
  subst e'
  exact absurd (hk.one h).2 (by decide)) v⟩
theorem Hx.left {C:Cx} {E:List Nd} {done:List MoveD} {S:List (StateD × Int)} {lm lg:Int} {V:Nat→Value} {R:Nat→List Nat} {N:Nat} {cut:Bool} {cnt:Nat} {f:Value→Value} {Ps:ByteArray→List PurseD} {M:Nat→Prop} {G:Nat→Nd} {w:World}
  (h:Hx C E done S lm lg V R N cut cnt f Ps M G w) (l:Int):Hx C E done S l lg V R N cut cnt f Ps M G (w.setCell ⟨C.hb,6,none⟩ (.int .i64 l))∧Rd M M w (w.setCell ⟨C.hb,6,none⟩ (.int .i64 l)):=by
 have hr:=Rd.hunt h.ln.blk h.ln.hm 6 (.int .i64 l)
 refine ⟨⟨h.ln.setLeft l,h.mp.keep (fun b cs hk=>hk.other (p:=⟨C.hb,6,none⟩) (fun e=>?_) _) (fun es clock he=>(heap_setCell_other w _ _ _ fun e=>?_).trans he) (by simp),h.gh,fun r hr' b hb=>(h.wt r hr' b hb).turn hr,h.base.trans (hr.but.below h.base.size fun k hk=>(h.ln.lt k hk).1)⟩,hr⟩
 ·have e':C.hb=b:=e
  subst e'
  exact absurd (hk.one h.ln.blk).2 (by decide)
 ·have e':C.hb=C.mp:=e.symm
  have h1:=h.ln.blk
  rw [e'] at h1
  exact h.mp.notBk h1 rfl
theorem Hx.zero {C:Cx} {E:List Nd} {done:List MoveD} {S:List (StateD × Int)} {lm lg:Int} {V:Nat→Value} {R:Nat→List Nat} {N:Nat} {cut:Bool} {cnt:Nat} {f:Value→Value} {Ps:ByteArray→List PurseD} {M:Nat→Prop} {G:Nat→Nd} {w:World}
  (h:Hx C E done S lm lg V R N cut cnt f Ps M G w) {b:Nat} {cs:List Value} (hb:Bk w b cs 115) (hM:M b) (hbR:∀ r,r<77→b ∉ R r) (v0 v1 v2:Value):Hx C E done S lm lg V R N cut cnt f Ps M G (((w.setCell ⟨b,0,none⟩ v0).setCell ⟨b,1,none⟩ v1).setCell ⟨b,2,none⟩ v2):=by
 have hb1:=hb.set 0 v0
 have hb2:=hb1.set 1 v1
 have hb3:=hb2.set 2 v2
 have k1:ButT NodT M w (((w.setCell ⟨b,0,none⟩ v0).setCell ⟨b,1,none⟩ v1).setCell ⟨b,2,none⟩ v2):=((ButT.set (T:=NodT) hb rfl hM 0 v0).trans (M':=M) (ButT.set (T:=NodT) hb1 rfl hM 1 v1) fun _ _ h=>h).trans (M':=M) (ButT.set (T:=NodT) hb2 rfl hM 2 v2) fun _ _ h=>h
 have ho:∀ k cs,k≠b→Bk w k cs 115→Bk (((w.setCell ⟨b,0,none⟩ v0).setCell ⟨b,1,none⟩ v1).setCell ⟨b,2,none⟩ v2) k cs 115:=fun k cs hk hbk=>((hbk.other (p:=⟨b,0,none⟩) (fun e=>hk e.symm) v0).other (p:=⟨b,1,none⟩) (fun e=>hk e.symm) v1).other (p:=⟨b,2,none⟩) (fun e=>hk e.symm) v2
 refine ⟨h.ln.butT k1 (by unfold NodT;decide) (by unfold NodT;decide),h.mp.butT k1 (by unfold NodT;decide),h.gh,fun r hr b' hb'=>?_,h.base.trans (k1.but.below h.base.size fun k hk=>(h.ln.lt k hk).1)⟩
 obtain ⟨⟨A,c,ahead,m,g1,g2,g3⟩,g4,g5⟩:=h.wt r hr b' hb'
 refine ⟨⟨A,c,ahead,m,ho b' _ (fun e=>hbR r hr (by rw [← e];exact hb')) g1,g2.turn k1.but fun _ _ h=>h,g3⟩,g4,g5.stay fun k cs' hk=>?_⟩
 by_cases e:k=b
 ·subst e
  refine ⟨_,hb3,fun j h4 h9=>?_⟩
  rw [(hk.one hb).1,List.getElem?_set,if_neg (by omega),List.getElem?_set,if_neg (by omega),List.getElem?_set,if_neg (by omega)]
 ·exact ⟨cs',ho k cs' e hk,fun _ _ _=>rfl⟩
theorem Hx.args {C:Cx} (hC:C.Ok) {w:World} (hbase:Below C.w0.heap.size C.w0 w) {t:StateD} {A:Option Addr} {c:Nat} (hr:Recs 8 cellsP w w.heap.size A t.pods) (h0:A=none→c=0) (hpc:t.pods.length≤c) (hok:∀ p ∈ t.pods,p.Ok) (hl:t.pods.length=C.s.pods.length) :
  TidyArgs C.s.nodes C.s.loads C.x t C.A1 C.A2 A C.A5 C.s.nodes.length C.s.loads.length t.pods.length c C.x.wants.length w:=by
 have k:=hC.args.at hbase
 exact ⟨⟨k.g,k.ok.1,hok,rfl,by have:=k.s1.2.1;omega,k.r1,rfl,by have:=k.s2.2.1;omega,k.r2,rfl,by have:=k.s3.2.1;omega,hpc,hr⟩,h0,rfl,by have:=k.s5.2.1;omega,k.r5,k.wo⟩
def ExRel (C:Cx) (n:Nd) (b:Nat) (key:Value) (qs:List (MoveD × StateD)) (S:List (StateD × Int)) (lm:Int) (A6:Option Addr) (cnt0:Nat) (i:Value) (wr:World):Prop :=
 ∃ (k:Nat) (V:Nat→Value) (R:Nat→List Nat) (N:Nat) (cut:Bool) (cnt:Nat) (f:Value→Value) (Ps:ByteArray→List PurseD) (M:Nat→Prop) (G:Nat→Nd),k≤qs.length∧i=.int .i64 k ∧
  Hx C [n] ((qs.take k).map (·.1)) (S++(qs.take k).map fun q=>(q.2,n.lf - 1)) lm lm V R N cut cnt f Ps M G wr∧NdAt C.x M wr b key n∧RecM 4 cellsM M wr A6 (qs.map (·.1))∧cnt≤cnt0+2 * k∧∀ r,r<77→b ∉ R r
def ExTo (C:Cx) (S:List (StateD × Int)) (lm:Int) (cnt0:Nat) (e:Ending) (w':World):Prop :=
 (∃ b' path u V R N cut M,e=.returned (ptr19 b')∧Chn w' b' path.reverse∧Way C.s.nodes C.s.loads C.x path (firstD C.s) u∧goalD C.x.wants u.pods=true∧path.length≤C.depth∧C.LnC lm V R N cut M w'∧(N:Int)≤lm∧Below C.w0.heap.size C.w0 w') ∨
 ∃ V R N cut cnt f Ps M G S',e=.returned (.pointer none)∧Hx C [] [] S' lm lm V R N cut cnt f Ps M G w'∧(∀ q ∈ S,q ∈ S')∧cnt≤cnt0+800000

set_option maxHeartbeats 12800000 in
set_option maxRecDepth 100000 in
theorem expand_any {C:Cx} (hC:C.Ok) {n:Nd} {b:Nat} {key:Value} {S:List (StateD × Int)} {lm:Int} {V:Nat→Value} {R:Nat→List Nat} {N:Nat} {cut:Bool} {cnt:Nat} {f:Value→Value} {Ps:ByteArray→List PurseD} {M:Nat→Prop} {G:Nat→Nd} {w:World}
  (h:Hx C [n] [] S lm (lm - 1) V R N cut cnt f Ps M G w) (hb:NdAt C.x M w b key n) (hlf:1≤n.lf) (hlm:1≤lm∧lm≤200000) (hcnt:cnt≤999990000000) (hbR:∀ r,r<77→b ∉ R r) :
  Calls Tryz.prog 50 #[ptr19 C.hb,ptr19 b] w (ExTo C S (lm - 1) cnt):=by
 have hnok:=h.gh.eok n (by simp)
 obtain ⟨T,hT⟩:=tries_ex hC.rises.1 (risesP_ids (way_ids hnok.way) hC.rises.2.1)
 obtain ⟨qs,hqs⟩:∃ qs,qs=allD C.s.nodes C.s.loads C.x n.t T:=⟨_,rfl⟩
 have HQ:Hid (∀ q,q ∈ qs ↔ (doD C.s.nodes C.s.loads C.x n.t q.1).2=0∧q.2=(doD C.s.nodes C.s.loads C.x n.t q.1).1):=fun q=>by rw [hqs];exact all_mem hT
 have HNOK:=Lib.hid hnok
 have HBR:=Lib.hid hbR
 have HND0:Hid ((qs.map (·.1)).Nodup):=by show List.Nodup _;rw [hqs];exact all_nodup hT.2
 have hqlen:qs.length≤400000:=by
  have h1:=all_few (ls:=C.s.loads) (x:=C.x) hT
  rw [← hqs] at h1
  have h2:=hC.rises
  have h3:=hnok.np
  have h4:n.t.pods.length≤12:=by have:=h2.2.2.2.2.2.1;show _≤_;rw [h3];exact this
  have h5:=h2.2.2.2.1
  refine Nat.le_trans h1 ?_
  unfold movesB
  have a1:n.t.pods.length * C.s.nodes.length≤12 * 8:=Nat.mul_le_mul h4 h5
  have a2:n.t.pods.length * n.t.pods.length * C.s.nodes.length≤12 * 12 * 8:=Nat.mul_le_mul (Nat.mul_le_mul h4 h4) h5
  have a3:2 * n.t.pods.length * C.s.nodes.length≤2 * 12 * 8:=Nat.mul_le_mul (Nat.mul_le_mul_left _ h4) h5
  omega
 have hx1:=h.left (lm - 1)
 have hwl:IntKind.i64.wrap (lm - 1)=lm - 1:=IntWalk.i64_in _ (by omega)
 have c6:=h.ln.blk.cell 6 _ rfl
 have f6:=h.ln.blk.frozen 6
 have hb1:=hb.turn hx1.2
 have HX1:=Lib.hid hx1.1
 have HB1:=Lib.hid hb1
 have HC:=Lib.hid hC
 have HQS:=Lib.hid hqs
 have HT:=Lib.hid hT
 clear h hb hx1 hb1 hnok hqs hT hC hbR
 go_enter Tryz.func50,Tryz.ntmps50
 go_upto_region 2 with fail
 generalize w.setCell ⟨C.hb,6,none⟩ (.int .i64 (lm - 1))=W at *
 clear c6 f6
 obtain ⟨A,c,ahead,mv,hB,hrec,h0,hpc⟩:=HB1.out.1
 have HA:=Lib.hid (fun V (hV:Below W.heap.size W V)=>Hx.args HC.out (HX1.out.below hV).base (hrec.below hV).recs h0 hpc HNOK.out.pods HNOK.out.np)
 have s0:=HX1.out.ln.blk.cell 0 _ rfl
 have s1:=HX1.out.ln.blk.cell 1 _ rfl
 have s2:=HX1.out.ln.blk.cell 2 _ rfl
 have s3:=HX1.out.ln.blk.cell 3 _ rfl
 have s4:=HX1.out.ln.blk.cell 4 _ rfl
 have s5:=HX1.out.ln.blk.cell 5 _ rfl
 have hhl:=HX1.out.ln.blk.lt
 have t0:=hB.cell 0 _ rfl
 have t1:=hB.cell 1 _ rfl
 have t2:=hB.cell 2 _ rfl
 have hbl:=hB.lt
 have HMA:Hid (∀ V,Below W.heap.size W V→Calls Tryz.prog 93 #[.agg #[.slice C.A1 C.s.nodes.length C.c1,.slice C.A2 C.s.loads.length C.c2,.slice C.A3 C.s.pods.length C.c3],.agg #[.slice C.A5 C.x.wants.length C.c5,.int .i64 C.x.preempts,.int .i64 C.x.shifts],.agg #[.slice A n.t.pods.length c,.int .i64 n.t.preempts,.int .i64 n.t.shifts]] V fun e w'=>∃ A6 c6,e=.returned (.slice A6 qs.length c6)∧Out 4 cellsM w' (qs.map (·.1)) A6 c6∧(∀ a,A6=some a→V.heap.size≤a.block)∧Below V.heap.size V w'):=fun V hV=>by
  rw [HQS.out]
  exact movesAll_any C.s.nodes C.s.loads C.x n.t T HT.out C.A1 C.A2 C.A3 A C.A5 _ C.c1 _ C.c2 _ C.c3 _ c _ C.c5 V (HA.out V hV)
 have HND:=Lib.hid hB
 have HRC:=Lib.hid hrec
 clear HA hB hrec HQS HT
 go_region_held3 (fun w'=>(∀ b o,b<W.heap.size→w'.cell? ⟨b,o,none⟩=W.cell? ⟨b,o,none⟩)∧Below W.heap.size W w')
  (first | (with_reducible assumption) | (show Keeps W _;with_reducible (repeat (first | exact Keeps.refl _ | assumption | refine Keeps.drew ?_ | refine Keeps.set ?_ (by first | (simp;done) | (simp;omega) | omega) _ | refine Keeps.alloc ?_ _ | refine Keeps.step ?_ (by assumption)))))
  (first
   | (go_at_call 93;refine (HMA.out _ (show Keeps W _ by assumption).2).mono ?_;rintro e w2 ⟨A6,c6,rfl,hO6,hA6,hb2⟩;obtain ⟨hcx,hfx⟩:=old_cells hb2))
 all_goals
  rename_i hK
  have hK2:Below W.heap.size W w2:=hK.2
  have HAT:Hid (ExRel C n b key qs S (lm - 1) A6 cnt (.int .i64 0) w2):=⟨0,V,R,N,cut,cnt,f,Ps,M,G,Nat.zero_le _,rfl,by simpa using HX1.out.below hK2,HB1.out.turn (.of hK2),RecM.new hO6.2.2.2 fun a ha hm=>by
   have h1:=hA6 a ha
   have h2:=(HX1.out.ln.lt _ hm).2
   have h3:W.heap.size≤a.block:=h1
   omega,by omega,HBR.out⟩
  clear hK hcx hfx hb2 hO6 hA6 hK2 HMA HND HRC s0 s1 s2 s3 s4 s5 hhl t0 t1 t2 hbl h0 hpc HX1 HB1
  go_wp2
  go_loopw [31] (ExRel C n b key qs S (lm - 1) A6 cnt) (fun i _=>qs.length - (intOf i).toNat)
  case atStart=>exact HAT.out
  case round =>
   clear HAT
   obtain ⟨k,V,R,N,cut,cn,f,Ps,M,G,hk,rfl,hX,hND,hR6,hcn,hbR⟩:=hrel
   have HBRR:=Lib.hid hbR
   clear hbR
   have HX:=Lib.hid hX
   have HND:=Lib.hid hND
   have HR6:=Lib.hid hR6
   by_cases hlt:k<qs.length
   ·obtain ⟨b6,o6,rfl,hb6,he⟩:=hR6.recs.at (by simpa using hlt)
    rw [List.getElem_map] at he
    have HQK:=Lib.hid ((HQ.out qs[k]).1 (List.getElem_mem hlt))
    have HTK:=Lib.hid (List.take_succ_eq_append_getElem hlt)
    generalize qs[k]=q at *
    obtain ⟨m,u⟩:=q
    have e0:wr.cell? ⟨b6,o6+k * 4,none⟩=some (.int .i64 m.kind):=he 0 _ rfl
    have e1:wr.cell? ⟨b6,o6+k * 4+1,none⟩=some (.int .i64 m.pod):=he 1 _ rfl
    have e2:wr.cell? ⟨b6,o6+k * 4+2,none⟩=some (.int .i64 m.node):=he 2 _ rfl
    have e3:wr.cell? ⟨b6,o6+k * 4+3,none⟩=some (.int .i64 m.over):=he 3 _ rfl
    have ka:Below wr.heap.size wr (wr.alloc (.cells #[.int .i64 m.kind,.int .i64 m.pod,.int .i64 m.node,.int .i64 m.over] 89)):=(Below.refl _ wr).alloc (Nat.le_refl _) _
    have hbm:=Bf.new wr (cellsM m) 89 rfl
    have hsu:wr.heap.size<(wr.alloc (.cells #[.int .i64 m.kind,.int .i64 m.pod,.int .i64 m.node,.int .i64 m.over] 89)).heap.size:=by simp
    clear he hX hND hR6
    go_upto_region 5 with fail
    generalize hU:wr.alloc (.cells #[.int .i64 m.kind,.int .i64 m.pod,.int .i64 m.node,.int .i64 m.over] 89)=U at *
    replace hbm:Bf U wr.heap.size (cellsM m):=by rw [← hU];exact hbm
    clear hU e0 e1 e2 e3
    obtain ⟨A,c,ahead,mv,hB,hrec,h0,hpc⟩:=HND.out.1
    have hXU:=HX.out.below ka
    have hBU:=hB.below ka hB.lt
    have s0:=hXU.ln.blk.cell 0 _ rfl
    have s1:=hXU.ln.blk.cell 1 _ rfl
    have s2:=hXU.ln.blk.cell 2 _ rfl
    have s3:=hXU.ln.blk.cell 3 _ rfl
    have s4:=hXU.ln.blk.cell 4 _ rfl
    have s5:=hXU.ln.blk.cell 5 _ rfl
    have hhl:=hXU.ln.blk.lt
    have t0:=hBU.cell 0 _ rfl
    have t1:=hBU.cell 1 _ rfl
    have t2:=hBU.cell 2 _ rfl
    have hbl:=hBU.lt
    obtain ⟨⟨m0,m1⟩,m2,m3,m4⟩:=hbm.cells4q
    have HMK:Hid (∀ V,Below U.heap.size U V→Calls Tryz.prog 69 #[.agg #[.slice C.A1 C.s.nodes.length C.c1,.slice C.A2 C.s.loads.length C.c2,.slice C.A3 C.s.pods.length C.c3],.agg #[.slice C.A5 C.x.wants.length C.c5,.int .i64 C.x.preempts,.int .i64 C.x.shifts],.agg #[.slice A n.t.pods.length c,.int .i64 n.t.preempts,.int .i64 n.t.shifts],.agg #[.int .i64 m.kind,.int .i64 m.pod,.int .i64 m.node,.int .i64 m.over]] V
      fun e w'=>∃ A7 c7,e=.returned (.tuple #[.agg #[.slice A7 u.pods.length c7,.int .i64 u.preempts,.int .i64 u.shifts],.nilIface])∧Out 8 cellsP w' u.pods A7 c7∧(∀ a,A7=some a→V.heap.size≤a.block)∧Below V.heap.size V w'):=fun V hV=>by
     have kA:=Hx.args HC.out (hXU.below hV).base ((hrec.below ka).below hV).recs h0 hpc HNOK.out.pods HNOK.out.np
     obtain ⟨g1,g2⟩:=HQK.out
     obtain ⟨d1,d2,d3⟩:=do_made g1
     have hm:=make_any C.s.nodes C.x.wants n.t m C.A1 C.A2 C.A3 C.A5 A C.s.nodes.length C.c1 C.s.loads.length C.c2 C.s.pods.length C.c3 C.x.wants.length C.c5 n.t.pods.length c (.int .i64 C.x.preempts) (.int .i64 C.x.shifts) V rfl (by have:=kA.a.l1;omega) kA.a.r1 rfl (by have:=kA.l5;omega) kA.r5 rfl (by have:=kA.a.l4;omega) h0 kA.a.r4
     refine hm.mono ?_
     rintro e w' ⟨v,rfl,A7,c7,rfl,hO,hA,hbb⟩
     rw [d1,← d2,← show u=_ from g2] at *
     exact ⟨A7,c7,rfl,hO,hA,hbb⟩
    have HKA:=Lib.hid ka
    have HBM:=Lib.hid hbm
    generalize hgx:wr.heap.size=gx at *
    have HGX:=Lib.hid hgx
    clear hgx hB hrec hXU hBU hbm
    go_region_held3 (fun w'=>(∀ b o,b<U.heap.size→w'.cell? ⟨b,o,none⟩=U.cell? ⟨b,o,none⟩)∧Below U.heap.size U w')
     (first | (with_reducible assumption) | (show Keeps U _;with_reducible (repeat (first | exact Keeps.refl _ | assumption | refine Keeps.drew ?_ | refine Keeps.set ?_ (by first | (simp;done) | (simp;omega) | omega) _ | refine Keeps.alloc ?_ _ | refine Keeps.step ?_ (by assumption)))))
     (first
      | (go_at_call 69;refine (HMK.out _ (show Keeps U _ by assumption).2).mono ?_;rintro e w6 ⟨A7,c7,rfl,hO7,hA7,hb6'⟩;obtain ⟨hcx,hfx⟩:=old_cells hb6'))
    all_goals
     rename_i hK
     first
     | (have K7:Hid (Below U.heap.size U (w6.alloc (.cells #[.slice A7 u.pods.length c7,.int .i64 u.preempts,.int .i64 u.shifts] 44))):=hK.2
        have BT:Bf (w6.alloc (.cells #[.slice A7 u.pods.length c7,.int .i64 u.preempts,.int .i64 u.shifts] 44)) w6.heap.size [.slice A7 u.pods.length c7,.int .i64 u.preempts,.int .i64 u.shifts]:=Bf.new w6 [.slice A7 u.pods.length c7,.int .i64 u.preempts,.int .i64 u.shifts] 44 rfl
        have RT:Hid (Recs 8 cellsP (w6.alloc (.cells #[.slice A7 u.pods.length c7,.int .i64 u.preempts,.int .i64 u.shifts] 44)) (w6.alloc (.cells #[.slice A7 u.pods.length c7,.int .i64 u.preempts,.int .i64 u.shifts] 44)).heap.size A7 u.pods∧(A7=none→c7=0)∧u.pods.length≤c7∧c7≤maxLen∧∀ a,A7=some a→U.heap.size≤a.block):=⟨(hO7.2.2.2.below ((Below.refl _ w6).alloc (Nat.le_refl _) _) (Nat.le_refl _)).more (by simp),hO7.2.2.1,hO7.1,hO7.2.1,hA7⟩
        clear hK hcx hfx hb6' hO7 hA7
        generalize w6.alloc (.cells #[.slice A7 u.pods.length c7,.int .i64 u.preempts,.int .i64 u.shifts] 44)=w7 at *
        generalize w6.heap.size=gt at *)
     | (have K7:Hid (Below U.heap.size U (((w6.setCell ⟨U.heap.size,0,none⟩ (.slice A7 u.pods.length c7)).setCell ⟨U.heap.size,1,none⟩ (.int .i64 u.preempts)).setCell ⟨U.heap.size,2,none⟩ (.int .i64 u.shifts))):=hK.2
        have BT:Bf (((w6.setCell ⟨U.heap.size,0,none⟩ (.slice A7 u.pods.length c7)).setCell ⟨U.heap.size,1,none⟩ (.int .i64 u.preempts)).setCell ⟨U.heap.size,2,none⟩ (.int .i64 u.shifts)) U.heap.size [.slice A7 u.pods.length c7,.int .i64 u.preempts,.int .i64 u.shifts]:=Bf.laterS ((Bf.new U [.slice none 0 0,.int .i64 0,.int .i64 0] 44 rfl).drew) hb6'
        have hgt:∀ a,A7=some a→U.heap.size+1≤a.block:=fun a ha=>by have:=hA7 a ha;simpa using this
        have RT:Hid (Recs 8 cellsP (((w6.setCell ⟨U.heap.size,0,none⟩ (.slice A7 u.pods.length c7)).setCell ⟨U.heap.size,1,none⟩ (.int .i64 u.preempts)).setCell ⟨U.heap.size,2,none⟩ (.int .i64 u.shifts)) (((w6.setCell ⟨U.heap.size,0,none⟩ (.slice A7 u.pods.length c7)).setCell ⟨U.heap.size,1,none⟩ (.int .i64 u.preempts)).setCell ⟨U.heap.size,2,none⟩ (.int .i64 u.shifts)).heap.size A7 u.pods∧(A7=none→c7=0)∧u.pods.length≤c7∧c7≤maxLen∧∀ a,A7=some a→U.heap.size≤a.block):=by
         have ho:=Out.put3 (g:=U.heap.size) hO7 (fun a ha e=>by have:=hgt a ha;omega) (x:=.slice A7 u.pods.length c7) (y:=.int .i64 u.preempts) (z:=.int .i64 u.shifts)
         exact ⟨ho.2.2.2,ho.2.2.1,ho.1,ho.2.1,fun a ha=>by have:=hgt a ha;omega⟩
        clear hK hcx hfx hb6' hO7 hA7 hgt
        generalize (((w6.setCell ⟨U.heap.size,0,none⟩ (.slice A7 u.pods.length c7)).setCell ⟨U.heap.size,1,none⟩ (.int .i64 u.preempts)).setCell ⟨U.heap.size,2,none⟩ (.int .i64 u.shifts))=w7 at *
        obtain ⟨gt,hgt'⟩:∃ gt,gt=U.heap.size:=⟨_,rfl⟩
        rw [← hgt'] at BT ⊢
        clear hgt')
     have HBT:=Lib.hid BT
     obtain ⟨x0,x1,x2,x3⟩:=BT.cells3
     have k07:Hid (Below wr.heap.size wr w7):=by
      show Below _ _ _
      rw [HGX.out]
      exact HKA.out.trans (K7.out.mono (Nat.le_of_lt hsu))
     have hX7:=HX.out.below k07.out
     have hN7:=HND.out.turn (.of k07.out)
     have hBM7:=HBM.out.below K7.out HBM.out.lt
     obtain ⟨A',c',ahead',mv',hB7,hrec7,-,-⟩:=hN7.1
     have y3:=hX7.ln.blk.cell 3 _ rfl
     have y4:=hX7.ln.blk.cell 4 _ rfl
     have y5:=hX7.ln.blk.cell 5 _ rfl
     have y9:=hB7.cell 9 _ rfl
     dsimp only [purseD] at y9
     have hhl7:=hX7.ln.blk.lt
     have hbl7:=hB7.lt
     have hlw:IntKind.i64.wrap (n.lf - 1)=n.lf - 1:=IntWalk.i64_in _ (by have:=HNOK.out.len;have:=HC.out.d40;omega)
     have hfine:=(do_fine HNOK.out.fine HQK.out.1).1
     rw [← show u=_ from HQK.out.2] at hfine
     have hwd:=way_snoc HNOK.out.way HQK.out.1
     rw [← show u=_ from HQK.out.2] at hwd
     have hud:=do_ok (ns:=C.s.nodes) (ls:=C.s.loads) (fun q hq=>HC.out.args.ok.1 q hq) HC.out.args.wo HNOK.out.pods HQK.out.1
     rw [← show u=_ from HQK.out.2] at hud
     have hupl:u.pods.length=C.s.pods.length:=hud.2.trans HNOK.out.np
     have HNN:Hid (∀ V,Below w7.heap.size w7 V→Calls Tryz.prog 48 #[.agg #[.slice C.A5 C.x.wants.length C.c5,.int .i64 C.x.preempts,.int .i64 C.x.shifts],.agg #[.slice A7 u.pods.length c7,.int .i64 u.preempts,.int .i64 u.shifts],.int .i64 (n.lf - 1)] V (NewTo19 C.x u A7 u.pods.length c7 (n.lf - 1) V)):=fun V hV=>by
      have k:=HC.out.args.at (hX7.below hV).base
      have h12:=HC.out.rises.2.2.2.2.2.1
      have hr4:=HC.out.rises.2.2.2.2.2.2
      refine newNode_any C.x u (n.lf - 1) C.A5 A7 _ C.c5 _ c7 V rfl (by have:=k.s5.2.1;omega) ⟨k.s5.2.2.1,k.s5.2.2.2⟩ k.r5 rfl (by omega) ((RT.out.1.below hV (Nat.le_refl _)).more hV.size) ⟨by omega,by have:=HNOK.out.len;have:=HC.out.d40;omega⟩ hr4 ⟨hfine.p0,by have:=hfine.p1;omega,hfine.s0,by have:=hfine.s1;omega⟩
     have HW7:=Lib.hid (And.intro hX7 (And.intro hN7 (And.intro hBM7 (And.intro hfine (And.intro hwd (And.intro hud.1 hupl))))))
     clear hX7 hN7 hBM7 hB7 hrec7 hfine hwd hud hupl BT s0 s1 s2 s3 s4 s5 hhl t0 t1 t2 hbl m0 m1 m2 m3 m4 h0 hpc HMK
     go_upto_region 6 with fail
     go_region_held3 (fun w'=>(∀ b o,b<w7.heap.size→w'.cell? ⟨b,o,none⟩=w7.cell? ⟨b,o,none⟩)∧Below w7.heap.size w7 w')
      (first | (with_reducible assumption) | (show Keeps w7 _;with_reducible (repeat (first | exact Keeps.refl _ | assumption | refine Keeps.drew ?_ | refine Keeps.set ?_ (by first | (simp;done) | (simp;omega) | omega) _ | refine Keeps.alloc ?_ _ | refine Keeps.step ?_ (by assumption)))))
      (first
       | (go_at_call 48;refine (HNN.out _ (show Keeps w7 _ by assumption).2).mono ?_;rintro e w8 ⟨bn,rfl,hbn,hB8,hb8⟩;obtain ⟨hcx,hfx⟩:=old_cells hb8))
     all_goals
      rename_i hK
      have K78:Hid (Below w7.heap.size w7 w8):=hK.2
      have hbn7:w7.heap.size≤bn:=hbn
      have hm8:=HW7.out.2.2.1.below K78.out HW7.out.2.2.1.lt
      obtain ⟨⟨m0,m1⟩,m2,m3,m4⟩:=hm8.cells4q
      have g4:=hB8.cell 4 _ rfl
      have g5:=hB8.cell 5 _ rfl
      have g6:=hB8.cell 6 _ rfl
      have g7:=hB8.cell 7 _ rfl
      have g8:=hB8.cell 8 _ rfl
      have z4:=hB8.frozen 4
      have z5:=hB8.frozen 5
      have z6:=hB8.frozen 6
      have z7:=hB8.frozen 7
      have z8:=hB8.frozen 8
      have HB8:=Lib.hid hB8
      have HBN:=Lib.hid hbn7
      have hne:gx≠bn:=by have h1:=HBM.out.lt;have h2:=K7.out.size;omega
      have HM8:=Lib.hid hm8
      clear hK hcx hfx hb8 hbn hB8 hbn7 hm8 x0 x1 x2 x3 y3 y4 y5 y9 hhl7 hbl7 HNN
      go_upto_region 7 with fail
      go_region
      all_goals
       have B9:NodeB C.x u (n.lf - 1) bn A7 u.pods.length c7 (.string ⟨#[]⟩) (ptr19 b) m (((((w8.setCell ⟨bn,4,none⟩ (ptr19 b)).setCell ⟨bn,5,none⟩ (.int .i64 m.kind)).setCell ⟨bn,6,none⟩ (.int .i64 m.pod)).setCell ⟨bn,7,none⟩ (.int .i64 m.node)).setCell ⟨bn,8,none⟩ (.int .i64 m.over)).drew:=(((((HB8.out.set 4 _).set 5 _).set 6 _).set 7 _).set 8 _).drew
       have hwb:wr.heap.size≤bn:=Nat.le_trans k07.out.size HBN.out
       have K09:Below wr.heap.size wr (((((w8.setCell ⟨bn,4,none⟩ (ptr19 b)).setCell ⟨bn,5,none⟩ (.int .i64 m.kind)).setCell ⟨bn,6,none⟩ (.int .i64 m.pod)).setCell ⟨bn,7,none⟩ (.int .i64 m.node)).setCell ⟨bn,8,none⟩ (.int .i64 m.over)).drew:=((((((k07.out.trans (K78.out.mono k07.out.size)).setCell (p:=⟨bn,4,none⟩) hwb _).setCell (p:=⟨bn,5,none⟩) hwb _).setCell (p:=⟨bn,6,none⟩) hwb _).setCell (p:=⟨bn,7,none⟩) hwb _).setCell (p:=⟨bn,8,none⟩) hwb _).drew
       have hR9:Recs 8 cellsP w8 w8.heap.size A7 u.pods:=(RT.out.1.below K78.out (Nat.le_refl _)).more K78.out.size
       have hoff:∀ a,A7=some a→a.block≠bn∨u.pods=[]:=fun a ha=>by
        rcases RT.out.1 with h1 | ⟨b1,o1,e1,h2,_⟩
        ·exact .inr h1
        ·rw [e1] at ha;cases ha
         have:=HBN.out
         exact .inl (by dsimp only;omega)
       have hR9':RecM 8 cellsP (fun k=>k=bn) (((((w8.setCell ⟨bn,4,none⟩ (ptr19 b)).setCell ⟨bn,5,none⟩ (.int .i64 m.kind)).setCell ⟨bn,6,none⟩ (.int .i64 m.pod)).setCell ⟨bn,7,none⟩ (.int .i64 m.node)).setCell ⟨bn,8,none⟩ (.int .i64 m.over)).drew A7 u.pods:=by
        by_cases hne0:u.pods=[]
        ·exact ⟨.inl hne0,fun h=>absurd hne0 h⟩
        ·have r8:RecM 8 cellsP (fun k=>k=bn) w8 A7 u.pods:=RecM.new hR9 fun a ha=>(hoff a ha).resolve_right hne0
         exact (((((r8.turn (M':=fun k=>k=bn) (.set _ _ rfl) fun _ _ h=>h).turn (M':=fun k=>k=bn) (.set _ _ rfl) fun _ _ h=>h).turn (M':=fun k=>k=bn) (.set _ _ rfl) fun _ _ h=>h).turn (M':=fun k=>k=bn) (.set _ _ rfl) fun _ _ h=>h).turn (M':=fun k=>k=bn) (.set _ _ rfl) fun _ _ h=>h).below (Below.refl _ _).drew
       generalize (((((w8.setCell ⟨bn,4,none⟩ (ptr19 b)).setCell ⟨bn,5,none⟩ (.int .i64 m.kind)).setCell ⟨bn,6,none⟩ (.int .i64 m.pod)).setCell ⟨bn,7,none⟩ (.int .i64 m.node)).setCell ⟨bn,8,none⟩ (.int .i64 m.over)).drew=W9 at *
       have HB9:=Lib.hid B9
       have HK9:=Lib.hid K09
       have HR9:=Lib.hid hR9'
       have HWB:=Lib.hid hwb
       have d12:=B9.cell 12 _ rfl
       have hbl9:=B9.lt
       have HCH:Hid (Chn W9 bn (n.path++[m]).reverse):=by
        show Chn _ _ _
        rw [List.reverse_append]
        exact ⟨_,b,B9,rfl,fun j v hv=>by
         have hj:j<(cellsM m).length:=(List.getElem?_eq_some_iff.1 hv).1
         have hj4:(cellsM m).length=4:=rfl
         rcases j with _ | _ | _ | _ | j
         ·exact hv
         ·exact hv
         ·exact hv
         ·exact hv
         ·omega,HND.out.2.2.same fun k cs hk=>hk.below K09 hk.lt⟩
       clear B9 K09 hwb hR9 hoff hR9' m0 m1 m2 m3 m4 g4 g5 g6 g7 g8 z4 z5 z6 z7 z8 hne
       have hlpath:=HNOK.out.len
       by_cases hgoal:goalD C.x.wants u.pods=true
       ·rw [unmet_goal.2 hgoal] at d12
        have HGO:=Lib.hid hgoal
        clear hgoal
        go_wp2
        go_ret
        have hX9:=HX.out.below HK9.out
        exact .inl ⟨bn,n.path++[m],u,V,R,N,cut,M,rfl,HCH.out,HW7.out.2.2.2.2.1,HGO.out,by rw [List.length_append,List.length_singleton];omega,hX9.ln,hX9.gh.many,hX9.base⟩
       ·have hgf:goalD C.x.wants u.pods=false:=by simpa using hgoal
        have hun:¬ (((unmetD C.x.wants u.pods:Nat):Int)=0):=fun e=>hgoal (unmet_goal.1 (by omega))
        have hu12:unmetD C.x.wants u.pods≤12:=Nat.le_trans (unmet_le _ _) (fair_wants HC.out.fair)
        have HGF:=Lib.hid hgf
        generalize hum:unmetD C.x.wants u.pods=um at *
        clear hgoal hgf
        go_upto_region 10 with fail
        have hX9:=HX.out.below HK9.out
        have hup:=HW7.out.2.2.2.2.2
        have hl9:∀ j,(M j∨j=bn)→C.w0.heap.size≤j∧j<W9.heap.size:=fun j hj=>by
         have hn0:=HX.out.ln.n0
         rcases hj with hj | rfl
         ·exact hX9.ln.lt j hj
         ·exact ⟨Nat.le_trans hn0 HWB.out,hbl9⟩
        have hrec9:RecM 8 cellsP (fun k=>M k∨k=bn) W9 A7 u.pods:=⟨HR9.out.recs,fun hne a ha=>⟨(HR9.out.off hne a ha).1,fun hm=>by
         rcases hm with hm | hm
         ·have h1:=RT.out.2.2.2.2 a ha
          have h2:=(HX.out.ln.lt _ hm).2
          rw [HGX.out] at h2
          omega
         ·exact (HR9.out.off hne a ha).2 hm⟩⟩
        have hq9:∀ r,r<77→∀ b' ∈ R r,QNode b' W9:=fun r hr b' hb'=>by
         have h1:=hX9.wt r hr b' hb'
         have h2:=(HX.out.gh.ok r hr b' hb').1
         refine Wt.q h1 h2.pods ?_
         have h3:=h2.np
         have h4:=HC.out.rises.2.2.2.2.2.1
         rw [h3]
         show C.s.pods.length≤1000
         omega
        have hmany:=HX.out.gh.many
        have hmt:=meet_any (M:=fun k=>M k∨k=bn) (hX9.ln.more (fun k hk=>.inl hk) hl9) (hX9.mp.more (fun k hk=>.inl hk) hl9) HB9.out (.inr rfl) rfl (by have:=HC.out.rises.2.2.2.2.2.1;have:=hup.2;omega) HR9.out.recs hup.1 ⟨by omega,by have:=HC.out.d40;omega⟩ (by rw [hum];exact hu12) (by omega) (by omega) (by omega) hq9
        have HMT:=Lib.hid hmt
        have HREC:=Lib.hid hrec9
        clear hX9 hl9 hrec9 hq9 hmt d12 hup hum hu12 hun hmany
        go_wp2_with fail
        refine HMT.out.mono ?_
        rintro e w10 hmr
        have hnd:NOk C.s.nodes C.s.loads C.x (firstD C.s) C.depth ⟨u,n.lf - 1,n.path++[m]⟩:=⟨HW7.out.2.2.2.2.1,by show (((n.path++[m]).length:Nat):Int)+(n.lf - 1)=C.depth;rw [List.length_append,List.length_singleton];omega,by show 0≤n.lf - 1;omega,HW7.out.2.2.2.1,HW7.out.2.2.2.2.2.1,HW7.out.2.2.2.2.2.2,HGF.out⟩
        have hnew:∀ X:List (List MoveD),(∀ q ∈ X++([n]++rowsN R G 77).map Nd.path,q=[]∨∃ p m,q=p++[m]∧(p ∈ X∨∃ n' ∈ [n],n'.path=p∧m ∈ (qs.take k).map (·.1)))→(X++([n]++rowsN R G 77).map Nd.path).Nodup→((X.length+[n].length:Nat):Int)=C.steps - (lm - 1) →
          n.path++[m] ∉ X++([n]++rowsN R G 77).map Nd.path∧(n.path++[m]=[]∨∃ p m',n.path++[m]=p++[m']∧(p ∈ X∨∃ n' ∈ [n],n'.path=p∧m' ∈ (qs.take (k+1)).map (·.1))):=fun X h4 hnodup hlenX=>by
         refine ⟨fun hm=>?_,.inr ⟨n.path,m,rfl,.inr ⟨n,by simp,rfl,by rw [HTK.out,List.map_append];simp⟩⟩⟩
         rcases h4 _ hm with e | ⟨p',m',e,hp⟩
         ·simp at e
         ·obtain ⟨e1,e2⟩:=List.append_inj' e (by simp)
          have e3:m=m':=by simpa using e2
          subst e1 e3
          rcases hp with hp | ⟨n',hn',-,hmd⟩
          ·have h5:n.path ∈ ([n]++rowsN R G 77).map Nd.path:=List.mem_map.2 ⟨n,by simp,rfl⟩
           exact (List.nodup_append.1 hnodup).2.2 _ hp _ h5 rfl
          ·have h6:=HND0.out
           have h7:((qs.take (k+1)).map (·.1)).Nodup:=(List.Sublist.map _ (List.take_sublist _ _)).nodup h6
           rw [HTK.out,List.map_append] at h7
           exact (List.nodup_append.1 h7).2.2 _ hmd _ (by simp) rfl
        obtain ⟨rfl,V',R',N',cut',cn',f',Ps',M',hX',hcn',hrd,hall⟩:=Hx.meet (done':=(qs.take (k+1)).map (·.1)) (S':=S++(qs.take (k+1)).map fun q=>(q.2,n.lf - 1)) (path:=n.path++[m]) HC.out HX.out rfl HK9.out HWB.out hbl9 HCH.out HREC.out RT.out.2.1 RT.out.2.2.1 hmr HB9.out hnd hnew (fun q hq=>by rw [HTK.out,List.map_append];exact List.mem_append.2 (.inl hq)) (fun q hq=>by
         rw [HTK.out,List.map_append] at hq
         rcases List.mem_append.1 hq with hq | hq
         ·exact .inl (List.mem_append.2 (.inl hq))
         ·rcases List.mem_append.1 hq with hq | hq
          ·exact .inl (List.mem_append.2 (.inr hq))
          ·exact .inr (by simpa using hq))
        have HX':=Lib.hid (And.intro hX' (And.intro hcn' (And.intro hrd hall)))
        clear hX' hcn' hrd hall hmr hnd hnew hbl9 HMT
        go_wp2
        go_roundw
        case rel =>
         obtain ⟨hX',hcn',hrd,hall⟩:=HX'.out
         refine ⟨k+1,V',R',N',cut',cn',f',Ps',M',_,by omega,by go_num,hX',HND.out.turn hrd,HR6.out.turn hrd.but hrd.old,by omega,fun r hr hm=>?_⟩
         rcases hall r hr b hm with e | ⟨q,hq,hbq⟩
         ·have h1:=HND.out.lt
          have h2:=HWB.out
          omega
         ·exact HBRR.out q hq hbq
        case measure=>simp [intOf];omega
   ·have hkq:k=qs.length:=by omega
    subst hkq
    obtain ⟨A,c,ahead,mv,hB,hrec,h0,hpc⟩:=hND.1
    have g0:=hB.cell 0 _ rfl
    have g1:=hB.cell 1 _ rfl
    have g2:=hB.cell 2 _ rfl
    have z0:=hB.frozen 0
    have z1:=hB.frozen 1
    have z2:=hB.frozen 2
    have hbl:=hB.lt
    have HFIN:Hid (ExTo C S (lm - 1) cnt (.returned (.pointer none)) (((wr.setCell ⟨b,0,none⟩ (.slice none 0 0)).setCell ⟨b,1,none⟩ (.int .i64 0)).setCell ⟨b,2,none⟩ (.int .i64 0))):=by
     have hz:=hX.zero hB hND.2.1 HBRR.out (.slice none 0 0) (.int .i64 0) (.int .i64 0)
     rw [List.take_length] at hz
     refine .inr ⟨V,R,N,cut,cn,f,Ps,M,G,_,rfl,⟨hz.ln,hz.mp,hz.gh.finish fun m hm=>?_,hz.wt,hz.base⟩,fun q hq=>List.mem_append.2 (.inl hq),by omega⟩
     exact List.mem_append.2 (.inr (List.mem_map.2 ⟨(m,(doD C.s.nodes C.s.loads C.x n.t m).1),(HQ.out _).2 ⟨hm,rfl⟩,rfl⟩))
    clear hX hND hR6 hB hrec h0 hpc
    go_wp2
    go_ret
    exact HFIN.out
def FirstTo19 (hb n0:Nat) (a0 a1 a2 a3 a4 a5:Value) (left:Int) (mp:Nat) (R:Nat→List Nat) (N:Nat) (cut:Bool) (M:Nat→Prop) (w:World) (e:Ending) (w':World):Prop :=
 ∃ r b l V',r<77∧R r=b :: l∧e=.returned (ptr19 b)∧Ln hb n0 a0 a1 a2 a3 a4 a5 left mp V' (upd19 R r l) (N - 1) cut M w'∧ButT LineT M w w'
set_option maxHeartbeats 3200000 in
set_option maxRecDepth 100000 in
theorem lineFirst_any {hb n0:Nat} {a0 a1 a2 a3 a4 a5:Value} {left:Int} {mp:Nat} {V:Nat→Value} {R:Nat→List Nat} {N:Nat} {cut:Bool} {M:Nat→Prop} {w:World} (h:Ln hb n0 a0 a1 a2 a3 a4 a5 left mp V R N cut M w) (hs:0<N) (hm:N≤1000000) :
  Calls Tryz.prog 51 #[.pointer (some ⟨hb,8,none⟩)] w (FirstTo19 hb n0 a0 a1 a2 a3 a4 a5 left mp R N cut M w):=by
 have H:=Lib.hid h
 clear h
 go_enter Tryz.func51,Tryz.ntmps51
 go_wp2
 go_loopw [5] (fun i wr=>∃ k:Nat,k≤77∧i=.int .i64 k∧(∀ q,q<k→R q=[])∧wr=w) (fun i _=>77 - (intOf i).toNat)
 case atStart=>exact ⟨0,by omega,rfl,fun q hq=>by omega,rfl⟩
 case round =>
  obtain ⟨k,hk,rfl,hq,rfl⟩:=hrel
  have HQ:=Lib.hid hq
  clear hq
  by_cases hlt:k<77
  ·have e0:=H.out.blk.cell (8+k) _ (huntL_row hlt)
   obtain ⟨A,c,eV,hc1,hc2⟩:=(H.out.row k hlt).slice
   rw [eV] at e0
   have HV:=Lib.hid eV
   clear eV
   cases hR:R k with
   | nil =>
    rw [hR,List.length_nil] at e0
    have HR:=Lib.hid hR
    clear hR hc1 hc2
    go_wp2
    go_roundw
    case rel=>exact ⟨k+1,by omega,by go_num,fun q hq=>by
     by_cases e:q=k
     ·rw [e];exact HR.out
     ·exact HQ.out q (by omega),trivial⟩
    case measure=>simp [intOf];omega
   | cons b l =>
    rw [hR,List.length_cons] at e0
    have hrow:=H.out.row k hlt
    rw [HV.out,hR] at hrow
    obtain ⟨g,o,c',eS,hcs,hc3,hc4⟩:=hrow.cells (by simp)
    injection eS with eA _ eC
    subst eA eC
    obtain ⟨hg0,hf0⟩:=hcs 0 (by simp)
    rw [Nat.add_zero] at hg0 hf0
    rw [List.getElem_cons_zero] at hg0
    have HROW:=Lib.hid hrow
    have HR:=Lib.hid hR
    have hgne:g≠hb:=H.out.off hlt (by rw [HV.out];rfl)
    have e1:(wr.setCell ⟨g,o,none⟩ (.pointer none)).cell? ⟨hb,8+k,none⟩=some (.slice (some ⟨g,o,none⟩) (l.length+1) c):=(World.cell?_setCell_far wr ⟨g,o,none⟩ ⟨hb,8+k,none⟩ _ hgne).trans e0
    have f1:(wr.setCell ⟨g,o,none⟩ (.pointer none)).frozen? ⟨hb,8+k,none⟩=false:=(H.out.blk.other (p:=⟨g,o,none⟩) hgne _).frozen _
    obtain ⟨N0,rfl⟩:∃ N0,N=N0+1:=⟨N - 1,by omega⟩
    have HFIN:Hid (∀ v,PRow (wr.setCell ⟨g,o,none⟩ (.pointer none)) n0 v l→v.ownBlock=some g→Ln hb n0 a0 a1 a2 a3 a4 a5 left mp (upd19 V k v) (upd19 R k l) N0 cut M (((wr.setCell ⟨g,o,none⟩ (.pointer none)).setCell ⟨hb,8+k,none⟩ v).drew.setCell ⟨hb,85,none⟩ (.int .i64 N0))∧ButT LineT M wr (((wr.setCell ⟨g,o,none⟩ (.pointer none)).setCell ⟨hb,8+k,none⟩ v).drew.setCell ⟨hb,85,none⟩ (.int .i64 N0))):=fun v hv hvb=>by
     have hVk:(V k).ownBlock=some g:=by rw [HV.out];rfl
     obtain ⟨cs,hcs'⟩:=(H.out.row k hlt).type g hVk
     refine ⟨Ln.heap (H.out.turn (M':=M) hlt hv (fun i _ hi=>heap_setCell_other wr _ i _ fun e=>hi (by rw [hVk,e])) (by simp) (fun _ h=>h) (fun i hi=>by rw [hvb] at hi;cases hi;exact H.out.rm k hlt _ hVk) (fun i hi=>by simpa using H.out.lt i hi) (.inl (by rw [hvb,hVk])) (by rw [HR.out,List.length_cons];omega)) rfl,?_⟩
     have k1:ButT LineT M wr (wr.setCell ⟨g,o,none⟩ (.pointer none)):=ButT.set hcs' (.inr rfl) (H.out.rm k hlt _ hVk) _ _
     have b1:=H.out.blk.other (p:=⟨g,o,none⟩) hgne (.pointer none)
     have k2:=k1.trans (ButT.set (M:=M) b1 (.inl rfl) H.out.hm (8+k) v) fun _ _ h=>h
     have b2:=b1.set (8+k) v
     exact (k2.trans (ButT.set (M:=M) b2 (.inl rfl) H.out.hm 85 (.int .i64 N0)) fun _ _ h=>h).heap rfl rfl rfl rfl
    have H85:Hid (∀ v,((wr.setCell ⟨g,o,none⟩ (.pointer none)).setCell ⟨hb,8+k,none⟩ v).drew.cell? ⟨hb,85,none⟩=some (.int .i64 (N0+1:Nat))∧((wr.setCell ⟨g,o,none⟩ (.pointer none)).setCell ⟨hb,8+k,none⟩ v).drew.frozen? ⟨hb,85,none⟩=false):=fun v=>by
     have b2:=(H.out.blk.other (p:=⟨g,o,none⟩) hgne (.pointer none)).set (8+k) v
     rw [huntL_setRow hlt] at b2
     exact ⟨b2.cell 85 _ huntL_many,b2.frozen 85⟩
    clear hrow hcs hR hc1 hc2 
    have HT:=Lib.hid fun (A:Addr) hA=>HROW.out.tail (.pointer none) (A:=A) hA
    go_wp2
    generalize hW1:wr.setCell ⟨g,o,none⟩ (.pointer none)=W1 at *
    clear hW1
    have HKL:=Lib.hid (show ∃ b',R k=b' :: l from ⟨b,HR.out⟩)
    by_cases hc1:c=1
    ·subst hc1
     have hl0:l.length=0:=by have:=hc3;rw [List.length_cons] at this;omega
     have HL0:=Lib.hid hl0
     rw [hl0] at e0 e1 ⊢
     go_region
     all_goals
      obtain ⟨x85,y85⟩:=H85.out (.slice (some ⟨g,o,none⟩) 0 0)
      have hfin:=HFIN.out (.slice (some ⟨g,o,none⟩) 0 0) (by have:=HT.out ⟨g,o,none⟩ rfl;rw [HL0.out] at this;exact this) rfl
      have HF:=Lib.hid hfin
      clear hfin
      generalize (W1.setCell ⟨hb,8+k,none⟩ (.slice (some ⟨g,o,none⟩) 0 0)).drew=W2 at *
      clear e0 e1 f1
      go_wp2
      go_ret
      exact ⟨k,b,l,_,hlt,HR.out,rfl,HF.out.1,HF.out.2⟩
    ·have HC:=Lib.hid hc1
     go_region
     all_goals
      obtain ⟨x85,y85⟩:=H85.out (.slice (some ⟨g,o+1,none⟩) l.length (c - 1))
      have hfin:=HFIN.out (.slice (some ⟨g,o+1,none⟩) l.length (c - 1)) (HT.out ⟨g,o+1,none⟩ (by rw [if_neg HC.out])) rfl
      have HF:=Lib.hid hfin
      clear hfin
      generalize (W1.setCell ⟨hb,8+k,none⟩ (.slice (some ⟨g,o+1,none⟩) l.length (c - 1))).drew=W2 at *
      clear e0 e1 f1
      go_wp2
      go_ret
      exact ⟨k,b,l,_,hlt,HR.out,rfl,HF.out.1,HF.out.2⟩
  ·exfalso
   have:sumR R 77=0:=sumR_none fun r hr=>HQ.out r (by omega)
   have:=H.out.cnt
   omega
def FromTo (C:Cx) (e:Ending) (w':World):Prop :=
 ∃ lm V R N cut M,C.LnC lm V R N cut M w'∧0≤lm∧lm≤C.steps∧Below C.w0.heap.size C.w0 w' ∧
  ((∃ b path u,e=.returned (ptr19 b)∧Chn w' b path.reverse∧Way C.s.nodes C.s.loads C.x path (firstD C.s) u∧goalD C.x.wants u.pods=true∧path.length≤C.depth) ∨
   e=.returned (.pointer none)∧((cut=false∧¬ Plan19 C.s.nodes C.s.loads C.x (firstD C.s) C.depth)∨(cut=true∧lm=0∧(C.steps:Int)<C.geo)))
def FrRel (C:Cx) (v:Value) (wr:World):Prop :=
 ∃ (lm:Int) (V:Nat→Value) (R:Nat→List Nat) (N:Nat) (cut:Bool) (cnt:Nat) (f:Value→Value) (Ps:ByteArray→List PurseD) (M:Nat→Prop) (G:Nat→Nd) (S:List (StateD × Int)),
  Hx C [] [] S lm lm V R N cut cnt f Ps M G wr∧(firstD C.s,(C.depth:Int)) ∈ S∧lm≤C.steps∧(cnt:Int)≤1000000 * (C.steps - lm)+2
section
variable {C:Cx} {S:List (StateD × Int)} {lm:Int} {V V':Nat→Value} {R:Nat→List Nat} {N:Nat} {cut:Bool} {cnt:Nat} {f:Value→Value} {Ps:ByteArray→List PurseD} {M:Nat→Prop} {G:Nat→Nd} {w w1:World}
theorem Hx.first (h:Hx C [] [] S lm lm V R N cut cnt f Ps M G w) {r b:Nat} {l:List Nat} (hr:r<77) (hR:R r=b :: l) (hL:C.LnC lm V' (upd19 R r l) (N - 1) cut M w1) (hk:ButT LineT M w w1) :
  Hx C [G b] [] S lm (lm - 1) V' (upd19 R r l) (N - 1) cut cnt f Ps M G w1∧Wt C.x M w1 b (G b)∧1≤(G b).lf∧1≤lm∧∀ q,q<77→b ∉ upd19 R r l q:=by
 obtain ⟨g1,g2,g3⟩:=h.gh.first hr hR
 have rd:Rd M M w w1:=⟨hk.but,fun _ h=>h,fun _ _ h=>h,fun k cs hb=>hk.bk hb (by unfold LineT;decide)⟩
 have hsub:∀ q,q<77→∀ b' ∈ upd19 R r l q,b' ∈ R q:=fun q hq b' hb'=>by
  by_cases e:q=r
  ·rw [e,upd19_same] at hb'
   rw [e,hR];simp [hb']
  ·rw [upd19_other _ _ e] at hb';exact hb'
 have hbR:b ∈ R r:=by rw [hR];simp
 obtain ⟨k1,k2⟩:=h.gh.ok r hr b hbR
 have hm:=h.gh.many
 refine ⟨⟨hL,h.mp.butT hk (by unfold LineT;decide),g1,fun q hq b' hb'=>(h.wt q hq b' (hsub q hq b' hb')).turn rd,h.base.trans (hk.but.below h.base.size fun k hk'=>(h.ln.lt k hk').1)⟩,(h.wt r hr b hbR).turn rd,?_,by omega,g3⟩
 have h2:leastD C.x.wants (G b).t.pods≠0:=fun e=>by
  have:=least_goal.1 e
  rw [k1.not] at this;cases this
 omega
end

set_option maxHeartbeats 12800000 in
set_option maxRecDepth 100000 in
theorem from_any {C:Cx} (hC:C.Ok) {M:Nat→Prop} {G:Nat→Nd} {w:World} (h:Hx C [] [] [] C.steps C.steps (fun _=>.slice none 0 0) (fun _=>[]) 0 false 0 (fun _=>.slice none 0 0) (fun _=>[]) M G w)
  {A:Option Addr} {c:Nat} (hr:RecM 8 cellsP M w A C.s.pods) (h0:A=none→c=0) (hpc:C.s.pods.length≤c) :
  Calls Tryz.prog 23 #[ptr19 C.hb,.agg #[.slice A C.s.pods.length c,.int .i64 0,.int .i64 0],.int .i64 C.depth] w (FromTo C):=by
 have ka:Below w.heap.size w (w.alloc (.cells #[.slice A C.s.pods.length c,.int .i64 0,.int .i64 0] 44)):=(Below.refl _ w).alloc (Nat.le_refl _) _
 have hbx:=Bf.new w [.slice A C.s.pods.length c,.int .i64 0,.int .i64 0] 44 rfl
 have HX:=Lib.hid (h.below ka)
 have HR:=Lib.hid (hr.below ka)
 have HC:=Lib.hid hC
 have HM0:=Lib.hid (fun k (hk:M k)=>(h.ln.lt k hk).2)
 clear h hr hC
 go_enter Tryz.func23,Tryz.ntmps23
 go_upto_region 1 with fail
 generalize hW:w.alloc (.cells #[.slice A C.s.pods.length c,.int .i64 0,.int .i64 0] 44)=W at *
 clear hW
 have s3:=HX.out.ln.blk.cell 3 _ rfl
 have s4:=HX.out.ln.blk.cell 4 _ rfl
 have s5:=HX.out.ln.blk.cell 5 _ rfl
 have hhl:=HX.out.ln.blk.lt
 obtain ⟨x0,x1,x2,x3⟩:=hbx.cells3
 generalize w.heap.size=gx at *
 have HNN:Hid (∀ V,Below W.heap.size W V→Calls Tryz.prog 48 #[.agg #[.slice C.A5 C.x.wants.length C.c5,.int .i64 C.x.preempts,.int .i64 C.x.shifts],.agg #[.slice A C.s.pods.length c,.int .i64 0,.int .i64 0],.int .i64 C.depth] V (NewTo19 C.x (firstD C.s) A C.s.pods.length c C.depth V)):=fun V hV=>by
  have k:=HC.out.args.at (HX.out.below hV).base
  have h12:=HC.out.rises.2.2.2.2.2.1
  have hr4:=HC.out.rises.2.2.2.2.2.2
  have hd:=HC.out.d40
  exact newNode_any C.x (firstD C.s) C.depth C.A5 A _ C.c5 _ c V rfl (by have:=k.s5.2.1;omega) ⟨k.s5.2.2.1,k.s5.2.2.2⟩ k.r5 rfl (by omega) (HR.out.below hV).recs ⟨by omega,by omega⟩ hr4 ⟨by show (0:Int)≤0;omega,by show (0:Int)≤100;omega,by show (0:Int)≤0;omega,by show (0:Int)≤100;omega⟩
 clear hbx
 go_region_held3 (fun w'=>(∀ b o,b<W.heap.size→w'.cell? ⟨b,o,none⟩=W.cell? ⟨b,o,none⟩)∧Below W.heap.size W w')
  (first | (with_reducible assumption) | (show Keeps W _;with_reducible (repeat (first | exact Keeps.refl _ | assumption | refine Keeps.drew ?_ | refine Keeps.set ?_ (by first | (simp;done) | (simp;omega) | omega) _ | refine Keeps.alloc ?_ _ | refine Keeps.step ?_ (by assumption)))))
  (first
   | (go_at_call 48;refine (HNN.out _ (show Keeps W _ by assumption).2).mono ?_;rintro e w2 ⟨bn,rfl,hbn,hB2,hb2⟩;obtain ⟨hcx,hfx⟩:=old_cells hb2))
 all_goals
  rename_i hK
  have K2:Hid (Below W.heap.size W w2):=hK.2
  have HB2:=Lib.hid hB2
  have HBN:Hid (W.heap.size≤bn):=hbn
  have d12:=hB2.cell 12 _ rfl
  have hbl:=hB2.lt
  have HCH:Hid (Chn w2 bn []):=⟨_,hB2,rfl⟩
  have hst:=HC.out.st
  clear hK hcx hfx hb2 hbn hB2 HNN s3 s4 s5 hhl x0 x1 x2 x3
  by_cases hgoal:goalD C.x.wants C.s.pods=true
  ·rw [show unmetD C.x.wants (firstD C.s).pods=0 from unmet_goal.2 hgoal] at d12
   have HGO:=Lib.hid hgoal
   clear hgoal
   go_wp2
   go_ret
   have hX2:=HX.out.below K2.out
   exact ⟨C.steps,_,_,0,false,M,hX2.ln,by omega,Int.le_refl _,hX2.base,.inl ⟨bn,[],firstD C.s,rfl,HCH.out,rfl,HGO.out,Nat.zero_le _⟩⟩
  ·have hgf:goalD C.x.wants (firstD C.s).pods=false:=by
    have h9:goalD C.x.wants C.s.pods=false:=by simpa using hgoal
    exact h9
   have hun:¬ (((unmetD C.x.wants (firstD C.s).pods:Nat):Int)=0):=fun e=>hgoal (unmet_goal.1 (show unmetD C.x.wants (firstD C.s).pods=0 by omega))
   have hu12:unmetD C.x.wants (firstD C.s).pods≤12:=Nat.le_trans (unmet_le _ _) (fair_wants HC.out.fair)
   have hX2:=HX.out.below K2.out
   have hR2:=HR.out.below K2.out
   have hn0:=HX.out.ln.n0
   have hl2:∀ j,(M j∨j=bn)→C.w0.heap.size≤j∧j<w2.heap.size:=fun j hj=>by
    rcases hj with hj | rfl
    ·exact hX2.ln.lt j hj
    ·exact ⟨Nat.le_trans hn0 HBN.out,hbl⟩
   have hrec2:RecM 8 cellsP (fun k=>M k∨k=bn) w2 A C.s.pods:=⟨hR2.recs,fun hne a ha=>⟨(hR2.off hne a ha).1,fun hm=>by
    rcases hm with hm | hm
    ·exact (hR2.off hne a ha).2 hm
    ·have h1:=(HR.out.off hne a ha).1
     have h2:=HBN.out
     omega⟩⟩
   have hr12:=HC.out.rises.2.2.2.2.2.1
   have hd40:=HC.out.d40
   have hmt:=meet_any (M:=fun k=>M k∨k=bn) (lf:=(C.depth:Int)) (t:=firstD C.s) (hX2.ln.more (fun k hk=>.inl hk) hl2) (hX2.mp.more (fun k hk=>.inl hk) hl2) HB2.out (.inr rfl) rfl (by omega) hR2.recs HC.out.args.ok.2.2 ⟨by omega,by omega⟩ hu12 (by omega) ⟨by omega,by omega⟩ (by omega) (fun r hr b' hb'=>by simp at hb')
   have HMT:=Lib.hid hmt
   have HREC:=Lib.hid hrec2
   have HGF:=Lib.hid hgf
   replace HB2:Hid (NodeB C.x (firstD C.s) C.depth bn A C.s.pods.length c (.string ⟨#[]⟩) (.pointer none) noMove w2):=HB2
   generalize hum:unmetD C.x.wants (firstD C.s).pods=um at *
   clear hX2 hR2 hn0 hl2 hrec2 hmt hgoal hgf hu12 hum
   go_wp2_with fail
   refine HMT.out.mono ?_
   rintro e w3 hmr
   have hrs:=HC.out.rises
   have hnd:NOk C.s.nodes C.s.loads C.x (firstD C.s) C.depth ⟨firstD C.s,C.depth,[]⟩:=⟨rfl,by show (((([]:List MoveD)).length:Nat):Int)+(C.depth:Int)=C.depth;simp,by show (0:Int)≤C.depth;omega,⟨by show (0:Int)≤0;omega,hrs.2.2.2.2.2.2.1,by show (0:Int)≤0;omega,hrs.2.2.2.2.2.2.2.2.1,hrs.2.2.2.2.2.2.2.1,hrs.2.2.2.2.2.2.2.2.2⟩,HC.out.args.ok.2.2,rfl,HGF.out⟩
   have hnew:∀ X:List (List MoveD),(∀ q ∈ X++(([]:List Nd)++rowsN (fun _=>[]) G 77).map Nd.path,q=[]∨∃ p m,q=p++[m]∧(p ∈ X∨∃ n' ∈ ([]:List Nd),n'.path=p∧m ∈ ([]:List MoveD)))→(X++(([]:List Nd)++rowsN (fun _=>[]) G 77).map Nd.path).Nodup→((X.length+([]:List Nd).length:Nat):Int)=C.steps - C.steps →
     [] ∉ X++(([]:List Nd)++rowsN (fun _=>[]) G 77).map Nd.path∧(([]:List MoveD)=[]∨∃ p m',([]:List MoveD)=p++[m']∧(p ∈ X∨∃ n' ∈ ([]:List Nd),n'.path=p∧m' ∈ ([]:List MoveD))):=fun X _ _ hlX=>by
    have e:rowsN (fun _=>[]) G 77=([]:List Nd):=List.eq_nil_of_length_eq_zero (by rw [rowsN_len];exact sumR_none fun _ _=>rfl)
    have e2:X=[]:=List.eq_nil_of_length_eq_zero (by simp at hlX;simpa using hlX)
    rw [e,e2]
    exact ⟨by simp,.inl rfl⟩
   obtain ⟨rfl,V',R',N',cut',cn',f',Ps',M',hX',hcn',hrd,-⟩:=Hx.meet (done':=[]) (S':=[(firstD C.s,(C.depth:Int))]) (path:=[]) HC.out HX.out rfl K2.out HBN.out hbl HCH.out HREC.out h0 hpc hmr HB2.out hnd hnew (fun q hq=>hq) (fun q hq=>.inr (by simpa using hq))
   have HAT:Hid (FrRel C undef w3):=⟨_,V',R',N',cut',cn',f',Ps',M',_,_,hX',by simp,Int.le_refl _,by omega⟩
   clear hX' hcn' hrd hmr hnd hnew hrs HMT hun d12 hbl hr12
   go_wp2
   go_loopw [8] (fun v wr=>FrRel C undef wr) (fun _ wr=>(intOf ((wr.cell? ⟨C.hb,6,none⟩).getD undef)).toNat)
   case atStart=>exact HAT.out
   case round =>
    clear HAT
    obtain ⟨lm,V,R,N,cut,cnt,f,Ps,M,G,S,hX,hS,hlm,hcn⟩:=hrel
    have HXR:=Lib.hid hX
    have HSR:=Lib.hid hS
    have d85:=hX.ln.blk.cell 85 _ huntL_many
    have d6:=hX.ln.blk.cell 6 _ rfl
    have hmany:=hX.gh.many
    clear hX hS
    by_cases hN:N=0
    ·subst hN
     have HN0:Hid (¬ ((0:Int)<((0:Nat):Int))):=by show ¬ _;omega
     go_wp2
     go_ret
     have hrs:=HC.out.rises
     refine ⟨lm,V,R,0,cut,M,HXR.out.ln,by omega,hlm,HXR.out.base,.inr ⟨rfl,?_⟩⟩
     exact HXR.out.gh.last hrs.2.2.1 ⟨by show (0:Int)≤0;omega,hrs.2.2.2.2.2.2.1,by show (0:Int)≤0;omega,hrs.2.2.2.2.2.2.2.2.1,hrs.2.2.2.2.2.2.2.1,hrs.2.2.2.2.2.2.2.2.2⟩ HSR.out
    ·have hN0:(0:Int)<(N:Int):=by omega
     have HFI:=Lib.hid (lineFirst_any HXR.out.ln (by omega) (by omega))
     have hmeas:(intOf ((wr.cell? ⟨C.hb,6,none⟩).getD undef)).toNat=lm.toNat:=by rw [d6];rfl
     have HME:=Lib.hid hmeas
     clear hmeas
     go_wp2_with fail
     refine HFI.out.mono ?_
     rintro e w4 ⟨r,b,l,V4,hr7,hRr,rfl,L4,k4⟩
     obtain ⟨hX4,hW4,hlf4,hlm4,hbR4⟩:=HXR.out.first hr7 hRr L4 k4
     have HEX:=Lib.hid (expand_any HC.out hX4 hW4 hlf4 ⟨hlm4,by omega⟩ (by omega) hbR4)
     clear hX4 hW4 hlf4 hbR4 L4 k4 hRr d85 d6 hN HFI
     go_wp2_with fail
     refine HEX.out.mono ?_
     rintro e w5 hex
     rcases hex with ⟨b',path,u,V5,R5,N5,cut5,M5,rfl,h1,h2,h3,h4,h5,h6,h7⟩ | ⟨V5,R5,N5,cut5,cn5,f5,Ps5,M5,G5,S5,rfl,h1,h2,h3⟩
     ·have HFF:=Lib.hid (And.intro h1 (And.intro h2 (And.intro h3 (And.intro h4 (And.intro h5 (And.intro h6 h7))))))
      clear h1 h2 h3 h4 h5 h6 h7 HEX
      go_wp2
      go_ret
      obtain ⟨h1,h2,h3,h4,h5,h6,h7⟩:=HFF.out
      exact ⟨lm - 1,V5,R5,N5,cut5,M5,h5,by omega,by omega,h7,.inl ⟨b',path,u,rfl,h1,h2,h3,h4⟩⟩
     ·have HFF:=Lib.hid (And.intro h1 (And.intro h2 h3))
      clear h1 h2 h3 HEX
      go_wp2
      go_roundw
      case rel =>
       obtain ⟨h1,h2,h3⟩:=HFF.out
       exact ⟨lm - 1,V5,R5,N5,cut5,cn5,f5,Ps5,M5,G5,S5,h1,h2 _ HSR.out,by omega,by omega⟩
      case measure =>
       have d6':=HFF.out.1.ln.blk.cell 6 _ rfl
       have e1:(intOf ((w5.cell? ⟨C.hb,6,none⟩).getD undef)).toNat=(lm - 1).toNat:=by rw [d6'];rfl
       have e2:=HME.out
       omega
end Go.Proofs.YthapilknnhlmfaaGreatDoor
namespace Go.Proofs.YthapilknnhlmfaaGreatDoor
set_option linter.unusedSimpArgs false
open Go.Shelf
def Tryz.laysRevM_ren:Go.Shelf.Ren:=⟨fun | 35=>94 | n=>n,fun | 22=>32 | 23=>89 | 3=>3 | 4=>4 | 0=>0 | n=>n,fun | n=>n⟩
theorem Tryz.laysRevM:Go.Proofs.SlLaysE0.n35 Tryz.prog Tryz.laysRevM_ren:={
 mixed:=by kernel_rfl
 f35:=⟨Tryz.f94.name,by decide,Tryz.func94.trans (congrArg some (by kernel_rfl))⟩
 t0:=Tryz.underlying0
 a0:=Tryz.isAgg0
 z0:=Tryz.sizeOf0
 v0:=Tryz.zeroValue0
 t3:=Tryz.underlying3
 a3:=Tryz.isAgg3
 z3:=Tryz.sizeOf3
 v3:=Tryz.zeroValue3
 t4:=Tryz.underlying4
 a4:=Tryz.isAgg4
 z4:=Tryz.sizeOf4
 v4:=Tryz.zeroValue4
 t22:=Tryz.underlying32
 a22:=Tryz.isAgg32
 z22:=Tryz.sizeOf32
 v22:=Tryz.zeroValue32 }
end Go.Proofs.YthapilknnhlmfaaGreatDoor
