/- Joined texts, part 17: TW. -/
import Derived.Test.YthapilknnhlmfaaGreatDoorZ16

namespace Go.Proofs.YthapilknnhlmfaaGreatDoor
set_option linter.unusedSimpArgs false
open Go.RowKit
set_option linter.unusedVariables false
def MeetT (t:TypeId):Prop:=t=77∨t=78∨t=113∨t=115
theorem i64_zero19:I64 0:=⟨by decide,by decide⟩
abbrev podsOnly (t:StateD):StateD:=⟨t.pods,0,0⟩
theorem key_size {t:StateD} (h:t.Ok) (hl:t.pods.length≤1000):(keyS t).size≤maxLen:=by
 have h1:=encs_len_le (numsT_nums h hl)
 rw [numsT_len] at h1
 have h2:(keyS t).size=(encs (numsT t)).length:=by
  unfold keyS
  generalize encs (numsT t)=q
  simp [strOfNums,ByteArray.size]
 rw [h2]
 unfold maxLen
 omega
def NodT (t:TypeId):Prop:=t=115
section
variable {hb n0:Nat} {a0 a1 a2 a3 a4 a5:Value} {left:Int} {mp:Nat} {V:Nat→Value} {R:Nat→List Nat} {N:Nat} {cut:Bool} {M M':Nat→Prop} {w w':World} {T:TypeId→Prop}
theorem Ln.butT (h:Ln hb n0 a0 a1 a2 a3 a4 a5 left mp V R N cut M w) (k:ButT T M' w w') (h1:¬ T 77) (h2:¬ T 78):Ln hb n0 a0 a1 a2 a3 a4 a5 left mp V R N cut M w' :=
 h.keep (fun b cs t ht hk=>by
  rcases ht with rfl | rfl
  ·exact k.bk hk h1
  ·exact k.bk hk h2) k.but.size
theorem Ln.setCut (h:Ln hb n0 a0 a1 a2 a3 a4 a5 left mp V R N cut M w):Ln hb n0 a0 a1 a2 a3 a4 a5 left mp V R N true M (w.setCell ⟨hb,86,none⟩ (.bool true)):=by
 have hb2:=h.blk.set 86 (.bool true)
 rw [huntL_setCut] at hb2
 refine ⟨hb2,h.cnt,h.hm,fun r hr=>(h.row r hr).keep fun k cs hk hb'=>hb'.other (p:=⟨hb,86,none⟩) (fun e=>h.off hr hk e.symm) _,h.rm,h.ap,fun k hk=>by simpa using h.lt k hk,by have:=h.n0;simpa using this⟩
theorem Ln.fr {mp':Nat} (h:Ln hb n0 a0 a1 a2 a3 a4 a5 left mp V R N cut M w) (k:Fr T mp' M' w w') (h1:¬ T 77) (h2:¬ T 78) (hm:∀ b cs t,Bk w b cs t→b≠mp'):Ln hb n0 a0 a1 a2 a3 a4 a5 left mp V R N cut M w' :=
 h.keep (fun b cs t ht hk=>by
  rcases ht with rfl | rfl
  ·exact k.bk hk h1 (hm _ _ _ hk)
  ·exact k.bk hk h2 (hm _ _ _ hk)) k.but.size
end
inductive MeetR (x:SpecD) (t:StateD) (lf:Int) (b:Nat) (left:Int) (R:Nat→List Nat) (N:Nat) (cut:Bool) (Ps:ByteArray→List PurseD):(Nat→List Nat)→Nat→Bool→(ByteArray→List PurseD)→Prop
 | skip:(cut=true∨lf<leastD x.wants t.pods∨∃ p ∈ Ps (keyS (podsOnly t)),covD p (purseD x t lf)=true)→MeetR x t lf b left R N cut Ps R N cut Ps
 | put (r:Nat):r<77→((leastD x.wants t.pods:Nat):Int)≤lf→(N:Int)+1≤left→MeetR x t lf b left R N cut Ps (upd19 R r (R r++[b])) (N+1) cut (updS Ps (keyS (podsOnly t)) (Ps (keyS (podsOnly t))++[purseD x t lf]))
 | over (r q b':Nat) (l:List Nat) (Ps':ByteArray→List PurseD):r<77→q<77→((leastD x.wants t.pods:Nat):Int)≤lf→left<(N:Int)+1→upd19 R r (R r++[b]) q=l++[b']→MeetR x t lf b left R N cut Ps (upd19 (upd19 R r (R r++[b])) q l) N true Ps'
def QNode (b:Nat) (w:World):Prop:=∃ cs s q,Bk w b cs 115∧cs[3]?=some (.string s)∧s.size≤maxLen∧cs[9]?=some (.int .i64 (PurseD.m q))∧cs[10]?=some (.int .i64 q.s)∧cs[11]?=some (.int .i64 q.p)
abbrev NodeB (x:SpecD) (t:StateD) (lf:Int) (b:Nat) (A:Option Addr) (n c:Nat) (key ahead:Value) (m:MoveD) (w:World):Prop :=
 Bk w b (nodeL (.slice A n c) (.int .i64 t.preempts) (.int .i64 t.shifts) key ahead m (purseD x t lf) (unmetD x.wants t.pods) (leastD x.wants t.pods)) 115
def MeetKey19 (x:SpecD) (t:StateD) (lf:Int) (b:Nat) (A:Option Addr) (n c:Nat) (ahead:Value) (m:MoveD) (hb n0:Nat) (a0 a1 a2 a3 a4 a5:Value) (left:Int) (mp cnt:Nat) (R:Nat→List Nat) (N:Nat) (cut:Bool) (Ps:ByteArray→List PurseD) (M:Nat→Prop) (w w':World):Prop :=
 ∃ V R' N' cut' f Ps' cnt' M',MeetR x t lf b left R N cut Ps R' N' cut' Ps'∧Ln hb n0 a0 a1 a2 a3 a4 a5 left mp V R' N' cut' M' w'∧Mp mp n0 cnt' f Ps' M' w'∧cnt'≤cnt+2∧(∀ k,M k→M' k)∧(∀ k,k<w.heap.size→M' k→M k)∧Fr MeetT mp M w w' ∧
  (∀ k cs,k≠b→Bk w k cs 115→Bk w' k cs 115)∧NodeB x t lf b A n c (.string (keyS (podsOnly t))) ahead m w'
def MeetTo19 (x:SpecD) (t:StateD) (lf:Int) (b:Nat) (A:Option Addr) (n c:Nat) (ahead:Value) (m:MoveD) (hb n0:Nat) (a0 a1 a2 a3 a4 a5:Value) (left:Int) (mp cnt:Nat) (R:Nat→List Nat) (N:Nat) (cut:Bool) (Ps:ByteArray→List PurseD) (M:Nat→Prop) (w:World) (e:Ending) (w':World):Prop :=
 e=.returned (.tuple #[])∧(MeetKey19 x t lf b A n c ahead m hb n0 a0 a1 a2 a3 a4 a5 left mp cnt R N cut Ps M w w'∨(cut=true∨lf<leastD x.wants t.pods)∧Below w.heap.size w w')

section
variable {ops:Array Oper} {o:Oper} {a:Act} {wr:World} {K:Act→World→Prop} {Q:Exit→Act→World→Prop} {E:Prop}
theorem infoPu19:(Tryz.prog.info? 113).map (fun i=>(i.zero,i.size,i.bytes))=some (some (.agg #[.int .i64 0,.int .i64 0,.int .i64 0]),3,24):=by kernel_rfl
theorem step_pu19 (hgd:o.guard=none) (s x:Operand) (ho:o.op=.call { callee:=.builtin .append,args:=#[s,x],argTypes:=#[155,155] })
  (n0:Nat) (v:Value) (ps:List PurseD) (hr:PuRow wr n0 v ps) (hs:a.eval s=v) (p:PurseD) (g0:Nat) (hx:a.eval x=.slice (some ⟨g0,0,none⟩) 1 1) (hc:∀ j u,(cellsPu p)[j]?=some u→wr.cell? ⟨g0,j,none⟩=some u) (hn:n0≤wr.heap.size) (hl:ps.length≤1000000000000)
  {W:World} (hW:Below W.heap.size W wr)
  (h:∀ g cap w',PuRow w' n0 (.slice (some ⟨g,0,none⟩) (ps.length+1) cap) (ps++[p])→(∀ k,k<W.heap.size→v.ownBlock≠some k→w'.heap[k]?=W.heap[k]?)→(w'.os=W.os∧w'.tape=W.tape∧w'.output=W.output∧W.heap.size≤w'.heap.size)→(v.ownBlock=some g∨W.heap.size≤g)→K (a.put o.dst (.slice (some ⟨g,0,none⟩) (ps.length+1) cap)) w') :
  if Region.wanted o (yielded ops a.tmps)=true then Oper.wp Tryz.prog o a wr K Q else E:=by
 have hw:Region.wanted o (yielded ops a.tmps)=true:=by simp [Region.wanted,hgd]
 rw [if_pos hw]
 obtain ⟨i0,hi,hz0,hz1,hz2⟩:=info_of19 infoPu19
 obtain ⟨v',w',hr',h2,h3,h4⟩:=run_append_where (P:=Tryz.prog) wr n0 155 o.type 113 i0 _ 3 24 Tryz.underlying155 hi hz0 hz1 hz2 rfl (by decide) v ps.length (ps.flatMap cellsPu) hr ⟨g0,0,none⟩ 1 1 (cellsPu p) rfl
  (fun j u hu=>by rw [add_zeroQ];exact hc j u hu) (by simp [cellsPu,Value.oneCell']) (by unfold maxLen;omega) (by omega) hn
 obtain ⟨g,cap,rfl⟩:=ownsRow_succ h2
 unfold Oper.wp execOp
 simp only [ho,resolve,invoke,builtin,Sem.run_bind,Sem.run_pure,Result.andThen_ok,List.map_toArray,List.map_cons,List.map_nil,hs,hx,hr']
 refine h g cap w' ?_ (fun k hk hne=>(h3.block k (Nat.lt_of_lt_of_le hk hW.size) (fun e=>hne e.symm)).trans (hW.block k hk)) ⟨h3.os.trans hW.os,h3.tape.trans hW.tape,h3.output.trans hW.output,Nat.le_trans hW.size h3.size⟩ ((h4 g rfl).imp id fun e=>Nat.le_trans hW.size e)
 have e1:(ps++[p]).length=ps.length+1:=by simp
 have e2:(ps++[p]).flatMap cellsPu=ps.flatMap cellsPu++cellsPu p:=by simp
 show World.ownsRow _ _ _ _ _ _ _
 rw [e1,e2]
 exact h2
end
def MeetRel19 (len:Nat) (W:World) (i:Value) (wr:World):Prop:=∃ k:Nat,k≤len∧i=.int .i64 k∧Below W.heap.size W wr
set_option maxHeartbeats 12800000 in
set_option maxRecDepth 100000 in
theorem meet_any {x:SpecD} {t:StateD} {lf:Int} {b:Nat} {A:Option Addr} {n c:Nat} {key ahead:Value} {m:MoveD} {hb n0:Nat} {a0 a1 a2 a3 a4 a5:Value} {left:Int} {mp cnt:Nat} {V:Nat→Value} {R:Nat→List Nat} {N:Nat} {cut:Bool} {f:Value→Value} {Ps:ByteArray→List PurseD} {M:Nat→Prop} {w:World}
  (hL:Ln hb n0 a0 a1 a2 a3 a4 a5 left mp V R N cut M w) (hP:Mp mp n0 cnt f Ps M w) (hB:NodeB x t lf b A n c key ahead m w) (hbM:M b)
  (hn:n=t.pods.length) (hl:n≤400) (hr:Recs 8 cellsP w w.heap.size A t.pods) (hok:∀ p ∈ t.pods,p.Ok) (hlf:0≤lf∧lf≤40) (hu:unmetD x.wants t.pods≤12) (hN:N≤300000) (hleft:0≤left∧left≤300000) (hcnt:cnt≤999999999990) (hQ:∀ r,r<77→∀ b' ∈ R r,QNode b' w) :
  Calls Tryz.prog 49 #[ptr19 hb,ptr19 b] w (MeetTo19 x t lf b A n c ahead m hb n0 a0 a1 a2 a3 a4 a5 left mp cnt R N cut Ps M w):=by
 obtain ⟨um,hum⟩:∃ um,unmetD x.wants t.pods=um:=⟨_,rfl⟩
 obtain ⟨ll,hll⟩:∃ ll,leastD x.wants t.pods=ll:=⟨_,rfl⟩
 obtain ⟨r,hr7⟩:∃ r:Nat,(r:Int)=40 - lf+3 * um:=⟨(40 - lf+3 * um).toNat,by omega⟩
 have hr77:r<77:=by omega
 have HL:=Lib.hid hL
 have HP:=Lib.hid hP
 have HB:=Lib.hid hB
 have HR:=Lib.hid hr
 have HN:=Lib.hid hn
 have HOK:=Lib.hid hok
 have HUM:=Lib.hid hum
 have HQN:=Lib.hid hQ
 have HLL:=Lib.hid hll
 have c9:=hB.cell 9 _ rfl
 have c12:=hB.cell 12 _ rfl
 have c13:=hB.cell 13 _ rfl
 dsimp only [purseD] at c9
 rw [hum] at c12
 rw [hll] at c13
 have hcutc:=hL.blk.cell 86 _ huntL_cut
 have HWL:=Lib.hid (lineWould_any hL b lf um c9 c12 hlf (by omega) r hr7)
 clear hL hP hB hr hn hok hum hll hQ
 go_enter Tryz.func49,Tryz.ntmps49
 go_wp2
 by_cases hll2:lf<(ll:Int)
 ·go_quiet (fail)
  go_wp2
  go_end0
  exact ⟨rfl,.inr ⟨.inr (by rw [HLL.out];exact hll2),Below.drewN19 (Below.refl _ w)⟩⟩
 ·have HLE:=Lib.hid hll2
  go_quiet (fail)
  have hcutw:(w.drewN nq).cell? ⟨hb,86,none⟩=some (.bool cut):=hcutc
  have HW0:Hid (Below w.heap.size w (w.drewN nq)):=Below.drewN19 (Below.refl _ w)
  have HWL0:=Lib.hid (lineWould_any (HL.out.below HW0.out) b lf um c9 c12 hlf (by have:=HUM.out;omega) r hr7)
  generalize w.drewN nq=w0 at *
  clear c9 c12 c13 hcutc HWL hll2
  by_cases hcut:cut=true
  case' pos =>
   rw [hcut] at hcutw
   have HCUT:=Lib.hid hcut
   clear hcut
   go_wp2_with fail
   refine HWL0.out.mono ?_
   rintro e w1 ⟨⟨z,rfl⟩,hb1⟩
   have HW1:Hid (Below w.heap.size w w1):=HW0.out.trans (hb1.mono HW0.out.size)
   clear hb1 hcutw HWL0 HW0
   cases z
   case' true =>
    go_wp2
    go_end0
    exact ⟨rfl,.inr ⟨.inl HCUT.out,HW1.out⟩⟩
   case' false =>
    go_upto_region 2 with fail
  case' neg =>
   have hcf:cut=false:=by simpa using hcut
   rw [hcf] at hcutw
   obtain ⟨w1,rfl⟩:∃ w1,w1=w0:=⟨_,rfl⟩
   have HW1:=HW0
   clear hcut hcf HWL0 HW0
   go_upto_region 2 with fail
  all_goals
   have c0:=(HB.out.below HW1.out HB.out.lt).cell 0 _ rfl
   have HKEY:=Lib.hid (keyOf_any (podsOnly t) A n c w1 ⟨HOK.out,i64_zero19,i64_zero19⟩ HN.out (by omega) ((HR.out.below HW1.out (Nat.le_refl _)).more HW1.out.size))
   go_wp2_with fail
   refine HKEY.out.mono ?_
   rintro e w2 ⟨rfl,hb2⟩
   have HW2:Hid (Below w.heap.size w w2):=HW1.out.trans (hb2.mono HW1.out.size)
   have hb2n:=HB.out.below HW2.out HB.out.lt
   have f3:=hb2n.frozen 3
   have c3:=hb2n.cell 3 _ rfl
   clear hb2 HKEY c0 HW1
   generalize hks:keyS (podsOnly t)=ks at *
   have HKS:=Lib.hid hks
   clear hks
   go_upto_region 3 with fail
   have b3:=hb2n.set 3 (.string ks)
   replace b3:NodeB x t lf b A n c (.string ks) ahead m (w2.setCell ⟨b,3,none⟩ (.string ks)):=b3
   have k3:ButT NodT M w (w2.setCell ⟨b,3,none⟩ (.string ks)):=(ButT.of HW2.out:ButT NodT M w w2).trans (M':=M) (ButT.set (T:=NodT) hb2n rfl hbM 3 _) fun _ _ h=>h
   have o3:∀ k cs,k≠b→Bk w k cs 115→Bk (w2.setCell ⟨b,3,none⟩ (.string ks)) k cs 115:=fun k cs hk hb=>(hb.below HW2.out hb.lt).other (p:=⟨b,3,none⟩) (fun e=>hk e.symm) _
   have L3:=HL.out.butT k3 (by unfold NodT;decide) (by unfold NodT;decide)
   have P3:=HP.out.butT k3 (by unfold NodT;decide)
   have hsz:ks.size≤maxLen:=by rw [← HKS.out];exact key_size ⟨HOK.out,i64_zero19,i64_zero19⟩ (by have:=HN.out;show t.pods.length≤1000;omega)
   obtain ⟨kl,hkl⟩:=key_str19 hsz
   generalize hw3:w2.setCell ⟨b,3,none⟩ (.string ks)=W3 at *
   clear hw3 f3 c3 hb2n HW2
   have hlk:(Instr.lookup 71 (.map (some mp)) (.string ks) false).run Tryz.prog W3.drew=.ok (f (.string ks)) W3.drew:=(P3.below (Below.refl _ W3).drew).tells.lookup strKeyed19 Tryz.underlying71 (zeroPu19 _) hkl
   obtain ⟨A',c',hfv,hpc,hpm,hprec⟩:=(P3.row ks).out
   rw [hfv] at hlk
   have d7:=L3.blk.drew.cell 7 _ rfl
   have d3:=b3.drew.cell 3 _ rfl
   have HB3:=Lib.hid b3
   have HK3:=Lib.hid (And.intro k3 o3)
   have HL3:=Lib.hid L3
   have HP3:=Lib.hid P3
   have HFV:=Lib.hid (And.intro hfv (And.intro hpc hpm))
   have HPR:=Lib.hid hprec
   clear b3 k3 o3 L3 P3 hfv hpc hpm hprec
   go_region
   all_goals
    clear hlk d7 d3
    have HKW:=Lib.hid (show ∀ V,Below W3.heap.size W3 V→Fr MeetT mp M w V∧(∀ k cs,k≠b→Bk w k cs 115→Bk V k cs 115) from fun V hV=>⟨.of ((HK3.out.1.imp (fun t ht=>.inr (.inr (.inr ht))) fun _ _ h=>h).trans (M':=M) (ButT.of hV) fun _ _ h=>h),fun k cs hk hb=>by have:=HK3.out.2 k cs hk hb;exact this.below hV this.lt⟩)
    go_wp2
    go_loopw [47] (MeetRel19 (Ps ks).length W3) (fun i _=>(Ps ks).length - (intOf i).toNat)
    case atStart=>exact ⟨0,Nat.zero_le _,rfl,(Below.refl _ W3).drew⟩
    case round =>
     obtain ⟨k,hk,rfl,hbr⟩:=hrel
     have HBR:=Lib.hid hbr
     have hfk:=HP3.out.few ks
     have hwk:IntKind.i64.wrap ((k:Int)+1)=(k:Int)+1:=IntWalk.i64_in _ (by omega)
     by_cases hlt:k<(Ps ks).length
     ·obtain ⟨b',o,rfl,hb',he⟩:=HPR.out.at hlt
      have HCOV:=Lib.hid (show covD (Ps ks)[k] (purseD x t lf)=true→∃ p ∈ Ps ks,covD p (purseD x t lf)=true from fun h=>⟨_,List.getElem_mem hlt,h⟩)
      generalize (Ps ks)[k]=y at *
      have e0:wr.cell? ⟨b',o+k * 3,none⟩=some (.int .i64 y.m):=(hbr.cell (p:=⟨b',o+k * 3,none⟩) hb').trans (he 0 _ rfl)
      have e1:wr.cell? ⟨b',o+k * 3+1,none⟩=some (.int .i64 y.s):=(hbr.cell (p:=⟨b',o+k * 3+1,none⟩) hb').trans (he 1 _ rfl)
      have e2:wr.cell? ⟨b',o+k * 3+2,none⟩=some (.int .i64 y.p):=(hbr.cell (p:=⟨b',o+k * 3+2,none⟩) hb').trans (he 2 _ rfl)
      have bb:=HB3.out.below hbr HB3.out.lt
      have ka:Below wr.heap.size wr (wr.alloc (.cells #[.int .i64 y.m,.int .i64 y.s,.int .i64 y.p] 113)):=(Below.refl _ wr).alloc (Nat.le_refl _) _
      have HBX:=Lib.hid (Bk.new wr (cellsPu y) 113)
      have HBB:=Lib.hid (bb.below ka bb.lt)
      have HKA:=Lib.hid (hbr.trans (ka.mono hbr.size))
      clear he bb ka hbr
      go_upto_region 6 with fail
      generalize hW:wr.alloc (.cells #[.int .i64 y.m,.int .i64 y.s,.int .i64 y.p] 113)=W at *
      clear hW e0 e1 e2
      have d0:=HBX.out.drew.cell 0 _ rfl
      have d1:=HBX.out.drew.cell 1 _ rfl
      have d2:=HBX.out.drew.cell 2 _ rfl
      have d9:=HBB.out.drew.cell 9 _ rfl
      have d10:=HBB.out.drew.cell 10 _ rfl
      have d11:=HBB.out.drew.cell 11 _ rfl
      have hxlt:=HBX.out.lt
      have hblt:=HBB.out.lt
      generalize wr.heap.size=gx at *
      generalize hpu:purseD x t lf=pu at *
      have HPU:=Lib.hid hpu
      clear hpu
      go_region_held3 (fun w'=>w'.cell? ⟨gx,0,none⟩=some (.int .i64 y.m)∧w'.cell? ⟨gx,1,none⟩=some (.int .i64 y.s)∧w'.cell? ⟨gx,2,none⟩=some (.int .i64 y.p)∧w'.cell? ⟨b,9,none⟩=some (.int .i64 pu.m)∧w'.cell? ⟨b,10,none⟩=some (.int .i64 pu.s)∧w'.cell? ⟨b,11,none⟩=some (.int .i64 pu.p))
       (first | (with_reducible assumption) | ((repeat' apply And.intro) <;> with_reducible assumption))
       (first
        | (go_at_call 89;refine (covers_any19 y pu _).mono ?_;rintro e w5 ⟨rfl,hb5⟩;have x0:=(hb5.cell (p:=⟨gx,0,none⟩) hxlt).trans d0;have x1:=(hb5.cell (p:=⟨gx,1,none⟩) hxlt).trans d1;have x2:=(hb5.cell (p:=⟨gx,2,none⟩) hxlt).trans d2;have x9:=(hb5.cell (p:=⟨b,9,none⟩) hblt).trans d9;have x10:=(hb5.cell (p:=⟨b,10,none⟩) hblt).trans d10;have x11:=(hb5.cell (p:=⟨b,11,none⟩) hblt).trans d11))
      all_goals
       have KV:Hid (Below W3.heap.size W3 w5):=HKA.out.drew.trans (hb5.mono HKA.out.size)
       clear hb5 x0 x1 x2 x9 x10 x11 d0 d1 d2 d9 d10 d11
       cases hcov:covD y pu with
       | true =>
        have HC:=Lib.hid (HCOV.out hcov)
        clear hcov
        go_wp2
        go_end0
        exact ⟨rfl,.inl ⟨V,R,N,cut,f,Ps,cnt,M,.skip (.inr (.inr (by rw [HKS.out,HPU.out];exact HC.out))),HL3.out.below KV.out,HP3.out.below KV.out,by omega,fun _ h=>h,fun _ _ h=>h,(HKW.out _ KV.out).1,(HKW.out _ KV.out).2,by rw [HKS.out];exact HB3.out.below KV.out HB3.out.lt⟩⟩
       | false =>
        clear hcov
        go_wp2
        go_roundw
        case rel=>exact ⟨k+1,by omega,by go_num,KV.out⟩
        case measure=>simp [intOf];omega
     ·clear hbr
      go_upto_region 8 with fail
      have hsz8:=HBR.out.size
      have HL8:=Lib.hid (HL3.out.below HBR.out)
      have HP8:=Lib.hid (HP3.out.below HBR.out)
      have HB8:=Lib.hid (HB3.out.below HBR.out HB3.out.lt)
      obtain ⟨pu,hpu⟩:∃ pu,purseD x t lf=pu:=⟨_,rfl⟩
      have c9:=HB8.out.drew.cell 9 _ rfl
      have c10:=HB8.out.drew.cell 10 _ rfl
      have c11:=HB8.out.drew.cell 11 _ rfl
      rw [hpu] at c9 c10 c11
      have c3:=HB8.out.drew.cell 3 _ rfl
      have c7:=HL8.out.blk.drew.cell 7 _ rfl
      have hlkA:(Instr.lookup 71 (.map (some mp)) (.string ks) false).run Tryz.prog wr.drew=.ok (f (.string ks)) wr.drew:=(HP8.out.below (Below.refl _ wr).drew).tells.lookup strKeyed19 Tryz.underlying71 (zeroPu19 _) hkl
      have hlkB:(Instr.lookup 71 (.map (some mp)) (.string ks) false).run Tryz.prog (wr.alloc (.cells #[.int .i64 pu.m,.int .i64 pu.s,.int .i64 pu.p] 113)).drew=.ok (f (.string ks)) (wr.alloc (.cells #[.int .i64 pu.m,.int .i64 pu.s,.int .i64 pu.p] 113)).drew:=(HP8.out.below ((Below.refl _ wr).alloc (Nat.le_refl _) _).drew).tells.lookup strKeyed19 Tryz.underlying71 (zeroPu19 _) hkl
      have HPU:=Lib.hid hpu
      have hS:∀ V,Below wr.heap.size wr V→(V.cell? ⟨hb,7,none⟩=some (.map (some mp))∧V.cell? ⟨b,3,none⟩=some (.string ks)∧V.cell? ⟨b,9,none⟩=some (.int .i64 pu.m)∧V.cell? ⟨b,10,none⟩=some (.int .i64 pu.s)∧V.cell? ⟨b,11,none⟩=some (.int .i64 pu.p)):=fun V hV=>⟨(HL8.out.blk.below hV HL8.out.blk.lt).cell 7 _ rfl,(HB8.out.below hV HB8.out.lt).cell 3 _ rfl,by rw [← HPU.out];exact (HB8.out.below hV HB8.out.lt).cell 9 _ rfl,by rw [← HPU.out];exact (HB8.out.below hV HB8.out.lt).cell 10 _ rfl,by rw [← HPU.out];exact (HB8.out.below hV HB8.out.lt).cell 11 _ rfl⟩
      have HS:=Lib.hid hS
      have hn08:=HL8.out.n0
      have HFK:=Lib.hid hfk
      have HFK0:=Lib.hid (HP8.out.few ks)
      have hsbk:∀ U:World,Bk U hb (huntL a0 a1 a2 a3 a4 a5 left mp V N cut) 77→NodeB x t lf b A n c (.string ks) ahead m U→(U.cell? ⟨hb,7,none⟩=some (.map (some mp))∧U.cell? ⟨b,3,none⟩=some (.string ks)∧U.cell? ⟨b,9,none⟩=some (.int .i64 pu.m)∧U.cell? ⟨b,10,none⟩=some (.int .i64 pu.s)∧U.cell? ⟨b,11,none⟩=some (.int .i64 pu.p)):=fun U h1 h2=>⟨h1.cell 7 _ rfl,h2.cell 3 _ rfl,by rw [← HPU.out];exact h2.cell 9 _ rfl,by rw [← HPU.out];exact h2.cell 10 _ rfl,by rw [← HPU.out];exact h2.cell 11 _ rfl⟩
      have HARM:Hid (∀ (g8 q8:Nat) (w8:World),PuRow w8 n0 (.slice (some ⟨g8,0,none⟩) ((Ps ks).length+1) q8) (Ps ks++[pu])→(∀ k,k<wr.heap.size→(f (.string ks)).ownBlock≠some k→w8.heap[k]?=wr.heap[k]?)→(w8.os=wr.os∧w8.tape=wr.tape∧w8.output=wr.output∧wr.heap.size≤w8.heap.size)→((f (.string ks)).ownBlock=some g8∨wr.heap.size≤g8) →
        (w8.cell? ⟨hb,7,none⟩=some (.map (some mp))∧w8.cell? ⟨b,3,none⟩=some (.string ks)∧w8.cell? ⟨b,9,none⟩=some (.int .i64 pu.m)∧w8.cell? ⟨b,10,none⟩=some (.int .i64 pu.s)∧w8.cell? ⟨b,11,none⟩=some (.int .i64 pu.p))∧∃ w9 gf,(Instr.mapUpdate 71 (.map (some mp)) (.string ks) (.slice (some ⟨g8,0,none⟩) ((Ps ks).length+1) q8)).run Tryz.prog w8=.ok () w9∧(w9.cell? ⟨hb,7,none⟩=some (.map (some mp))∧w9.cell? ⟨b,3,none⟩=some (.string ks)∧w9.cell? ⟨b,9,none⟩=some (.int .i64 pu.m)∧w9.cell? ⟨b,10,none⟩=some (.int .i64 pu.s)∧w9.cell? ⟨b,11,none⟩=some (.int .i64 pu.p))∧Mp mp n0 (cnt+1) gf (updS Ps ks (Ps ks++[pu])) (Mg M wr w9) w9∧Fr MeetT mp M wr w9∧(∀ k cs t,t≠113→Bk wr k cs t→Bk w9 k cs t)∧wr.heap.size≤w9.heap.size):=by
       intro g8 q8 w8 hrow hgr hsz hwh
       obtain ⟨s1,s2,s3,s4⟩:=hsz
       have kp8:∀ k cs t,t≠113→Bk wr k cs t→Bk w8 k cs t:=fun k cs t ht hk=>(hgr k hk.lt fun e=>by
        obtain ⟨c,hc⟩:=(HP8.out.row ks).type e
        exact ht (hk.one hc).2).trans hk
       have hoff:(f (.string ks)).ownBlock≠some mp:=fun e=>HP8.out.off e rfl
       have ht8:Tells Tryz.prog 9 (.slice none 0 0) mp cnt f w8:=by
        have hlt:=HP8.out.tells.lt
        obtain ⟨es,clock,he,r⟩:=HP8.out.tells
        exact ⟨es,clock,(hgr mp hlt hoff).trans he,r⟩
       obtain ⟨gf,hg1,hg2⟩:=updV_ex f (.string ks) (.slice (some ⟨g8,0,none⟩) ((Ps ks).length+1) q8)
       obtain ⟨w9,hrun,ht9,hgr9⟩:=ht8.store strKeyed19 Tryz.underlying71 (by unfold maxLen;omega) (.slice (some ⟨g8,0,none⟩) ((Ps ks).length+1) q8) hkl hg1 hg2
       have kp9:∀ k cs t,t≠113→Bk wr k cs t→Bk w9 k cs t:=fun k cs t ht hk=>(kp8 k cs t ht hk).grown hgr9 fun e=>HP8.out.notBk hk (by injection e with e;exact e.symm)
       have hs9:wr.heap.size≤w9.heap.size:=Nat.le_trans s4 hgr9.size
       have hlt8:g8<w8.heap.size:=(hrow.lt g8 rfl).2
       refine ⟨hsbk w8 (kp8 _ _ _ (by decide) HL8.out.blk) (kp8 _ _ _ (by decide) HB8.out),w9,gf,hrun,hsbk w9 (kp9 _ _ _ (by decide) HL8.out.blk) (kp9 _ _ _ (by decide) HB8.out),?_,?_,kp9,hs9⟩
       ·refine HP8.out.turn (w1:=w8) hrow hgr s4 ht9 hgr9 (fun k hk=>.inl hk) (fun k hk=>?_) (fun k hk=>?_) (hwh.imp (fun e=>e.symm) fun e k hk=>by cases hk;exact e) hg1 hg2 (by rw [List.length_append];have:=HFK0.out;simp;omega)
        ·cases hk
         rcases hwh with e | e
         ·exact .inl (HP8.out.rm ks _ e)
         ·exact .inr ⟨e,Nat.lt_of_lt_of_le hlt8 hgr9.size⟩
        ·rcases hk with hk | hk
         ·have:=HP8.out.lt k hk;exact ⟨this.1,by omega⟩
         ·exact ⟨by omega,hk.2⟩
       ·have f1:Fr MeetT mp M wr w8:=⟨⟨s1,s2,s3,s4,fun k hk hn=>hgr k hk fun e=>hn (HP8.out.rm ks k e)⟩,fun k hk _ hn=>hgr k hk fun e=>by
         obtain ⟨c,hc⟩:=(HP8.out.row ks).type e
         exact hn c _ (.inr (.inr (.inl rfl))) hc⟩
        exact f1.trans (Fr.map hgr9 HP8.out.hm) fun _ _ h=>h
      clear hS hpu hfk hwk hsbk
      go_region_held3 (fun w'=>w'.cell? ⟨hb,7,none⟩=some (.map (some mp))∧w'.cell? ⟨b,3,none⟩=some (.string ks)∧w'.cell? ⟨b,9,none⟩=some (.int .i64 pu.m)∧w'.cell? ⟨b,10,none⟩=some (.int .i64 pu.s)∧w'.cell? ⟨b,11,none⟩=some (.int .i64 pu.p))
       (first | (with_reducible assumption) | ((repeat' apply And.intro) <;> with_reducible assumption) | (refine HS.out _ ?_;with_reducible (repeat (first | exact Below.refl _ _ | refine Below.drew ?_ | refine Below.alloc ?_ (Nat.le_refl _) _))))
       (first
        | (refine step_pu19 rfl (.tmp 74) (.tmp 79) rfl n0 (f (.string ks)) (Ps ks) (by first | exact (HP8.out.below ((Below.refl _ wr).drew.alloc (Nat.le_refl _) _)).row ks) rfl pu _ rfl (by exact fun j u hu=>(Bk.new _ (cellsPu pu) 113).cell j u hu) (by simp;omega) (by have:=HFK.out;omega) (W:=wr) (by with_reducible (repeat (first | exact Below.refl _ _ | refine Below.drew ?_ | refine Below.alloc ?_ (Nat.le_refl _) _))) ?_;intro g8 q8 w8 hrow8 hgr8 hsz8' hwh8;obtain ⟨k8,w9,gf,hrun9,k9,hrest⟩:=HARM.out g8 q8 w8 hrow8 hgr8 hsz8' hwh8;have HR9:=Lib.hid hrest;clear hrest hrow8 hgr8 hsz8' hwh8))
      all_goals
       obtain ⟨hM9,hF9,hkp9,hs9⟩:=HR9.out
       have L9:=(HL8.out.keep (w':=w9) (fun k cs t ht hk=>hkp9 k cs t (by rcases ht with rfl | rfl <;> decide) hk) hs9).more (M':=Mg M wr w9) (fun k hk=>.inl hk) hM9.lt
       have B9:=hkp9 _ _ _ (by decide) HB8.out
       have hLW:w.heap.size≤wr.heap.size:=(HKW.out wr HBR.out).1.but.size
       have HNO9:=Lib.hid (show ∀ k cs,k≠b→Bk w k cs 115→Bk w9 k cs 115 from fun k cs hk hb=>hkp9 _ _ _ (by decide) ((HKW.out wr HBR.out).2 k cs hk hb))
       have HF9:=Lib.hid (show Fr MeetT mp M w w9 from (HKW.out wr HBR.out).1.trans hF9 fun _ _ h=>h)
       have x9:=B9.cell 9 _ rfl
       have x12:=B9.cell 12 _ rfl
       dsimp only [purseD] at x9
       rw [HUM.out] at x12
       have HPUT:=Lib.hid (linePut_any L9 (by omega) b lf um x9 x12 hlf (by have:=HUM.out;omega) r hr7)
       have HL9:=Lib.hid L9
       have HB9:=Lib.hid B9
       have HM9:=Lib.hid hM9
       clear hM9 hF9 hkp9 L9 B9 x9 x12 HR9 hlkA hlkB c9 c10 c11 c3 c7 k8 k9 hrun9 HARM HS
       go_wp2_with fail
       refine HPUT.out.mono ?_
       rintro e w10 ⟨V2,rfl,L10,k10⟩
       have hMb:∀ k,k<w.heap.size→Mg M wr w9 k→M k:=fun k hk hm=>hm.resolve_right (by omega)
       have hMc:∀ k,k<w.heap.size→Mg (Mg M wr w9) w9 w10 k→M k:=fun k hk hm=>hMb k hk (hm.resolve_right (by omega))
       have P10:=(HM9.out.butT k10 (by unfold LineT;decide)).more (M':=Mg (Mg M wr w9) w9 w10) (fun k hk=>.inl hk) L10.lt
       have B10:=k10.bk HB9.out (by unfold LineT;decide)
       have F10:Fr MeetT mp M w w10:=HF9.out.trans (.of (k10.imp (fun t ht=>by rcases ht with rfl | rfl;exact .inl rfl;exact .inr (.inl rfl)) fun _ _ h=>h)) hMb
       have NO10:∀ k cs,k≠b→Bk w k cs 115→Bk w10 k cs 115:=fun k cs hk hb=>k10.bk (HNO9.out k cs hk hb) (by unfold LineT;decide)
       have d85:=L10.blk.cell 85 _ huntL_many
       have d6:=L10.blk.cell 6 _ rfl
       have HL10:=Lib.hid L10
       have HP10:=Lib.hid P10
       have HB10:=Lib.hid B10
       have HF10:=Lib.hid (And.intro F10 NO10)
       have HMC:=Lib.hid hMc
       clear L10 k10 hMb hMc P10 B10 F10 NO10 HPUT
       go_upto_region 10 with fail
       have hcast:((N+1:Nat):Int)=(N:Int)+1:=by omega
       rw [hcast] at d85
       by_cases hov:left<(N:Int)+1
       ·have HOV:=Lib.hid hov
        go_quiet (fail)
        have L11:Ln hb n0 a0 a1 a2 a3 a4 a5 left mp V2 (upd19 R r (R r++[b])) (N+1) cut (Mg (Mg M wr w9) w9 w10) (w10.drewN nq):=Ln.heap HL10.out rfl
        have f86:=L11.blk.frozen 86
        have c86:=L11.blk.cell 86 _ huntL_cut
        have L12:=L11.setCut
        have k12:ButT LineT (Mg (Mg M wr w9) w9 w10) w10 ((w10.drewN nq).setCell ⟨hb,86,none⟩ (.bool true)):=((ButT.refl LineT (Mg (Mg M wr w9) w9 w10) w10).drewN nq).trans (ButT.set (T:=LineT) (M:=Mg (Mg M wr w9) w9 w10) L11.blk (.inl rfl) L11.hm 86 _) fun _ _ h=>h
        have HL12:=Lib.hid L12
        have HK12:=Lib.hid k12
        clear L11 L12 k12 hov
        go_upto_region 12 with fail
        generalize (w10.drewN nq).setCell ⟨hb,86,none⟩ (.bool true)=w12 at *
        clear f86 c86 d85 d6 hcast
        have HLAST:=Lib.hid (lineLast_any HL12.out (by omega) (by omega))
        go_wp2_with fail
        refine HLAST.out.mono ?_
        rintro e w13 ⟨q,b',l,V3,hq7,hRq,rfl,L13,k13⟩
        have K13:ButT LineT (Mg (Mg M wr w9) w9 w10) w10 w13:=HK12.out.trans k13 fun _ _ h=>h
        have P13:=HP10.out.butT K13 (by unfold LineT;decide)
        have B13:=K13.bk HB10.out (by unfold LineT;decide)
        have NO13:∀ k cs,k≠b→Bk w k cs 115→Bk w13 k cs 115:=fun k cs hk hb=>K13.bk (HF10.out.2 k cs hk hb) (by unfold LineT;decide)
        have F13:Fr MeetT mp M w w13:=HF10.out.1.trans (.of (K13.imp (fun t ht=>by rcases ht with rfl | rfl;exact .inl rfl;exact .inr (.inl rfl)) fun _ _ h=>h)) HMC.out
        have hq13:QNode b' w13:=by
         by_cases e:b'=b
         ·rw [e]
          exact ⟨_,ks,purseD x t lf,B13,rfl,hsz,rfl,rfl,rfl⟩
         ·have hmem:b' ∈ R q:=by
           by_cases e2:q=r
           ·rw [e2,upd19_same] at hRq
            have:=(List.append_inj' hRq (by simp)).2
            exact absurd (by injection this with h1 _;exact h1.symm) e
           ·rw [upd19_other _ _ e2] at hRq
            rw [hRq];simp
          obtain ⟨cs,s,qq,h1,h2⟩:=HQN.out q hq7 b' hmem
          exact ⟨cs,s,qq,NO13 b' cs e h1,h2⟩
        obtain ⟨cs',s',qq,hn13,q3,qs,q9,q10,q11⟩:=hq13
        have HFG:=Lib.hid (forget_any P13 (by unfold maxLen;omega) L13.blk rfl b' s' qq hn13 q3 q9 q10 q11 qs (by omega))
        have H13:=Lib.hid (And.intro L13 (And.intro P13 (And.intro B13 (And.intro NO13 (And.intro F13 (And.intro hq7 hRq))))))
        clear L13 P13 B13 NO13 F13 hq7 hRq K13 k13 hn13 q3 qs q9 q10 q11
        go_wp2_with fail
        refine HFG.out.mono ?_
        rintro e w14 ⟨f14,Ps14,rfl,P14,F14⟩
        obtain ⟨L13,P13,B13,NO13,F13,hq7,hRq⟩:=H13.out
        have HFIN:Hid (MeetTo19 x t lf b A n c ahead m hb n0 a0 a1 a2 a3 a4 a5 left mp cnt R N cut Ps M w (.returned (.tuple #[])) w14) :=
         ⟨rfl,.inl ⟨V3,_,N,true,f14,Ps14,cnt+1+1,_,.over r q b' l Ps14 hr77 hq7 (by rw [HLL.out];have:=HLE.out;omega) HOV.out hRq,L13.fr F14 (by unfold PurT;decide) (by unfold PurT;decide) (fun _ _ _ h=>P13.notBk h),P14,by omega,fun k hk=>.inl (.inl hk),HMC.out,F13.trans (F14.imp (fun t ht=>.inr (.inr (.inl ht))) fun _ _ h=>h) HMC.out,fun k cs hk hb=>F14.bk (NO13 k cs hk hb) (by unfold PurT;decide) (P13.notBk (NO13 k cs hk hb)),by rw [HKS.out];exact F14.bk B13 (by unfold PurT;decide) (P13.notBk B13)⟩⟩
        clear L13 P13 B13 NO13 F13 hq7 hRq P14 F14
        go_wp2
        go_end0
        exact HFIN.out
       ·have HOV:=Lib.hid hov
        go_quiet (fail)
        go_wp2
        go_end0
        exact ⟨rfl,.inl ⟨V2,_,_,cut,_,_,cnt+1,_,.put r hr77 (by rw [HLL.out];have:=HLE.out;omega) (by have:=HOV.out;omega),Ln.heap HL10.out rfl,by rw [HKS.out,HPU.out];exact HP10.out.below (Below.drewN19 (Below.refl _ w10)),by omega,fun k hk=>.inl (.inl hk),HMC.out,HF10.out.1.trans (Fr.below (Below.drewN19 (Below.refl _ w10))) (M':=M) fun _ _ h=>h,HF10.out.2,by rw [HKS.out];exact HB10.out⟩⟩
end Go.Proofs.YthapilknnhlmfaaGreatDoor
