/- Joined texts, part 23: T7. -/
import Derived.Test.YthapilknnhlmfaaGreatDoorZ22
import Derived.Test.YthapilknnhlmfaaGreatDoorZ01
import Derived.Test.YthapilknnhlmfaaGreatDoorZ06

namespace Go.Proofs.YthapilknnhlmfaaGreatDoor
set_option linter.unusedSimpArgs false
open Go.RowKit
set_option linter.unusedVariables false
def smallP (n1 n2 n3 n5:Nat) (depth steps:Int):Prop:=(n1≤40∧n2≤40∧n3≤40)∧n5≤40∧n1≤4∧n3≤5∧(depth≤5∨40<depth)∧(steps≤3000∨200000<steps)
set_option maxHeartbeats 6400000 in
set_option maxRecDepth 100000 in
theorem small_any (A1 A2 A3 A5:Option Addr) (n1 c1 n2 c2 n3 c3 n5 c5:Nat) (v1 v2:Value) (depth steps:Int) (w:World) :
  Calls Tryz.prog 7 #[.agg #[.slice A1 n1 c1,.slice A2 n2 c2,.slice A3 n3 c3],.agg #[.slice A5 n5 c5,v1,v2],.int .i64 depth,.int .i64 steps] w fun e w'=>(∃ b,e=.returned (.bool b)∧(b=true→smallP n1 n2 n3 n5 depth steps))∧Below w.heap.size w w':=by
 have T0:=T2.new w [.slice A1 n1 c1,.slice A2 n2 c2,.slice A3 n3 c3] [.slice A5 n5 c5,v1,v2] 26 29
 have HT0:=Lib.hid T0
 clear T0
 go_enter Tryz.func7,Tryz.ntmps7
 go_wp2_with fail
 refine (few_any _ _ _ _ _ _ _ _ _ _).mono ?_
 rintro e w2 ⟨rfl,hb2⟩
 have T2':=HT0.out.keep hb2
 have HK2:=Lib.hid T2'.below
 clear hb2 HT0
 obtain ⟨a0,a1,a2,a3⟩:=T2'.one.cells3
 obtain ⟨b0,b1,b2,b3⟩:=T2'.two.cells3
 clear T2'
 by_cases q0:n1≤40∧n2≤40∧n3≤40
 case neg =>
  rw [decide_eq_false q0]
  clear q0
  go_wp2
  go_ret
  exact ⟨⟨_,rfl,fun h=>by simp at h⟩,HK2.out⟩
 rw [decide_eq_true q0]
 have Q0:=Lib.hid q0
 clear q0
 by_cases q1:(n5:Int)≤40
 case neg =>
  have e1:decide ((n5:Int)≤40)=false:=decide_eq_false q1
  clear q1
  go_wp2
  go_ret
  exact ⟨⟨_,rfl,fun h=>by simp at h⟩,HK2.out⟩
 have e1:decide ((n5:Int)≤40)=true:=decide_eq_true q1
 have Q1:=Lib.hid q1
 clear q1
 by_cases q2:(n1:Int)≤4
 case neg =>
  have e2:decide ((n1:Int)≤4)=false:=decide_eq_false q2
  clear q2
  go_wp2
  go_ret
  exact ⟨⟨_,rfl,fun h=>by simp at h⟩,HK2.out⟩
 have e2:decide ((n1:Int)≤4)=true:=decide_eq_true q2
 have Q2:=Lib.hid q2
 clear q2
 by_cases q3:(n3:Int)≤5
 case neg =>
  have e3:decide ((n3:Int)≤5)=false:=decide_eq_false q3
  clear q3
  go_wp2
  go_ret
  exact ⟨⟨_,rfl,fun h=>by simp at h⟩,HK2.out⟩
 have e3:decide ((n3:Int)≤5)=true:=decide_eq_true q3
 have Q3:=Lib.hid q3
 clear q3
 have hD:(decide (depth≤5)=true∧Hid (depth≤5∨40<depth))∨(decide (depth≤5)=false∧decide (40<depth)=true∧Hid (depth≤5∨40<depth))∨(decide (depth≤5)=false∧decide (40<depth)=false):=by
  by_cases q4:depth≤5
  ·exact .inl ⟨decide_eq_true q4,Lib.hid (.inl q4)⟩
  ·by_cases q5:40<depth
   ·exact .inr (.inl ⟨decide_eq_false q4,decide_eq_true q5,Lib.hid (.inr q5)⟩)
   ·exact .inr (.inr ⟨decide_eq_false q4,decide_eq_false q5⟩)
 have hS:(decide (steps≤3000)=true∧Hid (steps≤3000∨200000<steps))∨(decide (steps≤3000)=false∧decide (200000<steps)=true∧Hid (steps≤3000∨200000<steps))∨(decide (steps≤3000)=false∧decide (200000<steps)=false):=by
  by_cases q4:steps≤3000
  ·exact .inl ⟨decide_eq_true q4,Lib.hid (.inl q4)⟩
  ·by_cases q5:200000<steps
   ·exact .inr (.inl ⟨decide_eq_false q4,decide_eq_true q5,Lib.hid (.inr q5)⟩)
   ·exact .inr (.inr ⟨decide_eq_false q4,decide_eq_false q5⟩)
 rcases hD with ⟨f1,HD⟩ | ⟨f1,f2,HD⟩ | ⟨f1,f2⟩
 case inr.inr =>
  clear hS
  go_wp2
  go_ret
  exact ⟨⟨_,rfl,fun h=>by simp at h⟩,HK2.out⟩
 all_goals rcases hS with ⟨g1,HS⟩ | ⟨g1,g2,HS⟩ | ⟨g1,g2⟩
 all_goals go_wp2
 all_goals go_ret
 all_goals first
  | exact ⟨⟨false,rfl,fun h=>by cases h⟩,HK2.out⟩
  | exact ⟨⟨true,rfl,fun _=>⟨Q0.out,by have:=Q1.out;omega,by have:=Q2.out;omega,by have:=Q3.out;omega,HD.out,HS.out⟩⟩,HK2.out⟩
def PlanFor (s:SnapD) (x:SpecD) (depth:Int) (w:World) (e:Ending) (w':World):Prop :=
 ∃ (k:Int) (A:Option Addr) (n c:Nat) (st:Int) (u:Value),e=.returned (.tuple #[verdV k A n c st,u])∧Below w.heap.size w w'∧((fair s x).1=0→codeS s.nodes s.loads x (firstD s)=0→Plan19 s.nodes s.loads x (firstD s) depth.toNat→u=.nilIface∧((k=1∧(n:Int)≤depth)∨k=3))
theorem PlanTo.for {s:SnapD} {x:SpecD} {depth steps:Int} {w w':World} {e:Ending} (h:PlanTo s x depth steps w e w') (hin:InR19 depth steps):PlanFor s x depth w e w':=by
 obtain ⟨v,u,he,hb,h⟩:=h
 rcases h with ⟨h0,rfl,_⟩ | ⟨_,h,_⟩ | ⟨_,_,rfl,⟨h0,rfl⟩ | ⟨_,took,_,_,⟨A,c,path,t,rfl,_,_,_,_,hl⟩ | ⟨rfl,hn⟩ | ⟨rfl,_⟩⟩⟩
 ·exact ⟨_,_,_,_,_,_,he,hb,fun h=>absurd h h0⟩
 ·exact absurd hin h
 ·exact ⟨_,_,_,_,_,_,he,hb,fun _ h=>absurd h h0⟩
 ·exact ⟨_,_,_,_,_,_,he,hb,fun _ _ _=>⟨rfl,.inl ⟨rfl,hl⟩⟩⟩
 ·exact ⟨_,_,_,_,_,_,he,hb,fun _ _ h=>absurd h hn⟩
 ·exact ⟨_,_,_,_,_,_,he,hb,fun _ _ _=>⟨rfl,.inr rfl⟩⟩
theorem walk_cases {s:SnapD} {x:SpecD} {l:List MoveD} {B:Nat} {w:World} {u:Value} (hu:ErrIs (walkD s x l).2.2 B w u) :
  (∃ t v,u=.iface t v)∨(u=.nilIface∧(fair s x).1=0∧codeS s.nodes s.loads x (firstD s)=0∧Way s.nodes s.loads x l (firstD s) (walkD s x l).1∧(walkD s x l).2.1=l.length):=by
 cases hok:okP (walkD s x l).2.2 with
 | false=>exact .inl (errIs_iface hu hok)
 | true =>
  have hn:=hu.nil hok
  have he:=okP_true hok
  refine .inr ⟨hn,?_⟩
  by_cases h0:(fair s x).1=0
  ·by_cases h2:codeS s.nodes s.loads x (firstD s)=0
   ·rw [walkD_yes h0 h2] at he ⊢
    simp only [Prod.mk.injEq] at he
    have hv:=(walk_vals (ns:=s.nodes) (ls:=s.loads) (x:=x) l 0 (firstD s)).2.2.2.2.1 he.1
    refine ⟨h0,h2,?_,by show (walkK s.nodes s.loads x l 0 (firstD s)).2.1=l.length;rw [hv];omega⟩
    refine (way_walk (k:=0)).2 ?_
    show walkK s.nodes s.loads x l 0 (firstD s)=((walkK s.nodes s.loads x l 0 (firstD s)).1,0+l.length,0)
    rw [← hv,← he.1]
   ·rw [walkD_no2 h0 h2] at he
    simp only [Prod.mk.injEq] at he
    exact absurd he.1 h2
  ·rw [walkD_no1 h0] at he
   have he':fair s x=(0,-1):=he
   rw [he'] at h0
   exact absurd rfl h0

set_option maxHeartbeats 12800000 in
set_option maxRecDepth 100000 in
theorem searchPlans_in (s:SnapD) (x:SpecD) (l:List MoveD) (more steps:Int) (hs:s.Ok) (hx:∀ a ∈ x.wants,a.Ok) (hi1:I64 x.preempts) (hi2:I64 x.shifts) (A1 A2 A3 A5 A6:Option Addr) (n1 c1 n2 c2 n3 c3 n5 c5 n6 c6:Nat) (w:World) (hg:Laid w)
  (h1:n1=s.nodes.length∧n1≤c1∧c1≤maxLen) (h2:n2=s.loads.length∧n2≤c2∧c2≤maxLen) (h3:n3=s.pods.length∧n3≤c3∧c3≤maxLen∧(A3=none→c3=0)) (h5:n5=x.wants.length∧n5≤c5∧c5≤maxLen) (h6:n6=l.length∧n6≤c6∧c6≤maxLen)
  (hr1:Recs 10 cellsN w w.heap.size A1 s.nodes) (hr2:Recs 5 cellsL w w.heap.size A2 s.loads) (hr3:Recs 8 cellsP w w.heap.size A3 s.pods) (hr5:Recs 6 cellsW w w.heap.size A5 x.wants) (hr6:Recs 4 cellsM w w.heap.size A6 l) :
  Calls Tryz.prog 5 #[.agg #[.slice A1 n1 c1,.slice A2 n2 c2,.slice A3 n3 c3],.agg #[.slice A5 n5 c5,.int .i64 x.preempts,.int .i64 x.shifts],.slice A6 n6 c6,.int .i64 more,.int .i64 steps] w fun e w'=>e=.returned (.bool true)∧Below w.heap.size w w':=by
 have T0:=T2.new w [.slice A1 n1 c1,.slice A2 n2 c2,.slice A3 n3 c3] [.slice A5 n5 c5,.int .i64 x.preempts,.int .i64 x.shifts] 26 29
 have HUP:=Lib.hid (up19_any _ (Laid.below hg T0.below (Nat.le_refl _)))
 have HS:Hid (n1≤40→n2≤40→n3≤40→n5≤40→WalkArgs s x A1 A2 A3 A5 n1 c1 n2 c2 n3 c3 n5 c5 w):=fun l1 l2 l3 l5 =>
  ⟨hg,hs,hx,hi1,hi2,⟨h1.1,l1,h1.2.1,h1.2.2⟩,⟨h2.1,l2,h2.2.1,h2.2.2⟩,⟨h3.1,l3,h3.2.1,h3.2.2.1,h3.2.2.2⟩,⟨h5.1,l5,h5.2.1,h5.2.2⟩,hr1,hr2,hr3,hr5⟩
 have HR6:=Lib.hid hr6
 have HN6:=Lib.hid h6.1
 have HT0:=Lib.hid T0
 clear hg hs hx hi1 hi2 h1 h2 h3 h5 h6 hr1 hr2 hr3 hr5 hr6 T0
 go_enter Tryz.func5,Tryz.ntmps5
 go_wp2_with fail
 refine HUP.out.mono ?_
 rintro e w1 ⟨rfl,hb1⟩
 have T1:=HT0.out.keep hb1
 have HT1:=Lib.hid T1
 clear hb1 HT0 HUP
 obtain ⟨a0,a1,a2,a3⟩:=T1.one.cells3
 obtain ⟨b0,b1,b2,b3⟩:=T1.two.cells3
 clear T1
 go_wp2_with fail
 refine (small_any _ _ _ _ _ _ _ _ _ _ _ _ _ _ _ _ _).mono ?_
 rintro e w2 ⟨⟨few,rfl,hfew⟩,hb2⟩
 have T2':=HT1.out.keep hb2
 have HK2:=Lib.hid T2'.below
 have HT2:=Lib.hid T2'
 clear hb2 HT1 a0 a1 a2 a3 b0 b1 b2 b3
 obtain ⟨a0,a1,a2,a3⟩:=T2'.one.cells3
 obtain ⟨b0,b1,b2,b3⟩:=T2'.two.cells3
 clear T2'
 cases few
 case false =>
  clear hfew
  go_wp2
  go_ret
  exact ⟨rfl,HK2.out⟩
 have HSM:=Lib.hid (hfew rfl)
 clear hfew
 by_cases q1:more<0
 ·have d1:decide (more<0)=true:=decide_eq_true q1
  clear q1
  go_wp2
  go_ret
  exact ⟨rfl,HK2.out⟩
 have e1:decide (more<0)=false:=decide_eq_false q1
 by_cases q2:2<more
 ·have d2:decide (2<more)=true:=decide_eq_true q2
  clear q1 q2
  go_wp2
  go_ret
  exact ⟨rfl,HK2.out⟩
 have e2:decide (2<more)=false:=decide_eq_false q2
 by_cases q3:(5:Int)<(n6:Int)
 ·have d3:decide ((5:Int)<(n6:Int))=true:=decide_eq_true q3
  clear q1 q2 q3
  go_wp2
  go_ret
  exact ⟨rfl,HK2.out⟩
 have e3:decide ((5:Int)<(n6:Int))=false:=decide_eq_false q3
 by_cases q4:steps<0
 ·have d4:decide (steps<0)=true:=decide_eq_true q4
  clear q1 q2 q3 q4
  go_wp2
  go_ret
  exact ⟨rfl,HK2.out⟩
 have e4:decide (steps<0)=false:=decide_eq_false q4
 by_cases q5:3000<steps
 ·have d5:decide (3000<steps)=true:=decide_eq_true q5
  clear q1 q2 q3 q4 q5
  go_wp2
  go_ret
  exact ⟨rfl,HK2.out⟩
 have e5:decide (3000<steps)=false:=decide_eq_false q5
 have hwl:wrap64 ((n6:Int)+more)=(n6:Int)+more:=by rw [wrap64];omega
 have hwl2:IntKind.i64.wrap ((n6:Int)+more)=(n6:Int)+more:=IntWalk.i64_in _ (by omega)
 have HIN:=Lib.hid (show InR19 ((n6:Int)+more) steps from ⟨⟨by omega,by omega⟩,by omega,by omega⟩)
 have HQ:=Lib.hid (show n6≤5∧0≤more∧more≤2 by omega)
 have HA:=Lib.hid (HS.out HSM.out.1.1 HSM.out.1.2.1 HSM.out.1.2.2 HSM.out.2.1)
 have HW1:Hid (∀ V,Below w.heap.size w V→Calls Tryz.prog 16 #[.agg #[.slice A1 n1 c1,.slice A2 n2 c2,.slice A3 n3 c3],.agg #[.slice A5 n5 c5,.int .i64 x.preempts,.int .i64 x.shifts],.slice A6 n6 c6] V (WalkTo (walkD s x l) V)):=fun V hV =>
  stepWalk_any s x l A1 A2 A3 A5 A6 n1 c1 n2 c2 n3 c3 n5 c5 n6 c6 V (HA.out.at hV) HN6.out (by have:=HQ.out;omega) ((HR6.out.below hV (Nat.le_refl _)).more hV.size)
 have HP:Hid (∀ V,Below w.heap.size w V→Calls Tryz.prog 8 #[.agg #[.slice A1 n1 c1,.slice A2 n2 c2,.slice A3 n3 c3],.agg #[.slice A5 n5 c5,.int .i64 x.preempts,.int .i64 x.shifts],.int .i64 ((n6:Int)+more),.int .i64 steps] V (PlanFor s x ((n6:Int)+more) V)):=fun V hV =>
  (plan_any s x ((n6:Int)+more) steps A1 A2 A3 A5 n1 c1 n2 c2 n3 c3 n5 c5 V (HA.out.at hV)).mono fun e w' h=>h.for HIN.out
 have HLEN:Hid ((walkD s x l).1.pods.length≤40):=by
  have k:=HA.out
  have h3:=k.s3.1
  have h4:=k.s3.2.1
  by_cases h0:(fair s x).1=0
  ·by_cases h2:codeS s.nodes s.loads x (firstD s)=0
   ·rw [walkD_yes h0 h2]
    have:=(walk_ok (ls:=s.loads) k.ok.1 k.wo l 0 (firstD s) k.ok.2.2).2
    show (walkK s.nodes s.loads x l 0 (firstD s)).1.pods.length≤40
    rw [this];show s.pods.length≤40;omega
   ·rw [walkD_no2 h0 h2];exact Nat.zero_le _
  ·rw [walkD_no1 h0];exact Nat.zero_le _
 have HWC:=Lib.hid (fun (B:Nat) (V:World) (u:Value) (hu:ErrIs (walkD s x l).2.2 B V u)=>walk_cases hu)
 generalize walkD s x l=z at *
 obtain ⟨zt,zm,zp⟩:=z
 clear q1 q2 q3 q4 q5 HS
 go_wp2_with fail
 refine (HW1.out _ HK2.out).mono ?_
 rintro e w3 ⟨A7,c7,u,rfl,ho,hfr,hu,hb3⟩
 have k3:Below w3.heap.size w3 (w3.alloc (.cells #[.slice A7 zt.pods.length c7,.int .i64 zt.preempts,.int .i64 zt.shifts] 44)):=(Below.refl _ w3).alloc (Nat.le_refl _) _
 have B3:Bf (w3.alloc (.cells #[.slice A7 zt.pods.length c7,.int .i64 zt.preempts,.int .i64 zt.shifts] 44)) w3.heap.size [.slice A7 zt.pods.length c7,.int .i64 zt.preempts,.int .i64 zt.shifts]:=Bf.new w3 _ _ rfl
 have T3':=(HT2.out.keep hb3).keep k3
 have HU3:=Lib.hid (HWC.out _ _ u hu)
 have HO3:=Lib.hid (ho.later k3)
 clear hu hb3 k3 ho hfr HT2 HK2 a0 a1 a2 a3 b0 b1 b2 b3 e1 e2 e3 e4 e5 HW1 HWC
 obtain ⟨a0,a1,a2,a3⟩:=T3'.one.cells3
 obtain ⟨b0,b1,b2,b3⟩:=T3'.two.cells3
 have HT3:=Lib.hid T3'
 have HB3:=Lib.hid B3
 have HPP:=Lib.hid (HP.out _ T3'.below)
 clear T3' B3 HP
 go_wp2_with fail
 refine HPP.out.mono ?_
 rintro e w4 ⟨k,A8,n8,c8,st,u2,rfl,hb4,hpl⟩
 have k4:Below w4.heap.size w4 (w4.alloc (.cells #[.int .i64 k,.slice A8 n8 c8,.int .i64 st] 34)):=(Below.refl _ w4).alloc (Nat.le_refl _) _
 have B4:Bf (w4.alloc (.cells #[.int .i64 k,.slice A8 n8 c8,.int .i64 st] 34)) w4.heap.size [.int .i64 k,.slice A8 n8 c8,.int .i64 st]:=Bf.new w4 _ _ rfl
 have T4:=(HT3.out.keep hb4).keep k4
 have S4:=(HB3.out.below hb4 HB3.out.lt).below k4 (HB3.out.below hb4 HB3.out.lt).lt
 have HT4:=Lib.hid T4
 have HO4:=Lib.hid ((HO3.out.later hb4).later k4)
 have HPL:=Lib.hid hpl
 have HB4:=Lib.hid B4
 have HS4:=Lib.hid S4
 have hz3:=HB3.out.lt
 have HZ3:=Lib.hid (HB3.out.below hb4 HB3.out.lt).lt
 clear hb4 k4 hpl HT3 HB3 HO3 HPP a0 a1 a2 a3 b0 b1 b2 b3 B4 hz3
 obtain ⟨b0,b1,b2,b3⟩:=T4.two.cells3
 obtain ⟨f0,f1,f2,f3⟩:=S4.cells3
 clear T4 S4
 rcases HU3.out with ⟨ty,vv,rfl⟩ | ⟨rfl,hf0,hc0,hway,hlen⟩
 ·clear HU3
  go_wp2
  go_ret
  exact ⟨rfl,HT4.out.below⟩
 have HWAY:=Lib.hid (show Way s.nodes s.loads x l (firstD s) zt from hway)
 have hzm:zm=n6:=by have h1:=HN6.out;have h2:zm=l.length:=hlen;omega
 subst hzm
 have HF0:=Lib.hid hf0
 have HC0:=Lib.hid hc0
 have hzz:((zm:Int) != (zm:Int))=false:=by simp
 have HGO:=Lib.hid (stateGoal_any x.wants zt.pods A5 A7 n5 c5 zt.pods.length c7 (.int .i64 x.preempts) (.int .i64 x.shifts) (.int .i64 zt.preempts) (.int .i64 zt.shifts) _ (HA.out.s5.1) (by have:=HA.out.s5.2.1;omega) rfl (by have:=HLEN.out;have h:zt.pods.length≤40:=this;omega) (HA.out.at HT4.out.below).r5 HO4.out.2.2.2)
 clear hf0 hc0 hway hlen HU3
 go_wp2_with fail
 refine HGO.out.mono ?_
 rintro e w5 ⟨rfl,hb5⟩
 have HK5:=Lib.hid (HT4.out.keep hb5).below
 have B5:=HB4.out.below hb5 HB4.out.lt
 clear hb5 HT4 HO4 HGO b0 b1 b2 b3 f0 f1 f2 f3 HB4 HS4
 obtain ⟨f0,f1,f2,f3⟩:=B5.cells3
 clear B5
 cases hgo:goalD x.wants zt.pods with
 | false =>
  go_wp2
  go_ret
  exact ⟨rfl,HK5.out⟩
 | true =>
  obtain ⟨rfl,hk⟩:=HPL.out HF0.out HC0.out ⟨l,zt,by have h1:=HN6.out;have h2:=HQ.out;omega,HWAY.out,hgo⟩
  have HGO:=Lib.hid hgo
  clear hgo HPL
  rcases hk with ⟨rfl,hn⟩ | rfl
  ·have hle:decide ((n8:Int)≤(zm:Int)+more)=true:=decide_eq_true hn
   clear hn
   go_wp2
   go_ret
   exact ⟨rfl,HK5.out⟩
  ·go_wp2
   go_ret
   exact ⟨rfl,HK5.out⟩
end Go.Proofs.YthapilknnhlmfaaGreatDoor
