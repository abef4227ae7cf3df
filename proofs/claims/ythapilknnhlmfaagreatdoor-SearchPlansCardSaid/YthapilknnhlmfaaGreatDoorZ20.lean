/- Joined texts, part 20: XC TY NH UK BP XD XE. -/
import Derived.Test.YthapilknnhlmfaaGreatDoorZ12
import Derived.Test.YthapilknnhlmfaaGreatDoorZ19
import Derived.Test.YthapilknnhlmfaaGreatDoorZ02
import Derived.Test.YthapilknnhlmfaaGreatDoorZ18
import Derived.Test.YthapilknnhlmfaaGreatDoorZ16
import Derived.Test.YthapilknnhlmfaaGreatDoorZ14
import Derived.Test.YthapilknnhlmfaaGreatDoorZ07
import Derived.Test.YthapilknnhlmfaaGreatDoorZ11
import Derived.Test.YthapilknnhlmfaaGreatDoorZ01
import Derived.Deep.CutRange

namespace Go.Proofs.YthapilknnhlmfaaGreatDoor
set_option linter.unusedSimpArgs false
open Go.RowKit
set_option linter.unusedVariables false
theorem ErrIs.put {p:Int × Int} {B:Nat} {w:World} {u:Value} (h:ErrIs p B w u) {q:Addr} (hq:q.block<B) (v:Value):ErrIs p B (w.setCell q v) u:=by
 rcases h with h | h | ⟨k,g,h1,h2,h3,h4⟩
 ·exact .inl h
 ·exact .inr (.inl h)
 ·exact .inr (.inr ⟨k,g,h1,h2,h3,(Below.heap_setCell w q v g (by omega)).trans h4⟩)
theorem T3.past {a b c:List Value} {w V:World} (h:T3 a b c w V) {p:Addr} (hp:w.heap.size+3≤p.block) (v:Value):T3 a b c w (V.setCell p v) :=
 ⟨h.one.other (by omega) v,h.two.other (by omega) v,h.three.other (by omega) v,h.below.setCell (by omega) v⟩
theorem OwnAt.from {B:Nat} {l:List PodD} {w:World} {A:Option Addr} {c:Nat} (h:OwnAt B l w A c):∀ a,A=some a→B≤a.block∧a.block<w.heap.size:=by
 intro a ha
 rcases h.2 with ⟨h0,_⟩ | ⟨g,cap,cur,hv,hb,hg,_⟩
 ·injection h0 with h0 _ _
  rw [h0] at ha;cases ha
 ·injection hv with h0 _ _
  rw [h0] at ha
  injection ha with ha
  rw [← ha]
  exact ⟨hb,(Array.getElem?_eq_some_iff.1 hg).1⟩
set_option maxHeartbeats 800000 in
theorem stateFirst_new (l:List PodD) (A:Option Addr) (n c:Nat) (v0 v1:Value) (w:World) (hn:n=l.length) (hl:n≤1000) (h0:A=none→c=0) (hr:Recs 8 cellsP w w.heap.size A l) :
  Calls Tryz.prog 21 #[.agg #[v0,v1,.slice A n c]] w fun e w'=>∃ A' c',e=.returned (stateV A' n c' 0 0)∧Out 8 cellsP w' l A' c'∧(∀ a,A'=some a→w.heap.size≤a.block∧a.block<w'.heap.size)∧Below w.heap.size w w':=by
 have b00:=below_two w (.cells #[v0,v1,.slice A n c] 26) (.cells #[.slice none 0 0,.int .i64 0,.int .i64 0] 44)
 have HF:=Lib.hid (clone_any l A n c ((w.alloc (.cells #[v0,v1,.slice A n c] 26)).alloc (.cells #[.slice none 0 0,.int .i64 0,.int .i64 0] 44)) hn hl h0 ((hr.below b00 (Nat.le_refl _)).more b00.size))
 have HN:=Lib.hid hn
 clear hr hn h0
 go_enter Tryz.func21,Tryz.ntmps21
 go_wp2_with fail
 refine HF.out.mono ?_
 rintro e w1 ⟨A',c',rfl,ho,hb1⟩
 have HO:=Lib.hid ho
 clear ho
 have kw1:=b00.trans (hb1.mono b00.size)
 have hz1:w.heap.size+2≤w1.heap.size:=by have:=hb1.size;simpa using this
 have g0:w1.cell? ⟨w.heap.size+1,0,none⟩=some (.slice none 0 0):=(hb1.cell (p:=⟨w.heap.size+1,0,none⟩) (by simp)).trans (by simp)
 have h0:w1.frozen? ⟨w.heap.size+1,0,none⟩=false:=(hb1.frozen (p:=⟨w.heap.size+1,0,none⟩) (by simp)).trans (by simp)
 have g1:w1.cell? ⟨w.heap.size+1,1,none⟩=some (.int .i64 0):=(hb1.cell (p:=⟨w.heap.size+1,1,none⟩) (by simp)).trans (by simp)
 have h1:w1.frozen? ⟨w.heap.size+1,1,none⟩=false:=(hb1.frozen (p:=⟨w.heap.size+1,1,none⟩) (by simp)).trans (by simp)
 have g2:w1.cell? ⟨w.heap.size+1,2,none⟩=some (.int .i64 0):=(hb1.cell (p:=⟨w.heap.size+1,2,none⟩) (by simp)).trans (by simp)
 have h2:w1.frozen? ⟨w.heap.size+1,2,none⟩=false:=(hb1.frozen (p:=⟨w.heap.size+1,2,none⟩) (by simp)).trans (by simp)
 have HFR:=Lib.hid (show ∀ a,A'=some a→w.heap.size≤a.block∧a.block<w1.heap.size from fun a ha=>by have:=(OwnAt.of HO.out).from a ha;simp at this;omega)
 go_wp2
 refine bodyPost_ret (v:=stateV A' n c' 0 0) ?_ rfl ?_
 ·simp [results,Tryz.results21,go_sem, *]
 ·refine ⟨A',c',rfl,((((OwnAt.of HO.out).set (by simp) _).set (by simp) _).set (by simp) _).out,fun a ha=>by have:=HFR.out a ha;simpa using this,?_⟩
  repeat (first | with_reducible exact kw1 | with_reducible refine Below.setCell ?_ ?_ _)
  all_goals (show w.heap.size≤w.heap.size+1;omega)
structure WalkArgs (s:SnapD) (x:SpecD) (A1 A2 A3 A5:Option Addr) (n1 c1 n2 c2 n3 c3 n5 c5:Nat) (w:World):Prop where
 g:Laid w
 ok:s.Ok
 wo:∀ a ∈ x.wants,a.Ok
 i1:I64 x.preempts
 i2:I64 x.shifts
 s1:n1=s.nodes.length∧n1≤40∧n1≤c1∧c1≤maxLen
 s2:n2=s.loads.length∧n2≤40∧n2≤c2∧c2≤maxLen
 s3:n3=s.pods.length∧n3≤40∧n3≤c3∧c3≤maxLen∧(A3=none→c3=0)
 s5:n5=x.wants.length∧n5≤40∧n5≤c5∧c5≤maxLen
 r1:Recs 10 cellsN w w.heap.size A1 s.nodes
 r2:Recs 5 cellsL w w.heap.size A2 s.loads
 r3:Recs 8 cellsP w w.heap.size A3 s.pods
 r5:Recs 6 cellsW w w.heap.size A5 x.wants
theorem WalkArgs.at {s:SnapD} {x:SpecD} {A1 A2 A3 A5:Option Addr} {n1 c1 n2 c2 n3 c3 n5 c5:Nat} {w V:World} (h:WalkArgs s x A1 A2 A3 A5 n1 c1 n2 c2 n3 c3 n5 c5 w) (hV:Below w.heap.size w V):WalkArgs s x A1 A2 A3 A5 n1 c1 n2 c2 n3 c3 n5 c5 V :=
 ⟨Laid.below h.g hV (Nat.le_refl _),h.ok,h.wo,h.i1,h.i2,h.s1,h.s2,h.s3,h.s5,(h.r1.below hV (Nat.le_refl _)).more hV.size,(h.r2.below hV (Nat.le_refl _)).more hV.size,(h.r3.below hV (Nat.le_refl _)).more hV.size,(h.r5.below hV (Nat.le_refl _)).more hV.size⟩
theorem WalkArgs.fair {s:SnapD} {x:SpecD} {A1 A2 A3 A5:Option Addr} {n1 c1 n2 c2 n3 c3 n5 c5:Nat} {w:World} (h:WalkArgs s x A1 A2 A3 A5 n1 c1 n2 c2 n3 c3 n5 c5 w) :
  Calls Tryz.prog 19 #[.agg #[.slice A1 n1 c1,.slice A2 n2 c2,.slice A3 n3 c3],.agg #[.slice A5 n5 c5,.int .i64 x.preempts,.int .i64 x.shifts]] w (ErrTo (fair s x) w) :=
 fair_holds s x A1 A2 A3 A5 n1 c1 n2 c2 n3 c3 n5 c5 w.heap.size w h.ok h.wo h.i1 h.i2 h.s1.1 h.s2.1 h.s3.1 h.s5.1 h.s1.2.1 h.s2.2.1 h.s3.2.1 h.s5.2.1 h.s1.2.2.1 h.s2.2.2.1 h.s3.2.2.1 h.s5.2.2.1 h.s1.2.2.2 h.s2.2.2.2 h.s3.2.2.2.1 h.s5.2.2.2 (Nat.le_refl _) h.r1 h.r2 h.r3 h.r5
theorem WalkArgs.safe {s:SnapD} {x:SpecD} {A1 A2 A3 A5:Option Addr} {n1 c1 n2 c2 n3 c3 n5 c5:Nat} {w:World} (h:WalkArgs s x A1 A2 A3 A5 n1 c1 n2 c2 n3 c3 n5 c5 w) {l:List PodD} {A:Option Addr} {c:Nat} (hO:Out 8 cellsP w l A c) (hok:∀ p ∈ l,p.Ok) (hlen:l.length=s.pods.length):SafeArgs s.nodes s.loads l A1 A2 A n1 n2 l.length c w :=
 ⟨h.g,h.ok.1,hok,h.s1.1,by have:=h.s1.2.1;omega,h.r1,h.s2.1,by have:=h.s2.2.1;omega,h.r2,rfl,by have h1:=h.s3.1;have h2:=h.s3.2.1;omega,hO.1,hO.2.2.2⟩
def WalkTo (z:StateD × Nat × (Int × Int)) (w:World) (e:Ending) (w':World):Prop :=
 ∃ A c u,e=.returned (.tuple #[stateV A z.1.pods.length c z.1.preempts z.1.shifts,.int .i64 (z.2.1:Int),u])∧Out 8 cellsP w' z.1.pods A c∧(∀ a,A=some a→w.heap.size≤a.block)∧ErrIs z.2.2 w.heap.size w' u∧Below w.heap.size w w'
def WalkRel (ns:List NodeD) (ls:List LoadD) (x:SpecD) (l:List MoveD) (z:StateD × Nat × Int) (a b:List Value) (g N:Nat) (w:World) (i:Value) (wr:World):Prop :=
 ∃ (k:Nat) (t:StateD) (A:Option Addr) (c:Nat),k≤l.length∧i=.int .i64 k∧walkK ns ls x (l.drop k) k t=z∧T3 a b [.slice none 0 0,.int .i64 0,.int .i64 0] w wr∧Bf wr g [.slice A t.pods.length c,.int .i64 t.preempts,.int .i64 t.shifts]∧Out 8 cellsP wr t.pods A c ∧
  (∀ a,A=some a→w.heap.size+3≤a.block∧a.block≠g)∧(∀ p ∈ t.pods,p.Ok)∧t.pods.length=N
theorem walkD_no1 {s:SnapD} {x:SpecD} {l:List MoveD} (h:(fair s x).1≠0):walkD s x l=(noState,0,fair s x):=by rw [walkD,if_pos h]
theorem walkD_no2 {s:SnapD} {x:SpecD} {l:List MoveD} (h:(fair s x).1=0) (h2:codeS s.nodes s.loads x (firstD s)≠0):walkD s x l=(noState,0,(codeS s.nodes s.loads x (firstD s),-1)):=by rw [walkD,if_neg (by simp [h]),if_pos h2]
theorem walkD_yes {s:SnapD} {x:SpecD} {l:List MoveD} (h:(fair s x).1=0) (h2:codeS s.nodes s.loads x (firstD s)=0):walkD s x l=((walkK s.nodes s.loads x l 0 (firstD s)).1,(walkK s.nodes s.loads x l 0 (firstD s)).2.1,((walkK s.nodes s.loads x l 0 (firstD s)).2.2,-1)):=by rw [walkD,if_neg (by simp [h]),if_neg (by simp [h2])]

set_option maxHeartbeats 12800000 in
set_option maxRecDepth 100000 in
theorem stepWalk_any (s:SnapD) (x:SpecD) (l:List MoveD) (A1 A2 A3 A5 A6:Option Addr) (n1 c1 n2 c2 n3 c3 n5 c5 n6 c6:Nat) (w:World) (h:WalkArgs s x A1 A2 A3 A5 n1 c1 n2 c2 n3 c3 n5 c5 w) (hn6:n6=l.length) (hl6:n6≤1000) (hr6:Recs 4 cellsM w w.heap.size A6 l) :
  Calls Tryz.prog 16 #[.agg #[.slice A1 n1 c1,.slice A2 n2 c2,.slice A3 n3 c3],.agg #[.slice A5 n5 c5,.int .i64 x.preempts,.int .i64 x.shifts],.slice A6 n6 c6] w (WalkTo (walkD s x l) w):=by
 obtain rfl:n3=s.pods.length:=h.s3.1
 have T0:=T3.new w [.slice A1 n1 c1,.slice A2 n2 c2,.slice A3 s.pods.length c3] [.slice A5 n5 c5,.int .i64 x.preempts,.int .i64 x.shifts] [.slice none 0 0,.int .i64 0,.int .i64 0] 26 29 44
 have HFAIR:=Lib.hid (h.at T0.below).fair
 have HFI:Hid (∀ V,Below w.heap.size w V→Calls Tryz.prog 21 #[.agg #[.slice A1 n1 c1,.slice A2 n2 c2,.slice A3 s.pods.length c3]] V fun e w'=>∃ A' c',e=.returned (stateV A' s.pods.length c' 0 0)∧Out 8 cellsP w' s.pods A' c'∧(∀ a,A'=some a→V.heap.size≤a.block∧a.block<w'.heap.size)∧Below V.heap.size V w'):=fun V hV=>by
  have k:=h.at hV
  exact stateFirst_new s.pods A3 s.pods.length c3 (.slice A1 n1 c1) (.slice A2 n2 c2) V rfl (by have:=k.s3.2.1;omega) k.s3.2.2.2.2 k.r3
 have HFA:Hid (∀ (t:StateD) V A c,Below w.heap.size w V→Out 8 cellsP V t.pods A c→(∀ p ∈ t.pods,p.Ok)→t.pods.length=s.pods.length→Calls Tryz.prog 35 #[.agg #[.slice A1 n1 c1,.slice A2 n2 c2,.slice A3 s.pods.length c3],.agg #[.slice A5 n5 c5,.int .i64 x.preempts,.int .i64 x.shifts],.agg #[.slice A t.pods.length c,.int .i64 t.preempts,.int .i64 t.shifts]] V
   fun e w'=>e=.returned (codeV (codeS s.nodes s.loads x t))∧Below V.heap.size V w'):=fun t V A c hV hO hok hlen =>
  stepFault_any s.nodes s.loads x t A1 A2 A3 A A5 n1 c1 n2 c2 _ c3 _ c n5 c5 V ((h.at hV).safe hO hok hlen)
 have HDO:Hid (∀ (t:StateD) (m:MoveD) V A c,Below w.heap.size w V→Out 8 cellsP V t.pods A c→(∀ p ∈ t.pods,p.Ok)→t.pods.length=s.pods.length→Calls Tryz.prog 36 #[.agg #[.slice A1 n1 c1,.slice A2 n2 c2,.slice A3 s.pods.length c3],.agg #[.slice A5 n5 c5,.int .i64 x.preempts,.int .i64 x.shifts],.agg #[.slice A t.pods.length c,.int .i64 t.preempts,.int .i64 t.shifts],.agg #[.int .i64 m.kind,.int .i64 m.pod,.int .i64 m.node,.int .i64 m.over]] V
   (DoTo (doD s.nodes s.loads x t m) V)):=fun t m V A c hV hO hok hlen=>by
  have k:=h.at hV
  exact stepDo_any s.nodes s.loads x t m A1 A2 A3 A A5 n1 c1 n2 c2 _ c3 _ c n5 c5 V (k.safe hO hok hlen) hO.2.2.1 k.s5.1 (by have:=k.s5.2.1;omega) k.r5 k.wo
 have HDOK:Hid (∀ (t:StateD) (m:MoveD),(∀ p ∈ t.pods,p.Ok)→(doD s.nodes s.loads x t m).2=0→(∀ p ∈ (doD s.nodes s.loads x t m).1.pods,p.Ok)∧(doD s.nodes s.loads x t m).1.pods.length=t.pods.length):=fun t m hok h0=>do_ok h.ok.1 h.wo hok h0
 have HDV:=Lib.hid (fun (t:StateD) (m:MoveD)=>do_vals s.nodes s.loads x t m)
 have H1:=Lib.hid (walkD_no1 (s:=s) (x:=x) (l:=l))
 have H2:=Lib.hid (walkD_no2 (s:=s) (x:=x) (l:=l))
 have H3:=Lib.hid (walkD_yes (s:=s) (x:=x) (l:=l))
 have HP0:=Lib.hid h.ok.2.2
 have HN6:=Lib.hid hn6
 have HR6:=Lib.hid hr6
 have HFZ:=Lib.hid (fair_zero (s:=s) (x:=x))
 have HFV:=Lib.hid (codeS_vals s.nodes s.loads x (firstD s))
 have HT0:=Lib.hid T0
 generalize walkD s x l=z at *
 clear h hn6 hr6 T0
 generalize x.preempts=x1 at *
 generalize x.shifts=x2 at *
 go_enter Tryz.func16,Tryz.ntmps16
 go_wp2_with fail
 refine HFAIR.out.mono ?_
 rintro e w1 ⟨u,rfl,hu,hb1⟩
 have T1:=HT0.out.keep hb1
 have HT1:=Lib.hid T1
 obtain ⟨a0,a1,a2,a3⟩:=T1.one.cells3
 obtain ⟨d0,d1,d2,d3⟩:=T1.three.cells3
 have z0:=T1.three.frozen 0
 have z1:=T1.three.frozen 1
 have z2:=T1.three.frozen 2
 by_cases h0:(fair s x).1=0
 ·have hn:=hu.nil (by rw [HFZ.out h0];rfl)
  subst hn
  have HF0:=Lib.hid h0
  have HFF:=Lib.hid (HFI.out w1 T1.below)
  clear h0 hu hb1 T1 HT0 H1 HFZ HFAIR
  go_wp2_with fail
  refine HFF.out.mono ?_
  rintro e w2 ⟨A4,c4,rfl,ho,hfr,hb2⟩
  have k2:Below w2.heap.size w2 (w2.alloc (.cells #[.slice A4 s.pods.length c4,.int .i64 0,.int .i64 0] 44)):=(Below.refl _ w2).alloc (Nat.le_refl _) _
  have T2:=(HT1.out.keep hb2).keep k2
  have B2:Bf (w2.alloc (.cells #[.slice A4 s.pods.length c4,.int .i64 0,.int .i64 0] 44)) w2.heap.size [.slice A4 s.pods.length c4,.int .i64 0,.int .i64 0]:=Bf.new w2 [.slice A4 s.pods.length c4,.int .i64 0,.int .i64 0] 44 rfl
  have hg2:w.heap.size+3≤w2.heap.size:=(HT1.out.keep hb2).three.lt
  have hA4:∀ a,A4=some a→w.heap.size+3≤a.block∧a.block≠w2.heap.size:=fun a ha=>by have h1:=hfr a ha;have h2:=HT1.out.three.lt;omega
  have ho2:=ho.later k2
  have HFT:Hid (Calls Tryz.prog 35 #[.agg #[.slice A1 n1 c1,.slice A2 n2 c2,.slice A3 s.pods.length c3],.agg #[.slice A5 n5 c5,.int .i64 x1,.int .i64 x2],.agg #[.slice A4 s.pods.length c4,.int .i64 0,.int .i64 0]] (w2.alloc (.cells #[.slice A4 s.pods.length c4,.int .i64 0,.int .i64 0] 44))
    fun e w'=>e=.returned (codeV (codeS s.nodes s.loads x (firstD s)))∧Below (w2.alloc (.cells #[.slice A4 s.pods.length c4,.int .i64 0,.int .i64 0] 44)).heap.size (w2.alloc (.cells #[.slice A4 s.pods.length c4,.int .i64 0,.int .i64 0] 44)) w') :=
   HFA.out (firstD s) _ A4 c4 T2.below ho2 HP0.out rfl
  have HT2:=Lib.hid T2
  have HB2:=Lib.hid B2
  have HO2:=Lib.hid ho2
  have HA4:=Lib.hid hA4
  have HG2:=Lib.hid hg2
  clear a0 a1 a2 a3 d0 d1 d2 d3 z0 z1 z2
  obtain ⟨a0,a1,a2,a3⟩:=T2.one.cells3
  obtain ⟨b0,b1,b2,b3⟩:=T2.two.cells3
  clear ho hfr hb2 k2 T2 B2 hA4 ho2 HT1 HFI HFA HFF hg2
  go_wp2_with fail
  refine HFT.out.mono ?_
  rintro e w3 ⟨rfl,hb3⟩
  have T3':=HT2.out.keep hb3
  have B3:=HB2.out.below hb3 HB2.out.lt
  have HO3:=Lib.hid (HO2.out.later hb3)
  have HT3:=Lib.hid T3'
  have HB3:=Lib.hid B3
  generalize hgg:w2.heap.size=g at *
  clear hb3 HT2 HB2 HO2 HFT a0 a1 a2 a3 b0 b1 b2 b3 hgg
  by_cases hs:codeS s.nodes s.loads x (firstD s)=0
  ·have HE:=Lib.hid (H3.out HF0.out hs)
   have HK0:Hid (walkK s.nodes s.loads x (l.drop 0) 0 (firstD s)=walkK s.nodes s.loads x l 0 (firstD s)):=by rw [List.drop_zero];exact Lib.hid rfl
   rw [hs,codeV_zero]
   generalize walkK s.nodes s.loads x l 0 (firstD s)=zz at *
   clear T3' B3 hs HFV H2 H3 HF0
   go_wp2
   go_loopw [35] (WalkRel s.nodes s.loads x l zz [.slice A1 n1 c1,.slice A2 n2 c2,.slice A3 s.pods.length c3] [.slice A5 n5 c5,.int .i64 x1,.int .i64 x2] g s.pods.length w) (fun i _=>n6 - (intOf i).toNat)
   case atStart=>exact ⟨0,firstD s,A4,c4,by omega,rfl,HK0.out,HT3.out,HB3.out,HO3.out,HA4.out,HP0.out,rfl⟩
   case round =>
    clear HT3 HB3 HO3 HA4 HK0
    obtain ⟨k,t,A,c,hk,rfl,hw,hT,hB,hO,hA,hP,hL⟩:=hrel
    have HW:=Lib.hid hw
    have HT:=Lib.hid hT
    have HB:=Lib.hid hB
    have HO:=Lib.hid hO
    have HA:=Lib.hid hA
    have HPP:=Lib.hid hP
    have HL:=Lib.hid hL
    obtain ⟨d0,d1,d2,d3⟩:=hT.three.cells3
    have z0:=hT.three.frozen 0
    have z1:=hT.three.frozen 1
    have z2:=hT.three.frozen 2
    obtain ⟨f0,f1,f2,f3⟩:=hB.cells3
    by_cases hlt:k<n6
    ·have hkl:k<l.length:=by have:=HN6.out;omega
     obtain ⟨b,o,rfl,hb,he⟩:=HR6.out.at hkl
     generalize hx:l[k]=m at *
     have HWA:=Lib.hid (walk_at hkl hx HW.out)
     have kwr:=hT.below
     have e0:wr.cell? ⟨b,o+k * 4,none⟩=some (.int .i64 m.kind):=(kwr.cell (p:=⟨b,o+k * 4,none⟩) hb).trans (he 0 _ rfl)
     have e1:wr.cell? ⟨b,o+k * 4+1,none⟩=some (.int .i64 m.pod):=(kwr.cell (p:=⟨b,o+k * 4+1,none⟩) hb).trans (he 1 _ rfl)
     have e2:wr.cell? ⟨b,o+k * 4+2,none⟩=some (.int .i64 m.node):=(kwr.cell (p:=⟨b,o+k * 4+2,none⟩) hb).trans (he 2 _ rfl)
     have e3:wr.cell? ⟨b,o+k * 4+3,none⟩=some (.int .i64 m.over):=(kwr.cell (p:=⟨b,o+k * 4+3,none⟩) hb).trans (he 3 _ rfl)
     have hbw:b<wr.heap.size:=by have:=kwr.size;omega
     have ka:Below wr.heap.size wr (wr.alloc (.cells #[.int .i64 m.kind,.int .i64 m.pod,.int .i64 m.node,.int .i64 m.over] 89)):=(Below.refl _ wr).alloc (Nat.le_refl _) _
     have HTa:=Lib.hid (hT.keep ka)
     have HBa:=Lib.hid (hB.below ka hB.lt)
     have HOa:=Lib.hid (hO.later ka)
     have HD:=Lib.hid (HDO.out t m _ A c (hT.keep ka).below (hO.later ka) hP hL)
     have HDV':=Lib.hid (HDV.out t m)
     have HDK':=Lib.hid (HDOK.out t m hP)
     obtain ⟨a0,a1,a2,a3⟩:=(hT.keep ka).one.cells3
     obtain ⟨b0,b1,b2,b3⟩:=(hT.keep ka).two.cells3
     clear d0 d1 d2 d3 z0 z1 z2 f0 f1 f2 f3
     obtain ⟨f0,f1,f2,f3⟩:=(hB.below ka hB.lt).cells3
     generalize doD s.nodes s.loads x t m=r at *
     clear hw hT hB hO hA hP hL hb he hx ka HT HB HO HDOK HDV HDO
     go_wp2_with fail
     refine HD.out.mono ?_
     rintro e w5 ⟨_,rfl,A7,c7,rfl,ho7,hfr7,hb5⟩
     have k7:Below w5.heap.size w5 (w5.alloc (.cells #[.slice A7 r.1.pods.length c7,.int .i64 r.1.preempts,.int .i64 r.1.shifts] 44)):=(Below.refl _ w5).alloc (Nat.le_refl _) _
     have T7:=(HTa.out.keep hb5).keep k7
     have B7:=(HBa.out.below hb5 HBa.out.lt).below k7 (HBa.out.below hb5 HBa.out.lt).lt
     have hO7:=(HOa.out.later hb5).later k7
     have ho8:=ho7.later k7
     have hA7:∀ a,A7=some a→w.heap.size+3≤a.block∧a.block≠g:=fun a ha=>by have h1:=hfr7 a ha;have h2:=HTa.out.three.lt;have h3:=HBa.out.lt;omega
     have hgn:w5.heap.size≠g:=by have h3:=(HBa.out.below hb5 HBa.out.lt).lt;omega
     have hgw:w5.heap.size≠w.heap.size+2:=by have h3:=(HTa.out.keep hb5).three.lt;omega
     have HT7:=Lib.hid T7
     have HB7:=Lib.hid B7
     have HO7:=Lib.hid hO7
     have HO8:=Lib.hid ho8
     have HA7:=Lib.hid hA7
     clear a0 a1 a2 a3 b0 b1 b2 b3 f0 f1 f2 f3 e0 e1 e2 e3
     obtain ⟨d0,d1,d2,d3⟩:=T7.three.cells3
     have z0:=T7.three.frozen 0
     have z1:=T7.three.frozen 1
     have z2:=T7.three.frozen 2
     obtain ⟨f0,f1,f2,f3⟩:=B7.cells3
     have y0:=B7.frozen 0
     have y1:=B7.frozen 1
     have y2:=B7.frozen 2
     clear HD HTa HBa HOa ho7 hfr7 hb5 k7 T7 B7 hO7 ho8 hA7
     by_cases hr:r.2=0
     ·have HWN:=Lib.hid (HWA.out.2 hr)
      have HDN:=Lib.hid (HDK'.out hr)
      rw [hr,codeV_zero]
      clear hr HWA HDK' HDV' hgw
      go_wp2
      go_roundw
      case rel =>
       refine ⟨k+1,r.1,A7,c7,by omega,by go_num,HWN.out,((HT7.out.past (by show _≤g;exact HG2.out) _).past (by show _≤g;exact HG2.out) _).past (by show _≤g;exact HG2.out) _,?_,?_,HA7.out,HDN.out.1,HDN.out.2.trans HL.out⟩
       ·exact ((HB7.out.set 0 _).set 1 _).set 2 _
       ·exact ((HO8.out.set (p:=⟨g,0,none⟩) (fun a ha=>(HA7.out a ha).2) _).set (p:=⟨g,1,none⟩) (fun a ha=>(HA7.out a ha).2) _).set (p:=⟨g,2,none⟩) (fun a ha=>(HA7.out a ha).2) _
      case measure=>simp [intOf];omega
     ·have HWN:=Lib.hid (HWA.out.1 hr)
      have HCV:=Lib.hid (show 1≤r.2∧r.2≤17 by have:=HDV'.out;omega)
      rw [codeV_pos hr]
      clear hr HWA HDK' HDV'
      go_wp2
      refine bodyPost_ret (v:=.tuple #[stateV A t.pods.length c t.preempts t.shifts,.int .i64 k,.iface 42 (.int .i64 r.2)]) ?_ rfl ⟨A,c,_,by rw [HE.out,HWN.out],?_,(fun a ha=>by have:=HA.out a ha;omega),?_,?_⟩
      ·simp [results,Tryz.results16,go_sem, *]
      ·rw [HE.out,HWN.out]
       exact ((HO7.out.set (p:=⟨w.heap.size+2,0,none⟩) (fun a ha=>by have:=HA.out a ha;show a.block≠w.heap.size+2;omega) _).set (p:=⟨w.heap.size+2,1,none⟩) (fun a ha=>by have:=HA.out a ha;show a.block≠w.heap.size+2;omega) _).set (p:=⟨w.heap.size+2,2,none⟩) (fun a ha=>by have:=HA.out a ha;show a.block≠w.heap.size+2;omega) _
      ·rw [HE.out,HWN.out]
       exact .inr (.inl ⟨rfl,HCV.out.1,HCV.out.2,rfl⟩)
      ·exact ((HT7.out.below.setCell (by show w.heap.size≤w.heap.size+2;omega) _).setCell (by show w.heap.size≤w.heap.size+2;omega) _).setCell (by show w.heap.size≤w.heap.size+2;omega) _
    ·have HWN:=Lib.hid (walk_end (by have:=HN6.out;omega) HW.out)
     have hkn:k=n6:=by have:=HN6.out;omega
     clear hw hT hB hO hA hP hL
     go_wp2
     refine bodyPost_ret (v:=.tuple #[stateV A t.pods.length c t.preempts t.shifts,.int .i64 n6,.nilIface]) ?_ rfl ⟨A,c,_,by rw [HE.out,HWN.out,hkn],?_,(fun a ha=>by have:=HA.out a ha;omega),?_,?_⟩
     ·simp [results,Tryz.results16,go_sem, *]
     ·rw [HE.out,HWN.out]
      exact ((HO.out.set (p:=⟨w.heap.size+2,0,none⟩) (fun a ha=>by have:=HA.out a ha;show a.block≠w.heap.size+2;omega) _).set (p:=⟨w.heap.size+2,1,none⟩) (fun a ha=>by have:=HA.out a ha;show a.block≠w.heap.size+2;omega) _).set (p:=⟨w.heap.size+2,2,none⟩) (fun a ha=>by have:=HA.out a ha;show a.block≠w.heap.size+2;omega) _
     ·rw [HE.out,HWN.out]
      exact .inl ⟨rfl,rfl⟩
     ·exact ((HT.out.below.setCell (by show w.heap.size≤w.heap.size+2;omega) _).setCell (by show w.heap.size≤w.heap.size+2;omega) _).setCell (by show w.heap.size≤w.heap.size+2;omega) _
  ·have HE:=Lib.hid (H2.out HF0.out hs)
   have HCV:=Lib.hid (show 1≤codeS s.nodes s.loads x (firstD s)∧codeS s.nodes s.loads x (firstD s)≤17 by have:=HFV.out;omega)
   rw [codeV_pos hs]
   generalize codeS s.nodes s.loads x (firstD s)=cs at *
   obtain ⟨d0,d1,d2,d3⟩:=T3'.three.cells3
   have z0:=T3'.three.frozen 0
   have z1:=T3'.three.frozen 1
   have z2:=T3'.three.frozen 2
   clear T3' B3 hs
   go_wp2
   refine bodyPost_ret (v:=.tuple #[stateV none 0 0 0 0,.int .i64 0,.iface 42 (.int .i64 cs)]) ?_ rfl ⟨none,0,_,by rw [HE.out];rfl,?_,(fun a ha=>by cases ha),?_,?_⟩
   ·simp [results,Tryz.results16,go_sem, *]
   ·rw [HE.out];exact Out.nil rfl
   ·rw [HE.out];exact .inr (.inl ⟨rfl,HCV.out.1,HCV.out.2,rfl⟩)
   ·exact ((HT3.out.below.setCell (by show w.heap.size≤w.heap.size+2;omega) _).setCell (by show w.heap.size≤w.heap.size+2;omega) _).setCell (by show w.heap.size≤w.heap.size+2;omega) _
 ·have hok:okP (fair s x)=false:=by simp [okP,h0]
  obtain ⟨ty,v,rfl⟩:=errIs_iface hu hok
  have HE:=Lib.hid (H1.out h0)
  have HU:=Lib.hid hu
  have HTL:=Lib.hid (show w.heap.size+3≤(((w.alloc (.cells #[.slice A1 n1 c1,.slice A2 n2 c2,.slice A3 s.pods.length c3] 26)).alloc (.cells #[.slice A5 n5 c5,.int .i64 x1,.int .i64 x2] 29)).alloc (.cells #[.slice none 0 0,.int .i64 0,.int .i64 0] 44)).heap.size from HT0.out.three.lt)
  clear h0 hu hok hb1 T1 HT0 HFAIR HFI
  go_wp2
  refine bodyPost_ret (v:=.tuple #[stateV none 0 0 0 0,.int .i64 0,.iface ty v]) ?_ rfl ⟨none,0,_,by rw [HE.out];rfl,?_,(fun a ha=>by cases ha),?_,?_⟩
  ·simp [results,Tryz.results16,go_sem, *]
  ·rw [HE.out];exact Out.nil rfl
  ·rw [HE.out]
   exact (((HU.out.put (by have:=HTL.out;show w.heap.size+2<_;omega) _).put (by have:=HTL.out;show w.heap.size+2<_;omega) _).put (by have:=HTL.out;show w.heap.size+2<_;omega) _).base (by have:=HTL.out;omega)
  ·exact ((HT1.out.below.setCell (by show w.heap.size≤w.heap.size+2;omega) _).setCell (by show w.heap.size≤w.heap.size+2;omega) _).setCell (by show w.heap.size≤w.heap.size+2;omega) _
structure RecM {α:Type} (size:Nat) (cells:α→List Value) (M:Nat→Prop) (w:World) (A:Option Addr) (xs:List α):Prop where
 recs:Recs size cells w w.heap.size A xs
 off:xs≠[]→∀ a,A=some a→a.block<w.heap.size∧¬ M a.block
section
variable {α:Type} {size:Nat} {cells:α→List Value} {M M':Nat→Prop} {w w':World} {A:Option Addr} {xs:List α}
theorem RecM.turn (h:RecM size cells M w A xs) (hb:But M w w') (hM:∀ k,k<w.heap.size→M' k→M k):RecM size cells M' w' A xs:=by
 refine ⟨?_,fun hne a ha=>⟨Nat.lt_of_lt_of_le (h.off hne a ha).1 hb.size,fun hm=>(h.off hne a ha).2 (hM _ (h.off hne a ha).1 hm)⟩⟩
 by_cases hne:xs=[]
 ·exact .inl hne
 rcases h.recs with h1 | ⟨b,o,e,h2,h3⟩
 ·exact .inl h1
 ·exact .inr ⟨b,o,e,Nat.lt_of_lt_of_le h2 hb.size,fun i hi j u hu=>(hb.cell (p:=⟨b,o+i * size+j,none⟩) h2 (h.off hne ⟨b,o,none⟩ e).2).trans (h3 i hi j u hu)⟩
theorem RecM.new {A:Option Addr} {xs:List α} (hr:Recs size cells w w.heap.size A xs) (ho:∀ a,A=some a→¬ M a.block):RecM size cells M w A xs :=
 ⟨hr,fun hne a ha=>⟨by
  rcases hr with h1 | ⟨b,o,e,h2,h3⟩
  ·exact absurd h1 hne
  ·rw [e] at ha;cases ha;exact h2,ho a ha⟩⟩
theorem RecM.below (h:RecM size cells M w A xs) (hb:Below w.heap.size w w'):RecM size cells M w' A xs:=h.turn (.of hb) fun _ _ h=>h
theorem RecM.more (h:RecM size cells M w A xs) (hM:∀ k,k<w.heap.size→M' k→M k):RecM size cells M' w A xs:=h.turn (.refl _ _) hM
end
def Chn (w:World):Nat→List MoveD→Prop
 | b,[]=>∃ cs,Bk w b cs 115∧cs[4]?=some (.pointer none)
 | b,m :: r=>∃ cs b',Bk w b cs 115∧cs[4]?=some (ptr19 b')∧(∀ j u,(cellsM m)[j]?=some u→cs[5+j]?=some u)∧Chn w b' r
theorem Chn.stay {w w':World} (hs:∀ k cs,Bk w k cs 115→∃ cs',Bk w' k cs' 115∧∀ j,4≤j→j<9→cs'[j]?=cs[j]?):∀ {l:List MoveD} {b:Nat},Chn w b l→Chn w' b l
 | [],b,⟨cs,h1,h2⟩=>by
  obtain ⟨cs',k1,k2⟩:=hs b cs h1
  exact ⟨cs',k1,(k2 4 (by omega) (by omega)).trans h2⟩
 | m :: r,b,⟨cs,b',h1,h2,h3,h4⟩=>by
  obtain ⟨cs',k1,k2⟩:=hs b cs h1
  refine ⟨cs',b',k1,(k2 4 (by omega) (by omega)).trans h2,fun j u hu=>?_,Chn.stay hs h4⟩
  have hj:j<(cellsM m).length:=(List.getElem?_eq_some_iff.1 hu).1
  have hj4:(cellsM m).length=4:=rfl
  exact (k2 (5+j) (by omega) (by omega)).trans (h3 j u hu)
theorem Chn.same {w w':World} (hs:∀ k cs,Bk w k cs 115→Bk w' k cs 115) {l:List MoveD} {b:Nat} (h:Chn w b l):Chn w' b l:=h.stay fun k cs hk=>⟨cs,hs k cs hk,fun _ _ _=>rfl⟩
def NdAt (x:SpecD) (M:Nat→Prop) (w:World) (b:Nat) (key:Value) (n:Nd):Prop :=
 (∃ A c ahead m,NodeB x n.t n.lf b A n.t.pods.length c key ahead m w∧RecM 8 cellsP M w A n.t.pods∧(A=none→c=0)∧n.t.pods.length≤c)∧M b∧Chn w b n.path.reverse
abbrev Wt (x:SpecD) (M:Nat→Prop) (w:World) (b:Nat) (n:Nd):Prop:=NdAt x M w b (.string (keyS (podsOnly n.t))) n
structure Rd (M M':Nat→Prop) (w w':World):Prop where
 but:But M w w'
 up:∀ k,M k→M' k
 old:∀ k,k<w.heap.size→M' k→M k
 node:∀ k cs,Bk w k cs 115→Bk w' k cs 115
section
variable {x:SpecD} {M M' M2:Nat→Prop} {w w' w2:World} {b:Nat} {key:Value} {n:Nd}
theorem Rd.refl (M:Nat→Prop) (w:World):Rd M M w w:=⟨.refl _ _,fun _ h=>h,fun _ _ h=>h,fun _ _ h=>h⟩
theorem Rd.of (h:Below w.heap.size w w'):Rd M M w w':=⟨.of h,fun _ h=>h,fun _ _ h=>h,fun k cs hk=>hk.below h hk.lt⟩
theorem Rd.trans (h:Rd M M' w w') (k:Rd M' M2 w' w2):Rd M M2 w w2 :=
 ⟨h.but.trans k.but h.old,fun i hi=>k.up i (h.up i hi),fun i hi hm=>h.old i hi (k.old i (Nat.lt_of_lt_of_le hi h.but.size) hm),fun i cs hi=>k.node i cs (h.node i cs hi)⟩
theorem NdAt.turn (h:NdAt x M w b key n) (k:Rd M M' w w'):NdAt x M' w' b key n:=by
 obtain ⟨⟨A,c,ahead,m,h1,h2,h3⟩,h4,h5⟩:=h
 exact ⟨⟨A,c,ahead,m,k.node _ _ h1,h2.turn k.but k.old,h3⟩,k.up _ h4,h5.same k.node⟩
theorem NdAt.lt (h:NdAt x M w b key n):b<w.heap.size:=by
 obtain ⟨⟨A,c,ahead,m,h1,h2,h3⟩,h4,h5⟩:=h
 exact h1.lt
end
structure Cx where
 s:SnapD
 x:SpecD
 depth:Nat
 steps:Nat
 hb:Nat
 mp:Nat
 w0:World
 A1:Option Addr
 A2:Option Addr
 A3:Option Addr
 A5:Option Addr
 c1:Nat
 c2:Nat
 c3:Nat
 c5:Nat
def Cx.geo (C:Cx):Nat:=geoB (movesB C.s.pods.length C.s.nodes.length) C.depth
structure Cx.Ok (C:Cx):Prop where
 args:WalkArgs C.s C.x C.A1 C.A2 C.A3 C.A5 C.s.nodes.length C.c1 C.s.loads.length C.c2 C.s.pods.length C.c3 C.x.wants.length C.c5 C.w0
 fair:(Proofs.YthapilknnhlmfaaGreatDoor.fair C.s C.x).1=0
 d40:C.depth≤40
 st:C.steps≤200000
abbrev Cx.LnC (C:Cx) (left:Int) (V:Nat→Value) (R:Nat→List Nat) (N:Nat) (cut:Bool) (M:Nat→Prop) (w:World):Prop :=
 Ln C.hb C.w0.heap.size (.slice C.A1 C.s.nodes.length C.c1) (.slice C.A2 C.s.loads.length C.c2) (.slice C.A3 C.s.pods.length C.c3) (.slice C.A5 C.x.wants.length C.c5) (.int .i64 C.x.preempts) (.int .i64 C.x.shifts) left C.mp V R N cut M w
abbrev Cx.GhC (C:Cx) (E:List Nd) (done:List MoveD) (S:List (StateD × Int)) (left:Int) (R:Nat→List Nat) (N:Nat) (cut:Bool) (Ps:ByteArray→List PurseD) (G:Nat→Nd):Prop :=
 Gh C.s.nodes C.s.loads C.x (firstD C.s) C.depth C.steps C.geo E done S left R N cut Ps G
structure Hx (C:Cx) (E:List Nd) (done:List MoveD) (S:List (StateD × Int)) (lm lg:Int) (V:Nat→Value) (R:Nat→List Nat) (N:Nat) (cut:Bool) (cnt:Nat) (f:Value→Value) (Ps:ByteArray→List PurseD) (M:Nat→Prop) (G:Nat→Nd) (w:World):Prop where
 ln:C.LnC lm V R N cut M w
 mp:Mp C.mp C.w0.heap.size cnt f Ps M w
 gh:C.GhC E done S lg R N cut Ps G
 wt:∀ r,r<77→∀ b ∈ R r,Wt C.x M w b (G b)
 base:Below C.w0.heap.size C.w0 w
theorem Cx.Ok.rises {C:Cx} (h:C.Ok):RiseN C.s.nodes∧RisesP C.s.pods∧RiseW C.x.wants∧C.s.nodes.length≤8∧C.s.loads.length≤8∧C.s.pods.length≤12∧0≤C.x.preempts∧C.x.preempts≤40∧0≤C.x.shifts∧C.x.shifts≤40:=fair_rises h.fair
theorem Cx.Ok.paths {C:Cx} (h:C.Ok):∀ Q:List (List MoveD),Q.Nodup→(∀ q ∈ Q,Path19 C.s.nodes C.s.loads C.x (firstD C.s) C.depth q)→Q.length≤C.geo:=fun Q hQ hq=>paths_geo h.rises.1 (show RisesP (firstD C.s).pods from h.rises.2.1) hQ hq
section
variable {C:Cx} {E:List Nd} {done done':List MoveD} {S S':List (StateD × Int)} {lm lg:Int} {V:Nat→Value} {R:Nat→List Nat} {N:Nat} {cut:Bool} {cnt:Nat} {f:Value→Value} {Ps:ByteArray→List PurseD} {M:Nat→Prop} {G:Nat→Nd} {w w':World}
theorem Hx.below (h:Hx C E done S lm lg V R N cut cnt f Ps M G w) (hb:Below w.heap.size w w'):Hx C E done S lm lg V R N cut cnt f Ps M G w' :=
 ⟨h.ln.below hb,h.mp.below hb,h.gh,fun r hr b hbR=>(h.wt r hr b hbR).turn (.of hb),h.base.trans (hb.mono h.base.size)⟩
theorem Hx.fresh (h:Hx C E done S lm lg V R N cut cnt f Ps M G w) {b:Nat} (hb:w.heap.size≤b):∀ r,r<77→b ∉ R r:=fun r hr hm=>by
 have:=(h.wt r hr b hm).lt
 omega
theorem Wt.q {x:SpecD} {b:Nat} {n:Nd} (h:Wt x M w b n) (hok:∀ p ∈ n.t.pods,p.Ok) (hl:n.t.pods.length≤1000):QNode b w:=by
 obtain ⟨⟨A,c,ahead,m,h1,h2,h3⟩,h4,h5⟩:=h
 exact ⟨_,keyS (podsOnly n.t),purseD x n.t n.lf,h1,rfl,key_size ⟨hok,i64_zero19,i64_zero19⟩ hl,rfl,rfl,rfl⟩
theorem Hx.meet (hC:C.Ok) {wr w5 w6:World} {t:StateD} {lf:Int} {bn:Nat} {A:Option Addr} {c:Nat} {ahead:Value} {m:MoveD} {path:List MoveD} {e:Ending}
  (h:Hx C E done S lm lg V R N cut cnt f Ps M G wr) (hlg:lm=lg) (hb5:Below wr.heap.size wr w5) (hbn:wr.heap.size≤bn) (hbn5:bn<w5.heap.size) (hchn:Chn w5 bn path.reverse)
  (hrec:RecM 8 cellsP (fun k=>M k∨k=bn) w5 A t.pods) (h0:A=none→c=0) (hpc:t.pods.length≤c)
  (hr:MeetTo19 C.x t lf bn A t.pods.length c ahead m C.hb C.w0.heap.size (.slice C.A1 C.s.nodes.length C.c1) (.slice C.A2 C.s.loads.length C.c2) (.slice C.A3 C.s.pods.length C.c3) (.slice C.A5 C.x.wants.length C.c5) (.int .i64 C.x.preempts) (.int .i64 C.x.shifts) lm C.mp cnt R N cut Ps (fun k=>M k∨k=bn) w5 e w6)
  (hB:NodeB C.x t lf bn A t.pods.length c (.string ⟨#[]⟩) ahead m w5)
  (hn:NOk C.s.nodes C.s.loads C.x (firstD C.s) C.depth ⟨t,lf,path⟩)
  (hnew:∀ X:List (List MoveD),(∀ q ∈ X++(E++rowsN R G 77).map Nd.path,q=[]∨∃ p m,q=p++[m]∧(p ∈ X∨∃ n ∈ E,n.path=p∧m ∈ done))→(X++(E++rowsN R G 77).map Nd.path).Nodup→((X.length+E.length:Nat):Int)=C.steps - lg →
   path ∉ X++(E++rowsN R G 77).map Nd.path∧(path=[]∨∃ p m,path=p++[m]∧(p ∈ X∨∃ n ∈ E,n.path=p∧m ∈ done')))
  (hd:∀ q ∈ done,q ∈ done') (hd':∀ q ∈ S',q ∈ S∨q=(t,lf)) :
  e=.returned (.tuple #[])∧∃ V' R' N' cut' cnt' f' Ps' M',Hx C E done' S' lm lg V' R' N' cut' cnt' f' Ps' M' (upd19 G bn ⟨t,lf,path⟩) w6∧cnt'≤cnt+2∧Rd M M' wr w6∧∀ r,r<77→∀ b' ∈ R' r,b'=bn∨∃ q,q<77∧b' ∈ R q:=by
 obtain ⟨he,hr⟩:=hr
 refine ⟨he,?_⟩
 have hfr:=h.fresh hbn
 have hnp:(firstD C.s).pods.length≤1000:=by have:=hC.rises.2.2.2.2.2.1;show C.s.pods.length≤1000;omega
 have hL5:=(h.ln.below hb5).more (M':=fun k=>M k∨k=bn) (fun k hk=>.inl hk) fun k hk=>by
  have hn0:=h.ln.n0
  rcases hk with hk | rfl
  ·exact (h.ln.below hb5).lt k hk
  ·exact ⟨by omega,hbn5⟩
 have hP5:=(h.mp.below hb5).more (M':=fun k=>M k∨k=bn) (fun k hk=>.inl hk) hL5.lt
 have R5:Rd M (fun k=>M k∨k=bn) wr w5:=⟨.of hb5,fun k hk=>.inl hk,fun k hk hm=>hm.resolve_right (by omega),fun k cs hk=>hk.below hb5 hk.lt⟩
 have hwt5:∀ r,r<77→∀ b' ∈ R r,Wt C.x (fun k=>M k∨k=bn) w5 b' (G b'):=fun r hr b' hb'=>(h.wt r hr b' hb').turn R5
 rcases hr with ⟨V',R',N',cut',f',Ps',cnt',M',hmr,hL6,hP6,hcnt,hup,hold,hF,hno,hB6⟩ | ⟨hwhy,hb6⟩
 ·have hgh:=h.gh.meet (lf:=lf) (path:=path) (S':=S') (done':=done') (hlg ▸ hmr) hfr hn hC.paths hnew hnp hd hd'
  have R6:Rd M M' wr w6:=⟨R5.but.trans hF.but fun k hk hm=>hm.resolve_right (by omega),fun k hk=>hup k (.inl hk),fun k hk hm=>(hold k (Nat.lt_of_lt_of_le hk hb5.size) hm).resolve_right (by omega),fun k cs hk=>hno k cs (by have:=hk.lt;omega) (hk.below hb5 hk.lt)⟩
  have hall:∀ r,r<77→∀ b' ∈ R' r,b'=bn∨∃ q,q<77∧b' ∈ R q:=fun r hr b' hb'=>by
   cases hmr with
   | skip _=>exact .inr ⟨r,hr,hb'⟩
   | put r' hr' _ _ =>
    by_cases e2:r=r'
    ·rw [e2,upd19_same] at hb'
     rcases List.mem_append.1 hb' with h1 | h1
     ·exact .inr ⟨r',hr',h1⟩
     ·rw [List.mem_singleton] at h1;exact .inl h1
    ·rw [upd19_other _ _ e2] at hb';exact .inr ⟨r,hr,hb'⟩
   | over r' q b2 l _ hr' hq _ _ hRq =>
    have h1:b' ∈ upd19 R r' (R r'++[bn]) r:=by
     by_cases e:r=q
     ·rw [e,upd19_same] at hb'
      rw [e,hRq];simp [hb']
     ·rw [upd19_other _ _ e] at hb';exact hb'
    by_cases e2:r=r'
    ·rw [e2,upd19_same] at h1
     rcases List.mem_append.1 h1 with h1 | h1
     ·exact .inr ⟨r',hr',h1⟩
     ·rw [List.mem_singleton] at h1;exact .inl h1
    ·rw [upd19_other _ _ e2] at h1;exact .inr ⟨r,hr,h1⟩
  refine ⟨V',R',N',cut',cnt',f',Ps',M',⟨hL6,hP6,hgh,fun r hr b' hb'=>?_,h.base.trans (R6.but.below h.base.size fun k hk=>(h.ln.lt k hk).1)⟩,hcnt,R6,hall⟩
  have hin:=hall r hr b' hb'
  rcases hin with rfl | ⟨q,hq,hbq⟩
  ·rw [upd19_same]
   have hchn6:Chn w6 b' path.reverse:=hchn.stay fun k cs hk=>by
    by_cases e:k=b'
    ·subst e
     obtain ⟨e1,_⟩:=hk.one hB
     refine ⟨_,hB6,fun j h4 h9=>?_⟩
     rw [e1]
     rcases j with _ | _ | _ | _ | j
     ·omega
     ·omega
     ·omega
     ·omega
     ·rfl
    ·exact ⟨cs,hno k cs e hk,fun _ _ _=>rfl⟩
   exact ⟨⟨A,c,ahead,m,hB6,hrec.turn hF.but hold,h0,hpc⟩,hup _ (.inr rfl),hchn6⟩
  ·have hne:b'≠bn:=fun e=>hfr q hq (e ▸ hbq)
   rw [upd19_other _ _ hne]
   exact (h.wt q hq b' hbq).turn R6
 ·have hgh:=h.gh.meet (lf:=lf) (path:=path) (S':=S') (done':=done') (MeetR.skip (x:=C.x) (t:=t) (lf:=lf) (b:=bn) (left:=lg) (hwhy.imp id .inl)) hfr hn hC.paths hnew hnp hd hd'
  have hbB:Below wr.heap.size wr w6:=hb5.trans (hb6.mono hb5.size)
  have hx6:=h.below hbB
  refine ⟨V,R,N,cut,cnt,f,Ps,M,⟨hx6.ln,hx6.mp,hgh,fun r hr b' hb'=>?_,hx6.base⟩,by omega,.of hbB,fun r hr b' hb'=>.inr ⟨r,hr,hb'⟩⟩
  rw [upd19_other _ _ (fun e:b'=bn=>hfr r hr (by rw [← e];exact hb'))]
  exact hx6.wt r hr b' hb'
end
end Go.Proofs.YthapilknnhlmfaaGreatDoor
namespace Go.Proofs.YthapilknnhlmfaaGreatDoor
set_option linter.unusedSimpArgs false
open Go.RowKit Go.Shelf
set_option linter.unusedVariables false
attribute [local go_sem] Oper.semAt_some
theorem all_len (ns:List NodeD) (ls:List LoadD) (x:SpecD) (t:StateD) (T:List MoveD):(allD ns ls x t T).length≤T.length:=by
 have h:=flat_lenQ (f:=tellD ns ls x t) (m:=1) (l:=T) fun m _=>by unfold tellD;split <;> simp
 rw [Nat.mul_one] at h
 exact h

set_option maxHeartbeats 12800000 in
set_option maxRecDepth 100000 in
theorem movesAll_any (ns:List NodeD) (ls:List LoadD) (x:SpecD) (t:StateD) (T:List MoveD) (hT:TriesOf ns t.pods T) (A1 A2 A3 A4 A5:Option Addr) (n1 c1 n2 c2 n3 c3 n4 c4 n5 c5:Nat) (w:World) (h:TidyArgs ns ls x t A1 A2 A4 A5 n1 n2 n4 c4 n5 w) :
  Calls Tryz.prog 93 #[.agg #[.slice A1 n1 c1,.slice A2 n2 c2,.slice A3 n3 c3],.agg #[.slice A5 n5 c5,.int .i64 x.preempts,.int .i64 x.shifts],.agg #[.slice A4 n4 c4,.int .i64 t.preempts,.int .i64 t.shifts]] w fun e w'=>∃ A c,e=.returned (.slice A (allD ns ls x t T).length c)∧Out 4 cellsM w' ((allD ns ls x t T).map (·.1)) A c∧(∀ a,A=some a→w.heap.size≤a.block)∧Below w.heap.size w w':=by
 have HPL:Hid ((allD ns ls x t T).length≤400000):=by
  show _≤_
  have h1:=all_len ns ls x t T
  have h2:=raw_small h.a.e1 h.a.l1 h.a.e4 h.a.l4 t.pods (by have:=h.a.e4;have:=h.a.l4;omega)
  rw [hT.1.length_eq] at h1
  exact Nat.le_trans h1 h2
 refine (callsIn_wide (n:=8)).1 ?_
 refine callsIn_of_wp_marks Tryz.func93 rfl trivial ?_ rfl
 simp only [Tryz.ntmps93,List.size_toArray,List.length_cons,List.length_nil,Nat.reduceAdd,Nat.reduceSub,Array.replicate_succ,Array.replicate_zero,List.push_toArray,List.append_toArray,List.nil_append,List.cons_append]
 gi_wp2_with fail
 have k3:Below w.heap.size w (((w.alloc (.cells #[.slice A1 n1 c1,.slice A2 n2 c2,.slice A3 n3 c3] 26)).alloc (.cells #[.slice A5 n5 c5,.int .i64 x.preempts,.int .i64 x.shifts] 29)).alloc (.cells #[.slice A4 n4 c4,.int .i64 t.preempts,.int .i64 t.shifts] 44)):=(((Below.refl _ w).alloc (Nat.le_refl _) _).alloc (by simp) _).alloc (by simp;omega) _
 have hs3:(((w.alloc (.cells #[.slice A1 n1 c1,.slice A2 n2 c2,.slice A3 n3 c3] 26)).alloc (.cells #[.slice A5 n5 c5,.int .i64 x.preempts,.int .i64 x.shifts] 29)).alloc (.cells #[.slice A4 n4 c4,.int .i64 t.preempts,.int .i64 t.shifts] 44)).heap.size=w.heap.size+3:=by simp
 generalize (((w.alloc (.cells #[.slice A1 n1 c1,.slice A2 n2 c2,.slice A3 n3 c3] 26)).alloc (.cells #[.slice A5 n5 c5,.int .i64 x.preempts,.int .i64 x.shifts] 29)).alloc (.cells #[.slice A4 n4 c4,.int .i64 t.preempts,.int .i64 t.shifts] 44))=V3 at *
 have R4:=Boxed.new V3 32 (.slice none 0 0)
 have k4:Below V3.heap.size V3 (V3.alloc (.cells #[.slice none 0 0] 32)):=(Below.refl _ V3).alloc (Nat.le_refl _) _
 refine ⟨trivial,(callsIn_wide.2 (doable_any A1 A2 A3 A4 A5 n1 c1 n2 c2 n3 c3 n4 c4 n5 c5 x.preempts x.shifts t.preempts t.shifts _)).mono ?_⟩
 rintro e w1 ⟨rfl,rfl⟩
 have hs4:(V3.alloc (.cells #[.slice none 0 0] 32)).heap.size=w.heap.size+4:=by simp [hs3]
 generalize V3.alloc (.cells #[.slice none 0 0] 32)=V4 at *
 have P7:=T3.new V4 [.slice A1 n1 c1,.slice A2 n2 c2,.slice A3 n3 c3] [.slice A5 n5 c5,.int .i64 x.preempts,.int .i64 x.shifts] [.slice A4 n4 c4,.int .i64 t.preempts,.int .i64 t.shifts] 26 29 44
 have hs7:(((V4.alloc (.cells #[.slice A1 n1 c1,.slice A2 n2 c2,.slice A3 n3 c3] 26)).alloc (.cells #[.slice A5 n5 c5,.int .i64 x.preempts,.int .i64 x.shifts] 29)).alloc (.cells #[.slice A4 n4 c4,.int .i64 t.preempts,.int .i64 t.shifts] 44)).heap.size=w.heap.size+7:=by simp [hs4]
 have R7:=((R4.alloc (.cells #[.slice A1 n1 c1,.slice A2 n2 c2,.slice A3 n3 c3] 26)).alloc (.cells #[.slice A5 n5 c5,.int .i64 x.preempts,.int .i64 x.shifts] 29)).alloc (.cells #[.slice A4 n4 c4,.int .i64 t.preempts,.int .i64 t.shifts] 44)
 generalize (((V4.alloc (.cells #[.slice A1 n1 c1,.slice A2 n2 c2,.slice A3 n3 c3] 26)).alloc (.cells #[.slice A5 n5 c5,.int .i64 x.preempts,.int .i64 x.shifts] 29)).alloc (.cells #[.slice A4 n4 c4,.int .i64 t.preempts,.int .i64 t.shifts] 44))=V7 at *
 have k7:Below w.heap.size w V7:=(k3.trans (k4.mono (by omega))).trans (P7.below.mono (by omega))
 have HA7:=Lib.hid (doable_stops 7 (by decide) ns ls x t T hT A1 A2 A3 A4 A5 n1 c1 n2 c2 n3 c3 n4 c4 n5 c5 w h (w.heap.size+4) V7 (by rw [← hs4];exact P7.one) (by rw [← hs4];exact P7.two) (by rw [← hs4];exact P7.three) k7)
 have HF0:Hid (PrpI w V7 [] (fun k=>k=w.heap.size+3∨(Value.slice none 0 0).ownBlock=some k) V7):=by
  refine ⟨_,rfl,?_,World.ownsRow_nil _ _ _ _,k7⟩
  rw [hs3] at R7;exact R7
 have HS7:=Lib.hid hs7
 clear k3 hs3 R4 k4 P7 R7 k7 h hs7
 gi_wp2
 simp only [Nat.add_assoc,Nat.reduceAdd]
 refine loopQ (α:=PropQ) rfl (by decide) (gf:=161) (lb:=#[.pointer (some ⟨w.heap.size+4,0,none⟩),.pointer (some ⟨w.heap.size+4+2,0,none⟩),.pointer (some ⟨w.heap.size+4+1,0,none⟩)]) rfl trivial (enters_of Tryz.func161 (by kernel_rfl) rfl)
  HA7.out (Below.refl _ _) (fun k hk=>by have:=HS7.out;omega) (fun _=>rfl) (PrpI w V7) (fun _ _=>False)
  (PrpA (fun b1 q=>#[.agg #[.slice A1 n1 c1,.slice A2 n2 c2,.slice A3 n3 c3],.agg #[.slice A5 n5 c5,.int .i64 x.preempts,.int .i64 x.shifts],.agg #[.slice A4 n4 c4,.int .i64 t.preempts,.int .i64 t.shifts],
   .pointer (some ⟨w.heap.size,0,none⟩),.pointer (some ⟨w.heap.size+1,0,none⟩),.pointer (some ⟨w.heap.size+2,0,none⟩),.slice none 0 0,.pointer (some ⟨w.heap.size+3,0,none⟩),.pointer (some ⟨b1,0,none⟩),
   .agg #[.slice A1 n1 c1,.slice A2 n2 c2,.slice A3 n3 c3],.agg #[.slice A5 n5 c5,.int .i64 x.preempts,.int .i64 x.shifts],.agg #[.slice A4 n4 c4,.int .i64 t.preempts,.int .i64 t.shifts],
   .func (.func 161) #[] #[.pointer (some ⟨w.heap.size+4,0,none⟩),.pointer (some ⟨w.heap.size+6,0,none⟩),.pointer (some ⟨w.heap.size+5,0,none⟩)],aggM q.1.1,stateV q.2.1 q.1.2.pods.length q.2.2 q.1.2.preempts q.1.2.shifts,undef,undef,undef,undef,undef]) (V7.heap.size+2))
  (fun s O A B hs hb=>PrpI.but (by have:=HS7.out;omega) hs hb) (fun s A B hs hb=>hs) (fun q a' A B hs hb=>PrpA.but hs hb)
  (fun k=>k=w.heap.size+3∨(Value.slice none 0 0).ownBlock=some k) (fun k hk=>by have:=HS7.out;simp [Value.ownBlock] at hk;omega) HF0.out ?assign ?body ?done ?stop
 case assign =>
  intro l pre O q V K hI hG hsz hK
  have HK:=Lib.hid hK
  clear hK hG hI HF0 HA7
  simp only [encQ]
  gi_wp2
  have kV:Below V.heap.size V (V.alloc (.cells #[.int .i64 q.1.1.kind,.int .i64 q.1.1.pod,.int .i64 q.1.1.node,.int .i64 q.1.1.over] 89)):=(Below.refl _ V).alloc (Nat.le_refl _) _
  have B1:Bf (V.alloc (.cells #[.int .i64 q.1.1.kind,.int .i64 q.1.1.pod,.int .i64 q.1.1.node,.int .i64 q.1.1.over] 89)) V.heap.size (cellsM q.1.1):=Bf.new V (cellsM q.1.1) 89 rfl
  exact HK.out _ _ kV ⟨V.heap.size,hsz,B1,rfl⟩
 case body =>
  rintro l pre O q a' V ⟨v,rfl,hv,hrow,hB⟩ ⟨b1,k1,j1,rfl⟩ hlo hsz hlt
  obtain ⟨i0,hi,hz0,hz1,hz2⟩:=infoQ infoMoveQ
  have hc:=hv.cell
  obtain ⟨⟨m0,m1⟩,m2,m3,m4⟩:=j1.cells4q
  have hpl:pre.length≤400000:=by have:=HPL.out;omega
  have HV:=Lib.hid (And.intro hv (And.intro hrow hB))
  have HZ:=Lib.hid hsz
  clear hv hrow hB hlo hsz hlt HF0 HA7 j1 k1
  gi_wp2_with (gi_at_builtin;refine wpListIn_append_where _ rfl _ _ 32 rfl (V7.heap.size+2) 89 i0 (.agg #[.int .i64 0,.int .i64 0,.int .i64 0,.int .i64 0]) 4 32 Tryz.underlying32 hi hz0 hz1 hz2 rfl (by decide) _ _ _ rfl (HV.out.2.1.alloc _) ⟨V.heap.size,0,none⟩ 1 1 (cellsM q.1.1) rfl rfl (fun j u hu=>by rw [add_zeroQ];exact (Bf.new V (cellsM q.1.1) 89 rfl).cell j u hu) (by simp [cellsM,Value.oneCell']) (by unfold maxLen;omega) (by omega) (by have:=HZ.out;simp;omega) ?_)
  intro v' w1 hown' hgrow hwh
  obtain ⟨g',cap',rfl⟩:=ownsRow_succ hown'
  have hv1:=(HV.out.1.alloc (.cells #[.int .i64 q.1.1.kind,.int .i64 q.1.1.pod,.int .i64 q.1.1.node,.int .i64 q.1.1.over] 89)).kept hgrow (HV.out.1.not_row (by decide) HV.out.2.1)
  have hv2:=hv1.set (.slice (some ⟨g',0,none⟩) (pre.length+1) cap')
  have hr2:=hown'.kept (grownBy_setCell' w1 (w.heap.size+3) (.slice (some ⟨g',0,none⟩) (pre.length+1) cap')) (.inr (hv1.not_row (by decide) hown').symm)
  have kb:But (fun k=>k=w.heap.size+3∨v.ownBlock=some k) V (w1.setCell ⟨w.heap.size+3,0,none⟩ (.slice (some ⟨g',0,none⟩) (pre.length+1) cap')) :=
   (((But.of ((Below.refl _ V).alloc (Nat.le_refl _) _)).trans (But.grown hgrow fun k e=>.inr e) fun _ _ h=>h).setO (p:=⟨w.heap.size+3,0,none⟩) (.inl rfl) _:But (fun k=>k=w.heap.size+3∨v.ownBlock=some k) V _)
  have kB:=HV.out.2.2.trans (kb.below HV.out.2.2.size fun k hk=>by
   rcases hk with e | e
   ·omega
   ·have:=(HV.out.2.1.lt k e).1;have:=HS7.out;omega)
  have hlt1:=(hown'.lt g' rfl).2
  have hc1:=hv1.cell
  have hf1:=hv1.frozen
  have HR:=Lib.hid (And.intro hv2 (And.intro hr2 (And.intro kb (And.intro kB (And.intro hwh hlt1)))))
  clear hv1 hv2 hr2 kb kB hwh hlt1 hown' hgrow
  gi_wp2
  refine ⟨HR.out.2.2.1,fun k=>k=w.heap.size+3∨(Value.slice (some ⟨g',0,none⟩) (pre.length+1) cap').ownBlock=some k,⟨_,rfl,HR.out.1,?_,HR.out.2.2.2.1⟩,fun k hk=>?_⟩
  ·rw [List.length_append,rowQ_snoc];exact HR.out.2.1
  ·rcases hk with e | e
   ·exact ⟨by rw [e];exact HR.out.1.lt,.inl (.inl e)⟩
   ·have h1:g'=k:=by simpa [Value.ownBlock] using e
    refine ⟨by have:=HR.out.2.2.2.2.2;simp [World.setCell];omega,?_⟩
    rcases HR.out.2.2.2.2.1 k e with e' | e'
    ·exact .inl (.inr e')
    ·exact .inr (by have:V.heap.size+1≤k:=e';omega)
 case done =>
  rintro d xs O W' hd hS ⟨v,rfl,hv,hrow,hB⟩ hK
  have hlen:xs.length=(allD ns ls x t T).length:=by have:=congrArg List.length hS;simpa using this
  have hrq:rowQ xs=((allD ns ls x t T).map (·.1)).flatMap cellsM:=by rw [← hS,rowQ,outQ,List.map_map,List.flatMap_map];rfl
  rw [hrq] at hrow
  obtain ⟨A,c,rfl,hre,hbs⟩:=recsM18 (by rw [List.length_map];exact hlen) hrow
  have ho:=out_of_own lenM18 (by rw [List.length_map];exact hlen) hrow
  have HL:=Lib.hid hlen
  have HD:=Lib.hid hd
  have hc:=hv.cell
  have kp:But (fun k=>k=d) W' (W'.putObj d (.deferred none)):=.put _ rfl
  have HB3:=Lib.hid (hB.trans (kp.below hB.size fun k hk=>by have:=HD.out;have:=HS7.out;omega))
  have HO3:=Lib.hid (ho.but kp fun a ha e=>by have h1:=hbs a ha;have h2:=HD.out;omega)
  have HBS:=Lib.hid hbs
  clear hv hrow hB hS HF0 HA7 hd hlen kp hrq hre ho hbs
  gi_wp2
  refine ⟨by simp,.inl ⟨_,_,rfl,run_takeDeferred hK,?_⟩⟩
  exact ⟨_,results_tmp rfl _ _ _,A,c,by rw [← HL.out];rfl,HO3.out,fun a ha=>by have h1:=HBS.out a ha;have h2:=HS7.out;omega,HB3.out⟩
 case stop=>exact fun _ _ _ _ _ h _=>h.elim
end Go.Proofs.YthapilknnhlmfaaGreatDoor
namespace Go.Proofs.YthapilknnhlmfaaGreatDoor
set_option linter.unusedSimpArgs false
open Go.RowKit
set_option linter.unusedVariables false
theorem Out.alloc {α:Type} {size:Nat} {cells:α→List Value} {w:World} {xs:List α} {A:Option Addr} {c:Nat} (h:Out size cells w xs A c) (o:Obj):Out size cells (w.alloc o) xs A c :=
 ⟨h.1,h.2.1,h.2.2.1,(h.2.2.2.below ((Below.refl _ w).alloc (Nat.le_refl _) o) (Nat.le_refl _)).more (by simp)⟩
theorem recs_newG {α:Type} {size:Nat} {cells:α→List Value} (hc:∀ x,(cells x).length=size) (w:World) (t:TypeId) (xs:List α) (cs:Array Value) (hcs:cs=(xs.flatMap cells).toArray) {g:Nat} (hg:g=w.heap.size):Recs size cells (w.alloc (.cells cs t)) (g+1) (some ⟨g,0,none⟩) xs:=by
 subst hcs hg
 refine .inr ⟨w.heap.size,0,rfl,by omega,fun i hi j u hu=>?_⟩
 have hj:j<size:=by have:=(List.getElem?_eq_some_iff.1 hu).1;rwa [hc] at this
 have h2:=flatMap_get (size:=size) hc hi hj
 rw [hu] at h2
 simpa using h2
def upX12:SpecD:=⟨[],0,0⟩
theorem Bf.laterS {W v w':World} (h0:Bf v W.heap.size [.slice none 0 0,.int .i64 0,.int .i64 0]) (hb:Below v.heap.size v w') {x y z:Value} :
  Bf (((w'.setCell ⟨W.heap.size,0,none⟩ x).setCell ⟨W.heap.size,1,none⟩ y).setCell ⟨W.heap.size,2,none⟩ z) W.heap.size [x,y,z] :=
 ((((h0.below hb h0.lt).set 0 x).set 1 y).set 2 z)
theorem Out.put3 {l:List PodD} {w:World} {A:Option Addr} {c g:Nat} (h:Out 8 cellsP w l A c) (hp:∀ a,A=some a→a.block≠g) {x y z:Value}:Out 8 cellsP (((w.setCell ⟨g,0,none⟩ x).setCell ⟨g,1,none⟩ y).setCell ⟨g,2,none⟩ z) l A c :=
 ((h.set (p:=⟨g,0,none⟩) hp x).set (p:=⟨g,1,none⟩) hp y).set (p:=⟨g,2,none⟩) hp z
theorem ErrIs.put3 {p:Int × Int} {B g:Nat} {w:World} {u:Value} (h:ErrIs p B w u) (hq:g<B) {x y z:Value}:ErrIs p B (((w.setCell ⟨g,0,none⟩ x).setCell ⟨g,1,none⟩ y).setCell ⟨g,2,none⟩ z) u :=
 ((h.put (q:=⟨g,0,none⟩) hq x).put (q:=⟨g,1,none⟩) hq y).put (q:=⟨g,2,none⟩) hq z
end Go.Proofs.YthapilknnhlmfaaGreatDoor
