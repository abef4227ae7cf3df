/- Joined texts, part 22: T1 T2 T5 T6. -/
import Derived.Test.YthapilknnhlmfaaGreatDoorZ21
import Derived.Test.YthapilknnhlmfaaGreatDoorZ13
import Derived.Sort.Grow
import Derived.Test.YthapilknnhlmfaaGreatDoorZ20
import Derived.Test.YthapilknnhlmfaaGreatDoorZ12

namespace Go.Proofs.YthapilknnhlmfaaGreatDoor
set_option linter.unusedSimpArgs false
open Go.RowKit Go.Shelf Go.Sort
set_option linter.unusedVariables false
theorem own_later19 {w w':World} {base n size:Nat} {e:TypeId} {v:Value} {xs:List Value} (h:w.ownsRow base e size v n xs) (hb:Below w.heap.size w w'):w'.ownsRow base e size v n xs:=by
 refine ⟨h.1,?_⟩
 rcases h.2 with h0 | ⟨g,cap,cur,hv,hbb,hg,rest⟩
 ·exact .inl h0
 ·exact .inr ⟨g,cap,cur,hv,hbb,(hb.block g (Array.getElem?_eq_some_iff.1 hg).1).trans hg,rest⟩
def lenS:Value→Nat
 | .slice _ n _=>n
 | _=>0
theorem revM_any (B:Nat) (v:Value) (xs:List MoveD) (m:Nat) (w:World) (hB:B≤w.heap.size) (hm:m=xs.length) (hown:w.ownsRow B 89 4 v m (xs.flatMap cellsM)) (hl:m≤2000000) :
  Calls Tryz.prog 94 #[v] w fun e w'=>e=.returned (.tuple #[])∧w'.ownsRow B 89 4 v m (xs.reverse.flatMap cellsM)∧Below B w w':=by
 subst hm
 rcases hown.2 with ⟨rfl,h0⟩ | ⟨g,cap,cur,rfl,hbase,hb,h1,h2,h3,h4⟩
 ·have h0':=List.eq_nil_of_length_eq_zero h0
  subst h0'
  have hcon:=AnyQ.slices_Reverse_empty (P:=Tryz.prog) Tryz.laysRevM none 0 w
  change Calls Tryz.prog 94 _ _ _ at hcon
  refine hcon.mono fun e w' ⟨he,hw⟩=>⟨he,by subst hw;exact hown,by subst hw;exact Below.refl _ _⟩
 ·have hH:HoldsK cellsM 4 w g 0 xs.toArray:=by
   unfold HoldsK
   rw [flatK_listM]
   refine podsHeld hb ?_
   rw [flatMap_len lenM18]
   exact h4
  have hcon:=AnyQ.slices_Reverse (P:=Tryz.prog) Tryz.laysRevM 4 laysAggM laysSizeM cellsM lenM18 oneM18 g 0 cap xs.toArray w hH (by simp;omega)
  change Calls Tryz.prog 94 _ _ _ at hcon
  refine hcon.mono fun e w' ⟨he,n,hw⟩=>⟨he,?_,?_⟩
  ·subst hw
   have hsz:xs.reverse.length=xs.length:=by simp
   have hF:flatK cellsM 4 xs.toArray.reverse=(xs.reverse.flatMap cellsM).toArray:=by
    have h:=flatK_listM xs.reverse
    rw [← h];simp
   show (putRow id (Sort.ahead w n) g 0 (flatK cellsM 4 xs.toArray.reverse)).ownsRow _ _ _ _ _ _
   rw [hF,← grow_empty (putRow id (Sort.ahead w n) g 0 (xs.reverse.flatMap cellsM).toArray)]
   refine ⟨by rw [flatMap_len lenM18,hsz],.inr ⟨g,cap,_,rfl,hbase,heap_sortedV _ hb,h1,h2,by simpa [putCells] using h3,?_⟩⟩
   have hle:(xs.reverse.flatMap cellsM).length≤cur.size:=by rw [flatMap_len lenM18,hsz,h3];omega
   have ht:=take_putCellsV cur (xs.reverse.flatMap cellsM) hle
   rw [flatMap_len lenM18,hsz] at ht
   exact ht
  ·subst hw
   rw [← grow_empty (putRowK cellsM 4 (Sort.ahead w n) g 0 xs.toArray.reverse)]
   exact (Below.refl B w).grown (grownBy_sortedV _) hB (fun j hj=>by cases hj;exact hbase)
theorem Chn.lt {w:World} {b:Nat}:∀ {l:List MoveD},Chn w b l→b<w.heap.size
 | [],⟨_,h,_⟩=>h.lt
 | _ :: _,⟨_,_,h,_⟩=>h.lt
def RowRel (P:List MoveD) (w:World) (v i:Value) (wr:World):Prop :=
 ∃ (acc rest:List MoveD) (b:Nat),P=acc++rest∧v=ptr19 b∧Chn w b rest∧wr.ownsRow w.heap.size 89 4 i acc.length (acc.flatMap cellsM)∧Below w.heap.size w wr
set_option maxHeartbeats 3200000 in
set_option maxRecDepth 100000 in
theorem row_any {P:List MoveD} {b:Nat} {w:World} (h:Chn w b P) (hl:P.length≤40) :
  Calls Tryz.prog 52 #[ptr19 b] w fun e w'=>∃ A c,e=.returned (.slice A P.length c)∧Out 4 cellsM w' P.reverse A c∧(∀ a,A=some a→w.heap.size≤a.block)∧Below w.heap.size w w':=by
 have H:=Lib.hid h
 clear h
 go_enter Tryz.func52,Tryz.ntmps52
 go_wp2
 go_loopw [0,3] (fun v i wr=>RowRel P w v i wr) (fun _ i _=>100 - lenS i)
 case atStart=>exact ⟨[],P,b,rfl,rfl,H.out,World.ownsRow_nil _ _ _ _,Below.refl _ _⟩
 case round =>
  obtain ⟨acc,rest,b',hP,rfl,hch,hown,hB⟩:=hrel
  obtain ⟨A,c,rfl,-,-⟩:=recsM18 rfl hown
  have HOW:=Lib.hid hown
  have HB:=Lib.hid hB
  have HP:=Lib.hid hP
  have hsz:=hB.size
  have hal:acc.length≤40:=by have:=congrArg List.length hP;rw [List.length_append] at this;omega
  clear hown hB hP
  cases rest with
  | nil =>
   obtain ⟨cs,hbk0,hc4⟩:=hch
   have hbk:=hbk0.below HB.out hbk0.lt
   have x4:=hbk.cell 4 _ hc4
   have hp:=HOW.out
   have HRV:=Lib.hid (fun w2 (hk:Below wr.heap.size wr w2)=>revM_any w.heap.size _ acc acc.length w2 (Nat.le_trans hsz hk.size) rfl (own_later19 hp hk) (by omega))
   clear hc4 hbk hbk0 hp
   go_wp2_with (refine ((HRV.out _ (Below.refl _ _)).mono ?_);rintro e w2 ⟨rfl,ho2,hB2⟩)
   have HO2:=Lib.hid ho2
   have HB2:=Lib.hid hB2
   clear ho2 hB2
   go_wp2
   go_ret
   have e:P=acc:=by have:=HP.out;rw [List.append_nil] at this;exact this
   obtain ⟨A',c',e1,-,g2⟩:=recsM18 (by simp) HO2.out
   injection e1 with e1 _ e2
   subst e1 e2
   exact ⟨A,c,by rw [e];rfl,by rw [e];exact out_of_own lenM18 (by simp) HO2.out,g2,HB.out.trans HB2.out⟩
  | cons m r =>
   obtain ⟨cs,b2,hbk0,hc4,hc5,hch2⟩:=hch
   have hbk:=hbk0.below HB.out hbk0.lt
   have x4:=hbk.cell 4 _ hc4
   have x5:=hbk.cell 5 _ (hc5 0 _ rfl)
   have x6:=hbk.cell 6 _ (hc5 1 _ rfl)
   have x7:=hbk.cell 7 _ (hc5 2 _ rfl)
   have x8:=hbk.cell 8 _ (hc5 3 _ rfl)
   have hbl:=hbk0.lt
   have HX4:Hid (∀ w1,Below w.heap.size wr w1→w1.cell? ⟨b',4,none⟩=some (ptr19 b2)):=fun w1 hw=>(hw.cell (p:=⟨b',4,none⟩) hbl).trans x4
   have HCH:=Lib.hid hch2
   clear hbk hbk0 hc4 hc5 hch2
   go_wp2_with (at_builtin;refine wpList_pushR 32 89 (.agg #[.int .i64 0,.int .i64 0,.int .i64 0,.int .i64 0]) 4 32 Tryz.underlying32 infoMoveQ rfl (by decide) (by decide) rfl (.tmp 13) (.tmp 18) rfl w.heap.size _ acc.length (acc.flatMap cellsM) (cellsM m) rfl (oneM18 m) HOW.out hsz (by omega) rfl rfl ?_;intro v' w1 hown1 hB1 hs1;have y4:=HX4.out w1 hB1;have HO1:=Lib.hid hown1;have HB1:=Lib.hid hB1;obtain ⟨A7,c7,rfl,-,-⟩:=recsM18 (n:=acc.length+1) (zs:=acc++[m]) (by simp) (by simpa using hown1);clear hown1 hB1)
   go_roundw
   case rel=>exact ⟨acc++[m],r,b2,by rw [HP.out,List.append_assoc];rfl,rfl,HCH.out,by simpa using HO1.out,HB.out.trans HB1.out⟩
   case measure=>simp [lenS];omega
end Go.Proofs.YthapilknnhlmfaaGreatDoor
namespace Go.Proofs.YthapilknnhlmfaaGreatDoor
set_option linter.unusedSimpArgs false
open Go.RowKit
set_option linter.unusedVariables false
abbrev verdV (kind:Int) (A:Option Addr) (n c:Nat) (steps:Int):Value:=.agg #[.int .i64 kind,.slice A n c,.int .i64 steps]
theorem within19_any (n most:Int) (w:World):Calls Tryz.prog 20 #[.int .i64 n,.int .i64 most] w fun e w'=>e=.returned (.bool (decide (0≤n∧n≤most)))∧Below w.heap.size w w':=by
 by_cases h1:0≤n
 ·by_cases h2:n≤most
  ·rw [show decide (0≤n∧n≤most)=true by simp [h1,h2]]
   go_enter Tryz.func20,Tryz.ntmps20
   go_wp2
   go_ret
   exact ⟨rfl,Below.refl _ _⟩
  ·rw [show decide (0≤n∧n≤most)=false by simp [h1,h2]]
   go_enter Tryz.func20,Tryz.ntmps20
   go_wp2
   go_ret
   exact ⟨rfl,Below.refl _ _⟩
 ·rw [show decide (0≤n∧n≤most)=false by simp [h1]]
  go_enter Tryz.func20,Tryz.ntmps20
  go_wp2
  go_ret
  exact ⟨rfl,Below.refl _ _⟩
theorem verdict_none (cut:Bool) (steps:Int) (w:World):Calls Tryz.prog 24 #[.pointer none,.bool cut,.int .i64 steps] w fun e w'=>e=.returned (verdV (if cut=true then 3 else 2) none 0 0 steps)∧Below w.heap.size w w':=by
 have k0:Below w.heap.size w (w.alloc (.cells #[.int .i64 0,.slice none 0 0,.int .i64 0] 34)):=(Below.refl _ w).alloc (Nat.le_refl _) _
 cases cut
 ·go_enter Tryz.func24,Tryz.ntmps24
  go_wp2
  refine bodyPost_ret (v:=verdV 2 none 0 0 steps) ?_ rfl ?_
  ·simp [results,Tryz.results24,go_sem, *]
  ·exact ⟨rfl,(Below.refl _ w).alloc (Nat.le_refl _) _⟩
 ·go_enter Tryz.func24,Tryz.ntmps24
  go_wp2
  refine bodyPost_ret (v:=verdV 3 none 0 0 steps) ?_ rfl ?_
  ·simp [results,Tryz.results24,go_sem, *]
  ·exact ⟨rfl,(Below.refl _ w).alloc (Nat.le_refl _) _⟩
theorem verdict_found {P:List MoveD} {b:Nat} {w:World} (h:Chn w b P) (hl:P.length≤40) (cut:Bool) (steps:Int) :
  Calls Tryz.prog 24 #[ptr19 b,.bool cut,.int .i64 steps] w fun e w'=>∃ A c,e=.returned (verdV 1 A P.length c steps)∧Out 4 cellsM w' P.reverse A c∧(∀ a,A=some a→w.heap.size≤a.block)∧Below w.heap.size w w':=by
 have k0:Below w.heap.size w (w.alloc (.cells #[.int .i64 0,.slice none 0 0,.int .i64 0] 34)):=(Below.refl _ w).alloc (Nat.le_refl _) _
 have hbx:=Bf.new w [.int .i64 0,.slice none 0 0,.int .i64 0] 34 rfl
 have HC:Hid (Chn (w.alloc (.cells #[.int .i64 0,.slice none 0 0,.int .i64 0] 34)) b P):=h.same fun k cs hk=>hk.below k0 hk.lt
 have hsz:(w.alloc (.cells #[.int .i64 0,.slice none 0 0,.int .i64 0] 34)).heap.size=w.heap.size+1:=by simp
 have HR:=Lib.hid (row_any HC.out hl)
 clear h
 go_enter Tryz.func24,Tryz.ntmps24
 go_wp2_with fail
 refine HR.out.mono ?_
 rintro e w1 ⟨A,c,rfl,h1,h2,h3⟩
 have B1:=hbx.below h3 hbx.lt
 obtain ⟨x0,x1,x2,x3⟩:=B1.cells3
 have z0:=B1.frozen 0
 have z1:=B1.frozen 1
 have z2:=B1.frozen 2
 have hz1:w.heap.size+1≤w1.heap.size:=by have:=h3.size;omega
 have kw1:=k0.trans (h3.mono (by omega))
 have HO:=Lib.hid h1
 have HA:=Lib.hid (show ∀ a,A=some a→w.heap.size+1≤a.block from fun a ha=>by have:=h2 a ha;omega)
 clear h1 h2 h3 B1 HC HR hbx
 go_wp2
 refine bodyPost_ret (v:=verdV 1 A P.length c steps) ?_ rfl ?_
 ·simp [results,Tryz.results24,go_sem, *]
 ·refine ⟨A,c,rfl,?_,fun a ha=>by have:=HA.out a ha;omega,?_⟩
  ·have hs:∀ V:World,(∀ a,A=some a→w.heap.size+1≤a.block)→Out 4 cellsM V P.reverse A c→∀ (i:Nat) (v:Value),Out 4 cellsM (V.setCell ⟨w.heap.size,i,none⟩ v) P.reverse A c:=fun V ha ho i v=>ho.but (O:=fun k=>k=w.heap.size) (.set _ _ rfl) fun a hA e=>by have:=ha a hA;have e':a.block=w.heap.size:=e;omega
   exact hs _ HA.out (hs _ HA.out (hs _ HA.out HO.out 0 _) 1 _) 2 _
  ·repeat (first | with_reducible exact kw1 | with_reducible refine Below.setCell ?_ ?_ _)
   all_goals exact Nat.le_refl _
def Ends19 (s:SnapD) (x:SpecD) (depth steps took:Int) (w:World) (v:Value) (w':World):Prop :=
 (∃ A c path u,v=verdV 1 A path.length c took∧Out 4 cellsM w' path A c∧(∀ a,A=some a→w.heap.size≤a.block)∧Way s.nodes s.loads x path (firstD s) u∧goalD x.wants u.pods=true∧(path.length:Int)≤depth) ∨
 (v=verdV 2 none 0 0 took∧¬ Plan19 s.nodes s.loads x (firstD s) depth.toNat) ∨
 (v=verdV 3 none 0 0 took∧took=steps∧steps<geoB (movesB s.pods.length s.nodes.length) depth.toNat)
abbrev InR19 (depth steps:Int):Prop:=(0≤depth∧depth≤40)∧(0≤steps∧steps≤200000)
def PlanTo (s:SnapD) (x:SpecD) (depth steps:Int) (w:World) (e:Ending) (w':World):Prop :=
 ∃ v u,e=.returned (.tuple #[v,u])∧Below w.heap.size w w' ∧
  (((fair s x).1≠0∧v=verdV 0 none 0 0 0∧ErrIs (fair s x) w.heap.size w' u) ∨
  ((fair s x).1=0∧¬ InR19 depth steps∧v=verdV 0 none 0 0 0∧u=.iface 42 (.int .i64 3)) ∨
  ((fair s x).1=0∧InR19 depth steps∧u=.nilIface∧((codeS s.nodes s.loads x (firstD s)≠0∧v=verdV 2 none 0 0 0) ∨
   (codeS s.nodes s.loads x (firstD s)=0∧∃ took,0≤took∧took≤steps∧Ends19 s x depth steps took w v w'))))
theorem Bk.setAll {g:Nat} {T:TypeId}:∀ {vs:List Value} {o:Nat} {w:World} {cs:List Value},Bk w g cs T→o+vs.length≤cs.length→∃ cs',Bk (w.setCells g o vs) g cs' T∧cs'.length=cs.length∧(∀ j,j<o→cs'[j]?=cs[j]?)∧∀ j,j<vs.length→cs'[o+j]?=vs[j]?
 | [],o,w,cs,h,_=>⟨cs,h,rfl,fun _ _=>rfl,fun j hj=>by simp at hj⟩
 | v :: r,o,w,cs,h,hl=>by
  rw [List.length_cons] at hl
  obtain ⟨cs',h1,h2,h3,h4⟩:=Bk.setAll (vs:=r) (o:=o+1) (h.set o v) (by rw [List.length_set];omega)
  refine ⟨cs',h1,by rw [h2];simp,fun j hj=>?_,fun j hj=>?_⟩
  ·rw [h3 j (by omega),List.getElem?_set,if_neg (by omega)]
  ·cases j with
   | zero =>
    rw [Nat.add_zero,h3 o (by omega),List.getElem?_set,if_pos rfl,if_pos (by omega)]
    rfl
   | succ j =>
    have:=h4 j (by rw [List.length_cons] at hj;omega)
    rw [show o+(j+1)=o+1+j by omega,this]
    rfl
theorem store_new (V:World) (zs:Array Value) (T:TypeId) (vs:List Value) (hl:vs.length=zs.size) (h1:∀ v ∈ vs,v.oneCell'=true) {b:Nat} (hb:b=V.heap.size) :
  ∃ W2,(storeCells ⟨b,0,none⟩ vs 0).run Tryz.prog (V.alloc (.cells zs T))=.ok () W2∧Bk W2 b vs T∧Below V.heap.size V W2∧W2.heap.size=V.heap.size+1:=by
 subst hb
 have hz:zs.toList.length=zs.size:=Array.length_toList
 have hbk:Bk (V.alloc (.cells zs T)) V.heap.size zs.toList T:=by
  have:=heap_alloc_new V (.cells zs T)
  exact this
 have hrun:=run_storeCells_cells (P:=Tryz.prog) V.heap.size 0 vs 0 (V.alloc (.cells zs T)) (fun j hj=>by
  have hj':j<zs.toList.length:=by omega
  simp only [Nat.zero_add]
  rw [hbk.cell j _ (List.getElem?_eq_getElem hj')];rfl) (fun j hj=>by simp only [Nat.zero_add];exact hbk.frozen j) h1
 obtain ⟨cs',k1,k2,-,k4⟩:=Bk.setAll (vs:=vs) (o:=0) hbk (by omega)
 have e:cs'=vs:=List.ext_getElem? fun j=>by
  by_cases hj:j<vs.length
  ·have:=k4 j hj;rw [Nat.zero_add] at this;exact this
  ·rw [List.getElem?_eq_none (l:=cs') (by omega),List.getElem?_eq_none (l:=vs) (by omega)]
 refine ⟨_,hrun,by rw [e] at k1;exact k1,((Below.refl _ V).alloc (Nat.le_refl _) _).grown (grown_setCells _ _ _ _) (by simp) (fun j hj=>by cases hj;exact Nat.le_refl _),by rw [Go.Sort.size_setCells];simp⟩
theorem hunt_store (V:World) (a0 a1 a2 a3 a4 a5 a6 a7:Value) (h0:a0.oneCell'=true) (h1:a1.oneCell'=true) (h2:a2.oneCell'=true) (h3:a3.oneCell'=true) (h4:a4.oneCell'=true) (h5:a5.oneCell'=true) (h6:a6.oneCell'=true) (h7:a7.oneCell'=true) {b:Nat} (hb:b=V.heap.size) :
  ∃ W2,(storeCells ⟨b,0,none⟩ ((((((((Tryz.zeroCells77.toList.set 0 a0).set 1 a1).set 2 a2).set 3 a3).set 4 a4).set 5 a5).set 6 a6).set 7 a7) 0).run Tryz.prog (V.alloc (.cells Tryz.zeroCells77 77))=.ok () W2∧Bk W2 b ([a0,a1,a2,a3,a4,a5,a6,a7]++((List.range 77).map (fun _=>Value.slice none 0 0)++[.int .i64 0,.bool false])) 77∧Below V.heap.size V W2∧W2.heap.size=V.heap.size+1:=by
 have e:((((((((Tryz.zeroCells77.toList.set 0 a0).set 1 a1).set 2 a2).set 3 a3).set 4 a4).set 5 a5).set 6 a6).set 7 a7)=[a0,a1,a2,a3,a4,a5,a6,a7]++((List.range 77).map (fun _=>Value.slice none 0 0)++[.int .i64 0,.bool false]):=by kernel_rfl
 rw [e]
 refine store_new V _ _ _ (by kernel_rfl) ?_ hb
 intro v hv
 rcases List.mem_append.1 hv with hv | hv
 ·simp only [List.mem_cons,List.not_mem_nil,or_false] at hv
  rcases hv with rfl | rfl | rfl | rfl | rfl | rfl | rfl | rfl <;> assumption
 ·rcases List.mem_append.1 hv with hv | hv
  ·obtain ⟨_,_,rfl⟩:=List.mem_map.1 hv;rfl
  ·simp only [List.mem_cons,List.not_mem_nil,or_false] at hv
   rcases hv with rfl | rfl <;> rfl
abbrev huntO (C:Cx):List Value:=huntL (.slice C.A1 C.s.nodes.length C.c1) (.slice C.A2 C.s.loads.length C.c2) (.slice C.A3 C.s.pods.length C.c3) (.slice C.A5 C.x.wants.length C.c5) (.int .i64 C.x.preempts) (.int .i64 C.x.shifts) C.steps C.mp (fun _=>.slice none 0 0) 0 false
theorem Hx.start {C:Cx} (hm:C.mp=C.w0.heap.size) (hh:C.hb=C.w0.heap.size+1) (G:Nat→Nd) {W:World} (hbk:Bk W C.hb (huntO C) 77) (k2:Below (C.w0.alloc (.map #[] 0)).heap.size (C.w0.alloc (.map #[] 0)) W) (hs2:W.heap.size=C.w0.heap.size+2) :
  Hx C [] [] [] C.steps C.steps (fun _=>.slice none 0 0) (fun _=>[]) 0 false 0 (fun _=>.slice none 0 0) (fun _=>[]) (fun k=>k=C.w0.heap.size∨k=C.w0.heap.size+1) G W:=by
 have k1:Below C.w0.heap.size C.w0 (C.w0.alloc (.map #[] 0)):=(Below.refl _ _).alloc (Nat.le_refl _) _
 have hs1:(C.w0.alloc (.map #[] 0)).heap.size=C.w0.heap.size+1:=by simp
 have hl:∀ k,(k=C.w0.heap.size∨k=C.w0.heap.size+1)→C.w0.heap.size≤k∧k<W.heap.size:=fun k hk=>by rw [hs2];omega
 have hnb:∀ (k:Nat),(Value.slice none 0 0).ownBlock=some k→False:=fun k hk=>by simp [Value.ownBlock] at hk
 refine ⟨⟨hbk,sumR_none fun _ _=>rfl,.inr hh,fun r _=>PRow.nil _ _,fun r _ k hk=>(hnb k hk).elim,fun r q _ _ _ k hk=>(hnb k hk).elim,hl,by rw [hs2];omega⟩,?_,Gh.start _ _ _ _ _ (by omega) _ _,fun r _ b hb=>by simp at hb,k1.trans (k2.mono (by omega))⟩
 have hmp:Mp C.mp C.w0.heap.size 0 (fun _=>.slice none 0 0) (fun _=>[]) (fun k=>k=C.w0.heap.size) (C.w0.alloc (.map #[] 0)) :=
  ⟨by rw [hm];exact Tells.made _ _ _ _,hm,fun _=>PuRow.nil _ _,fun _ k hk=>(hnb k hk).elim,fun _ _ _ k hk=>(hnb k hk).elim,fun k hk=>by rw [hs1];omega,fun _=>Nat.le_refl _⟩
 exact (hmp.below k2).more (fun k hk=>.inl hk) hl

set_option maxHeartbeats 12800000 in
set_option maxRecDepth 100000 in
theorem plan_any (s:SnapD) (x:SpecD) (depth steps:Int) (A1 A2 A3 A5:Option Addr) (n1 c1 n2 c2 n3 c3 n5 c5:Nat) (w:World) (h:WalkArgs s x A1 A2 A3 A5 n1 c1 n2 c2 n3 c3 n5 c5 w) :
  Calls Tryz.prog 8 #[.agg #[.slice A1 n1 c1,.slice A2 n2 c2,.slice A3 n3 c3],.agg #[.slice A5 n5 c5,.int .i64 x.preempts,.int .i64 x.shifts],.int .i64 depth,.int .i64 steps] w (PlanTo s x depth steps w):=by
 obtain rfl:n1=s.nodes.length:=h.s1.1
 obtain rfl:n2=s.loads.length:=h.s2.1
 obtain rfl:n3=s.pods.length:=h.s3.1
 obtain rfl:n5=x.wants.length:=h.s5.1
 have T0:=T3.new w [.slice A1 s.nodes.length c1,.slice A2 s.loads.length c2,.slice A3 s.pods.length c3] [.slice A5 x.wants.length c5,.int .i64 x.preempts,.int .i64 x.shifts] [.int .i64 0,.slice none 0 0,.int .i64 0] 26 29 34
 have HFAIR:=Lib.hid (h.at T0.below).fair
 have HFI:Hid (∀ V,Below w.heap.size w V→Calls Tryz.prog 21 #[.agg #[.slice A1 s.nodes.length c1,.slice A2 s.loads.length c2,.slice A3 s.pods.length c3]] V fun e w'=>∃ A' c',e=.returned (stateV A' s.pods.length c' 0 0)∧Out 8 cellsP w' s.pods A' c'∧(∀ a,A'=some a→V.heap.size≤a.block∧a.block<w'.heap.size)∧Below V.heap.size V w'):=fun V hV=>by
  have k:=h.at hV
  exact stateFirst_new s.pods A3 s.pods.length c3 (.slice A1 s.nodes.length c1) (.slice A2 s.loads.length c2) V rfl (by have:=k.s3.2.1;omega) k.s3.2.2.2.2 k.r3
 have HIS:Hid (∀ V A c,Below w.heap.size w V→Out 8 cellsP V s.pods A c→Calls Tryz.prog 22 #[.agg #[.slice A1 s.nodes.length c1,.slice A2 s.loads.length c2,.slice A3 s.pods.length c3],.agg #[.slice A5 x.wants.length c5,.int .i64 x.preempts,.int .i64 x.shifts],.agg #[.slice A s.pods.length c,.int .i64 0,.int .i64 0]] V
   fun e w'=>e=.returned (.bool (decide (codeS s.nodes s.loads x (firstD s)=0)))∧Below V.heap.size V w'):=fun V A c hV hO=>by
  have h1:=safeIs_any s.nodes s.loads s.pods x.preempts x.shifts 0 0 A1 A2 A3 A A5 s.nodes.length c1 s.loads.length c2 s.pods.length c3 s.pods.length c x.wants.length c5 V ((h.at hV).safe hO h.ok.2.2 rfl)
  have h2:okP (whyP (fiveP s.nodes s.loads s.pods x.preempts x.shifts 0 0))=decide (codeS s.nodes s.loads x (firstD s)=0):=by
   rw [told8_ok (told8_why _ _ _ _ _ _ _)]
   rw [Bool.eq_iff_iff]
   simp only [beq_iff_eq,decide_eq_true_eq]
   exact Iff.rfl
  rw [h2] at h1
  exact h1
 have HA:Hid (∀ V,Below w.heap.size w V→WalkArgs s x A1 A2 A3 A5 s.nodes.length c1 s.loads.length c2 s.pods.length c3 x.wants.length c5 V):=fun V hV=>h.at hV
 have HFZ:=Lib.hid (fair_zero (s:=s) (x:=x))
 have HT0:=Lib.hid T0
 clear h T0
 go_enter Tryz.func8,Tryz.ntmps8
 go_wp2_with fail
 refine HFAIR.out.mono ?_
 rintro e w1 ⟨u,rfl,hu,hb1⟩
 have T1:=HT0.out.keep hb1
 have HT1:=Lib.hid T1
 obtain ⟨d0,d1,d2,d3⟩:=T1.three.cells3
 have z0:=T1.three.frozen 0
 have z1:=T1.three.frozen 1
 have z2:=T1.three.frozen 2
 by_cases h0:(fair s x).1=0
 ·have hn:=hu.nil (by rw [HFZ.out h0];rfl)
  subst hn
  have HF0:=Lib.hid h0
  clear h0 hu hb1 T1 HT0 HFZ HFAIR
  have HWD:=Lib.hid (within19_any depth 40 w1)
  go_wp2_with fail
  refine HWD.out.mono ?_
  rintro e w2 ⟨rfl,hb2⟩
  have HT2:=Lib.hid (HT1.out.keep hb2)
  clear HT1 HWD hb2 d0 d1 d2 d3 z0 z1 z2
  by_cases hd:0≤depth∧depth≤40
  ·rw [decide_eq_true hd]
   obtain ⟨d,rfl⟩:∃ d:Nat,depth=d:=⟨depth.toNat,by omega⟩
   have HD:=Lib.hid hd
   have HWS:=Lib.hid (within19_any steps 200000 w2)
   clear hd
   go_wp2_with fail
   refine HWS.out.mono ?_
   rintro e w3 ⟨rfl,hb3⟩
   have T3':=HT2.out.keep hb3
   have HT3:=Lib.hid T3'
   clear HT2 HWS hb3
   by_cases hst:0≤steps∧steps≤200000
   ·rw [decide_eq_true hst]
    obtain ⟨st,rfl⟩:∃ st:Nat,steps=st:=⟨steps.toNat,by omega⟩
    have HST:=Lib.hid hst
    have HFF:=Lib.hid (HFI.out w3 T3'.below)
    obtain ⟨a0,a1,a2,a3⟩:=T3'.one.cells3
    clear hst HFI T3'
    go_wp2_with fail
    refine HFF.out.mono ?_
    rintro e w4 ⟨A4,c4,rfl,ho,hfr,hb4⟩
    have k4:Below w4.heap.size w4 (w4.alloc (.cells #[.slice A4 s.pods.length c4,.int .i64 0,.int .i64 0] 44)):=(Below.refl _ w4).alloc (Nat.le_refl _) _
    have T4:=(HT3.out.keep hb4).keep k4
    have B4:Bf (w4.alloc (.cells #[.slice A4 s.pods.length c4,.int .i64 0,.int .i64 0] 44)) w4.heap.size [.slice A4 s.pods.length c4,.int .i64 0,.int .i64 0]:=Bf.new w4 [.slice A4 s.pods.length c4,.int .i64 0,.int .i64 0] 44 rfl
    have ho4:=ho.later k4
    have hA4:∀ a,A4=some a→w.heap.size+3≤a.block∧a.block<w4.heap.size:=fun a ha=>by have h1:=hfr a ha;have h2:=HT3.out.three.lt;omega
    have HI4:=Lib.hid (HIS.out _ A4 c4 T4.below ho4)
    have HT4:=Lib.hid T4
    have HB4:=Lib.hid B4
    have HO4:=Lib.hid ho4
    have HA4:=Lib.hid hA4
    clear a0 a1 a2 a3
    obtain ⟨a0,a1,a2,a3⟩:=T4.one.cells3
    obtain ⟨b0,b1,b2,b3⟩:=T4.two.cells3
    clear ho hfr hb4 k4 T4 B4 ho4 hA4 HT3 HFF HIS
    go_wp2_with fail
    refine HI4.out.mono ?_
    rintro e w5 ⟨rfl,hb5⟩
    have T5':=HT4.out.keep hb5
    have B5:=HB4.out.below hb5 HB4.out.lt
    have HO5:=Lib.hid (HO4.out.later hb5)
    have HT5:=Lib.hid T5'
    have HB5:=Lib.hid B5
    have HZ5:=Lib.hid (show w4.heap.size<w5.heap.size from B5.lt)
    generalize hgg:w4.heap.size=g at *
    clear hb5 HT4 HB4 HO4 HI4 a0 a1 a2 a3 b0 b1 b2 b3 hgg
    by_cases hs:codeS s.nodes s.loads x (firstD s)=0
    ·rw [decide_eq_true hs]
     have HS:=Lib.hid hs
     clear hs
     obtain ⟨a0,a1,a2,a3⟩:=T5'.one.cells3
     obtain ⟨b0,b1,b2,b3⟩:=T5'.two.cells3
     have hc5:=T5'.below
     clear T5' B5
     have hmm:=@run_makeMap Tryz.prog
     obtain ⟨C,hC⟩:∃ C:Cx,C=⟨s,x,d,st,w5.heap.size+1,w5.heap.size,w5,A1,A2,A3,A5,c1,c2,c3,c5⟩:=⟨_,rfl⟩
     obtain ⟨W2,hst2,hbk2,hB2,hs2⟩:=hunt_store (w5.alloc (.map #[] 0)) (.slice A1 s.nodes.length c1) (.slice A2 s.loads.length c2) (.slice A3 s.pods.length c3) (.slice A5 x.wants.length c5) (.int .i64 x.preempts) (.int .i64 x.shifts) (.int .i64 (st:Int)) (.map (some w5.heap.size)) rfl rfl rfl rfl rfl rfl rfl rfl (b:=w5.heap.size+1) (by simp)
     have hbk3:Bk W2 C.hb (huntO C) 77:=by subst hC;exact hbk2
     have hOk:C.Ok:=by
      subst hC
      exact ⟨HA.out _ hc5,HF0.out,by show d≤40;have:=HD.out;omega,by show st≤200000;have:=HST.out;omega⟩
     have hX:Hx C [] [] [] C.steps C.steps (fun _=>.slice none 0 0) (fun _=>[]) 0 false 0 (fun _=>.slice none 0 0) (fun _=>[]) (fun k=>k=C.w0.heap.size∨k=C.w0.heap.size+1) (fun _=>⟨noState,0,[]⟩) W2 :=
      Hx.start (by subst hC;rfl) (by subst hC;rfl) _ hbk3 (by subst hC;exact hB2) (by subst hC;rw [hs2];simp)
     have hk2:Below w5.heap.size w5 W2:=by have:=hX.base;subst hC;exact this
     have hrm:RecM 8 cellsP (fun k=>k=C.w0.heap.size∨k=C.w0.heap.size+1) W2 A4 C.s.pods:=by
      have h1:=(HO5.out.later hk2).2.2.2
      have h2:=HA4.out
      have h3:=HZ5.out
      subst hC
      exact RecM.new h1 fun a ha hm=>by
       have:=(h2 a ha).2
       have h4:a.block=w5.heap.size∨a.block=w5.heap.size+1:=hm
       omega
     have hfr:=from_any hOk hX hrm (by have:=HO5.out.2.2.1;exact this) (by subst hC;exact HO5.out.1)
     have HFR:Hid (Calls Tryz.prog 23 #[.pointer (some ⟨w5.heap.size+1,0,none⟩),.agg #[.slice A4 s.pods.length c4,.int .i64 0,.int .i64 0],.int .i64 (d:Int)] W2 (FromTo C)):=by
      subst hC
      exact hfr
     have HT6:=Lib.hid (HT5.out.keep hk2)
     have HB6:=Lib.hid (HB5.out.below hk2 HZ5.out)
     have HOK:=Lib.hid hOk
     have HCC:=Lib.hid hC
     clear hbk2 hbk3 hB2 hs2 hOk hX hrm hfr hk2 hC hc5
     go_upto_region 10 with fail
     clear hmm hst2 a0 a1 a2 a3 b0 b1 b2 b3
     obtain ⟨f0,f1,f2,f3⟩:=HB6.out.cells3
     go_wp2_with fail
     refine HFR.out.mono ?_
     rintro e w7 ⟨lm,V,R,N,cut,M,hL,hl0,hl1,hB7,hend⟩
     have hC':=HCC.out
     subst hC'
     have y86:w7.cell? ⟨w5.heap.size+1,86,none⟩=some (.bool cut):=hL.blk.cell 86 _ huntL_cut
     have y6:w7.cell? ⟨w5.heap.size+1,6,none⟩=some (.int .i64 lm):=hL.blk.cell 6 _ rfl
     have hlm:lm≤(st:Int):=hl1
     have hst2:(st:Int)≤200000:=HST.out.2
     have hd2:(d:Int)≤40:=HD.out.2
     have hb7:Below w5.heap.size w5 w7:=hB7
     have HT7:=Lib.hid (HT5.out.keep hb7)
     have hwl:wrap64 ((st:Int) - lm)=(st:Int) - lm:=by rw [wrap64];omega
     have hwl2:IntKind.i64.wrap ((st:Int) - lm)=(st:Int) - lm:=IntWalk.i64_in _ (by omega)
     have HIN:=Lib.hid (show InR19 d st from ⟨HD.out,HST.out⟩)
     clear HCC HOK HFR hL hl1 hB7 hb7 f0 f1 f2 f3 HB6 HT6 HB5 HO5 HT5 HA HA4 HZ5 HD HST
     rcases hend with ⟨b,path,u,rfl,hch,hway,hgoal,hlen⟩ | ⟨rfl,hend⟩
     ·have hlen2:path.length≤d:=hlen
      have HV:=Lib.hid (verdict_found hch (by rw [List.length_reverse];omega) cut ((st:Int) - lm))
      have HE:=Lib.hid (show Way s.nodes s.loads x path (firstD s) u∧goalD x.wants u.pods=true∧path.length≤d from ⟨hway,hgoal,hlen⟩)
      clear hch hway hgoal hlen
      go_wp2_with fail
      refine HV.out.mono ?_
      rintro e w8 ⟨A8,c8,rfl,ho8,ha8,hb8⟩
      have T8:=HT7.out.keep hb8
      have HT8:=Lib.hid T8
      rw [List.reverse_reverse] at ho8
      have HO8:=Lib.hid ho8
      have HA8:=Lib.hid (show ∀ a,A8=some a→w.heap.size+3≤a.block from fun a ha=>by have h1:=ha8 a ha;have h2:=HT7.out.three.lt;omega)
      obtain ⟨d0,d1,d2,d3⟩:=T8.three.cells3
      have z0:=T8.three.frozen 0
      have z1:=T8.three.frozen 1
      have z2:=T8.three.frozen 2
      clear T8 ho8 ha8 hb8 HV HT7 y86 y6 hwl hwl2
      go_wp2
      refine bodyPost_ret (v:=.tuple #[verdV 1 A8 path.reverse.length c8 ((st:Int) - lm),.nilIface]) ?_ rfl ⟨_,_,rfl,((HT8.out.below.setCell (by show w.heap.size≤w.heap.size+2;omega) _).setCell (by show w.heap.size≤w.heap.size+2;omega) _).setCell (by show w.heap.size≤w.heap.size+2;omega) _,.inr (.inr ⟨HF0.out,HIN.out,rfl,.inr ⟨HS.out,(st:Int) - lm,by omega,by omega,.inl ⟨A8,c8,path,u,by rw [List.length_reverse],?_,fun a ha=>by have:=HA8.out a ha;omega,HE.out.1,HE.out.2.1,by have:=HE.out.2.2;omega⟩⟩⟩)⟩
      ·simp [results,Tryz.results8,go_sem, *]
      ·exact (((HO8.out.but (O:=fun k=>k=w.heap.size+2) (.set _ _ rfl) fun a hA e=>by have:=HA8.out a hA;have e':a.block=w.heap.size+2:=e;omega).but (O:=fun k=>k=w.heap.size+2) (.set _ _ rfl) fun a hA e=>by have:=HA8.out a hA;have e':a.block=w.heap.size+2:=e;omega).but (O:=fun k=>k=w.heap.size+2) (.set _ _ rfl) fun a hA e=>by have:=HA8.out a hA;have e':a.block=w.heap.size+2:=e;omega)
     ·have HV:=Lib.hid (verdict_none cut ((st:Int) - lm) w7)
      have HE:Hid ((cut=false∧¬ Plan19 s.nodes s.loads x (firstD s) d)∨(cut=true∧lm=0∧(st:Int)<geoB (movesB s.pods.length s.nodes.length) d)):=hend
      clear hend
      go_wp2_with fail
      refine HV.out.mono ?_
      rintro e w8 ⟨rfl,hb8⟩
      have T8:=HT7.out.keep hb8
      have HT8:=Lib.hid T8
      obtain ⟨d0,d1,d2,d3⟩:=T8.three.cells3
      have z0:=T8.three.frozen 0
      have z1:=T8.three.frozen 1
      have z2:=T8.three.frozen 2
      clear T8 hb8 HV HT7 y86 y6 hwl hwl2
      cases cut
      ·simp only [Bool.false_eq_true,if_false]
       go_wp2
       refine bodyPost_ret (v:=.tuple #[verdV 2 none 0 0 ((st:Int) - lm),.nilIface]) ?_ rfl ⟨_,_,rfl,((HT8.out.below.setCell (by show w.heap.size≤w.heap.size+2;omega) _).setCell (by show w.heap.size≤w.heap.size+2;omega) _).setCell (by show w.heap.size≤w.heap.size+2;omega) _,.inr (.inr ⟨HF0.out,HIN.out,rfl,.inr ⟨HS.out,(st:Int) - lm,by omega,by omega,.inr (.inl ⟨rfl,?_⟩)⟩⟩)⟩
       ·simp [results,Tryz.results8,go_sem, *]
       ·rcases HE.out with h | h
        ·exact h.2
        ·cases h.1
      ·simp only [if_true]
       go_wp2
       refine bodyPost_ret (v:=.tuple #[verdV 3 none 0 0 ((st:Int) - lm),.nilIface]) ?_ rfl ⟨_,_,rfl,((HT8.out.below.setCell (by show w.heap.size≤w.heap.size+2;omega) _).setCell (by show w.heap.size≤w.heap.size+2;omega) _).setCell (by show w.heap.size≤w.heap.size+2;omega) _,.inr (.inr ⟨HF0.out,HIN.out,rfl,.inr ⟨HS.out,(st:Int) - lm,by omega,by omega,.inr (.inr ⟨rfl,?_,?_⟩)⟩⟩)⟩
       ·simp [results,Tryz.results8,go_sem, *]
       ·rcases HE.out with h | h
        ·cases h.1
        ·omega
       ·rcases HE.out with h | h
        ·cases h.1
        ·exact h.2.2
    ·rw [decide_eq_false hs]
     have HS:=Lib.hid hs
     obtain ⟨d0,d1,d2,d3⟩:=T5'.three.cells3
     have z0:=T5'.three.frozen 0
     have z1:=T5'.three.frozen 1
     have z2:=T5'.three.frozen 2
     have HIN:=Lib.hid (show InR19 d st from ⟨HD.out,HST.out⟩)
     clear T5' B5 hs
     go_wp2
     refine bodyPost_ret (v:=.tuple #[verdV 2 none 0 0 0,.nilIface]) ?_ rfl ⟨_,_,rfl,((HT5.out.below.setCell (by show w.heap.size≤w.heap.size+2;omega) _).setCell (by show w.heap.size≤w.heap.size+2;omega) _).setCell (by show w.heap.size≤w.heap.size+2;omega) _,.inr (.inr ⟨HF0.out,HIN.out,rfl,.inl ⟨HS.out,rfl⟩⟩)⟩
     simp [results,Tryz.results8,go_sem, *]
   ·rw [decide_eq_false hst]
    have HN:Hid (¬ InR19 d steps):=fun h=>hst h.2
    obtain ⟨d0,d1,d2,d3⟩:=T3'.three.cells3
    have z0:=T3'.three.frozen 0
    have z1:=T3'.three.frozen 1
    have z2:=T3'.three.frozen 2
    clear T3' hst
    go_wp2
    refine bodyPost_ret (v:=.tuple #[verdV 0 none 0 0 0,.iface 42 (.int .i64 3)]) ?_ rfl ⟨_,_,rfl,((HT3.out.below.setCell (by show w.heap.size≤w.heap.size+2;omega) _).setCell (by show w.heap.size≤w.heap.size+2;omega) _).setCell (by show w.heap.size≤w.heap.size+2;omega) _,.inr (.inl ⟨HF0.out,HN.out,rfl,rfl⟩)⟩
    simp [results,Tryz.results8,go_sem, *]
  ·rw [decide_eq_false hd]
   have HN:Hid (¬ InR19 depth steps):=fun h=>hd h.1
   obtain ⟨d0,d1,d2,d3⟩:=HT2.out.three.cells3
   have z0:=HT2.out.three.frozen 0
   have z1:=HT2.out.three.frozen 1
   have z2:=HT2.out.three.frozen 2
   clear hd
   go_wp2
   refine bodyPost_ret (v:=.tuple #[verdV 0 none 0 0 0,.iface 42 (.int .i64 3)]) ?_ rfl ⟨_,_,rfl,((HT2.out.below.setCell (by show w.heap.size≤w.heap.size+2;omega) _).setCell (by show w.heap.size≤w.heap.size+2;omega) _).setCell (by show w.heap.size≤w.heap.size+2;omega) _,.inr (.inl ⟨HF0.out,HN.out,rfl,rfl⟩)⟩
   simp [results,Tryz.results8,go_sem, *]
 ·have hok:okP (fair s x)=false:=by simp [okP,h0]
  obtain ⟨ty,v,rfl⟩:=errIs_iface hu hok
  have HU:=Lib.hid hu
  have HH0:=Lib.hid h0
  have HTL:=Lib.hid (show w.heap.size+3≤(((w.alloc (.cells #[.slice A1 s.nodes.length c1,.slice A2 s.loads.length c2,.slice A3 s.pods.length c3] 26)).alloc (.cells #[.slice A5 x.wants.length c5,.int .i64 x.preempts,.int .i64 x.shifts] 29)).alloc (.cells #[.int .i64 0,.slice none 0 0,.int .i64 0] 34)).heap.size from HT0.out.three.lt)
  clear h0 hu hok hb1 T1 HT0 HFAIR HFI HIS HA
  go_wp2
  refine bodyPost_ret (v:=.tuple #[verdV 0 none 0 0 0,.iface ty v]) ?_ rfl ⟨_,_,rfl,((HT1.out.below.setCell (by show w.heap.size≤w.heap.size+2;omega) _).setCell (by show w.heap.size≤w.heap.size+2;omega) _).setCell (by show w.heap.size≤w.heap.size+2;omega) _,.inl ⟨HH0.out,rfl,?_⟩⟩
  ·simp [results,Tryz.results8,go_sem, *]
  ·exact (((HU.out.put (by have:=HTL.out;show w.heap.size+2<_;omega) _).put (by have:=HTL.out;show w.heap.size+2<_;omega) _).put (by have:=HTL.out;show w.heap.size+2<_;omega) _).base (by have:=HTL.out;omega)
def upS19:SnapD:=⟨[nd3],[⟨1,false,0,0,1⟩],[⟨1,1,0,z4,0⟩]⟩
def upX19:SpecD:=⟨[⟨1,⟨1,0,0,0⟩,true⟩],0,0⟩
theorem up19_a {took:Int} {w w':World} {v:Value} (ht:took≤0) (h0:0≤took) (h:Ends19 upS19 upX12 0 0 took w v w'):∃ A c,v=verdV 1 A 0 c took:=by
 rcases h with ⟨A,c,path,u,rfl,_,_,_,_,hl⟩ | ⟨_,h⟩ | ⟨_,_,h⟩
 ·have:path.length=0:=by omega
  rw [this];exact ⟨A,c,rfl⟩
 ·exact absurd ⟨[],firstD upS19,Nat.le_refl _,rfl,rfl⟩ h
 ·simp [geoB] at h
theorem up19_b {took:Int} {w w':World} {v:Value} (h:Ends19 upS19 upX19 2 100 took w v w'):v=verdV 2 none 0 0 took:=by
 rcases h with ⟨A,c,path,u,rfl,_,_,hw,hg,hl⟩ | ⟨h,_⟩ | ⟨_,_,h⟩
 ·cases path with
  | nil =>
   have e:u=firstD upS19:=hw.symm
   rw [e] at hg
   exact absurd hg (by decide)
  | cons m r =>
   have hd:=hw.1
   have hm:=done_raw hd
   have hall:∀ m ∈ rawD upS19.nodes (firstD upS19).pods,(doD upS19.nodes upS19.loads upX19 (firstD upS19) m).2≠0:=by decide
   exact absurd hd (hall m hm)
 ·exact h
 ·exact absurd h (by decide)
def upA19 (w:World):World:=w.alloc (.cells #[.int .i64 3,.int .i64 1,.int .u64 0,.int .u64 0,.int .u64 0,.int .u64 0,.int .u64 0,.int .u64 0,.int .u64 0,.int .u64 0] 59)
def upB19 (w:World):World:=(upA19 w).alloc (.cells #[.int .i64 1,.bool false,.int .i64 0,.int .i64 0,.int .i64 1] 61)
def upC19 (w:World):World:=(upB19 w).alloc (.cells #[.int .i64 1,.int .i64 1,.int .i64 0,.int .u64 0,.int .u64 0,.int .u64 0,.int .u64 0,.int .i64 0] 63)
def upD19 (w:World):World:=(upC19 w).alloc (.cells #[.slice (some ⟨w.heap.size,0,none⟩) 1 1,.slice (some ⟨w.heap.size+1,0,none⟩) 1 1,.slice (some ⟨w.heap.size+1+1,0,none⟩) 1 1] 26)
def upE19 (w:World):World:=(upD19 w).alloc (.cells #[.int .i64 1,.int .u64 1,.int .u64 0,.int .u64 0,.int .u64 0,.bool true] 65)
def upF19 (w:World):World:=(upE19 w).alloc (.cells #[.slice (some ⟨w.heap.size+1+1+1+1,0,none⟩) 1 1,.int .i64 0,.int .i64 0] 29)
theorem below_new19 (w:World) (o:Obj):Below w.heap.size w (w.alloc o):=(Below.refl _ w).alloc (Nat.le_refl _) o
structure Up19 (w X:World) (gs gx g1 g2 g3 g4:Nat):Prop where
 bel:Below w.heap.size w X
 sz:w.heap.size+6=X.heap.size
 r1:Recs 10 cellsN X X.heap.size (some ⟨g1,0,none⟩) upS19.nodes
 r2:Recs 5 cellsL X X.heap.size (some ⟨g2,0,none⟩) upS19.loads
 r3:Recs 8 cellsP X X.heap.size (some ⟨g3,0,none⟩) upS19.pods
 r5:Recs 6 cellsW X X.heap.size (some ⟨g4,0,none⟩) upX19.wants
 bs:Bf X gs [.slice (some ⟨g1,0,none⟩) 1 1,.slice (some ⟨g2,0,none⟩) 1 1,.slice (some ⟨g3,0,none⟩) 1 1]
 bx:Bf X gx [.slice (some ⟨g4,0,none⟩) 1 1,.int .i64 0,.int .i64 0]
theorem up19_at (w:World):Up19 w (upF19 w) (w.heap.size+1+1+1) (w.heap.size+1+1+1+1+1) w.heap.size (w.heap.size+1) (w.heap.size+1+1) (w.heap.size+1+1+1+1):=by
 have sA:(upA19 w).heap.size=w.heap.size+1:=by simp [upA19]
 have sB:(upB19 w).heap.size=w.heap.size+1+1:=by simp [upB19,sA]
 have sC:(upC19 w).heap.size=w.heap.size+1+1+1:=by simp [upC19,sB]
 have sD:(upD19 w).heap.size=w.heap.size+1+1+1+1:=by simp [upD19,sC]
 have sE:(upE19 w).heap.size=w.heap.size+1+1+1+1+1:=by simp [upE19,sD]
 have sF:(upF19 w).heap.size=w.heap.size+1+1+1+1+1+1:=by simp [upF19,sE]
 have bA:Below w.heap.size w (upA19 w):=below_new19 _ _
 have bB:Below (upA19 w).heap.size (upA19 w) (upB19 w):=below_new19 _ _
 have bC:Below (upB19 w).heap.size (upB19 w) (upC19 w):=below_new19 _ _
 have bD:Below (upC19 w).heap.size (upC19 w) (upD19 w):=below_new19 _ _
 have bE:Below (upD19 w).heap.size (upD19 w) (upE19 w):=below_new19 _ _
 have bF:Below (upE19 w).heap.size (upE19 w) (upF19 w):=below_new19 _ _
 have kE:=bF
 have kD:=bE.trans (bF.mono bE.size)
 have kC:=bD.trans (kD.mono bD.size)
 have kB:=bC.trans (kC.mono bC.size)
 have kA:=bB.trans (kB.mono bB.size)
 have r1:=recs_newG (cells:=cellsN) (size:=10) (fun _=>rfl) w 59 upS19.nodes #[.int .i64 3,.int .i64 1,.int .u64 0,.int .u64 0,.int .u64 0,.int .u64 0,.int .u64 0,.int .u64 0,.int .u64 0,.int .u64 0] rfl rfl
 have r2:=recs_newG (cells:=cellsL) (size:=5) (fun _=>rfl) (upA19 w) 61 upS19.loads #[.int .i64 1,.bool false,.int .i64 0,.int .i64 0,.int .i64 1] rfl rfl
 have r3:=recs_newG (cells:=cellsP) (size:=8) (fun _=>rfl) (upB19 w) 63 upS19.pods #[.int .i64 1,.int .i64 1,.int .i64 0,.int .u64 0,.int .u64 0,.int .u64 0,.int .u64 0,.int .i64 0] rfl rfl
 have r5:=recs_newG (cells:=cellsW) (size:=6) (fun _=>rfl) (upD19 w) 65 upX19.wants #[.int .i64 1,.int .u64 1,.int .u64 0,.int .u64 0,.int .u64 0,.bool true] rfl rfl
 have BS:Bf (upD19 w) (upC19 w).heap.size [.slice (some ⟨w.heap.size,0,none⟩) 1 1,.slice (some ⟨w.heap.size+1,0,none⟩) 1 1,.slice (some ⟨w.heap.size+1+1,0,none⟩) 1 1]:=Bf.new (upC19 w) [.slice (some ⟨w.heap.size,0,none⟩) 1 1,.slice (some ⟨w.heap.size+1,0,none⟩) 1 1,.slice (some ⟨w.heap.size+1+1,0,none⟩) 1 1] 26 rfl
 have BX:Bf (upF19 w) (upE19 w).heap.size [.slice (some ⟨w.heap.size+1+1+1+1,0,none⟩) 1 1,.int .i64 0,.int .i64 0]:=Bf.new (upE19 w) [.slice (some ⟨w.heap.size+1+1+1+1,0,none⟩) 1 1,.int .i64 0,.int .i64 0] 29 rfl
 rw [sA] at r2
 rw [sB] at r3
 rw [sD] at r5
 rw [sC] at BS
 rw [sE] at BX
 refine ⟨bA.trans (kA.mono bA.size),by omega,(r1.below kA ?_).more ?_,(r2.below kB ?_).more ?_,(r3.below kC ?_).more ?_,(r5.below kE ?_).more ?_,BS.below kD (by omega),BX⟩
 all_goals omega
theorem up19_ok:upS19.Ok∧∀ a ∈ upX19.wants,a.Ok:=by
 refine ⟨⟨fun a h=>?_,fun a h=>?_,fun a h=>?_⟩,fun a h=>?_⟩
 ·simp [upS19] at h;subst h;exact nd3_ok
 ·simp [upS19] at h;subst h;exact ⟨⟨by decide,by decide⟩,⟨by decide,by decide⟩,⟨by decide,by decide⟩,⟨by decide,by decide⟩⟩
 ·simp [upS19] at h;subst h;exact ⟨⟨by decide,by decide⟩,⟨by decide,by decide⟩,⟨by decide,by decide⟩,nd3_ok.2.2.1,⟨by decide,by decide⟩⟩
 ·simp [upX19] at h;subst h;exact ⟨⟨by decide,by decide⟩,⟨⟨by decide,by decide⟩,⟨by decide,by decide⟩,⟨by decide,by decide⟩,⟨by decide,by decide⟩⟩⟩
set_option maxHeartbeats 6400000 in
set_option maxRecDepth 100000 in
theorem up19_any (w:World) (hg:Laid w):Calls Tryz.prog 6 #[] w fun e w'=>e=.returned (.bool true)∧Below w.heap.size w w':=by
 have heq:=eql_codes
 have hU:=up19_at w
 go_enter Tryz.func6,Tryz.ntmps6
 go_upto_region 3 with fail
 change Code.wp _ _ _ _ (upF19 w)
 generalize upF19 w=X at *
 generalize hgx:w.heap.size+1+1+1+1+1=gx at *
 generalize hg4:w.heap.size+1+1+1+1=g4 at *
 generalize hgs:w.heap.size+1+1+1=gs at *
 generalize hg3:w.heap.size+1+1=g3 at *
 generalize hg2:w.heap.size+1=g2 at *
 generalize hg1:w.heap.size=g1 at *
 have HU:=Lib.hid hU
 have HSZ:=Lib.hid hU.sz
 have HK:Hid (∀ V,Below X.heap.size X V→Below g1 w V):=fun V hV=>by
  have h1:=HU.out.bel
  have h2:=HU.out.sz
  have h3:=h1.trans (hV.mono (show w.heap.size≤X.heap.size by omega))
  rwa [hg1] at h3
 have HG:Hid (∀ V,Below X.heap.size X V→Laid V):=fun V hV=>Laid.below (Laid.below hg HU.out.bel (by omega)) hV (Nat.le_refl _)
 have HA1:Hid (∀ V,Below X.heap.size X V→WalkArgs upS19 upX12 (some ⟨g1,0,none⟩) (some ⟨g2,0,none⟩) (some ⟨g3,0,none⟩) none 1 1 1 1 1 1 0 0 V):=fun V hV =>
  ⟨HG.out V hV,up19_ok.1,(fun _ h=>by simp [upX12] at h),⟨by decide,by decide⟩,⟨by decide,by decide⟩,⟨rfl,by decide,by decide,by decide⟩,⟨rfl,by decide,by decide,by decide⟩,⟨rfl,by decide,by decide,by decide,fun h=>by cases h⟩,⟨rfl,by decide,by decide,by decide⟩,(HU.out.r1.below hV (Nat.le_refl _)).more hV.size,(HU.out.r2.below hV (Nat.le_refl _)).more hV.size,(HU.out.r3.below hV (Nat.le_refl _)).more hV.size,Recs.nil⟩
 have HA2:Hid (∀ V,Below X.heap.size X V→WalkArgs upS19 upX19 (some ⟨g1,0,none⟩) (some ⟨g2,0,none⟩) (some ⟨g3,0,none⟩) (some ⟨g4,0,none⟩) 1 1 1 1 1 1 1 1 V):=fun V hV =>
  ⟨HG.out V hV,up19_ok.1,up19_ok.2,⟨by decide,by decide⟩,⟨by decide,by decide⟩,⟨rfl,by decide,by decide,by decide⟩,⟨rfl,by decide,by decide,by decide⟩,⟨rfl,by decide,by decide,by decide,fun h=>by cases h⟩,⟨rfl,by decide,by decide,by decide⟩,(HU.out.r1.below hV (Nat.le_refl _)).more hV.size,(HU.out.r2.below hV (Nat.le_refl _)).more hV.size,(HU.out.r3.below hV (Nat.le_refl _)).more hV.size,(HU.out.r5.below hV (Nat.le_refl _)).more hV.size⟩
 have H1:Hid (∀ V,Below X.heap.size X V→Calls Tryz.prog 8 #[.agg #[.slice (some ⟨g1,0,none⟩) 1 1,.slice (some ⟨g2,0,none⟩) 1 1,.slice (some ⟨g3,0,none⟩) 1 1],.agg #[.slice none 0 0,.int .i64 0,.int .i64 0],.int .i64 0,.int .i64 0] V fun e w'=>∃ A c t,e=.returned (.tuple #[verdV 1 A 0 c t,.nilIface])∧Below V.heap.size V w'):=fun V hV=>by
  refine (plan_any upS19 upX12 0 0 _ _ _ _ _ _ _ _ _ _ _ _ V (HA1.out V hV)).mono fun e w' ⟨v,u,he,hb,h⟩=>?_
  rcases h with ⟨h,_⟩ | ⟨_,h,_⟩ | ⟨_,_,hu,⟨h,_⟩ | ⟨_,took,h0,h1,h⟩⟩
  ·exact absurd (by decide) h
  ·exact absurd ⟨⟨by decide,by decide⟩,⟨by decide,by decide⟩⟩ h
  ·exact absurd (by decide) h
  ·obtain ⟨A,c,hv⟩:=up19_a h1 h0 h
   exact ⟨A,c,took,by rw [he,hv,hu],hb⟩
 have H2:Hid (∀ V,Below X.heap.size X V→Calls Tryz.prog 8 #[.agg #[.slice (some ⟨g1,0,none⟩) 1 1,.slice (some ⟨g2,0,none⟩) 1 1,.slice (some ⟨g3,0,none⟩) 1 1],.agg #[.slice (some ⟨g4,0,none⟩) 1 1,.int .i64 0,.int .i64 0],.int .i64 2,.int .i64 100] V fun e w'=>∃ t,e=.returned (.tuple #[verdV 2 none 0 0 t,.nilIface])∧Below V.heap.size V w'):=fun V hV=>by
  refine (plan_any upS19 upX19 2 100 _ _ _ _ _ _ _ _ _ _ _ _ V (HA2.out V hV)).mono fun e w' ⟨v,u,he,hb,h⟩=>?_
  rcases h with ⟨h,_⟩ | ⟨_,h,_⟩ | ⟨_,_,hu,⟨h,_⟩ | ⟨_,took,h0,h1,h⟩⟩
  ·exact absurd (by decide) h
  ·exact absurd ⟨⟨by decide,by decide⟩,⟨by decide,by decide⟩⟩ h
  ·exact absurd (by decide) h
  ·exact ⟨took,by rw [he,up19_b h,hu],hb⟩
 have H3:Hid (∀ V,Below X.heap.size X V→Calls Tryz.prog 8 #[.agg #[.slice (some ⟨g1,0,none⟩) 1 1,.slice (some ⟨g2,0,none⟩) 1 1,.slice (some ⟨g3,0,none⟩) 1 1],.agg #[.slice (some ⟨g4,0,none⟩) 1 1,.int .i64 0,.int .i64 0],.int .i64 41,.int .i64 100] V fun e w'=>e=.returned (.tuple #[verdV 0 none 0 0 0,.iface 42 (.int .i64 3)])∧Below V.heap.size V w'):=fun V hV=>by
  refine (plan_any upS19 upX19 41 100 _ _ _ _ _ _ _ _ _ _ _ _ V (HA2.out V hV)).mono fun e w' ⟨v,u,he,hb,h⟩=>?_
  rcases h with ⟨h,_⟩ | ⟨_,h,hv,hu⟩ | ⟨_,h,_⟩
  ·exact absurd (by decide) h
  ·exact ⟨by rw [he,hv,hu],hb⟩
  ·exact absurd h.1.2 (by decide)
 obtain ⟨a0,a1,a2,a3⟩:=hU.bs.cells3
 have HBX:=Lib.hid hU.bx
 have HBS:=Lib.hid hU.bs
 have HCUT:Hid (w.heap.size=g1):=hg1
 clear hU hg HG HA1 HA2 hgs hgx hg4 hg3 hg2 hg1
 go_wp2_with fail
 refine (H1.out _ (Below.refl _ _)).mono ?_
 rintro e w1 ⟨A,c,t,rfl,hb1⟩
 have k1:Below w1.heap.size w1 (w1.alloc (.cells #[.int .i64 1,.slice A 0 c,.int .i64 t] 34)):=(Below.refl _ w1).alloc (Nat.le_refl _) _
 have B1:Bf (w1.alloc (.cells #[.int .i64 1,.slice A 0 c,.int .i64 t] 34)) w1.heap.size [.int .i64 1,.slice A 0 c,.int .i64 t]:=Bf.new w1 _ _ rfl
 have K1:=hb1.trans (k1.mono hb1.size)
 have S1:=HBS.out.below K1 HBS.out.lt
 have X1:=HBX.out.below K1 HBX.out.lt
 have HK1:=Lib.hid K1
 have HB1:=Lib.hid B1
 have HS1:=Lib.hid S1
 have HX1:=Lib.hid X1
 have H22:=Lib.hid (H2.out _ K1)
 clear a0 a1 a2 a3 hb1 k1 H1 H2 K1 B1
 obtain ⟨a0,a1,a2,a3⟩:=S1.cells3
 obtain ⟨b0,b1,b2,b3⟩:=X1.cells3
 clear S1 X1
 go_wp2_with fail
 refine H22.out.mono ?_
 rintro e w2 ⟨t2,rfl,hb2⟩
 have k2:Below w2.heap.size w2 (w2.alloc (.cells #[.int .i64 2,.slice none 0 0,.int .i64 t2] 34)):=(Below.refl _ w2).alloc (Nat.le_refl _) _
 have B2:Bf (w2.alloc (.cells #[.int .i64 2,.slice none 0 0,.int .i64 t2] 34)) w2.heap.size [.int .i64 2,.slice none 0 0,.int .i64 t2]:=Bf.new w2 _ _ rfl
 have K12:=hb2.trans (k2.mono hb2.size)
 have S2:=HS1.out.below K12 HS1.out.lt
 have X2:=HX1.out.below K12 HX1.out.lt
 have D2:=HB1.out.below K12 HB1.out.lt
 have K2:=HK1.out.trans (K12.mono HK1.out.size)
 have HK2:=Lib.hid K2
 have HB2:=Lib.hid B2
 have HD2:=Lib.hid D2
 have H33:=Lib.hid (H3.out _ K2)
 clear a0 a1 a2 a3 b0 b1 b2 b3 hb2 k2 H3 K2 K12 B2 D2 HB1 HS1 HX1 H22
 obtain ⟨a0,a1,a2,a3⟩:=S2.cells3
 obtain ⟨b0,b1,b2,b3⟩:=X2.cells3
 clear S2 X2
 go_wp2_with fail
 refine H33.out.mono ?_
 rintro e w3 ⟨rfl,hb3⟩
 have K3:=Lib.hid (HK.out _ (HK2.out.trans (hb3.mono HK2.out.size)))
 have D3:=HD2.out.below hb3 HD2.out.lt
 have E3:=HB2.out.below hb3 HB2.out.lt
 clear a0 a1 a2 a3 b0 b1 b2 b3 hb3 H33 HB2 HD2
 obtain ⟨a0,a1,a2,a3⟩:=D3.cells3
 obtain ⟨b0,b1,b2,b3⟩:=E3.cells3
 clear D3 E3
 go_wp2
 go_ret
 have hk3:=K3.out.alloc (by have h1:=K3.out.size;have h2:=HCUT.out;omega) (.cells #[.int .i64 0,.slice none 0 0,.int .i64 0] 34)
 exact ⟨rfl,by rw [HCUT.out];exact hk3⟩
end Go.Proofs.YthapilknnhlmfaaGreatDoor
