/- Joined texts, part 19: DH DHN DHL DHP CH DI DJ. -/
import Derived.Test.YthapilknnhlmfaaGreatDoorZ18
import Derived.Test.YthapilknnhlmfaaGreatDoorZ01

namespace Go.Proofs.YthapilknnhlmfaaGreatDoor
set_option linter.unusedSimpArgs false
open Go.RowKit
set_option linter.unusedVariables false
def lastOk {α:Type} (f:α→Int) (l:List α) (k:Nat) (la:Int):Prop:=(k=0∧la=0)∨∃ j,∃ h:j<l.length,k=j+1∧la=f l[j]∧1≤la∧la≤2147483647
theorem inB_iff {n a b:Int}:inB n a b=true ↔ a≤n∧n≤b:=by simp [inB]
theorem idI_zero (n:Int):idI 0 n=if n<1∨2147483647<n then 1 else 0:=by
 by_cases h:n<1∨2147483647<n
 ·rw [if_pos h,idI,if_pos rfl,if_neg (by rw [inB_iff];omega)]
 ·rw [if_neg h,idI,if_pos rfl,if_pos (by rw [inB_iff];omega)]
theorem idI_some {q:Int} (n:Int) (h:q≠0):idI q n=q:=by rw [idI,if_neg h]
theorem id_key {α:Type} {f:α→Int} {l:List α} {k:Nat} {la:Int} (h:lastOk f l k la) (hk:k<l.length):idI (ordAt f l k) (f l[k])=idBad (f l[k]) la:=by
 rcases h with ⟨rfl,rfl⟩ | ⟨j,hj,rfl,rfl,h1,h2⟩
 ·show idI 0 _=_
  rw [idI_zero]
  generalize f l[0]=n
  unfold idBad
  by_cases a:n<1∨2147483647<n
  ·rw [if_pos a,if_pos a]
  ·rw [if_neg a,if_neg a,if_neg (by omega),if_neg (by omega)]
 ·rw [ordAt_next hk]
  generalize f l[j+1]=n at *
  generalize f l[j]=la at *
  unfold ordI idBad
  by_cases e1:n=la
  ·rw [if_pos e1,idI_some _ (by decide),if_neg (by omega)]
  ·rw [if_neg e1]
   by_cases e2:n<la
   ·rw [if_pos e2,idI_some _ (by decide)]
    by_cases e3:n<1∨2147483647<n
    ·rw [if_pos e3]
    ·rw [if_neg e3]
   ·rw [if_neg e2,idI_zero]
theorem lastOk_next {α:Type} {f:α→Int} {l:List α} {k:Nat} {la:Int} {x:α} (hk:k<l.length) (hx:l[k]=x) (h0:idBad (f x) la=0):lastOk f l (k+1) (f x):=by
 obtain ⟨a,b,c⟩:=idBad_ok h0
 exact .inr ⟨k,hk,rfl,by rw [hx],a,b⟩
theorem orI_zero {a b:Int} (h:orI a b=0):a=0:=by
 unfold orI at h;split at h
 ·assumption
 ·assumption
theorem node_key (la:Int) (x:NodeD):nodeBad la x=orI (idBad x.id la) (nodeF x):=by
 unfold nodeBad orI nodeF
 by_cases h:idBad x.id la=0
 ·by_cases h2:(x.zone<1∨8<x.zone∨x.held.le x.cap=false)
  ·rw [if_pos ⟨h,h2⟩,if_pos h,if_neg]
   rintro ⟨a,b⟩
   rw [inB_iff] at a
   rcases h2 with h2 | h2 | h2
   ·omega
   ·omega
   ·rw [b] at h2;cases h2
  ·rw [if_neg (fun a=>h2 a.2),if_pos h,if_pos]
   ·exact h
   ·constructor
    ·rw [inB_iff];omega
    ·cases e:x.held.le x.cap with
     | true=>rfl
     | false=>exact absurd (.inr (.inr e)) h2
 ·rw [if_neg (fun a=>h a.1),if_neg h]
theorem load_key (la:Int) (x:LoadD):loadBad la x=orI (idBad x.id la) (loadF x):=by
 unfold loadBad orI loadF
 by_cases h:idBad x.id la=0
 ·rw [if_pos h]
  cases a:countOk x.skew <;> cases b:countOk x.min <;> cases c:countOk x.max <;> by_cases d:x.max<x.min <;> simp [h,d] <;> omega
 ·rw [if_neg (fun a=>h a.1),if_neg h]
theorem pod_key (nodes:List NodeD) (loads:List LoadD) (la:Int) (x:PodD):podBad nodes loads la x=orI (idBad x.id la) (podF nodes loads x):=by
 unfold podBad orI podF
 by_cases h:idBad x.id la=0
 ·rw [if_neg (by simpa using h),if_pos h]
  cases a:countOk x.prio
  ·rfl
  ·simp only [Bool.true_eq_false,if_false]
   by_cases b:place LoadD.id x.load loads 0<0
   ·simp [b]
   ·by_cases c:place NodeD.id x.node nodes 0<0∧x.node≠0
    ·rw [if_pos (.inr ⟨c.2,c.1⟩),if_neg b,if_pos c]
    ·rw [if_neg (by rintro (d | ⟨d,e⟩);exact b d;exact c ⟨e,d⟩),if_neg b,if_neg c]
 ·rw [if_pos h,if_neg h]

def EachRel {α:Type} (bad:Int→α→Int) (f:α→Int) (l:List α) (first:Nat) (W:World) (i:Value) (wr:World):Prop :=
 ∃ (k m:Nat) (la:Int),k≤l.length∧m=first+k∧i=.int .i64 k∧lastOk f l k la∧firstBad bad f la m (l.drop k)=firstBad bad f 0 first l∧Below W.heap.size W wr
def EachTo (F:Option (Int × Nat)) (w:World) (e:Ending) (w':World):Prop :=
 Below w.heap.size w w'∧((F=none∧e=.returned .nilIface)∨∃ (b:Int) (k g:Nat),F=some (b,k)∧e=.returned (.iface 123 (.pointer (some ⟨g,0,none⟩)))∧w.heap.size≤g∧w'.heap[g]?=some (.cells #[.int .i64 (k:Int),.int .i64 b] 128 (0,0)))
theorem firstBad_place {α:Type} {bad:Int→α→Int} {f:α→Int} {l:List α} {la:Int} {k m:Nat} {F:Option (Int × Nat)} (h:k<l.length) {x:α} (hx:l[k]=x) (hf:firstBad bad f la m (l.drop k)=F) {b:Int} (hb:bad la x=b) :
  (b≠0→F=some (b,m))∧(b=0→firstBad bad f (f x) (m+1) (l.drop (k+1))=F):=by
 subst hb;exact firstBad_at h hx hf
theorem each_new (v:World) (o:Obj):(v.alloc o).heap[v.heap.size]?=some o:=by
 show (v.heap.push o)[v.heap.size]?=some o
 exact Array.getElem?_push_size
theorem each_end {w W v:World} {F:Option (Int × Nat)} {b p:Int} {m g:Nat} (kW:Below w.heap.size w W) (h:Keeps W v) (hF:F=some (b,m)) (hp:p=(m:Int)) (hg:g=v.heap.size) :
  EachTo F w (.returned (.iface 123 (.pointer (some ⟨g,0,none⟩)))) (v.alloc (.cells #[.int .i64 p,.int .i64 b] 128)):=by
 have kv:Below w.heap.size w v:=kW.trans (h.2.mono kW.size)
 subst hp hg
 exact ⟨kv.alloc kv.size _,.inr ⟨b,m,v.heap.size,hF,rfl,kv.size,each_new v _⟩⟩
set_option maxHeartbeats 6400000 in
set_option maxRecDepth 100000 in
theorem eachN_any (l:List NodeD) (first:Nat) (A:Option Addr) (n c:Nat) (w:World) (hn:n=l.length) (hl:n≤1000) (hfi:first≤1000) (hr:Recs 10 cellsN w w.heap.size A l) :
  Calls Tryz.prog 74 #[.slice A n c,.int .i64 (first:Int),.func (.func 75) #[] #[],.func (.func 76) #[] #[]] w (EachTo (firstBad nodeBad NodeD.id 0 first l) w):=by
 have HR:=Lib.hid hr
 have HN:=Lib.hid hn
 skip
 clear hr hn 
 go_enter Tryz.func74,Tryz.ntmps74
 go_wp2
 go_loopw [14] (EachRel nodeBad NodeD.id l first w) (fun i _=>n - (intOf i).toNat)
 case atStart=>exact ⟨0,first,0,by omega,by omega,rfl,.inl ⟨rfl,rfl⟩,rfl,Below.refl _ _⟩
 case round =>
  obtain ⟨k,m,la,hk,hm,rfl,hla,hfb,hbr⟩:=hrel
  have HFB:=Lib.hid hfb
  have HM:=Lib.hid hm
  have HLA:=Lib.hid hla
  have hzr:=hbr.size
  clear hfb hm hla
  by_cases hlt:k<n
  ·have hkl:k<l.length:=by have:=HN.out;omega
   have HIK:=Lib.hid (id_key HLA.out hkl)
   have HIF:=Lib.hid (fun (v:World) (hv:Below w.heap.size w v)=>idFaultN_any l k A n c v HN.out hl hkl ((HR.out.below hv (Nat.le_refl _)).more hv.size))
   obtain ⟨b,o,rfl,hb,he⟩:=HR.out.at hkl
   generalize hx:l[k]=x at *
   have HX:=Lib.hid hx
   clear hx
   have e0:wr.cell? ⟨b,o+k * 10,none⟩=some (.int .i64 x.id):=(hbr.cell (p:=⟨b,o+k * 10,none⟩) hb).trans (he 0 _ rfl)
   have e1:wr.cell? ⟨b,o+k * 10+1,none⟩=some (.int .i64 x.zone):=(hbr.cell (p:=⟨b,o+k * 10+1,none⟩) hb).trans (he 1 _ rfl)
   have e2:wr.cell? ⟨b,o+k * 10+2,none⟩=some (.int .u64 x.cap.a):=(hbr.cell (p:=⟨b,o+k * 10+2,none⟩) hb).trans (he 2 _ rfl)
   have e3:wr.cell? ⟨b,o+k * 10+3,none⟩=some (.int .u64 x.cap.b):=(hbr.cell (p:=⟨b,o+k * 10+3,none⟩) hb).trans (he 3 _ rfl)
   have e4:wr.cell? ⟨b,o+k * 10+4,none⟩=some (.int .u64 x.cap.c):=(hbr.cell (p:=⟨b,o+k * 10+4,none⟩) hb).trans (he 4 _ rfl)
   have e5:wr.cell? ⟨b,o+k * 10+5,none⟩=some (.int .u64 x.cap.d):=(hbr.cell (p:=⟨b,o+k * 10+5,none⟩) hb).trans (he 5 _ rfl)
   have e6:wr.cell? ⟨b,o+k * 10+6,none⟩=some (.int .u64 x.held.a):=(hbr.cell (p:=⟨b,o+k * 10+6,none⟩) hb).trans (he 6 _ rfl)
   have e7:wr.cell? ⟨b,o+k * 10+7,none⟩=some (.int .u64 x.held.b):=(hbr.cell (p:=⟨b,o+k * 10+7,none⟩) hb).trans (he 7 _ rfl)
   have e8:wr.cell? ⟨b,o+k * 10+8,none⟩=some (.int .u64 x.held.c):=(hbr.cell (p:=⟨b,o+k * 10+8,none⟩) hb).trans (he 8 _ rfl)
   have e9:wr.cell? ⟨b,o+k * 10+9,none⟩=some (.int .u64 x.held.d):=(hbr.cell (p:=⟨b,o+k * 10+9,none⟩) hb).trans (he 9 _ rfl)
   have hbw:b<wr.heap.size:=by omega
   clear he
   go_wp2
   generalize hW:wr.alloc (.cells #[.int .i64 x.id,.int .i64 x.zone,.int .u64 x.cap.a,.int .u64 x.cap.b,.int .u64 x.cap.c,.int .u64 x.cap.d,.int .u64 x.held.a,.int .u64 x.held.b,.int .u64 x.held.c,.int .u64 x.held.d] 59)=W at *
   have kW:Below w.heap.size w W:=by rw [← hW];exact hbr.alloc hzr _
   have hgW:wr.heap.size<W.heap.size:=by rw [← hW];simp
   have f0:W.cell? ⟨wr.heap.size,0,none⟩=some (.int .i64 x.id):=by rw [← hW];simp
   have f1:W.cell? ⟨wr.heap.size,1,none⟩=some (.int .i64 x.zone):=by rw [← hW];simp
   have f2:W.cell? ⟨wr.heap.size,2,none⟩=some (.int .u64 x.cap.a):=by rw [← hW];simp
   have f3:W.cell? ⟨wr.heap.size,3,none⟩=some (.int .u64 x.cap.b):=by rw [← hW];simp
   have f4:W.cell? ⟨wr.heap.size,4,none⟩=some (.int .u64 x.cap.c):=by rw [← hW];simp
   have f5:W.cell? ⟨wr.heap.size,5,none⟩=some (.int .u64 x.cap.d):=by rw [← hW];simp
   have f6:W.cell? ⟨wr.heap.size,6,none⟩=some (.int .u64 x.held.a):=by rw [← hW];simp
   have f7:W.cell? ⟨wr.heap.size,7,none⟩=some (.int .u64 x.held.b):=by rw [← hW];simp
   have f8:W.cell? ⟨wr.heap.size,8,none⟩=some (.int .u64 x.held.c):=by rw [← hW];simp
   have f9:W.cell? ⟨wr.heap.size,9,none⟩=some (.int .u64 x.held.d):=by rw [← hW];simp
   clear hW
   generalize hq:idI (ordAt NodeD.id l k) x.id=q at *
   generalize ht:nodeF x=t
   have HQ:=Lib.hid hq
   have HT:=Lib.hid ht
   clear hq ht
   have HIF2:Hid (∀ v:World,((∀ b o,b<W.heap.size→v.cell? ⟨b,o,none⟩=W.cell? ⟨b,o,none⟩)∧Below W.heap.size W v)→Calls Tryz.prog 114 #[.slice (some ⟨b,o,none⟩) n c,.int .i64 (k:Int),.func (.func 75) #[] #[]] v fun e w'=>e=.returned (.int .i64 q)∧Below v.heap.size v w'):=fun v hv=>HIF.out v (kW.trans (hv.2.mono kW.size))
   have HOT2:Hid (∀ v:World,((∀ b o,b<W.heap.size→v.cell? ⟨b,o,none⟩=W.cell? ⟨b,o,none⟩)∧Below W.heap.size W v)→Calls Tryz.prog 76 #[aggN x] v fun e w'=>e=.returned (.int .i64 t)∧Below v.heap.size v w'):=by have:=HT.out;subst this;exact (fun v hv=>nodeFault_any x v)
   go_region_held3 (fun w'=>(∀ b o,b<W.heap.size→w'.cell? ⟨b,o,none⟩=W.cell? ⟨b,o,none⟩)∧Below W.heap.size W w')
    (first | (with_reducible assumption) | exact Keeps.of (Below.drew (Below.refl _ _)) | exact Keeps.step (by assumption) (by assumption) | exact Keeps.alloc (by assumption) _)
    (first
     | (go_at_call 114;refine (HIF2.out _ (by assumption)).mono ?_;rintro e w' ⟨rfl,hb⟩)
     | (go_at_call 76;refine (HOT2.out _ (by assumption)).mono ?_;rintro e w' ⟨rfl,hb⟩)
     | (go_at_call 41;refine (or_any q t _ _ (by simp) (by simp)).mono ?_;rintro e w' ⟨rfl,rfl⟩))
   have HV:=Lib.hid (show nodeBad la x=orI q t by rw [node_key,← HIK.out,HT.out])
   have HFA:=Lib.hid (firstBad_place hkl HX.out HFB.out HV.out)
   by_cases h0:orI q t=0
   ·have hz:(orI q t != 0)=false:=by simp [h0]
    have HL2:=Lib.hid (lastOk_next (f:=NodeD.id) hkl HX.out (by rw [← HIK.out];exact orI_zero h0))
    have HE:=Lib.hid (HFA.out.2 h0)
    clear h0
    go_wp2
    go_roundw
    case rel=>exact ⟨k+1,m+1,x.id,by omega,by have:=HM.out;omega,by go_num,HL2.out,HE.out,kW.trans ((by assumption:Keeps W _).2.mono kW.size)⟩
    case measure=>simp [intOf];omega
   ·have hz:(orI q t != 0)=true:=by simpa using h0
    have HE:=Lib.hid (HFA.out.1 h0)
    clear h0
    go_wp2_with fail
    refine (spot_any _ _ _).mono ?_
    rintro e w2 ⟨rfl,rfl⟩
    go_wp2
    go_ret
    refine each_end kW ?_ HE.out ?_ ?_
    ·assumption
    ·have:=HM.out;omega
    ·simp
  ·have HE:=Lib.hid (firstBad_end (by have:=HN.out;omega) HFB.out)
   go_wp2
   go_ret
   exact ⟨hbr,.inl ⟨HE.out,rfl⟩⟩
set_option maxHeartbeats 6400000 in
set_option maxRecDepth 100000 in
theorem eachL_any (l:List LoadD) (first:Nat) (A:Option Addr) (n c:Nat) (w:World) (hn:n=l.length) (hl:n≤1000) (hfi:first≤1000) (hr:Recs 5 cellsL w w.heap.size A l) :
  Calls Tryz.prog 77 #[.slice A n c,.int .i64 (first:Int),.func (.func 78) #[] #[],.func (.func 79) #[] #[]] w (EachTo (firstBad loadBad LoadD.id 0 first l) w):=by
 have HR:=Lib.hid hr
 have HN:=Lib.hid hn
 skip
 clear hr hn 
 go_enter Tryz.func77,Tryz.ntmps77
 go_wp2
 go_loopw [14] (EachRel loadBad LoadD.id l first w) (fun i _=>n - (intOf i).toNat)
 case atStart=>exact ⟨0,first,0,by omega,by omega,rfl,.inl ⟨rfl,rfl⟩,rfl,Below.refl _ _⟩
 case round =>
  obtain ⟨k,m,la,hk,hm,rfl,hla,hfb,hbr⟩:=hrel
  have HFB:=Lib.hid hfb
  have HM:=Lib.hid hm
  have HLA:=Lib.hid hla
  have hzr:=hbr.size
  clear hfb hm hla
  by_cases hlt:k<n
  ·have hkl:k<l.length:=by have:=HN.out;omega
   have HIK:=Lib.hid (id_key HLA.out hkl)
   have HIF:=Lib.hid (fun (v:World) (hv:Below w.heap.size w v)=>idFaultL_any l k A n c v HN.out hl hkl ((HR.out.below hv (Nat.le_refl _)).more hv.size))
   obtain ⟨b,o,rfl,hb,he⟩:=HR.out.at hkl
   generalize hx:l[k]=x at *
   have HX:=Lib.hid hx
   clear hx
   have e0:wr.cell? ⟨b,o+k * 5,none⟩=some (.int .i64 x.id):=(hbr.cell (p:=⟨b,o+k * 5,none⟩) hb).trans (he 0 _ rfl)
   have e1:wr.cell? ⟨b,o+k * 5+1,none⟩=some (.bool x.apart):=(hbr.cell (p:=⟨b,o+k * 5+1,none⟩) hb).trans (he 1 _ rfl)
   have e2:wr.cell? ⟨b,o+k * 5+2,none⟩=some (.int .i64 x.skew):=(hbr.cell (p:=⟨b,o+k * 5+2,none⟩) hb).trans (he 2 _ rfl)
   have e3:wr.cell? ⟨b,o+k * 5+3,none⟩=some (.int .i64 x.min):=(hbr.cell (p:=⟨b,o+k * 5+3,none⟩) hb).trans (he 3 _ rfl)
   have e4:wr.cell? ⟨b,o+k * 5+4,none⟩=some (.int .i64 x.max):=(hbr.cell (p:=⟨b,o+k * 5+4,none⟩) hb).trans (he 4 _ rfl)
   have hbw:b<wr.heap.size:=by omega
   clear he
   go_wp2
   generalize hW:wr.alloc (.cells #[.int .i64 x.id,.bool x.apart,.int .i64 x.skew,.int .i64 x.min,.int .i64 x.max] 61)=W at *
   have kW:Below w.heap.size w W:=by rw [← hW];exact hbr.alloc hzr _
   have hgW:wr.heap.size<W.heap.size:=by rw [← hW];simp
   have f0:W.cell? ⟨wr.heap.size,0,none⟩=some (.int .i64 x.id):=by rw [← hW];simp
   have f1:W.cell? ⟨wr.heap.size,1,none⟩=some (.bool x.apart):=by rw [← hW];simp
   have f2:W.cell? ⟨wr.heap.size,2,none⟩=some (.int .i64 x.skew):=by rw [← hW];simp
   have f3:W.cell? ⟨wr.heap.size,3,none⟩=some (.int .i64 x.min):=by rw [← hW];simp
   have f4:W.cell? ⟨wr.heap.size,4,none⟩=some (.int .i64 x.max):=by rw [← hW];simp
   clear hW
   generalize hq:idI (ordAt LoadD.id l k) x.id=q at *
   generalize ht:loadF x=t
   have HQ:=Lib.hid hq
   have HT:=Lib.hid ht
   clear hq ht
   have HIF2:Hid (∀ v:World,((∀ b o,b<W.heap.size→v.cell? ⟨b,o,none⟩=W.cell? ⟨b,o,none⟩)∧Below W.heap.size W v)→Calls Tryz.prog 116 #[.slice (some ⟨b,o,none⟩) n c,.int .i64 (k:Int),.func (.func 78) #[] #[]] v fun e w'=>e=.returned (.int .i64 q)∧Below v.heap.size v w'):=fun v hv=>HIF.out v (kW.trans (hv.2.mono kW.size))
   have HOT2:Hid (∀ v:World,((∀ b o,b<W.heap.size→v.cell? ⟨b,o,none⟩=W.cell? ⟨b,o,none⟩)∧Below W.heap.size W v)→Calls Tryz.prog 79 #[aggL x] v fun e w'=>e=.returned (.int .i64 t)∧Below v.heap.size v w'):=by have:=HT.out;subst this;exact (fun v hv=>loadFault_any x v)
   go_region_held3 (fun w'=>(∀ b o,b<W.heap.size→w'.cell? ⟨b,o,none⟩=W.cell? ⟨b,o,none⟩)∧Below W.heap.size W w')
    (first | (with_reducible assumption) | exact Keeps.of (Below.drew (Below.refl _ _)) | exact Keeps.step (by assumption) (by assumption) | exact Keeps.alloc (by assumption) _)
    (first
     | (go_at_call 116;refine (HIF2.out _ (by assumption)).mono ?_;rintro e w' ⟨rfl,hb⟩)
     | (go_at_call 79;refine (HOT2.out _ (by assumption)).mono ?_;rintro e w' ⟨rfl,hb⟩)
     | (go_at_call 41;refine (or_any q t _ _ (by simp) (by simp)).mono ?_;rintro e w' ⟨rfl,rfl⟩))
   have HV:=Lib.hid (show loadBad la x=orI q t by rw [load_key,← HIK.out,HT.out])
   have HFA:=Lib.hid (firstBad_place hkl HX.out HFB.out HV.out)
   by_cases h0:orI q t=0
   ·have hz:(orI q t != 0)=false:=by simp [h0]
    have HL2:=Lib.hid (lastOk_next (f:=LoadD.id) hkl HX.out (by rw [← HIK.out];exact orI_zero h0))
    have HE:=Lib.hid (HFA.out.2 h0)
    clear h0
    go_wp2
    go_roundw
    case rel=>exact ⟨k+1,m+1,x.id,by omega,by have:=HM.out;omega,by go_num,HL2.out,HE.out,kW.trans ((by assumption:Keeps W _).2.mono kW.size)⟩
    case measure=>simp [intOf];omega
   ·have hz:(orI q t != 0)=true:=by simpa using h0
    have HE:=Lib.hid (HFA.out.1 h0)
    clear h0
    go_wp2_with fail
    refine (spot_any _ _ _).mono ?_
    rintro e w2 ⟨rfl,rfl⟩
    go_wp2
    go_ret
    refine each_end kW ?_ HE.out ?_ ?_
    ·assumption
    ·have:=HM.out;omega
    ·simp
  ·have HE:=Lib.hid (firstBad_end (by have:=HN.out;omega) HFB.out)
   go_wp2
   go_ret
   exact ⟨hbr,.inl ⟨HE.out,rfl⟩⟩
set_option maxHeartbeats 6400000 in
set_option maxRecDepth 100000 in
theorem eachP_any (l:List PodD) (nodes:List NodeD) (loads:List LoadD) (g:Nat) (first:Nat) (A:Option Addr) (n c:Nat) (w:World) (hn:n=l.length) (hl:n≤1000) (hfi:first≤1000) (hr:Recs 8 cellsP w w.heap.size A l)
  (hot:∀ (x:PodD) (v:World),Below w.heap.size w v→Calls Tryz.prog 82 #[aggP x,.pointer (some ⟨g,0,none⟩)] v fun e w'=>e=.returned (.int .i64 (podF nodes loads x))∧Below v.heap.size v w') :
  Calls Tryz.prog 80 #[.slice A n c,.int .i64 (first:Int),.func (.func 81) #[] #[],.func (.func 82) #[] #[.pointer (some ⟨g,0,none⟩)]] w (EachTo (firstBad (podBad nodes loads) PodD.id 0 first l) w):=by
 have HR:=Lib.hid hr
 have HN:=Lib.hid hn
 have HOTT:=Lib.hid hot
 clear hr hn hot
 go_enter Tryz.func80,Tryz.ntmps80
 go_wp2
 go_loopw [14] (EachRel (podBad nodes loads) PodD.id l first w) (fun i _=>n - (intOf i).toNat)
 case atStart=>exact ⟨0,first,0,by omega,by omega,rfl,.inl ⟨rfl,rfl⟩,rfl,Below.refl _ _⟩
 case round =>
  obtain ⟨k,m,la,hk,hm,rfl,hla,hfb,hbr⟩:=hrel
  have HFB:=Lib.hid hfb
  have HM:=Lib.hid hm
  have HLA:=Lib.hid hla
  have hzr:=hbr.size
  clear hfb hm hla
  by_cases hlt:k<n
  ·have hkl:k<l.length:=by have:=HN.out;omega
   have HIK:=Lib.hid (id_key HLA.out hkl)
   have HIF:=Lib.hid (fun (v:World) (hv:Below w.heap.size w v)=>idFaultP_any l k A n c v HN.out hl hkl ((HR.out.below hv (Nat.le_refl _)).more hv.size))
   obtain ⟨b,o,rfl,hb,he⟩:=HR.out.at hkl
   generalize hx:l[k]=x at *
   have HX:=Lib.hid hx
   clear hx
   have e0:wr.cell? ⟨b,o+k * 8,none⟩=some (.int .i64 x.id):=(hbr.cell (p:=⟨b,o+k * 8,none⟩) hb).trans (he 0 _ rfl)
   have e1:wr.cell? ⟨b,o+k * 8+1,none⟩=some (.int .i64 x.load):=(hbr.cell (p:=⟨b,o+k * 8+1,none⟩) hb).trans (he 1 _ rfl)
   have e2:wr.cell? ⟨b,o+k * 8+2,none⟩=some (.int .i64 x.prio):=(hbr.cell (p:=⟨b,o+k * 8+2,none⟩) hb).trans (he 2 _ rfl)
   have e3:wr.cell? ⟨b,o+k * 8+3,none⟩=some (.int .u64 x.req.a):=(hbr.cell (p:=⟨b,o+k * 8+3,none⟩) hb).trans (he 3 _ rfl)
   have e4:wr.cell? ⟨b,o+k * 8+4,none⟩=some (.int .u64 x.req.b):=(hbr.cell (p:=⟨b,o+k * 8+4,none⟩) hb).trans (he 4 _ rfl)
   have e5:wr.cell? ⟨b,o+k * 8+5,none⟩=some (.int .u64 x.req.c):=(hbr.cell (p:=⟨b,o+k * 8+5,none⟩) hb).trans (he 5 _ rfl)
   have e6:wr.cell? ⟨b,o+k * 8+6,none⟩=some (.int .u64 x.req.d):=(hbr.cell (p:=⟨b,o+k * 8+6,none⟩) hb).trans (he 6 _ rfl)
   have e7:wr.cell? ⟨b,o+k * 8+7,none⟩=some (.int .i64 x.node):=(hbr.cell (p:=⟨b,o+k * 8+7,none⟩) hb).trans (he 7 _ rfl)
   have hbw:b<wr.heap.size:=by omega
   clear he
   go_wp2
   generalize hW:wr.alloc (.cells #[.int .i64 x.id,.int .i64 x.load,.int .i64 x.prio,.int .u64 x.req.a,.int .u64 x.req.b,.int .u64 x.req.c,.int .u64 x.req.d,.int .i64 x.node] 63)=W at *
   have kW:Below w.heap.size w W:=by rw [← hW];exact hbr.alloc hzr _
   have hgW:wr.heap.size<W.heap.size:=by rw [← hW];simp
   have f0:W.cell? ⟨wr.heap.size,0,none⟩=some (.int .i64 x.id):=by rw [← hW];simp
   have f1:W.cell? ⟨wr.heap.size,1,none⟩=some (.int .i64 x.load):=by rw [← hW];simp
   have f2:W.cell? ⟨wr.heap.size,2,none⟩=some (.int .i64 x.prio):=by rw [← hW];simp
   have f3:W.cell? ⟨wr.heap.size,3,none⟩=some (.int .u64 x.req.a):=by rw [← hW];simp
   have f4:W.cell? ⟨wr.heap.size,4,none⟩=some (.int .u64 x.req.b):=by rw [← hW];simp
   have f5:W.cell? ⟨wr.heap.size,5,none⟩=some (.int .u64 x.req.c):=by rw [← hW];simp
   have f6:W.cell? ⟨wr.heap.size,6,none⟩=some (.int .u64 x.req.d):=by rw [← hW];simp
   have f7:W.cell? ⟨wr.heap.size,7,none⟩=some (.int .i64 x.node):=by rw [← hW];simp
   clear hW
   generalize hq:idI (ordAt PodD.id l k) x.id=q at *
   generalize ht:podF nodes loads x=t
   have HQ:=Lib.hid hq
   have HT:=Lib.hid ht
   clear hq ht
   have HIF2:Hid (∀ v:World,((∀ b o,b<W.heap.size→v.cell? ⟨b,o,none⟩=W.cell? ⟨b,o,none⟩)∧Below W.heap.size W v)→Calls Tryz.prog 118 #[.slice (some ⟨b,o,none⟩) n c,.int .i64 (k:Int),.func (.func 81) #[] #[]] v fun e w'=>e=.returned (.int .i64 q)∧Below v.heap.size v w'):=fun v hv=>HIF.out v (kW.trans (hv.2.mono kW.size))
   have HOT2:Hid (∀ v:World,((∀ b o,b<W.heap.size→v.cell? ⟨b,o,none⟩=W.cell? ⟨b,o,none⟩)∧Below W.heap.size W v)→Calls Tryz.prog 82 #[aggP x,.pointer (some ⟨g,0,none⟩)] v fun e w'=>e=.returned (.int .i64 t)∧Below v.heap.size v w'):=by have:=HT.out;subst this;exact (fun v hv=>HOTT.out x v (kW.trans (hv.2.mono kW.size)))
   go_region_held3 (fun w'=>(∀ b o,b<W.heap.size→w'.cell? ⟨b,o,none⟩=W.cell? ⟨b,o,none⟩)∧Below W.heap.size W w')
    (first | (with_reducible assumption) | exact Keeps.of (Below.drew (Below.refl _ _)) | exact Keeps.step (by assumption) (by assumption) | exact Keeps.alloc (by assumption) _)
    (first
     | (go_at_call 118;refine (HIF2.out _ (by assumption)).mono ?_;rintro e w' ⟨rfl,hb⟩)
     | (go_at_call 82;refine (HOT2.out _ (by assumption)).mono ?_;rintro e w' ⟨rfl,hb⟩)
     | (go_at_call 41;refine (or_any q t _ _ (by simp) (by simp)).mono ?_;rintro e w' ⟨rfl,rfl⟩))
   have HV:=Lib.hid (show (podBad nodes loads) la x=orI q t by rw [pod_key nodes loads,← HIK.out,HT.out])
   have HFA:=Lib.hid (firstBad_place hkl HX.out HFB.out HV.out)
   by_cases h0:orI q t=0
   ·have hz:(orI q t != 0)=false:=by simp [h0]
    have HL2:=Lib.hid (lastOk_next (f:=PodD.id) hkl HX.out (by rw [← HIK.out];exact orI_zero h0))
    have HE:=Lib.hid (HFA.out.2 h0)
    clear h0
    go_wp2
    go_roundw
    case rel=>exact ⟨k+1,m+1,x.id,by omega,by have:=HM.out;omega,by go_num,HL2.out,HE.out,kW.trans ((by assumption:Keeps W _).2.mono kW.size)⟩
    case measure=>simp [intOf];omega
   ·have hz:(orI q t != 0)=true:=by simpa using h0
    have HE:=Lib.hid (HFA.out.1 h0)
    clear h0
    go_wp2_with fail
    refine (spot_any _ _ _).mono ?_
    rintro e w2 ⟨rfl,rfl⟩
    go_wp2
    go_ret
    refine each_end kW ?_ HE.out ?_ ?_
    ·assumption
    ·have:=HM.out;omega
    ·simp
  ·have HE:=Lib.hid (firstBad_end (by have:=HN.out;omega) HFB.out)
   go_wp2
   go_ret
   exact ⟨hbr,.inl ⟨HE.out,rfl⟩⟩
def SnapD.Ok (s:SnapD):Prop:=(∀ a ∈ s.nodes,a.Ok)∧(∀ a ∈ s.loads,a.Ok)∧(∀ a ∈ s.pods,a.Ok)
def CheckHolds:Prop:=∀ (s:SnapD) (A1 A2 A3:Option Addr) (n1 c1 n2 c2 n3 c3 B:Nat) (w:World),s.Ok→n1=s.nodes.length→n2=s.loads.length→n3=s.pods.length→n1≤40→n2≤40→n3≤40→n1≤c1→n2≤c2→n3≤c3→c1≤maxLen→c2≤maxLen→c3≤maxLen→B≤w.heap.size →
 Recs 10 cellsN w B A1 s.nodes→Recs 5 cellsL w B A2 s.loads→Recs 8 cellsP w B A3 s.pods→Calls Tryz.prog 39 #[snapV A1 A2 A3 n1 c1 n2 c2 n3 c3] w (ErrTo (check s) w)
def FairHolds:Prop:=∀ (s:SnapD) (x:SpecD) (A1 A2 A3 A4:Option Addr) (n1 c1 n2 c2 n3 c3 n4 c4 B:Nat) (w:World),s.Ok→(∀ a ∈ x.wants,a.Ok)→I64 x.preempts→I64 x.shifts→n1=s.nodes.length→n2=s.loads.length→n3=s.pods.length→n4=x.wants.length→n1≤40→n2≤40→n3≤40→n4≤40→n1≤c1→n2≤c2→n3≤c3→n4≤c4→c1≤maxLen→c2≤maxLen→c3≤maxLen→c4≤maxLen→B≤w.heap.size →
 Recs 10 cellsN w B A1 s.nodes→Recs 5 cellsL w B A2 s.loads→Recs 8 cellsP w B A3 s.pods→Recs 6 cellsW w B A4 x.wants→Calls Tryz.prog 19 #[snapV A1 A2 A3 n1 c1 n2 c2 n3 c3,specV A4 n4 c4 x] w (ErrTo (fair s x) w)

theorem errIs_none {B:Nat} {w:World} {u:Value} {p:Int × Int} (h:ErrIs p B w u) (hp:p.1=0) (h2:p.2=-1):u=.nilIface:=by
 rcases h with ⟨_,h⟩ | ⟨_,h,_⟩ | ⟨k,g,h,_⟩
 ·exact h
 ·omega
 ·omega
theorem errIs_some {B:Nat} {w:World} {u:Value} {p:Int × Int} (h:ErrIs p B w u) (hp:p.1≠0):∃ t v,u=.iface t v:=by
 rcases h with ⟨h,_⟩ | ⟨_,_,_,h⟩ | ⟨k,g,h,h3,_⟩
 ·rw [h] at hp;simp at hp
 ·exact ⟨_,_,h⟩
 ·exact ⟨_,_,h3⟩

def z4:V4:=⟨0,0,0,0⟩
def nd3:NodeD:=⟨3,1,z4,z4⟩
theorem z4_ok:z4.Ok:=⟨⟨by decide,by decide⟩,⟨by decide,by decide⟩,⟨by decide,by decide⟩,⟨by decide,by decide⟩⟩
theorem nd3_ok:nd3.Ok:=⟨⟨by decide,by decide⟩,⟨by decide,by decide⟩,z4_ok,z4_ok⟩
def fewB (n1 n2 n3:Nat):Bool:=inB n1 1 8 && (decide (n2≤8) && decide (n3≤12))
set_option maxHeartbeats 1600000 in
theorem sizes_any (A1 A2 A3:Option Addr) (n1 c1 n2 c2 n3 c3:Nat) (w:World) :
  Calls Tryz.prog 73 #[snapV A1 A2 A3 n1 c1 n2 c2 n3 c3] w fun e w'=>e=.returned (.bool (fewB n1 n2 n3))∧Below w.heap.size w w':=by
 have b00:Below w.heap.size w (w.alloc (.cells #[.slice A1 n1 c1,.slice A2 n2 c2,.slice A3 n3 c3] 26)):=(Below.refl _ _).alloc (Nat.le_refl _) _
 go_enter Tryz.func73,Tryz.ntmps73
 go_wp2_with fail
 refine (within_any _ _ _ _).mono ?_
 rintro e w' ⟨rfl,rfl⟩
 by_cases h1:inB n1 1 8=true
 ·by_cases h2:n2≤8
  ·by_cases h3:n3≤12
   ·have HE:=Lib.hid (show fewB n1 n2 n3=true by simp [fewB,h1,h2,h3])
    have d2:decide ((n2:Int)≤8)=true:=decide_eq_true (by omega)
    have d3:decide ((n3:Int)≤12)=true:=decide_eq_true (by omega)
    go_wp2
    go_ret
    exact ⟨ret_bool HE.out.symm,b00⟩
   ·have HE:=Lib.hid (show fewB n1 n2 n3=false by simp [fewB];omega)
    have d2:decide ((n2:Int)≤8)=true:=decide_eq_true (by omega)
    have d3:decide ((n3:Int)≤12)=false:=decide_eq_false (by omega)
    go_wp2
    go_ret
    exact ⟨ret_bool HE.out.symm,b00⟩
  ·have HE:=Lib.hid (show fewB n1 n2 n3=false by simp [fewB];omega)
   have d2:decide ((n2:Int)≤8)=false:=decide_eq_false (by omega)
   go_wp2
   go_ret
   exact ⟨ret_bool HE.out.symm,b00⟩
 ·have h1':inB n1 1 8=false:=by simpa using h1
  have HE:=Lib.hid (show fewB n1 n2 n3=false by simp [fewB,h1'])
  clear h1
  go_wp2
  go_ret
  exact ⟨ret_bool HE.out.symm,b00⟩
theorem few_large (s:SnapD):large s=!fewB s.nodes.length s.loads.length s.pods.length:=by
 unfold large fewB inB
 generalize s.nodes.length=a
 generalize s.loads.length=b
 generalize s.pods.length=c
 rw [Bool.eq_iff_iff]
 simp
 omega
theorem errTo_each {p:Int × Int} {w w':World} {b:Int} {k g:Nat} (hp:p=(b,(k:Int))) (hb:Below w.heap.size w w') (hg:w.heap.size≤g) (hc:w'.heap[g]?=some (.cells #[.int .i64 (k:Int),.int .i64 b] 128 (0,0))) :
  ErrTo p w (.returned (.iface 123 (.pointer (some ⟨g,0,none⟩)))) w' :=
 ⟨_,rfl,.inr (.inr ⟨k,g,by rw [hp],rfl,hg,by rw [hp];exact hc⟩),hb⟩

set_option maxHeartbeats 3200000 in
set_option maxRecDepth 100000 in
theorem check_holds:CheckHolds:=by
 intro s A1 A2 A3 n1 c1 n2 c2 n3 c3 B w hok hn1 hn2 hn3 hl1 hl2 hl3 p1 p2 p3 q1 q2 q3 hB hr1 hr2 hr3
 have b00:Below w.heap.size w (w.alloc (.cells #[.slice A1 n1 c1,.slice A2 n2 c2,.slice A3 n3 c3] 26)):=(Below.refl _ _).alloc (Nat.le_refl _) _
 have HN1:=Lib.hid hn1
 have HN2:=Lib.hid hn2
 have HN3:=Lib.hid hn3
 have HR1:=Lib.hid (hr1.more hB)
 have HR2:=Lib.hid (hr2.more hB)
 have HR3:=Lib.hid (hr3.more hB)
 have HLG:=Lib.hid (few_large s)
 clear hok hn1 hn2 hn3 hr1 hr2 hr3 q1 q2 q3 p1 p2 p3 hB
 have hmf:∀ (fn:Fn) (first cap:Array Value) (w:World),(Instr.makeFunc fn first cap).run Tryz.prog w=.ok (.func fn first cap) w:=fun _ _ _ _=>rfl
 go_enter Tryz.func39,Tryz.ntmps39
 go_wp2_with fail
 refine (sizes_any _ _ _ _ _ _ _ _ _ _).mono ?_
 rintro e w1 ⟨rfl,hb1⟩
 have k1:Below (w.heap.size+1) (w.alloc (.cells #[.slice A1 n1 c1,.slice A2 n2 c2,.slice A3 n3 c3] 26)) w1:=hb1.mono (by simp)
 have kw1:Below w.heap.size w w1:=b00.trans (k1.mono (by omega))
 obtain ⟨a0,a1,a2⟩:=box_cells k1
 by_cases hf:fewB n1 n2 n3=true
 ·have HNL:=Lib.hid (show ¬ large s=true by rw [HLG.out,← HN1.out,← HN2.out,← HN3.out,hf];decide)
  have HC1:Hid (Calls Tryz.prog 74 #[.slice A1 n1 c1,.int .i64 0,.func (.func 75) #[] #[],.func (.func 76) #[] #[]] w1 (EachTo (firstBad nodeBad NodeD.id 0 0 s.nodes) w1)) :=
   eachN_any s.nodes 0 A1 n1 c1 w1 HN1.out (by omega) (by omega) ((HR1.out.below kw1 (Nat.le_refl _)).more kw1.size)
  go_wp2_with fail
  refine HC1.out.mono ?_
  rintro e w2 ⟨hb2,hh⟩
  have k2:Below (w.heap.size+1) (w.alloc (.cells #[.slice A1 n1 c1,.slice A2 n2 c2,.slice A3 n3 c3] 26)) w2:=k1.trans (hb2.mono (by have:=k1.size;simpa using this))
  have kw2:Below w.heap.size w w2:=b00.trans (k2.mono (by omega))
  obtain ⟨d0,d1,d2⟩:=box_cells k2
  clear a0 a1 a2
  rcases hh with ⟨hF1,rfl⟩ | ⟨b,k,g,hF1,rfl,hg,hcell⟩
  ·have HF1:=Lib.hid hF1
   clear hF1
   have HC2:Hid (Calls Tryz.prog 77 #[.slice A2 n2 c2,.int .i64 (n1:Int),.func (.func 78) #[] #[],.func (.func 79) #[] #[]] w2 (EachTo (firstBad loadBad LoadD.id 0 n1 s.loads) w2)) :=
    eachL_any s.loads n1 A2 n2 c2 w2 HN2.out (by omega) (by omega) ((HR2.out.below kw2 (Nat.le_refl _)).more kw2.size)
   go_wp2_with fail
   refine HC2.out.mono ?_
   rintro e w3 ⟨hb3,hh⟩
   have k3:Below (w.heap.size+1) (w.alloc (.cells #[.slice A1 n1 c1,.slice A2 n2 c2,.slice A3 n3 c3] 26)) w3:=k2.trans (hb3.mono (by have:=k2.size;simpa using this))
   have kw3:Below w.heap.size w w3:=b00.trans (k3.mono (by omega))
   obtain ⟨f0,f1,f2⟩:=box_cells k3
   clear d0 d1 d2
   rcases hh with ⟨hF2,rfl⟩ | ⟨b,k,g,hF2,rfl,hg,hcell⟩
   ·have HF2:=Lib.hid hF2
    clear hF2
    have HC3:Hid (Calls Tryz.prog 80 #[.slice A3 n3 c3,.int .i64 ((n1:Int)+(n2:Int)),.func (.func 81) #[] #[],.func (.func 82) #[] #[.pointer (some ⟨w.heap.size,0,none⟩)]] w3 (EachTo (firstBad (podBad s.nodes s.loads) PodD.id 0 (n1+n2) s.pods) w3)):=by
     have:=eachP_any s.pods s.nodes s.loads w.heap.size (n1+n2) A3 n3 c3 w3 HN3.out (by omega) (by omega) ((HR3.out.below kw3 (Nat.le_refl _)).more kw3.size) (fun x v hv=>by
      have k4:=k3.trans (hv.mono (by have:=k3.size;simpa using this))
      have kw4:Below w.heap.size w v:=b00.trans (k4.mono (by omega))
      obtain ⟨z0,z1,z2⟩:=box_cells k4
      exact podClosure_any s.nodes s.loads x w.heap.size A1 A2 A3 n1 c1 n2 c2 n3 c3 v z0 z1 z2 HN1.out HN2.out (by omega) (by omega) ((HR1.out.below kw4 (Nat.le_refl _)).more kw4.size) ((HR2.out.below kw4 (Nat.le_refl _)).more kw4.size))
     simp only [Int.natCast_add] at this
     exact this
    go_wp2_with fail
    refine HC3.out.mono ?_
    rintro e w4 ⟨hb4,hh⟩
    have kw4:Below w.heap.size w w4:=kw3.trans (hb4.mono kw3.size)
    rcases hh with ⟨hF3,rfl⟩ | ⟨b,k,g,hF3,rfl,hg,hcell⟩
    ·have HE:=Lib.hid (check_fine HNL.out HF1.out (by rw [← HN1.out];exact HF2.out) (by rw [← HN1.out,← HN2.out];exact hF3))
     clear hF3
     go_wp2
     go_ret
     exact ⟨_,rfl,.inl ⟨HE.out,rfl⟩,kw4⟩
    ·have HE:=Lib.hid (check_pod HNL.out HF1.out (by rw [← HN1.out];exact HF2.out) (by rw [← HN1.out,← HN2.out];exact hF3))
     have HCC:=Lib.hid hcell
     have hg':w.heap.size≤g:=Nat.le_trans kw3.size hg
     clear hF3 hcell
     go_wp2
     go_ret
     exact errTo_each HE.out kw4 hg' HCC.out
   ·have HE:=Lib.hid (check_load HNL.out HF1.out (by rw [← HN1.out];exact hF2))
    have HCC:=Lib.hid hcell
    have hg':w.heap.size≤g:=Nat.le_trans kw2.size hg
    clear hF2 hcell
    go_wp2
    go_ret
    exact errTo_each HE.out kw3 hg' HCC.out
  ·have HE:=Lib.hid (check_node HNL.out hF1)
   have HCC:=Lib.hid hcell
   have hg':w.heap.size≤g:=Nat.le_trans kw1.size hg
   clear hF1 hcell
   go_wp2
   go_ret
   exact errTo_each HE.out kw2 hg' HCC.out
 ·have hf':fewB n1 n2 n3=false:=by simpa using hf
  have HE:=Lib.hid (check_large (s:=s) (by rw [HLG.out,← HN1.out,← HN2.out,← HN3.out,hf'];rfl))
  clear hf
  go_wp2
  go_ret
  exact ⟨_,rfl,.inr (.inl ⟨by rw [HE.out],by rw [HE.out];decide,by rw [HE.out];decide,by rw [HE.out];rfl⟩),kw1⟩
theorem ErrIs.more {p:Int × Int} {B B':Nat} {w:World} {u:Value} (h:ErrIs p B w u) (hB:B'≤B):ErrIs p B' w u:=by
 rcases h with h | h | ⟨k,g,h1,h2,h3,h4⟩
 ·exact .inl h
 ·exact .inr (.inl h)
 ·exact .inr (.inr ⟨k,g,h1,h2,Nat.le_trans hB h3,h4⟩)
theorem want_key {s:SnapD} {l:List WantD} {k:Nat} {fst:Bool} {la:Int} {y:WantD} (hk:k<l.length) (hy:l[k]=y) (h0:k=0→fst=true) (h1:∀ j (hj:j<l.length),k=j+1→fst=false∧la=l[j].pod) :
  wantBad s fst la y=orI (ordAt WantD.pod l k) (wantF s.pods y):=by
 cases k with
 | zero =>
  obtain rfl:=h0 rfl
  simp [wantBad,ordAt,orI,wantF]
 | succ j =>
  obtain ⟨rfl,rfl⟩:=h1 j (by omega) rfl
  rw [ordAt_next hk,hy]
  unfold wantBad ordI orI wantF
  by_cases e1:y.pod=l[j].pod
  ·simp [e1]
  ·by_cases e2:y.pod<l[j].pod
   ·simp [e1,e2]
   ·simp [e1,e2]

theorem fair_end {w W v:World} {f:Int × Int} {b b':Int} {m g:Nat} (kW:Below w.heap.size w W) (h:Keeps W v) (hF:f=(b',(m:Int))) (hb:b'=b) (hg:g=v.heap.size) :
  ErrTo f w (.returned (.iface 123 (.pointer (some ⟨g,0,none⟩)))) (v.alloc (.cells #[.int .i64 (m:Int),.int .i64 b] 128)):=by
 have kv:Below w.heap.size w v:=kW.trans (h.2.mono kW.size)
 subst hg hb
 exact errTo_each hF (kv.alloc kv.size _) kv.size (each_new v _)
theorem firstWant_end {s:SnapD} {l:List WantD} {fst:Bool} {la:Int} {k m:Nat} {F:Option (Int × Nat)} (h:l.length≤k) (hf:firstWant s fst la m (l.drop k)=F):F=none:=by
 rw [List.drop_of_length_le h,firstWant] at hf
 exact hf.symm
set_option maxHeartbeats 6400000 in
set_option maxRecDepth 100000 in
theorem fair_holds:FairHolds:=by
 intro s x A1 A2 A3 A4 n1 c1 n2 c2 n3 c3 n4 c4 B w hok hwo hi1 hi2 hn1 hn2 hn3 hn4 hl1 hl2 hl3 hl4 p1 p2 p3 p4 q1 q2 q3 q4 hB hr1 hr2 hr3 hr4
 have b00:=below_two w (.cells #[.slice A1 n1 c1,.slice A2 n2 c2,.slice A3 n3 c3] 26) (.cells #[.slice A4 n4 c4,.int .i64 x.preempts,.int .i64 x.shifts] 29)
 have HN3:=Lib.hid hn3
 have HN4:=Lib.hid hn4
 have HR3:=Lib.hid (hr3.more hB)
 have HR4:=Lib.hid (hr4.more hB)
 have HCH:=Lib.hid (check_holds s A1 A2 A3 n1 c1 n2 c2 n3 c3 B ((w.alloc (.cells #[.slice A1 n1 c1,.slice A2 n2 c2,.slice A3 n3 c3] 26)).alloc (.cells #[.slice A4 n4 c4,.int .i64 x.preempts,.int .i64 x.shifts] 29)) hok hn1 hn2 hn3 hl1 hl2 hl3 p1 p2 p3 q1 q2 q3 (Nat.le_trans hB b00.size) (hr1.below b00 hB) (hr2.below b00 hB) (hr3.below b00 hB))
 clear hok hwo hi1 hi2 hn1 hn2 hn3 hn4 hr1 hr2 hr3 hr4 q1 q2 q3 q4 p1 p2 p3 p4 hB
 go_enter Tryz.func19,Tryz.ntmps19
 go_wp2_with fail
 refine HCH.out.mono ?_
 rintro e w1 ⟨u,rfl,hu,hb1⟩
 have k1:Below (w.heap.size+2) ((w.alloc (.cells #[.slice A1 n1 c1,.slice A2 n2 c2,.slice A3 n3 c3] 26)).alloc (.cells #[.slice A4 n4 c4,.int .i64 x.preempts,.int .i64 x.shifts] 29)) w1:=hb1.mono (by simp)
 have kw1:Below w.heap.size w w1:=b00.trans (k1.mono (by omega))
 obtain ⟨⟨a0,a1,a2⟩,a3,a4,a5⟩:=box2_cells k1
 by_cases hck:(check s).1=0
 ·have hcz:=check_zero hck
  obtain rfl:=errIs_none hu hck (by rw [hcz])
  have HCK:=Lib.hid hck
  clear hu hck hcz
  go_wp2_with fail
  refine (within_any _ _ _ _).mono ?_
  rintro e w' ⟨rfl,rfl⟩
  by_cases hp1:inB x.preempts 0 40=true
  ·go_wp2_with fail
   refine (within_any _ _ _ _).mono ?_
   rintro e w' ⟨rfl,rfl⟩
   by_cases hp2:inB x.shifts 0 40=true
   ·have HOK:=Lib.hid (show ¬ (x.preempts<0∨40<x.preempts∨x.shifts<0∨40<x.shifts) by have:=inB_iff.1 hp1;have:=inB_iff.1 hp2;omega)
    go_wp2
    go_loopw [28] (FairRel s x ((w.alloc (.cells #[.slice A1 n1 c1,.slice A2 n2 c2,.slice A3 n3 c3] 26)).alloc (.cells #[.slice A4 n4 c4,.int .i64 x.preempts,.int .i64 x.shifts] 29)) (w.heap.size+2)) (fun i _=>n4 - (intOf i).toNat)
    case atStart=>exact ⟨0,true,0,by omega,rfl,fun _=>rfl,fun j hj h=>by omega,rfl,k1⟩
    case round =>
     clear a0 a1 a2 a3 a4 a5
     obtain ⟨k,fst,la,hk,rfl,hfs,hfl,hfb,hbr⟩:=hrel
     have HFS:=Lib.hid hfs
     have HFL:=Lib.hid hfl
     have HFB:=Lib.hid hfb
     clear hfs hfl hfb
     have hzr:w.heap.size+2≤wr.heap.size:=by have:=hbr.size;simpa using this
     have kwr:Below w.heap.size w wr:=b00.trans (hbr.mono (by omega))
     by_cases hlt:k<n4
     ·have hkl:k<x.wants.length:=by have:=HN4.out;omega
      have HOF:=Lib.hid (fun (v:World) (hv:Below w.heap.size w v)=>orderW_any x.wants k A4 n4 c4 v HN4.out (by omega) hkl ((HR4.out.below hv (Nat.le_refl _)).more hv.size))
      obtain ⟨b,o,rfl,hb,he⟩:=HR4.out.at hkl
      generalize hx:x.wants[k]=y at *
      have HX:=Lib.hid hx
      clear hx
      have e0:wr.cell? ⟨b,o+k * 6,none⟩=some (.int .i64 y.pod):=(kwr.cell (p:=⟨b,o+k * 6,none⟩) hb).trans (he 0 _ rfl)
      have e1:wr.cell? ⟨b,o+k * 6+1,none⟩=some (.int .u64 y.req.a):=(kwr.cell (p:=⟨b,o+k * 6+1,none⟩) hb).trans (he 1 _ rfl)
      have e2:wr.cell? ⟨b,o+k * 6+2,none⟩=some (.int .u64 y.req.b):=(kwr.cell (p:=⟨b,o+k * 6+2,none⟩) hb).trans (he 2 _ rfl)
      have e3:wr.cell? ⟨b,o+k * 6+3,none⟩=some (.int .u64 y.req.c):=(kwr.cell (p:=⟨b,o+k * 6+3,none⟩) hb).trans (he 3 _ rfl)
      have e4:wr.cell? ⟨b,o+k * 6+4,none⟩=some (.int .u64 y.req.d):=(kwr.cell (p:=⟨b,o+k * 6+4,none⟩) hb).trans (he 4 _ rfl)
      have e5:wr.cell? ⟨b,o+k * 6+5,none⟩=some (.bool y.stay):=(kwr.cell (p:=⟨b,o+k * 6+5,none⟩) hb).trans (he 5 _ rfl)
      have hbw:b<wr.heap.size:=by omega
      clear he
      obtain ⟨⟨a0,a1,a2⟩,a3,a4,a5⟩:=box2_cells hbr
      go_wp2
      generalize hW:wr.alloc (.cells #[.int .i64 y.pod,.int .u64 y.req.a,.int .u64 y.req.b,.int .u64 y.req.c,.int .u64 y.req.d,.bool y.stay] 65)=W at *
      have kW:Below w.heap.size w W:=by rw [← hW];exact kwr.alloc kwr.size _
      have kW2:Below (w.heap.size+2) ((w.alloc (.cells #[.slice A1 n1 c1,.slice A2 n2 c2,.slice A3 n3 c3] 26)).alloc (.cells #[.slice (some ⟨b,o,none⟩) n4 c4,.int .i64 x.preempts,.int .i64 x.shifts] 29)) W:=by rw [← hW];exact hbr.alloc hzr _
      have hgW:wr.heap.size<W.heap.size:=by rw [← hW];simp
      have hgW0:w.heap.size<W.heap.size:=by omega
      have hgW1:w.heap.size+1<W.heap.size:=by omega
      have f0:W.cell? ⟨wr.heap.size,0,none⟩=some (.int .i64 y.pod):=by rw [← hW];simp
      have f1:W.cell? ⟨wr.heap.size,1,none⟩=some (.int .u64 y.req.a):=by rw [← hW];simp
      have f2:W.cell? ⟨wr.heap.size,2,none⟩=some (.int .u64 y.req.b):=by rw [← hW];simp
      have f3:W.cell? ⟨wr.heap.size,3,none⟩=some (.int .u64 y.req.c):=by rw [← hW];simp
      have f4:W.cell? ⟨wr.heap.size,4,none⟩=some (.int .u64 y.req.d):=by rw [← hW];simp
      have f5:W.cell? ⟨wr.heap.size,5,none⟩=some (.bool y.stay):=by rw [← hW];simp
      clear hW a0 a1 a2 a3 a4 a5
      obtain ⟨⟨a0,a1,a2⟩,a3,a4,a5⟩:=box2_cells kW2
      generalize hq:ordAt WantD.pod x.wants k=q at *
      generalize ht:wantF s.pods y=t
      have HQ:=Lib.hid hq
      have HT:=Lib.hid ht
      clear hq ht
      have HIF2:Hid (∀ v:World,((∀ b o,b<W.heap.size→v.cell? ⟨b,o,none⟩=W.cell? ⟨b,o,none⟩)∧Below W.heap.size W v)→Calls Tryz.prog 42 #[.slice (some ⟨b,o,none⟩) n4 c4,.int .i64 (k:Int),.func (.func 43) #[] #[]] v fun e w'=>e=.returned (.int .i64 q)∧Below v.heap.size v w'):=fun v hv=>HOF.out v (kW.trans (hv.2.mono kW.size))
      have HOT2:Hid (∀ v:World,((∀ b o,b<W.heap.size→v.cell? ⟨b,o,none⟩=W.cell? ⟨b,o,none⟩)∧Below W.heap.size W v)→Calls Tryz.prog 44 #[.agg #[.slice A1 n1 c1,.slice A2 n2 c2,.slice A3 n3 c3],aggW y] v fun e w'=>e=.returned (.int .i64 t)∧Below v.heap.size v w'):=by
       have:=HT.out
       subst this
       exact fun v hv=>wantFault_any s.pods y A1 A2 A3 n1 c1 n2 c2 n3 c3 v HN3.out (by omega) ((HR3.out.below (kW.trans (hv.2.mono kW.size)) (Nat.le_refl _)).more (kW.trans (hv.2.mono kW.size)).size)
      go_region_held3 (fun w'=>(∀ b o,b<W.heap.size→w'.cell? ⟨b,o,none⟩=W.cell? ⟨b,o,none⟩)∧Below W.heap.size W w')
       (first | (with_reducible assumption) | exact Keeps.of (Below.drew (Below.refl _ _)) | exact Keeps.step (by assumption) (by assumption) | exact Keeps.alloc (by assumption) _)
       (first
        | (go_at_call 42;refine (HIF2.out _ (by assumption)).mono ?_;rintro e w' ⟨rfl,hb⟩)
        | (go_at_call 44;refine (HOT2.out _ (by assumption)).mono ?_;rintro e w' ⟨rfl,hb⟩)
        | (go_at_call 41;refine (or_any q t _ _ (by simp) (by simp)).mono ?_;rintro e w' ⟨rfl,rfl⟩))
      have HV:=Lib.hid (show wantBad s fst la y=orI q t by rw [want_key hkl HX.out HFS.out HFL.out,HT.out,HQ.out])
      have HFA:=Lib.hid (firstWant_at hkl HX.out HFB.out)
      by_cases h0:orI q t=0
      ·have hz:(orI q t != 0)=false:=by simp [h0]
       have HE:=Lib.hid (HFA.out.2 (by rw [HV.out];exact h0))
       clear h0
       go_wp2
       go_roundw
       case rel=>exact fairRel_next hkl HX.out HE.out (kW2.trans ((by assumption:Keeps W _).2.mono (by omega)))
       case measure=>simp [intOf];omega
      ·have hz:(orI q t != 0)=true:=by simpa using h0
       have HE:=Lib.hid (fair_some HCK.out HOK.out (HFA.out.1 (by rw [HV.out];exact h0)))
       clear h0
       go_wp2_with fail
       refine (spot_any _ _ _).mono ?_
       rintro e w2 ⟨rfl,rfl⟩
       go_wp2
       go_ret
       refine fair_end kW ?_ HE.out HV.out ?_
       ·assumption
       ·simp
     ·have HE:=Lib.hid (fair_fine HCK.out HOK.out (firstWant_end (by have:=HN4.out;omega) HFB.out))
      go_wp2
      go_ret
      exact ⟨_,rfl,.inl ⟨HE.out,rfl⟩,kwr⟩
   ·have hp2':inB x.shifts 0 40=false:=by simpa using hp2
    have HE:=Lib.hid (fair_large (x:=x) HCK.out (by have:=mt inB_iff.2 (by rw [hp2'];decide:¬ inB x.shifts 0 40=true);omega))
    clear hp2
    go_wp2
    go_ret
    exact ⟨_,rfl,.inr (.inl ⟨by rw [HE.out],by rw [HE.out];decide,by rw [HE.out];decide,by rw [HE.out];rfl⟩),kw1⟩
  ·have hp1':inB x.preempts 0 40=false:=by simpa using hp1
   have HE:=Lib.hid (fair_large (x:=x) HCK.out (by have:=mt inB_iff.2 (by rw [hp1'];decide:¬ inB x.preempts 0 40=true);omega))
   clear hp1
   go_wp2
   go_ret
   exact ⟨_,rfl,.inr (.inl ⟨by rw [HE.out],by rw [HE.out];decide,by rw [HE.out];decide,by rw [HE.out];rfl⟩),kw1⟩
 ·obtain ⟨t,v,rfl⟩:=errIs_some hu hck
  have HU:=Lib.hid hu
  have HE:=Lib.hid (fair_bad (x:=x) hck)
  clear hu hck
  go_wp2
  go_ret
  exact ⟨_,rfl,by rw [HE.out];exact HU.out.more b00.size,kw1⟩
end Go.Proofs.YthapilknnhlmfaaGreatDoor
