/- Joined texts, part 10: BB EP YB ES YC YD OA. -/
import Derived.Test.YthapilknnhlmfaaGreatDoorZ09
import Derived.Test.YthapilknnhlmfaaGreatDoorZ05
import Derived.Test.YthapilknnhlmfaaGreatDoorZ08
import Derived.Shelf.Sort.Plain
import Derived.Shelf.Slices.CompactI
import Derived.Shelf.Slices.In.SortNone
import Derived.Shelf.Slices.SearchI
import Derived.Shelf.Slices.Turned
import Derived.Test.YthapilknnhlmfaaGreatDoorProg
import Derived.Test.YthapilknnhlmfaaGreatDoorZ07
import Derived.Deep.OwnRows
import Derived.Sort.OwnSortedInts
import Derived.Lib.OwnBridge
import Derived.Sort.Grow
import Derived.Test.YthapilknnhlmfaaGreatDoorZ01
import Derived.Test.YthapilknnhlmfaaGreatDoorZ04
import Derived.Deep.RegionHeld3
import Derived.Test.YthapilknnhlmfaaGreatDoorZ02

namespace Go.Proofs.YthapilknnhlmfaaGreatDoor
set_option linter.unusedSimpArgs false
open Go.RowKit
set_option linter.unusedVariables false
section
variable {V:World}
theorem Bf.cells8 {b:Nat} {x:PodD} (h:Bf V b (cellsP x)):(V.cell? ⟨b,0,none⟩=some (.int .i64 x.id)∧V.cell? ⟨b,1,none⟩=some (.int .i64 x.load)∧V.cell? ⟨b,2,none⟩=some (.int .i64 x.prio)∧V.cell? ⟨b,3,none⟩=some (.int .u64 x.req.a)) ∧
  V.cell? ⟨b,4,none⟩=some (.int .u64 x.req.b)∧V.cell? ⟨b,5,none⟩=some (.int .u64 x.req.c)∧V.cell? ⟨b,6,none⟩=some (.int .u64 x.req.d)∧V.cell? ⟨b,7,none⟩=some (.int .i64 x.node)∧b<V.heap.size :=
 ⟨⟨h.cell 0 _ rfl,h.cell 1 _ rfl,h.cell 2 _ rfl,h.cell 3 _ rfl⟩,h.cell 4 _ rfl,h.cell 5 _ rfl,h.cell 6 _ rfl,h.cell 7 _ rfl,h.lt⟩
end
set_option maxHeartbeats 3200000 in
set_option maxRecDepth 100000 in
theorem hasApart_any (ls:List LoadD) (id:Int) (A2:Option Addr) (n2 c2:Nat) (s1 s3:Value) (w:World) (hn:n2=ls.length) (hl:n2≤400) (hr:Recs 5 cellsL w w.heap.size A2 ls) :
  Calls Tryz.prog 167 #[.agg #[s1,.slice A2 n2 c2,s3],.int .i64 id] w fun e w'=>e=.returned (.bool (apartD id ls))∧Below w.heap.size w w':=by
 have b00:Below w.heap.size w (w.alloc (.cells #[s1,.slice A2 n2 c2,s3] 26)):=(Below.refl _ _).alloc (Nat.le_refl _) _
 have HF:=Lib.hid (load_any ls id A2 n2 c2 s1 s3 (w.alloc (.cells #[s1,.slice A2 n2 c2,s3] 26)) hn (by omega) ((hr.below b00 (Nat.le_refl _)).more b00.size))
 clear hr hn
 go_enter Tryz.func167,Tryz.ntmps167
 go_wp2_with fail
 refine HF.out.mono ?_
 rintro e w1 ⟨hh,hb1⟩
 have kw1:Below w.heap.size w w1:=b00.trans (hb1.mono b00.size)
 clear hb1 b00
 rcases hh with ⟨hp,rfl⟩ | ⟨i,hi,hp,rfl⟩
 ·have HE:=Lib.hid (apartD_no (k:=0) (Int.le_refl _) hp)
  clear hp
  go_wp2
  go_ret
  exact ⟨ret_bool HE.out.symm,kw1.alloc kw1.size _⟩
 ·have HE:=Lib.hid (apartD_yes (k:=0) hi (by rw [hp];omega) (Int.le_refl _))
  generalize ls[i]=x at *
  clear hp
  go_wp2
  go_ret
  exact ⟨ret_bool HE.out.symm,kw1.alloc kw1.size _⟩

set_option maxHeartbeats 3200000 in
set_option maxRecDepth 100000 in
theorem apClash_any (ls:List LoadD) (a b:PodD) (A2:Option Addr) (n2 c2:Nat) (s1 s3:Value) (w:World) (hn:n2=ls.length) (hl:n2≤400) (hr:Recs 5 cellsL w w.heap.size A2 ls) :
  Calls Tryz.prog 155 #[.agg #[s1,.slice A2 n2 c2,s3],aggP a,aggP b] w fun e w'=>e=.returned (.bool (clashD ls a b))∧Below w.heap.size w w':=by
 have T0:=T3.new w [s1,.slice A2 n2 c2,s3] (cellsP a) (cellsP b) 26 63 63
 have k0:=T0.below
 have HF:=Lib.hid (fun (V:World) (hV:Below w.heap.size w V)=>hasApart_any ls a.load A2 n2 c2 s1 s3 V hn hl ((hr.below hV (Nat.le_refl _)).more hV.size))
 have HFF:=Lib.hid (HF.out _ k0)
 have HK:=Lib.hid k0
 clear hr hn T0 k0 HF
 by_cases h0:a.node=0
 ·have HE:=Lib.hid (show clashD ls a b=false by simp [clashD,h0])
  have hd:(a.node != 0)=false:=by simp [h0]
  clear h0
  go_enter Tryz.func155,Tryz.ntmps155
  go_wp2
  go_ret
  exact ⟨ret_bool HE.out.symm,HK.out⟩
 have hd:(a.node != 0)=true:=by simp [h0]
 by_cases h1:a.node=b.node
 ·have hd1:(a.node == b.node)=true:=by simp [h1]
  by_cases h2:a.load=b.load
  ·have hd2:(a.load == b.load)=true:=by simp [h2]
   have HE:=Lib.hid (show clashD ls a b=apartD a.load ls by simp only [clashD,hd,hd1,hd2,Bool.true_and])
   clear h0 h1 h2
   go_enter Tryz.func155,Tryz.ntmps155
   go_wp2_with fail
   refine HFF.out.mono ?_
   rintro e w1 ⟨rfl,hb1⟩
   have k1:=HK.out.trans (hb1.mono HK.out.size)
   clear hb1
   go_wp2
   go_ret
   exact ⟨ret_bool HE.out.symm,k1⟩
  ·have hd2:(a.load == b.load)=false:=by simp [h2]
   have HE:=Lib.hid (show clashD ls a b=false by simp only [clashD,hd,hd1,hd2,Bool.true_and,Bool.false_and])
   clear h0 h1 h2
   go_enter Tryz.func155,Tryz.ntmps155
   go_wp2
   go_ret
   exact ⟨ret_bool HE.out.symm,HK.out⟩
 ·have hd1:(a.node == b.node)=false:=by simp [h1]
  have HE:=Lib.hid (show clashD ls a b=false by simp only [clashD,hd,hd1,Bool.true_and,Bool.false_and])
  clear h0 h1
  go_enter Tryz.func155,Tryz.ntmps155
  go_wp2
  go_ret
  exact ⟨ret_bool HE.out.symm,HK.out⟩
theorem apTwoClosure_any (ls:List LoadD) (p q:PodD) (gs gp:Nat) (A2:Option Addr) (n2 c2:Nat) (s1 s3:Value) (w:World) (hs:Bf w gs [s1,.slice A2 n2 c2,s3]) (hp:Bf w gp (cellsP p)) (hn:n2=ls.length) (hl:n2≤400) (hr:Recs 5 cellsL w w.heap.size A2 ls) :
  Calls Tryz.prog 154 #[aggP q,.pointer (some ⟨gs,0,none⟩),.pointer (some ⟨gp,0,none⟩)] w fun e w'=>e=.returned (.bool (clashD ls p q))∧Below w.heap.size w w':=by
 obtain ⟨a0,a1,a2,a3⟩:=hs.cells3
 obtain ⟨⟨b0,b1,b2,b3⟩,b4,b5,b6,b7,b8⟩:=hp.cells8
 have b00:Below w.heap.size w (w.alloc (.cells #[.int .i64 q.id,.int .i64 q.load,.int .i64 q.prio,.int .u64 q.req.a,.int .u64 q.req.b,.int .u64 q.req.c,.int .u64 q.req.d,.int .i64 q.node] 63)):=(Below.refl _ _).alloc (Nat.le_refl _) _
 have HF:=Lib.hid (apClash_any ls p q A2 n2 c2 s1 s3 (w.alloc (.cells #[.int .i64 q.id,.int .i64 q.load,.int .i64 q.prio,.int .u64 q.req.a,.int .u64 q.req.b,.int .u64 q.req.c,.int .u64 q.req.d,.int .i64 q.node] 63)) hn hl ((hr.below b00 (Nat.le_refl _)).more b00.size))
 clear hr hn hs hp
 go_enter Tryz.func154,Tryz.ntmps154
 go_wp2_with fail
 refine HF.out.mono ?_
 rintro e w1 ⟨rfl,hb1⟩
 go_wp2
 go_ret
 exact ⟨rfl,b00.trans (hb1.mono b00.size)⟩

def IdxRel (f:PodD→Bool) (l:List PodD) (W:World) (i:Value) (wr:World):Prop:=∃ k:Nat,k≤l.length∧i=.int .i64 k∧idxF f (l.drop k) k=idxF f l 0∧Below W.heap.size W wr
set_option maxHeartbeats 3200000 in
set_option maxRecDepth 100000 in
theorem apIndexTwo_any (ls:List LoadD) (p:PodD) (l:List PodD) (gs gp:Nat) (A2:Option Addr) (n2 c2:Nat) (s1 s3:Value) (A:Option Addr) (n c:Nat) (w:World) (hs:Bf w gs [s1,.slice A2 n2 c2,s3]) (hp:Bf w gp (cellsP p)) (hn2:n2=ls.length) (hl2:n2≤400) (hr2:Recs 5 cellsL w w.heap.size A2 ls) (hn:n=l.length) (hl:n≤1000) (hr:Recs 8 cellsP w w.heap.size A l) :
  Calls Tryz.prog 112 #[.slice A n c,.func (.func 154) #[] #[.pointer (some ⟨gs,0,none⟩),.pointer (some ⟨gp,0,none⟩)]] w fun e w'=>e=.returned (.int .i64 (idxF (clashD ls p) l 0))∧Below w.heap.size w w':=by
 have HR:=Lib.hid hr
 have HN:=Lib.hid hn
 have HC:=Lib.hid (fun (V:World) (hV:Below w.heap.size w V) (q:PodD)=>apTwoClosure_any ls p q gs gp A2 n2 c2 s1 s3 V (hs.below hV hs.lt) (hp.below hV hp.lt) hn2 hl2 ((hr2.below hV (Nat.le_refl _)).more hV.size))
 clear hr hn hs hp hn2 hr2
 go_enter Tryz.func112,Tryz.ntmps112
 go_wp2
 go_loopw [8] (IdxRel (clashD ls p) l w) (fun i _=>n - (intOf i).toNat)
 case atStart=>exact ⟨0,by omega,rfl,rfl,Below.refl _ _⟩
 case round =>
  obtain ⟨k,hk,rfl,hp,hbr⟩:=hrel
  have HP:=Lib.hid hp
  have hzr:=hbr.size
  clear hp
  by_cases hlt:k<n
  ·have hkl:k<l.length:=by have:=HN.out;omega
   obtain ⟨b,o,rfl,hb,he⟩:=HR.out.at hkl
   generalize hx:l[k]=x at *
   have HX:=Lib.hid (idxF_at hkl hx HP.out)
   clear hx
   have e0:wr.cell? ⟨b,o+k * 8,none⟩=some (.int .i64 x.id):=(hbr.cell (p:=⟨b,o+k * 8,none⟩) hb).trans (he 0 _ rfl)
   have e1:wr.cell? ⟨b,o+k * 8+1,none⟩=some (.int .i64 x.load):=(hbr.cell (p:=⟨b,o+k * 8+1,none⟩) hb).trans (he 1 _ rfl)
   have e2:wr.cell? ⟨b,o+k * 8+2,none⟩=some (.int .i64 x.prio):=(hbr.cell (p:=⟨b,o+k * 8+2,none⟩) hb).trans (he 2 _ rfl)
   have e3:wr.cell? ⟨b,o+k * 8+3,none⟩=some (.int .u64 x.req.a):=(hbr.cell (p:=⟨b,o+k * 8+3,none⟩) hb).trans (he 3 _ rfl)
   have e4:wr.cell? ⟨b,o+k * 8+4,none⟩=some (.int .u64 x.req.b):=(hbr.cell (p:=⟨b,o+k * 8+4,none⟩) hb).trans (he 4 _ rfl)
   have e5:wr.cell? ⟨b,o+k * 8+5,none⟩=some (.int .u64 x.req.c):=(hbr.cell (p:=⟨b,o+k * 8+5,none⟩) hb).trans (he 5 _ rfl)
   have e6:wr.cell? ⟨b,o+k * 8+6,none⟩=some (.int .u64 x.req.d):=(hbr.cell (p:=⟨b,o+k * 8+6,none⟩) hb).trans (he 6 _ rfl)
   have e7:wr.cell? ⟨b,o+k * 8+7,none⟩=some (.int .i64 x.node):=(hbr.cell (p:=⟨b,o+k * 8+7,none⟩) hb).trans (he 7 _ rfl)
   have hbw:b<wr.heap.size:=by omega
   have HCR:=Lib.hid (HC.out wr hbr x)
   clear he
   go_wp2_with fail
   go_at_call 154
   refine HCR.out.mono ?_
   rintro e w1 ⟨rfl,hb1⟩
   have k1:Below w.heap.size w w1:=hbr.trans (hb1.mono hzr)
   cases hd:clashD ls p x with
   | true =>
    have HE:=Lib.hid (HX.out.1 hd)
    clear hd
    go_wp2
    go_ret
    exact ⟨ret_int HE.out.symm,k1⟩
   | false =>
    have HE:=Lib.hid (HX.out.2 hd)
    clear hd
    go_wp2
    go_roundw
    case rel=>exact ⟨k+1,by omega,by go_num,HE.out,k1⟩
    case measure=>simp [intOf];omega
  ·have HE:=Lib.hid (idxF_end (by have:=HN.out;omega) HP.out)
   go_wp2
   go_ret
   exact ⟨ret_int HE.out.symm,hbr⟩

set_option maxHeartbeats 1600000 in
theorem apContains_any (ls:List LoadD) (p:PodD) (l:List PodD) (gs gp:Nat) (A2:Option Addr) (n2 c2:Nat) (s1 s3:Value) (A:Option Addr) (n c:Nat) (w:World) (hs:Bf w gs [s1,.slice A2 n2 c2,s3]) (hp:Bf w gp (cellsP p)) (hn2:n2=ls.length) (hl2:n2≤400) (hr2:Recs 5 cellsL w w.heap.size A2 ls) (hn:n=l.length) (hl:n≤1000) (hr:Recs 8 cellsP w w.heap.size A l) :
  Calls Tryz.prog 153 #[.slice A n c,.func (.func 154) #[] #[.pointer (some ⟨gs,0,none⟩),.pointer (some ⟨gp,0,none⟩)]] w fun e w'=>e=.returned (.bool (l.any (clashD ls p)))∧Below w.heap.size w w':=by
 have HF:=Lib.hid (apIndexTwo_any ls p l gs gp A2 n2 c2 s1 s3 A n c w hs hp hn2 hl2 hr2 hn hl hr)
 have HE:=Lib.hid (idxF_any (f:=clashD ls p) l 0 (Int.le_refl _))
 clear hs hp hn2 hl2 hr2 hn hl hr
 go_enter Tryz.func153,Tryz.ntmps153
 go_wp2_with fail
 refine HF.out.mono ?_
 rintro e w1 ⟨rfl,hb1⟩
 go_wp2
 go_ret
 exact ⟨ret_bool HE.out,hb1⟩
end Go.Proofs.YthapilknnhlmfaaGreatDoor
namespace Go.Proofs.YthapilknnhlmfaaGreatDoor
set_option linter.unusedSimpArgs false
open Go.Shelf
def Tryz.laysSort_ren:Go.Shelf.Ren:=⟨fun | 189=>181 | 125=>186 | 257=>191 | 128=>202 | 129=>203 | 294=>206 | 295=>207 | 296=>208 | 297=>209 | 298=>210 | 299=>211 | 216=>192 | 300=>212 | 301=>213 | 328=>219 | 329=>215 | 330=>216 | 331=>220 | 332=>221 | 215=>121 | 343=>223 | n=>n,fun | 28=>135 | 3=>3 | 46=>244 | 0=>0 | 51=>274 | 53=>55 | 4=>4 | 183=>268 | 182=>267 | 131=>255 | 5=>5 | 9=>9 | 218=>282 | 222=>286 | 228=>290 | 229=>39 | n=>n,fun | n=>n⟩
theorem Tryz.laysSort:Go.Proofs.Lays.n189 Tryz.prog Tryz.laysSort_ren:={
 mixed:=by kernel_rfl
 f125:=Tryz.func186.trans (congrArg some (by kernel_rfl))
 f128:=Tryz.func202.trans (congrArg some (by kernel_rfl))
 f129:=Tryz.func203.trans (congrArg some (by kernel_rfl))
 f189:=Tryz.func181.trans (congrArg some (by kernel_rfl))
 f215:=Tryz.func121.trans (congrArg some (by kernel_rfl))
 f216:=Tryz.func192.trans (congrArg some (by kernel_rfl))
 f257:=Tryz.func191.trans (congrArg some (by kernel_rfl))
 f294:=Tryz.func206.trans (congrArg some (by kernel_rfl))
 f295:=Tryz.func207.trans (congrArg some (by kernel_rfl))
 f296:=Tryz.func208.trans (congrArg some (by kernel_rfl))
 f297:=Tryz.func209.trans (congrArg some (by kernel_rfl))
 f298:=Tryz.func210.trans (congrArg some (by kernel_rfl))
 f299:=Tryz.func211.trans (congrArg some (by kernel_rfl))
 f300:=Tryz.func212.trans (congrArg some (by kernel_rfl))
 f301:=Tryz.func213.trans (congrArg some (by kernel_rfl))
 f328:=Tryz.func219.trans (congrArg some (by kernel_rfl))
 f329:=Tryz.func215.trans (congrArg some (by kernel_rfl))
 f330:=Tryz.func216.trans (congrArg some (by kernel_rfl))
 f331:=Tryz.func220.trans (congrArg some (by kernel_rfl))
 f332:=Tryz.func221.trans (congrArg some (by kernel_rfl))
 f343:=Tryz.func223.trans (congrArg some (by kernel_rfl))
 t0:=Tryz.underlying0
 a0:=Tryz.isAgg0
 z0:=Tryz.sizeOf0
 v0:=Tryz.zeroValue0
 t3:=Tryz.underlying3
 a3:=Tryz.isAgg3
 z3:=Tryz.sizeOf3
 v3:=Tryz.zeroValue3
 t4:=Tryz.underlying4
 a4:=Tryz.isAgg4
 z4:=Tryz.sizeOf4
 v4:=Tryz.zeroValue4
 t5:=Tryz.underlying5
 a5:=Tryz.isAgg5
 z5:=Tryz.sizeOf5
 v5:=Tryz.zeroValue5
 t9:=Tryz.underlying9
 a9:=Tryz.isAgg9
 z9:=Tryz.sizeOf9
 v9:=Tryz.zeroValue9
 t28:=Tryz.underlying135
 a28:=Tryz.isAgg135
 z28:=Tryz.sizeOf135
 v28:=Tryz.zeroValue135
 t46:=Tryz.underlying244
 a46:=Tryz.isAgg244
 z46:=Tryz.sizeOf244
 v46:=Tryz.zeroValue244
 t51:=Tryz.underlying274
 a51:=Tryz.isAgg274
 z51:=Tryz.sizeOf274
 v51:=Tryz.zeroValue274
 t53:=Tryz.underlying55
 a53:=Tryz.isAgg55
 z53:=Tryz.sizeOf55
 v53:=Tryz.zeroValue55
 t131:=Tryz.underlying255
 a131:=Tryz.isAgg255
 z131:=Tryz.sizeOf255
 v131:=Tryz.zeroValue255
 t182:=Tryz.underlying267
 a182:=Tryz.isAgg267
 z182:=Tryz.sizeOf267
 v182:=Tryz.zeroValue267
 t183:=Tryz.underlying268
 a183:=Tryz.isAgg268
 z183:=Tryz.sizeOf268
 v183:=Tryz.zeroValue268
 t218:=Tryz.underlying282
 a218:=Tryz.isAgg282
 z218:=Tryz.sizeOf282
 v218:=Tryz.zeroValue282
 t222:=Tryz.underlying286
 a222:=Tryz.isAgg286
 z222:=Tryz.sizeOf286
 v222:=Tryz.zeroValue286
 t228:=Tryz.underlying290
 a228:=Tryz.isAgg290
 z228:=Tryz.sizeOf290
 v228:=Tryz.zeroValue290
 t229:=Tryz.underlying39
 a229:=Tryz.isAgg39
 z229:=Tryz.sizeOf39
 v229:=Tryz.zeroValue39 }
def Tryz.laysCompact_ren:Go.Shelf.Ren:=⟨fun | 20=>182 | n=>n,fun | 22=>135 | 3=>3 | 4=>4 | 0=>0 | n=>n,fun | n=>n⟩
theorem Tryz.laysCompact:Go.Proofs.Lays2.n20 Tryz.prog Tryz.laysCompact_ren:={
 mixed:=by kernel_rfl
 f20:=Tryz.func182.trans (congrArg some (by kernel_rfl))
 t0:=Tryz.underlying0
 a0:=Tryz.isAgg0
 z0:=Tryz.sizeOf0
 v0:=Tryz.zeroValue0
 t3:=Tryz.underlying3
 a3:=Tryz.isAgg3
 z3:=Tryz.sizeOf3
 v3:=Tryz.zeroValue3
 t4:=Tryz.underlying4
 a4:=Tryz.isAgg4
 z4:=Tryz.sizeOf4
 v4:=Tryz.zeroValue4
 t22:=Tryz.underlying135
 a22:=Tryz.isAgg135
 z22:=Tryz.sizeOf135
 v22:=Tryz.zeroValue135
 i3:=by kernel_rfl }
def Tryz.laysSearch_ren:Go.Shelf.Ren:=⟨fun | 25=>184 | 31=>192 | 32=>193 | 37=>121 | n=>n,fun | 22=>135 | 3=>3 | 4=>4 | 40=>244 | 0=>0 | n=>n,fun | n=>n⟩
theorem Tryz.laysSearch:Go.Proofs.Lays2.n25 Tryz.prog Tryz.laysSearch_ren:={
 mixed:=by kernel_rfl
 f25:=Tryz.func184.trans (congrArg some (by kernel_rfl))
 f31:=Tryz.func192.trans (congrArg some (by kernel_rfl))
 f32:=Tryz.func193.trans (congrArg some (by kernel_rfl))
 f37:=Tryz.func121.trans (congrArg some (by kernel_rfl))
 t0:=Tryz.underlying0
 a0:=Tryz.isAgg0
 z0:=Tryz.sizeOf0
 v0:=Tryz.zeroValue0
 t3:=Tryz.underlying3
 a3:=Tryz.isAgg3
 z3:=Tryz.sizeOf3
 v3:=Tryz.zeroValue3
 t4:=Tryz.underlying4
 a4:=Tryz.isAgg4
 z4:=Tryz.sizeOf4
 v4:=Tryz.zeroValue4
 t22:=Tryz.underlying135
 a22:=Tryz.isAgg135
 z22:=Tryz.sizeOf135
 v22:=Tryz.zeroValue135
 t40:=Tryz.underlying244
 a40:=Tryz.isAgg244
 z40:=Tryz.sizeOf244
 v40:=Tryz.zeroValue244 }
def Tryz.laysMax_ren:Go.Shelf.Ren:=⟨fun | 113=>170 | n=>n,fun | 28=>135 | 3=>3 | 4=>4 | 9=>9 | 20=>20 | 0=>0 | n=>n,fun | n=>n⟩
theorem Tryz.laysMax:Go.Proofs.Lays.n113 Tryz.prog Tryz.laysMax_ren:={
 mixed:=by kernel_rfl
 f113:=Tryz.func170.trans (congrArg some (by kernel_rfl))
 t0:=Tryz.underlying0
 a0:=Tryz.isAgg0
 z0:=Tryz.sizeOf0
 v0:=Tryz.zeroValue0
 t3:=Tryz.underlying3
 a3:=Tryz.isAgg3
 z3:=Tryz.sizeOf3
 v3:=Tryz.zeroValue3
 t4:=Tryz.underlying4
 a4:=Tryz.isAgg4
 z4:=Tryz.sizeOf4
 v4:=Tryz.zeroValue4
 t9:=Tryz.underlying9
 a9:=Tryz.isAgg9
 z9:=Tryz.sizeOf9
 v9:=Tryz.zeroValue9
 t20:=Tryz.underlying20
 a20:=Tryz.isAgg20
 z20:=Tryz.sizeOf20
 v20:=Tryz.zeroValue20
 t28:=Tryz.underlying135
 a28:=Tryz.isAgg135
 z28:=Tryz.sizeOf135
 v28:=Tryz.zeroValue135 }
def Tryz.laysMin_ren:Go.Shelf.Ren:=⟨fun | 114=>171 | n=>n,fun | 28=>135 | 3=>3 | 4=>4 | 9=>9 | 20=>20 | 0=>0 | n=>n,fun | n=>n⟩
theorem Tryz.laysMin:Go.Proofs.Lays.n114 Tryz.prog Tryz.laysMin_ren:={
 mixed:=by kernel_rfl
 f114:=Tryz.func171.trans (congrArg some (by kernel_rfl))
 t0:=Tryz.underlying0
 a0:=Tryz.isAgg0
 z0:=Tryz.sizeOf0
 v0:=Tryz.zeroValue0
 t3:=Tryz.underlying3
 a3:=Tryz.isAgg3
 z3:=Tryz.sizeOf3
 v3:=Tryz.zeroValue3
 t4:=Tryz.underlying4
 a4:=Tryz.isAgg4
 z4:=Tryz.sizeOf4
 v4:=Tryz.zeroValue4
 t9:=Tryz.underlying9
 a9:=Tryz.isAgg9
 z9:=Tryz.sizeOf9
 v9:=Tryz.zeroValue9
 t20:=Tryz.underlying20
 a20:=Tryz.isAgg20
 z20:=Tryz.sizeOf20
 v20:=Tryz.zeroValue20
 t28:=Tryz.underlying135
 a28:=Tryz.isAgg135
 z28:=Tryz.sizeOf135
 v28:=Tryz.zeroValue135 }
end Go.Proofs.YthapilknnhlmfaaGreatDoor
namespace Go.Proofs.YthapilknnhlmfaaGreatDoor
set_option linter.unusedSimpArgs false
open Go.RowKit Go.Shelf
set_option linter.unusedVariables false
set_option maxHeartbeats 6400000 in
set_option maxRecDepth 100000 in
theorem zoneOf_any (ns:List NodeD) (p:PodD) (A1:Option Addr) (n1 c1:Nat) (s2 s3:Value) (w:World) (hn1:n1=ns.length) (hl1:n1≤1000) (hr1:Recs 10 cellsN w w.heap.size A1 ns) :
  Calls Tryz.prog 183 #[.agg #[.slice A1 n1 c1,s2,s3],aggP p] w fun e w'=>e=.returned (.tuple #[.int .i64 ((zoneD ns p).getD 0),.bool (zoneD ns p).isSome])∧Below w.heap.size w w':=by
 have T0:=T2.new w [.slice A1 n1 c1,s2,s3] (cellsP p) 26 63
 have HF:=Lib.hid (node_any ns p.node A1 n1 c1 s2 s3 _ hn1 hl1 ((hr1.below T0.below (Nat.le_refl _)).more T0.below.size))
 have HN1:=Lib.hid hn1
 have HT0:=Lib.hid T0
 clear hr1 hn1 T0
 go_enter Tryz.func183,Tryz.ntmps183
 by_cases h0:p.node=0
 ·have hd:(p.node == 0)=true:=by simp [h0]
  have HE:=Lib.hid (zoneD_nowhere (ns:=ns) h0)
  have kw:=HT0.out.below
  clear h0
  go_wp2
  go_ret2
  exact ⟨by rw [HE.out];rfl,kw⟩
 ·have hd:(p.node == 0)=false:=by simp [h0]
  have H0:=Lib.hid h0
  clear h0
  go_wp2_with fail
  refine HF.out.mono ?_
  rintro e w1 ⟨hh,hb1⟩
  have T1:=HT0.out.keep hb1
  clear hb1 HT0 HF
  rcases hh with ⟨hp,rfl⟩ | ⟨i,hi,hp,rfl⟩
  ·have HE:=Lib.hid (zoneD_none (ns:=ns) hp)
   have kw:=T1.below.alloc T1.below.size (.cells (cellsN ⟨0,0,⟨0,0,0,0⟩,⟨0,0,0,0⟩⟩).toArray 59)
   clear hp T1
   go_wp2
   go_ret2
   exact ⟨by rw [HE.out];rfl,kw⟩
  ·have HE:=Lib.hid (zoneD_some (ns:=ns) H0.out hi hp)
   generalize ns[i]=x at *
   have kw:=T1.below.alloc T1.below.size (.cells (cellsN x).toArray 59)
   clear hp T1
   go_wp2
   go_ret2
   exact ⟨by rw [HE.out];rfl,kw⟩
theorem search_any (zs:List Int) (x:Int) (b o n c:Nat) (w:World) (hn:n=zs.length) (hl:n≤1000) (hr:Rising zs) (hc:∀ j,j<zs.length→w.cell? ⟨b,o+j,none⟩=some (.int .i64 (zs.getD j 0))) :
  Calls Tryz.prog 184 #[.slice (some ⟨b,o,none⟩) n c,.int .i64 x] w fun e w'=>e=.returned (.tuple #[.int .i64 (zs.countP (·<x):Nat),.bool (zs.contains x)])∧Below w.heap.size w w':=by
 have h:=Any.slices_BinarySearch_int Tryz.laysSearch b o n c zs x w (by omega) (by omega) hc (by rw [hn,List.take_length];exact rising_le hr)
 rw [hn,List.take_length] at h
 subst hn
 exact h.mono fun e w' ⟨h1,q,h2⟩=>⟨h1,by rw [h2];exact below_draws (Below.refl _ _) q⟩
theorem made_zero (n:Nat):madeCells #[Value.int .i64 0] n=(i64s (List.replicate n 0)).toArray:=by
 apply Array.ext'
 simp [madeCells,Nat.mod_one]
 exact List.ext_getElem (by simp) fun i h1 h2=>by simp
theorem T3.put {a b c:List Value} {w V:World} (h:T3 a b c w V) (i:Nat) (v:Value):T3 a b (c.set i v) w (V.setCell ⟨w.heap.size+2,i,none⟩ v) :=
 ⟨h.one.other (by simp) _,h.two.other (by simp) _,h.three.set i v,h.below.setCell (by simp) _⟩
theorem i64s_set (l:List Int) (i:Nat) (x:Int):(i64s l).set i (.int .i64 x)=i64s (l.set i x):=by simp [i64s,List.map_set]
def CountRel (ns:List NodeD) (load:Int) (zs:List Int) (l:List PodD) (a b:List Value) (w:World) (i:Value) (wr:World):Prop:=∃ k:Nat,k≤l.length∧i=.int .i64 k∧T3 a b (i64s (countsD ns load zs (l.take k))) w wr
def CountTo (ns:List NodeD) (load:Int) (zs:List Int) (l:List PodD) (n:Nat) (w:World) (e:Ending) (w':World):Prop:=∃ g,e=.returned (.slice (some ⟨g,0,none⟩) n n)∧w.heap.size≤g∧Bf w' g (i64s (countsD ns load zs l))∧Below w.heap.size w w'

set_option maxHeartbeats 12800000 in
set_option maxRecDepth 100000 in
theorem counts_any (ns:List NodeD) (l:List PodD) (load:Int) (zs:List Int) (A1 A4:Option Addr) (n1 c1 n4 c4 bz oz nz cz:Nat) (s2 s3 v1 v2:Value) (w:World)
  (hn1:n1=ns.length) (hl1:n1≤400) (hr1:Recs 10 cellsN w w.heap.size A1 ns) (hn4:n4=l.length) (hl4:n4≤400) (hr4:Recs 8 cellsP w w.heap.size A4 l)
  (hnz:nz=zs.length) (hlz:nz≤1000) (hrz:Rising zs) (hbz:bz<w.heap.size) (hcz:∀ j,j<zs.length→w.cell? ⟨bz,oz+j,none⟩=some (.int .i64 (zs.getD j 0))) :
  Calls Tryz.prog 169 #[.agg #[.slice A1 n1 c1,s2,s3],.agg #[.slice A4 n4 c4,v1,v2],.int .i64 load,.slice (some ⟨bz,oz,none⟩) nz cz] w (CountTo ns load zs l nz w):=by
 have T0:=T3.new w [.slice A1 n1 c1,s2,s3] [.slice A4 n4 c4,v1,v2] (i64s (List.replicate nz 0)) 26 44 3
 have HN4:=Lib.hid hn4
 have HR4:=Lib.hid hr4
 have HNZ:=Lib.hid hnz
 have HRZ:=Lib.hid hrz
 have HZO:=Lib.hid (fun (V:World) (hV:Below w.heap.size w V) (p:PodD)=>zoneOf_any ns p A1 n1 c1 s2 s3 V hn1 (by omega) ((hr1.below hV (Nat.le_refl _)).more hV.size))
 have HSE:=Lib.hid (fun (V:World) (hV:Below w.heap.size w V) (x:Int)=>search_any zs x bz oz nz cz V hnz hlz hrz (fun j hj=>(hV.cell (p:=⟨bz,oz+j,none⟩) hbz).trans (hcz j hj)))
 have HT0:=Lib.hid T0
 have hmk:∀ w:World,(Instr.makeSlice 135 (.int .i64 (nz:Int)) (.int .i64 (nz:Int))).run Tryz.prog w=.ok (.slice (some ⟨w.heap.size,0,none⟩) nz nz) (w.alloc (.cells (i64s (List.replicate nz 0)).toArray 3)):=fun w=>by
  rw [← made_zero]
  exact run_make_row' 135 3 (.int .i64 0) 8 Tryz.underlying135 Tryz.info3 rfl .i64 .i64 nz (by omega) (by omega) w
 clear hr1 hn1 hr4 hn4 hnz hrz hcz T0
 go_enter Tryz.func169,Tryz.ntmps169
 go_wp2
 go_loopw [22] (CountRel ns load zs l [.slice A1 n1 c1,s2,s3] [.slice A4 n4 c4,v1,v2] w) (fun i _=>n4 - (intOf i).toNat)
 case atStart=>exact ⟨0,by omega,rfl,by rw [counts_zero,← HNZ.out];have h:=HT0.out;simp only [i64s,List.map_replicate,List.toArray_replicate] at h ⊢;exact h⟩
 case round =>
  obtain ⟨k,hk,rfl,T1⟩:=hrel
  have HT1:=Lib.hid T1
  clear hmk
  by_cases hlt:k<n4
  ·have hkl:k<l.length:=by have:=HN4.out;omega
   have kwr:=T1.below
   obtain ⟨b,o,rfl,hb,he⟩:=HR4.out.at hkl
   generalize hx:l[k]=p at *
   have HX:=Lib.hid hx
   clear hx
   have e0:wr.cell? ⟨b,o+k * 8,none⟩=some (.int .i64 p.id):=(kwr.cell (p:=⟨b,o+k * 8,none⟩) hb).trans (he 0 _ rfl)
   have e1:wr.cell? ⟨b,o+k * 8+1,none⟩=some (.int .i64 p.load):=(kwr.cell (p:=⟨b,o+k * 8+1,none⟩) hb).trans (he 1 _ rfl)
   have e2:wr.cell? ⟨b,o+k * 8+2,none⟩=some (.int .i64 p.prio):=(kwr.cell (p:=⟨b,o+k * 8+2,none⟩) hb).trans (he 2 _ rfl)
   have e3:wr.cell? ⟨b,o+k * 8+3,none⟩=some (.int .u64 p.req.a):=(kwr.cell (p:=⟨b,o+k * 8+3,none⟩) hb).trans (he 3 _ rfl)
   have e4:wr.cell? ⟨b,o+k * 8+4,none⟩=some (.int .u64 p.req.b):=(kwr.cell (p:=⟨b,o+k * 8+4,none⟩) hb).trans (he 4 _ rfl)
   have e5:wr.cell? ⟨b,o+k * 8+5,none⟩=some (.int .u64 p.req.c):=(kwr.cell (p:=⟨b,o+k * 8+5,none⟩) hb).trans (he 5 _ rfl)
   have e6:wr.cell? ⟨b,o+k * 8+6,none⟩=some (.int .u64 p.req.d):=(kwr.cell (p:=⟨b,o+k * 8+6,none⟩) hb).trans (he 6 _ rfl)
   have e7:wr.cell? ⟨b,o+k * 8+7,none⟩=some (.int .i64 p.node):=(kwr.cell (p:=⟨b,o+k * 8+7,none⟩) hb).trans (he 7 _ rfl)
   have hbw:b<wr.heap.size:=Nat.lt_of_lt_of_le hb kwr.size
   obtain ⟨a0,a1,a2,a3⟩:=T1.one.cells3
   have TW:=T1.alloc (.cells #[.int .i64 p.id,.int .i64 p.load,.int .i64 p.prio,.int .u64 p.req.a,.int .u64 p.req.b,.int .u64 p.req.c,.int .u64 p.req.d,.int .i64 p.node] 63)
   have HTW:=Lib.hid TW
   clear he T1 kwr
   by_cases hload:p.load=load
   ·have hd:(p.load != load)=false:=by simp [hload]
    have HL:=Lib.hid hload
    have HZW:=Lib.hid (HZO.out _ TW.below p)
    clear hload TW
    go_wp2_with fail
    refine HZW.out.mono ?_
    rintro e w2 ⟨rfl,hb2⟩
    have HT2:=Lib.hid (HTW.out.keep hb2)
    clear hb2 HZW HTW e0 e1 e2 e3 e4 e5 e6 e7 a0 a1 a2 a3 hd
    rcases hz:zoneD ns p with _ | z
    ·have HN:=Lib.hid (counts_skip (ns:=ns) (load:=load) (zs:=zs) hkl HX.out (fun z _=>inZ_none hz))
     clear hz
     go_wp2
     go_roundw
     case rel=>exact ⟨k+1,by omega,by go_num,by rw [HN.out];exact HT2.out⟩
     case measure=>simp [intOf];omega
    ·have HSW:=Lib.hid (HSE.out _ HT2.out.below z)
     cases hm:zs.contains z with
     | false =>
      have HN:=Lib.hid (counts_skip (ns:=ns) (load:=load) (zs:=zs) hkl HX.out (fun y hy=>inZ_other hz (fun q=>by rw [q] at hm;simp at hm;exact hm hy)))
      rw [hm] at HSW
      clear hz hm
      go_wp2_with fail
      refine HSW.out.mono ?_
      rintro e w3 ⟨rfl,hb3⟩
      have HT3:=Lib.hid (HT2.out.keep hb3)
      clear hb3 HSW
      go_wp2
      go_roundw
      case rel=>exact ⟨k+1,by omega,by go_num,by rw [HN.out];exact HT3.out⟩
      case measure=>simp [intOf];omega
     | true =>
      have HN:=Lib.hid (counts_bump (ns:=ns) (load:=load) (zs:=zs) hkl HX.out HL.out hz HRZ.out (by simpa using hm))
      have hcl:=count_le ns load z (l.take k)
      rw [List.length_take] at hcl
      rw [hm] at HSW
      clear hz hm
      generalize hi:zs.countP (·<z)=i at *
      generalize hcc:countD ns load z (l.take k)=cc at *
      clear hi hcc
      have hin:(i:Int)<(nz:Int):=by have:=HN.out.1;have:=HNZ.out;omega
      have hi0:(0:Int)≤(i:Int):=by omega
      have hcc:(cc:Int)≤1000:=by omega
      have hcc0:(0:Int)≤(cc:Int):=by omega
      clear hcl
      go_wp2_with fail
      refine HSW.out.mono ?_
      rintro e w3 ⟨rfl,hb3⟩
      have T3':=HT2.out.keep hb3
      have HT3:=Lib.hid T3'
      have g0:w3.cell? ⟨w.heap.size+2,i,none⟩=some (.int .i64 cc):=T3'.three.cell i _ (by rw [List.getElem?_map,HN.out.2.1];rfl)
      have g1:w3.frozen? ⟨w.heap.size+2,i,none⟩=false:=T3'.three.frozen i
      have g2:w.heap.size+2<w3.heap.size:=T3'.three.lt
      clear hb3 HSW T3'
      go_wp2
      go_roundw
      case rel=>exact ⟨k+1,by omega,by go_num,by rw [HN.out.2.2,← i64s_set];exact HT3.out.put i _⟩
      case measure=>simp [intOf];omega
   ·have hd:(p.load != load)=true:=by simp [hload]
    have HN:=Lib.hid (counts_skip (ns:=ns) (load:=load) (zs:=zs) hkl HX.out (fun z _=>inZ_load hload))
    clear hload TW
    go_wp2
    go_roundw
    case rel=>exact ⟨k+1,by omega,by go_num,by rw [HN.out];exact HTW.out⟩
    case measure=>simp [intOf];omega
  ·have HK:Hid (l.take k=l):=List.take_of_length_le (by have:=HN4.out;omega)
   clear T1
   go_wp2
   go_ret
   exact ⟨w.heap.size+2,rfl,by omega,by have:=HT1.out.three;rw [HK.out] at this;exact this,HT1.out.below⟩
end Go.Proofs.YthapilknnhlmfaaGreatDoor
namespace Go.Proofs.YthapilknnhlmfaaGreatDoor
set_option linter.unusedSimpArgs false
open Go.RowKit Go.Shelf Go.Sort
set_option linter.unusedVariables false
theorem slice_shape {w:World} {B:Nat} {v:Value} {zs:List Int} (h:w.ownsRow B 3 1 v zs.length (i64s zs)):(v=.slice none 0 0∧zs=[])∨∃ g cap cur,v=.slice (some ⟨g,0,none⟩) zs.length cap∧B≤g∧w.heap[g]?=some (.cells cur 3 (0,0))∧zs.length≤cap∧cap≤maxLen∧cur.size=cap * 1∧cur.toList.take zs.length=i64s zs:=by
 rcases h.2 with ⟨h1,h2⟩ | ⟨g,cap,cur,h1,h2,h3,h4,h5,h6,h7⟩
 ·exact .inl ⟨h1,List.eq_nil_of_length_eq_zero h2⟩
 ·exact .inr ⟨g,cap,cur,h1,h2,h3,h4,h5,h6,by rw [Nat.mul_one] at h7;exact h7⟩
theorem sort_own:SortOwn:=by
 intro B v zs w hB hown hl
 rcases slice_shape hown with ⟨rfl,rfl⟩ | ⟨g,cap,cur,rfl,hbase,hb,h1,h2,h3,h4⟩
 ·exact (Any.slices_Sort_int_none Tryz.laysSort none 0 w).mono fun e w' ⟨he,hw⟩=>⟨he,by subst hw;rw [show sortI []=[] by simp [sortI]];exact hown,by subst hw;exact Below.refl _ _⟩
 ·have hgl:g<w.heap.size:=(Array.getElem?_eq_some_iff.1 hb).1
  refine (Any.slices_Sort_int Tryz.laysSort g 0 cap zs w (holds_of_blockI hb h4) hgl (by omega)).mono fun e w' ⟨he,n,os,hw⟩=>⟨he,?_,?_⟩
  ·subst hw
   exact ownsRow_sortedI (ss:=zs) (ts:=sortI zs) (List.length_mergeSort zs) hbase hb h1 h2 h3
  ·subst hw
   exact (Below.refl B w).grown (grownBy_sortedI _) hB (fun j hj=>by cases hj;exact hbase)
theorem comp_own:CompOwn:=by
 intro B v zs w hB hown hl
 rcases slice_shape hown with ⟨rfl,rfl⟩ | ⟨g,cap,cur,rfl,hbase,hb,h1,h2,h3,h4⟩
 ·exact (Any.slices_Compact_int_empty Tryz.laysCompact none 0 w).mono fun e w' ⟨he,hw⟩=>⟨_,he,by subst hw;exact hown,by subst hw;exact Below.refl _ _⟩
 ·refine (Any.slices_Compact_int Tryz.laysCompact g 0 cap zs w (holds_of_blockI hb h4) (by omega) h1).mono fun e w' ⟨he,q,hw⟩=>⟨_,he,?_,?_⟩
  ·subst hw
   have hle:(Lib.compact zs).length≤zs.length:=Lib.compact_length_le zs
   have hc:=Lib.ownsRow_putRow (enc:=Value.int .i64) (q:=q) (k:=(Lib.compact zs).length) (ys:=Lib.compact zs++List.replicate (zs.length - (Lib.compact zs).length) 0) hown (by simp;omega) hle
   rw [List.take_left] at hc
   exact hc
  ·subst hw
   exact Lib.below_putRow (Below.refl _ _) hbase
end Go.Proofs.YthapilknnhlmfaaGreatDoor
namespace Go.Proofs.YthapilknnhlmfaaGreatDoor
set_option linter.unusedSimpArgs false
open Go.RowKit Go.Shelf
set_option linter.unusedVariables false
theorem mm_bounds {ns:List NodeD} {load:Int} {zs:List Int} {l:List PodD} (hz:zs≠[]):∃ a b:Nat,Lib.maxOf (countsD ns load zs l)=a∧Lib.minOf (countsD ns load zs l)=b∧b≤a∧a≤l.length∧skewD ns load zs l=(a:Int) - (b:Int):=by
 have h:=skew_max (ns:=ns) (load:=load) (l:=l) hz
 obtain ⟨a,ha⟩:=Int.eq_ofNat_of_zero_le (show 0≤Lib.maxOf (countsD ns load zs l) by omega)
 obtain ⟨b,hb⟩:=Int.eq_ofNat_of_zero_le (show 0≤Lib.minOf (countsD ns load zs l) by omega)
 refine ⟨a,b,ha,hb,by omega,by omega,by rw [h.1,ha,hb]⟩

set_option maxHeartbeats 6400000 in
set_option maxRecDepth 100000 in
theorem skew_any (ns:List NodeD) (l:List PodD) (load:Int) (A1 A4:Option Addr) (n1 c1 n4 c4:Nat) (s2 s3 v1 v2:Value) (w:World)
  (hn1:n1=ns.length) (hl1:n1≤400) (hr1:Recs 10 cellsN w w.heap.size A1 ns) (hn4:n4=l.length) (hl4:n4≤400) (hr4:Recs 8 cellsP w w.heap.size A4 l) :
  Calls Tryz.prog 156 #[.agg #[.slice A1 n1 c1,s2,s3],.agg #[.slice A4 n4 c4,v1,v2],.int .i64 load] w fun e w'=>e=.returned (.int .i64 (skewD ns load (zonesOf ns) l))∧Below w.heap.size w w':=by
 have T0:=T2.new w [.slice A1 n1 c1,s2,s3] [.slice A4 n4 c4,v1,v2] 26 44
 have HZ:=Lib.hid (zones_any sort_own comp_own ns A1 n1 c1 s2 s3 _ hn1 (by omega) ((hr1.below T0.below (Nat.le_refl _)).more T0.below.size))
 have HR:=Lib.hid (zones_fold ns [] trivial)
 have HT0:=Lib.hid T0
 have HC:=Lib.hid (fun (V:World) (hV:Below w.heap.size w V) (bz nz cz:Nat) h1 h2 h3 h4=>counts_any ns l load (zonesOf ns) A1 A4 n1 c1 n4 c4 bz 0 nz cz s2 s3 v1 v2 V hn1 hl1 ((hr1.below hV (Nat.le_refl _)).more hV.size) hn4 hl4 ((hr4.below hV (Nat.le_refl _)).more hV.size) h1 h2 (zones_fold ns [] trivial).1 h3 h4)
 have HN1:=Lib.hid hn1
 have HN4:=Lib.hid hn4
 clear hr1 hr4 hn1 hn4 T0
 go_enter Tryz.func156,Tryz.ntmps156
 go_wp2_with fail
 refine HZ.out.mono ?_
 rintro e w1 ⟨v,rfl,hown,hb1⟩
 have T1:=HT0.out.keep hb1
 have HT1:=Lib.hid T1
 clear hb1 HT0 HZ
 rw [List.length_map] at hown
 have hz400:(zonesOf ns).length≤400:=by
  have h:=HR.out.2.1
  have:=HN1.out
  unfold zonesOf
  simp at h
  omega
 rcases slice_shape hown with ⟨rfl,he⟩ | ⟨g,cap,cur,rfl,hbase,hb,h1,h2,h3,h4⟩
 ·have HE:Hid (skewD ns load (zonesOf ns) l=0):=by show _=_;rw [skewD,if_pos he]
  have kw:=T1.below
  clear hown he hz400 T1
  go_wp2
  go_ret
  exact ⟨ret_int HE.out.symm,kw⟩
 ·have hcell:∀ j,j<(zonesOf ns).length→w1.cell? ⟨g,0+j,none⟩=some (.int .i64 ((zonesOf ns).getD j 0)):=fun j hj=>by
   have hq:=hown.cells (g:=g) rfl j (.int .i64 ((zonesOf ns).getD j 0)) (by rw [List.getElem?_map,List.getElem?_eq_getElem hj];simp [List.getD,hj])
   rw [Addr.add_lit] at hq
   simpa using hq
  have hg:g<w1.heap.size:=(Array.getElem?_eq_some_iff.1 hb).1
  have HC1:=Lib.hid (HC.out w1 T1.below g (zonesOf ns).length cap rfl (by omega) hg hcell)
  by_cases hz:zonesOf ns=[]
  ·have HE:Hid (skewD ns load (zonesOf ns) l=0):=by show _=_;rw [skewD,if_pos hz]
   have kw:=T1.below
   have hn0:(zonesOf ns).length=0:=by rw [hz];rfl
   rw [hn0]
   clear hown hz hz400 T1 hcell hb h1 h2 h3 h4 HC1
   go_wp2
   go_ret
   exact ⟨ret_int HE.out.symm,kw⟩
  ·obtain ⟨a,b,m1,m2,m3,m4,m5⟩:=mm_bounds (ns:=ns) (load:=load) (l:=l) hz
   have HM:=Lib.hid m1
   have HMI:=Lib.hid m2
   have HSK:=Lib.hid m5
   have hpos:0<(zonesOf ns).length:=List.length_pos_iff.2 hz
   have HCL:=Lib.hid (counts_len (ns:=ns) (load:=load) (zs:=zonesOf ns) (l:=l))
   have ha:(a:Int)≤400:=by have:=HN4.out;omega
   have hba:(b:Int)≤(a:Int):=by omega
   have hb0:(0:Int)≤(b:Int):=by omega
   obtain ⟨a0,a1,a2,a3⟩:=T1.one.cells3
   obtain ⟨b0,b1,b2,b3⟩:=T1.two.cells3
   generalize hnz:(zonesOf ns).length=nz at *
   have hd:((nz:Int) == 0)=false:=by simp;omega
   have HNZ:=Lib.hid hnz
   clear hown hz T1 hcell hb h1 h2 h3 h4 m1 m2 m3 m4 m5 hnz
   go_wp2_with fail
   refine HC1.out.mono ?_
   rintro e w2 ⟨g',rfl,hg',hbf,hb2⟩
   have HBF:=Lib.hid hbf
   have HT2:=Lib.hid (HT1.out.keep hb2)
   have HCC:Hid (∀ V:World,V=w2→∀ j,j<(countsD ns load (zonesOf ns) l).length→V.cell? ⟨g',0+j,none⟩=some (.int .i64 ((countsD ns load (zonesOf ns) l).getD j 0))):=fun V hV j hj=>by
    subst hV
    rw [Nat.zero_add]
    exact hbf.cell j _ (by rw [List.getElem?_map,List.getElem?_eq_getElem hj];simp [List.getD,hj])
   have HMX:=Lib.hid (Any.slices_Max_int Tryz.laysMax g' 0 nz nz (countsD ns load (zonesOf ns) l) w2 hpos (by rw [HCL.out];exact Nat.le_refl _) (by omega) (HCC.out w2 rfl))
   have HMN:=Lib.hid (Any.slices_Min_int Tryz.laysMin g' 0 nz nz (countsD ns load (zonesOf ns) l) w2 hpos (by rw [HCL.out];exact Nat.le_refl _) (by omega) (HCC.out w2 rfl))
   clear hg' hbf hb2 HC1 a0 a1 a2 a3 b0 b1 b2 b3 HCC
   go_wp2_with fail
   refine HMX.out.mono ?_
   rintro e w3 ⟨rfl,rfl⟩
   have HT:Hid ((countsD ns load (zonesOf ns) l).take nz=countsD ns load (zonesOf ns) l):=List.take_of_length_le (by rw [HCL.out];exact Nat.le_refl _)
   rw [HT.out,HM.out]
   go_wp2_with fail
   refine HMN.out.mono ?_
   rintro e w3' ⟨rfl,rfl⟩
   rw [HT.out,HMI.out]
   go_wp2
   go_ret
   exact ⟨ret_int HSK.out.symm,HT2.out.below⟩
end Go.Proofs.YthapilknnhlmfaaGreatDoor
namespace Go.Proofs.YthapilknnhlmfaaGreatDoor
set_option linter.unusedSimpArgs false
open Go.RowKit
set_option linter.unusedVariables false
def spreadFrom (ns:List NodeD) (l:List PodD):List LoadD→Nat→Int × Int
 | [],_=>(0,-1)
 | x :: r,k=>if 0<x.skew∧x.skew<skewD ns x.id (zonesOf ns) l then (11,(k:Int)) else spreadFrom ns l r (k+1)
def spreadOf (ns:List NodeD) (ls:List LoadD) (l:List PodD):Int × Int:=spreadFrom ns l ls 0
theorem spreadFrom_at {ns:List NodeD} {l:List PodD} {ls:List LoadD} {k:Nat} {z:Int × Int} (h:k<ls.length) {x:LoadD} (hx:ls[k]=x) (hp:spreadFrom ns l (ls.drop k) k=z) :
  (0<x.skew∧x.skew<skewD ns x.id (zonesOf ns) l→z=(11,(k:Int)))∧(¬ (0<x.skew∧x.skew<skewD ns x.id (zonesOf ns) l)→spreadFrom ns l (ls.drop (k+1)) (k+1)=z):=by
 rw [List.drop_eq_getElem_cons h,hx,spreadFrom] at hp
 constructor
 ·intro e;rw [if_pos e] at hp;exact hp.symm
 ·intro e;rw [if_neg e] at hp;exact hp
theorem spreadFrom_end {ns:List NodeD} {l:List PodD} {ls:List LoadD} {k:Nat} {z:Int × Int} (h:ls.length≤k) (hp:spreadFrom ns l (ls.drop k) k=z):z=(0,-1):=by
 rw [List.drop_of_length_le h] at hp
 exact hp.symm
theorem Bf.cells5 {V:World} {b:Nat} {x:LoadD} (h:Bf V b (cellsL x)):(V.cell? ⟨b,0,none⟩=some (.int .i64 x.id)∧V.cell? ⟨b,1,none⟩=some (.bool x.apart)∧V.cell? ⟨b,2,none⟩=some (.int .i64 x.skew))∧V.cell? ⟨b,3,none⟩=some (.int .i64 x.min)∧V.cell? ⟨b,4,none⟩=some (.int .i64 x.max)∧b<V.heap.size :=
 ⟨⟨h.cell 0 _ rfl,h.cell 1 _ rfl,h.cell 2 _ rfl⟩,h.cell 3 _ rfl,h.cell 4 _ rfl,h.lt⟩
def SpreadRel (ns:List NodeD) (ls:List LoadD) (l:List PodD) (a b:List Value) (w:World) (v:Value) (wr:World):Prop:=∃ k:Nat,k≤ls.length∧v=.int .i64 k∧spreadFrom ns l (ls.drop k) k=spreadOf ns ls l∧T2 a b w wr

set_option maxHeartbeats 6400000 in
set_option maxRecDepth 100000 in
theorem spreadCheck_any (ns:List NodeD) (ls:List LoadD) (l:List PodD) (A1 A2 A4:Option Addr) (n1 c1 n2 c2 n4 c4:Nat) (s3 v1 v2:Value) (w:World)
  (hn1:n1=ns.length) (hl1:n1≤400) (hr1:Recs 10 cellsN w w.heap.size A1 ns) (hn2:n2=ls.length) (hl2:n2≤400) (hr2:Recs 5 cellsL w w.heap.size A2 ls) (hn4:n4=l.length) (hl4:n4≤400) (hr4:Recs 8 cellsP w w.heap.size A4 l) :
  Calls Tryz.prog 127 #[.agg #[.slice A1 n1 c1,.slice A2 n2 c2,s3],.agg #[.slice A4 n4 c4,v1,v2]] w (ErrTo (spreadOf ns ls l) w):=by
 have T0:=T2.new w [.slice A1 n1 c1,.slice A2 n2 c2,s3] [.slice A4 n4 c4,v1,v2] 26 44
 have HN2:=Lib.hid hn2
 have HR2:=Lib.hid hr2
 have HC:=Lib.hid (fun (V:World) (hV:Below w.heap.size w V) (id:Int)=>skew_any ns l id A1 A4 n1 c1 n4 c4 (.slice A2 n2 c2) s3 v1 v2 V hn1 hl1 ((hr1.below hV (Nat.le_refl _)).more hV.size) hn4 hl4 ((hr4.below hV (Nat.le_refl _)).more hV.size))
 have HT0:=Lib.hid T0
 clear hr1 hn1 hr2 hn2 hr4 hn4 T0
 go_enter Tryz.func127,Tryz.ntmps127
 go_wp2
 go_loopw [10] (SpreadRel ns ls l [.slice A1 n1 c1,.slice A2 n2 c2,s3] [.slice A4 n4 c4,v1,v2] w) (fun v _=>n2 - (intOf v).toNat)
 case atStart=>exact ⟨0,by omega,rfl,rfl,HT0.out⟩
 case round =>
  obtain ⟨k,hk,rfl,hp,T1⟩:=hrel
  have HP:=Lib.hid hp
  have HT1:=Lib.hid T1
  clear hp
  by_cases hlt:k<n2
  ·have hkl:k<ls.length:=by have:=HN2.out;omega
   have kwr:=T1.below
   obtain ⟨b,o,rfl,hb,he⟩:=HR2.out.at hkl
   generalize hx:ls[k]=x at *
   have HX:=Lib.hid (spreadFrom_at hkl hx HP.out)
   clear hx
   have e0:wr.cell? ⟨b,o+k * 5,none⟩=some (.int .i64 x.id):=(kwr.cell (p:=⟨b,o+k * 5,none⟩) hb).trans (he 0 _ rfl)
   have e1:wr.cell? ⟨b,o+k * 5+1,none⟩=some (.bool x.apart):=(kwr.cell (p:=⟨b,o+k * 5+1,none⟩) hb).trans (he 1 _ rfl)
   have e2:wr.cell? ⟨b,o+k * 5+2,none⟩=some (.int .i64 x.skew):=(kwr.cell (p:=⟨b,o+k * 5+2,none⟩) hb).trans (he 2 _ rfl)
   have e3:wr.cell? ⟨b,o+k * 5+3,none⟩=some (.int .i64 x.min):=(kwr.cell (p:=⟨b,o+k * 5+3,none⟩) hb).trans (he 3 _ rfl)
   have e4:wr.cell? ⟨b,o+k * 5+4,none⟩=some (.int .i64 x.max):=(kwr.cell (p:=⟨b,o+k * 5+4,none⟩) hb).trans (he 4 _ rfl)
   have hbw:b<wr.heap.size:=Nat.lt_of_lt_of_le hb kwr.size
   have TW:=T1.alloc (.cells #[.int .i64 x.id,.bool x.apart,.int .i64 x.skew,.int .i64 x.min,.int .i64 x.max] 61)
   have QW:Bf (wr.alloc (.cells #[.int .i64 x.id,.bool x.apart,.int .i64 x.skew,.int .i64 x.min,.int .i64 x.max] 61)) wr.heap.size (cellsL x):=Bf.new wr (cellsL x) _ rfl
   clear he T1 kwr
   go_wp2_with fail
   go_upto_region 4 with fail
   clear e0 e1 e2 e3 e4 hbw
   generalize hW:wr.alloc (.cells #[.int .i64 x.id,.bool x.apart,.int .i64 x.skew,.int .i64 x.min,.int .i64 x.max] 61)=W at *
   generalize hh:wr.heap.size=h at *
   clear hW hh
   have HTW:=Lib.hid TW
   have kW:=TW.below
   obtain ⟨a0,a1,a2,a3⟩:=TW.one.cells3
   obtain ⟨b0,b1,b2,b3⟩:=TW.two.cells3
   obtain ⟨⟨q0,q1,q2⟩,q3,q4,q5⟩:=QW.cells5
   by_cases hs:0<x.skew
   ·have hd:decide (0<x.skew)=true:=decide_eq_true hs
    have HCW:Hid (∀ V:World,Keeps W V→Calls Tryz.prog 156 #[.agg #[.slice A1 n1 c1,.slice (some ⟨b,o,none⟩) n2 c2,s3],.agg #[.slice A4 n4 c4,v1,v2],.int .i64 x.id] V fun e w'=>e=.returned (.int .i64 (skewD ns x.id (zonesOf ns) l))∧Below V.heap.size V w'):=fun V hV=>HC.out V (kW.trans (hV.2.mono kW.size)) x.id
    clear TW QW
    generalize skewD ns x.id (zonesOf ns) l=z at *
    by_cases hz:x.skew<z
    ·have hd2:decide (x.skew<z)=true:=decide_eq_true hz
     have HN:=Lib.hid (HX.out.1 ⟨hs,hz⟩)
     clear hs hz
     go_region_held3 (fun w'=>(∀ b o,b<W.heap.size→w'.cell? ⟨b,o,none⟩=W.cell? ⟨b,o,none⟩)∧Below W.heap.size W w')
      (first | (with_reducible assumption) | (show Keeps W _;with_reducible (repeat (first | exact Keeps.refl _ | assumption | refine Keeps.drew ?_ | refine Keeps.alloc ?_ _ | refine Keeps.step ?_ (by assumption)))))
      (first | (go_at_call 156;refine (HCW.out _ (by assumption)).mono ?_;rintro e w' ⟨rfl,hb⟩))
     rename_i V hK
     have kV:=kW.trans (hK.2.mono kW.size)
     clear hK a0 a1 a2 a3 b0 b1 b2 b3 q0 q1 q2 q3 q4 q5 HCW
     go_wp2
     go_ret
     exact ⟨_,rfl,.inr (.inr ⟨k,_,by rw [HN.out],rfl,kV.size,by rw [HN.out];exact heap_alloc_new _ _⟩),kV.alloc kV.size _⟩
    ·have hd2:decide (x.skew<z)=false:=decide_eq_false hz
     have HN:=Lib.hid (HX.out.2 (fun q=>hz q.2))
     clear hs hz
     go_region_held3 (fun w'=>(∀ b o,b<W.heap.size→w'.cell? ⟨b,o,none⟩=W.cell? ⟨b,o,none⟩)∧Below W.heap.size W w')
      (first | (with_reducible assumption) | (show Keeps W _;with_reducible (repeat (first | exact Keeps.refl _ | assumption | refine Keeps.drew ?_ | refine Keeps.alloc ?_ _ | refine Keeps.step ?_ (by assumption)))))
      (first | (go_at_call 156;refine (HCW.out _ (by assumption)).mono ?_;rintro e w' ⟨rfl,hb⟩))
     rename_i hK
     have HT3:=Lib.hid (HTW.out.keep hK.2)
     clear hK a0 a1 a2 a3 b0 b1 b2 b3 q0 q1 q2 q3 q4 q5 HCW
     go_wp2
     go_roundw
     case rel=>exact ⟨k+1,by omega,by go_num,HN.out,HT3.out⟩
     case measure=>simp [intOf];omega
   ·have hd:decide (0<x.skew)=false:=decide_eq_false hs
    have HN:=Lib.hid (HX.out.2 (fun q=>hs q.1))
    clear hs TW QW
    go_quiet (fail)
    clear a0 a1 a2 a3 b0 b1 b2 b3 q0 q1 q2 q3 q4 q5
    go_wp2
    go_roundw
    case rel=>exact ⟨k+1,by omega,by go_num,HN.out,HTW.out.keep (below_draws (Below.refl _ _) _)⟩
    case measure=>simp [intOf];omega
  ·have HE:=Lib.hid (spreadFrom_end (by have:=HN2.out;omega) HP.out)
   have kwr:=T1.below
   clear T1
   go_wp2
   go_ret
   exact ⟨_,rfl,.inl ⟨HE.out,rfl⟩,kwr⟩
def okP (p:Int × Int):Bool:=p.1 == 0 && p.2 == -1
theorem okP_true {p:Int × Int} (h:okP p=true):p=(0,-1):=by
 obtain ⟨a,b⟩:=p
 simp only [okP,Bool.and_eq_true,beq_iff_eq] at h
 rw [h.1,h.2]
def usedP (x1 x2 t1 t2:Int):Int × Int:=if usedD x1 x2 t1 t2=true then (15,-1) else (0,-1)
def fiveP (ns:List NodeD) (ls:List LoadD) (l:List PodD) (x1 x2 t1 t2:Int):List (Int × Int):=[roomOf ns l,apartOf ls l,spreadOf ns ls l,budgetOf ls l,usedP x1 x2 t1 t2]
def badK (ps:List (Int × Int)) (most k:Nat):List (Int × Int):=((ps.take k).filter fun p=>!okP p).take most
theorem badK_more {ps:List (Int × Int)} {most k:Nat} {p:Int × Int} (hp:ps[k]?=some p) :
  (okP p=true→badK ps most (k+1)=badK ps most k)∧(okP p=false→(badK ps most k).length<most→badK ps most (k+1)=badK ps most k++[p])∧((badK ps most k).length=most→badK ps most (k+1)=badK ps most k):=by
 have hk:=(List.getElem?_eq_some_iff.1 hp).1
 have e:ps.take (k+1)=ps.take k++[p]:=by rw [List.take_add_one,hp];rfl
 unfold badK
 refine ⟨fun h=>?_,fun h hl=>?_,fun hl=>?_⟩
 ·rw [e,List.filter_append];simp [h]
 ·rw [e,List.filter_append]
  have hs:([p].filter fun p=>!okP p)=[p]:=by simp [h]
  rw [hs]
  rw [List.length_take] at hl
  rw [List.take_of_length_le (by simp;omega),List.take_of_length_le (l:=(ps.take k).filter _) (by omega)]
 ·rw [e,List.filter_append,List.take_append_of_le_length]
  rw [List.length_take] at hl;omega
theorem badK_full {ps:List (Int × Int)} {most:Nat}:∀ {n k:Nat},n+k=ps.length→(badK ps most k).length=most→badK ps most ps.length=badK ps most k
 | 0,k,h,_=>by rw [show k=ps.length by omega]
 | n+1,k,h,hl=>by
  have hp:ps[k]?=some (ps[k]'(by omega)):=List.getElem?_eq_getElem (by omega)
  have e:=(badK_more (most:=most) hp).2.2 hl
  rw [← e]
  exact badK_full (n:=n) (by omega) (by rw [e];exact hl)
theorem badK_none {ps:List (Int × Int)} {most:Nat}:badK ps most 0=[]:=by simp [badK]
theorem badK_len (ps:List (Int × Int)) (most k:Nat):(badK ps most k).length≤most:=by unfold badK;rw [List.length_take];omega
theorem badK_len5 (ps:List (Int × Int)) (most k:Nat):(badK ps most k).length≤ps.length:=by
 unfold badK
 have:=List.length_filter_le (fun p=>!okP p) (ps.take k)
 rw [List.length_take] at this ⊢
 omega
def ErrsIs (ps:List (Int × Int)) (B:Nat) (w:World) (us:List Value):Prop:=us.length=ps.length∧∀ (i:Nat) (p:Int × Int) (u:Value),ps[i]?=some p→us[i]?=some u→ErrIs p B w u
theorem errsIs_none {B:Nat} {w:World}:ErrsIs [] B w []:=⟨rfl,by intro i p u h;simp at h⟩
theorem ErrsIs.snoc {ps:List (Int × Int)} {B:Nat} {w:World} {us:List Value} {p:Int × Int} {u:Value} (h:ErrsIs ps B w us) (hu:ErrIs p B w u):ErrsIs (ps++[p]) B w (us++[u]):=by
 refine ⟨by simp [h.1],fun i q v hq hv=>?_⟩
 rcases Nat.lt_or_ge i ps.length with hi | hi
 ·rw [List.getElem?_append_left hi] at hq
  rw [List.getElem?_append_left (by rw [h.1];exact hi)] at hv
  exact h.2 i q v hq hv
 ·rw [List.getElem?_append_right hi] at hq
  rw [List.getElem?_append_right (by rw [h.1];exact hi),h.1] at hv
  cases hj:i - ps.length with
  | zero=>rw [hj] at hq hv;simp at hq hv;subst hq hv;exact hu
  | succ j=>rw [hj] at hq;simp at hq
theorem ErrsIs.below {ps:List (Int × Int)} {B:Nat} {w w':World} {us:List Value} (h:ErrsIs ps B w us) (hb:Below w.heap.size w w'):ErrsIs ps B w' us:=⟨h.1,fun i p u hp hu=>(h.2 i p u hp hu).below hb⟩
def SpotsStay (w w':World):Prop:=∀ (g:Nat) (x:Array Value) (f:Nat × Nat),w.heap[g]?=some (Obj.cells x 128 f)→w'.heap[g]?=some (Obj.cells x 128 f)
theorem ErrIs.stay {p:Int × Int} {B:Nat} {w w':World} {u:Value} (h:ErrIs p B w u) (hs:SpotsStay w w'):ErrIs p B w' u:=by
 rcases h with h | h | ⟨k,g,h1,h2,h3,h4⟩
 ·exact .inl h
 ·exact .inr (.inl h)
 ·exact .inr (.inr ⟨k,g,h1,h2,h3,hs g _ _ h4⟩)
theorem ErrsIs.stay {ps:List (Int × Int)} {B:Nat} {w w':World} {us:List Value} (h:ErrsIs ps B w us) (hs:SpotsStay w w'):ErrsIs ps B w' us:=⟨h.1,fun i p u hp hu=>(h.2 i p u hp hu).stay hs⟩
theorem ErrIs.base {p:Int × Int} {B B':Nat} {w:World} {u:Value} (h:ErrIs p B w u) (hB:B'≤B):ErrIs p B' w u:=by
 rcases h with h | h | ⟨k,g,h1,h2,h3,h4⟩
 ·exact .inl h
 ·exact .inr (.inl h)
 ·exact .inr (.inr ⟨k,g,h1,h2,by omega,h4⟩)
theorem ErrIs.nil {p:Int × Int} {B:Nat} {w:World} {u:Value} (h:ErrIs p B w u) (hp:okP p=true):u=.nilIface:=by
 have e:=okP_true hp
 subst e
 rcases h with h | ⟨_,h,_⟩ | ⟨k,g,h1,_⟩
 ·exact h.2
 ·exact absurd h (by decide)
 ·have h1:(-1:Int)=k:=h1
  omega
theorem errIs_iface {p:Int × Int} {B:Nat} {w:World} {u:Value} (h:ErrIs p B w u) (hp:okP p=false):∃ t v,u=.iface t v:=by
 rcases h with h | ⟨_,_,_,h⟩ | ⟨k,g,_,h,_⟩
 ·rw [h.1] at hp;exact absurd hp (by decide)
 ·exact ⟨_,_,h⟩
 ·exact ⟨_,_,h⟩
theorem oneVal (x:Value):([x]:List Value).length=1:=rfl
theorem flat_ones (l:List Value):l.flatMap (fun x=>[x])=l:=by induction l with
 | nil=>rfl
 | cons x r ih=>simp

section
variable {ops:Array Oper} {rest:List Oper} {o:Oper} {a:Act} {Q:Exit→Act→World→Prop} {wr:World}
theorem wpList_pushS (t e:TypeId) (z:Value) (bytes:Nat) (ht:Tryz.prog.underlying t=some (.slice e)) (hinfo:(Tryz.prog.info? e).map (fun i=>(i.zero,i.size,i.bytes))=some (some z,1,bytes)) (hz:z.cells.size=1) (hby:bytes≤1000) (hes:e≠128)
  (hgd:o.guard=none) (s x:Operand) (ho:o.op=.call { callee:=.builtin .append,args:=#[s,x],argTypes:=#[t,t] })
  (B:Nat) (v:Value) (n:Nat) (xs:List Value) (u:Value) (hu:u.oneCell'=true) (hown:wr.ownsRow B e 1 v n xs) (hB:B≤wr.heap.size) (hl:n≤2000000)
  (hs:a.eval s=v) (hx:a.eval x=.slice (some ⟨wr.heap.size,0,none⟩) 1 1)
  (h:∀ v' w',w'.ownsRow B e 1 v' (n+1) (xs++[u])→Below B wr w'→B≤w'.heap.size→SpotsStay wr w'→wpList Tryz.prog ops Q rest (a.put o.dst v') w') :
  wpList Tryz.prog ops Q (o :: rest) a (wr.alloc (.cells #[u] e)):=by
 obtain ⟨i0,hi,hz0,hz1,hz2⟩:=info_parts hinfo
 refine wpList_append_own _ hgd s x t ho B e i0 z 1 bytes ht hi hz0 hz1 hz2 hz (by decide) v n xs hs (hown.alloc _) ⟨wr.heap.size,0,none⟩ 1 1 [u] hx rfl ?_ ?_ ?_ ?_ ?_ ?_
 ·intro j y hy
  rcases j with _ | j
  ·simp at hy;subst hy;simp [Addr.add]
  ·simp at hy
 ·intro y hy;simp at hy;subst hy;exact hu
 ·unfold maxLen;omega
 ·have:(n+1) * bytes≤(n+1) * 1000:=Nat.mul_le_mul_left _ hby
  omega
 ·simp;omega
 ·intro v' w' h1 h2 _
  refine h v' w' h1 (((Below.refl B wr).alloc hB _).grown h2 (by simp;omega) (fun j hj=>(hown.lt j hj).1)) (by have:=h2.size;simp at this;omega) ?_
  intro g c f hg
  have hgl:=(Array.getElem?_eq_some_iff.1 hg).1
  have hne:v.ownBlock≠some g:=by
   intro hv
   rcases hown.2 with ⟨e1,_⟩ | ⟨g',cap,cur,e1,_,e2,_⟩
   ·rw [e1] at hv;cases hv
   ·rw [e1] at hv
    simp only [Value.ownBlock,Option.some.injEq] at hv
    subst hv
    rw [hg] at e2
    injection e2 with e2
    injection e2 with _ e3
    exact hes e3.symm
  have hb:=h2.block g (by simp;omega) (fun e=>hne e.symm)
  rw [hb]
  have:=Below.heap_alloc wr (.cells #[u] e) g hgl
  rw [this]
  exact hg
end
end Go.Proofs.YthapilknnhlmfaaGreatDoor
