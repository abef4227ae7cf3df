/- Joined texts, part 3: NC UD LB TH QL TI. -/
import Derived.Test.YthapilknnhlmfaaGreatDoorZ02
import Derived.Test.YthapilknnhlmfaaGreatDoorZ01
import Derived.Deep.RegionLaw
import Derived.RangeFuncNested
import Derived.RangeFuncLeaves
import Derived.Below
import Derived.Deep.QuietTactic
import Derived.BigRegion

namespace Go.Proofs.YthapilknnhlmfaaGreatDoor
set_option linter.unusedSimpArgs false
open Go.RowKit
set_option linter.unusedVariables false
theorem conv_row (l:List Int) (A:Option Addr) (n c R:Nat) (w:World) (hn:n=l.length) (hr:Row w R A (u8s l)):(convert 133 9 (.slice A n c)).run Tryz.prog w=.ok (.string (strOfNums l)) w:=by
 subst hn
 rcases hr with h0 | ⟨b,o,rfl,_,hcell⟩
 ·have h1:l=[]:=by simpa using h0
  subst h1
  rw [run_convert_bytes_string w 133 9 5 A _ c Tryz.underlying133 Tryz.underlying5 Tryz.underlying9]
  rcases A with _ | a
  ·simp [Conv.bytesToString];rfl
  ·exact run_bytesToString w a 0 c [] (by simp [loadCells,loadCellsFrom])
 ·refine run_convert_bytes_arg w 133 5 Tryz.underlying133 Tryz.underlying5 b o l.length c l rfl (fun i hi=>?_) 9 Tryz.underlying9
  have:=hcell i (by simpa using hi)
  rw [this]
  simp [List.getD,List.getElem?_eq_getElem hi]
abbrev stateV (A:Option Addr) (n c:Nat) (p s:Int):Value:=.agg #[.slice A n c,.int .i64 p,.int .i64 s]
def Bk (w:World) (b:Nat) (cs:List Value) (t:TypeId):Prop:=w.heap[b]?=some (.cells cs.toArray t (0,0))
section
variable {w w':World} {b B:Nat} {cs:List Value} {t e:TypeId}
theorem Bk.new (w:World) (cs:List Value) (t:TypeId):Bk (w.alloc (.cells cs.toArray t)) w.heap.size cs t:=heap_alloc_new w _
theorem Bk.lt (h:Bk w b cs t):b<w.heap.size:=(Array.getElem?_eq_some_iff.1 h).1
theorem Bk.below (h:Bk w b cs t) (hb:Below B w w') (hB:b<B):Bk w' b cs t:=(hb.block b hB).trans h
theorem Bk.alloc (h:Bk w b cs t) (o:Obj):Bk (w.alloc o) b cs t:=h.below ((Below.refl _ w).alloc (Nat.le_refl _) o) h.lt
theorem Bk.cell (h:Bk w b cs t) (j:Nat) (u:Value) (hu:cs[j]?=some u):w.cell? ⟨b,j,none⟩=some u:=by
 have:=cell_of_row w b j cs.toArray t (0,0) h
 rw [this];simpa using hu
theorem Bk.not {n:Nat} {v:Value} {xs:List Value} (h:Bk w b cs t) (hne:t≠e) (ho:w.ownsRow B e 1 v n xs):v.ownBlock≠some b:=by
 rcases ho.2 with ⟨rfl,_⟩ | ⟨g,cap,cur,rfl,_,hg,_⟩
 ·intro e';cases e'
 ·intro e'
  have e2:g=b:=by simpa [Value.ownBlock] using e'
  subst e2
  have:=Option.some.inj (hg.symm.trans h)
  injection this with _ h2 _
  exact hne h2.symm
end
section
variable {ops:Array Oper} {rest:List Oper} {o:Oper} {a:Act} {Q:Exit→Act→World→Prop} {wr:World}
theorem wpList_catN (hgd:o.guard=none) (s x:Operand) (ho:o.op=.call { callee:=.builtin .append,args:=#[s,x],argTypes:=#[132,132] })
  {n c:Nat} (B:Nat) (v:Value) (xs ys:List Int) (ad:Addr) (hown:wr.ownsRow B 55 1 v (u64s xs).length (u64s xs)) (hrow:∀ j u,(u64s ys)[j]?=some u→wr.cell? (ad.add j)=some u) (hB:B≤wr.heap.size) (hl:xs.length+ys.length≤2000000)
  (hs:a.eval s=v) (hx:a.eval x=.slice (some ad) n c) (hn:n=ys.length)
  (h:∀ v' w',w'.ownsRow B 55 1 v' (u64s (xs++ys)).length (u64s (xs++ys))→Below B wr w'→B≤w'.heap.size→(∀ b cs t,t≠55→Bk wr b cs t→Bk w' b cs t)→wpList Tryz.prog ops Q rest (a.put o.dst v') w') :
  wpList Tryz.prog ops Q (o :: rest) a wr:=by
 obtain ⟨i0,hi,hz0,hz1,hz2⟩:=info_parts Tryz.info55
 subst hn
 have hxs:(u64s xs).length=xs.length:=by simp
 refine wpList_append_own _ hgd s x 132 ho B 55 i0 (.int .u64 0) 1 8 Tryz.underlying132 hi hz0 hz1 hz2 rfl (by decide) v (u64s xs).length (u64s xs) hs hown ad ys.length c (u64s ys) hx (by simp) hrow (one_u64s _) ?_ ?_ hB ?_
 ·unfold maxLen;omega
 ·omega
 ·intro v' w' h1 h2 _
  have e:u64s xs++u64s ys=u64s (xs++ys):=by simp
  have e2:(u64s xs).length+ys.length=(u64s (xs++ys)).length:=by simp
  rw [e,e2] at h1
  exact h v' w' h1 ((Below.refl B wr).grown h2 hB (fun j hj=>(hown.lt j hj).1)) (by have:=h2.size;omega) fun b cs t hne hbk=>(h2.block b hbk.lt fun e=>hbk.not hne hown e.symm).trans hbk
theorem wpList_litN (hgd:o.guard=none) (s x:Operand) (ho:o.op=.call { callee:=.builtin .append,args:=#[s,x],argTypes:=#[132,132] })
  {m g:Nat} (B:Nat) (v:Value) (xs ys:List Int) (hown:wr.ownsRow B 55 1 v (u64s xs).length (u64s xs)) (hB:B≤wr.heap.size) (hl:xs.length+ys.length≤2000000)
  (hs:a.eval s=v) (hg:g=wr.heap.size) (hx:a.eval x=.slice (some ⟨g,0,none⟩) m m) (hn:m=ys.length)
  (h:∀ v' w',w'.ownsRow B 55 1 v' (u64s (xs++ys)).length (u64s (xs++ys))→Below B wr w'→B≤w'.heap.size→(∀ b cs t,t≠55→Bk wr b cs t→Bk w' b cs t)→wpList Tryz.prog ops Q rest (a.put o.dst v') w') :
  wpList Tryz.prog ops Q (o :: rest) a (wr.alloc (.cells (u64s ys).toArray 55)):=by
 subst hg
 refine wpList_catN hgd s x ho B v xs ys ⟨wr.heap.size,0,none⟩ (hown.alloc _) (fun j u hu=>by rw [Addr.add_lit,Nat.zero_add];exact lit_cells wr _ _ j u hu) (by simp;omega) hl hs hx hn ?_
 intro v' w' h1 h2 h3 h4
 exact h v' w' h1 (((Below.refl B wr).alloc hB _).trans h2) h3 fun b cs t hne hbk=>h4 b cs t hne (hbk.alloc _)
end
theorem req_row {w:World} {b:Nat} {x:PodD} {t:TypeId} (h:Bk w b (cellsP x) t):∀ j u,(u64s [x.req.a,x.req.b,x.req.c,x.req.d])[j]?=some u→w.cell? ((⟨b,3,none⟩:Addr).add j)=some u:=by
 intro j u hu
 rw [Addr.add_lit]
 refine h.cell (3+j) u ?_
 have hj:j<4:=by simpa using (List.getElem?_eq_some_iff.1 hu).1
 rcases j with _ | _ | _ | _ | j
 ·exact hu
 ·exact hu
 ·exact hu
 ·exact hu
 ·omega
theorem own64s {w:World} {B:Nat} {v:Value} {xs ys:List Int} (h:w.ownsRow B 55 1 v (u64s xs).length (u64s xs)) (e:xs=ys):w.ownsRow B 55 1 v (u64s ys).length (u64s ys):=e ▸ h
def NumsTo17 (l:List Int) (w:World) (e:Ending) (w':World):Prop :=
 ∃ A c,e=.returned (.slice A l.length c)∧Row w' w'.heap.size A (u64s l)∧Below w.heap.size w w'
def NumsRel17 (l:List PodD) (W:World) (B:Nat) (v i:Value) (wr:World):Prop :=
 ∃ k:Nat,k≤l.length∧i=.int .i64 k∧wr.ownsRow B 55 1 v (u64s (headNums l k)).length (u64s (headNums l k))∧Below B W wr

set_option maxHeartbeats 3200000 in
set_option maxRecDepth 100000 in
theorem numbers_any17 (t:StateD) (A:Option Addr) (n c:Nat) (w:World) (hn:n=t.pods.length) (hl:n≤1000) (hr:Recs 8 cellsP w w.heap.size A t.pods) :
  Calls Tryz.prog 134 #[stateV A n c t.preempts t.shifts] w (NumsTo17 (numsT t) w):=by
 have HS:Hid (∀ W1:World,w.heap.size+1=W1.heap.size→(W1.alloc (.cells #[.int .u64 (n:Int)] 55)).ownsRow (w.heap.size+1) 55 1 (.slice (some ⟨w.heap.size+1,0,none⟩) 1 1) (u64s (headNums t.pods 0)).length (u64s (headNums t.pods 0))):=fun W1 h=>by
  have:=own_lit W1 (w.heap.size+1) 1 55 [.int .u64 (n:Int)] (by omega) rfl (by decide)
  subst hn
  rw [h] at this ⊢
  exact this
 have HR:=Lib.hid hr
 have HN:=Lib.hid hn
 clear hr hn
 have HR1:=Lib.hid (HR.out.below ((Below.refl w.heap.size w).alloc (Nat.le_refl _) (.cells #[.slice A n c,.int .i64 t.preempts,.int .i64 t.shifts] 44)) (Nat.le_refl _))
 have hbx:=Bx.new w [.slice A n c,.int .i64 t.preempts,.int .i64 t.shifts] 44
 have HBX:=Lib.hid hbx
 clear HR hbx
 go_enter Tryz.func134,Tryz.ntmps134
 go_wp2
 generalize hW1:(w.alloc (.cells #[.slice A n c,.int .i64 t.preempts,.int .i64 t.shifts] 44))=W1 at *
 go_loopw [3,14] (NumsRel17 t.pods W1 (w.heap.size+1)) (fun _ i _=>n - (intOf i).toNat)
 case atStart=>exact ⟨0,by omega,rfl,HS.out W1 (by subst hW1;simp),(Below.refl _ _).alloc (by subst hW1;simp) _⟩
 case round =>
  obtain ⟨k,hk,rfl,hown,hbr⟩:=hrel
  have hz:=hbr.size
  have hzw:w.heap.size+1≤wr.heap.size:=by subst hW1;simpa using hz
  have hlen:(headNums t.pods k).length≤8001:=by have:=head_len t.pods k;have:=HN.out;omega
  by_cases hlt:k<n
  ·have hkl:k<t.pods.length:=by have:=HN.out;omega
   obtain ⟨b,o,rfl,hb,he⟩:=HR1.out.at hkl
   have HX:=Lib.hid (head_next t.pods k hkl)
   generalize t.pods[k]=x at *
   generalize headNums t.pods k=hd at *
   have hb1:b<w.heap.size+1:=by omega
   have e0:wr.cell? ⟨b,o+k * 8,none⟩=some (.int .i64 x.id):=(hbr.cell (p:=⟨b,o+k * 8,none⟩) hb1).trans (he 0 _ rfl)
   have e1:wr.cell? ⟨b,o+k * 8+1,none⟩=some (.int .i64 x.load):=(hbr.cell (p:=⟨b,o+k * 8+1,none⟩) hb1).trans (he 1 _ rfl)
   have e2:wr.cell? ⟨b,o+k * 8+2,none⟩=some (.int .i64 x.prio):=(hbr.cell (p:=⟨b,o+k * 8+2,none⟩) hb1).trans (he 2 _ rfl)
   have e3:wr.cell? ⟨b,o+k * 8+3,none⟩=some (.int .u64 x.req.a):=(hbr.cell (p:=⟨b,o+k * 8+3,none⟩) hb1).trans (he 3 _ rfl)
   have e4:wr.cell? ⟨b,o+k * 8+4,none⟩=some (.int .u64 x.req.b):=(hbr.cell (p:=⟨b,o+k * 8+4,none⟩) hb1).trans (he 4 _ rfl)
   have e5:wr.cell? ⟨b,o+k * 8+5,none⟩=some (.int .u64 x.req.c):=(hbr.cell (p:=⟨b,o+k * 8+5,none⟩) hb1).trans (he 5 _ rfl)
   have e6:wr.cell? ⟨b,o+k * 8+6,none⟩=some (.int .u64 x.req.d):=(hbr.cell (p:=⟨b,o+k * 8+6,none⟩) hb1).trans (he 6 _ rfl)
   have e7:wr.cell? ⟨b,o+k * 8+7,none⟩=some (.int .i64 x.node):=(hbr.cell (p:=⟨b,o+k * 8+7,none⟩) hb1).trans (he 7 _ rfl)
   have HS1:Hid (hd.length+[w64 x.id,w64 x.load,w64 x.prio].length≤2000000):=by show _≤_;simp;omega
   have HS2:Hid ((hd++[w64 x.id,w64 x.load,w64 x.prio]).length+[x.req.a,x.req.b,x.req.c,x.req.d].length≤2000000):=by show _≤_;simp;omega
   have HS3:Hid (((hd++[w64 x.id,w64 x.load,w64 x.prio])++[x.req.a,x.req.b,x.req.c,x.req.d]).length+[w64 x.node].length≤2000000):=by show _≤_;simp;omega
   have HB0:=Lib.hid (Bk.new wr (cellsP x) 63)
   have HO0:=Lib.hid (hown.alloc (.cells (cellsP x).toArray 63))
   have HBB:=Lib.hid ((Below.refl (w.heap.size+1) wr).alloc hzw (.cells (cellsP x).toArray 63))
   have HZ0:Hid (w.heap.size+1≤(wr.alloc (.cells (cellsP x).toArray 63)).heap.size):=by show _≤_;simp;omega
   clear he hlen
   go_wp2_with (first
    | (at_builtin;refine wpList_litN (wr:=wr.alloc (.cells (cellsP x).toArray 63)) rfl (.tmp 18) (.tmp 28) rfl (w.heap.size+1) _ hd [w64 x.id,w64 x.load,w64 x.prio] HO0.out HZ0.out HS1.out rfl (by simp) rfl rfl ?_;intro v1 w1 hown1 hb1 hB1 hk1;have HK1:=Lib.hid (hk1 _ _ _ (by decide) HB0.out);clear hk1)
    | (at_builtin;refine wpList_catN rfl (.tmp 30) (.tmp 32) rfl (w.heap.size+1) _ _ [x.req.a,x.req.b,x.req.c,x.req.d] _ hown1 (req_row HK1.out) hB1 HS2.out rfl rfl rfl ?_;intro v2 w2 hown2 hb2 hB2 hk2;have hkb2:=hk2 _ _ _ (by decide) HK1.out;have c2:=hkb2.cell 7 _ rfl;have lt2:=hkb2.lt;clear hk2 hkb2)
    | (at_builtin;refine wpList_litN rfl (.tmp 34) (.tmp 38) rfl (w.heap.size+1) _ _ [w64 x.node] hown2 hB2 HS3.out rfl rfl rfl rfl ?_;intro v3 w3 hown3 hb3 hB3 hk3;clear hk3))
   go_roundw
   case rel=>exact ⟨k+1,by omega,by go_num,own64s hown3 (by rw [← HX.out];simp [numsP]),(((hbr.trans HBB.out).trans hb1).trans hb2).trans hb3⟩
   case measure=>simp [intOf];omega
  ·have HX:=Lib.hid (head_end t k (by have:=HN.out;omega))
   have hbw:=HBX.out.below hbr (by omega)
   have d1:=hbw.at 1 _ rfl
   have d2:=hbw.at 2 _ rfl
   have d0:=hbw.1
   have HS1:Hid ((headNums t.pods k).length+[w64 t.preempts,w64 t.shifts].length≤2000000):=by show _≤_;simp;omega
   clear hbw hlen
   go_wp2_with (at_builtin;refine wpList_litN rfl (.tmp 41) (.tmp 48) rfl (w.heap.size+1) _ _ [w64 t.preempts,w64 t.shifts] hown hzw HS1.out rfl rfl rfl rfl ?_;intro v1 w1 hown1 hb1 hB1 hk1)
   have hown2:=own64s hown1 HX.out
   obtain ⟨A',c',rfl,_,_,_⟩:=own_form hown2
   go_ret
   exact ⟨A',c',by simp,(Row.of_own hown2).1,((((Below.refl w.heap.size w).alloc (Nat.le_refl _) _).trans ((hW1 ▸ hbr).mono (by omega))).trans (hb1.mono (by omega)))⟩
theorem info_of19 {P:Program} {e:TypeId} {z:Value} {size bytes:Nat} (h:(P.info? e).map (fun i=>(i.zero,i.size,i.bytes))=some (some z,size,bytes)):∃ i,P.info? e=some i∧i.zero=some z∧i.size=size∧i.bytes=bytes:=by
 cases hi:P.info? e with
 | none=>rw [hi] at h;cases h
 | some i =>
  rw [hi] at h
  simp at h
  exact ⟨i,rfl,h.1,h.2.1,h.2.2⟩
theorem infoPtr19:(Tryz.prog.info? 78).map (fun i=>(i.zero,i.size,i.bytes))=some (some (.pointer none),1,8):=by kernel_rfl
theorem Bk.set {w:World} {b:Nat} {cs:List Value} {t:TypeId} (h:Bk w b cs t) (i:Nat) (v:Value):Bk (w.setCell ⟨b,i,none⟩ v) b (cs.set i v) t:=by
 have:=heap_setCell_same w b i cs.toArray t v h
 rw [List.setIfInBounds_toArray] at this
 exact this
theorem Bk.other {w:World} {b:Nat} {cs:List Value} {t:TypeId} (h:Bk w b cs t) {p:Addr} (hp:p.block≠b) (v:Value):Bk (w.setCell p v) b cs t :=
 (heap_setCell_other w p b v (fun e=>hp e.symm)).trans h
theorem Bk.frozen {w:World} {b:Nat} {cs:List Value} {t:TypeId} (h:Bk w b cs t) (j:Nat):w.frozen? ⟨b,j,none⟩=false:=frozen_of_row w b j cs.toArray t h
theorem Bk.drew {w:World} {b:Nat} {cs:List Value} {t:TypeId} (h:Bk w b cs t):Bk w.drew b cs t:=h
theorem Bk.grown {w w':World} {b:Nat} {cs:List Value} {t:TypeId} {row:Option Nat} (h:Bk w b cs t) (hg:w.grownBy w' row) (hne:row≠some b):Bk w' b cs t:=(hg.block b h.lt (fun e=>hne e.symm)).trans h
theorem Bk.one {w:World} {b:Nat} {cs cs':List Value} {t t':TypeId} (h:Bk w b cs t) (h':Bk w b cs' t'):cs=cs'∧t=t':=by
 have:=Option.some.inj (h.symm.trans h')
 injection this with h1 h2 _
 exact ⟨by simpa using h1,h2⟩

abbrev ptr19 (b:Nat):Value:=.pointer (some ⟨b,0,none⟩)
def PRow (w:World) (n0:Nat) (v:Value) (ids:List Nat):Prop :=
 (v=.slice none 0 0∧ids=[]) ∨
 ∃ g o c cs,v=.slice (some ⟨g,o,none⟩) ids.length c∧Bk w g cs 78∧n0≤g∧ids.length≤c∧c≤maxLen∧(c=0∨o+c≤cs.length)∧∀ i (h:i<ids.length),cs[o+i]?=some (ptr19 ids[i])
section
variable {w w':World} {n0:Nat} {v:Value} {ids:List Nat}
theorem PRow.nil (w:World) (n0:Nat):PRow w n0 (.slice none 0 0) []:=.inl ⟨rfl,rfl⟩
theorem PRow.lt (h:PRow w n0 v ids):∀ k,v.ownBlock=some k→n0≤k∧k<w.heap.size:=by
 intro k hk
 rcases h with ⟨rfl,_⟩ | ⟨g,o,c,cs,rfl,hb,hg,_⟩
 ·cases hk
 ·cases hk
  exact ⟨hg,hb.lt⟩
theorem PRow.type (h:PRow w n0 v ids):∀ k,v.ownBlock=some k→∃ cs,Bk w k cs 78:=by
 intro k hk
 rcases h with ⟨rfl,_⟩ | ⟨g,o,c,cs,rfl,hb,hg,_⟩
 ·cases hk
 ·cases hk
  exact ⟨cs,hb⟩
theorem PRow.keep (h:PRow w n0 v ids) (hk:∀ k cs,v.ownBlock=some k→Bk w k cs 78→Bk w' k cs 78):PRow w' n0 v ids:=by
 rcases h with h | ⟨g,o,c,cs,rfl,hb,r⟩
 ·exact .inl h
 ·exact .inr ⟨g,o,c,cs,rfl,hk g cs rfl hb,r⟩
theorem PRow.grown {row:Option Nat} (h:PRow w n0 v ids) (hg:w.grownBy w' row) (hne:v.ownBlock=none∨v.ownBlock≠row):PRow w' n0 v ids:=by
 refine h.keep fun k cs hk hb=>hb.grown hg fun e=>?_
 rcases hne with h1 | h1
 ·rw [h1] at hk;cases hk
 ·rw [hk] at h1;exact h1 e.symm
theorem PRow.slice (h:PRow w n0 v ids):∃ A c,v=.slice A ids.length c∧c≤maxLen∧ids.length≤c:=by
 rcases h with ⟨rfl,rfl⟩ | ⟨g,o,c,cs,rfl,hb,hg,h1,h2,_⟩
 ·exact ⟨none,0,rfl,by decide,Nat.le_refl _⟩
 ·exact ⟨_,c,rfl,h2,h1⟩
theorem PRow.cells (h:PRow w n0 v ids) (hn:ids≠[]):∃ g o c,v=.slice (some ⟨g,o,none⟩) ids.length c∧(∀ i (h:i<ids.length),w.cell? ⟨g,o+i,none⟩=some (ptr19 ids[i])∧w.frozen? ⟨g,o+i,none⟩=false)∧ids.length≤c∧c≤maxLen:=by
 rcases h with ⟨rfl,rfl⟩ | ⟨g,o,c,cs,rfl,hb,hg,h1,h2,h3,h4⟩
 ·exact absurd rfl hn
 ·exact ⟨g,o,c,rfl,fun i hi=>⟨hb.cell (o+i) _ (h4 i hi),hb.frozen _⟩,h1,h2⟩
theorem PRow.push {t:TypeId} (h:PRow w n0 v ids) (b g0:Nat) (hx:w.cell? ⟨g0,0,none⟩=some (ptr19 b)) (hn:n0≤w.heap.size) (hl:ids.length≤1000000) :
  ∃ v' w',(Builtin.append_ #[72,72] t #[v,.slice (some ⟨g0,0,none⟩) 1 1]).run Tryz.prog w=.ok v' w'∧PRow w' n0 v' (ids++[b])∧w.grownBy w' v.ownBlock∧(v'.ownBlock=v.ownBlock∨v'.ownBlock=some w.heap.size):=by
 obtain ⟨i0,hi,hz0,hz1,hz2⟩:=info_of19 infoPtr19
 have hnew:∀ j u,[ptr19 b][j]?=some u→w.cell? ((⟨g0,0,none⟩:Addr).add j)=some u:=fun j u hu=>by
  rw [Addr.add_lit]
  cases j with
  | zero=>simp at hu;subst hu;exact hx
  | succ j=>simp at hu
 have h1c:∀ u ∈ [ptr19 b],u.oneCell'=true:=fun u hu=>by rw [List.mem_singleton] at hu;subst hu;rfl
 have grown:∀ (v':Value) (w':World) (n:Nat) (xs:List Value),n=ids.length→xs=ids.map ptr19→w'.ownsRow w.heap.size 78 1 v' (n+1) (xs++[ptr19 b])→w'.heap.size≤w.heap.size+1→PRow w' n0 v' (ids++[b])∧v'.ownBlock=some w.heap.size:=by
  intro v' w' n xs e1 e2 ho hs
  subst e1 e2
  obtain ⟨g,cap,cur,rfl,hbg,hg,hnc,hcm,hcs,htake⟩:=ho.2.resolve_left (by rintro ⟨_,e⟩;omega)
  have hgl:=(Array.getElem?_eq_some_iff.1 hg).1
  have eg:g=w.heap.size:=by omega
  refine ⟨.inr ⟨g,0,cap,cur.toList,by rw [List.length_append];rfl,hg,by omega,by rw [List.length_append];exact hnc,hcm,.inr (by simp [hcs]),fun i hi=>?_⟩,by rw [eg];rfl⟩
  have hi':i<ids.length+1:=by simpa using hi
  have hmap:(ids.map ptr19++[ptr19 b])=(ids++[b]).map ptr19:=by simp
  rw [hmap] at htake
  have h5:(cur.toList.take ((ids.length+1) * 1))[i]?=some (ptr19 (ids++[b])[i]):=by rw [htake,List.getElem?_map,List.getElem?_eq_getElem hi];rfl
  rw [List.getElem?_take,if_pos (by omega)] at h5
  rw [Nat.zero_add]
  exact h5
 rcases h with ⟨rfl,rfl⟩ | ⟨g,o,c,cs,rfl,hb,hg,h1,h2,h3,h4⟩
 ·have hr:=run_append_nil (P:=Tryz.prog) w 72 t 78 i0 _ Tryz.underlying72 hi hz0 ⟨g0,0,none⟩ 1 1 [ptr19 b] (by rw [hz1];rfl) hnew (by omega) (by omega) (by rw [hz2];omega)
  obtain ⟨v',w',hr',r1,r2,r3⟩:=run_append_own (P:=Tryz.prog) w w.heap.size 72 t 78 i0 _ 1 8 Tryz.underlying72 hi hz0 hz1 hz2 rfl (by decide) (.slice none 0 0) 0 [] (World.ownsRow_nil w _ _ 1) ⟨g0,0,none⟩ 1 1 [ptr19 b] rfl hnew h1c (by decide) (by decide) (Nat.le_refl _)
  have hs:w'.heap.size≤w.heap.size+1:=by
   rw [hr] at hr'
   injection hr' with _ e
   rw [← e];simp
  obtain ⟨g1,g2⟩:=grown v' w' 0 [] rfl rfl r1 hs
  exact ⟨v',w',hr',g1,r2,.inr g2⟩
 ·by_cases hroom:ids.length+1≤c
  ·have hc':o+c≤cs.length:=h3.resolve_left (by omega)
   have hcell:(w.cell? ⟨g,o+ids.length * i0.size+0,none⟩).isSome=true:=by
    rw [hz1,Nat.mul_one,Nat.add_zero,hb.cell (o+ids.length) cs[o+ids.length] (List.getElem?_eq_getElem (by omega))];rfl
   have hr:=run_append_room_cells (P:=Tryz.prog) w 72 t 78 i0 Tryz.underlying72 hi g o ids.length c ⟨g0,0,none⟩ 1 1 [ptr19 b] (by rw [hz1];rfl) hnew h1c hroom (fun j hj=>by
    obtain rfl:j=0:=by simpa using hj
    exact hcell) (fun j hj=>hb.frozen _)
   rw [hz1,Nat.mul_one] at hr
   refine ⟨_,_,hr,.inr ⟨g,o,c,cs.set (o+ids.length) (ptr19 b),by simp,hb.set _ _,hg,by simpa using hroom,h2,.inr (by simpa using hc'),fun i hi=>?_⟩,⟨rfl,rfl,rfl,by simp [World.setCells],fun k hk hne=>heap_setCell_other w _ k _ (fun e=>hne (by rw [e];rfl))⟩,.inl rfl⟩
   rw [List.getElem?_set]
   by_cases e:i=ids.length
   ·subst e
    rw [if_pos rfl,if_pos (by omega)]
    simp
   ·have hi':i<ids.length:=by simp at hi;omega
    rw [if_neg (by omega),h4 i hi',List.getElem_append_left hi']
  ·have holds:∀ j u,(ids.map ptr19)[j]?=some u→w.cell? ((⟨g,o,none⟩:Addr).add j)=some u:=fun j u hu=>by
    rw [List.getElem?_map] at hu
    rw [Addr.add_lit]
    obtain ⟨a,ha,rfl⟩:=Option.map_eq_some_iff.1 hu
    obtain ⟨hj,rfl⟩:=List.getElem?_eq_some_iff.1 ha
    exact hb.cell _ _ (h4 j hj)
   have hr:=run_append_grow (P:=Tryz.prog) w 72 t 78 i0 _ Tryz.underlying72 hi hz0 ⟨g,o,none⟩ ids.length c (ids.map ptr19) (by rw [hz1];simp) holds ⟨g0,0,none⟩ 1 1 [ptr19 b] (by rw [hz1];rfl) hnew (by omega) (by unfold maxLen at h2;omega) (growslice_fits (by omega) (by rw [hz2];omega))
   obtain ⟨v',w',hr',r1,r2⟩:=run_append_arg_grows (P:=Tryz.prog) w 72 t 78 i0 _ 1 8 Tryz.underlying72 hi hz0 hz1 hz2 rfl (by decide) ⟨g,o,none⟩ ids.length c (ids.map ptr19) (by simp) holds ⟨g0,0,none⟩ 1 1 [ptr19 b] rfl hnew (by omega) (by unfold maxLen;omega) (by omega)
   have hs:w'.heap.size≤w.heap.size+1:=by
    rw [hr] at hr'
    injection hr' with _ e
    rw [← e];simp
   obtain ⟨g1,g2⟩:=grown v' w' ids.length _ rfl rfl r1 hs
   exact ⟨v',w',hr',g1,⟨r2.os,r2.tape,r2.output,r2.size,fun k hk _=>r2.block k hk (by simp)⟩,.inr g2⟩
theorem PRow.tail {g o n c b:Nat} (h:PRow w n0 (.slice (some ⟨g,o,none⟩) n c) (b :: ids)) (u:Value) {A:Addr} (hA:A=if c=1 then ⟨g,o,none⟩ else ⟨g,o+1,none⟩):PRow (w.setCell ⟨g,o,none⟩ u) n0 (.slice (some A) ids.length (c - 1)) ids:=by
 rcases h with ⟨h,_⟩ | ⟨g',o',c',cs,e,hb,hg,h1,h2,h3,h4⟩
 ·cases h
 ·injection e with e1 e2 e3
  injection e1 with e1
  injection e1 with e1 e4 _
  subst e1 e4 e3
  simp only [List.length_cons] at h1 h4
  by_cases hc:c=1
  ·subst hc
   rw [if_pos rfl] at hA
   subst hA
   obtain rfl:ids=[]:=List.eq_nil_of_length_eq_zero (by omega)
   exact .inr ⟨g,o,0,_,rfl,hb.set o u,hg,Nat.zero_le _,by decide,.inl rfl,fun i hi=>by simp at hi⟩
  ·rw [if_neg hc] at hA
   subst hA
   refine .inr ⟨g,o+1,c - 1,_,rfl,hb.set o u,hg,by omega,by omega,.inr (by have:=h3.resolve_left (by omega);simp;omega),fun i hi=>?_⟩
   have:=h4 (i+1) (by omega)
   rw [List.getElem_cons_succ] at this
   rw [List.getElem?_set,if_neg (by omega),← this]
   congr 1
   omega
theorem PRow.pop {g o n c b:Nat} (h:PRow w n0 (.slice (some ⟨g,o,none⟩) n c) (ids++[b])) (u:Value):PRow (w.setCell ⟨g,o+ids.length,none⟩ u) n0 (.slice (some ⟨g,o,none⟩) ids.length c) ids:=by
 rcases h with ⟨h,_⟩ | ⟨g',o',c',cs,e,hb,hg,h1,h2,h3,h4⟩
 ·cases h
 ·injection e with e1 e2 e3
  injection e1 with e1
  injection e1 with e1 e4 _
  subst e1 e4 e3
  rw [List.length_append] at h1
  refine .inr ⟨g,o,c,_,rfl,hb.set _ u,hg,by omega,h2,h3.imp id (fun h=>by simpa using h),fun i hi=>?_⟩
  have:=h4 i (by simp;omega)
  rw [List.getElem_append_left hi] at this
  rw [List.getElem?_set,if_neg (by omega)]
  exact this
end
section
variable {ops:Array Oper} {o:Oper} {a:Act} {wr:World} {K:Act→World→Prop} {Q:Exit→Act→World→Prop} {E:Prop}
theorem step_push19 (hgd:o.guard=none) (s x:Operand) (ho:o.op=.call { callee:=.builtin .append,args:=#[s,x],argTypes:=#[72,72] })
  (n0:Nat) (v:Value) (ids:List Nat) (hr:PRow wr n0 v ids) (hs:a.eval s=v) (b g0:Nat) (hx:a.eval x=.slice (some ⟨g0,0,none⟩) 1 1) (hc:wr.cell? ⟨g0,0,none⟩=some (ptr19 b)) (hn:n0≤wr.heap.size) (hl:ids.length≤1000000)
  (h:∀ v' w',PRow w' n0 v' (ids++[b])→wr.grownBy w' v.ownBlock→(v'.ownBlock=v.ownBlock∨v'.ownBlock=some wr.heap.size)→K (a.put o.dst v') w') :
  if Region.wanted o (yielded ops a.tmps)=true then Oper.wp Tryz.prog o a wr K Q else E:=by
 have hw:Region.wanted o (yielded ops a.tmps)=true:=by simp [Region.wanted,hgd]
 rw [if_pos hw]
 obtain ⟨v',w',hr',h2,h3,h4⟩:=hr.push (t:=o.type) b g0 hc hn hl
 unfold Oper.wp execOp
 simp only [ho,resolve,invoke,builtin,Sem.run_bind,Sem.run_pure,Result.andThen_ok,List.map_toArray,List.map_cons,List.map_nil,hs,hx,hr']
 exact h v' w' h2 h3 h4
end
structure But (O:Nat→Prop) (W W':World):Prop where
 os:W'.os=W.os
 tape:W'.tape=W.tape
 output:W'.output=W.output
 size:W.heap.size≤W'.heap.size
 block:∀ k,k<W.heap.size→¬ O k→W'.heap[k]?=W.heap[k]?
theorem But.refl (O:Nat→Prop) (W:World):But O W W:=⟨rfl,rfl,rfl,Nat.le_refl _,fun _ _ _=>rfl⟩
theorem But.trans {O O':Nat→Prop} {A B C:World} (h:But O A B) (k:But O' B C) (hO:∀ b,b<A.heap.size→O' b→O b):But O A C :=
 ⟨k.os.trans h.os,k.tape.trans h.tape,k.output.trans h.output,Nat.le_trans h.size k.size,fun b hb hn=>(k.block b (Nat.lt_of_lt_of_le hb h.size) (fun hc=>hn (hO b hb hc))).trans (h.block b hb hn)⟩
theorem But.of {O:Nat→Prop} {W W':World} (h:Below W.heap.size W W'):But O W W':=⟨h.os,h.tape,h.output,h.size,fun b hb _=>h.block b hb⟩
theorem But.put {O:Nat→Prop} {W:World} {l:Nat} (o:Obj) (hl:O l):But O W (W.putObj l o) :=
 ⟨rfl,rfl,rfl,by simp,fun b _ hn=>World.putObj_heap_other (fun e=>hn (by rw [e];exact hl))⟩
theorem But.set {O:Nat→Prop} {W:World} (p:Addr) (v:Value) (hl:O p.block):But O W (W.setCell p v) :=
 ⟨rfl,rfl,rfl,by simp [World.setCell],fun b _ hn=>Below.heap_setCell _ _ _ _ (fun e=>hn (by rw [e];exact hl))⟩
theorem But.imp {O O':Nat→Prop} {W W':World} (h:But O W W') (hO:∀ b,b<W.heap.size→O b→O' b):But O' W W' :=
 ⟨h.os,h.tape,h.output,h.size,fun b hb hn=>h.block b hb (fun hc=>hn (hO b hb hc))⟩
theorem But.below {O:Nat→Prop} {n₀:Nat} {W W':World} (h:But O W W') (hn:n₀≤W.heap.size) (hO:∀ k,O k→n₀≤k):Below n₀ W W' :=
 ⟨h.os,h.tape,h.output,h.size,fun k hk=>h.block k (by omega) (fun hc=>by have:=hO k hc;omega)⟩
theorem But.cell {O:Nat→Prop} {W W':World} (h:But O W W') {p:Addr} (hb:p.block<W.heap.size) (hO:¬ O p.block):W'.cell? p=W.cell? p:=World.cell?_of_block (h.block _ hb hO)
theorem But.frozen {O:Nat→Prop} {W W':World} (h:But O W W') {p:Addr} (hb:p.block<W.heap.size) (hO:¬ O p.block):W'.frozen? p=W.frozen? p:=World.frozen?_of_block (h.block _ hb hO)
def SeqQ {α:Type} (F:Fence) (n:Nat) (P:Program) (g:Nat) (lb:Array Value) (encs:α→Array Value) (D:Nat→Prop) (G:α→Nat→World→Prop) (S Sp:List α→Prop) (N:Nat) (w:World):Prop :=
 ∀ (l:Nat) (J:List α→(Nat→Prop)→World→Prop) (Jx:List α→World→Prop) (O:Nat→Prop) (W:World),Below w.heap.size w W →
  (∀ s O A B,J s O A→Below A.heap.size A B→J s O B)→(∀ s A B,Jx s A→Below A.heap.size A B→Jx s B)→(∀ k,O k→k<W.heap.size∧¬ D k) →
  (∀ pre O x V,J pre O V→(∀ k,O k→k<V.heap.size)→G x W.heap.size V→pre.length<N→YieldAt F (n - 1) P l (encs x) V fun e V' =>
   (e=.returned (.bool true)∧But O V V'∧∃ O',J (pre++[x]) O' V'∧∀ k,O' k→k<V'.heap.size∧(O k∨V.heap.size≤k))∨(e=.returned (.bool false)∧Jx (pre++[x]) V')) →
  J [] O W →
  CallsIn F n P g (#[.func (.yield l) #[] #[]]++lb) W fun e W'=>(∃ v,e=.returned v)∧((∃ xs O',S xs∧J xs O' W')∨∃ pre,Sp pre∧Jx pre W')
def postQ {α:Type} (O:Nat→Prop) (I:List α→(Nat→Prop)→World→Prop) (Ix:List α→World→Prop) (xs:List α) (W:World):Exit→Act→World→Prop
 | .normal,_,W'=>But O W W'∧∃ O',I xs O' W'∧∀ k,O' k→k<W'.heap.size∧(O k∨W.heap.size≤k)
 | .ret,_,W'=>But O W W'∧Ix xs W'
 | _,_,_=>False
def RecQ (w:World) (k:Nat):Prop:=k=w.heap.size∨k=w.heap.size+1

theorem loopQ {α:Type} {F:Fence} {n:Nat} {P:Program} {g:Operand} {ps:Array Tmp} {assign body:Code} {Q:Exit→Act→World→Prop} {a:Act} {w:World}
  (hro:F.round=none) (h1:1≤n) {gf:Nat} {lb:Array Value} (hg:a.eval g=.func (.func gf) #[] lb) (hFg:F.fn gf) (eg:∀ args w,(callFunc gf args).run P w=.ok (.enter gf args) w)
  {encs:α→Array Value} {D:Nat→Prop} {G:α→Nat→World→Prop} {S Sp:List α→Prop} {N:Nat} {w0:World} (hseq:SeqQ F (n - 1) P gf lb encs D G S Sp N w0) (hb0:Below w0.heap.size w0 w) (hD:∀ k,D k→k<w0.heap.size) (hps:∀ x,(encs x).size=ps.size)
  (I:List α→(Nat→Prop)→World→Prop) (Ix:List α→World→Prop) (Ax:α→Act→World→Prop)
  (hI:∀ s O A B,I s O A→But (RecQ w) A B→I s O B) (hIx:∀ s A B,Ix s A→But (RecQ w) A B→Ix s B) (hAx:∀ x a' A B,Ax x a' A→But (RecQ w) A B→Ax x a' B)
  (O0:Nat→Prop) (hO0:∀ k,O0 k→k<w.heap.size∧¬ D k) (h0:I [] O0 w)
  (hassign:∀ (l:Nat) (pre:List α) (O:Nat→Prop) (x:α) (W:World) (K:Act→World→Prop),I pre O W→G x (w.heap.size+2) W→w.heap.size+2≤W.heap.size→(∀ a' W',Below W.heap.size W W'→Ax x a' W'→K a' W') →
   assign.wpIn (F.inRound l) (n - 1 - 1) P (Exit.then K (fun _ _ _=>False)) { tmps:=(ps.zip (encs x)).foldl (fun t (p,v)=>t.setIfInBounds p v) a.tmps,defers:=[] } W)
  (hbody:∀ (l:Nat) (pre:List α) (O:Nat→Prop) (x:α) (a':Act) (W:World),I pre O W→Ax x a' W→(∀ k,O k→k<W.heap.size)→w.heap.size+2≤W.heap.size→pre.length<N →
   body.wpIn (F.inRound l) (n - 1 - 1) P (postQ O I Ix (pre++[x]) W) a' W)
  (hdone:∀ (d:Nat) (xs:List α) (O:Nat→Prop) (W:World),d=w.heap.size→S xs→I xs O W→W.heap[d]?=some (.deferred (some []))→Q .normal { a with defers:={ target:=.collected d,args:=#[] } :: a.defers } W)
  (hstop:∀ (d:Nat) (pre:List α) (W:World),d=w.heap.size→Sp pre→Ix pre W→W.heap[d]?=some (.deferred (some []))→Code.ret.wpIn F n P Q { a with defers:={ target:=.collected d,args:=#[] } :: a.defers } W) :
  (Code.rangeFunc g ps assign body).wpIn F n P Q a w:=by
 refine wpIn_rangeFunc fun fn hfn=>?_
 rw [hro]
 obtain ⟨lp,hlp⟩:∃ lp:LoopState→Option Code→Loop,lp=fun st pe=>{ state:=st,pending:=pe,fn,tmps:=a.tmps,params:=ps,assign,body,defers:=w.heap.size }:=⟨_,rfl⟩
 obtain ⟨V,hV⟩:∃ V,(w.alloc (.deferred (some []))).alloc (.loop (lp .ready none))=V:=⟨_,rfl⟩
 have hbV:Below w.heap.size w V:=by rw [← hV];exact ((Below.refl _ w).alloc (Nat.le_refl _) _).alloc (by simp) _
 have hsV:V.heap.size=w.heap.size+2:=by rw [← hV];simp
 have hl0:V.heap[w.heap.size+1]?=some (.loop (lp .ready none)):=by
  rw [← hV]
  have:=World.alloc_heap_new (w.alloc (.deferred (some []))) (.loop (lp .ready none))
  rwa [World.size_alloc] at this
 have hd0:V.heap[w.heap.size]?=some (.deferred (some [])):=by
  rw [← hV];exact (Below.heap_alloc _ _ _ (by simp)).trans (World.alloc_heap_new w _)
 have hDw:∀ k,D k→k<w.heap.size:=fun k hk=>Nat.lt_of_lt_of_le (hD k hk) hb0.size
 refine ⟨w.heap.size+1,[{ target:=.collected w.heap.size,args:=#[] }],V,{ target:=.fn (.func gf) lb,args:=#[.func (.yield (w.heap.size+1)) #[] #[]] },V,gf,
  #[.func (.yield (w.heap.size+1)) #[] #[]]++lb,V,?_,?_,?_,?_,fun _=>h1,?_⟩
 ·rw [← hV,hlp];exact run_enterLoop_outer _ _ _ _ _
 ·simp only [resolve,hg]
  simp [go_sem]
 ·intro f' hf'
  simp [Target.leads] at hf'
  subst hf'
  exact hFg
 ·simp [invoke,go_sem,eg]
 -- What stands between two rounds,and once a round has left.
 have st:∀ {A B:World} {o:Obj} {b:Nat},A.heap[b]?=some o→Below A.heap.size A B→B.heap[b]?=some o:=fun h hb=>(hb.block _ (Array.getElem?_eq_some_iff.1 h).1).trans h
 refine (hseq (w.heap.size+1)
  (fun pre O W=>∃ O1,I pre O1 W∧(∀ k,O k ↔ O1 k∨RecQ w k)∧(∀ k,O1 k→¬ RecQ w k)∧W.heap[w.heap.size+1]?=some (.loop (lp .ready none))∧W.heap[w.heap.size]?=some (.deferred (some [])))
  (fun pre W=>Ix pre W∧W.heap[w.heap.size+1]?=some (.loop (lp .done (some .ret)))∧W.heap[w.heap.size]?=some (.deferred (some [])))
  (fun k=>O0 k∨RecQ w k) V (hb0.trans (hbV.mono hb0.size))
  (fun s O A B ⟨O1,hi,ho,hn,hl,hd⟩ hb=>⟨O1,hI s O1 A B hi (.of hb),ho,hn,st hl hb,st hd hb⟩)
  (fun s A B ⟨hi,hl,hd⟩ hb=>⟨hIx s A B hi (.of hb),st hl hb,st hd hb⟩)
  (fun k hk=>by
   rcases hk with hk | hk
   ·exact ⟨by have:=(hO0 k hk).1;omega,(hO0 k hk).2⟩
   ·refine ⟨by unfold RecQ at hk;omega,fun hc=>?_⟩
    have:=hDw k hc
    unfold RecQ at hk
    omega)
  ?_ ⟨O0,hI _ _ _ _ h0 (.of hbV),fun _=>Iff.rfl,fun k hk hc=>by have:=(hO0 k hk).1;unfold RecQ at hc;omega,hl0,hd0⟩).mono ?_
 ·rintro pre O x W ⟨O1,hi,ho,hn,hl,hd⟩ hsz hG hlen
  rw [hsV] at hG
  have hlt:w.heap.size+1<W.heap.size:=(Array.getElem?_eq_some_iff.1 hl).1
  have hy:=run_yield (P:=P) (args:=encs x) hl (by rw [hlp];exact hps x)
  rw [hlp] at hy
  refine ⟨fn,_,assign,body,hy,roundIn_of_wpIn hfn (hassign _ pre O1 x W _ hi hG (by omega) fun a' W2 hb2 hax=>?_)⟩
  have hl2:=st hl hb2
  have hd2:=st hd hb2
  have hlt2:w.heap.size+1<W2.heap.size:=Nat.lt_of_lt_of_le hlt hb2.size
  refine ⟨_,run_beginRound hl2 (by rw [hlp]),?_⟩
  obtain ⟨W3,hW3⟩:∃ W3,W2.putObj (w.heap.size+1) (.loop { lp .ready none with state:=.busy })=W3:=⟨_,rfl⟩
  have k3:But (RecQ w) W2 W3:=by rw [← hW3];exact .put _ (.inr rfl)
  have hs3:W3.heap.size=W2.heap.size:=by rw [← hW3];simp
  have hl3:W3.heap[w.heap.size+1]?=some (.loop { lp .ready none with state:=.busy }):=by rw [← hW3];exact World.putObj_heap_same hlt2
  have hd3:W3.heap[w.heap.size]?=some (.deferred (some [])):=by rw [← hW3];exact (World.putObj_heap_other (by omega)).trans hd2
  rw [hW3]
  have hO1:∀ k,O1 k→k<W.heap.size:=fun k hk=>hsz k ((ho k).2 (.inl hk))
  have hO3:∀ k,O1 k→k<W3.heap.size:=fun k hk=>by have:=hO1 k hk;have:=hb2.size;omega
  refine wpIn_mono (hbody _ pre O1 x a' W3 (hI _ _ _ _ (hI _ _ _ _ hi (.of hb2)) k3) (hAx _ _ _ _ hax k3) hO3 (by omega) hlen) ?_
  have fin:∀ (jump:Option Code) (W4:World),But O1 W3 W4→∃ W5,(Instr.endRound (w.heap.size+1) jump).run P W4=.ok (.bool jump.isNone) W5∧But (RecQ w) W4 W5∧But O W W5∧W5.heap.size=W4.heap.size ∧
    W5.heap[w.heap.size+1]?=some (.loop (lp (if jump.isNone then .ready else .done) jump))∧W5.heap[w.heap.size]?=some (.deferred (some [])):=fun jump W4 k4=>by
   have hl4:=(k4.block _ (by omega) (fun hc=>hn _ hc (.inr rfl))).trans hl3
   have hd4:=(k4.block _ (by omega) (fun hc=>hn _ hc (.inl rfl))).trans hd3
   have hlt4:w.heap.size+1<W4.heap.size:=(Array.getElem?_eq_some_iff.1 hl4).1
   have hr:=run_endRound (P:=P) jump hl4
   refine ⟨_,hr,.put _ (.inr rfl),?_,by simp,?_,?_⟩
   ·refine ((But.of hb2:But O W W2).trans k3 fun b hb hc=>(ho b).2 (.inr hc)).trans ((k4.imp (O':=O) fun b _ hc=>(ho b).2 (.inl hc)).trans (O':=O) (.put _ ((ho _).2 (.inr (.inr rfl)))) fun _ _ h=>h) fun _ _ h=>h
   ·rw [World.putObj_heap_same hlt4,hlp]
   ·exact (World.putObj_heap_other (by omega)).trans hd4
  rintro e a3 W4 hp
  cases e with
  | normal =>
   obtain ⟨k4,O',hi4,ho4⟩:=hp
   obtain ⟨W5,hr,k5,kW,hs5,hl5,hd5⟩:=fin none W4 k4
   refine ⟨_,_,hr,.inl ⟨rfl,kW,fun k=>O' k∨RecQ w k,⟨O',hI _ _ _ _ hi4 k5,fun _=>Iff.rfl,fun k hk=>?_,hl5,hd5⟩,fun k hk=>?_⟩⟩
   ·rcases (ho4 k hk).2 with h | h
    ·exact hn k h
    ·intro hc;unfold RecQ at hc;omega
   ·rcases hk with hk | hk
    ·refine ⟨by have:=(ho4 k hk).1;omega,?_⟩
     rcases (ho4 k hk).2 with h | h
     ·exact .inl ((ho k).2 (.inl h))
     ·exact .inr (by have:=hb2.size;omega)
    ·exact ⟨by have:=(Array.getElem?_eq_some_iff.1 hl5).1;unfold RecQ at hk;omega,.inl ((ho k).2 (.inr hk))⟩
  | ret =>
   obtain ⟨k4,hi4⟩:=hp
   obtain ⟨W5,hr,k5,_,_,hl5,hd5⟩:=fin (some .ret) W4 k4
   exact ⟨_,_,hr,.inr ⟨rfl,hIx _ _ _ hi4 k5,hl5,hd5⟩⟩
  | exit id=>exact hp.elim
  | goto t=>exact hp.elim
  | panic ch=>exact hp.elim
  | outgrown=>exact hp.elim
 ·rintro e W2 ⟨⟨v,rfl⟩,⟨xs,O,hS,O1,hi,_,_,hl,hd⟩ | ⟨pre,hSp,hi,hl,hd⟩⟩
  ·refine ⟨none,_,by have:=run_endLoop (P:=P) hl (by rw [hlp];simp);rw [hlp] at this;exact this,?_⟩
   exact hdone _ xs O1 _ rfl hS (hI _ _ _ _ hi (.put _ (.inr rfl))) ((World.putObj_heap_other (by omega)).trans hd)
  ·refine ⟨some .ret,_,by have:=run_endLoop (P:=P) hl (by rw [hlp];simp);rw [hlp] at this;exact this,?_⟩
   exact hstop _ pre _ rfl hSp (hIx _ _ _ hi (.put _ (.inr rfl))) ((World.putObj_heap_other (by omega)).trans hd)
theorem Bk.but {O:Nat→Prop} {w w':World} {b:Nat} {cs:List Value} {t:TypeId} (h:Bk w b cs t) (hb:But O w w') (hO:¬ O b):Bk w' b cs t:=(hb.block b h.lt hO).trans h
def upd19 {α:Type} (f:Nat→α) (r:Nat) (x:α):Nat→α:=fun k=>if k=r then x else f k
theorem upd19_same {α:Type} (f:Nat→α) (r:Nat) (x:α):upd19 f r x r=x:=by simp [upd19]
theorem upd19_other {α:Type} (f:Nat→α) {r k:Nat} (x:α) (h:k≠r):upd19 f r x k=f k:=by simp [upd19,h]
def huntL (a0 a1 a2 a3 a4 a5:Value) (left:Int) (mp:Nat) (V:Nat→Value) (many:Int) (cut:Bool):List Value :=
 [a0,a1,a2,a3,a4,a5,.int .i64 left,.map (some mp)]++((List.range 77).map V++[.int .i64 many,.bool cut])
section
variable {a0 a1 a2 a3 a4 a5:Value} {left:Int} {mp:Nat} {V:Nat→Value} {many:Int} {cut:Bool}
theorem huntL_row {r:Nat} (hr:r<77):(huntL a0 a1 a2 a3 a4 a5 left mp V many cut)[8+r]?=some (V r):=by
 unfold huntL
 rw [List.getElem?_append_right (by simp),List.getElem?_append_left (by simp;omega)]
 simp only [List.length_cons,List.length_nil]
 rw [show 8+r - (0+1+1+1+1+1+1+1+1)=r by omega,List.getElem?_map,List.getElem?_range hr];rfl
theorem huntL_many:(huntL a0 a1 a2 a3 a4 a5 left mp V many cut)[85]?=some (.int .i64 many):=by
 unfold huntL
 rw [List.getElem?_append_right (by simp),List.getElem?_append_right (by simp)];simp
theorem huntL_cut:(huntL a0 a1 a2 a3 a4 a5 left mp V many cut)[86]?=some (.bool cut):=by
 unfold huntL
 rw [List.getElem?_append_right (by simp),List.getElem?_append_right (by simp)];simp
theorem huntL_setRow {r:Nat} (hr:r<77) (v:Value):(huntL a0 a1 a2 a3 a4 a5 left mp V many cut).set (8+r) v=huntL a0 a1 a2 a3 a4 a5 left mp (upd19 V r v) many cut:=by
 unfold huntL
 rw [List.set_append_right _ _ (by simp),List.set_append_left _ _ (by simp;omega)]
 congr 2
 simp only [List.length_cons,List.length_nil]
 rw [show 8+r - (0+1+1+1+1+1+1+1+1)=r by omega]
 refine List.ext_getElem? fun k=>?_
 rw [List.getElem?_set,List.getElem?_map,List.getElem?_map,List.length_map,List.length_range]
 by_cases hk:r=k
 ·subst hk
  rw [if_pos rfl,if_pos hr,List.getElem?_range hr];simp [upd19_same]
 ·rw [if_neg hk]
  by_cases h7:k<77
  ·rw [List.getElem?_range h7];simp [upd19_other V v (fun e=>hk e.symm)]
  ·rw [List.getElem?_eq_none (by simp;omega)];rfl
theorem huntL_setMany (n:Int):(huntL a0 a1 a2 a3 a4 a5 left mp V many cut).set 85 (.int .i64 n)=huntL a0 a1 a2 a3 a4 a5 left mp V n cut:=by
 unfold huntL
 rw [List.set_append_right _ _ (by simp),List.set_append_right _ _ (by simp)];simp
theorem huntL_setCut (c:Bool):(huntL a0 a1 a2 a3 a4 a5 left mp V many cut).set 86 (.bool c)=huntL a0 a1 a2 a3 a4 a5 left mp V many c:=by
 unfold huntL
 rw [List.set_append_right _ _ (by simp),List.set_append_right _ _ (by simp)];simp
theorem huntL_setLeft (n:Int):(huntL a0 a1 a2 a3 a4 a5 left mp V many cut).set 6 (.int .i64 n)=huntL a0 a1 a2 a3 a4 a5 n mp V many cut:=rfl
end
def sumR (R:Nat→List Nat) (n:Nat):Nat:=((List.range n).map fun r=>(R r).length).sum
theorem sumR_succ (R:Nat→List Nat) (n:Nat):sumR R (n+1)=sumR R n+(R n).length:=by
 unfold sumR
 rw [List.range_succ,List.map_append,List.sum_append];simp
theorem sumR_row {R:Nat→List Nat} {r:Nat}:∀ {n:Nat},r<n→(R r).length≤sumR R n
 | 0,h=>by omega
 | n+1,h=>by
  rw [sumR_succ]
  by_cases e:r=n
  ·subst e;omega
  ·have:=sumR_row (R:=R) (r:=r) (n:=n) (by omega);omega
theorem sumR_none {R:Nat→List Nat}:∀ {n:Nat},(∀ r,r<n→R r=[])→sumR R n=0
 | 0,_=>rfl
 | n+1,h=>by rw [sumR_succ,sumR_none (fun r hr=>h r (by omega)),h n (by omega)];rfl
theorem sumR_upd {R:Nat→List Nat} {r:Nat} {l:List Nat}:∀ {n:Nat},r<n→sumR (upd19 R r l) n+(R r).length=sumR R n+l.length
 | 0,h=>by omega
 | n+1,h=>by
  rw [sumR_succ,sumR_succ]
  by_cases e:r=n
  ·subst e
   rw [upd19_same]
   have:sumR (upd19 R r l) r=sumR R r:=by
    unfold sumR
    congr 1
    exact List.map_congr_left fun k hk=>by rw [upd19_other];simp at hk;omega
   omega
  ·have:=sumR_upd (R:=R) (r:=r) (l:=l) (n:=n) (by omega)
   rw [upd19_other _ _ (by omega)];omega
structure Ln (hb n0:Nat) (a0 a1 a2 a3 a4 a5:Value) (left:Int) (mp:Nat) (V:Nat→Value) (R:Nat→List Nat) (N:Nat) (cut:Bool) (M:Nat→Prop) (w:World):Prop where
 blk:Bk w hb (huntL a0 a1 a2 a3 a4 a5 left mp V N cut) 77
 cnt:sumR R 77=N
 hm:M hb
 row:∀ r,r<77→PRow w n0 (V r) (R r)
 rm:∀ r,r<77→∀ k,(V r).ownBlock=some k→M k
 ap:∀ r q,r<77→q<77→r≠q→∀ k,(V r).ownBlock=some k→(V q).ownBlock≠some k
 lt:∀ k,M k→n0≤k∧k<w.heap.size
 n0:n0≤w.heap.size
section
variable {hb n0:Nat} {a0 a1 a2 a3 a4 a5:Value} {left:Int} {mp:Nat} {V:Nat→Value} {R:Nat→List Nat} {N:Nat} {cut:Bool} {M:Nat→Prop} {w w':World}
theorem Ln.keep (h:Ln hb n0 a0 a1 a2 a3 a4 a5 left mp V R N cut M w) (hk:∀ b cs t,t=77∨t=78→Bk w b cs t→Bk w' b cs t) (hs:w.heap.size≤w'.heap.size):Ln hb n0 a0 a1 a2 a3 a4 a5 left mp V R N cut M w' :=
 ⟨hk _ _ _ (.inl rfl) h.blk,h.cnt,h.hm,fun r hr=>(h.row r hr).keep fun k cs _ hb=>hk _ _ _ (.inr rfl) hb,h.rm,h.ap,fun k hk'=>⟨(h.lt k hk').1,Nat.lt_of_lt_of_le (h.lt k hk').2 hs⟩,Nat.le_trans h.n0 hs⟩
theorem Ln.below (h:Ln hb n0 a0 a1 a2 a3 a4 a5 left mp V R N cut M w) (hb':Below w.heap.size w w'):Ln hb n0 a0 a1 a2 a3 a4 a5 left mp V R N cut M w':=h.keep (fun b cs t _ hk=>hk.below hb' hk.lt) hb'.size
theorem Ln.more {M':Nat→Prop} (h:Ln hb n0 a0 a1 a2 a3 a4 a5 left mp V R N cut M w) (hM:∀ k,M k→M' k) (hl:∀ k,M' k→n0≤k∧k<w.heap.size):Ln hb n0 a0 a1 a2 a3 a4 a5 left mp V R N cut M' w :=
 ⟨h.blk,h.cnt,hM _ h.hm,h.row,fun r hr k hk=>hM k (h.rm r hr k hk),h.ap,hl,h.n0⟩
theorem Ln.off (h:Ln hb n0 a0 a1 a2 a3 a4 a5 left mp V R N cut M w) {r:Nat} (hr:r<77) {k:Nat} (hk:(V r).ownBlock=some k):k≠hb:=by
 rintro rfl
 obtain ⟨cs,hc⟩:=(h.row r hr).type k hk
 exact absurd (hc.one h.blk).2 (by decide)
theorem Ln.heap (h:Ln hb n0 a0 a1 a2 a3 a4 a5 left mp V R N cut M w) (he:w'.heap=w.heap):Ln hb n0 a0 a1 a2 a3 a4 a5 left mp V R N cut M w' :=
 h.keep (fun b cs t _ hk=>by unfold Bk at *;rw [he];exact hk) (by rw [he];exact Nat.le_refl _)
theorem Ln.turn {M':Nat→Prop} {w1:World} (h:Ln hb n0 a0 a1 a2 a3 a4 a5 left mp V R N cut M w) {r:Nat} (hr:r<77) {v:Value} {l:List Nat} (hv:PRow w1 n0 v l)
  (hk:∀ k,k<w.heap.size→(V r).ownBlock≠some k→w1.heap[k]?=w.heap[k]?) (hs:w.heap.size≤w1.heap.size) (hM:∀ k,M k→M' k) (hvm:∀ k,v.ownBlock=some k→M' k) (hl:∀ k,M' k→n0≤k∧k<w1.heap.size)
  (hw:v.ownBlock=(V r).ownBlock∨∀ k,v.ownBlock=some k→w.heap.size≤k) {N':Nat} (hN:N'+(R r).length=N+l.length) :
  Ln hb n0 a0 a1 a2 a3 a4 a5 left mp (upd19 V r v) (upd19 R r l) N' cut M' ((w1.setCell ⟨hb,8+r,none⟩ v).setCell ⟨hb,85,none⟩ (.int .i64 N')):=by
 have hne:(V r).ownBlock≠some hb:=fun e=>h.off hr e rfl
 have hb1:Bk w1 hb (huntL a0 a1 a2 a3 a4 a5 left mp V N cut) 77:=(hk hb h.blk.lt hne).trans h.blk
 have hb2:=(hb1.set (8+r) v).set 85 (.int .i64 N')
 rw [huntL_setRow hr,huntL_setMany] at hb2
 have aside:∀ (q:Nat) (u:Value) (ids:List Nat),PRow w1 n0 u ids→u.ownBlock≠some hb→PRow ((w1.setCell ⟨hb,8+r,none⟩ v).setCell ⟨hb,85,none⟩ (.int .i64 N')) n0 u ids:=fun q u ids hu hne=>by
  refine hu.keep fun k cs hk' hb'=>?_
  have hkb:hb≠k:=fun e=>hne (by rw [e];exact hk')
  exact (hb'.other (p:=⟨hb,8+r,none⟩) hkb _).other (p:=⟨hb,85,none⟩) hkb _
 have hold:∀ q,q<77→q≠r→PRow w1 n0 (V q) (R q):=fun q hq hqr=>(h.row q hq).keep fun k cs hk' hb'=>(hk k hb'.lt (h.ap q r hq hr hqr k hk')).trans hb'
 have hvb:v.ownBlock≠some hb:=fun e=>by
  obtain ⟨cs,hc⟩:=hv.type hb e
  exact absurd (hc.one hb1).2 (by decide)
 refine ⟨hb2,by have h1:=sumR_upd (R:=R) (l:=l) hr;have h2:=h.cnt;omega,hM _ h.hm,fun q hq=>?_,fun q hq k hk'=>?_,fun q p hq hp hqp k hk'=>?_,fun k hk'=>by simpa using hl k hk',by have:=h.n0;simp;omega⟩
 ·by_cases hqr:q=r
  ·subst hqr
   rw [upd19_same,upd19_same]
   exact aside q v l hv hvb
  ·rw [upd19_other _ _ hqr,upd19_other _ _ hqr]
   exact aside q _ _ (hold q hq hqr) fun e=>h.off hq e rfl
 ·by_cases hqr:q=r
  ·subst hqr
   rw [upd19_same] at hk'
   exact hvm k hk'
  ·rw [upd19_other _ _ hqr] at hk'
   exact hM k (h.rm q hq k hk')
 ·by_cases hqr:q=r
  ·subst hqr
   rw [upd19_same] at hk'
   rw [upd19_other _ _ (fun e=>hqp e.symm)]
   intro e
   rcases hw with hw | hw
   ·rw [hw] at hk'
    exact h.ap q p hq hp hqp k hk' e
   ·have h1:=hw k hk'
    have h2:=(h.lt k (h.rm p hp k e)).2
    omega
  ·rw [upd19_other _ _ hqr] at hk'
   by_cases hpr:p=r
   ·subst hpr
    rw [upd19_same]
    intro e
    rcases hw with hw | hw
    ·rw [hw] at e
     exact h.ap q p hq hp hqp k hk' e
    ·have h1:=hw k e
     have h2:=(h.lt k (h.rm q hq k hk')).2
     omega
   ·rw [upd19_other _ _ hpr]
    exact h.ap q p hq hp hqp k hk'
end

theorem Below.drewN19 {N n:Nat} {w v:World} (h:Below N w v):Below N w (v.drewN n):=⟨h.os,h.tape,h.output,h.size,h.block⟩
structure ButT (T:TypeId→Prop) (M:Nat→Prop) (w w':World):Prop where
 but:But M w w'
 other:∀ k,k<w.heap.size→(∀ cs t,T t→¬ Bk w k cs t)→w'.heap[k]?=w.heap[k]?
section
variable {T T':TypeId→Prop} {M M':Nat→Prop} {w w' w2:World} {b:Nat} {cs:List Value} {t:TypeId}
theorem ButT.refl (T:TypeId→Prop) (M:Nat→Prop) (w:World):ButT T M w w:=⟨.refl _ _,fun _ _ _=>rfl⟩
theorem ButT.bk (h:ButT T M w w') (hb:Bk w b cs t) (ht:¬ T t):Bk w' b cs t :=
 (h.other b hb.lt fun cs' t' ht' hb'=>ht ((hb.one hb').2 ▸ ht')).trans hb
theorem ButT.obj (h:ButT T M w w') {es:Array MapEntry} {clock:Nat} (hb:w.heap[b]?=some (.map es clock)):w'.heap[b]?=some (.map es clock) :=
 (h.other b (Array.getElem?_eq_some_iff.1 hb).1 fun cs' t' ht' hb'=>by have:=hb.symm.trans hb';cases this).trans hb
theorem ButT.trans (h:ButT T M w w') (k:ButT T M' w' w2) (hM:∀ b,b<w.heap.size→M' b→M b):ButT T M w w2 :=
 ⟨h.but.trans k.but hM,fun i hi hn=>by
  have e:=h.other i hi hn
  exact (k.other i (Nat.lt_of_lt_of_le hi h.but.size) fun cs t ht hb=>hn cs t ht (e.symm.trans hb)).trans e⟩
theorem ButT.imp (h:ButT T M w w') (hT:∀ t,T t→T' t) (hM:∀ b,b<w.heap.size→M b→M' b):ButT T' M' w w' :=
 ⟨h.but.imp hM,fun i hi hn=>h.other i hi fun cs t ht=>hn cs t (hT t ht)⟩
theorem ButT.of (h:Below w.heap.size w w'):ButT T M w w':=⟨.of h,fun i hi _=>h.block i hi⟩
theorem ButT.set (hb:Bk w b cs t) (ht:T t) (hm:M b) (i:Nat) (v:Value):ButT T M w (w.setCell ⟨b,i,none⟩ v) :=
 ⟨.set _ _ hm,fun k hk hn=>heap_setCell_other w _ k v fun e=>hn cs t ht (by rw [e];exact hb)⟩
theorem ButT.drewN (h:ButT T M w w') (n:Nat):ButT T M w (w'.drewN n):=⟨⟨h.but.os,h.but.tape,h.but.output,h.but.size,h.but.block⟩,h.other⟩
theorem ButT.drew (h:ButT T M w w'):ButT T M w w'.drew:=⟨⟨h.but.os,h.but.tape,h.but.output,h.but.size,h.but.block⟩,h.other⟩
end
theorem ButT.heap {T:TypeId→Prop} {M:Nat→Prop} {w w' w2:World} (h:ButT T M w w') (he:w2.heap=w'.heap) (h1:w2.os=w'.os) (h2:w2.tape=w'.tape) (h3:w2.output=w'.output):ButT T M w w2 :=
 ⟨⟨h1.trans h.but.os,h2.trans h.but.tape,h3.trans h.but.output,by rw [he];exact h.but.size,fun k hk hn=>by rw [he];exact h.but.block k hk hn⟩,fun k hk hn=>by rw [he];exact h.other k hk hn⟩
def LineT (t:TypeId):Prop:=t=77∨t=78

set_option maxHeartbeats 3200000 in
set_option maxRecDepth 100000 in
theorem rank_any19 (b:Nat) (m u:Int) (w:World) (h9:w.cell? ⟨b,9,none⟩=some (.int .i64 m)) (h12:w.cell? ⟨b,12,none⟩=some (.int .i64 u)) (hm:0≤m∧m≤40) (hu:0≤u∧u≤12) :
  Calls Tryz.prog 132 #[ptr19 b] w fun e w'=>e=.returned (.int .i64 (40 - m+3 * u))∧Below w.heap.size w w':=by
 have e1:IntKind.i64.wrap (40 - m)=40 - m:=IntWalk.i64_in _ (by omega)
 have e2:IntKind.i64.wrap (3 * u)=3 * u:=IntWalk.i64_in _ (by omega)
 have e3:IntKind.i64.wrap (40 - m+3 * u)=40 - m+3 * u:=IntWalk.i64_in _ (by omega)
 go_enter Tryz.func132,Tryz.ntmps132
 go_wp2
 go_quiet (fail)
 go_wp2
 go_ret
 exact ⟨rfl,Below.drewN19 (Below.refl _ w)⟩
end Go.Proofs.YthapilknnhlmfaaGreatDoor
