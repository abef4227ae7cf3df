/- Joined texts, part 5: DEL DEP DEW DF UB. -/
import Derived.Test.YthapilknnhlmfaaGreatDoorZ04
import Derived.Test.YthapilknnhlmfaaGreatDoorZ02

namespace Go.Proofs.YthapilknnhlmfaaGreatDoor
set_option linter.unusedSimpArgs false
open Go.RowKit
set_option linter.unusedVariables false
abbrev zeroL:Value:=.agg #[.int .i64 0,.bool false,.int .i64 0,.int .i64 0,.int .i64 0]
set_option maxHeartbeats 3200000 in
set_option maxRecDepth 100000 in
theorem findL_any (l:List LoadD) (id:Int) (A:Option Addr) (n c:Nat) (w:World) (hn:n=l.length) (hl:n≤1000) (hr:Recs 5 cellsL w w.heap.size A l) :
  Calls Tryz.prog 149 #[.slice A n c,.int .i64 id,.func (.func 78) #[] #[]] w (FindTo aggL zeroL LoadD.id l id w):=by
 have HR:=Lib.hid hr
 have HN:=Lib.hid hn
 clear hr hn
 have b00:Below w.heap.size w (w.alloc (.cells #[.int .i64 0,.bool false,.int .i64 0,.int .i64 0,.int .i64 0] 61)):=(Below.refl _ _).alloc (Nat.le_refl _) _
 go_enter Tryz.func149,Tryz.ntmps149
 go_wp2
 go_loopw [13] (FRel LoadD.id id l (w.alloc (.cells #[.int .i64 0,.bool false,.int .i64 0,.int .i64 0,.int .i64 0] 61)) (w.heap.size+1)) (fun i _=>n - (intOf i).toNat)
 case atStart=>exact ⟨0,by omega,rfl,rfl,Below.refl _ _⟩
 case round =>
  obtain ⟨k,hk,rfl,hp,hbr⟩:=hrel
  have HP:=Lib.hid hp
  have hzr:w.heap.size+1≤wr.heap.size:=by have:=hbr.size;simpa using this
  have kwr:Below w.heap.size w wr:=b00.trans (hbr.mono (by omega))
  clear hp
  by_cases hlt:k<n
  ·have hkl:k<l.length:=by have:=HN.out;omega
   obtain ⟨b,o,rfl,hb,he⟩:=HR.out.at hkl
   generalize hx:l[k]=x at *
   have HX:=Lib.hid hx
   clear hx
   have e0:wr.cell? ⟨b,o+k * 5,none⟩=some (.int .i64 x.id):=(kwr.cell (p:=⟨b,o+k * 5,none⟩) hb).trans (he 0 _ rfl)
   have e1:wr.cell? ⟨b,o+k * 5+1,none⟩=some (.bool x.apart):=(kwr.cell (p:=⟨b,o+k * 5+1,none⟩) hb).trans (he 1 _ rfl)
   have e2:wr.cell? ⟨b,o+k * 5+2,none⟩=some (.int .i64 x.skew):=(kwr.cell (p:=⟨b,o+k * 5+2,none⟩) hb).trans (he 2 _ rfl)
   have e3:wr.cell? ⟨b,o+k * 5+3,none⟩=some (.int .i64 x.min):=(kwr.cell (p:=⟨b,o+k * 5+3,none⟩) hb).trans (he 3 _ rfl)
   have e4:wr.cell? ⟨b,o+k * 5+4,none⟩=some (.int .i64 x.max):=(kwr.cell (p:=⟨b,o+k * 5+4,none⟩) hb).trans (he 4 _ rfl)
   have hbw:b<wr.heap.size:=by omega
   clear he
   go_wp2_with fail
   refine (idL_any x _).mono ?_
   rintro e w2 ⟨rfl,hb2⟩
   have k1:Below (w.heap.size+1) (w.alloc (.cells #[.int .i64 0,.bool false,.int .i64 0,.int .i64 0,.int .i64 0] 61)) (wr.alloc (.cells #[.int .i64 x.id,.bool x.apart,.int .i64 x.skew,.int .i64 x.min,.int .i64 x.max] 61)):=hbr.alloc hzr _
   have k2:Below (w.heap.size+1) (w.alloc (.cells #[.int .i64 0,.bool false,.int .i64 0,.int .i64 0,.int .i64 0] 61)) w2:=k1.trans (hb2.mono (by simp;omega))
   have kw2:Below w.heap.size w w2:=b00.trans (k2.mono (by omega))
   clear e0 e1 e2 e3 e4
   by_cases hid:x.id=id
   ·have HE:=Lib.hid (place_found hkl (by rw [HX.out];exact hid) HP.out)
    subst hid
    have f0:w2.cell? ⟨wr.heap.size,0,none⟩=some (.int .i64 x.id):=(hb2.cell (p:=⟨wr.heap.size,0,none⟩) (by simp)).trans (by simp)
    have f1:w2.cell? ⟨wr.heap.size,1,none⟩=some (.bool x.apart):=(hb2.cell (p:=⟨wr.heap.size,1,none⟩) (by simp)).trans (by simp)
    have f2:w2.cell? ⟨wr.heap.size,2,none⟩=some (.int .i64 x.skew):=(hb2.cell (p:=⟨wr.heap.size,2,none⟩) (by simp)).trans (by simp)
    have f3:w2.cell? ⟨wr.heap.size,3,none⟩=some (.int .i64 x.min):=(hb2.cell (p:=⟨wr.heap.size,3,none⟩) (by simp)).trans (by simp)
    have f4:w2.cell? ⟨wr.heap.size,4,none⟩=some (.int .i64 x.max):=(hb2.cell (p:=⟨wr.heap.size,4,none⟩) (by simp)).trans (by simp)
    have g0:w2.cell? ⟨w.heap.size,0,none⟩=some (.int .i64 0):=(k2.cell (p:=⟨w.heap.size,0,none⟩) (by show w.heap.size<w.heap.size+1;omega)).trans (by simp)
    have h0:w2.frozen? ⟨w.heap.size,0,none⟩=false:=(k2.frozen (p:=⟨w.heap.size,0,none⟩) (by show w.heap.size<w.heap.size+1;omega)).trans (by simp)
    have g1:w2.cell? ⟨w.heap.size,1,none⟩=some (.bool false):=(k2.cell (p:=⟨w.heap.size,1,none⟩) (by show w.heap.size<w.heap.size+1;omega)).trans (by simp)
    have h1:w2.frozen? ⟨w.heap.size,1,none⟩=false:=(k2.frozen (p:=⟨w.heap.size,1,none⟩) (by show w.heap.size<w.heap.size+1;omega)).trans (by simp)
    have g2:w2.cell? ⟨w.heap.size,2,none⟩=some (.int .i64 0):=(k2.cell (p:=⟨w.heap.size,2,none⟩) (by show w.heap.size<w.heap.size+1;omega)).trans (by simp)
    have h2:w2.frozen? ⟨w.heap.size,2,none⟩=false:=(k2.frozen (p:=⟨w.heap.size,2,none⟩) (by show w.heap.size<w.heap.size+1;omega)).trans (by simp)
    have g3:w2.cell? ⟨w.heap.size,3,none⟩=some (.int .i64 0):=(k2.cell (p:=⟨w.heap.size,3,none⟩) (by show w.heap.size<w.heap.size+1;omega)).trans (by simp)
    have h3:w2.frozen? ⟨w.heap.size,3,none⟩=false:=(k2.frozen (p:=⟨w.heap.size,3,none⟩) (by show w.heap.size<w.heap.size+1;omega)).trans (by simp)
    have g4:w2.cell? ⟨w.heap.size,4,none⟩=some (.int .i64 0):=(k2.cell (p:=⟨w.heap.size,4,none⟩) (by show w.heap.size<w.heap.size+1;omega)).trans (by simp)
    have h4:w2.frozen? ⟨w.heap.size,4,none⟩=false:=(k2.frozen (p:=⟨w.heap.size,4,none⟩) (by show w.heap.size<w.heap.size+1;omega)).trans (by simp)
    go_wp2
    refine bodyPost_ret (v:=.tuple #[aggL x,.bool true]) ?_ rfl ?_
    ·simp [results,Tryz.results149,go_sem, *]
    ·refine ⟨.inr ⟨k,hkl,HE.out,by rw [HX.out]⟩,?_⟩
     repeat (first | with_reducible exact kw2 | with_reducible refine Below.setCell ?_ ?_ _)
     all_goals exact Nat.le_refl _
   ·have HE:=Lib.hid (place_step hkl (by rw [HX.out];exact hid) HP.out)
    go_wp2
    go_roundw
    case rel=>exact ⟨k+1,by omega,by go_num,HE.out,k2⟩
    case measure=>simp [intOf];omega
  ·have HE:=Lib.hid (place_end (by have:=HN.out;omega) HP.out)
   have g0:wr.cell? ⟨w.heap.size,0,none⟩=some (.int .i64 0):=(hbr.cell (p:=⟨w.heap.size,0,none⟩) (by show w.heap.size<w.heap.size+1;omega)).trans (by simp)
   have h0:wr.frozen? ⟨w.heap.size,0,none⟩=false:=(hbr.frozen (p:=⟨w.heap.size,0,none⟩) (by show w.heap.size<w.heap.size+1;omega)).trans (by simp)
   have g1:wr.cell? ⟨w.heap.size,1,none⟩=some (.bool false):=(hbr.cell (p:=⟨w.heap.size,1,none⟩) (by show w.heap.size<w.heap.size+1;omega)).trans (by simp)
   have h1:wr.frozen? ⟨w.heap.size,1,none⟩=false:=(hbr.frozen (p:=⟨w.heap.size,1,none⟩) (by show w.heap.size<w.heap.size+1;omega)).trans (by simp)
   have g2:wr.cell? ⟨w.heap.size,2,none⟩=some (.int .i64 0):=(hbr.cell (p:=⟨w.heap.size,2,none⟩) (by show w.heap.size<w.heap.size+1;omega)).trans (by simp)
   have h2:wr.frozen? ⟨w.heap.size,2,none⟩=false:=(hbr.frozen (p:=⟨w.heap.size,2,none⟩) (by show w.heap.size<w.heap.size+1;omega)).trans (by simp)
   have g3:wr.cell? ⟨w.heap.size,3,none⟩=some (.int .i64 0):=(hbr.cell (p:=⟨w.heap.size,3,none⟩) (by show w.heap.size<w.heap.size+1;omega)).trans (by simp)
   have h3:wr.frozen? ⟨w.heap.size,3,none⟩=false:=(hbr.frozen (p:=⟨w.heap.size,3,none⟩) (by show w.heap.size<w.heap.size+1;omega)).trans (by simp)
   have g4:wr.cell? ⟨w.heap.size,4,none⟩=some (.int .i64 0):=(hbr.cell (p:=⟨w.heap.size,4,none⟩) (by show w.heap.size<w.heap.size+1;omega)).trans (by simp)
   have h4:wr.frozen? ⟨w.heap.size,4,none⟩=false:=(hbr.frozen (p:=⟨w.heap.size,4,none⟩) (by show w.heap.size<w.heap.size+1;omega)).trans (by simp)
   have hwl:w.heap.size<wr.heap.size:=by omega
   have hne:w.heap.size≠wr.heap.size:=by omega
   go_wp2
   refine bodyPost_ret (v:=.tuple #[zeroL,.bool false]) ?_ rfl ?_
   ·simp [results,Tryz.results149,go_sem, *]
   ·refine ⟨.inl ⟨by rw [HE.out];decide,rfl⟩,?_⟩
    have kwa:Below w.heap.size w (wr.alloc (.cells #[.int .i64 0,.bool false,.int .i64 0,.int .i64 0,.int .i64 0] 61)):=kwr.alloc (by omega) _
    clear kwa
    repeat (first | with_reducible exact kwr | with_reducible refine Below.setCell ?_ ?_ _ | with_reducible refine Below.alloc ?_ ?_ _)
    all_goals first | (simp;done) | (simp;omega)
abbrev zeroP:Value:=.agg #[.int .i64 0,.int .i64 0,.int .i64 0,.int .u64 0,.int .u64 0,.int .u64 0,.int .u64 0,.int .i64 0]
set_option maxHeartbeats 3200000 in
set_option maxRecDepth 100000 in
theorem findP_any (l:List PodD) (id:Int) (A:Option Addr) (n c:Nat) (w:World) (hn:n=l.length) (hl:n≤1000) (hr:Recs 8 cellsP w w.heap.size A l) :
  Calls Tryz.prog 85 #[.slice A n c,.int .i64 id,.func (.func 81) #[] #[]] w (FindTo aggP zeroP PodD.id l id w):=by
 have HR:=Lib.hid hr
 have HN:=Lib.hid hn
 clear hr hn
 have b00:Below w.heap.size w (w.alloc (.cells #[.int .i64 0,.int .i64 0,.int .i64 0,.int .u64 0,.int .u64 0,.int .u64 0,.int .u64 0,.int .i64 0] 63)):=(Below.refl _ _).alloc (Nat.le_refl _) _
 go_enter Tryz.func85,Tryz.ntmps85
 go_wp2
 go_loopw [13] (FRel PodD.id id l (w.alloc (.cells #[.int .i64 0,.int .i64 0,.int .i64 0,.int .u64 0,.int .u64 0,.int .u64 0,.int .u64 0,.int .i64 0] 63)) (w.heap.size+1)) (fun i _=>n - (intOf i).toNat)
 case atStart=>exact ⟨0,by omega,rfl,rfl,Below.refl _ _⟩
 case round =>
  obtain ⟨k,hk,rfl,hp,hbr⟩:=hrel
  have HP:=Lib.hid hp
  have hzr:w.heap.size+1≤wr.heap.size:=by have:=hbr.size;simpa using this
  have kwr:Below w.heap.size w wr:=b00.trans (hbr.mono (by omega))
  clear hp
  by_cases hlt:k<n
  ·have hkl:k<l.length:=by have:=HN.out;omega
   obtain ⟨b,o,rfl,hb,he⟩:=HR.out.at hkl
   generalize hx:l[k]=x at *
   have HX:=Lib.hid hx
   clear hx
   have e0:wr.cell? ⟨b,o+k * 8,none⟩=some (.int .i64 x.id):=(kwr.cell (p:=⟨b,o+k * 8,none⟩) hb).trans (he 0 _ rfl)
   have e1:wr.cell? ⟨b,o+k * 8+1,none⟩=some (.int .i64 x.load):=(kwr.cell (p:=⟨b,o+k * 8+1,none⟩) hb).trans (he 1 _ rfl)
   have e2:wr.cell? ⟨b,o+k * 8+2,none⟩=some (.int .i64 x.prio):=(kwr.cell (p:=⟨b,o+k * 8+2,none⟩) hb).trans (he 2 _ rfl)
   have e3:wr.cell? ⟨b,o+k * 8+3,none⟩=some (.int .u64 x.req.a):=(kwr.cell (p:=⟨b,o+k * 8+3,none⟩) hb).trans (he 3 _ rfl)
   have e4:wr.cell? ⟨b,o+k * 8+4,none⟩=some (.int .u64 x.req.b):=(kwr.cell (p:=⟨b,o+k * 8+4,none⟩) hb).trans (he 4 _ rfl)
   have e5:wr.cell? ⟨b,o+k * 8+5,none⟩=some (.int .u64 x.req.c):=(kwr.cell (p:=⟨b,o+k * 8+5,none⟩) hb).trans (he 5 _ rfl)
   have e6:wr.cell? ⟨b,o+k * 8+6,none⟩=some (.int .u64 x.req.d):=(kwr.cell (p:=⟨b,o+k * 8+6,none⟩) hb).trans (he 6 _ rfl)
   have e7:wr.cell? ⟨b,o+k * 8+7,none⟩=some (.int .i64 x.node):=(kwr.cell (p:=⟨b,o+k * 8+7,none⟩) hb).trans (he 7 _ rfl)
   have hbw:b<wr.heap.size:=by omega
   clear he
   go_wp2_with fail
   refine (idP_any x _).mono ?_
   rintro e w2 ⟨rfl,hb2⟩
   have k1:Below (w.heap.size+1) (w.alloc (.cells #[.int .i64 0,.int .i64 0,.int .i64 0,.int .u64 0,.int .u64 0,.int .u64 0,.int .u64 0,.int .i64 0] 63)) (wr.alloc (.cells #[.int .i64 x.id,.int .i64 x.load,.int .i64 x.prio,.int .u64 x.req.a,.int .u64 x.req.b,.int .u64 x.req.c,.int .u64 x.req.d,.int .i64 x.node] 63)):=hbr.alloc hzr _
   have k2:Below (w.heap.size+1) (w.alloc (.cells #[.int .i64 0,.int .i64 0,.int .i64 0,.int .u64 0,.int .u64 0,.int .u64 0,.int .u64 0,.int .i64 0] 63)) w2:=k1.trans (hb2.mono (by simp;omega))
   have kw2:Below w.heap.size w w2:=b00.trans (k2.mono (by omega))
   clear e0 e1 e2 e3 e4 e5 e6 e7
   by_cases hid:x.id=id
   ·have HE:=Lib.hid (place_found hkl (by rw [HX.out];exact hid) HP.out)
    subst hid
    have f0:w2.cell? ⟨wr.heap.size,0,none⟩=some (.int .i64 x.id):=(hb2.cell (p:=⟨wr.heap.size,0,none⟩) (by simp)).trans (by simp)
    have f1:w2.cell? ⟨wr.heap.size,1,none⟩=some (.int .i64 x.load):=(hb2.cell (p:=⟨wr.heap.size,1,none⟩) (by simp)).trans (by simp)
    have f2:w2.cell? ⟨wr.heap.size,2,none⟩=some (.int .i64 x.prio):=(hb2.cell (p:=⟨wr.heap.size,2,none⟩) (by simp)).trans (by simp)
    have f3:w2.cell? ⟨wr.heap.size,3,none⟩=some (.int .u64 x.req.a):=(hb2.cell (p:=⟨wr.heap.size,3,none⟩) (by simp)).trans (by simp)
    have f4:w2.cell? ⟨wr.heap.size,4,none⟩=some (.int .u64 x.req.b):=(hb2.cell (p:=⟨wr.heap.size,4,none⟩) (by simp)).trans (by simp)
    have f5:w2.cell? ⟨wr.heap.size,5,none⟩=some (.int .u64 x.req.c):=(hb2.cell (p:=⟨wr.heap.size,5,none⟩) (by simp)).trans (by simp)
    have f6:w2.cell? ⟨wr.heap.size,6,none⟩=some (.int .u64 x.req.d):=(hb2.cell (p:=⟨wr.heap.size,6,none⟩) (by simp)).trans (by simp)
    have f7:w2.cell? ⟨wr.heap.size,7,none⟩=some (.int .i64 x.node):=(hb2.cell (p:=⟨wr.heap.size,7,none⟩) (by simp)).trans (by simp)
    have g0:w2.cell? ⟨w.heap.size,0,none⟩=some (.int .i64 0):=(k2.cell (p:=⟨w.heap.size,0,none⟩) (by show w.heap.size<w.heap.size+1;omega)).trans (by simp)
    have h0:w2.frozen? ⟨w.heap.size,0,none⟩=false:=(k2.frozen (p:=⟨w.heap.size,0,none⟩) (by show w.heap.size<w.heap.size+1;omega)).trans (by simp)
    have g1:w2.cell? ⟨w.heap.size,1,none⟩=some (.int .i64 0):=(k2.cell (p:=⟨w.heap.size,1,none⟩) (by show w.heap.size<w.heap.size+1;omega)).trans (by simp)
    have h1:w2.frozen? ⟨w.heap.size,1,none⟩=false:=(k2.frozen (p:=⟨w.heap.size,1,none⟩) (by show w.heap.size<w.heap.size+1;omega)).trans (by simp)
    have g2:w2.cell? ⟨w.heap.size,2,none⟩=some (.int .i64 0):=(k2.cell (p:=⟨w.heap.size,2,none⟩) (by show w.heap.size<w.heap.size+1;omega)).trans (by simp)
    have h2:w2.frozen? ⟨w.heap.size,2,none⟩=false:=(k2.frozen (p:=⟨w.heap.size,2,none⟩) (by show w.heap.size<w.heap.size+1;omega)).trans (by simp)
    have g3:w2.cell? ⟨w.heap.size,3,none⟩=some (.int .u64 0):=(k2.cell (p:=⟨w.heap.size,3,none⟩) (by show w.heap.size<w.heap.size+1;omega)).trans (by simp)
    have h3:w2.frozen? ⟨w.heap.size,3,none⟩=false:=(k2.frozen (p:=⟨w.heap.size,3,none⟩) (by show w.heap.size<w.heap.size+1;omega)).trans (by simp)
    have g4:w2.cell? ⟨w.heap.size,4,none⟩=some (.int .u64 0):=(k2.cell (p:=⟨w.heap.size,4,none⟩) (by show w.heap.size<w.heap.size+1;omega)).trans (by simp)
    have h4:w2.frozen? ⟨w.heap.size,4,none⟩=false:=(k2.frozen (p:=⟨w.heap.size,4,none⟩) (by show w.heap.size<w.heap.size+1;omega)).trans (by simp)
    have g5:w2.cell? ⟨w.heap.size,5,none⟩=some (.int .u64 0):=(k2.cell (p:=⟨w.heap.size,5,none⟩) (by show w.heap.size<w.heap.size+1;omega)).trans (by simp)
    have h5:w2.frozen? ⟨w.heap.size,5,none⟩=false:=(k2.frozen (p:=⟨w.heap.size,5,none⟩) (by show w.heap.size<w.heap.size+1;omega)).trans (by simp)
    have g6:w2.cell? ⟨w.heap.size,6,none⟩=some (.int .u64 0):=(k2.cell (p:=⟨w.heap.size,6,none⟩) (by show w.heap.size<w.heap.size+1;omega)).trans (by simp)
    have h6:w2.frozen? ⟨w.heap.size,6,none⟩=false:=(k2.frozen (p:=⟨w.heap.size,6,none⟩) (by show w.heap.size<w.heap.size+1;omega)).trans (by simp)
    have g7:w2.cell? ⟨w.heap.size,7,none⟩=some (.int .i64 0):=(k2.cell (p:=⟨w.heap.size,7,none⟩) (by show w.heap.size<w.heap.size+1;omega)).trans (by simp)
    have h7:w2.frozen? ⟨w.heap.size,7,none⟩=false:=(k2.frozen (p:=⟨w.heap.size,7,none⟩) (by show w.heap.size<w.heap.size+1;omega)).trans (by simp)
    go_wp2
    refine bodyPost_ret (v:=.tuple #[aggP x,.bool true]) ?_ rfl ?_
    ·simp [results,Tryz.results85,go_sem, *]
    ·refine ⟨.inr ⟨k,hkl,HE.out,by rw [HX.out]⟩,?_⟩
     repeat (first | with_reducible exact kw2 | with_reducible refine Below.setCell ?_ ?_ _)
     all_goals exact Nat.le_refl _
   ·have HE:=Lib.hid (place_step hkl (by rw [HX.out];exact hid) HP.out)
    go_wp2
    go_roundw
    case rel=>exact ⟨k+1,by omega,by go_num,HE.out,k2⟩
    case measure=>simp [intOf];omega
  ·have HE:=Lib.hid (place_end (by have:=HN.out;omega) HP.out)
   have g0:wr.cell? ⟨w.heap.size,0,none⟩=some (.int .i64 0):=(hbr.cell (p:=⟨w.heap.size,0,none⟩) (by show w.heap.size<w.heap.size+1;omega)).trans (by simp)
   have h0:wr.frozen? ⟨w.heap.size,0,none⟩=false:=(hbr.frozen (p:=⟨w.heap.size,0,none⟩) (by show w.heap.size<w.heap.size+1;omega)).trans (by simp)
   have g1:wr.cell? ⟨w.heap.size,1,none⟩=some (.int .i64 0):=(hbr.cell (p:=⟨w.heap.size,1,none⟩) (by show w.heap.size<w.heap.size+1;omega)).trans (by simp)
   have h1:wr.frozen? ⟨w.heap.size,1,none⟩=false:=(hbr.frozen (p:=⟨w.heap.size,1,none⟩) (by show w.heap.size<w.heap.size+1;omega)).trans (by simp)
   have g2:wr.cell? ⟨w.heap.size,2,none⟩=some (.int .i64 0):=(hbr.cell (p:=⟨w.heap.size,2,none⟩) (by show w.heap.size<w.heap.size+1;omega)).trans (by simp)
   have h2:wr.frozen? ⟨w.heap.size,2,none⟩=false:=(hbr.frozen (p:=⟨w.heap.size,2,none⟩) (by show w.heap.size<w.heap.size+1;omega)).trans (by simp)
   have g3:wr.cell? ⟨w.heap.size,3,none⟩=some (.int .u64 0):=(hbr.cell (p:=⟨w.heap.size,3,none⟩) (by show w.heap.size<w.heap.size+1;omega)).trans (by simp)
   have h3:wr.frozen? ⟨w.heap.size,3,none⟩=false:=(hbr.frozen (p:=⟨w.heap.size,3,none⟩) (by show w.heap.size<w.heap.size+1;omega)).trans (by simp)
   have g4:wr.cell? ⟨w.heap.size,4,none⟩=some (.int .u64 0):=(hbr.cell (p:=⟨w.heap.size,4,none⟩) (by show w.heap.size<w.heap.size+1;omega)).trans (by simp)
   have h4:wr.frozen? ⟨w.heap.size,4,none⟩=false:=(hbr.frozen (p:=⟨w.heap.size,4,none⟩) (by show w.heap.size<w.heap.size+1;omega)).trans (by simp)
   have g5:wr.cell? ⟨w.heap.size,5,none⟩=some (.int .u64 0):=(hbr.cell (p:=⟨w.heap.size,5,none⟩) (by show w.heap.size<w.heap.size+1;omega)).trans (by simp)
   have h5:wr.frozen? ⟨w.heap.size,5,none⟩=false:=(hbr.frozen (p:=⟨w.heap.size,5,none⟩) (by show w.heap.size<w.heap.size+1;omega)).trans (by simp)
   have g6:wr.cell? ⟨w.heap.size,6,none⟩=some (.int .u64 0):=(hbr.cell (p:=⟨w.heap.size,6,none⟩) (by show w.heap.size<w.heap.size+1;omega)).trans (by simp)
   have h6:wr.frozen? ⟨w.heap.size,6,none⟩=false:=(hbr.frozen (p:=⟨w.heap.size,6,none⟩) (by show w.heap.size<w.heap.size+1;omega)).trans (by simp)
   have g7:wr.cell? ⟨w.heap.size,7,none⟩=some (.int .i64 0):=(hbr.cell (p:=⟨w.heap.size,7,none⟩) (by show w.heap.size<w.heap.size+1;omega)).trans (by simp)
   have h7:wr.frozen? ⟨w.heap.size,7,none⟩=false:=(hbr.frozen (p:=⟨w.heap.size,7,none⟩) (by show w.heap.size<w.heap.size+1;omega)).trans (by simp)
   have hwl:w.heap.size<wr.heap.size:=by omega
   have hne:w.heap.size≠wr.heap.size:=by omega
   go_wp2
   refine bodyPost_ret (v:=.tuple #[zeroP,.bool false]) ?_ rfl ?_
   ·simp [results,Tryz.results85,go_sem, *]
   ·refine ⟨.inl ⟨by rw [HE.out];decide,rfl⟩,?_⟩
    have kwa:Below w.heap.size w (wr.alloc (.cells #[.int .i64 0,.int .i64 0,.int .i64 0,.int .u64 0,.int .u64 0,.int .u64 0,.int .u64 0,.int .i64 0] 63)):=kwr.alloc (by omega) _
    clear kwa
    repeat (first | with_reducible exact kwr | with_reducible refine Below.setCell ?_ ?_ _ | with_reducible refine Below.alloc ?_ ?_ _)
    all_goals first | (simp;done) | (simp;omega)
abbrev zeroW:Value:=.agg #[.int .i64 0,.int .u64 0,.int .u64 0,.int .u64 0,.int .u64 0,.bool false]
set_option maxHeartbeats 3200000 in
set_option maxRecDepth 100000 in
theorem findW_any (l:List WantD) (id:Int) (A:Option Addr) (n c:Nat) (w:World) (hn:n=l.length) (hl:n≤1000) (hr:Recs 6 cellsW w w.heap.size A l) :
  Calls Tryz.prog 178 #[.slice A n c,.int .i64 id,.func (.func 43) #[] #[]] w (FindTo aggW zeroW WantD.pod l id w):=by
 have HR:=Lib.hid hr
 have HN:=Lib.hid hn
 clear hr hn
 have b00:Below w.heap.size w (w.alloc (.cells #[.int .i64 0,.int .u64 0,.int .u64 0,.int .u64 0,.int .u64 0,.bool false] 65)):=(Below.refl _ _).alloc (Nat.le_refl _) _
 go_enter Tryz.func178,Tryz.ntmps178
 go_wp2
 go_loopw [13] (FRel WantD.pod id l (w.alloc (.cells #[.int .i64 0,.int .u64 0,.int .u64 0,.int .u64 0,.int .u64 0,.bool false] 65)) (w.heap.size+1)) (fun i _=>n - (intOf i).toNat)
 case atStart=>exact ⟨0,by omega,rfl,rfl,Below.refl _ _⟩
 case round =>
  obtain ⟨k,hk,rfl,hp,hbr⟩:=hrel
  have HP:=Lib.hid hp
  have hzr:w.heap.size+1≤wr.heap.size:=by have:=hbr.size;simpa using this
  have kwr:Below w.heap.size w wr:=b00.trans (hbr.mono (by omega))
  clear hp
  by_cases hlt:k<n
  ·have hkl:k<l.length:=by have:=HN.out;omega
   obtain ⟨b,o,rfl,hb,he⟩:=HR.out.at hkl
   generalize hx:l[k]=x at *
   have HX:=Lib.hid hx
   clear hx
   have e0:wr.cell? ⟨b,o+k * 6,none⟩=some (.int .i64 x.pod):=(kwr.cell (p:=⟨b,o+k * 6,none⟩) hb).trans (he 0 _ rfl)
   have e1:wr.cell? ⟨b,o+k * 6+1,none⟩=some (.int .u64 x.req.a):=(kwr.cell (p:=⟨b,o+k * 6+1,none⟩) hb).trans (he 1 _ rfl)
   have e2:wr.cell? ⟨b,o+k * 6+2,none⟩=some (.int .u64 x.req.b):=(kwr.cell (p:=⟨b,o+k * 6+2,none⟩) hb).trans (he 2 _ rfl)
   have e3:wr.cell? ⟨b,o+k * 6+3,none⟩=some (.int .u64 x.req.c):=(kwr.cell (p:=⟨b,o+k * 6+3,none⟩) hb).trans (he 3 _ rfl)
   have e4:wr.cell? ⟨b,o+k * 6+4,none⟩=some (.int .u64 x.req.d):=(kwr.cell (p:=⟨b,o+k * 6+4,none⟩) hb).trans (he 4 _ rfl)
   have e5:wr.cell? ⟨b,o+k * 6+5,none⟩=some (.bool x.stay):=(kwr.cell (p:=⟨b,o+k * 6+5,none⟩) hb).trans (he 5 _ rfl)
   have hbw:b<wr.heap.size:=by omega
   clear he
   go_wp2_with fail
   refine (idW_any x _).mono ?_
   rintro e w2 ⟨rfl,hb2⟩
   have k1:Below (w.heap.size+1) (w.alloc (.cells #[.int .i64 0,.int .u64 0,.int .u64 0,.int .u64 0,.int .u64 0,.bool false] 65)) (wr.alloc (.cells #[.int .i64 x.pod,.int .u64 x.req.a,.int .u64 x.req.b,.int .u64 x.req.c,.int .u64 x.req.d,.bool x.stay] 65)):=hbr.alloc hzr _
   have k2:Below (w.heap.size+1) (w.alloc (.cells #[.int .i64 0,.int .u64 0,.int .u64 0,.int .u64 0,.int .u64 0,.bool false] 65)) w2:=k1.trans (hb2.mono (by simp;omega))
   have kw2:Below w.heap.size w w2:=b00.trans (k2.mono (by omega))
   clear e0 e1 e2 e3 e4 e5
   by_cases hid:x.pod=id
   ·have HE:=Lib.hid (place_found hkl (by rw [HX.out];exact hid) HP.out)
    subst hid
    have f0:w2.cell? ⟨wr.heap.size,0,none⟩=some (.int .i64 x.pod):=(hb2.cell (p:=⟨wr.heap.size,0,none⟩) (by simp)).trans (by simp)
    have f1:w2.cell? ⟨wr.heap.size,1,none⟩=some (.int .u64 x.req.a):=(hb2.cell (p:=⟨wr.heap.size,1,none⟩) (by simp)).trans (by simp)
    have f2:w2.cell? ⟨wr.heap.size,2,none⟩=some (.int .u64 x.req.b):=(hb2.cell (p:=⟨wr.heap.size,2,none⟩) (by simp)).trans (by simp)
    have f3:w2.cell? ⟨wr.heap.size,3,none⟩=some (.int .u64 x.req.c):=(hb2.cell (p:=⟨wr.heap.size,3,none⟩) (by simp)).trans (by simp)
    have f4:w2.cell? ⟨wr.heap.size,4,none⟩=some (.int .u64 x.req.d):=(hb2.cell (p:=⟨wr.heap.size,4,none⟩) (by simp)).trans (by simp)
    have f5:w2.cell? ⟨wr.heap.size,5,none⟩=some (.bool x.stay):=(hb2.cell (p:=⟨wr.heap.size,5,none⟩) (by simp)).trans (by simp)
    have g0:w2.cell? ⟨w.heap.size,0,none⟩=some (.int .i64 0):=(k2.cell (p:=⟨w.heap.size,0,none⟩) (by show w.heap.size<w.heap.size+1;omega)).trans (by simp)
    have h0:w2.frozen? ⟨w.heap.size,0,none⟩=false:=(k2.frozen (p:=⟨w.heap.size,0,none⟩) (by show w.heap.size<w.heap.size+1;omega)).trans (by simp)
    have g1:w2.cell? ⟨w.heap.size,1,none⟩=some (.int .u64 0):=(k2.cell (p:=⟨w.heap.size,1,none⟩) (by show w.heap.size<w.heap.size+1;omega)).trans (by simp)
    have h1:w2.frozen? ⟨w.heap.size,1,none⟩=false:=(k2.frozen (p:=⟨w.heap.size,1,none⟩) (by show w.heap.size<w.heap.size+1;omega)).trans (by simp)
    have g2:w2.cell? ⟨w.heap.size,2,none⟩=some (.int .u64 0):=(k2.cell (p:=⟨w.heap.size,2,none⟩) (by show w.heap.size<w.heap.size+1;omega)).trans (by simp)
    have h2:w2.frozen? ⟨w.heap.size,2,none⟩=false:=(k2.frozen (p:=⟨w.heap.size,2,none⟩) (by show w.heap.size<w.heap.size+1;omega)).trans (by simp)
    have g3:w2.cell? ⟨w.heap.size,3,none⟩=some (.int .u64 0):=(k2.cell (p:=⟨w.heap.size,3,none⟩) (by show w.heap.size<w.heap.size+1;omega)).trans (by simp)
    have h3:w2.frozen? ⟨w.heap.size,3,none⟩=false:=(k2.frozen (p:=⟨w.heap.size,3,none⟩) (by show w.heap.size<w.heap.size+1;omega)).trans (by simp)
    have g4:w2.cell? ⟨w.heap.size,4,none⟩=some (.int .u64 0):=(k2.cell (p:=⟨w.heap.size,4,none⟩) (by show w.heap.size<w.heap.size+1;omega)).trans (by simp)
    have h4:w2.frozen? ⟨w.heap.size,4,none⟩=false:=(k2.frozen (p:=⟨w.heap.size,4,none⟩) (by show w.heap.size<w.heap.size+1;omega)).trans (by simp)
    have g5:w2.cell? ⟨w.heap.size,5,none⟩=some (.bool false):=(k2.cell (p:=⟨w.heap.size,5,none⟩) (by show w.heap.size<w.heap.size+1;omega)).trans (by simp)
    have h5:w2.frozen? ⟨w.heap.size,5,none⟩=false:=(k2.frozen (p:=⟨w.heap.size,5,none⟩) (by show w.heap.size<w.heap.size+1;omega)).trans (by simp)
    go_wp2
    refine bodyPost_ret (v:=.tuple #[aggW x,.bool true]) ?_ rfl ?_
    ·simp [results,Tryz.results178,go_sem, *]
    ·refine ⟨.inr ⟨k,hkl,HE.out,by rw [HX.out]⟩,?_⟩
     repeat (first | with_reducible exact kw2 | with_reducible refine Below.setCell ?_ ?_ _)
     all_goals exact Nat.le_refl _
   ·have HE:=Lib.hid (place_step hkl (by rw [HX.out];exact hid) HP.out)
    go_wp2
    go_roundw
    case rel=>exact ⟨k+1,by omega,by go_num,HE.out,k2⟩
    case measure=>simp [intOf];omega
  ·have HE:=Lib.hid (place_end (by have:=HN.out;omega) HP.out)
   have g0:wr.cell? ⟨w.heap.size,0,none⟩=some (.int .i64 0):=(hbr.cell (p:=⟨w.heap.size,0,none⟩) (by show w.heap.size<w.heap.size+1;omega)).trans (by simp)
   have h0:wr.frozen? ⟨w.heap.size,0,none⟩=false:=(hbr.frozen (p:=⟨w.heap.size,0,none⟩) (by show w.heap.size<w.heap.size+1;omega)).trans (by simp)
   have g1:wr.cell? ⟨w.heap.size,1,none⟩=some (.int .u64 0):=(hbr.cell (p:=⟨w.heap.size,1,none⟩) (by show w.heap.size<w.heap.size+1;omega)).trans (by simp)
   have h1:wr.frozen? ⟨w.heap.size,1,none⟩=false:=(hbr.frozen (p:=⟨w.heap.size,1,none⟩) (by show w.heap.size<w.heap.size+1;omega)).trans (by simp)
   have g2:wr.cell? ⟨w.heap.size,2,none⟩=some (.int .u64 0):=(hbr.cell (p:=⟨w.heap.size,2,none⟩) (by show w.heap.size<w.heap.size+1;omega)).trans (by simp)
   have h2:wr.frozen? ⟨w.heap.size,2,none⟩=false:=(hbr.frozen (p:=⟨w.heap.size,2,none⟩) (by show w.heap.size<w.heap.size+1;omega)).trans (by simp)
   have g3:wr.cell? ⟨w.heap.size,3,none⟩=some (.int .u64 0):=(hbr.cell (p:=⟨w.heap.size,3,none⟩) (by show w.heap.size<w.heap.size+1;omega)).trans (by simp)
   have h3:wr.frozen? ⟨w.heap.size,3,none⟩=false:=(hbr.frozen (p:=⟨w.heap.size,3,none⟩) (by show w.heap.size<w.heap.size+1;omega)).trans (by simp)
   have g4:wr.cell? ⟨w.heap.size,4,none⟩=some (.int .u64 0):=(hbr.cell (p:=⟨w.heap.size,4,none⟩) (by show w.heap.size<w.heap.size+1;omega)).trans (by simp)
   have h4:wr.frozen? ⟨w.heap.size,4,none⟩=false:=(hbr.frozen (p:=⟨w.heap.size,4,none⟩) (by show w.heap.size<w.heap.size+1;omega)).trans (by simp)
   have g5:wr.cell? ⟨w.heap.size,5,none⟩=some (.bool false):=(hbr.cell (p:=⟨w.heap.size,5,none⟩) (by show w.heap.size<w.heap.size+1;omega)).trans (by simp)
   have h5:wr.frozen? ⟨w.heap.size,5,none⟩=false:=(hbr.frozen (p:=⟨w.heap.size,5,none⟩) (by show w.heap.size<w.heap.size+1;omega)).trans (by simp)
   have hwl:w.heap.size<wr.heap.size:=by omega
   have hne:w.heap.size≠wr.heap.size:=by omega
   go_wp2
   refine bodyPost_ret (v:=.tuple #[zeroW,.bool false]) ?_ rfl ?_
   ·simp [results,Tryz.results178,go_sem, *]
   ·refine ⟨.inl ⟨by rw [HE.out];decide,rfl⟩,?_⟩
    have kwa:Below w.heap.size w (wr.alloc (.cells #[.int .i64 0,.int .u64 0,.int .u64 0,.int .u64 0,.int .u64 0,.bool false] 65)):=kwr.alloc (by omega) _
    clear kwa
    repeat (first | with_reducible exact kwr | with_reducible refine Below.setCell ?_ ?_ _ | with_reducible refine Below.alloc ?_ ?_ _)
    all_goals first | (simp;done) | (simp;omega)
set_option maxHeartbeats 3200000 in
set_option maxRecDepth 100000 in
theorem node_any (l:List NodeD) (id:Int) (A:Option Addr) (n c:Nat) (v2 v3:Value) (w:World) (hn:n=l.length) (hl:n≤1000) (hr:Recs 10 cellsN w w.heap.size A l) :
  Calls Tryz.prog 120 #[.agg #[.slice A n c,v2,v3],.int .i64 id] w (FindTo aggN zeroN NodeD.id l id w):=by
 have b00:=below_two w (.cells #[.slice A n c,v2,v3] 26) (.cells #[.int .i64 0,.int .i64 0,.int .u64 0,.int .u64 0,.int .u64 0,.int .u64 0,.int .u64 0,.int .u64 0,.int .u64 0,.int .u64 0] 59)
 have HF:=Lib.hid (findN_any l id A n c ((w.alloc (.cells #[.slice A n c,v2,v3] 26)).alloc (.cells #[.int .i64 0,.int .i64 0,.int .u64 0,.int .u64 0,.int .u64 0,.int .u64 0,.int .u64 0,.int .u64 0,.int .u64 0,.int .u64 0] 59)) hn hl ((hr.below b00 (Nat.le_refl _)).more b00.size))
 clear hr hn
 go_enter Tryz.func120,Tryz.ntmps120
 go_wp2_with fail
 refine HF.out.mono ?_
 rintro e w1 ⟨hh,hb1⟩
 have kw1:Below w.heap.size w w1:=b00.trans (hb1.mono b00.size)
 have g0:w1.cell? ⟨w.heap.size+1,0,none⟩=some (.int .i64 0):=(hb1.cell (p:=⟨w.heap.size+1,0,none⟩) (by simp)).trans (by simp)
 have h0:w1.frozen? ⟨w.heap.size+1,0,none⟩=false:=(hb1.frozen (p:=⟨w.heap.size+1,0,none⟩) (by simp)).trans (by simp)
 have g1:w1.cell? ⟨w.heap.size+1,1,none⟩=some (.int .i64 0):=(hb1.cell (p:=⟨w.heap.size+1,1,none⟩) (by simp)).trans (by simp)
 have h1:w1.frozen? ⟨w.heap.size+1,1,none⟩=false:=(hb1.frozen (p:=⟨w.heap.size+1,1,none⟩) (by simp)).trans (by simp)
 have g2:w1.cell? ⟨w.heap.size+1,2,none⟩=some (.int .u64 0):=(hb1.cell (p:=⟨w.heap.size+1,2,none⟩) (by simp)).trans (by simp)
 have h2:w1.frozen? ⟨w.heap.size+1,2,none⟩=false:=(hb1.frozen (p:=⟨w.heap.size+1,2,none⟩) (by simp)).trans (by simp)
 have g3:w1.cell? ⟨w.heap.size+1,3,none⟩=some (.int .u64 0):=(hb1.cell (p:=⟨w.heap.size+1,3,none⟩) (by simp)).trans (by simp)
 have h3:w1.frozen? ⟨w.heap.size+1,3,none⟩=false:=(hb1.frozen (p:=⟨w.heap.size+1,3,none⟩) (by simp)).trans (by simp)
 have g4:w1.cell? ⟨w.heap.size+1,4,none⟩=some (.int .u64 0):=(hb1.cell (p:=⟨w.heap.size+1,4,none⟩) (by simp)).trans (by simp)
 have h4:w1.frozen? ⟨w.heap.size+1,4,none⟩=false:=(hb1.frozen (p:=⟨w.heap.size+1,4,none⟩) (by simp)).trans (by simp)
 have g5:w1.cell? ⟨w.heap.size+1,5,none⟩=some (.int .u64 0):=(hb1.cell (p:=⟨w.heap.size+1,5,none⟩) (by simp)).trans (by simp)
 have h5:w1.frozen? ⟨w.heap.size+1,5,none⟩=false:=(hb1.frozen (p:=⟨w.heap.size+1,5,none⟩) (by simp)).trans (by simp)
 have g6:w1.cell? ⟨w.heap.size+1,6,none⟩=some (.int .u64 0):=(hb1.cell (p:=⟨w.heap.size+1,6,none⟩) (by simp)).trans (by simp)
 have h6:w1.frozen? ⟨w.heap.size+1,6,none⟩=false:=(hb1.frozen (p:=⟨w.heap.size+1,6,none⟩) (by simp)).trans (by simp)
 have g7:w1.cell? ⟨w.heap.size+1,7,none⟩=some (.int .u64 0):=(hb1.cell (p:=⟨w.heap.size+1,7,none⟩) (by simp)).trans (by simp)
 have h7:w1.frozen? ⟨w.heap.size+1,7,none⟩=false:=(hb1.frozen (p:=⟨w.heap.size+1,7,none⟩) (by simp)).trans (by simp)
 have g8:w1.cell? ⟨w.heap.size+1,8,none⟩=some (.int .u64 0):=(hb1.cell (p:=⟨w.heap.size+1,8,none⟩) (by simp)).trans (by simp)
 have h8:w1.frozen? ⟨w.heap.size+1,8,none⟩=false:=(hb1.frozen (p:=⟨w.heap.size+1,8,none⟩) (by simp)).trans (by simp)
 have g9:w1.cell? ⟨w.heap.size+1,9,none⟩=some (.int .u64 0):=(hb1.cell (p:=⟨w.heap.size+1,9,none⟩) (by simp)).trans (by simp)
 have h9:w1.frozen? ⟨w.heap.size+1,9,none⟩=false:=(hb1.frozen (p:=⟨w.heap.size+1,9,none⟩) (by simp)).trans (by simp)
 rcases hh with ⟨hp,rfl⟩ | ⟨i,hi,hp,rfl⟩
 ·have HP:=Lib.hid hp
  clear hp
  go_wp2
  refine bodyPost_ret (v:=.tuple #[zeroN,.bool false]) ?_ rfl ?_
  ·simp [results,Tryz.results120,go_sem, *]
  ·refine ⟨.inl ⟨HP.out,rfl⟩,?_⟩
   repeat (first | with_reducible exact kw1 | with_reducible refine Below.setCell ?_ ?_ _)
   all_goals (show w.heap.size≤w.heap.size+1;omega)
 ·have HP:=Lib.hid hp
  clear hp
  generalize hx:l[i]=x at *
  have HX:=Lib.hid hx
  clear hx
  go_wp2
  refine bodyPost_ret (v:=.tuple #[aggN x,.bool true]) ?_ rfl ?_
  ·simp [results,Tryz.results120,go_sem, *]
  ·refine ⟨.inr ⟨i,hi,HP.out,by rw [HX.out]⟩,?_⟩
   repeat (first | with_reducible exact kw1 | with_reducible refine Below.setCell ?_ ?_ _)
   all_goals (show w.heap.size≤w.heap.size+1;omega)

set_option maxHeartbeats 3200000 in
set_option maxRecDepth 100000 in
theorem load_any (l:List LoadD) (id:Int) (A:Option Addr) (n c:Nat) (v1 v3:Value) (w:World) (hn:n=l.length) (hl:n≤1000) (hr:Recs 5 cellsL w w.heap.size A l) :
  Calls Tryz.prog 119 #[.agg #[v1,.slice A n c,v3],.int .i64 id] w (FindTo aggL zeroL LoadD.id l id w):=by
 have b00:=below_two w (.cells #[v1,.slice A n c,v3] 26) (.cells #[.int .i64 0,.bool false,.int .i64 0,.int .i64 0,.int .i64 0] 61)
 have HF:=Lib.hid (findL_any l id A n c ((w.alloc (.cells #[v1,.slice A n c,v3] 26)).alloc (.cells #[.int .i64 0,.bool false,.int .i64 0,.int .i64 0,.int .i64 0] 61)) hn hl ((hr.below b00 (Nat.le_refl _)).more b00.size))
 clear hr hn
 go_enter Tryz.func119,Tryz.ntmps119
 go_wp2_with fail
 refine HF.out.mono ?_
 rintro e w1 ⟨hh,hb1⟩
 have kw1:Below w.heap.size w w1:=b00.trans (hb1.mono b00.size)
 have g0:w1.cell? ⟨w.heap.size+1,0,none⟩=some (.int .i64 0):=(hb1.cell (p:=⟨w.heap.size+1,0,none⟩) (by simp)).trans (by simp)
 have h0:w1.frozen? ⟨w.heap.size+1,0,none⟩=false:=(hb1.frozen (p:=⟨w.heap.size+1,0,none⟩) (by simp)).trans (by simp)
 have g1:w1.cell? ⟨w.heap.size+1,1,none⟩=some (.bool false):=(hb1.cell (p:=⟨w.heap.size+1,1,none⟩) (by simp)).trans (by simp)
 have h1:w1.frozen? ⟨w.heap.size+1,1,none⟩=false:=(hb1.frozen (p:=⟨w.heap.size+1,1,none⟩) (by simp)).trans (by simp)
 have g2:w1.cell? ⟨w.heap.size+1,2,none⟩=some (.int .i64 0):=(hb1.cell (p:=⟨w.heap.size+1,2,none⟩) (by simp)).trans (by simp)
 have h2:w1.frozen? ⟨w.heap.size+1,2,none⟩=false:=(hb1.frozen (p:=⟨w.heap.size+1,2,none⟩) (by simp)).trans (by simp)
 have g3:w1.cell? ⟨w.heap.size+1,3,none⟩=some (.int .i64 0):=(hb1.cell (p:=⟨w.heap.size+1,3,none⟩) (by simp)).trans (by simp)
 have h3:w1.frozen? ⟨w.heap.size+1,3,none⟩=false:=(hb1.frozen (p:=⟨w.heap.size+1,3,none⟩) (by simp)).trans (by simp)
 have g4:w1.cell? ⟨w.heap.size+1,4,none⟩=some (.int .i64 0):=(hb1.cell (p:=⟨w.heap.size+1,4,none⟩) (by simp)).trans (by simp)
 have h4:w1.frozen? ⟨w.heap.size+1,4,none⟩=false:=(hb1.frozen (p:=⟨w.heap.size+1,4,none⟩) (by simp)).trans (by simp)
 rcases hh with ⟨hp,rfl⟩ | ⟨i,hi,hp,rfl⟩
 ·have HP:=Lib.hid hp
  clear hp
  go_wp2
  refine bodyPost_ret (v:=.tuple #[zeroL,.bool false]) ?_ rfl ?_
  ·simp [results,Tryz.results119,go_sem, *]
  ·refine ⟨.inl ⟨HP.out,rfl⟩,?_⟩
   repeat (first | with_reducible exact kw1 | with_reducible refine Below.setCell ?_ ?_ _)
   all_goals (show w.heap.size≤w.heap.size+1;omega)
 ·have HP:=Lib.hid hp
  clear hp
  generalize hx:l[i]=x at *
  have HX:=Lib.hid hx
  clear hx
  go_wp2
  refine bodyPost_ret (v:=.tuple #[aggL x,.bool true]) ?_ rfl ?_
  ·simp [results,Tryz.results119,go_sem, *]
  ·refine ⟨.inr ⟨i,hi,HP.out,by rw [HX.out]⟩,?_⟩
   repeat (first | with_reducible exact kw1 | with_reducible refine Below.setCell ?_ ?_ _)
   all_goals (show w.heap.size≤w.heap.size+1;omega)

set_option maxHeartbeats 3200000 in
set_option maxRecDepth 100000 in
theorem want_any (l:List WantD) (id:Int) (A:Option Addr) (n c:Nat) (v2 v3:Value) (w:World) (hn:n=l.length) (hl:n≤1000) (hr:Recs 6 cellsW w w.heap.size A l) :
  Calls Tryz.prog 164 #[.agg #[.slice A n c,v2,v3],.int .i64 id] w (FindTo aggW zeroW WantD.pod l id w):=by
 have b00:=below_two w (.cells #[.slice A n c,v2,v3] 29) (.cells #[.int .i64 0,.int .u64 0,.int .u64 0,.int .u64 0,.int .u64 0,.bool false] 65)
 have HF:=Lib.hid (findW_any l id A n c ((w.alloc (.cells #[.slice A n c,v2,v3] 29)).alloc (.cells #[.int .i64 0,.int .u64 0,.int .u64 0,.int .u64 0,.int .u64 0,.bool false] 65)) hn hl ((hr.below b00 (Nat.le_refl _)).more b00.size))
 clear hr hn
 go_enter Tryz.func164,Tryz.ntmps164
 go_wp2_with fail
 refine HF.out.mono ?_
 rintro e w1 ⟨hh,hb1⟩
 have kw1:Below w.heap.size w w1:=b00.trans (hb1.mono b00.size)
 have g0:w1.cell? ⟨w.heap.size+1,0,none⟩=some (.int .i64 0):=(hb1.cell (p:=⟨w.heap.size+1,0,none⟩) (by simp)).trans (by simp)
 have h0:w1.frozen? ⟨w.heap.size+1,0,none⟩=false:=(hb1.frozen (p:=⟨w.heap.size+1,0,none⟩) (by simp)).trans (by simp)
 have g1:w1.cell? ⟨w.heap.size+1,1,none⟩=some (.int .u64 0):=(hb1.cell (p:=⟨w.heap.size+1,1,none⟩) (by simp)).trans (by simp)
 have h1:w1.frozen? ⟨w.heap.size+1,1,none⟩=false:=(hb1.frozen (p:=⟨w.heap.size+1,1,none⟩) (by simp)).trans (by simp)
 have g2:w1.cell? ⟨w.heap.size+1,2,none⟩=some (.int .u64 0):=(hb1.cell (p:=⟨w.heap.size+1,2,none⟩) (by simp)).trans (by simp)
 have h2:w1.frozen? ⟨w.heap.size+1,2,none⟩=false:=(hb1.frozen (p:=⟨w.heap.size+1,2,none⟩) (by simp)).trans (by simp)
 have g3:w1.cell? ⟨w.heap.size+1,3,none⟩=some (.int .u64 0):=(hb1.cell (p:=⟨w.heap.size+1,3,none⟩) (by simp)).trans (by simp)
 have h3:w1.frozen? ⟨w.heap.size+1,3,none⟩=false:=(hb1.frozen (p:=⟨w.heap.size+1,3,none⟩) (by simp)).trans (by simp)
 have g4:w1.cell? ⟨w.heap.size+1,4,none⟩=some (.int .u64 0):=(hb1.cell (p:=⟨w.heap.size+1,4,none⟩) (by simp)).trans (by simp)
 have h4:w1.frozen? ⟨w.heap.size+1,4,none⟩=false:=(hb1.frozen (p:=⟨w.heap.size+1,4,none⟩) (by simp)).trans (by simp)
 have g5:w1.cell? ⟨w.heap.size+1,5,none⟩=some (.bool false):=(hb1.cell (p:=⟨w.heap.size+1,5,none⟩) (by simp)).trans (by simp)
 have h5:w1.frozen? ⟨w.heap.size+1,5,none⟩=false:=(hb1.frozen (p:=⟨w.heap.size+1,5,none⟩) (by simp)).trans (by simp)
 rcases hh with ⟨hp,rfl⟩ | ⟨i,hi,hp,rfl⟩
 ·have HP:=Lib.hid hp
  clear hp
  go_wp2
  refine bodyPost_ret (v:=.tuple #[zeroW,.bool false]) ?_ rfl ?_
  ·simp [results,Tryz.results164,go_sem, *]
  ·refine ⟨.inl ⟨HP.out,rfl⟩,?_⟩
   repeat (first | with_reducible exact kw1 | with_reducible refine Below.setCell ?_ ?_ _)
   all_goals (show w.heap.size≤w.heap.size+1;omega)
 ·have HP:=Lib.hid hp
  clear hp
  generalize hx:l[i]=x at *
  have HX:=Lib.hid hx
  clear hx
  go_wp2
  refine bodyPost_ret (v:=.tuple #[aggW x,.bool true]) ?_ rfl ?_
  ·simp [results,Tryz.results164,go_sem, *]
  ·refine ⟨.inr ⟨i,hi,HP.out,by rw [HX.out]⟩,?_⟩
   repeat (first | with_reducible exact kw1 | with_reducible refine Below.setCell ?_ ?_ _)
   all_goals (show w.heap.size≤w.heap.size+1;omega)
theorem somewhere_any (x:PodD) (w:World):Calls Tryz.prog 72 #[aggP x] w fun e w'=>e=.returned (.bool (x.node != 0))∧Below w.heap.size w w':=by
 by_cases h:x.node=0
 ·have hd:(x.node != 0)=false:=by simp [h]
  go_enter Tryz.func72,Tryz.ntmps72
  go_wp2
  go_ret
  exact ⟨ret_bool (by simp [h]),(Below.refl _ _).alloc (Nat.le_refl _) _⟩
 ·have hd:(x.node != 0)=true:=by simp [h]
  go_enter Tryz.func72,Tryz.ntmps72
  go_wp2
  go_ret
  exact ⟨ret_bool (by simp [h]),(Below.refl _ _).alloc (Nat.le_refl _) _⟩
theorem placeClosure_any (x:PodD) (id:Int) (g:Nat) (w:World) (h0:w.cell? ⟨g,0,none⟩=some (.int .i64 id)) :
  Calls Tryz.prog 113 #[aggP x,.pointer (some ⟨g,0,none⟩)] w fun e w'=>e=.returned (.bool (x.id == id))∧Below w.heap.size w w':=by
 have hg:g<w.heap.size:=World.block_lt_of_cell? w _ h0
 go_enter Tryz.func113,Tryz.ntmps113
 go_wp2
 go_ret
 exact ⟨rfl,(Below.refl _ _).alloc (Nat.le_refl _) _⟩
set_option maxHeartbeats 3200000 in
set_option maxRecDepth 100000 in
theorem indexFunc_any (l:List PodD) (id:Int) (g:Nat) (A:Option Addr) (n c:Nat) (w:World) (hn:n=l.length) (hl:n≤1000) (hr:Recs 8 cellsP w w.heap.size A l) (h0:w.cell? ⟨g,0,none⟩=some (.int .i64 id)) :
  Calls Tryz.prog 112 #[.slice A n c,.func (.func 113) #[] #[.pointer (some ⟨g,0,none⟩)]] w fun e w'=>e=.returned (.int .i64 (place PodD.id id l 0))∧Below w.heap.size w w':=by
 have hg:g<w.heap.size:=World.block_lt_of_cell? w _ h0
 have HR:=Lib.hid hr
 have HN:=Lib.hid hn
 have H0:=Lib.hid h0
 clear hr hn h0
 go_enter Tryz.func112,Tryz.ntmps112
 go_wp2
 go_loopw [8] (FRel PodD.id id l w w.heap.size) (fun i _=>n - (intOf i).toNat)
 case atStart=>exact ⟨0,by omega,rfl,rfl,Below.refl _ _⟩
 case round =>
  obtain ⟨k,hk,rfl,hp,hbr⟩:=hrel
  have HP:=Lib.hid hp
  have hzr:=hbr.size
  clear hp
  by_cases hlt:k<n
  ·have hkl:k<l.length:=by have:=HN.out;omega
   obtain ⟨b,o,rfl,hb,he⟩:=HR.out.at hkl
   generalize hx:l[k]=x at *
   have HX:=Lib.hid hx
   clear hx
   have e0:wr.cell? ⟨b,o+k * 8,none⟩=some (.int .i64 x.id):=(hbr.cell (p:=⟨b,o+k * 8,none⟩) hb).trans (he 0 _ rfl)
   have e1:wr.cell? ⟨b,o+k * 8+1,none⟩=some (.int .i64 x.load):=(hbr.cell (p:=⟨b,o+k * 8+1,none⟩) hb).trans (he 1 _ rfl)
   have e2:wr.cell? ⟨b,o+k * 8+2,none⟩=some (.int .i64 x.prio):=(hbr.cell (p:=⟨b,o+k * 8+2,none⟩) hb).trans (he 2 _ rfl)
   have e3:wr.cell? ⟨b,o+k * 8+3,none⟩=some (.int .u64 x.req.a):=(hbr.cell (p:=⟨b,o+k * 8+3,none⟩) hb).trans (he 3 _ rfl)
   have e4:wr.cell? ⟨b,o+k * 8+4,none⟩=some (.int .u64 x.req.b):=(hbr.cell (p:=⟨b,o+k * 8+4,none⟩) hb).trans (he 4 _ rfl)
   have e5:wr.cell? ⟨b,o+k * 8+5,none⟩=some (.int .u64 x.req.c):=(hbr.cell (p:=⟨b,o+k * 8+5,none⟩) hb).trans (he 5 _ rfl)
   have e6:wr.cell? ⟨b,o+k * 8+6,none⟩=some (.int .u64 x.req.d):=(hbr.cell (p:=⟨b,o+k * 8+6,none⟩) hb).trans (he 6 _ rfl)
   have e7:wr.cell? ⟨b,o+k * 8+7,none⟩=some (.int .i64 x.node):=(hbr.cell (p:=⟨b,o+k * 8+7,none⟩) hb).trans (he 7 _ rfl)
   have hbw:b<wr.heap.size:=by omega
   have hgc:wr.cell? ⟨g,0,none⟩=some (.int .i64 id):=(hbr.cell (p:=⟨g,0,none⟩) hg).trans H0.out
   clear he
   go_wp2_with fail
   go_at_call 113
   refine (placeClosure_any x id g _ hgc).mono ?_
   rintro e w1 ⟨rfl,hb1⟩
   have k1:Below w.heap.size w w1:=hbr.trans (hb1.mono hzr)
   by_cases hid:x.id=id
   ·have HE:=Lib.hid (place_found hkl (by rw [HX.out];exact hid) HP.out)
    have hd:(x.id == id)=true:=by simp [hid]
    clear hid
    go_wp2
    go_ret
    exact ⟨ret_int HE.out.symm,k1⟩
   ·have HE:=Lib.hid (place_step hkl (by rw [HX.out];exact hid) HP.out)
    have hd:(x.id == id)=false:=by simp [hid]
    clear hid
    go_wp2
    go_roundw
    case rel=>exact ⟨k+1,by omega,by go_num,HE.out,k1⟩
    case measure=>simp [intOf];omega
  ·have HE:=Lib.hid (place_end (by have:=HN.out;omega) HP.out)
   go_wp2
   go_ret
   exact ⟨ret_int HE.out.symm,hbr⟩
theorem place_any (l:List PodD) (id:Int) (A:Option Addr) (n c:Nat) (v1 v2:Value) (w:World) (hn:n=l.length) (hl:n≤1000) (hr:Recs 8 cellsP w w.heap.size A l) :
  Calls Tryz.prog 71 #[.agg #[.slice A n c,v1,v2],.int .i64 id] w fun e w'=>e=.returned (.int .i64 (place PodD.id id l 0))∧Below w.heap.size w w':=by
 have b00:=below_two w (.cells #[.slice A n c,v1,v2] 44) (.cells #[.int .i64 id] 3)
 have HF:=Lib.hid (indexFunc_any l id (w.heap.size+1) A n c ((w.alloc (.cells #[.slice A n c,v1,v2] 44)).alloc (.cells #[.int .i64 id] 3)) hn hl ((hr.below b00 (Nat.le_refl _)).more b00.size) (by simp))
 have hmf:∀ (fn:Fn) (first cap:Array Value) (w:World),(Instr.makeFunc fn first cap).run Tryz.prog w=.ok (.func fn first cap) w:=fun _ _ _ _=>rfl
 clear hr hn
 go_enter Tryz.func71,Tryz.ntmps71
 go_wp2_with fail
 refine HF.out.mono ?_
 rintro e w1 ⟨rfl,hb1⟩
 go_wp2
 go_ret
 exact ⟨rfl,b00.trans (hb1.mono b00.size)⟩
theorem place_hit {l:List PodD} {id:Int} (h:¬ place PodD.id id l 0<0):∃ i:Nat,i<l.length∧place PodD.id id l 0=i:=by
 have:=place_ge (f:=PodD.id) (id:=id) (l:=l) (k:=0) (by omega)
 exact ⟨(place PodD.id id l 0).toNat,by omega,by omega⟩
set_option maxHeartbeats 3200000 in
set_option maxRecDepth 100000 in
theorem statePod_any (l:List PodD) (id:Int) (A:Option Addr) (n c:Nat) (v1 v2:Value) (w:World) (hn:n=l.length) (hl:n≤1000) (hr:Recs 8 cellsP w w.heap.size A l) :
  Calls Tryz.prog 37 #[.agg #[.slice A n c,v1,v2],.int .i64 id] w (FindTo aggP zeroP PodD.id l id w):=by
 have b00:=below_two w (.cells #[.slice A n c,v1,v2] 44) (.cells #[.int .i64 0,.int .i64 0,.int .i64 0,.int .u64 0,.int .u64 0,.int .u64 0,.int .u64 0,.int .i64 0] 63)
 have HF:=Lib.hid (place_any l id A n c v1 v2 ((w.alloc (.cells #[.slice A n c,v1,v2] 44)).alloc (.cells #[.int .i64 0,.int .i64 0,.int .i64 0,.int .u64 0,.int .u64 0,.int .u64 0,.int .u64 0,.int .i64 0] 63)) hn hl ((hr.below b00 (Nat.le_refl _)).more b00.size))
 have HR:=Lib.hid hr
 have HN:=Lib.hid hn
 clear hr hn
 go_enter Tryz.func37,Tryz.ntmps37
 go_wp2_with fail
 refine HF.out.mono ?_
 rintro e w1 ⟨rfl,hb1⟩
 have kw1:Below w.heap.size w w1:=b00.trans (hb1.mono b00.size)
 have hz1:w.heap.size+2≤w1.heap.size:=by have:=hb1.size;simpa using this
 have b0:w1.cell? ⟨w.heap.size,0,none⟩=some (.slice A n c):=(hb1.cell (p:=⟨w.heap.size,0,none⟩) (by simp;omega)).trans (by simp)
 have b1:w1.cell? ⟨w.heap.size,1,none⟩=some v1:=(hb1.cell (p:=⟨w.heap.size,1,none⟩) (by simp;omega)).trans (by simp)
 have b2:w1.cell? ⟨w.heap.size,2,none⟩=some v2:=(hb1.cell (p:=⟨w.heap.size,2,none⟩) (by simp;omega)).trans (by simp)
 have g0:w1.cell? ⟨w.heap.size+1,0,none⟩=some (.int .i64 0):=(hb1.cell (p:=⟨w.heap.size+1,0,none⟩) (by simp)).trans (by simp)
 have h0:w1.frozen? ⟨w.heap.size+1,0,none⟩=false:=(hb1.frozen (p:=⟨w.heap.size+1,0,none⟩) (by simp)).trans (by simp)
 have g1:w1.cell? ⟨w.heap.size+1,1,none⟩=some (.int .i64 0):=(hb1.cell (p:=⟨w.heap.size+1,1,none⟩) (by simp)).trans (by simp)
 have h1:w1.frozen? ⟨w.heap.size+1,1,none⟩=false:=(hb1.frozen (p:=⟨w.heap.size+1,1,none⟩) (by simp)).trans (by simp)
 have g2:w1.cell? ⟨w.heap.size+1,2,none⟩=some (.int .i64 0):=(hb1.cell (p:=⟨w.heap.size+1,2,none⟩) (by simp)).trans (by simp)
 have h2:w1.frozen? ⟨w.heap.size+1,2,none⟩=false:=(hb1.frozen (p:=⟨w.heap.size+1,2,none⟩) (by simp)).trans (by simp)
 have g3:w1.cell? ⟨w.heap.size+1,3,none⟩=some (.int .u64 0):=(hb1.cell (p:=⟨w.heap.size+1,3,none⟩) (by simp)).trans (by simp)
 have h3:w1.frozen? ⟨w.heap.size+1,3,none⟩=false:=(hb1.frozen (p:=⟨w.heap.size+1,3,none⟩) (by simp)).trans (by simp)
 have g4:w1.cell? ⟨w.heap.size+1,4,none⟩=some (.int .u64 0):=(hb1.cell (p:=⟨w.heap.size+1,4,none⟩) (by simp)).trans (by simp)
 have h4:w1.frozen? ⟨w.heap.size+1,4,none⟩=false:=(hb1.frozen (p:=⟨w.heap.size+1,4,none⟩) (by simp)).trans (by simp)
 have g5:w1.cell? ⟨w.heap.size+1,5,none⟩=some (.int .u64 0):=(hb1.cell (p:=⟨w.heap.size+1,5,none⟩) (by simp)).trans (by simp)
 have h5:w1.frozen? ⟨w.heap.size+1,5,none⟩=false:=(hb1.frozen (p:=⟨w.heap.size+1,5,none⟩) (by simp)).trans (by simp)
 have g6:w1.cell? ⟨w.heap.size+1,6,none⟩=some (.int .u64 0):=(hb1.cell (p:=⟨w.heap.size+1,6,none⟩) (by simp)).trans (by simp)
 have h6:w1.frozen? ⟨w.heap.size+1,6,none⟩=false:=(hb1.frozen (p:=⟨w.heap.size+1,6,none⟩) (by simp)).trans (by simp)
 have g7:w1.cell? ⟨w.heap.size+1,7,none⟩=some (.int .i64 0):=(hb1.cell (p:=⟨w.heap.size+1,7,none⟩) (by simp)).trans (by simp)
 have h7:w1.frozen? ⟨w.heap.size+1,7,none⟩=false:=(hb1.frozen (p:=⟨w.heap.size+1,7,none⟩) (by simp)).trans (by simp)
 by_cases hp:place PodD.id id l 0<0
 ·have HP:=Lib.hid hp
  have hd:decide (place PodD.id id l 0<0)=true:=decide_eq_true hp
  clear hp
  go_wp2
  refine bodyPost_ret (v:=.tuple #[zeroP,.bool false]) ?_ rfl ?_
  ·simp [results,Tryz.results37,go_sem, *]
  ·refine ⟨.inl ⟨HP.out,rfl⟩,?_⟩
   repeat (first | with_reducible exact kw1 | with_reducible refine Below.setCell ?_ ?_ _)
   all_goals (show w.heap.size≤w.heap.size+1;omega)
 ·obtain ⟨i,hi,hpi⟩:=place_hit hp
  clear hp
  obtain ⟨b,o,rfl,hb,he⟩:=HR.out.at hi
  have hin:i<n:=by have:=HN.out;omega
  have HP:=Lib.hid hpi
  rw [hpi]
  clear hpi
  generalize hx:l[i]=x at *
  have HX:=Lib.hid hx
  clear hx
  have e0:w1.cell? ⟨b,o+i * 8,none⟩=some (.int .i64 x.id):=(kw1.cell (p:=⟨b,o+i * 8,none⟩) hb).trans (he 0 _ rfl)
  have e1:w1.cell? ⟨b,o+i * 8+1,none⟩=some (.int .i64 x.load):=(kw1.cell (p:=⟨b,o+i * 8+1,none⟩) hb).trans (he 1 _ rfl)
  have e2:w1.cell? ⟨b,o+i * 8+2,none⟩=some (.int .i64 x.prio):=(kw1.cell (p:=⟨b,o+i * 8+2,none⟩) hb).trans (he 2 _ rfl)
  have e3:w1.cell? ⟨b,o+i * 8+3,none⟩=some (.int .u64 x.req.a):=(kw1.cell (p:=⟨b,o+i * 8+3,none⟩) hb).trans (he 3 _ rfl)
  have e4:w1.cell? ⟨b,o+i * 8+4,none⟩=some (.int .u64 x.req.b):=(kw1.cell (p:=⟨b,o+i * 8+4,none⟩) hb).trans (he 4 _ rfl)
  have e5:w1.cell? ⟨b,o+i * 8+5,none⟩=some (.int .u64 x.req.c):=(kw1.cell (p:=⟨b,o+i * 8+5,none⟩) hb).trans (he 5 _ rfl)
  have e6:w1.cell? ⟨b,o+i * 8+6,none⟩=some (.int .u64 x.req.d):=(kw1.cell (p:=⟨b,o+i * 8+6,none⟩) hb).trans (he 6 _ rfl)
  have e7:w1.cell? ⟨b,o+i * 8+7,none⟩=some (.int .i64 x.node):=(kw1.cell (p:=⟨b,o+i * 8+7,none⟩) hb).trans (he 7 _ rfl)
  have hbw:b<w1.heap.size:=by omega
  clear he
  go_wp2
  refine bodyPost_ret (v:=.tuple #[aggP x,.bool true]) ?_ rfl ?_
  ·simp [results,Tryz.results37,go_sem, *]
  ·refine ⟨.inr ⟨i,hi,HP.out,by rw [HX.out]⟩,?_⟩
   repeat (first | with_reducible exact kw1 | with_reducible refine Below.setCell ?_ ?_ _)
   all_goals (show w.heap.size≤w.heap.size+1;omega)
end Go.Proofs.YthapilknnhlmfaaGreatDoor
