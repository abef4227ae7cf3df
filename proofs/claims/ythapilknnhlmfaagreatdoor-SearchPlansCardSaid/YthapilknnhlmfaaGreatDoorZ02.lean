/- Joined texts, part 2: DA RO FM MC UA UO YO XO M LA A L FN FO HA P Q. -/
import Derived.Test.YthapilknnhlmfaaGreatDoorZ01
import Derived.Deep.QuietTactic
import Derived.BigQuiet
import Derived.Deep.RegionHeld3
import Derived.ChangeSame
import Derived.ChangeVars
import Derived.JoinedOf
import Derived.RowKit
import Derived.RowKitTokens
import Derived.Carry
import Derived.ChangeSlices
import Derived.KernelRfl
import Derived.Laws.BytesArg
import Derived.Laws.Strings
import Derived.Test.YthapilknnhlmfaaGreatDoorRows
import Derived.WalkKit
import Derived.WalkSpells
import Derived.WalkLawsBesides
import Derived.Lib.Hide
import Derived.OwnWalk
import Derived.Laws.AppendOwnNone
import Derived.Laws.BitsAllLaws
import Derived.Laws.Bits128
import Derived.Deep.AppendLies

namespace Go.Proofs.YthapilknnhlmfaaGreatDoor
set_option linter.unusedSimpArgs false
open Go.RowKit
set_option linter.unusedVariables false
def inB (n lo hi:Int):Bool:=decide (lo≤n∧n≤hi)
theorem within_any (n lo hi:Int) (w:World):Calls Tryz.prog 40 #[.int .i64 n,.int .i64 lo,.int .i64 hi] w fun e w'=>e=.returned (.bool (inB n lo hi))∧w=w':=by
 by_cases h1:lo≤n
 ·have hd1:decide (lo≤n)=true:=decide_eq_true h1
  by_cases h2:n≤hi
  ·have HE:=Lib.hid (show inB n lo hi=true by simp [inB,h1,h2])
   have hd:decide (n≤hi)=true:=decide_eq_true h2
   go_enter Tryz.func40,Tryz.ntmps40
   go_wp2
   go_ret
   exact ⟨ret_bool HE.out.symm,rfl⟩
  ·have HE:=Lib.hid (show inB n lo hi=false by simp [inB];omega)
   have hd:decide (n≤hi)=false:=decide_eq_false h2
   go_enter Tryz.func40,Tryz.ntmps40
   go_wp2
   go_ret
   exact ⟨ret_bool HE.out.symm,rfl⟩
 ·have HE:=Lib.hid (show inB n lo hi=false by simp [inB];omega)
  have hd:decide (lo≤n)=false:=decide_eq_false h1
  go_enter Tryz.func40,Tryz.ntmps40
  go_wp2
  go_ret
  exact ⟨ret_bool HE.out.symm,rfl⟩
theorem isCount_any (n:Int) (w:World):Calls Tryz.prog 117 #[.int .i64 n] w fun e w'=>e=.returned (.bool (countOk n))∧w=w':=by
 have HE:=Lib.hid (show inB n 0 100=countOk n from rfl)
 go_enter Tryz.func117,Tryz.ntmps117
 go_wp2_with fail
 refine (within_any _ _ _ _).mono ?_
 rintro e w' ⟨rfl,rfl⟩
 go_wp2
 go_ret
 exact ⟨ret_bool HE.out,rfl⟩
theorem isNaN_any (n:Int) (w:World):Calls Tryz.prog 121 #[.int .i64 n] w fun e w'=>e=.returned (.bool false)∧w=w':=by
 have hd:(n != n)=false:=by simp
 go_enter Tryz.func121,Tryz.ntmps121
 go_wp2
 go_ret
 exact ⟨rfl,rfl⟩
def cmpI (a b:Int):Int:=if a<b then -1 else if b<a then 1 else 0
theorem compare_any (a b:Int) (w:World):Calls Tryz.prog 84 #[.int .i64 a,.int .i64 b] w fun e w'=>e=.returned (.int .i64 (cmpI a b))∧w=w':=by
 by_cases h1:a<b
 ·have HE:=Lib.hid (show cmpI a b=-1 by simp [cmpI,h1])
  go_enter Tryz.func84,Tryz.ntmps84
  go_wp2_with (go_at_call 121;refine (isNaN_any _ _).mono ?_;rintro e w' ⟨rfl,rfl⟩)
  go_ret
  exact ⟨ret_int HE.out.symm,rfl⟩
 ·by_cases h2:b<a
  ·have HE:=Lib.hid (show cmpI a b=1 by simp [cmpI,h1,h2])
   go_enter Tryz.func84,Tryz.ntmps84
   go_wp2_with (go_at_call 121;refine (isNaN_any _ _).mono ?_;rintro e w' ⟨rfl,rfl⟩)
   go_ret
   exact ⟨ret_int HE.out.symm,rfl⟩
  ·have HE:=Lib.hid (show cmpI a b=0 by simp [cmpI,h1,h2])
   go_enter Tryz.func84,Tryz.ntmps84
   go_wp2_with (go_at_call 121;refine (isNaN_any _ _).mono ?_;rintro e w' ⟨rfl,rfl⟩)
   go_ret
   exact ⟨ret_int HE.out.symm,rfl⟩
def orI (a b:Int):Int:=if a=0 then b else a
theorem or_any (a b:Int) (g:Nat) (w:World) (h0:w.cell? ⟨g,0,none⟩=some (.int .i64 a)) (h1:w.cell? ⟨g,1,none⟩=some (.int .i64 b)) :
  Calls Tryz.prog 41 #[.slice (some ⟨g,0,none⟩) 2 2] w fun e w'=>e=.returned (.int .i64 (orI a b))∧w=w':=by
 by_cases ha:a=0
 ·subst ha
  by_cases hb:b=0
  ·subst hb
   go_enter Tryz.func41,Tryz.ntmps41
   go_wp2
   refine wp_loop_rounds 3 ?_
   rw [rounds_succ]
   go_wp2
   rw [rounds_succ]
   go_wp2
   rw [rounds_succ]
   go_wp2
   go_ret
   exact ⟨rfl,rfl⟩
  ·have hm:(b != 0)=true:=by simpa using hb
   have HE:=Lib.hid (show orI 0 b=b from rfl)
   clear hb
   go_enter Tryz.func41,Tryz.ntmps41
   go_wp2
   refine wp_loop_rounds 3 ?_
   rw [rounds_succ]
   go_wp2
   rw [rounds_succ]
   go_wp2
   go_ret
   exact ⟨ret_int HE.out.symm,rfl⟩
 ·have hm:(a != 0)=true:=by simpa using ha
  have HE:=Lib.hid (show orI a b=a by simp [orI,ha])
  clear ha
  go_enter Tryz.func41,Tryz.ntmps41
  go_wp2
  refine wp_loop_rounds 3 ?_
  rw [rounds_succ]
  go_wp2
  go_ret
  exact ⟨ret_int HE.out.symm,rfl⟩
theorem spot_any (p c:Int) (w:World):Calls Tryz.prog 45 #[.int .i64 p,.int .i64 c] w fun e w'=>e=.returned (.iface 123 (.pointer (some ⟨w.heap.size,0,none⟩)))∧w'=w.alloc (.cells #[.int .i64 p,.int .i64 c] 128):=by
 go_enter Tryz.func45,Tryz.ntmps45
 go_wp2
 go_ret
 exact ⟨rfl,rfl⟩

abbrev aggN (x:NodeD):Value:=.agg #[.int .i64 x.id,.int .i64 x.zone,.int .u64 x.cap.a,.int .u64 x.cap.b,.int .u64 x.cap.c,.int .u64 x.cap.d,.int .u64 x.held.a,.int .u64 x.held.b,.int .u64 x.held.c,.int .u64 x.held.d]
theorem idN_any (x:NodeD) (w:World):Calls Tryz.prog 75 #[aggN x] w fun e w'=>e=.returned (.int .i64 x.id)∧Below w.heap.size w w':=by
 go_enter Tryz.func75,Tryz.ntmps75
 go_wp2
 go_ret
 exact ⟨rfl,(Below.refl _ _).alloc (Nat.le_refl _) _⟩

abbrev aggL (x:LoadD):Value:=.agg #[.int .i64 x.id,.bool x.apart,.int .i64 x.skew,.int .i64 x.min,.int .i64 x.max]
theorem idL_any (x:LoadD) (w:World):Calls Tryz.prog 78 #[aggL x] w fun e w'=>e=.returned (.int .i64 x.id)∧Below w.heap.size w w':=by
 go_enter Tryz.func78,Tryz.ntmps78
 go_wp2
 go_ret
 exact ⟨rfl,(Below.refl _ _).alloc (Nat.le_refl _) _⟩

abbrev aggP (x:PodD):Value:=.agg #[.int .i64 x.id,.int .i64 x.load,.int .i64 x.prio,.int .u64 x.req.a,.int .u64 x.req.b,.int .u64 x.req.c,.int .u64 x.req.d,.int .i64 x.node]
theorem idP_any (x:PodD) (w:World):Calls Tryz.prog 81 #[aggP x] w fun e w'=>e=.returned (.int .i64 x.id)∧Below w.heap.size w w':=by
 go_enter Tryz.func81,Tryz.ntmps81
 go_wp2
 go_ret
 exact ⟨rfl,(Below.refl _ _).alloc (Nat.le_refl _) _⟩

abbrev aggW (x:WantD):Value:=.agg #[.int .i64 x.pod,.int .u64 x.req.a,.int .u64 x.req.b,.int .u64 x.req.c,.int .u64 x.req.d,.bool x.stay]
theorem idW_any (x:WantD) (w:World):Calls Tryz.prog 43 #[aggW x] w fun e w'=>e=.returned (.int .i64 x.pod)∧Below w.heap.size w w':=by
 go_enter Tryz.func43,Tryz.ntmps43
 go_wp2
 go_ret
 exact ⟨rfl,(Below.refl _ _).alloc (Nat.le_refl _) _⟩

theorem fits_below (w:World) (o o':Obj) (n:Nat):Below w.heap.size w (((w.alloc o).alloc o').drewN n):=let k:=below_two w o o';⟨k.os,k.tape,k.output,k.size,k.block⟩
theorem fits_below2 (w:World) (o o':Obj) (n m:Nat):Below w.heap.size w ((((w.alloc o).alloc o').drewN n).drewN m):=let k:=fits_below w o o' n;⟨k.os,k.tape,k.output,k.size,k.block⟩
set_option maxHeartbeats 1600000 in
theorem fits_any (x y:V4) (w:World):Calls Tryz.prog 115 #[aggV x,aggV y] w fun e w'=>e=.returned (.bool (x.le y))∧Below w.heap.size w w':=by

 by_cases h0:x.a≤y.a
 ·have d0:decide (y.a<x.a)=false:=decide_eq_false (by omega)
  by_cases h1:x.b≤y.b
  ·have d1:decide (y.b<x.b)=false:=decide_eq_false (by omega)
   by_cases h2:x.c≤y.c
   ·have d2:decide (y.c<x.c)=false:=decide_eq_false (by omega)
    by_cases h3:x.d≤y.d
    ·have d3:decide (y.d<x.d)=false:=decide_eq_false (by omega)
     have HE:=Lib.hid (show x.le y=true by simp [V4.le,h0,h1,h2,h3])
     go_enter Tryz.func115,Tryz.ntmps115
     go_wp2
     refine wp_loop_rounds 5 ?_
     rw [rounds_succ]
     go_wp2
     go_quiet (fail)
     go_wp2
     rw [rounds_succ]
     go_wp2
     go_quiet (fail)
     go_wp2
     rw [rounds_succ]
     go_wp2
     go_quiet (fail)
     go_wp2
     rw [rounds_succ]
     go_wp2
     go_quiet (fail)
     go_wp2
     rw [rounds_succ]
     go_wp2
     go_ret
     refine ⟨ret_bool HE.out.symm,?_⟩
     first | exact fits_below _ _ _ _ | exact fits_below2 _ _ _ _ _
    ·have d3:decide (y.d<x.d)=true:=decide_eq_true (by omega)
     have HE:=Lib.hid (show x.le y=false by simp [V4.le,h3])
     go_enter Tryz.func115,Tryz.ntmps115
     go_wp2
     refine wp_loop_rounds 5 ?_
     rw [rounds_succ]
     go_wp2
     go_quiet (fail)
     go_wp2
     rw [rounds_succ]
     go_wp2
     go_quiet (fail)
     go_wp2
     rw [rounds_succ]
     go_wp2
     go_quiet (fail)
     go_wp2
     rw [rounds_succ]
     go_wp2
     go_quiet (fail)
     go_wp2
     go_ret
     refine ⟨ret_bool HE.out.symm,?_⟩
     first | exact fits_below _ _ _ _ | exact fits_below2 _ _ _ _ _
   ·have d2:decide (y.c<x.c)=true:=decide_eq_true (by omega)
    have HE:=Lib.hid (show x.le y=false by simp [V4.le,h2])
    go_enter Tryz.func115,Tryz.ntmps115
    go_wp2
    refine wp_loop_rounds 5 ?_
    rw [rounds_succ]
    go_wp2
    go_quiet (fail)
    go_wp2
    rw [rounds_succ]
    go_wp2
    go_quiet (fail)
    go_wp2
    rw [rounds_succ]
    go_wp2
    go_quiet (fail)
    go_wp2
    go_ret
    refine ⟨ret_bool HE.out.symm,?_⟩
    first | exact fits_below _ _ _ _ | exact fits_below2 _ _ _ _ _
  ·have d1:decide (y.b<x.b)=true:=decide_eq_true (by omega)
   have HE:=Lib.hid (show x.le y=false by simp [V4.le,h1])
   go_enter Tryz.func115,Tryz.ntmps115
   go_wp2
   refine wp_loop_rounds 5 ?_
   rw [rounds_succ]
   go_wp2
   go_quiet (fail)
   go_wp2
   rw [rounds_succ]
   go_wp2
   go_quiet (fail)
   go_wp2
   go_ret
   refine ⟨ret_bool HE.out.symm,?_⟩
   first | exact fits_below _ _ _ _ | exact fits_below2 _ _ _ _ _
 ·have d0:decide (y.a<x.a)=true:=decide_eq_true (by omega)
  have HE:=Lib.hid (show x.le y=false by simp [V4.le,h0])
  go_enter Tryz.func115,Tryz.ntmps115
  go_wp2
  refine wp_loop_rounds 5 ?_
  rw [rounds_succ]
  go_wp2
  go_quiet (fail)
  go_wp2
  go_ret
  refine ⟨ret_bool HE.out.symm,?_⟩
  first | exact fits_below _ _ _ _ | exact fits_below2 _ _ _ _ _
theorem flatMap_get {α:Type} {size:Nat} {cells:α→List Value} (hc:∀ x,(cells x).length=size):∀ {xs:List α} {i j:Nat} (hi:i<xs.length),j<size→(xs.flatMap cells)[i * size+j]?=(cells xs[i])[j]?
 | [],i,j,hi,_=>by simp at hi
 | x :: r,0,j,_,hj=>by
  rw [List.flatMap_cons,Nat.zero_mul,Nat.zero_add,List.getElem?_append_left (by rw [hc];exact hj)];rfl
 | x :: r,i+1,j,hi,hj=>by
  rw [List.flatMap_cons,List.getElem?_append_right (by rw [hc,Nat.add_one_mul];omega),hc]
  have e:(i+1) * size+j - size=i * size+j:=by rw [Nat.add_one_mul];omega
  rw [e,flatMap_get hc (xs:=r) (by simpa using hi) hj];rfl
theorem recs_of_own {α:Type} {size:Nat} {cells:α→List Value} (hc:∀ x,(cells x).length=size) {w:World} {B n:Nat} {e:TypeId} {v:Value} {xs:List α} (hn:n=xs.length) (h:w.ownsRow B e size v n (xs.flatMap cells)) :
  ∃ A c,v=.slice A n c∧n≤c∧c≤maxLen∧(A=none→c=0)∧Recs size cells w w.heap.size A xs:=by
 subst hn
 have hcs:=fun g hg=>h.cells (g:=g) hg
 rcases h.2 with ⟨hv,h0⟩ | ⟨g,cap,cur,hv,hb,hg,hnc,hm,_⟩
 ·exact ⟨none,0,by rw [hv,h0],by omega,by decide,fun _=>rfl,.inl (List.eq_nil_of_length_eq_zero h0)⟩
 ·refine ⟨_,cap,hv,hnc,hm,(by intro h;cases h),.inr ⟨g,0,rfl,(Array.getElem?_eq_some_iff.1 hg).1,fun i hi j u hu=>?_⟩⟩
  have hj:j<size:=by have:=(List.getElem?_eq_some_iff.1 hu).1;rw [hc] at this;exact this
  have:=hcs g (by rw [hv];rfl) (i * size+j) u (by rw [flatMap_get hc hi hj];exact hu)
  rw [Addr.add_lit] at this
  simpa using this
def Out {α:Type} (size:Nat) (cells:α→List Value) (w:World) (xs:List α) (A:Option Addr) (c:Nat):Prop:=xs.length≤c∧c≤maxLen∧(A=none→c=0)∧Recs size cells w w.heap.size A xs
theorem Out.nil {α:Type} {size:Nat} {cells:α→List Value} {w:World} {xs:List α} (h:xs=[]):Out size cells w xs none 0:=⟨by rw [h];exact Nat.le_refl _,by decide,fun _=>rfl,.inl h⟩
theorem out_of_own {α:Type} {size:Nat} {cells:α→List Value} (hc:∀ x,(cells x).length=size) {w:World} {B n c:Nat} {e:TypeId} {A:Option Addr} {xs:List α} (hn:n=xs.length) (h:w.ownsRow B e size (.slice A n c) n (xs.flatMap cells)):Out size cells w xs A c:=by
 obtain ⟨A',c',e1,p1,p2,p3,p4⟩:=recs_of_own hc hn h
 injection e1 with e1 _ e2
 subst e1 e2 hn
 exact ⟨p1,p2,p3,p4⟩
theorem Out.recs {α:Type} {size:Nat} {cells:α→List Value} {w:World} {xs:List α} {A:Option Addr} {c:Nat} (h:Out size cells w xs A c):Recs size cells w w.heap.size A xs:=h.2.2.2
end Go.Proofs.YthapilknnhlmfaaGreatDoor
namespace Go.Proofs.YthapilknnhlmfaaGreatDoor
set_option linter.unusedSimpArgs false
structure MoveD where
 kind:Int
 pod:Int
 node:Int
 over:Int
structure Kind (α:Type) where
 size:Nat
 nums:α→List Int
 get:List Int→α
 ok:List Int→Bool
 len:∀ x,(nums x).length=size
 back:∀ x,get (nums x)=x
 once:∀ c,c.length=size→ok c=true→nums (get c)=c

section
variable {α:Type} (K:Kind α)
def fine:Nat→List Int→Bool
 | 0,_=>true
 | n+1,l=>K.ok (l.take K.size) && fine n (l.drop K.size)
end
abbrev aggM (x:MoveD):Value:=.agg #[.int .i64 x.kind,.int .i64 x.pod,.int .i64 x.node,.int .i64 x.over]
def cellsM (x:MoveD):List Value:=[.int .i64 x.kind,.int .i64 x.pod,.int .i64 x.node,.int .i64 x.over]
end Go.Proofs.YthapilknnhlmfaaGreatDoor
namespace Go.Proofs.YthapilknnhlmfaaGreatDoor
set_option linter.unusedSimpArgs false
open Go.RowKit
set_option linter.unusedVariables false
structure StateD where
 pods:List PodD
 preempts:Int
 shifts:Int
def vecEq (x y:V4):Bool:=x.a == y.a && (x.b == y.b && (x.c == y.c && x.d == y.d))
def podEq (x y:PodD):Bool:=x.id == y.id && (x.load == y.load && (x.prio == y.prio && (vecEq x.req y.req && x.node == y.node)))
theorem vecEq_self (x:V4):vecEq x x=true:=by simp [vecEq]
theorem podEq_self (x:PodD):podEq x x=true:=by simp [podEq,vecEq_self]
theorem vecEq_iff {x y:V4}:vecEq x y=true ↔ x=y:=by
 cases x;cases y;simp [vecEq]
theorem podEq_iff {x y:PodD}:podEq x y=true ↔ x=y:=by
 cases x;cases y;simp [podEq,vecEq_iff]
def podsEq:List PodD→List PodD→Bool
 | [],[]=>true
 | x :: r,y :: s=>podEq x y && podsEq r s
 | _,_=>false
theorem podsEq_self:∀ l:List PodD,podsEq l l=true
 | []=>rfl
 | x :: r=>by simp [podsEq,podEq_self,podsEq_self r]
theorem podsEq_iff:∀ {l m:List PodD},podsEq l m=true ↔ l=m
 | [],[]=>by simp [podsEq]
 | [],_ :: _=>by simp [podsEq]
 | _ :: _,[]=>by simp [podsEq]
 | x :: r,y :: s=>by simp [podsEq,podEq_iff,podsEq_iff (l:=r) (m:=s)]
def stateEq (t u:StateD):Bool:=podsEq t.pods u.pods && (t.preempts == u.preempts && t.shifts == u.shifts)
theorem stateEq_self (t:StateD):stateEq t t=true:=by simp [stateEq,podsEq_self]
theorem stateEq_iff {t u:StateD}:stateEq t u=true ↔ t=u:=by
 cases t;cases u;simp [stateEq,podsEq_iff]
def podAt (id:Int):List PodD→Option PodD
 | []=>none
 | x :: r=>if x.id=id then some x else podAt id r
theorem podAt_none {id:Int}:∀ {l:List PodD} {k:Int},0≤k→(podAt id l=none ↔ place PodD.id id l k<0)
 | [],k,_=>by simp [podAt,place]
 | x :: r,k,hk=>by
  by_cases h:x.id=id
  ·simp [podAt,place,h];omega
  ·simp only [podAt,place,if_neg h];exact podAt_none (by omega)
theorem place_or {α:Type} {f:α→Int} {id:Int}:∀ (r:List α) (k:Int),0≤k→place f id r k<0∨k≤place f id r k
 | [],_,_=>by simp [place]
 | x :: r,k,hk=>by
  simp only [place]
  split
  ·right;omega
  ·rcases place_or r (k+1) (by omega) with h | h
   ·exact .inl h
   ·exact .inr (by omega)
theorem podAt_some {id:Int}:∀ {l:List PodD} {k:Int} {i:Nat} (hi:i<l.length),place PodD.id id l k=k+i→0≤k→podAt id l=some l[i]
 | [],_,_,hi,_,_=>by simp at hi
 | x :: r,k,i,hi,h,hk=>by
  by_cases hx:x.id=id
  ·simp only [place,if_pos hx] at h
   obtain rfl:i=0:=by omega
   simp [podAt,hx]
  ·simp only [place,if_neg hx] at h
   cases i with
   | zero =>
    have:=(place_neg (f:=PodD.id) (id:=id) (l:=r) (k:=k+1) (by omega))
    have h2:=place_ge (f:=PodD.id) (id:=id) (l:=r) (k:=k+1) (by omega)
    have h3:place PodD.id id r (k+1)<0∨k+1≤place PodD.id id r (k+1):=place_or r (k+1) (by omega)
    omega
   | succ i =>
    simp only [podAt,if_neg hx,List.getElem_cons_succ]
    exact podAt_some (by simpa using hi) (by rw [h];omega) (by omega)
def metD (l:List PodD) (w:WantD):Bool :=
 match podAt w.pod l with
 | none=>false
 | some p=>if w.stay then p.node != 0 && vecEq p.req w.req else p.node == 0
def goalD (x:List WantD) (l:List PodD):Bool:=x.all (metD l)
theorem goal_at {x:List WantD} {l:List PodD} {k:Nat} {b:Bool} (h:k<x.length) {w:WantD} (hx:x[k]=w) (hg:goalD (x.drop k) l=b) :
  (metD l w=false→b=false)∧(metD l w=true→goalD (x.drop (k+1)) l=b):=by
 rw [List.drop_eq_getElem_cons h,hx,goalD,List.all_cons] at hg
 constructor
 ·intro e;rw [e] at hg;exact hg.symm
 ·intro e;rw [e,Bool.true_and] at hg;exact hg
theorem goal_end {x:List WantD} {l:List PodD} {k:Nat} {b:Bool} (h:x.length≤k) (hg:goalD (x.drop k) l=b):b=true:=by
 rw [List.drop_of_length_le h] at hg
 exact hg.symm
theorem met_none {l:List PodD} {w:WantD} (h:place PodD.id w.pod l 0<0):metD l w=false:=by
 rw [metD,(podAt_none (l:=l) (k:=0) (by omega)).2 h]
theorem met_some {l:List PodD} {w:WantD} {i:Nat} (hi:i<l.length) (h:place PodD.id w.pod l 0=i) {p:PodD} (hp:l[i]=p):metD l w=if w.stay then p.node != 0 && vecEq p.req w.req else p.node == 0:=by
 rw [metD,podAt_some (l:=l) (k:=0) hi (by rw [h];omega) (by omega),hp]

theorem eqFields_cons {d:Nat} {xs ys:Array Value} {f:Field} {fs:List Field} {a b:Value} {c:Bool} {w:World} (hn:f.name≠"_") (ha:(part f.type xs f.offset).run Tryz.prog w=.ok a w) (hb:(part f.type ys f.offset).run Tryz.prog w=.ok b w) (he:(Op.equalIn d f.type a b).run Tryz.prog w=.ok c w) {r:Bool} (hr:(Op.eqFields d xs ys fs).run Tryz.prog w=.ok r w) :
  (Op.eqFields d xs ys (f :: fs)).run Tryz.prog w=.ok (c && r) w:=by
 cases c <;> simp [Op.eqFields,hn,ha,hb,he,hr]
theorem int_eqIn2 (d:Nat) (a b:Int) (w:World):(Op.equalIn (d+1) 3 (.int .i64 a) (.int .i64 b)).run Tryz.prog w=.ok (a == b) w:=by
 simp [Op.equalIn,run_underlying Tryz.underlying3]
theorem vec_is (x y:V4) (w:World):(binOp .eql 57 (aggV x) (aggV y)).run Tryz.prog w=.ok (.bool (vecEq x y)) w:=vec_eql _ _ _ _ _ _ _ _ w
end Go.Proofs.YthapilknnhlmfaaGreatDoor
namespace Go.Proofs.YthapilknnhlmfaaGreatDoor
set_option linter.unusedSimpArgs false
open Go.ChangeShapes Go.WideShapes Go.ChangeAt Go.RowKit
section
variable {H:Type} {enc:TypeId × Value→H} {w:World} {base:Nat} {sp:Nat→Bool} {held:Bool}
end
section
variable {H:Type} {enc:TypeId × Value→H} {P:Program} {w:World} {base:Nat} {spare:Nat→Bool} {held:Bool}
theorem trodAll_five {t0 t1 t2 t3 t4:TypeId} {args:Array Value} {ds:List (DataW H)} {ps:List MemPlace} (h:DataW.TrodAll enc P w base spare held [t0,t1,t2,t3,t4] args.toList ds ps) :
  ∃ v0 v1 v2 v3 v4 d0 d1 d2 d3 d4 p0 p1 p2 p3 p4,args=#[v0,v1,v2,v3,v4]∧ds=[d0,d1,d2,d3,d4]∧ps=p0++p1++p2++p3++p4∧DataW.Trod enc P w base spare held t0 v0 d0 p0∧DataW.Trod enc P w base spare held t1 v1 d1 p1∧DataW.Trod enc P w base spare held t2 v2 d2 p2∧DataW.Trod enc P w base spare held t3 v3 d3 p3∧DataW.Trod enc P w base spare held t4 v4 d4 p4:=by
 obtain ⟨v0,vs0,d0,ds0,p0,q0,hargs,rfl,rfl,hd0,hrest0⟩:=trodAll_cons h
 obtain ⟨v1,vs1,d1,ds1,p1,q1,rfl,rfl,rfl,hd1,hrest1⟩:=trodAll_cons hrest0
 obtain ⟨v2,vs2,d2,ds2,p2,q2,rfl,rfl,rfl,hd2,hrest2⟩:=trodAll_cons hrest1
 obtain ⟨v3,vs3,d3,ds3,p3,q3,rfl,rfl,rfl,hd3,hrest3⟩:=trodAll_cons hrest2
 obtain ⟨v4,vs4,d4,ds4,p4,q4,rfl,rfl,rfl,hd4,hrest4⟩:=trodAll_cons hrest3
 obtain ⟨rfl,rfl,rfl⟩:=trodAll_nil hrest4
 exact ⟨v0,v1,v2,v3,v4,d0,d1,d2,d3,d4,p0,p1,p2,p3,p4,by cases args;simp_all,rfl,by simp,hd0,hd1,hd2,hd3,hd4⟩
theorem trodAll_mk5 {t0 t1 t2 t3 t4:TypeId} {v0 v1 v2 v3 v4:Value} {d0 d1 d2 d3 d4:DataW H} {p0 p1 p2 p3 p4:List MemPlace} (h0:DataW.Trod enc P w base spare held t0 v0 d0 p0) (h1:DataW.Trod enc P w base spare held t1 v1 d1 p1)
  (h2:DataW.Trod enc P w base spare held t2 v2 d2 p2) (h3:DataW.Trod enc P w base spare held t3 v3 d3 p3) (h4:DataW.Trod enc P w base spare held t4 v4 d4 p4):DataW.TrodAll enc P w base spare held [t0,t1,t2,t3,t4] [v0,v1,v2,v3,v4] [d0,d1,d2,d3,d4] (p0++(p1++(p2++(p3++p4)))) :=
 ⟨p0,p1++(p2++(p3++p4)),h0,trodAll_mk4 h1 h2 h3 h4,rfl⟩
end
theorem Tryz.cellsMv:Tryz.prog.cellsOf 89=4:=by kernel_rfl
section
variable {H:Type} {enc:TypeId × Value→H} {w:World} {base:Nat} {sp:Nat→Bool} {held:Bool}
end
theorem list4_mv {α:Type} (l:List α) (h:l.length=4):∃ c0 c1 c2 c3,l=[c0,c1,c2,c3]:=by
 match l,h with
 | [c0,c1,c2,c3],_=>exact ⟨c0,c1,c2,c3,rfl⟩
section
variable {H:Type} {enc:TypeId × Value→H} {w:World} {base:Nat} {sp:Nat→Bool} {held:Bool}
set_option maxRecDepth 100000 in
theorem move_ofV {n:Nat} {cs:List Value} {x:DataW H × List MemPlace} (hl:cs.length=4) (h:DataW.trod enc Tryz.prog w base sp held n 89 cs=some x):∃ a:MoveD,cs=cellsM a∧True:=by
 obtain ⟨xs,m,rfl,_,_,hxl,hf⟩:=DataW.trod_struct Tryz.underlying89 h
 obtain ⟨c0,c1,c2,c3,rfl⟩:=list4_mv cs hl
 have h0:DataW.trod enc Tryz.prog w base sp held m 3 (([c0,c1,c2,c3].drop 0).take (Tryz.prog.cellsOf 3))=xs[0]?:=hf 0 _ rfl
 rw [Tryz.cells3,show ([c0,c1,c2,c3].drop 0).take 1=[c0] from rfl] at h0
 have h1:DataW.trod enc Tryz.prog w base sp held m 3 (([c0,c1,c2,c3].drop 1).take (Tryz.prog.cellsOf 3))=xs[1]?:=hf 1 _ rfl
 rw [Tryz.cells3,show ([c0,c1,c2,c3].drop 1).take 1=[c1] from rfl] at h1
 have h2:DataW.trod enc Tryz.prog w base sp held m 3 (([c0,c1,c2,c3].drop 2).take (Tryz.prog.cellsOf 3))=xs[2]?:=hf 2 _ rfl
 rw [Tryz.cells3,show ([c0,c1,c2,c3].drop 2).take 1=[c2] from rfl] at h2
 have h3:DataW.trod enc Tryz.prog w base sp held m 3 (([c0,c1,c2,c3].drop 3).take (Tryz.prog.cellsOf 3))=xs[3]?:=hf 3 _ rfl
 rw [Tryz.cells3,show ([c0,c1,c2,c3].drop 3).take 1=[c3] from rfl] at h3
 obtain ⟨k0,rfl,_⟩:=int_of (some_at hxl (by decide)) h0
 obtain ⟨k1,rfl,_⟩:=int_of (some_at hxl (by decide)) h1
 obtain ⟨k2,rfl,_⟩:=int_of (some_at hxl (by decide)) h2
 obtain ⟨k3,rfl,_⟩:=int_of (some_at hxl (by decide)) h3
 exact ⟨⟨k0,k1,k2,k3⟩,rfl,trivial⟩
set_option maxRecDepth 100000 in
theorem open_movesV {r:Reach} {b0:Nat} {v:Value} {d:DataW H} {ps:List MemPlace} (hval:Value.okWide Tryz.prog w r b0 32 v) (h:DataW.Trod enc Tryz.prog w base sp held 32 v d ps) :
  ∃ (m:List MoveD) (A:Option Addr) (c:Nat),v=.slice A m.length c∧m.length≤c∧c≤maxLen∧Recs 4 cellsM w w.heap.size A m:=by
 obtain ⟨av,n0,cap0,rfl⟩:=okWide_slice Tryz.underlying32 hval
 obtain ⟨fuel,hf⟩:=h
 have hf':DataW.trod enc Tryz.prog w base sp held fuel 32 [.slice av n0 cap0]=some (d,ps):=hf
 obtain ⟨A,c,l,e,h1,h2,_,h3,_⟩:=open_recs (cells:=cellsM) (size:=4) (Ok:=fun _:MoveD=>True) Tryz.underlying32 Tryz.cellsMv (by decide) (fun n cs x hl h=>move_ofV hl h) hf'
 exact ⟨l,A,c,e,h1,h2,h3⟩
end
end Go.Proofs.YthapilknnhlmfaaGreatDoor
namespace Go.Proofs.YthapilknnhlmfaaGreatDoor
set_option linter.unusedSimpArgs false
def enc (n:Int):List Int:=if n<128 then [n] else (n % 128+128) :: enc (n / 128)
 termination_by n.toNat
 decreasing_by omega

theorem enc_lt {n:Int} (h:n<128):enc n=[n]:=by rw [enc,if_pos h]
theorem enc_ge {n:Int} (h:¬ n<128):enc n=(n % 128+128) :: enc (n / 128):=by rw [enc,if_neg h]

def encs:List Int→List Int
 | []=>[]
 | n :: l=>enc n++encs l
theorem encs_append (a b:List Int):encs (a++b)=encs a++encs b:=by
 induction a with
 | nil=>rfl
 | cons n l ih=>simp [encs,ih]
theorem encs_one (n:Int):encs [n]=enc n:=by simp [encs]

def pw (i:Nat):Int:=128 ^ i
theorem pw_zero:pw 0=1:=rfl
theorem pw_succ (i:Nat):pw (i+1)=128 * pw i:=by unfold pw;rw [Int.pow_succ,Int.mul_comm]
theorem pw_pos (i:Nat):0<pw i:=Int.pow_pos (by decide)
theorem pw_9:pw 9=9223372036854775808:=by decide
theorem enc_len_pos (n:Int):1≤(enc n).length:=by
 by_cases h:n<128
 ·rw [enc_lt h];simp
 ·rw [enc_ge h];simp
theorem enc_len_le (k:Nat):∀ n:Int,n<pw (k+1)→(enc n).length≤k+1:=by
 induction k with
 | zero=>intro n h;rw [pw_succ,pw_zero] at h;rw [enc_lt (by omega)];simp
 | succ k ih =>
  intro n h
  by_cases h1:n<128
  ·rw [enc_lt h1];simp
  ·rw [enc_ge h1]
   have:=ih (n / 128) (by rw [pw_succ] at h;omega)
   simp
   omega
theorem enc_len_ten (n:Int) (h:n<18446744073709551616):(enc n).length≤10:=by
 have e:pw 10=1180591620717411303424:=by decide
 exact enc_len_le 9 n (by rw [e];omega)
theorem enc_bytes (n:Int) (h:0≤n):∀ c ∈ enc n,0≤c∧c<256:=by
 induction n using enc.induct with
 | case1 n h1=>rw [enc_lt h1];intro c hc;simp at hc;omega
 | case2 n h1 ih =>
  rw [enc_ge h1]
  intro c hc
  simp at hc
  rcases hc with rfl | hc
  ·omega
  ·exact ih (by omega) c hc

def Nums (l:List Int):Prop:=∀ n ∈ l,0≤n∧n<18446744073709551616
def Octs (l:List Int):Prop:=∀ c ∈ l,0≤c∧c<256
theorem Nums.append {a b:List Int} (ha:Nums a) (hb:Nums b):Nums (a++b):=fun n hn=>by
 rcases List.mem_append.1 hn with h | h
 ·exact ha n h
 ·exact hb n h
theorem Nums.take {a:List Int} (ha:Nums a) (k:Nat):Nums (a.take k):=fun n hn=>ha n (List.mem_of_mem_take hn)
theorem Octs.drop {a:List Int} (ha:Octs a) (k:Nat):Octs (a.drop k):=fun n hn=>ha n (List.mem_of_mem_drop hn)
theorem encs_octs {l:List Int} (h:Nums l):Octs (encs l):=by
 induction l with
 | nil=>intro c hc;simp [encs] at hc
 | cons n l ih =>
  intro c hc
  rcases List.mem_append.1 hc with h1 | h1
  ·exact enc_bytes n (h n (by simp)).1 c h1
  ·exact ih (fun m hm=>h m (by simp [hm])) c h1
theorem encs_len_le {l:List Int} (h:Nums l):(encs l).length≤10 * l.length:=by
 induction l with
 | nil=>simp [encs]
 | cons n l ih =>
  have h1:=enc_len_ten n (h n (by simp)).2
  have h2:=ih (fun m hm=>h m (by simp [hm]))
  simp [encs]
  omega
def scan:List Int→Nat→Int→Int × Nat
 | [],_,_=>(0,0)
 | c :: r,i,n =>
  if i=9∧1<c then (0,0)
  else if 128≤c then scan r (i+1) (n+(c - 128) * pw i)
  else if c=0∧0<i then (0,0)
  else (n+c * pw i,i+1)

theorem scan_enc (v:Int) (r:List Int):∀ (i:Nat) (n:Int),0≤v→0≤n→(0<v∨i=0)→n+v * pw i<18446744073709551616 →
  scan (enc v++r) i n=(n+v * pw i,i+(enc v).length):=by
 induction v using enc.induct with
 | case1 v h =>
  intro i n h0 hn hz hs
  rw [enc_lt h]
  have h9:¬ (i=9∧1<v):=by
   rintro ⟨rfl,h1⟩
   rw [pw_9] at hs
   omega
  have hz':¬ (v=0∧0<i):=by omega
  simp only [List.cons_append,List.nil_append,scan,if_neg h9,if_neg (show ¬ 128≤v by omega),if_neg hz',List.length_singleton]
 | case2 v h ih =>
  intro i n h0 hn hz hs
  rw [enc_ge h]
  have h9:¬ (i=9∧1<v % 128+128):=by
   rintro ⟨rfl,h1⟩
   rw [pw_9] at hs
   omega
  have hp:=pw_pos i
  have e:n+(v % 128+128 - 128) * pw i+v / 128 * pw (i+1)=n+v * pw i:=by
   rw [pw_succ]
   have hv:v=v / 128 * 128+v % 128:=by omega
   have:v * pw i=(v / 128 * 128+v % 128) * pw i:=by rw [← hv]
   rw [this,Int.add_mul,Int.mul_assoc,show v % 128+128 - 128=v % 128 by omega]
   omega
  have hm:0≤(v % 128+128 - 128) * pw i:=Int.mul_nonneg (by omega) (by omega)
  have:=ih (i+1) (n+(v % 128+128 - 128) * pw i) (by omega) (by omega) (by omega) (by rw [e];exact hs)
  simp only [List.cons_append,scan,if_neg h9,if_pos (show 128≤v % 128+128 by omega),this,List.length_cons,e]
  congr 1
  omega

theorem scan_hit (v:Int) (r:List Int) (h0:0≤v) (h1:v<18446744073709551616):scan (enc v++r) 0 0=(v,(enc v).length):=by
 have:=scan_enc v r 0 0 h0 (by omega) (by omega) (by rw [pw_zero];omega)
 rw [this,pw_zero]
 congr 1 <;> omega
theorem nums_cons {n:Int} {l:List Int} (h1:0≤n∧n<18446744073709551616) (h:Nums l):Nums (n :: l):=fun m hm=>by
 rcases List.mem_cons.1 hm with rfl | hm
 ·exact h1
 ·exact h m hm
end Go.Proofs.YthapilknnhlmfaaGreatDoor
namespace Go.Proofs.YthapilknnhlmfaaGreatDoor
set_option linter.unusedSimpArgs false
open Go.RowKit
set_option linter.unusedVariables false
abbrev w64 (n:Int):Int:=IntKind.u64.wrap n
theorem w64_is (n:Int):w64 n=n % 18446744073709551616:=by simp [w64,IntKind.wrap,IntKind.bits,IntKind.signed]
theorem w64_num (n:Int):0≤w64 n∧w64 n<18446744073709551616:=by rw [w64_is];omega
theorem w64_inj {a b:Int} (ha:I64 a) (hb:I64 b) (h:w64 a=w64 b):a=b:=by rw [w64_is,w64_is] at h;unfold I64 at ha hb;omega

def numsP (p:PodD):List Int:=[w64 p.id,w64 p.load,w64 p.prio,p.req.a,p.req.b,p.req.c,p.req.d,w64 p.node]
def podNums (l:List PodD):List Int:=l.flatMap numsP
def headNums (l:List PodD) (k:Nat):List Int:=(l.length:Int) :: podNums (l.take k)
def numsT (t:StateD):List Int:=((t.pods.length:Int) :: podNums t.pods)++[w64 t.preempts,w64 t.shifts]
def StateD.Ok (t:StateD):Prop:=(∀ p ∈ t.pods,p.Ok)∧I64 t.preempts∧I64 t.shifts
def keyS (t:StateD):ByteArray:=strOfNums (encs (numsT t))

theorem podNums_len (l:List PodD):(podNums l).length=8 * l.length:=by
 induction l with
 | nil=>rfl
 | cons x r ih=>rw [podNums,List.flatMap_cons,List.length_append,← podNums,ih];simp [numsP];omega
theorem numsP_nums {p:PodD} (h:p.Ok):Nums (numsP p):=by
 intro n hn
 have h4:=h.2.2.2.1
 simp only [numsP,List.mem_cons,List.not_mem_nil,or_false] at hn
 rcases hn with rfl | rfl | rfl | rfl | rfl | rfl | rfl | rfl
 ·exact w64_num _
 ·exact w64_num _
 ·exact w64_num _
 ·exact h4.1
 ·exact h4.2.1
 ·exact h4.2.2.1
 ·exact h4.2.2.2
 ·exact w64_num _
theorem podNums_nums {l:List PodD} (h:∀ p ∈ l,p.Ok):Nums (podNums l):=by
 intro n hn
 obtain ⟨p,hp,hn⟩:=List.mem_flatMap.1 hn
 exact numsP_nums (h p hp) n hn
theorem numsT_len (t:StateD):(numsT t).length=8 * t.pods.length+3:=by
 simp [numsT,podNums_len]
theorem numsT_nums {t:StateD} (h:t.Ok) (hl:t.pods.length≤1000):Nums (numsT t):=by
 refine Nums.append (nums_cons ⟨by omega,by omega⟩ (podNums_nums h.1)) ?_
 intro n hn
 simp only [List.mem_cons,List.not_mem_nil,or_false] at hn
 rcases hn with rfl | rfl <;> exact w64_num _
theorem head_next (l:List PodD) (k:Nat) (h:k<l.length):headNums l k++numsP l[k]=headNums l (k+1):=by
 unfold headNums
 rw [List.take_succ_eq_append_getElem h,podNums,podNums,List.flatMap_append,List.cons_append]
 simp
theorem head_len (l:List PodD) (k:Nat):(headNums l k).length≤8 * l.length+1:=by
 have:=List.length_take_le' k l
 simp [headNums,podNums_len];omega
theorem head_end (t:StateD) (k:Nat) (h:t.pods.length≤k):headNums t.pods k++[w64 t.preempts,w64 t.shifts]=numsT t:=by
 unfold headNums numsT
 rw [List.take_of_length_le h]
theorem enc_inj {v v':Int} {r r':List Int} (h:0≤v∧v<18446744073709551616) (h':0≤v'∧v'<18446744073709551616) (e:enc v++r=enc v'++r'):v=v'∧r=r':=by
 have h1:=scan_hit v r h.1 h.2
 rw [e,scan_hit v' r' h'.1 h'.2] at h1
 obtain rfl:v'=v:=(Prod.mk.inj h1).1
 exact ⟨rfl,List.append_cancel_left e⟩
theorem encs_inj:∀ {l m:List Int},Nums l→Nums m→encs l=encs m→l=m
 | [],[],_,_,_=>rfl
 | [],y :: s,_,_,e=>by
  have h1:=enc_len_pos y
  have:=congrArg List.length e
  simp only [encs,List.length_append,List.length_nil] at this
  omega
 | x :: r,[],_,_,e=>by
  have h1:=enc_len_pos x
  have:=congrArg List.length e
  simp only [encs,List.length_append,List.length_nil] at this
  omega
 | x :: r,y :: s,hl,hm,e=>by
  obtain ⟨rfl,h2⟩:=enc_inj (hl x (by simp)) (hm y (by simp)) e
  rw [encs_inj (fun n hn=>hl n (by simp [hn])) (fun n hn=>hm n (by simp [hn])) h2]
theorem octs_inj:∀ {l m:List Int},Octs l→Octs m→(l.map fun n=>UInt8.ofNat n.toNat)=(m.map fun n=>UInt8.ofNat n.toNat)→l=m
 | [],[],_,_,_=>rfl
 | [],y :: s,_,_,e=>by simp at e
 | x :: r,[],_,_,e=>by simp at e
 | x :: r,y :: s,hl,hm,e=>by
  rw [List.map_cons,List.map_cons] at e
  obtain ⟨e1,e2⟩:=List.cons.inj e
  have hx:=hl x (by simp)
  have hy:=hm y (by simp)
  have e3:=congrArg UInt8.toNat e1
  rw [UInt8.toNat_ofNat',UInt8.toNat_ofNat',Nat.mod_eq_of_lt (by omega),Nat.mod_eq_of_lt (by omega)] at e3
  rw [octs_inj (fun n hn=>hl n (by simp [hn])) (fun n hn=>hm n (by simp [hn])) e2,show x=y by omega]
theorem vec_eq4 {x y:V4} (h0:x.a=y.a) (h1:x.b=y.b) (h2:x.c=y.c) (h3:x.d=y.d):x=y:=by
 cases x;cases y;simp_all
theorem podNums_inj:∀ {l m:List PodD} {r s:List Int},(∀ p ∈ l,p.Ok)→(∀ p ∈ m,p.Ok)→l.length=m.length→podNums l++r=podNums m++s→l=m∧r=s
 | [],[],_,_,_,_,_,e=>⟨rfl,e⟩
 | [],y :: m,_,_,_,_,e,_=>by simp at e
 | x :: l,[],_,_,_,_,e,_=>by simp at e
 | x :: l,y :: m,r,s,hl,hm,hn,e=>by
  have e':numsP x++(podNums l++r)=numsP y++(podNums m++s):=by
   simpa [podNums,List.flatMap_cons,List.append_assoc] using e
  simp only [numsP,List.cons_append,List.nil_append,List.cons.injEq] at e'
  obtain ⟨e0,e1,e2,e3,e4,e5,e6,e7,e8⟩:=e'
  obtain ⟨rfl,h2⟩:=podNums_inj (fun p hp=>hl p (by simp [hp])) (fun p hp=>hm p (by simp [hp])) (by simpa using hn) e8
  have hx:=hl x (by simp)
  have hy:=hm y (by simp)
  refine ⟨?_,h2⟩
  have:x=y:=by
   have q0:=w64_inj hx.1 hy.1 e0
   have q1:=w64_inj hx.2.1 hy.2.1 e1
   have q2:=w64_inj hx.2.2.1 hy.2.2.1 e2
   have q3:=vec_eq4 e3 e4 e5 e6
   have q4:=w64_inj hx.2.2.2.2 hy.2.2.2.2 e7
   cases x;cases y;simp_all
  rw [this]
theorem numsT_inj {t u:StateD} (ht:t.Ok) (hu:u.Ok) (e:numsT t=numsT u):t=u:=by
 simp only [numsT,List.cons_append,List.cons.injEq] at e
 obtain ⟨e0,e1⟩:=e
 obtain ⟨h1,h2⟩:=podNums_inj ht.1 hu.1 (by omega) e1
 simp only [List.cons.injEq,and_true] at h2
 have q1:=w64_inj ht.2.1 hu.2.1 h2.1
 have q2:=w64_inj ht.2.2 hu.2.2 h2.2
 cases t;cases u;simp_all
theorem keyS_list (t:StateD):(keyS t).toList=(encs (numsT t)).map fun n=>UInt8.ofNat n.toNat:=by
 rw [ByteArray.toList_eq];exact strOfNums_data _
theorem keyS_inj {t u:StateD} (ht:t.Ok) (hu:u.Ok) (hl:t.pods.length≤1000) (hl':u.pods.length≤1000) (e:(keyS t).toList=(keyS u).toList):t=u:=by
 rw [keyS_list,keyS_list] at e
 have h1:=numsT_nums ht hl
 have h2:=numsT_nums hu hl'
 exact numsT_inj ht hu (encs_inj h1 h2 (octs_inj (encs_octs h1) (encs_octs h2) e))
theorem key_one {t u:StateD} (ht:t.Ok) (hu:u.Ok) (hl:t.pods.length≤1000) (hl':u.pods.length≤1000):((keyS t).toList == (keyS u).toList)=stateEq t u:=by
 cases hs:stateEq t u with
 | true=>rw [stateEq_iff.1 hs];simp
 | false =>
  cases hk:((keyS t).toList == (keyS u).toList) with
  | false=>rfl
  | true =>
   rw [keyS_inj ht hu hl hl' (eq_of_beq hk),stateEq_self] at hs
   cases hs
theorem less_irrefl:∀ l:List UInt8,Op.bytesLess l l=false
 | []=>rfl
 | x :: r=>by simp [Op.bytesLess,less_irrefl r,UInt8.lt_irrefl]
def Best (K:Nat→List UInt8) (k:Nat) (b:Int):Prop :=
 (k=0∧b=-1)∨∃ j:Nat,b=j∧j<k∧(∀ i,i<k→Op.bytesLess (K i) (K j)=false)∧∀ i,i<j→Op.bytesLess (K j) (K i)=true
section
variable {K:Nat→List UInt8} {k j:Nat} {b b':Int}
theorem Best.none:Best K 0 (-1):=.inl ⟨rfl,rfl⟩
theorem Best.one:Best K 1 0:=.inr ⟨0,rfl,by omega,fun i hi=>by rw [show i=0 by omega];exact less_irrefl _,fun i hi=>by omega⟩
theorem Best.same (h:Best K k b) (h':Best K k b'):b=b':=by
 rcases h with ⟨h0,h⟩ | ⟨j,h1,h2,h3,h4⟩ <;> rcases h' with ⟨h0',h'⟩ | ⟨j',h1',h2',h3',h4'⟩
 ·omega
 ·omega
 ·omega
 ·by_cases e:j<j'
  ·have:=h4' j e
   rw [h3 j' h2'] at this
   cases this
  ·by_cases e':j'<j
   ·have:=h4 j' e'
    rw [h3' j h2] at this
    cases this
   ·omega
theorem Best.at (h:Best K k b) (hk:0<k):∃ j:Nat,b=j∧j<k∧(∀ i,i<k→Op.bytesLess (K i) (K j)=false)∧∀ i,i<j→K i≠K j:=by
 rcases h with ⟨h0,_⟩ | ⟨j,h1,h2,h3,h4⟩
 ·omega
 ·refine ⟨j,h1,h2,h3,fun i hi e=>?_⟩
  have:=h4 i hi
  rw [e,less_irrefl] at this
  cases this
end
theorem old_cells {W w1:World} (hb:Below W.heap.size W w1):(∀ b o,b<W.heap.size→w1.cell? ⟨b,o,none⟩=W.cell? ⟨b,o,none⟩)∧(∀ b o,b<W.heap.size→w1.frozen? ⟨b,o,none⟩=W.frozen? ⟨b,o,none⟩) :=
 ⟨fun b o h=>hb.cell (p:=⟨b,o,none⟩) h,fun b o h=>hb.frozen (p:=⟨b,o,none⟩) h⟩
def Row (w:World) (B:Nat) (A:Option Addr) (xs:List Value):Prop :=
 xs=[]∨∃ b o,A=some ⟨b,o,none⟩∧b<B∧∀ j (h:j<xs.length),w.cell? ⟨b,o+j,none⟩=some xs[j]

theorem Row.nil {w:World} {B:Nat} {A:Option Addr}:Row w B A []:=.inl rfl
theorem Row.below {w w':World} {B B':Nat} {A:Option Addr} {xs:List Value} (h:Row w B A xs) (hb:Below B' w w') (hB:B≤B'):Row w' B A xs:=by
 rcases h with h | ⟨b,o,h1,h2,h3⟩
 ·exact .inl h
 ·exact .inr ⟨b,o,h1,h2,fun j hj=>(hb.cell (p:=⟨b,o+j,none⟩) (Nat.lt_of_lt_of_le h2 hB)).trans (h3 j hj)⟩
theorem Row.more {w:World} {B B':Nat} {A:Option Addr} {xs:List Value} (h:Row w B A xs) (hB:B≤B'):Row w B' A xs:=by
 rcases h with h | ⟨b,o,h1,h2,h3⟩
 ·exact .inl h
 ·exact .inr ⟨b,o,h1,Nat.lt_of_lt_of_le h2 hB,h3⟩
theorem Row.at {w:World} {B:Nat} {A:Option Addr} {xs:List Value} (h:Row w B A xs) {k:Nat} (hk:k<xs.length) :
  ∃ b o,A=some ⟨b,o,none⟩∧b<B∧∀ j (h:j<xs.length),w.cell? ⟨b,o+j,none⟩=some xs[j]:=by
 rcases h with h | h
 ·subst h;simp at hk
 ·exact h
theorem Row.take {w:World} {B:Nat} {A:Option Addr} {xs:List Value} (h:Row w B A xs) (k:Nat):Row w B A (xs.take k):=by
 rcases h with h | ⟨b,o,h1,h2,h3⟩
 ·exact .inl (by simp [h])
 ·exact .inr ⟨b,o,h1,h2,fun j hj=>by rw [List.getElem_take];exact h3 j (by simp at hj;omega)⟩
theorem Row.drop {w:World} {B:Nat} {A:Option Addr} {xs:List Value} (h:Row w B A xs) {k c:Nat} (hc:xs.length≤c) :
  Row w B (if c=k then A else A.map (·.add k)) (xs.drop k):=by
 rcases h with h | ⟨b,o,h1,h2,h3⟩
 ·exact .inl (by simp [h])
 ·by_cases hk:k<xs.length
  ·refine .inr ⟨b,o+k,?_,h2,fun j hj=>?_⟩
   ·rw [if_neg (by omega),h1];simp [Addr.add_lit]
   ·rw [List.getElem_drop,Nat.add_assoc];exact h3 (k+j) (by simp at hj;omega)
  ·exact .inl (by simp;omega)
theorem Row.of_own {w:World} {base n c:Nat} {e:TypeId} {A:Option Addr} {xs:List Value} (h:w.ownsRow base e 1 (.slice A n c) n xs):Row w w.heap.size A xs∧n=xs.length:=by
 have hn:n=xs.length:=by have:=h.1;omega
 refine ⟨?_,hn⟩
 rcases h.2 with ⟨_,h0⟩ | ⟨g,cap,cur,hv,hb,hg,_⟩
 ·exact .inl (List.eq_nil_of_length_eq_zero (by omega))
 ·injection hv with hA _ _
  subst hA
  refine .inr ⟨g,0,rfl,(Array.getElem?_eq_some_iff.1 hg).1,fun j hj=>?_⟩
  have:=h.cells (g:=g) rfl j xs[j] (List.getElem?_eq_getElem hj)
  rwa [Addr.add_lit] at this
theorem own_form {w:World} {base n:Nat} {e:TypeId} {v:Value} {xs:List Value} (h:w.ownsRow base e 1 v n xs):∃ A c,v=.slice A n c∧n≤c∧n=xs.length∧(A=none→n=0∧c=0):=by
 have hn:n=xs.length:=by have:=h.1;omega
 rcases h.2 with ⟨hv,h0⟩ | ⟨g,cap,cur,hv,hb,hg,hc,_⟩
 ·exact ⟨none,0,by rw [hv,h0],by omega,hn,fun _=>⟨h0,rfl⟩⟩
 ·exact ⟨_,cap,hv,hc,hn,fun h=>by cases h⟩
abbrev u8s (l:List Int):List Value:=l.map (Value.int .u8)
abbrev u64s (l:List Int):List Value:=l.map (Value.int .u64)

theorem Tryz.info5:(Tryz.prog.info? 5).map (fun i=>(i.zero,i.size,i.bytes))=some (some (.int .u8 0),1,1):=by kernel_rfl
theorem Tryz.info55:(Tryz.prog.info? 55).map (fun i=>(i.zero,i.size,i.bytes))=some (some (.int .u64 0),1,8):=by kernel_rfl
theorem push_own {B:Nat} {e:TypeId} {w wr w1:World} {v:Value} {n:Nat} {xs:List Value} {o:Obj}
  (hB:B≤wr.heap.size) (hown:wr.ownsRow B e 1 v n xs) (hb:Below B w wr) (hgrow:(wr.alloc o).grownBy w1 v.ownBlock):Below B w w1 :=
 (hb.alloc hB o).grown hgrow (by simp;omega) (fun j hj=>(hown.lt j hj).1)
theorem one_u64s (l:List Int):∀ u ∈ u64s l,u.oneCell'=true:=by
 intro u hu;simp at hu;obtain ⟨x,_,rfl⟩:=hu;rfl

section
variable {ops:Array Oper} {rest:List Oper} {o:Oper} {a:Act} {Q:Exit→Act→World→Prop} {wr:World}

theorem wpList_push (t e:TypeId) (z:Value) (bytes:Nat) (ht:Tryz.prog.underlying t=some (.slice e)) (hinfo:(Tryz.prog.info? e).map (fun i=>(i.zero,i.size,i.bytes))=some (some z,1,bytes)) (hz:z.cells.size=1) (hby:bytes≤8)
  (hgd:o.guard=none) (s x:Operand) (ho:o.op=.call { callee:=.builtin .append,args:=#[s,x],argTypes:=#[t,t] })
  (B:Nat) (v:Value) (xs:List Value) (u:Value) (hu:u.oneCell'=true) (hown:wr.ownsRow B e 1 v xs.length xs) (hB:B≤wr.heap.size) (hl:xs.length≤2000000)
  (hs:a.eval s=v) (hx:a.eval x=.slice (some ⟨wr.heap.size,0,none⟩) 1 1)
  (h:∀ v' w',w'.ownsRow B e 1 v' (xs++[u]).length (xs++[u])→Below B wr w'→B≤w'.heap.size→wpList Tryz.prog ops Q rest (a.put o.dst v') w') :
  wpList Tryz.prog ops Q (o :: rest) a (wr.alloc (.cells #[u] e)):=by
 obtain ⟨i0,hi,hz0,hz1,hz2⟩:=info_parts hinfo
 refine wpList_append_own _ hgd s x t ho B e i0 z 1 bytes ht hi hz0 hz1 hz2 hz (by decide) v xs.length xs hs (hown.alloc _) ⟨wr.heap.size,0,none⟩ 1 1 [u] hx rfl ?_ ?_ ?_ ?_ ?_ ?_
 ·intro j y hy
  rcases j with _ | j
  ·simp at hy;subst hy;simp [Addr.add]
  ·simp at hy
 ·intro y hy;simp at hy;subst hy;exact hu
 ·unfold maxLen;omega
 ·have:(xs.length+1) * bytes≤(xs.length+1) * 8:=Nat.mul_le_mul_left _ hby
  omega
 ·simp;omega
 ·intro v' w' h1 h2 _
  exact h v' w' (by simpa using h1) (push_own hB hown (Below.refl _ _) h2) (by have:=h2.size;simp at this;omega)

end
end Go.Proofs.YthapilknnhlmfaaGreatDoor
namespace Go.Proofs.YthapilknnhlmfaaGreatDoor
set_option linter.unusedSimpArgs false


end Go.Proofs.YthapilknnhlmfaaGreatDoor
namespace Go.Proofs.YthapilknnhlmfaaGreatDoor
set_option linter.unusedSimpArgs false
open Go.RowKit
set_option linter.unusedVariables false
def Bx (w:World) (b:Nat) (cs:List Value):Prop:=b<w.heap.size∧∀ j (h:j<cs.length),w.cell? ⟨b,j,none⟩=some cs[j]
theorem Bx.at {w:World} {b:Nat} {cs:List Value} (h:Bx w b cs) (j:Nat) (v:Value) (hv:cs[j]?=some v):w.cell? ⟨b,j,none⟩=some v:=by
 obtain ⟨hj,rfl⟩:=List.getElem?_eq_some_iff.1 hv
 exact h.2 j hj
theorem Bx.below {w w':World} {b B:Nat} {cs:List Value} (h:Bx w b cs) (hb:Below B w w') (hB:b<B):Bx w' b cs :=
 ⟨Nat.lt_of_lt_of_le h.1 hb.size,fun j hj=>(hb.cell (p:=⟨b,j,none⟩) hB).trans (h.2 j hj)⟩
theorem Bx.grown {w w':World} {b:Nat} {row:Option Nat} {cs:List Value} (h:Bx w b cs) (hg:w.grownBy w' row) (hr:some b≠row):Bx w' b cs :=
 ⟨Nat.lt_of_lt_of_le h.1 hg.size,fun j hj=>hg.cell (h.2 j hj) hr⟩
theorem Bx.alloc {w:World} {b:Nat} {cs:List Value} (h:Bx w b cs) (o:Obj):Bx (w.alloc o) b cs :=
 ⟨by have:=h.1;simp;omega,fun j hj=>by rw [World.cell?_alloc_lt _ _ _ h.1];exact h.2 j hj⟩
theorem Bx.new (w:World) (cs:List Value) (t:TypeId):Bx (w.alloc (.cells cs.toArray t)) w.heap.size cs :=
 ⟨by simp,fun j hj=>by simp [List.getElem?_eq_getElem hj]⟩
theorem own_lit (w:World) (B n:Nat) (e:TypeId) (cs:List Value) (hB:B≤w.heap.size) (hn:n=cs.length) (hl:n≤1000):(w.alloc (.cells cs.toArray e)).ownsRow B e 1 (.slice (some ⟨w.heap.size,0,none⟩) n n) n cs:=by
 subst hn
 refine ⟨by omega,.inr ⟨w.heap.size,cs.length,cs.toArray,rfl,hB,heap_alloc_new w _,Nat.le_refl _,by unfold maxLen;omega,by simp,by simp⟩⟩
theorem lit_cells (w:World) (cs:List Value) (e:TypeId):∀ j u,cs[j]?=some u→(w.alloc (.cells cs.toArray e)).cell? ⟨w.heap.size,j,none⟩=some u:=fun j u h=>by
 have:=cell_of_row (w.alloc (.cells cs.toArray e)) w.heap.size j cs.toArray e (0,0) (heap_alloc_new w _)
 rw [this]
 simpa using h
section
variable {ops:Array Oper} {rest:List Oper} {o:Oper} {a:Act} {Q:Exit→Act→World→Prop} {wr:World}
end
def SameBox (W:World) (b:Nat) (v:World):Prop:=(∀ o,v.cell? ⟨b,o,none⟩=W.cell? ⟨b,o,none⟩)∧W.heap.size≤v.heap.size
theorem SameBox.refl (W:World) (b:Nat):SameBox W b W:=⟨fun _=>rfl,Nat.le_refl _⟩
theorem SameBox.drew {W v:World} {b:Nat} (h:SameBox W b v):SameBox W b v.drew:=h
theorem SameBox.alloc {W v:World} {b:Nat} (h:SameBox W b v) (hb:b<W.heap.size) (o:Obj):SameBox W b (v.alloc o) :=
 ⟨fun o'=>by rw [World.cell?_alloc_lt _ _ _ (Nat.lt_of_lt_of_le hb h.2)];exact h.1 o',by have:=h.2;simp;omega⟩
theorem SameBox.far {W v v':World} {b:Nat} {row:Option Nat} (h:SameBox W b v) (hf:∀ b o',some b≠row→b<v.heap.size→v'.cell? ⟨b,o',none⟩=v.cell? ⟨b,o',none⟩∧v'.frozen? ⟨b,o',none⟩=v.frozen? ⟨b,o',none⟩) (hs:v.heap.size≤v'.heap.size) (hne:some b≠row) (hb:b<W.heap.size):SameBox W b v' :=
 ⟨fun o'=>(hf b o' hne (Nat.lt_of_lt_of_le hb h.2)).1.trans (h.1 o'),Nat.le_trans h.2 hs⟩
theorem enc_of_lt {n:Int} (h:n<128) (xs:List Int):xs++[n]=xs++enc n:=by rw [enc_lt h]
theorem enc_of_ge {n:Int} (h:128≤n) (xs:List Int):(xs++[n % 128+128])++enc (n / 128)=xs++enc n:=by rw [enc_ge (n:=n) (by omega)];simp
def PutTo (B:Nat) (l:List Int) (w:World) (e:Ending) (w':World):Prop :=
 ∃ v,e=.returned v∧w'.ownsRow B 5 1 v (u8s l).length (u8s l)∧Below B w w'

theorem own8 {B:Nat} {w1:World} {v:Value} {xs ys:List Int} {c:Int} (h:w1.ownsRow B 5 1 v (u8s xs++[Value.int .u8 c]).length (u8s xs++[Value.int .u8 c])) (e:xs++[c]=ys):w1.ownsRow B 5 1 v (u8s ys).length (u8s ys):=by
 subst e;simpa using h

def PutRel (B:Nat) (all:List Int) (w:World) (v m:Value) (wr:World):Prop :=
 ∃ (ys:List Int) (k:Int),0≤k∧k<18446744073709551616∧m=.int .u64 k∧ys++enc k=all∧wr.ownsRow B 5 1 v (u8s ys).length (u8s ys)∧Below B w wr∧B≤wr.heap.size

set_option maxRecDepth 100000 in
theorem or128 (k:Int) (h:0≤k):bits .or .u8 (k % 256) 128=k % 128+128:=by
 have:k % 256=(k % 256).toNat:=by omega
 rw [this,show (128:Int)=((128:Nat):Int) from rfl,u8_or_nat _ _ (by omega) (by omega)]
 have hh:∀ a:Nat,a<256→a ||| 128=a % 128+128:=by decide
 rw [hh _ (by omega)]
 omega

set_option maxHeartbeats 800000 in
theorem put_any (B:Nat) (v:Value) (xs:List Int) (n:Int) (w:World) (hB:B≤w.heap.size) (hown:w.ownsRow B 5 1 v (u8s xs).length (u8s xs)) (h0:0≤n) (h1:n<18446744073709551616) (hx:xs.length≤1000000) :
  Calls Tryz.prog 159 #[v,.int .u64 n] w (PutTo B (xs++enc n) w):=by
 have hlen:(enc n).length≤10:=enc_len_ten n h1
 have hall:(xs++enc n).length≤1000010:=by simp;omega
 go_enter Tryz.func159,Tryz.ntmps159
 go_wp2
 go_loopw [0,1] (PutRel B (xs++enc n) w) (fun _ m _=>(intOf m).toNat)
 case atStart=>exact ⟨xs,n,h0,h1,rfl,rfl,hown,Below.refl _ _,hB⟩
 case round =>
  obtain ⟨ys,k,hk0,hk1,rfl,hall',hownr,hbr,hBr⟩:=hrel
  have hys:(u8s ys).length≤2000000:=by rw [← hall'] at hall;simp at hall ⊢;omega
  have HA:=Lib.hid hall'
  have HY:=Lib.hid hys
  clear hall' hall hlen hys
  by_cases hlt:128≤k
  ·have hor:=or128 k hk0
   go_wp2_with (at_builtin;refine wpList_push 133 5 (.int .u8 0) 1 Tryz.underlying133 Tryz.info5 rfl (by decide) rfl (.tmp 7) (.tmp 11) rfl B _ (u8s ys) (.int .u8 (k % 128+128)) rfl hownr hBr HY.out rfl rfl ?_;intro v' w1 hown1 hb1 hB1)
   go_roundw
   case rel=>exact ⟨ys++[k % 128+128],k / 128,by omega,by omega,rfl,(enc_of_ge hlt ys).trans HA.out,own8 hown1 rfl,hbr.trans hb1,hB1⟩
   case measure=>simp [intOf];omega
  ·have hk:k<128:=by omega
   have hm:k % 256=k:=by omega
   clear hk1
   go_wp2_with (at_builtin;refine wpList_push 133 5 (.int .u8 0) 1 Tryz.underlying133 Tryz.info5 rfl (by decide) rfl (.tmp 15) (.tmp 18) rfl B _ (u8s ys) (.int .u8 k) rfl hownr hBr HY.out rfl rfl ?_;intro v' w1 hown1 hb1 hB1)
   go_ret
   exact ⟨v',rfl,own8 hown1 ((enc_of_lt hk ys).trans HA.out),hbr.trans hb1⟩
theorem encs_take (l:List Int) (k:Nat) (h:k<l.length):encs (l.take k)++enc l[k]=encs (l.take (k+1)):=by
 rw [List.take_succ_eq_append_getElem h,encs_append,encs_one]
theorem encs_take_len (l:List Int) (hn:Nums l) (hl:l.length≤5000) (k:Nat):(encs (l.take k)).length≤50000:=by
 have:=encs_len_le (hn.take k)
 have:=List.length_take_le' k l
 omega

def PutsRel (l:List Int) (w:World) (v i:Value) (wr:World):Prop :=
 ∃ k:Nat,k≤l.length∧i=.int .i64 k∧wr.ownsRow w.heap.size 5 1 v (u8s (encs (l.take k))).length (u8s (encs (l.take k)))∧Below w.heap.size w wr

set_option maxHeartbeats 800000 in
theorem Put_any (l:List Int) (A:Option Addr) (c:Nat) (w:World) (hl:l.length≤5000) (hn:Nums l) (hr:Row w w.heap.size A (u64s l)) :
  Calls Tryz.prog 133 #[.slice A l.length c] w (PutTo w.heap.size (encs l) w):=by
 have HN:=Lib.hid hn
 have HR:=Lib.hid hr
 clear hn hr
 go_enter Tryz.func133,Tryz.ntmps133
 go_wp2
 go_loopw [3,8] (PutsRel l w) (fun _ i _=>l.length - (intOf i).toNat)
 case atStart=>exact ⟨0,by omega,rfl,World.ownsRow_nil _ _ _ _,Below.refl _ _⟩
 case round =>
  obtain ⟨k,hk,rfl,hown,hbr⟩:=hrel
  by_cases hlt:k<l.length
  ·obtain ⟨b,o,rfl,hb,hcell⟩:=HR.out.at (k:=k) (by simpa using hlt)
   have hc:=(hbr.cell (p:=⟨b,o+k,none⟩) hb).trans (hcell k (by simpa using hlt))
   simp only [List.getElem_map] at hc
   clear hcell
   have hz:=hbr.size
   go_wp2_with fail
   refine (put_any w.heap.size _ (encs (l.take k)) l[k] _ hz hown (HN.out _ (List.getElem_mem hlt)).1 (HN.out _ (List.getElem_mem hlt)).2 (by have:=encs_take_len l HN.out hl k;omega)).mono ?_
   rintro e w1 ⟨v,rfl,hown1,hb1⟩
   go_wp2
   go_roundw
   case rel=>exact ⟨k+1,by omega,by go_num,by rw [← encs_take l k hlt];exact hown1,hbr.trans hb1⟩
   case measure=>simp [intOf];omega
  ·have HK:Hid (l.take k=l):=List.take_of_length_le (by omega)
   go_wp2
   go_ret
   exact ⟨_,rfl,by rw [HK.out] at hown;exact hown,hbr⟩
end Go.Proofs.YthapilknnhlmfaaGreatDoor
