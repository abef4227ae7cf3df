/- Joined texts, part 1: CM CA CR RR CB CC CD CE CI CF E K Is Told CG. -/
import Derived.KernelRfl
import Derived.Test.YthapilknnhlmfaaGreatDoorRows
import Derived.WalkKit
import Derived.WalkSpells
import Derived.WalkLawsBesides
import Derived.Lib.Hide
import Derived.OwnWalk
import Derived.ChangeSame
import Derived.RowKit
import Derived.RowKitTokens
import Derived.Carry
import Derived.Deep.Slices
import Derived.Laws.IdiomArrays
import Derived.Lib.SmallJoins
import Derived.Test.YthapilknnhlmfaaGreatDoorTie
import Derived.Test.YthapilknnhlmfaaGreatDoorCards
import Derived.ChangeVars
import Derived.JoinedOf
import Derived.LaidLaws
import Derived.LaidHandle
import Derived.Stop.Joined
import Derived.ChangeSlices
import Derived.LaidEql
import Derived.ChangeKeysEq
import Derived.Laws.StructEq
import Derived.Deep.QuietTactic
import Derived.BigQuiet
import Derived.LaidEqlPtr
import Derived.Stop.Asserts

namespace Go.Proofs.YthapilknnhlmfaaGreatDoor
set_option linter.unusedSimpArgs false
structure V4 where
 a:Int
 b:Int
 c:Int
 d:Int
structure NodeD where
 id:Int
 zone:Int
 cap:V4
 held:V4
structure LoadD where
 id:Int
 apart:Bool
 skew:Int
 min:Int
 max:Int
structure PodD where
 id:Int
 load:Int
 prio:Int
 req:V4
 node:Int
structure WantD where
 pod:Int
 req:V4
 stay:Bool
structure SnapD where
 nodes:List NodeD
 loads:List LoadD
 pods:List PodD
structure SpecD where
 wants:List WantD
 preempts:Int
 shifts:Int

def V4.le (x y:V4):Bool:=decide (x.a≤y.a∧x.b≤y.b∧x.c≤y.c∧x.d≤y.d)
def V4.zero (x:V4):Bool:=decide (x.a=0∧x.b=0∧x.c=0∧x.d=0)
def place {α:Type} (f:α→Int) (id:Int):List α→Int→Int
 | [],_=>-1
 | x :: r,k=>if f x=id then k else place f id r (k+1)
theorem place_neg {α:Type} {f:α→Int} {id:Int}:∀ {l:List α} {k:Int},0≤k→(place f id l k<0 ↔ ∀ x ∈ l,f x≠id)
 | [],k,_=>by simp [place]
 | x :: r,k,hk=>by
  by_cases h:f x=id
  ·simp [place,h];omega
  ·simp [place,h,place_neg (l:=r) (k:=k+1) (by omega)]
theorem place_ge {α:Type} {f:α→Int} {id:Int}:∀ {l:List α} {k:Int},0≤k→-1≤place f id l k∧place f id l k<k+l.length
 | [],k,hk=>by simp [place];omega
 | x :: r,k,hk=>by
  by_cases h:f x=id
  ·simp [place,h];omega
  ·have:=place_ge (f:=f) (id:=id) (l:=r) (k:=k+1) (by omega)
   simp [place,h];omega
def idBad (n last:Int):Int:=if n<1∨2147483647<n then 1 else if n=last then 5 else if n<last then 1 else 0
def countOk (n:Int):Bool:=decide (0≤n∧n≤100)
def nodeBad (last:Int) (n:NodeD):Int:=if idBad n.id last=0∧(n.zone<1∨8<n.zone∨n.held.le n.cap=false) then 1 else idBad n.id last
def loadBad (last:Int) (l:LoadD):Int:=if idBad l.id last=0∧(countOk l.skew=false∨countOk l.min=false∨countOk l.max=false∨l.max<l.min) then 1 else idBad l.id last
def podBad (nodes:List NodeD) (loads:List LoadD) (last:Int) (p:PodD):Int :=
 if idBad p.id last≠0 then idBad p.id last else if countOk p.prio=false then 1
 else if place LoadD.id p.load loads 0<0∨(p.node≠0∧place NodeD.id p.node nodes 0<0) then 4 else 0
def firstBad {α:Type} (bad:Int→α→Int) (f:α→Int):Int→Nat→List α→Option (Int × Nat)
 | _,_,[]=>none
 | last,k,x :: r=>if bad last x≠0 then some (bad last x,k) else firstBad bad f (f x) (k+1) r

def large (s:SnapD):Bool:=decide (s.nodes.length=0∨8<s.nodes.length∨8<s.loads.length∨12<s.pods.length)
def check (s:SnapD):Int × Int :=
 if large s then (3,-1) else
 match firstBad nodeBad NodeD.id 0 0 s.nodes with
 | some (b,k)=>(b,k)
 | none=>match firstBad loadBad LoadD.id 0 s.nodes.length s.loads with
  | some (b,k)=>(b,k)
  | none=>match firstBad (podBad s.nodes s.loads) PodD.id 0 (s.nodes.length+s.loads.length) s.pods with
   | some (b,k)=>(b,k)
   | none=>(0,-1)

def wantBad (s:SnapD) (first:Bool) (last:Int) (w:WantD):Int :=
 if first=false∧w.pod=last then 5 else if first=false∧w.pod<last then 1
 else if place PodD.id w.pod s.pods 0<0 then 4 else if w.stay=false∧w.req.zero=false then 1 else 0
def firstWant (s:SnapD):Bool→Int→Nat→List WantD→Option (Int × Nat)
 | _,_,_,[]=>none
 | first,last,k,w :: r=>if wantBad s first last w≠0 then some (wantBad s first last w,k) else firstWant s false w.pod (k+1) r
def fair (s:SnapD) (x:SpecD):Int × Int :=
 if (check s).1≠0 then check s
 else if x.preempts<0∨40<x.preempts∨x.shifts<0∨40<x.shifts then (3,-1)
 else match firstWant s true 0 0 x.wants with
  | some (b,k)=>(b,k)
  | none=>(0,-1)

theorem idBad_ok {n last:Int} (h:idBad n last=0):1≤n∧n≤2147483647∧last<n:=by
 unfold idBad at h
 split at h
 ·omega
 ·split at h
  ·omega
  ·split at h <;> omega
theorem firstBad_pos {α:Type} {bad:Int→α→Int} {f:α→Int}:∀ {l:List α} {last:Int} {k:Nat} {b:Int} {j:Nat},firstBad bad f last k l=some (b,j)→b≠0
 | [],_,_,_,_,h=>by simp [firstBad] at h
 | x :: r,last,k,b,j,h=>by
  simp only [firstBad] at h
  split at h
  ·rename_i h0;simp at h;rw [← h.1];exact h0
  ·exact firstBad_pos h
theorem check_ok {s:SnapD}:(check s).1=0 ↔ large s=false∧firstBad nodeBad NodeD.id 0 0 s.nodes=none∧firstBad loadBad LoadD.id 0 s.nodes.length s.loads=none ∧
  firstBad (podBad s.nodes s.loads) PodD.id 0 (s.nodes.length+s.loads.length) s.pods=none:=by
 unfold check
 constructor
 ·intro h
  by_cases h1:large s=true
  ·rw [if_pos h1] at h;simp at h
  ·rw [if_neg h1] at h
   have h1':large s=false:=by simpa using h1
   split at h
   ·rename_i b k e;exact absurd h (firstBad_pos e)
   ·rename_i e1
    split at h
    ·rename_i b k e;exact absurd h (firstBad_pos e)
    ·rename_i e2
     split at h
     ·rename_i b k e;exact absurd h (firstBad_pos e)
     ·rename_i e3;exact ⟨h1',e1,e2,e3⟩
 ·rintro ⟨h1,h2,h3,h4⟩
  simp [h1,h2,h3,h4]
theorem check_zero {s:SnapD} (h:(check s).1=0):check s=(0,-1):=by
 obtain ⟨h1,h2,h3,h4⟩:=check_ok.1 h
 unfold check
 simp [h1,h2,h3,h4]
theorem firstBad_rises {α:Type} {bad:Int→α→Int} {f:α→Int} (hbad:∀ last x,bad last x=0→last<f x):∀ {l:List α} {last:Int} {k:Nat},firstBad bad f last k l=none→∀ i (h:i<l.length),last<f l[i]∧∀ j (hj:j<i),f (l[j]'(by omega))<f l[i]
 | [],_,_,_,i,h=>by simp at h
 | x :: r,last,k,hn,i,h=>by
  simp only [firstBad] at hn
  split at hn
  ·cases hn
  ·rename_i h0
   have hx:=hbad last x (by simpa using h0)
   have ih:=firstBad_rises hbad hn
   cases i with
   | zero=>exact ⟨hx,fun j hj=>by omega⟩
   | succ i =>
    obtain ⟨a,b⟩:=ih i (by simpa using h)
    refine ⟨by simp;omega,fun j hj=>?_⟩
    cases j with
    | zero=>simpa using a
    | succ j=>simpa using b j (by omega)
theorem nodeBad_rises (last:Int) (n:NodeD) (h:nodeBad last n=0):last<n.id:=by
 unfold nodeBad at h
 split at h
 ·cases h
 ·exact (idBad_ok h).2.2
def insZ (z:Int):List Int→List Int
 | []=>[z]
 | y :: r=>if y<z then y :: insZ z r else if y=z then y :: r else z :: y :: r
def zonesOf (l:List NodeD):List Int:=l.foldl (fun acc n=>insZ n.zone acc) []
def Rising:List Int→Prop
 | []=>True
 | x :: r=>(∀ y ∈ r,x<y)∧Rising r
theorem insZ_mem {z y:Int}:∀ {l:List Int},y ∈ insZ z l ↔ y=z∨y ∈ l
 | []=>by simp [insZ]
 | x :: r=>by
  unfold insZ
  split
  ·simp [insZ_mem (l:=r)];constructor <;> (rintro (h | h | h) <;> simp [h])
  ·split
   ·rename_i h;subst h;simp;
   ·simp
theorem insZ_rising {z:Int}:∀ {l:List Int},Rising l→Rising (insZ z l)
 | [],_=>⟨by simp,trivial⟩
 | x :: r,h=>by
  unfold insZ
  split
  ·rename_i hx
   refine ⟨fun y hy=>?_,insZ_rising h.2⟩
   rcases insZ_mem.1 hy with rfl | hy
   ·exact hx
   ·exact h.1 y hy
  ·split
   ·exact h
   ·rename_i h1 h2
    refine ⟨fun y hy=>?_,h⟩
    rcases List.mem_cons.1 hy with rfl | hy
    ·omega
    ·have:=h.1 y hy;omega
theorem insZ_len {z:Int}:∀ {l:List Int},1≤(insZ z l).length∧(insZ z l).length≤l.length+1
 | []=>by simp [insZ]
 | x :: r=>by
  unfold insZ
  split
  ·have:=insZ_len (z:=z) (l:=r);simp;omega
  ·split <;> simp
theorem zones_fold (l:List NodeD):∀ acc:List Int,Rising acc→Rising (l.foldl (fun acc n=>insZ n.zone acc) acc)∧(l.foldl (fun acc n=>insZ n.zone acc) acc).length≤acc.length+l.length∧(0<l.length∨0<acc.length→1≤(l.foldl (fun acc n=>insZ n.zone acc) acc).length):=by
 induction l with
 | nil=>intro acc h;exact ⟨h,by simp,by simp;omega⟩
 | cons n r ih =>
  intro acc h
  have h1:=insZ_len (z:=n.zone) (l:=acc)
  obtain ⟨a,b,c⟩:=ih (insZ n.zone acc) (insZ_rising h)
  exact ⟨a,by simp only [List.foldl_cons,List.length_cons];omega,fun _=>c (.inr (by omega))⟩
end Go.Proofs.YthapilknnhlmfaaGreatDoor
namespace Go.Proofs.YthapilknnhlmfaaGreatDoor
set_option linter.unusedSimpArgs false
open Go.RowKit
set_option linter.unusedVariables false
def cellsV (x:V4):List Value:=[.int .u64 x.a,.int .u64 x.b,.int .u64 x.c,.int .u64 x.d]
def cellsN (n:NodeD):List Value:=[.int .i64 n.id,.int .i64 n.zone,.int .u64 n.cap.a,.int .u64 n.cap.b,.int .u64 n.cap.c,.int .u64 n.cap.d,.int .u64 n.held.a,.int .u64 n.held.b,.int .u64 n.held.c,.int .u64 n.held.d]
def cellsL (l:LoadD):List Value:=[.int .i64 l.id,.bool l.apart,.int .i64 l.skew,.int .i64 l.min,.int .i64 l.max]
def cellsP (p:PodD):List Value:=[.int .i64 p.id,.int .i64 p.load,.int .i64 p.prio,.int .u64 p.req.a,.int .u64 p.req.b,.int .u64 p.req.c,.int .u64 p.req.d,.int .i64 p.node]
def cellsW (x:WantD):List Value:=[.int .i64 x.pod,.int .u64 x.req.a,.int .u64 x.req.b,.int .u64 x.req.c,.int .u64 x.req.d,.bool x.stay]
def Recs {α:Type} (size:Nat) (cells:α→List Value) (w:World) (B:Nat) (A:Option Addr) (xs:List α):Prop :=
 xs=[]∨∃ b o,A=some ⟨b,o,none⟩∧b<B∧∀ i (h:i<xs.length) j u,(cells xs[i])[j]?=some u→w.cell? ⟨b,o+i * size+j,none⟩=some u

section
variable {α:Type} {size:Nat} {cells:α→List Value} {w w':World} {B B':Nat} {A:Option Addr} {xs:List α}
theorem Recs.nil:Recs size cells w B A []:=.inl rfl
theorem Recs.below (h:Recs size cells w B A xs) (hb:Below B' w w') (hB:B≤B'):Recs size cells w' B A xs:=by
 rcases h with h | ⟨b,o,h1,h2,h3⟩
 ·exact .inl h
 ·exact .inr ⟨b,o,h1,h2,fun i hi j u hu=>(hb.cell (p:=⟨b,o+i * size+j,none⟩) (Nat.lt_of_lt_of_le h2 hB)).trans (h3 i hi j u hu)⟩
theorem Recs.more (h:Recs size cells w B A xs) (hB:B≤B'):Recs size cells w B' A xs:=by
 rcases h with h | ⟨b,o,h1,h2,h3⟩
 ·exact .inl h
 ·exact .inr ⟨b,o,h1,Nat.lt_of_lt_of_le h2 hB,h3⟩
theorem Recs.at (h:Recs size cells w B A xs) {k:Nat} (hk:k<xs.length) :
  ∃ b o,A=some ⟨b,o,none⟩∧b<B∧∀ j u,(cells xs[k])[j]?=some u→w.cell? ⟨b,o+k * size+j,none⟩=some u:=by
 rcases h with h | ⟨b,o,h1,h2,h3⟩
 ·subst h;simp at hk
 ·exact ⟨b,o,h1,h2,h3 k hk⟩
theorem Recs.take (h:Recs size cells w B A xs) (n:Nat):Recs size cells w B A (xs.take n):=by
 rcases h with h | ⟨b,o,h1,h2,h3⟩
 ·exact .inl (by simp [h])
 ·exact .inr ⟨b,o,h1,h2,fun i hi j u hu=>h3 i (by simp at hi;omega) j u (by rw [List.getElem_take] at hu;exact hu)⟩
end
structure Snap (w:World) (B:Nat) (s:SnapD) (v:Value):Prop where
 is:∃ A1 c1 A2 c2 A3 c3,v=.agg #[.slice A1 s.nodes.length c1,.slice A2 s.loads.length c2,.slice A3 s.pods.length c3] ∧
  Recs 10 cellsN w B A1 s.nodes∧Recs 5 cellsL w B A2 s.loads∧Recs 8 cellsP w B A3 s.pods

theorem place_step {α:Type} {f:α→Int} {id:Int} {l:List α} {k:Nat} (h:k<l.length) (hne:f l[k]≠id) (hp:place f id (l.drop k) k=place f id l 0):place f id (l.drop (k+1)) ((k+1:Nat):Int)=place f id l 0:=by
 rw [← hp,List.drop_eq_getElem_cons h,place,if_neg hne];rfl
theorem place_here {α:Type} {f:α→Int} {id:Int} {l:List α} {k:Nat} (h:k<l.length) (he:f l[k]=id) (hp:place f id (l.drop k) k=place f id l 0):place f id l 0=k:=by
 rw [← hp,List.drop_eq_getElem_cons h,place,if_pos he]
theorem place_end {α:Type} {f:α→Int} {id:Int} {l:List α} {k:Nat} (h:l.length≤k) (hp:place f id (l.drop k) k=place f id l 0):place f id l 0=-1:=by
 rw [← hp,List.drop_of_length_le h,place]
theorem ret_int {a b:Int} (h:a=b):Ending.returned (.int .i64 a)=.returned (.int .i64 b):=by rw [h]
end Go.Proofs.YthapilknnhlmfaaGreatDoor
namespace Go.Proofs.YthapilknnhlmfaaGreatDoor
set_option linter.unusedSimpArgs false
open Go.ChangeShapes Go.WideShapes Go.RowKit
def I64 (n:Int):Prop:=-9223372036854775808≤n∧n≤9223372036854775807
def U64 (n:Int):Prop:=0≤n∧n<18446744073709551616
def V4.Ok (x:V4):Prop:=U64 x.a∧U64 x.b∧U64 x.c∧U64 x.d
def NodeD.Ok (x:NodeD):Prop:=I64 x.id∧I64 x.zone∧x.cap.Ok∧x.held.Ok
def LoadD.Ok (x:LoadD):Prop:=I64 x.id∧I64 x.skew∧I64 x.min∧I64 x.max
def PodD.Ok (x:PodD):Prop:=I64 x.id∧I64 x.load∧I64 x.prio∧x.req.Ok∧I64 x.node
def WantD.Ok (x:WantD):Prop:=I64 x.pod∧x.req.Ok

theorem wf_i64' {n:Int} (h:(Lit.int .i64 n).wf=true):I64 n:=by
 simp [Lit.wf,IntKind.min,IntKind.max,IntKind.signed,IntKind.bits] at h
 exact ⟨by omega,by omega⟩
theorem wf_u64' {n:Int} (h:(Lit.int .u64 n).wf=true):U64 n:=by
 simp [Lit.wf,IntKind.min,IntKind.max,IntKind.signed,IntKind.bits] at h
 exact ⟨by omega,by omega⟩
theorem Tryz.cells55:Tryz.prog.cellsOf 55=1:=by kernel_rfl
theorem Tryz.cells57:Tryz.prog.cellsOf 57=4:=by kernel_rfl
theorem Tryz.cells3:Tryz.prog.cellsOf 3=1:=by kernel_rfl
theorem Tryz.cells4:Tryz.prog.cellsOf 4=1:=by kernel_rfl
theorem Tryz.cellsN:Tryz.prog.cellsOf 59=10:=by kernel_rfl
theorem Tryz.cellsL:Tryz.prog.cellsOf 61=5:=by kernel_rfl
theorem Tryz.cellsP:Tryz.prog.cellsOf 63=8:=by kernel_rfl
theorem Tryz.cellsW:Tryz.prog.cellsOf 65=6:=by kernel_rfl
theorem Tryz.cellsS:Tryz.prog.cellsOf 26=3:=by kernel_rfl
theorem Tryz.cellsX:Tryz.prog.cellsOf 29=3:=by kernel_rfl

theorem list5 {α:Type} (l:List α) (h:l.length=5):∃ c0 c1 c2 c3 c4,l=[c0,c1,c2,c3,c4]:=by
 match l,h with
 | [c0,c1,c2,c3,c4],_=>exact ⟨c0,c1,c2,c3,c4,rfl⟩
theorem list6 {α:Type} (l:List α) (h:l.length=6):∃ c0 c1 c2 c3 c4 c5,l=[c0,c1,c2,c3,c4,c5]:=by
 match l,h with
 | [c0,c1,c2,c3,c4,c5],_=>exact ⟨c0,c1,c2,c3,c4,c5,rfl⟩
theorem list8 {α:Type} (l:List α) (h:l.length=8):∃ c0 c1 c2 c3 c4 c5 c6 c7,l=[c0,c1,c2,c3,c4,c5,c6,c7]:=by
 match l,h with
 | [c0,c1,c2,c3,c4,c5,c6,c7],_=>exact ⟨c0,c1,c2,c3,c4,c5,c6,c7,rfl⟩
theorem list10 {α:Type} (l:List α) (h:l.length=10):∃ c0 c1 c2 c3 c4 c5 c6 c7 c8 c9,l=[c0,c1,c2,c3,c4,c5,c6,c7,c8,c9]:=by
 match l,h with
 | [c0,c1,c2,c3,c4,c5,c6,c7,c8,c9],_=>exact ⟨c0,c1,c2,c3,c4,c5,c6,c7,c8,c9,rfl⟩

section
variable {H:Type} {enc:TypeId × Value→H} {w:World} {base:Nat} {sp:Nat→Bool} {held:Bool}
theorem int_of {n:Nat} {c:Value} {x:Option (DataW H × List MemPlace)} (hx:x.isSome=true) (h:DataW.trod enc Tryz.prog w base sp held n 3 [c]=x):∃ k,c=.int .i64 k∧I64 k:=by
 obtain ⟨y,rfl⟩:=Option.isSome_iff_exists.1 hx
 obtain ⟨k,e,_,hw⟩:=DataW.trod_int Tryz.underlying3 h
 exact ⟨k,by simpa using e,wf_i64' hw⟩
theorem bool_of {n:Nat} {c:Value} {x:Option (DataW H × List MemPlace)} (hx:x.isSome=true) (h:DataW.trod enc Tryz.prog w base sp held n 4 [c]=x):∃ k,c=.bool k:=by
 obtain ⟨y,rfl⟩:=Option.isSome_iff_exists.1 hx
 obtain ⟨k,e,_⟩:=DataW.trod_bool Tryz.underlying4 h
 exact ⟨k,by simpa using e⟩
theorem vec_of {n:Nat} {c0 c1 c2 c3:Value} {x:Option (DataW H × List MemPlace)} (hx:x.isSome=true) (h:DataW.trod enc Tryz.prog w base sp held n 57 [c0,c1,c2,c3]=x) :
  ∃ v:V4,c0=.int .u64 v.a∧c1=.int .u64 v.b∧c2=.int .u64 v.c∧c3=.int .u64 v.d∧v.Ok:=by
 obtain ⟨y,rfl⟩:=Option.isSome_iff_exists.1 hx
 obtain ⟨y0,y1,y2,y3,m,_,hy0,hy1,hy2,hy3⟩:=trod_array4 Tryz.underlying57 Tryz.cells55 h
 obtain ⟨x0,e0,_,w0⟩:=DataW.trod_int Tryz.underlying55 hy0
 obtain ⟨x1,e1,_,w1⟩:=DataW.trod_int Tryz.underlying55 hy1
 obtain ⟨x2,e2,_,w2⟩:=DataW.trod_int Tryz.underlying55 hy2
 obtain ⟨x3,e3,_,w3⟩:=DataW.trod_int Tryz.underlying55 hy3
 exact ⟨⟨x0,x1,x2,x3⟩,by simpa using e0,by simpa using e1,by simpa using e2,by simpa using e3,wf_u64' w0,wf_u64' w1,wf_u64' w2,wf_u64' w3⟩
theorem some_at {α:Type} {l:List α} {i n:Nat} (h:l.length=n) (hi:i<n):(l[i]?).isSome=true:=by
 rw [List.getElem?_eq_getElem (by omega)];rfl

theorem node_of {n:Nat} {cs:List Value} {x:DataW H × List MemPlace} (hl:cs.length=10) (h:DataW.trod enc Tryz.prog w base sp held n 59 cs=some x):∃ a:NodeD,cs=cellsN a∧a.Ok:=by
 obtain ⟨xs,m,rfl,_,_,hxl,hf⟩:=DataW.trod_struct Tryz.underlying59 h
 obtain ⟨c0,c1,c2,c3,c4,c5,c6,c7,c8,c9,rfl⟩:=list10 cs hl
 have h0:DataW.trod enc Tryz.prog w base sp held m 3 (([c0,c1,c2,c3,c4,c5,c6,c7,c8,c9].drop 0).take (Tryz.prog.cellsOf 3))=xs[0]?:=hf 0 _ rfl
 rw [Tryz.cells3,show ([c0,c1,c2,c3,c4,c5,c6,c7,c8,c9].drop 0).take 1=[c0] from rfl] at h0
 have h1:DataW.trod enc Tryz.prog w base sp held m 3 (([c0,c1,c2,c3,c4,c5,c6,c7,c8,c9].drop 1).take (Tryz.prog.cellsOf 3))=xs[1]?:=hf 1 _ rfl
 rw [Tryz.cells3,show ([c0,c1,c2,c3,c4,c5,c6,c7,c8,c9].drop 1).take 1=[c1] from rfl] at h1
 have h2:DataW.trod enc Tryz.prog w base sp held m 57 (([c0,c1,c2,c3,c4,c5,c6,c7,c8,c9].drop 2).take (Tryz.prog.cellsOf 57))=xs[2]?:=hf 2 _ rfl
 rw [Tryz.cells57,show ([c0,c1,c2,c3,c4,c5,c6,c7,c8,c9].drop 2).take 4=[c2,c3,c4,c5] from rfl] at h2
 have h3:DataW.trod enc Tryz.prog w base sp held m 57 (([c0,c1,c2,c3,c4,c5,c6,c7,c8,c9].drop 6).take (Tryz.prog.cellsOf 57))=xs[3]?:=hf 3 _ rfl
 rw [Tryz.cells57,show ([c0,c1,c2,c3,c4,c5,c6,c7,c8,c9].drop 6).take 4=[c6,c7,c8,c9] from rfl] at h3
 obtain ⟨k0,rfl,i0⟩:=int_of (some_at hxl (by simp)) h0
 obtain ⟨k1,rfl,i1⟩:=int_of (some_at hxl (by simp)) h1
 obtain ⟨v2,rfl,rfl,rfl,rfl,i2⟩:=vec_of (some_at hxl (by simp)) h2
 obtain ⟨v3,rfl,rfl,rfl,rfl,i3⟩:=vec_of (some_at hxl (by simp)) h3
 exact ⟨⟨k0,k1,v2,v3⟩,rfl,i0,i1,i2,i3⟩
theorem load_of {n:Nat} {cs:List Value} {x:DataW H × List MemPlace} (hl:cs.length=5) (h:DataW.trod enc Tryz.prog w base sp held n 61 cs=some x):∃ a:LoadD,cs=cellsL a∧a.Ok:=by
 obtain ⟨xs,m,rfl,_,_,hxl,hf⟩:=DataW.trod_struct Tryz.underlying61 h
 obtain ⟨c0,c1,c2,c3,c4,rfl⟩:=list5 cs hl
 have h0:DataW.trod enc Tryz.prog w base sp held m 3 (([c0,c1,c2,c3,c4].drop 0).take (Tryz.prog.cellsOf 3))=xs[0]?:=hf 0 _ rfl
 rw [Tryz.cells3,show ([c0,c1,c2,c3,c4].drop 0).take 1=[c0] from rfl] at h0
 have h1:DataW.trod enc Tryz.prog w base sp held m 4 (([c0,c1,c2,c3,c4].drop 1).take (Tryz.prog.cellsOf 4))=xs[1]?:=hf 1 _ rfl
 rw [Tryz.cells4,show ([c0,c1,c2,c3,c4].drop 1).take 1=[c1] from rfl] at h1
 have h2:DataW.trod enc Tryz.prog w base sp held m 3 (([c0,c1,c2,c3,c4].drop 2).take (Tryz.prog.cellsOf 3))=xs[2]?:=hf 2 _ rfl
 rw [Tryz.cells3,show ([c0,c1,c2,c3,c4].drop 2).take 1=[c2] from rfl] at h2
 have h3:DataW.trod enc Tryz.prog w base sp held m 3 (([c0,c1,c2,c3,c4].drop 3).take (Tryz.prog.cellsOf 3))=xs[3]?:=hf 3 _ rfl
 rw [Tryz.cells3,show ([c0,c1,c2,c3,c4].drop 3).take 1=[c3] from rfl] at h3
 have h4:DataW.trod enc Tryz.prog w base sp held m 3 (([c0,c1,c2,c3,c4].drop 4).take (Tryz.prog.cellsOf 3))=xs[4]?:=hf 4 _ rfl
 rw [Tryz.cells3,show ([c0,c1,c2,c3,c4].drop 4).take 1=[c4] from rfl] at h4
 obtain ⟨k0,rfl,i0⟩:=int_of (some_at hxl (by simp)) h0
 obtain ⟨k1,rfl⟩:=bool_of (some_at hxl (by simp)) h1
 obtain ⟨k2,rfl,i2⟩:=int_of (some_at hxl (by simp)) h2
 obtain ⟨k3,rfl,i3⟩:=int_of (some_at hxl (by simp)) h3
 obtain ⟨k4,rfl,i4⟩:=int_of (some_at hxl (by simp)) h4
 exact ⟨⟨k0,k1,k2,k3,k4⟩,rfl,i0,i2,i3,i4⟩
theorem pod_of {n:Nat} {cs:List Value} {x:DataW H × List MemPlace} (hl:cs.length=8) (h:DataW.trod enc Tryz.prog w base sp held n 63 cs=some x):∃ a:PodD,cs=cellsP a∧a.Ok:=by
 obtain ⟨xs,m,rfl,_,_,hxl,hf⟩:=DataW.trod_struct Tryz.underlying63 h
 obtain ⟨c0,c1,c2,c3,c4,c5,c6,c7,rfl⟩:=list8 cs hl
 have h0:DataW.trod enc Tryz.prog w base sp held m 3 (([c0,c1,c2,c3,c4,c5,c6,c7].drop 0).take (Tryz.prog.cellsOf 3))=xs[0]?:=hf 0 _ rfl
 rw [Tryz.cells3,show ([c0,c1,c2,c3,c4,c5,c6,c7].drop 0).take 1=[c0] from rfl] at h0
 have h1:DataW.trod enc Tryz.prog w base sp held m 3 (([c0,c1,c2,c3,c4,c5,c6,c7].drop 1).take (Tryz.prog.cellsOf 3))=xs[1]?:=hf 1 _ rfl
 rw [Tryz.cells3,show ([c0,c1,c2,c3,c4,c5,c6,c7].drop 1).take 1=[c1] from rfl] at h1
 have h2:DataW.trod enc Tryz.prog w base sp held m 3 (([c0,c1,c2,c3,c4,c5,c6,c7].drop 2).take (Tryz.prog.cellsOf 3))=xs[2]?:=hf 2 _ rfl
 rw [Tryz.cells3,show ([c0,c1,c2,c3,c4,c5,c6,c7].drop 2).take 1=[c2] from rfl] at h2
 have h3:DataW.trod enc Tryz.prog w base sp held m 57 (([c0,c1,c2,c3,c4,c5,c6,c7].drop 3).take (Tryz.prog.cellsOf 57))=xs[3]?:=hf 3 _ rfl
 rw [Tryz.cells57,show ([c0,c1,c2,c3,c4,c5,c6,c7].drop 3).take 4=[c3,c4,c5,c6] from rfl] at h3
 have h4:DataW.trod enc Tryz.prog w base sp held m 3 (([c0,c1,c2,c3,c4,c5,c6,c7].drop 7).take (Tryz.prog.cellsOf 3))=xs[4]?:=hf 4 _ rfl
 rw [Tryz.cells3,show ([c0,c1,c2,c3,c4,c5,c6,c7].drop 7).take 1=[c7] from rfl] at h4
 obtain ⟨k0,rfl,i0⟩:=int_of (some_at hxl (by simp)) h0
 obtain ⟨k1,rfl,i1⟩:=int_of (some_at hxl (by simp)) h1
 obtain ⟨k2,rfl,i2⟩:=int_of (some_at hxl (by simp)) h2
 obtain ⟨v3,rfl,rfl,rfl,rfl,i3⟩:=vec_of (some_at hxl (by simp)) h3
 obtain ⟨k4,rfl,i4⟩:=int_of (some_at hxl (by simp)) h4
 exact ⟨⟨k0,k1,k2,v3,k4⟩,rfl,i0,i1,i2,i3,i4⟩
theorem want_of {n:Nat} {cs:List Value} {x:DataW H × List MemPlace} (hl:cs.length=6) (h:DataW.trod enc Tryz.prog w base sp held n 65 cs=some x):∃ a:WantD,cs=cellsW a∧a.Ok:=by
 obtain ⟨xs,m,rfl,_,_,hxl,hf⟩:=DataW.trod_struct Tryz.underlying65 h
 obtain ⟨c0,c1,c2,c3,c4,c5,rfl⟩:=list6 cs hl
 have h0:DataW.trod enc Tryz.prog w base sp held m 3 (([c0,c1,c2,c3,c4,c5].drop 0).take (Tryz.prog.cellsOf 3))=xs[0]?:=hf 0 _ rfl
 rw [Tryz.cells3,show ([c0,c1,c2,c3,c4,c5].drop 0).take 1=[c0] from rfl] at h0
 have h1:DataW.trod enc Tryz.prog w base sp held m 57 (([c0,c1,c2,c3,c4,c5].drop 1).take (Tryz.prog.cellsOf 57))=xs[1]?:=hf 1 _ rfl
 rw [Tryz.cells57,show ([c0,c1,c2,c3,c4,c5].drop 1).take 4=[c1,c2,c3,c4] from rfl] at h1
 have h2:DataW.trod enc Tryz.prog w base sp held m 4 (([c0,c1,c2,c3,c4,c5].drop 5).take (Tryz.prog.cellsOf 4))=xs[2]?:=hf 2 _ rfl
 rw [Tryz.cells4,show ([c0,c1,c2,c3,c4,c5].drop 5).take 1=[c5] from rfl] at h2
 obtain ⟨k0,rfl,i0⟩:=int_of (some_at hxl (by simp)) h0
 obtain ⟨v1,rfl,rfl,rfl,rfl,i1⟩:=vec_of (some_at hxl (by simp)) h1
 obtain ⟨k2,rfl⟩:=bool_of (some_at hxl (by simp)) h2
 exact ⟨⟨k0,v1,k2⟩,rfl,i0,i1⟩
theorem open_recs {α:Type} {size:Nat} {cells:α→List Value} {Ok:α→Prop} {t e:TypeId} {v:Value} {fuel:Nat} {x:DataW H × List MemPlace} (ht:Tryz.prog.underlying t=some (.slice e)) (hC:Tryz.prog.cellsOf e=size) (hs:0<size)
  (hof:∀ (n:Nat) (cs:List Value) (x:DataW H × List MemPlace),cs.length=size→DataW.trod enc Tryz.prog w base sp held n e cs=some x→∃ a:α,cs=cells a∧Ok a)
  (h:DataW.trod enc Tryz.prog w base sp held fuel t [v]=some x) :
  ∃ (A:Option Addr) (c:Nat) (l:List α),v=.slice A l.length c∧l.length≤c∧c≤maxLen∧(A=none→c=0)∧Recs size cells w w.heap.size A l∧∀ a ∈ l,Ok a:=by
 rcases Go.Deep.open_slice ht h with ⟨hc,_⟩ | ⟨a,n,cap,m,fu,D,Pl,hc,_,hl,hm,hmm,_,hel⟩
 ·have hv:v=.slice none 0 0:=by simpa using hc
  exact ⟨none,0,[],hv,by simp,by unfold maxLen;omega,fun _=>rfl,Recs.nil,fun _ h=>by simp at h⟩
 ·have hv:v=.slice (some a) n cap:=by simpa using hc
  have hnm:n≤m:=by rw [hmm];split <;> omega
  have key:∀ i,i<n→∃ r:α,(∀ j u,(cells r)[j]?=some u→w.cell? ((a.add (i * size)).add j)=some u)∧Ok r∧(cells r).length=size:=by
   intro i hi
   obtain ⟨cs,h1,h2⟩:=hel i (by omega)
   rw [hC] at h1
   obtain ⟨_,hlen,hat⟩:=World.cells?_some h1
   obtain ⟨r,rfl,hr⟩:=hof _ cs _ hlen h2
   refine ⟨r,fun j u hu=>?_,hr,hlen⟩
   have hj:j<size:=by rw [← hlen];exact (List.getElem?_eq_some_iff.1 hu).1
   exact (hat j hj).trans hu
  rcases Nat.eq_zero_or_pos n with hn0 | hn0
  ·subst hn0
   exact ⟨some a,cap,[],by simp [hv],by simp,hm,fun h=>by (cases h),Recs.nil,fun _ h=>by simp at h⟩
  haveI:Inhabited α:=⟨Classical.choose (key 0 hn0)⟩
  obtain ⟨r,hr⟩:=Go.Deep.choose_lt key
  refine ⟨some a,cap,(List.range n).map r,by simp [hv],by simpa using hl,hm,fun h=>by (cases h),?_,fun y hy=>?_⟩
  ·by_cases h0:n=0
   ·exact .inl (by simp [h0])
   ·obtain ⟨ab,ao,spot⟩:=a
    have hl0:=(hr 0 (by omega)).2.2
    have hc0:=(hr 0 (by omega)).1 0 _ (List.getElem?_eq_getElem (show 0<(cells (r 0)).length by omega))
    have hspot:spot=none:=by simpa [Addr.add] using World.cell?_spot hc0
    subst hspot
    have hlt:=World.block_lt_of_cell? _ _ hc0
    simp only [Addr.add_lit] at hlt
    refine .inr ⟨ab,ao,rfl,hlt,fun i hi j u hu=>?_⟩
    have hi':i<n:=by simpa using hi
    simp only [List.getElem_map,List.getElem_range] at hu
    have:=(hr i hi').1 j u hu
    simpa [Addr.add_lit] using this
  ·simp only [List.mem_map,List.mem_range] at hy
   obtain ⟨i,hi,rfl⟩:=hy
   exact (hr i hi).2.1
set_option maxRecDepth 100000 in
theorem open_snap {r:Reach} {b0:Nat} {v:Value} {d:DataW H} {ps:List MemPlace} (hval:Value.okWide Tryz.prog w r b0 26 v) (h:DataW.Trod enc Tryz.prog w base sp held 26 v d ps) :
  ∃ (s:SnapD) (A1 A2 A3:Option Addr) (c1 c2 c3:Nat),v=.agg #[.slice A1 s.nodes.length c1,.slice A2 s.loads.length c2,.slice A3 s.pods.length c3] ∧
   (s.nodes.length≤c1∧c1≤maxLen∧(A1=none→c1=0)∧Recs 10 cellsN w w.heap.size A1 s.nodes∧∀ a ∈ s.nodes,a.Ok) ∧
   (s.loads.length≤c2∧c2≤maxLen∧(A2=none→c2=0)∧Recs 5 cellsL w w.heap.size A2 s.loads∧∀ a ∈ s.loads,a.Ok) ∧
   (s.pods.length≤c3∧c3≤maxLen∧(A3=none→c3=0)∧Recs 8 cellsP w w.heap.size A3 s.pods∧∀ a ∈ s.pods,a.Ok):=by
 obtain ⟨v0,v1,v2,y0,y1,y2,n,rfl,_,_,h0,h1,h2⟩:=Go.Joins.open_agg3 Tryz.underlying26 (by kernel_rfl) Tryz.cellsS hval h
 obtain ⟨A1,c1,l1,rfl,p1⟩:=open_recs (Ok:=NodeD.Ok) Tryz.underlying22 Tryz.cellsN (by decide) (fun _ _ _ hl h=>node_of hl h) h0
 obtain ⟨A2,c2,l2,rfl,p2⟩:=open_recs (Ok:=LoadD.Ok) Tryz.underlying23 Tryz.cellsL (by decide) (fun _ _ _ hl h=>load_of hl h) h1
 obtain ⟨A3,c3,l3,rfl,p3⟩:=open_recs (Ok:=PodD.Ok) Tryz.underlying24 Tryz.cellsP (by decide) (fun _ _ _ hl h=>pod_of hl h) h2
 exact ⟨⟨l1,l2,l3⟩,A1,A2,A3,c1,c2,c3,rfl,p1,p2,p3⟩
set_option maxRecDepth 100000 in
theorem open_spec {r:Reach} {b0:Nat} {v:Value} {d:DataW H} {ps:List MemPlace} (hval:Value.okWide Tryz.prog w r b0 29 v) (h:DataW.Trod enc Tryz.prog w base sp held 29 v d ps) :
  ∃ (x:SpecD) (A:Option Addr) (c:Nat),v=.agg #[.slice A x.wants.length c,.int .i64 x.preempts,.int .i64 x.shifts]∧I64 x.preempts∧I64 x.shifts ∧
   (x.wants.length≤c∧c≤maxLen∧(A=none→c=0)∧Recs 6 cellsW w w.heap.size A x.wants∧∀ a ∈ x.wants,a.Ok):=by
 obtain ⟨v0,v1,v2,y0,y1,y2,n,rfl,_,_,h0,h1,h2⟩:=Go.Joins.open_agg3 Tryz.underlying29 (by kernel_rfl) Tryz.cellsX hval h
 obtain ⟨A,c,l,rfl,p⟩:=open_recs (Ok:=WantD.Ok) Tryz.underlying27 Tryz.cellsW (by decide) (fun _ _ _ hl h=>want_of hl h) h0
 obtain ⟨k1,rfl,i1⟩:=int_of rfl h1
 obtain ⟨k2,rfl,i2⟩:=int_of rfl h2
 exact ⟨⟨l,k1,k2⟩,A,c,rfl,i1,i2,p⟩
end
theorem Tryz.own:ownKnob Tryz.prog.godebug=none:=by kernel_rfl
theorem Tryz.laidOut:laidOutB Tryz.prog=true:=by kernel_rfl
theorem Tryz.et:Tryz.prog.globalNamed "errors.errorType"=some 0:=by kernel_rfl
def rtypeName:String:=match Rows.laid_errors_errorType (H:=Unit) with
 | .iface n _=>n
 | _ => ""
theorem Tryz.rt:(Tryz.prog.cutTypes.find? (·.1 == rtypeName)).map (·.2)=some 203:=by kernel_rfl
theorem Tryz.oneRow:((List.range 322).filter fun t=>Tryz.prog.rowNamed t [101,114,114,111,114])=[36]:=by kernel_rfl
theorem Tryz.typesSize:Tryz.prog.types.size=322:=by kernel_rfl
theorem handle_of_laid {W:World} (h:laidMetH Tryz.prog [("errors.errorType",Rows.laid_errors_errorType)] W):W.cell? ⟨0,0,none⟩=some (.iface 203 (.agg #[.pointer (some ⟨1,36,none⟩)])):=by
 have h':laidMet Tryz.prog [] W∧handlesMet Tryz.prog [("errors.errorType",Rows.laid_errors_errorType)] W:=h
 obtain ⟨name,u,ty,e1,e2,e3,e4,e5⟩:=h'.2 _ (List.mem_singleton.2 rfl)
 have en:name=[101,114,114,111,114]:=(Option.some.inj e1).symm
 subst en
 obtain rfl:=Option.some.inj (Tryz.rt.symm.trans e2)
 have hm:ty ∈ (List.range 322).filter fun t=>Tryz.prog.rowNamed t [101,114,114,111,114]:=List.mem_filter.2 ⟨List.mem_range.2 (by rw [← Tryz.typesSize];exact e3),e4⟩
 rw [Tryz.oneRow] at hm
 obtain rfl:=List.mem_singleton.1 hm
 have hh:typeHandle Tryz.prog 36=.pointer (some ⟨1,36,none⟩):=by kernel_rfl
 rw [hh] at e5
 simpa using World.var?_cell Tryz.et e5 0
noncomputable def laidWorld (os:Os):World :=
 let w0:=World.holding Tryz.prog os ⟨#[],#[],[]⟩
 { w0 with heap:=w0.heap.modify 0 fun
   | .cells _ t frozen=>.cells #[.iface 203 (.agg #[.pointer (some ⟨1,36,none⟩)])] t frozen
   | o=>o }
theorem laidWorld_met (os:Os) (args:Array Value):laidMetH Tryz.prog [("errors.errorType",Rows.laid_errors_errorType)] ((laidWorld os).forCall (fun _ _=>0) ⟨#[],args,[]⟩).memory :=
 laidMetH_of_parts (laidMet_nil _ _) (by kernel_rfl)
end Go.Proofs.YthapilknnhlmfaaGreatDoor
namespace Go.Proofs.YthapilknnhlmfaaGreatDoor
set_option linter.unusedSimpArgs false
open Go.RowKit
set_option linter.unusedVariables false
theorem ret_bool {a b:Bool} (h:a=b):Ending.returned (.bool a)=.returned (.bool b):=by rw [h]
set_option maxHeartbeats 800000 in
theorem few_any (A1 A2 A3:Option Addr) (n1 c1 n2 c2 n3 c3:Nat) (w:World) :
  Calls Tryz.prog 18 #[.agg #[.slice A1 n1 c1,.slice A2 n2 c2,.slice A3 n3 c3]] w fun e w'=>e=.returned (.bool (decide (n1≤40∧n2≤40∧n3≤40)))∧Below w.heap.size w w':=by
 by_cases h1:n1≤40
 ·by_cases h2:n2≤40
  ·by_cases h3:n3≤40
   ·have HE:=Lib.hid (show decide (n1≤40∧n2≤40∧n3≤40)=true by simp [h1,h2,h3])
    have hd:decide ((n3:Int)≤40)=true:=decide_eq_true (by omega)
    go_enter Tryz.func18,Tryz.ntmps18
    go_wp2
    go_ret
    exact ⟨ret_bool HE.out.symm,(Below.refl _ _).alloc (Nat.le_refl _) _⟩
   ·have HE:=Lib.hid (show decide (n1≤40∧n2≤40∧n3≤40)=false by simp;omega)
    have hd:decide ((n3:Int)≤40)=false:=decide_eq_false (by omega)
    go_enter Tryz.func18,Tryz.ntmps18
    go_wp2
    go_ret
    exact ⟨ret_bool HE.out.symm,(Below.refl _ _).alloc (Nat.le_refl _) _⟩
  ·have HE:=Lib.hid (show decide (n1≤40∧n2≤40∧n3≤40)=false by simp;omega)
   have hd:decide ((n2:Int)≤40)=false:=decide_eq_false (by omega)
   go_enter Tryz.func18,Tryz.ntmps18
   go_wp2
   go_ret
   exact ⟨ret_bool HE.out.symm,(Below.refl _ _).alloc (Nat.le_refl _) _⟩
 ·have HE:=Lib.hid (show decide (n1≤40∧n2≤40∧n3≤40)=false by simp;omega)
  have hd:decide ((n1:Int)≤40)=false:=decide_eq_false (by omega)
  go_enter Tryz.func18,Tryz.ntmps18
  go_wp2
  go_ret
  exact ⟨ret_bool HE.out.symm,(Below.refl _ _).alloc (Nat.le_refl _) _⟩
abbrev aggV (x:V4):Value:=.agg #[.int .u64 x.a,.int .u64 x.b,.int .u64 x.c,.int .u64 x.d]
theorem below_two (w:World) (o o':Obj):Below w.heap.size w ((w.alloc o).alloc o'):=((Below.refl _ _).alloc (Nat.le_refl _) o).alloc (by simp) o'
theorem box_cells {w wr:World} {x y z:Value} {t:TypeId} (hb:Below (w.heap.size+1) (w.alloc (.cells #[x,y,z] t)) wr) :
  wr.cell? ⟨w.heap.size,0,none⟩=some x∧wr.cell? ⟨w.heap.size,1,none⟩=some y∧wr.cell? ⟨w.heap.size,2,none⟩=some z:=by
 refine ⟨?_,?_,?_⟩
 all_goals
  rw [hb.cell (by show w.heap.size<w.heap.size+1;omega)]
  simp

theorem firstBad_at {α:Type} {bad:Int→α→Int} {f:α→Int} {l:List α} {la:Int} {k m:Nat} {F:Option (Int × Nat)} (h:k<l.length) {x:α} (hx:l[k]=x) (hf:firstBad bad f la m (l.drop k)=F) :
  (bad la x≠0→F=some (bad la x,m))∧(bad la x=0→firstBad bad f (f x) (m+1) (l.drop (k+1))=F):=by
 rw [List.drop_eq_getElem_cons h,hx,firstBad] at hf
 constructor
 ·intro hb;rw [if_pos hb] at hf;exact hf.symm
 ·intro hb;rw [if_neg (by simpa using hb)] at hf;exact hf
theorem firstBad_end {α:Type} {bad:Int→α→Int} {f:α→Int} {l:List α} {la:Int} {k m:Nat} {F:Option (Int × Nat)} (h:l.length≤k) (hf:firstBad bad f la m (l.drop k)=F):F=none:=by
 rw [List.drop_of_length_le h,firstBad] at hf
 exact hf.symm
theorem check_large {s:SnapD} (h:large s=true):check s=(3,-1):=by unfold check;rw [if_pos h]
theorem check_node {s:SnapD} (h:¬ large s=true) {b:Int} {k:Nat} (hf:firstBad nodeBad NodeD.id 0 0 s.nodes=some (b,k)):check s=(b,(k:Int)):=by unfold check;rw [if_neg h,hf]
theorem check_load {s:SnapD} (h:¬ large s=true) (h1:firstBad nodeBad NodeD.id 0 0 s.nodes=none) {b:Int} {k:Nat} (hf:firstBad loadBad LoadD.id 0 s.nodes.length s.loads=some (b,k)):check s=(b,(k:Int)):=by unfold check;rw [if_neg h,h1,hf]
theorem check_pod {s:SnapD} (h:¬ large s=true) (h1:firstBad nodeBad NodeD.id 0 0 s.nodes=none) (h2:firstBad loadBad LoadD.id 0 s.nodes.length s.loads=none) {b:Int} {k:Nat} (hf:firstBad (podBad s.nodes s.loads) PodD.id 0 (s.nodes.length+s.loads.length) s.pods=some (b,k)):check s=(b,(k:Int)):=by
 unfold check;rw [if_neg h,h1,h2,hf]
theorem check_fine {s:SnapD} (h:¬ large s=true) (h1:firstBad nodeBad NodeD.id 0 0 s.nodes=none) (h2:firstBad loadBad LoadD.id 0 s.nodes.length s.loads=none) (hf:firstBad (podBad s.nodes s.loads) PodD.id 0 (s.nodes.length+s.loads.length) s.pods=none):check s=(0,-1):=by
 unfold check;rw [if_neg h,h1,h2,hf]
theorem num_eqIn (d:Nat) (a b:Int) (w:World):(Op.equalIn (d+1) 55 (.int .u64 a) (.int .u64 b)).run Tryz.prog w=.ok (a == b) w:=by
 simp [Op.equalIn,run_underlying Tryz.underlying55]
theorem part_num (cs:Array Value) (j:Nat) (v:Value) (h:cs[j]?=some v) (w:World):(part 55 cs j).run Tryz.prog w=.ok v w:=by
 have hf:∀ w:World,(isAgg 55).run Tryz.prog w=.ok false w:=fun _=>by kernel_rfl
 simp [part,hf,h]
theorem vec_eqlIn (d:Nat) (a0 a1 a2 a3 b0 b1 b2 b3:Int) (w:World) :
  (Op.equalIn (d+2) 57 (.agg #[.int .u64 a0,.int .u64 a1,.int .u64 a2,.int .u64 a3]) (.agg #[.int .u64 b0,.int .u64 b1,.int .u64 b2,.int .u64 b3])).run Tryz.prog w
   = .ok (a0 == b0 && (a1 == b1 && (a2 == b2 && a3 == b3))) w:=by
 obtain ⟨i,hi⟩:=Option.isSome_iff_exists.1 (show (Tryz.prog.info? 55).isSome=true by kernel_rfl)
 rw [run_equalIn_array w (d+1) _ _ Tryz.underlying57 hi]
 have hc:Tryz.prog.cellsOf 55=1:=by kernel_rfl
 rw [hc,show List.range 4=[0,1,2,3] from rfl]
 simp only [Op.eqItems,Sem.run_bind,Nat.mul_one]
 rw [part_num #[.int .u64 a0,.int .u64 a1,.int .u64 a2,.int .u64 a3] 0 (.int .u64 a0) rfl]
 simp only [Result.andThen_ok]
 rw [part_num _ 0 (.int .u64 b0) rfl]
 simp only [Result.andThen_ok,num_eqIn]
 cases h0:a0 == b0
 ·simp
 simp only [Bool.not_true,Bool.false_eq_true,if_false,Sem.run_bind,Bool.true_and]
 rw [part_num _ 1 (.int .u64 a1) rfl]
 simp only [Result.andThen_ok]
 rw [part_num _ 1 (.int .u64 b1) rfl]
 simp only [Result.andThen_ok,num_eqIn]
 cases h1:a1 == b1
 ·simp
 simp only [Bool.not_true,Bool.false_eq_true,if_false,Sem.run_bind,Bool.true_and]
 rw [part_num _ 2 (.int .u64 a2) rfl]
 simp only [Result.andThen_ok]
 rw [part_num _ 2 (.int .u64 b2) rfl]
 simp only [Result.andThen_ok,num_eqIn]
 cases h2:a2 == b2
 ·simp
 simp only [Bool.not_true,Bool.false_eq_true,if_false,Sem.run_bind,Bool.true_and]
 rw [part_num _ 3 (.int .u64 a3) rfl]
 simp only [Result.andThen_ok]
 rw [part_num _ 3 (.int .u64 b3) rfl]
 simp only [Result.andThen_ok,num_eqIn]
 cases h3:a3 == b3 <;> simp
theorem vec_eql (a0 a1 a2 a3 b0 b1 b2 b3:Int) (w:World) :
  (binOp .eql 57 (.agg #[.int .u64 a0,.int .u64 a1,.int .u64 a2,.int .u64 a3]) (.agg #[.int .u64 b0,.int .u64 b1,.int .u64 b2,.int .u64 b3])).run Tryz.prog w
   = .ok (.bool (a0 == b0 && (a1 == b1 && (a2 == b2 && a3 == b3)))) w:=by
 simp only [binOp]
 simp [Op.equal,Op.maxDepth,vec_eqlIn 9998]
theorem vec_neq0 (x:V4) (w:World) :
  (binOp .neq 57 (aggV x) (.agg #[.int .u64 0,.int .u64 0,.int .u64 0,.int .u64 0])).run Tryz.prog w=.ok (.bool (!x.zero)) w:=by
 simp only [binOp]
 have e:x.zero=(x.a == 0 && (x.b == 0 && (x.c == 0 && x.d == 0))):=by
  unfold V4.zero
  rw [Bool.eq_iff_iff]
  simp
 rw [e]
 simp [Op.equal,Op.maxDepth,vec_eqlIn 9998]
theorem part_int (cs:Array Value) (j:Nat) (v:Value) (h:cs[j]?=some v) (w:World):(part 3 cs j).run Tryz.prog w=.ok v w:=by
 have hf:∀ w:World,(isAgg 3).run Tryz.prog w=.ok false w:=fun _=>by kernel_rfl
 simp [part,hf,h]
end Go.Proofs.YthapilknnhlmfaaGreatDoor
namespace Go.Proofs.YthapilknnhlmfaaGreatDoor
set_option linter.unusedSimpArgs false
open Go.RowKit
set_option linter.unusedVariables false
set_option linter.unusedSimpArgs false
theorem below_draws {B:Nat} {a w:World} (h:Below B a w) (n:Nat):Below B a (w.drewN n):=⟨h.os,h.tape,h.output,h.size,h.block⟩
theorem box2_cells {w wr:World} {x y z x' y' z':Value} {t t':TypeId} (hb:Below (w.heap.size+2) ((w.alloc (.cells #[x,y,z] t)).alloc (.cells #[x',y',z'] t')) wr) :
  (wr.cell? ⟨w.heap.size,0,none⟩=some x∧wr.cell? ⟨w.heap.size,1,none⟩=some y∧wr.cell? ⟨w.heap.size,2,none⟩=some z) ∧
  (wr.cell? ⟨w.heap.size+1,0,none⟩=some x'∧wr.cell? ⟨w.heap.size+1,1,none⟩=some y'∧wr.cell? ⟨w.heap.size+1,2,none⟩=some z'):=by
 refine ⟨⟨?_,?_,?_⟩,?_,?_,?_⟩
 all_goals
  rw [hb.cell (by simp)]
  simp
def FairRel (s:SnapD) (x:SpecD) (W:World) (B:Nat) (i:Value) (wr:World):Prop :=
 ∃ (k:Nat) (fst:Bool) (la:Int),k≤x.wants.length∧i=.int .i64 k∧(k=0→fst=true)∧(∀ j (hj:j<x.wants.length),k=j+1→fst=false∧la=x.wants[j].pod) ∧
  firstWant s fst la k (x.wants.drop k)=firstWant s true 0 0 x.wants∧Below B W wr
theorem fairRel_next {s:SnapD} {x:SpecD} {W wr:World} {B k:Nat} {wd:WantD} (hk:k<x.wants.length) (hx:x.wants[k]=wd) (h:firstWant s false wd.pod (k+1) (x.wants.drop (k+1))=firstWant s true 0 0 x.wants) (hb:Below B W wr):FairRel s x W B (.int .i64 ((k:Int)+1)) wr:=by
 refine ⟨k+1,false,wd.pod,by omega,by simp,fun h=>by omega,fun j hj h=>⟨rfl,?_⟩,h,hb⟩
 obtain rfl:j=k:=by omega
 rw [hx]
theorem firstWant_at {s:SnapD} {l:List WantD} {fst:Bool} {la:Int} {k m:Nat} {F:Option (Int × Nat)} (h:k<l.length) {x:WantD} (hx:l[k]=x) (hf:firstWant s fst la m (l.drop k)=F) :
  (wantBad s fst la x≠0→F=some (wantBad s fst la x,m))∧(wantBad s fst la x=0→firstWant s false x.pod (m+1) (l.drop (k+1))=F):=by
 rw [List.drop_eq_getElem_cons h,hx,firstWant] at hf
 constructor
 ·intro hb;rw [if_pos hb] at hf;exact hf.symm
 ·intro hb;rw [if_neg (by simpa using hb)] at hf;exact hf
theorem fair_bad {s:SnapD} {x:SpecD} (h:(check s).1≠0):fair s x=check s:=by unfold fair;rw [if_pos h]
theorem fair_large {s:SnapD} {x:SpecD} (h:(check s).1=0) (h1:x.preempts<0∨40<x.preempts∨x.shifts<0∨40<x.shifts):fair s x=(3,-1):=by unfold fair;rw [if_neg (by simpa using h),if_pos h1]
theorem fair_some {s:SnapD} {x:SpecD} (h:(check s).1=0) (h1:¬ (x.preempts<0∨40<x.preempts∨x.shifts<0∨40<x.shifts)) {b:Int} {k:Nat} (hf:firstWant s true 0 0 x.wants=some (b,k)):fair s x=(b,(k:Int)):=by
 unfold fair;rw [if_neg (by simpa using h),if_neg h1,hf]
theorem fair_fine {s:SnapD} {x:SpecD} (h:(check s).1=0) (h1:¬ (x.preempts<0∨40<x.preempts∨x.shifts<0∨40<x.shifts)) (hf:firstWant s true 0 0 x.wants=none):fair s x=(0,-1):=by
 unfold fair;rw [if_neg (by simpa using h),if_neg h1,hf]
end Go.Proofs.YthapilknnhlmfaaGreatDoor
namespace Go.Proofs.YthapilknnhlmfaaGreatDoor
set_option linter.unusedSimpArgs false
open Go.RowKit Go.Extern.Stop Go.Stop Go.Extern
set_option linter.unusedVariables false
theorem as_nil (t:Value) (w:World) :
  Calls Tryz.prog 58 #[.nilIface,t] w fun e w'=>e=.returned (.bool false)∧w'=w:=by
 go_enter Tryz.func58,Tryz.ntmps58
 go_wp2
 go_ret
 exact ⟨rfl,rfl⟩
theorem Tryz.methodKind (h:Value) (w:World):(Go.method 422 203 (.agg #[h]) "Kind").run Tryz.prog w=.ok (238,h) w:=by kernel_rfl
theorem rlm (z:Sem Value) (f:TypeId→Addr→Nat→Nat→Sem Value) (v:Value) :
  ReflectliteValue.method z f #[v]=(do match ← ReflectliteValue.parts v with | none=>z | some (t,a,fl)=>f t a fl (fl % 32)):=rfl
theorem Tryz.methodElem (h:Value) (w:World):(Go.method 422 203 (.agg #[h]) "Elem").run Tryz.prog w=.ok (250,.agg #[h]) w:=by kernel_rfl
theorem Tryz.methodImplements (h:Value) (w:World):(Go.method 422 203 (.agg #[h]) "Implements").run Tryz.prog w=.ok (251,.agg #[h]) w:=by kernel_rfl
theorem Tryz.methodAssignableTo (h:Value) (w:World):(Go.method 422 203 (.agg #[h]) "AssignableTo").run Tryz.prog w=.ok (248,.agg #[h]) w:=by kernel_rfl
theorem Tryz.typeOfSpot (v:Value) (w:World):(ReflectliteType.typeOf #[.iface 123 v]).run Tryz.prog w=.ok (.iface 203 (.agg #[.pointer (some ⟨1,123,none⟩)])) w:=by kernel_rfl
theorem Tryz.hasUnwrapSpot (v:Value) (xT:TypeId) (w:World):(Instr.typeAssert (.iface 123 v) xT 210 true).run Tryz.prog w=.ok (.tuple #[.iface 123 v,.bool true]) w:=run_typeAssert_hasB Tryz.underlying210 (by kernel_rfl) v xT w
theorem Tryz.methodUnwrap (v:Value) (w:World):(Go.method 422 123 v "Unwrap").run Tryz.prog w=.ok (243,v) w:=by kernel_rfl
theorem Tryz.compCode:(Tryz.prog.info? 42).map (·.comparable)=some true:=by kernel_rfl
theorem eql_codes (a:Int) (w:World):(binOp .eql 36 (.iface 42 (.int .i64 a)) (.iface 42 (.int .i64 a))).run Tryz.prog w=.ok (.bool true) w:=by
 obtain ⟨i,hi,hcmp⟩:=Option.map_eq_some_iff.1 Tryz.compCode
 have h:∀ d:Nat,(Op.equalIn (d+2) 36 (.iface 42 (.int .i64 a)) (.iface 42 (.int .i64 a))).run Tryz.prog w=.ok true w:=fun d=>by
  simp [Op.equalIn,run_underlying Tryz.underlying36,run_underlying Tryz.underlying42,typeInfo,hi,hcmp]
 simp only [binOp]
 simp [Op.equal,Op.maxDepth,h 9998]
end Go.Proofs.YthapilknnhlmfaaGreatDoor
namespace Go.Proofs.YthapilknnhlmfaaGreatDoor
set_option linter.unusedSimpArgs false
open Go.RowKit
set_option linter.unusedVariables false


def ErrIs (p:Int × Int) (B:Nat) (w':World) (u:Value):Prop :=
 (p=(0,-1)∧u=.nilIface)∨(p.2=-1∧1≤p.1∧p.1≤17∧u=.iface 42 (.int .i64 p.1)) ∨
 ∃ k g:Nat,p.2=k∧u=.iface 123 (.pointer (some ⟨g,0,none⟩))∧B≤g∧w'.heap[g]?=some (.cells #[.int .i64 (k:Int),.int .i64 p.1] 128 (0,0))
def ErrTo (p:Int × Int) (w:World) (e:Ending) (w':World):Prop:=∃ u,e=.returned u∧ErrIs p w.heap.size w' u∧Below w.heap.size w w'
abbrev Laid (w:World):Prop:=w.cell? ⟨0,0,none⟩=some (.iface 203 (.agg #[.pointer (some ⟨1,36,none⟩)]))
theorem Laid.below {w w':World} {B:Nat} (h:Laid w) (hb:Below B w w') (hB:w.heap.size≤B):Laid w' :=
 (hb.cell (p:=⟨0,0,none⟩) (Nat.lt_of_lt_of_le (World.block_lt_of_cell? w _ h) hB)).trans h

abbrev snapV (A1 A2 A3:Option Addr) (n1 c1 n2 c2 n3 c3:Nat):Value:=.agg #[.slice A1 n1 c1,.slice A2 n2 c2,.slice A3 n3 c3]
abbrev specV (A4:Option Addr) (n4 c4:Nat) (x:SpecD):Value:=.agg #[.slice A4 n4 c4,.int .i64 x.preempts,.int .i64 x.shifts]
theorem ErrIs.below {p:Int × Int} {B:Nat} {w w':World} {u:Value} (h:ErrIs p B w u) (hb:Below w.heap.size w w'):ErrIs p B w' u:=by
 rcases h with h | h | ⟨k,g,h1,h2,h3,h4⟩
 ·exact .inl h
 ·exact .inr (.inl h)
 ·exact .inr (.inr ⟨k,g,h1,h2,h3,(hb.block g (Array.getElem?_eq_some_iff.1 h4).1).trans h4⟩)
end Go.Proofs.YthapilknnhlmfaaGreatDoor
