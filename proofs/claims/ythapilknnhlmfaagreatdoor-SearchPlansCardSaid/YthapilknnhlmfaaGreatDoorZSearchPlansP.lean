/- The law SearchPlans: for every snapshot, every spec, every list of moves and any two numbers the call returns true, and each argument reads afterwards as it read before; the package-level variable errors.errorType starts as the program's text lays it (the card ties it). There is no other condition. -/
import Derived.Test.YthapilknnhlmfaaGreatDoorZ01
import Derived.Test.YthapilknnhlmfaaGreatDoorZ02
import Derived.Test.YthapilknnhlmfaaGreatDoorZ23
import Derived.SevenTiedAt

namespace Go.Proofs.YthapilknnhlmfaaGreatDoor
set_option linter.unusedSimpArgs false
open Go.ChangeShapes Go.WideShapes Go.ChangeAt Go.RowKit
set_option maxHeartbeats 400000 in
set_option maxRecDepth 100000 in
theorem searchPlans_lifted (os:Os) (started:os.Started) (H:Type) (enc:TypeId × Value→H) :
  ReturnsInHanded {} Tryz.checked os 5 .any (fun w args=>(Rows.searchPlansSpec.pre enc Tryz.prog Tryz.f5 [] false w args∧laidMetH Tryz.prog [("errors.errorType",Rows.laid_errors_errorType)] w)∧sizedMet enc Tryz.prog Tryz.f5 (OpenSpec.ofChange Rows.searchPlansSpec) false w args)
   (Rows.searchPlansSpec.post enc Tryz.prog Tryz.f5 false true false false):=by
 refine returnsInHanded_of_change_and (C:=Tryz.checked) (X:=fun w _=>laidMetH Tryz.prog [("errors.errorType",Rows.laid_errors_errorType)] w) (fun _ _ _ hh h=>h.of_heap hh) Tryz.own started (by kernel_rfl) Tryz.func5
  (ChangeSpec.witness_at (enc:=enc) (C:=Tryz.checked) (os:=os) (X:=fun w _=>laidMetH Tryz.prog [("errors.errorType",Rows.laid_errors_errorType)] w) false (laidWorld os) #[.agg #[.slice none 0 0,.slice none 0 0,.slice none 0 0],.agg #[.slice none 0 0,.int .i64 0,.int .i64 0],.slice none 0 0,.int .i64 0,.int .i64 0] 8 rfl (by kernel_rfl) (by kernel_rfl) (by kernel_rfl) (by kernel_rfl) (by kernel_rfl) (laidWorld_met os _)) ?_
 intro W base args ds gs before hval0 hW _ _ hL _
 have hval:∀ (j:Nat) t v,Tryz.f5.params[j]?=some t→args[j]?=some v→Value.okWide Tryz.prog W .any base t v:=hval0
 have hW':=hW
 have hlt:∀ x ∈ before,x.block<W.heap.size:=fun x hx=>hW.lt x hx
 obtain ⟨p,q,hA0,hV,rfl,_,_⟩:=hW
 have hA:DataW.TrodAll enc Tryz.prog W 0 (fun _=>true) true Tryz.f5.params.toList args.toList ds p:=hA0
 rw [Tryz.params5] at hA hval
 obtain ⟨v0,v1,v2,v3,v4,d0,d1,d2,d3,d4,p0,p1,p2,p3,p4,rfl,rfl,rfl,h0,h1,h2,h3,h4⟩:=trodAll_five hA
 obtain ⟨rfl,rfl⟩:=trodVars_none hV
 have hv0:=hval 0 26 v0 rfl rfl
 have hv1:=hval 1 29 v1 rfl rfl
 have hv2:=hval 2 32 v2 rfl rfl
 have hv3:=hval 3 3 v3 rfl rfl
 have hv4:=hval 4 3 v4 rfl rfl
 clear hA0 hval0
 simp only [List.append_nil] at hW' hlt
 obtain ⟨s,A1,A2,A3,c1,c2,c3,e0,g1,g2,g3⟩:=open_snap hv0 h0
 obtain ⟨x,A5,c5,e1,i5,j5,g5⟩:=open_spec hv1 h1
 obtain ⟨ml,A6,c6,e2,q1,q2,q3⟩:=open_movesV hv2 h2
 obtain ⟨id,e3,i3,_,_⟩:=open_int Tryz.underlying3 hv3 h3
 obtain ⟨id2,e4,i4,_,_⟩:=open_int Tryz.underlying3 hv4 h4
 subst e0 e1 e2 e3 e4
 refine (searchPlans_in s x ml id id2 ⟨g1.2.2.2.2,g2.2.2.2.2,g3.2.2.2.2⟩ g5.2.2.2.2 i5 j5 A1 A2 A3 A5 A6 _ c1 _ c2 _ c3 _ c5 _ c6 W (handle_of_laid hL) ⟨rfl,g1.1,g1.2.1⟩ ⟨rfl,g2.1,g2.2.1⟩ ⟨rfl,g3.1,g3.2.1,g3.2.2.1⟩ ⟨rfl,g5.1,g5.2.1⟩ ⟨rfl,q1,q2⟩ g1.2.2.2.1 g2.2.2.2.1 g3.2.2.2.1 g5.2.2.2.1 q3).mono fun e W' ⟨he,hb⟩=>?_
 subst he
 exact ⟨_,rfl,_,_,_,[],_,[],hW',trodAll_mk1 (shut_bool Tryz.underlying4 true),trodAll_mk5 (hb.trod Tryz.laidOut (by kernel_rfl) (of_decide_eq_true (by kernel_rfl)) h0 (fun x hx=>hlt x (by simp [hx]))) (hb.trod Tryz.laidOut (by kernel_rfl) (of_decide_eq_true (by kernel_rfl)) h1 (fun x hx=>hlt x (by simp [hx]))) (hb.trod Tryz.laidOut (by kernel_rfl) (of_decide_eq_true (by kernel_rfl)) h2 (fun x hx=>hlt x (by simp [hx]))) (hb.trod Tryz.laidOut (by kernel_rfl) (of_decide_eq_true (by kernel_rfl)) h3 (fun x hx=>hlt x (by simp [hx]))) (hb.trod Tryz.laidOut (by kernel_rfl) (of_decide_eq_true (by kernel_rfl)) h4 (fun x hx=>hlt x (by simp [hx]))),rfl,hb.frame _,fun h=>by cases h⟩

theorem searchPlans_row:Rows.SearchPlansSaid :=
 OpenClaim.holds_of_wide 5 Tryz.f5 rfl rfl rfl rfl rfl rfl rfl ⟨rfl,rfl,rfl,rfl,rfl⟩ rfl rfl rfl rfl rfl (by kernel_rfl) Tryz.func5 (by kernel_rfl)
  (of_decide_eq_true (by kernel_rfl)) (by unfold Func.isWrapper;first | (rw [if_pos (by decide +kernel)];kernel_rfl) | (rw [if_neg (by decide +kernel)];exact ⟨rfl,rfl⟩))
  (fun os started H enc _=>searchPlans_lifted os started H enc)

theorem searchPlans_holds:Rows.SearchPlansCardSaid :=
 Claim7.holds_tied_plain_at .later [] [.handle] true (true,"5acea848bb36bf8d1d651ce2d796a7927b367709ce9f200aa38e38b75db50257") true
  searchPlans_row (fun _ h=>by cases h) (by kernel_rfl) (fun _ h=>by cases h) searchPlans_row_tie rfl ⟨rfl,rfl⟩ (by kernel_rfl) rfl
  (fun f fn hf hfn=>by
   obtain rfl:f=5:=Option.some.inj ((show Tryz.prog.funcNamed Rows.searchPlansRow.func=some 5 by kernel_rfl).symm.trans hf) |>.symm
   obtain rfl:fn=Tryz.f5:=(Option.some.inj (Tryz.func5.symm.trans hfn)).symm
   exact ⟨by kernel_rfl,fun j t ht=>by
    rw [Tryz.params5] at ht
    rcases j with _ | j
    ·obtain rfl:t=26:=by simpa using ht.symm
     exact (show Tryz.prog.wantsStandIn 26=false by kernel_rfl)
    rcases j with _ | j
    ·obtain rfl:t=29:=by simpa using ht.symm
     exact (show Tryz.prog.wantsStandIn 29=false by kernel_rfl)
    rcases j with _ | j
    ·obtain rfl:t=32:=by simpa using ht.symm
     exact (show Tryz.prog.wantsStandIn 32=false by kernel_rfl)
    rcases j with _ | j
    ·obtain rfl:t=3:=by simpa using ht.symm
     exact (show Tryz.prog.wantsStandIn 3=false by kernel_rfl)
    rcases j with _ | j
    ·obtain rfl:t=3:=by simpa using ht.symm
     exact (show Tryz.prog.wantsStandIn 3=false by kernel_rfl)
    ·simp at ht⟩)
  (by kernel_rfl)
end Go.Proofs.YthapilknnhlmfaaGreatDoor
