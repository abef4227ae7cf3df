/- Joined texts, part 8: VecB VecC VecD VecL VecM WV WL. -/
import Derived.Test.YthapilknnhlmfaaGreatDoorZ07
import Derived.Deep.Slices
import Derived.Deep.RegionWith
import Derived.Test.YthapilknnhlmfaaGreatDoorZ04
import Derived.Test.YthapilknnhlmfaaGreatDoorZ01
import Derived.Test.YthapilknnhlmfaaGreatDoorZ02

namespace Go.Proofs.YthapilknnhlmfaaGreatDoor
set_option linter.unusedSimpArgs false
open Go.RowKit
set_option linter.unusedVariables false
set_option maxHeartbeats 1000000 in
theorem add_o0 (a0 a1 a2 a3 b0 b1 b2 b3:Int) (p0:0≤a0) (p1:0≤a1) (p2:0≤a2) (p3:0≤a3) (q0:0≤b0) (q1:0≤b1) (q2:0≤b2) (q3:0≤b3) (pm0:a0<18446744073709551616) (pm1:a1<18446744073709551616) (pm2:a2<18446744073709551616) (pm3:a3<18446744073709551616) (qm0:b0<18446744073709551616) (qm1:b1<18446744073709551616) (qm2:b2<18446744073709551616) (qm3:b3<18446744073709551616)  (h0:18446744073709551616≤a0+b0) (w:World) :
  Calls Tryz.prog 189 #[.agg #[.int .u64 a0,.int .u64 a1,.int .u64 a2,.int .u64 a3],.agg #[.int .u64 b0,.int .u64 b1,.int .u64 b2,.int .u64 b3]] w fun e w' =>
   e=.returned (.tuple #[.agg #[.int .u64 0,.int .u64 0,.int .u64 0,.int .u64 0],.iface 42 (.int .i64 8)])∧Below w.heap.size w w':=by
 have e0:=add64_over a0 b0 p0 q0 pm0 qm0 h0
 go_enter Tryz.func189,Tryz.ntmps189
 go_wp2
 refine wp_loop_rounds 5 ?_
 rw [rounds_succ]
 go_wp2
 go_quiet (fail)
 go_wp2
 refine bodyPost_ret (v:=.tuple #[.agg #[.int .u64 0,.int .u64 0,.int .u64 0,.int .u64 0],.iface 42 (.int .i64 8)]) ?_ rfl ?_
 ·simp [results,Tryz.results189,go_sem]
 ·clear e0
  refine ⟨rfl,?_⟩
  repeat (first | with_reducible exact Below.refl _ _ | with_reducible refine Below.setCell ?_ ?_ _ | with_reducible refine below_drewN ?_ _ | with_reducible refine Below.alloc ?_ ?_ _)
  all_goals first | (simp;done) | (simp;omega)
set_option maxHeartbeats 1000000 in
theorem add_o1 (a0 a1 a2 a3 b0 b1 b2 b3:Int) (p0:0≤a0) (p1:0≤a1) (p2:0≤a2) (p3:0≤a3) (q0:0≤b0) (q1:0≤b1) (q2:0≤b2) (q3:0≤b3) (pm0:a0<18446744073709551616) (pm1:a1<18446744073709551616) (pm2:a2<18446744073709551616) (pm3:a3<18446744073709551616) (qm0:b0<18446744073709551616) (qm1:b1<18446744073709551616) (qm2:b2<18446744073709551616) (qm3:b3<18446744073709551616) (h0:a0+b0<18446744073709551616) (h1:18446744073709551616≤a1+b1) (w:World) :
  Calls Tryz.prog 189 #[.agg #[.int .u64 a0,.int .u64 a1,.int .u64 a2,.int .u64 a3],.agg #[.int .u64 b0,.int .u64 b1,.int .u64 b2,.int .u64 b3]] w fun e w' =>
   e=.returned (.tuple #[.agg #[.int .u64 0,.int .u64 0,.int .u64 0,.int .u64 0],.iface 42 (.int .i64 8)])∧Below w.heap.size w w':=by
 have e0:=add64_ok a0 b0 p0 q0 h0
 have e1:=add64_over a1 b1 p1 q1 pm1 qm1 h1
 go_enter Tryz.func189,Tryz.ntmps189
 go_wp2
 refine wp_loop_rounds 5 ?_
 rw [rounds_succ]
 go_wp2
 go_quiet (fail)
 go_wp2
 rw [rounds_succ]
 go_wp2
 go_quiet (fail)
 go_wp2
 refine bodyPost_ret (v:=.tuple #[.agg #[.int .u64 0,.int .u64 0,.int .u64 0,.int .u64 0],.iface 42 (.int .i64 8)]) ?_ rfl ?_
 ·simp [results,Tryz.results189,go_sem]
 ·clear e0 e1
  refine ⟨rfl,?_⟩
  repeat (first | with_reducible exact Below.refl _ _ | with_reducible refine Below.setCell ?_ ?_ _ | with_reducible refine below_drewN ?_ _ | with_reducible refine Below.alloc ?_ ?_ _)
  all_goals first | (simp;done) | (simp;omega)
set_option maxHeartbeats 1000000 in
theorem add_o2 (a0 a1 a2 a3 b0 b1 b2 b3:Int) (p0:0≤a0) (p1:0≤a1) (p2:0≤a2) (p3:0≤a3) (q0:0≤b0) (q1:0≤b1) (q2:0≤b2) (q3:0≤b3) (pm0:a0<18446744073709551616) (pm1:a1<18446744073709551616) (pm2:a2<18446744073709551616) (pm3:a3<18446744073709551616) (qm0:b0<18446744073709551616) (qm1:b1<18446744073709551616) (qm2:b2<18446744073709551616) (qm3:b3<18446744073709551616) (h0:a0+b0<18446744073709551616) (h1:a1+b1<18446744073709551616) (h2:18446744073709551616≤a2+b2) (w:World) :
  Calls Tryz.prog 189 #[.agg #[.int .u64 a0,.int .u64 a1,.int .u64 a2,.int .u64 a3],.agg #[.int .u64 b0,.int .u64 b1,.int .u64 b2,.int .u64 b3]] w fun e w' =>
   e=.returned (.tuple #[.agg #[.int .u64 0,.int .u64 0,.int .u64 0,.int .u64 0],.iface 42 (.int .i64 8)])∧Below w.heap.size w w':=by
 have e0:=add64_ok a0 b0 p0 q0 h0
 have e1:=add64_ok a1 b1 p1 q1 h1
 have e2:=add64_over a2 b2 p2 q2 pm2 qm2 h2
 go_enter Tryz.func189,Tryz.ntmps189
 go_wp2
 refine wp_loop_rounds 5 ?_
 rw [rounds_succ]
 go_wp2
 go_quiet (fail)
 go_wp2
 rw [rounds_succ]
 go_wp2
 go_quiet (fail)
 go_wp2
 rw [rounds_succ]
 go_wp2
 go_quiet (fail)
 go_wp2
 refine bodyPost_ret (v:=.tuple #[.agg #[.int .u64 0,.int .u64 0,.int .u64 0,.int .u64 0],.iface 42 (.int .i64 8)]) ?_ rfl ?_
 ·simp [results,Tryz.results189,go_sem]
 ·clear e0 e1 e2
  refine ⟨rfl,?_⟩
  repeat (first | with_reducible exact Below.refl _ _ | with_reducible refine Below.setCell ?_ ?_ _ | with_reducible refine below_drewN ?_ _ | with_reducible refine Below.alloc ?_ ?_ _)
  all_goals first | (simp;done) | (simp;omega)
set_option maxHeartbeats 1000000 in
theorem add_o3 (a0 a1 a2 a3 b0 b1 b2 b3:Int) (p0:0≤a0) (p1:0≤a1) (p2:0≤a2) (p3:0≤a3) (q0:0≤b0) (q1:0≤b1) (q2:0≤b2) (q3:0≤b3) (pm0:a0<18446744073709551616) (pm1:a1<18446744073709551616) (pm2:a2<18446744073709551616) (pm3:a3<18446744073709551616) (qm0:b0<18446744073709551616) (qm1:b1<18446744073709551616) (qm2:b2<18446744073709551616) (qm3:b3<18446744073709551616) (h0:a0+b0<18446744073709551616) (h1:a1+b1<18446744073709551616) (h2:a2+b2<18446744073709551616) (h3:18446744073709551616≤a3+b3) (w:World) :
  Calls Tryz.prog 189 #[.agg #[.int .u64 a0,.int .u64 a1,.int .u64 a2,.int .u64 a3],.agg #[.int .u64 b0,.int .u64 b1,.int .u64 b2,.int .u64 b3]] w fun e w' =>
   e=.returned (.tuple #[.agg #[.int .u64 0,.int .u64 0,.int .u64 0,.int .u64 0],.iface 42 (.int .i64 8)])∧Below w.heap.size w w':=by
 have e0:=add64_ok a0 b0 p0 q0 h0
 have e1:=add64_ok a1 b1 p1 q1 h1
 have e2:=add64_ok a2 b2 p2 q2 h2
 have e3:=add64_over a3 b3 p3 q3 pm3 qm3 h3
 go_enter Tryz.func189,Tryz.ntmps189
 go_wp2
 refine wp_loop_rounds 5 ?_
 rw [rounds_succ]
 go_wp2
 go_quiet (fail)
 go_wp2
 rw [rounds_succ]
 go_wp2
 go_quiet (fail)
 go_wp2
 rw [rounds_succ]
 go_wp2
 go_quiet (fail)
 go_wp2
 rw [rounds_succ]
 go_wp2
 go_quiet (fail)
 go_wp2
 refine bodyPost_ret (v:=.tuple #[.agg #[.int .u64 0,.int .u64 0,.int .u64 0,.int .u64 0],.iface 42 (.int .i64 8)]) ?_ rfl ?_
 ·simp [results,Tryz.results189,go_sem]
 ·clear e0 e1 e2 e3
  refine ⟨rfl,?_⟩
  repeat (first | with_reducible exact Below.refl _ _ | with_reducible refine Below.setCell ?_ ?_ _ | with_reducible refine below_drewN ?_ _ | with_reducible refine Below.alloc ?_ ?_ _)
  all_goals first | (simp;done) | (simp;omega)
set_option maxHeartbeats 1000000 in
theorem add_ok (a0 a1 a2 a3 b0 b1 b2 b3:Int) (p0:0≤a0) (p1:0≤a1) (p2:0≤a2) (p3:0≤a3) (q0:0≤b0) (q1:0≤b1) (q2:0≤b2) (q3:0≤b3) (pm0:a0<18446744073709551616) (pm1:a1<18446744073709551616) (pm2:a2<18446744073709551616) (pm3:a3<18446744073709551616) (qm0:b0<18446744073709551616) (qm1:b1<18446744073709551616) (qm2:b2<18446744073709551616) (qm3:b3<18446744073709551616) (h0:a0+b0<18446744073709551616) (h1:a1+b1<18446744073709551616) (h2:a2+b2<18446744073709551616) (h3:a3+b3<18446744073709551616) (w:World) :
  Calls Tryz.prog 189 #[.agg #[.int .u64 a0,.int .u64 a1,.int .u64 a2,.int .u64 a3],.agg #[.int .u64 b0,.int .u64 b1,.int .u64 b2,.int .u64 b3]] w fun e w' =>
   e=.returned (.tuple #[.agg #[.int .u64 (a0+b0),.int .u64 (a1+b1),.int .u64 (a2+b2),.int .u64 (a3+b3)],.nilIface])∧Below w.heap.size w w':=by
 have e0:=add64_ok a0 b0 p0 q0 h0
 have e1:=add64_ok a1 b1 p1 q1 h1
 have e2:=add64_ok a2 b2 p2 q2 h2
 have e3:=add64_ok a3 b3 p3 q3 h3
 go_enter Tryz.func189,Tryz.ntmps189
 go_wp2
 refine wp_loop_rounds 5 ?_
 rw [rounds_succ]
 go_wp2
 go_quiet (fail)
 go_wp2
 rw [rounds_succ]
 go_wp2
 go_quiet (fail)
 go_wp2
 rw [rounds_succ]
 go_wp2
 go_quiet (fail)
 go_wp2
 rw [rounds_succ]
 go_wp2
 go_quiet (fail)
 go_wp2
 rw [rounds_succ]
 go_wp2
 refine bodyPost_ret (v:=.tuple #[.agg #[.int .u64 (a0+b0),.int .u64 (a1+b1),.int .u64 (a2+b2),.int .u64 (a3+b3)],.nilIface]) ?_ rfl ?_
 ·simp [results,Tryz.results189,go_sem]
 ·clear e0 e1 e2 e3
  refine ⟨rfl,?_⟩
  repeat (first | with_reducible exact Below.refl _ _ | with_reducible refine Below.setCell ?_ ?_ _ | with_reducible refine below_drewN ?_ _ | with_reducible refine Below.alloc ?_ ?_ _)
  all_goals first | (simp;done) | (simp;omega)
theorem add_over (a0 a1 a2 a3 b0 b1 b2 b3:Int) (p0:0≤a0) (p1:0≤a1) (p2:0≤a2) (p3:0≤a3) (q0:0≤b0) (q1:0≤b1) (q2:0≤b2) (q3:0≤b3) (pm0:a0<18446744073709551616) (pm1:a1<18446744073709551616) (pm2:a2<18446744073709551616) (pm3:a3<18446744073709551616) (qm0:b0<18446744073709551616) (qm1:b1<18446744073709551616) (qm2:b2<18446744073709551616) (qm3:b3<18446744073709551616) (h:¬ (a0+b0<18446744073709551616∧a1+b1<18446744073709551616∧a2+b2<18446744073709551616∧a3+b3<18446744073709551616)) (w:World) :
  Calls Tryz.prog 189 #[.agg #[.int .u64 a0,.int .u64 a1,.int .u64 a2,.int .u64 a3],.agg #[.int .u64 b0,.int .u64 b1,.int .u64 b2,.int .u64 b3]] w fun e w' =>
   e=.returned (.tuple #[.agg #[.int .u64 0,.int .u64 0,.int .u64 0,.int .u64 0],.iface 42 (.int .i64 8)])∧Below w.heap.size w w':=by
 by_cases h0:a0+b0<18446744073709551616
 rotate_left
 ·exact add_o0 a0 a1 a2 a3 b0 b1 b2 b3 p0 p1 p2 p3 q0 q1 q2 q3 pm0 pm1 pm2 pm3 qm0 qm1 qm2 qm3  (by omega) w
 by_cases h1:a1+b1<18446744073709551616
 rotate_left
 ·exact add_o1 a0 a1 a2 a3 b0 b1 b2 b3 p0 p1 p2 p3 q0 q1 q2 q3 pm0 pm1 pm2 pm3 qm0 qm1 qm2 qm3 h0 (by omega) w
 by_cases h2:a2+b2<18446744073709551616
 rotate_left
 ·exact add_o2 a0 a1 a2 a3 b0 b1 b2 b3 p0 p1 p2 p3 q0 q1 q2 q3 pm0 pm1 pm2 pm3 qm0 qm1 qm2 qm3 h0 h1 (by omega) w
 by_cases h3:a3+b3<18446744073709551616
 rotate_left
 ·exact add_o3 a0 a1 a2 a3 b0 b1 b2 b3 p0 p1 p2 p3 q0 q1 q2 q3 pm0 pm1 pm2 pm3 qm0 qm1 qm2 qm3 h0 h1 h2 (by omega) w
 exact absurd ⟨h0,h1,h2,h3⟩ h
set_option maxHeartbeats 1000000 in
theorem sub_o0 (a0 a1 a2 a3 b0 b1 b2 b3:Int) (p0:0≤a0) (p1:0≤a1) (p2:0≤a2) (p3:0≤a3) (q0:0≤b0) (q1:0≤b1) (q2:0≤b2) (q3:0≤b3) (pm0:a0<18446744073709551616) (pm1:a1<18446744073709551616) (pm2:a2<18446744073709551616) (pm3:a3<18446744073709551616) (qm0:b0<18446744073709551616) (qm1:b1<18446744073709551616) (qm2:b2<18446744073709551616) (qm3:b3<18446744073709551616)  (h0:a0<b0) (w:World) :
  Calls Tryz.prog 180 #[.agg #[.int .u64 a0,.int .u64 a1,.int .u64 a2,.int .u64 a3],.agg #[.int .u64 b0,.int .u64 b1,.int .u64 b2,.int .u64 b3]] w fun e w' =>
   e=.returned (.tuple #[.agg #[.int .u64 0,.int .u64 0,.int .u64 0,.int .u64 0],.iface 42 (.int .i64 8)])∧Below w.heap.size w w':=by
 have e0:=sub64_over a0 b0 p0 q0 h0
 go_enter Tryz.func180,Tryz.ntmps180
 go_wp2
 refine wp_loop_rounds 5 ?_
 rw [rounds_succ]
 go_wp2
 go_quiet (fail)
 go_wp2
 refine bodyPost_ret (v:=.tuple #[.agg #[.int .u64 0,.int .u64 0,.int .u64 0,.int .u64 0],.iface 42 (.int .i64 8)]) ?_ rfl ?_
 ·simp [results,Tryz.results180,go_sem]
 ·clear e0
  refine ⟨rfl,?_⟩
  repeat (first | with_reducible exact Below.refl _ _ | with_reducible refine Below.setCell ?_ ?_ _ | with_reducible refine below_drewN ?_ _ | with_reducible refine Below.alloc ?_ ?_ _)
  all_goals first | (simp;done) | (simp;omega)
set_option maxHeartbeats 1000000 in
theorem sub_o1 (a0 a1 a2 a3 b0 b1 b2 b3:Int) (p0:0≤a0) (p1:0≤a1) (p2:0≤a2) (p3:0≤a3) (q0:0≤b0) (q1:0≤b1) (q2:0≤b2) (q3:0≤b3) (pm0:a0<18446744073709551616) (pm1:a1<18446744073709551616) (pm2:a2<18446744073709551616) (pm3:a3<18446744073709551616) (qm0:b0<18446744073709551616) (qm1:b1<18446744073709551616) (qm2:b2<18446744073709551616) (qm3:b3<18446744073709551616) (h0:b0≤a0) (h1:a1<b1) (w:World) :
  Calls Tryz.prog 180 #[.agg #[.int .u64 a0,.int .u64 a1,.int .u64 a2,.int .u64 a3],.agg #[.int .u64 b0,.int .u64 b1,.int .u64 b2,.int .u64 b3]] w fun e w' =>
   e=.returned (.tuple #[.agg #[.int .u64 0,.int .u64 0,.int .u64 0,.int .u64 0],.iface 42 (.int .i64 8)])∧Below w.heap.size w w':=by
 have e0:=sub64_ok a0 b0 p0 q0 pm0 h0
 have e1:=sub64_over a1 b1 p1 q1 h1
 go_enter Tryz.func180,Tryz.ntmps180
 go_wp2
 refine wp_loop_rounds 5 ?_
 rw [rounds_succ]
 go_wp2
 go_quiet (fail)
 go_wp2
 rw [rounds_succ]
 go_wp2
 go_quiet (fail)
 go_wp2
 refine bodyPost_ret (v:=.tuple #[.agg #[.int .u64 0,.int .u64 0,.int .u64 0,.int .u64 0],.iface 42 (.int .i64 8)]) ?_ rfl ?_
 ·simp [results,Tryz.results180,go_sem]
 ·clear e0 e1
  refine ⟨rfl,?_⟩
  repeat (first | with_reducible exact Below.refl _ _ | with_reducible refine Below.setCell ?_ ?_ _ | with_reducible refine below_drewN ?_ _ | with_reducible refine Below.alloc ?_ ?_ _)
  all_goals first | (simp;done) | (simp;omega)
set_option maxHeartbeats 1000000 in
theorem sub_o2 (a0 a1 a2 a3 b0 b1 b2 b3:Int) (p0:0≤a0) (p1:0≤a1) (p2:0≤a2) (p3:0≤a3) (q0:0≤b0) (q1:0≤b1) (q2:0≤b2) (q3:0≤b3) (pm0:a0<18446744073709551616) (pm1:a1<18446744073709551616) (pm2:a2<18446744073709551616) (pm3:a3<18446744073709551616) (qm0:b0<18446744073709551616) (qm1:b1<18446744073709551616) (qm2:b2<18446744073709551616) (qm3:b3<18446744073709551616) (h0:b0≤a0) (h1:b1≤a1) (h2:a2<b2) (w:World) :
  Calls Tryz.prog 180 #[.agg #[.int .u64 a0,.int .u64 a1,.int .u64 a2,.int .u64 a3],.agg #[.int .u64 b0,.int .u64 b1,.int .u64 b2,.int .u64 b3]] w fun e w' =>
   e=.returned (.tuple #[.agg #[.int .u64 0,.int .u64 0,.int .u64 0,.int .u64 0],.iface 42 (.int .i64 8)])∧Below w.heap.size w w':=by
 have e0:=sub64_ok a0 b0 p0 q0 pm0 h0
 have e1:=sub64_ok a1 b1 p1 q1 pm1 h1
 have e2:=sub64_over a2 b2 p2 q2 h2
 go_enter Tryz.func180,Tryz.ntmps180
 go_wp2
 refine wp_loop_rounds 5 ?_
 rw [rounds_succ]
 go_wp2
 go_quiet (fail)
 go_wp2
 rw [rounds_succ]
 go_wp2
 go_quiet (fail)
 go_wp2
 rw [rounds_succ]
 go_wp2
 go_quiet (fail)
 go_wp2
 refine bodyPost_ret (v:=.tuple #[.agg #[.int .u64 0,.int .u64 0,.int .u64 0,.int .u64 0],.iface 42 (.int .i64 8)]) ?_ rfl ?_
 ·simp [results,Tryz.results180,go_sem]
 ·clear e0 e1 e2
  refine ⟨rfl,?_⟩
  repeat (first | with_reducible exact Below.refl _ _ | with_reducible refine Below.setCell ?_ ?_ _ | with_reducible refine below_drewN ?_ _ | with_reducible refine Below.alloc ?_ ?_ _)
  all_goals first | (simp;done) | (simp;omega)
set_option maxHeartbeats 1000000 in
theorem sub_o3 (a0 a1 a2 a3 b0 b1 b2 b3:Int) (p0:0≤a0) (p1:0≤a1) (p2:0≤a2) (p3:0≤a3) (q0:0≤b0) (q1:0≤b1) (q2:0≤b2) (q3:0≤b3) (pm0:a0<18446744073709551616) (pm1:a1<18446744073709551616) (pm2:a2<18446744073709551616) (pm3:a3<18446744073709551616) (qm0:b0<18446744073709551616) (qm1:b1<18446744073709551616) (qm2:b2<18446744073709551616) (qm3:b3<18446744073709551616) (h0:b0≤a0) (h1:b1≤a1) (h2:b2≤a2) (h3:a3<b3) (w:World) :
  Calls Tryz.prog 180 #[.agg #[.int .u64 a0,.int .u64 a1,.int .u64 a2,.int .u64 a3],.agg #[.int .u64 b0,.int .u64 b1,.int .u64 b2,.int .u64 b3]] w fun e w' =>
   e=.returned (.tuple #[.agg #[.int .u64 0,.int .u64 0,.int .u64 0,.int .u64 0],.iface 42 (.int .i64 8)])∧Below w.heap.size w w':=by
 have e0:=sub64_ok a0 b0 p0 q0 pm0 h0
 have e1:=sub64_ok a1 b1 p1 q1 pm1 h1
 have e2:=sub64_ok a2 b2 p2 q2 pm2 h2
 have e3:=sub64_over a3 b3 p3 q3 h3
 go_enter Tryz.func180,Tryz.ntmps180
 go_wp2
 refine wp_loop_rounds 5 ?_
 rw [rounds_succ]
 go_wp2
 go_quiet (fail)
 go_wp2
 rw [rounds_succ]
 go_wp2
 go_quiet (fail)
 go_wp2
 rw [rounds_succ]
 go_wp2
 go_quiet (fail)
 go_wp2
 rw [rounds_succ]
 go_wp2
 go_quiet (fail)
 go_wp2
 refine bodyPost_ret (v:=.tuple #[.agg #[.int .u64 0,.int .u64 0,.int .u64 0,.int .u64 0],.iface 42 (.int .i64 8)]) ?_ rfl ?_
 ·simp [results,Tryz.results180,go_sem]
 ·clear e0 e1 e2 e3
  refine ⟨rfl,?_⟩
  repeat (first | with_reducible exact Below.refl _ _ | with_reducible refine Below.setCell ?_ ?_ _ | with_reducible refine below_drewN ?_ _ | with_reducible refine Below.alloc ?_ ?_ _)
  all_goals first | (simp;done) | (simp;omega)
set_option maxHeartbeats 1000000 in
theorem sub_ok (a0 a1 a2 a3 b0 b1 b2 b3:Int) (p0:0≤a0) (p1:0≤a1) (p2:0≤a2) (p3:0≤a3) (q0:0≤b0) (q1:0≤b1) (q2:0≤b2) (q3:0≤b3) (pm0:a0<18446744073709551616) (pm1:a1<18446744073709551616) (pm2:a2<18446744073709551616) (pm3:a3<18446744073709551616) (qm0:b0<18446744073709551616) (qm1:b1<18446744073709551616) (qm2:b2<18446744073709551616) (qm3:b3<18446744073709551616) (h0:b0≤a0) (h1:b1≤a1) (h2:b2≤a2) (h3:b3≤a3) (w:World) :
  Calls Tryz.prog 180 #[.agg #[.int .u64 a0,.int .u64 a1,.int .u64 a2,.int .u64 a3],.agg #[.int .u64 b0,.int .u64 b1,.int .u64 b2,.int .u64 b3]] w fun e w' =>
   e=.returned (.tuple #[.agg #[.int .u64 (a0 - b0),.int .u64 (a1 - b1),.int .u64 (a2 - b2),.int .u64 (a3 - b3)],.nilIface])∧Below w.heap.size w w':=by
 have e0:=sub64_ok a0 b0 p0 q0 pm0 h0
 have e1:=sub64_ok a1 b1 p1 q1 pm1 h1
 have e2:=sub64_ok a2 b2 p2 q2 pm2 h2
 have e3:=sub64_ok a3 b3 p3 q3 pm3 h3
 go_enter Tryz.func180,Tryz.ntmps180
 go_wp2
 refine wp_loop_rounds 5 ?_
 rw [rounds_succ]
 go_wp2
 go_quiet (fail)
 go_wp2
 rw [rounds_succ]
 go_wp2
 go_quiet (fail)
 go_wp2
 rw [rounds_succ]
 go_wp2
 go_quiet (fail)
 go_wp2
 rw [rounds_succ]
 go_wp2
 go_quiet (fail)
 go_wp2
 rw [rounds_succ]
 go_wp2
 refine bodyPost_ret (v:=.tuple #[.agg #[.int .u64 (a0 - b0),.int .u64 (a1 - b1),.int .u64 (a2 - b2),.int .u64 (a3 - b3)],.nilIface]) ?_ rfl ?_
 ·simp [results,Tryz.results180,go_sem]
 ·clear e0 e1 e2 e3
  refine ⟨rfl,?_⟩
  repeat (first | with_reducible exact Below.refl _ _ | with_reducible refine Below.setCell ?_ ?_ _ | with_reducible refine below_drewN ?_ _ | with_reducible refine Below.alloc ?_ ?_ _)
  all_goals first | (simp;done) | (simp;omega)
theorem sub_over (a0 a1 a2 a3 b0 b1 b2 b3:Int) (p0:0≤a0) (p1:0≤a1) (p2:0≤a2) (p3:0≤a3) (q0:0≤b0) (q1:0≤b1) (q2:0≤b2) (q3:0≤b3) (pm0:a0<18446744073709551616) (pm1:a1<18446744073709551616) (pm2:a2<18446744073709551616) (pm3:a3<18446744073709551616) (qm0:b0<18446744073709551616) (qm1:b1<18446744073709551616) (qm2:b2<18446744073709551616) (qm3:b3<18446744073709551616) (h:¬ (b0≤a0∧b1≤a1∧b2≤a2∧b3≤a3)) (w:World) :
  Calls Tryz.prog 180 #[.agg #[.int .u64 a0,.int .u64 a1,.int .u64 a2,.int .u64 a3],.agg #[.int .u64 b0,.int .u64 b1,.int .u64 b2,.int .u64 b3]] w fun e w' =>
   e=.returned (.tuple #[.agg #[.int .u64 0,.int .u64 0,.int .u64 0,.int .u64 0],.iface 42 (.int .i64 8)])∧Below w.heap.size w w':=by
 by_cases h0:b0≤a0
 rotate_left
 ·exact sub_o0 a0 a1 a2 a3 b0 b1 b2 b3 p0 p1 p2 p3 q0 q1 q2 q3 pm0 pm1 pm2 pm3 qm0 qm1 qm2 qm3  (by omega) w
 by_cases h1:b1≤a1
 rotate_left
 ·exact sub_o1 a0 a1 a2 a3 b0 b1 b2 b3 p0 p1 p2 p3 q0 q1 q2 q3 pm0 pm1 pm2 pm3 qm0 qm1 qm2 qm3 h0 (by omega) w
 by_cases h2:b2≤a2
 rotate_left
 ·exact sub_o2 a0 a1 a2 a3 b0 b1 b2 b3 p0 p1 p2 p3 q0 q1 q2 q3 pm0 pm1 pm2 pm3 qm0 qm1 qm2 qm3 h0 h1 (by omega) w
 by_cases h3:b3≤a3
 rotate_left
 ·exact sub_o3 a0 a1 a2 a3 b0 b1 b2 b3 p0 p1 p2 p3 q0 q1 q2 q3 pm0 pm1 pm2 pm3 qm0 qm1 qm2 qm3 h0 h1 h2 (by omega) w
 exact absurd ⟨h0,h1,h2,h3⟩ h

structure Row4 (w:World) (b:Nat) (u0 u1 u2 u3:Value):Prop where
 c0:w.cell? ⟨b,0,none⟩=some u0
 c1:w.cell? ⟨b,1,none⟩=some u1
 c2:w.cell? ⟨b,2,none⟩=some u2
 c3:w.cell? ⟨b,3,none⟩=some u3
 f0:w.frozen? ⟨b,0,none⟩=false
 f1:w.frozen? ⟨b,1,none⟩=false
 f2:w.frozen? ⟨b,2,none⟩=false
 f3:w.frozen? ⟨b,3,none⟩=false
theorem Row4.below {w w':World} {b B:Nat} {u0 u1 u2 u3:Value} (h:Row4 w b u0 u1 u2 u3) (hb:Below B w w') (hB:b<B):Row4 w' b u0 u1 u2 u3 :=
 ⟨(hb.cell hB).trans h.c0,(hb.cell hB).trans h.c1,(hb.cell hB).trans h.c2,(hb.cell hB).trans h.c3,(hb.frozen hB).trans h.f0,(hb.frozen hB).trans h.f1,(hb.frozen hB).trans h.f2,(hb.frozen hB).trans h.f3⟩
theorem Row4.alloc {w:World} {b:Nat} {u0 u1 u2 u3:Value} (h:Row4 w b u0 u1 u2 u3) (hB:b<w.heap.size) (o:Obj):Row4 (w.alloc o) b u0 u1 u2 u3 :=
 h.below (B:=w.heap.size) ((Below.refl _ w).alloc (Nat.le_refl _) o) hB
theorem Row4.drewN {w:World} {b:Nat} {u0 u1 u2 u3:Value} (h:Row4 w b u0 u1 u2 u3) (n:Nat):Row4 (w.drewN n) b u0 u1 u2 u3:=⟨h.c0,h.c1,h.c2,h.c3,h.f0,h.f1,h.f2,h.f3⟩
theorem Row4.drew {w:World} {b:Nat} {u0 u1 u2 u3:Value} (h:Row4 w b u0 u1 u2 u3):Row4 w.drew b u0 u1 u2 u3:=⟨h.c0,h.c1,h.c2,h.c3,h.f0,h.f1,h.f2,h.f3⟩
theorem Row4.far {w:World} {b:Nat} {u0 u1 u2 u3:Value} (h:Row4 w b u0 u1 u2 u3) {p:Addr} (hp:p.block≠b) (v:Value):Row4 (w.setCell p v) b u0 u1 u2 u3:=by
 have hc:∀ o,(w.setCell p v).cell? ⟨b,o,none⟩=w.cell? ⟨b,o,none⟩:=fun o=>World.cell?_of_block (Below.heap_setCell w p v b (Ne.symm hp))
 have hf:∀ o,(w.setCell p v).frozen? ⟨b,o,none⟩=w.frozen? ⟨b,o,none⟩:=fun o=>World.frozen?_of_block (Below.heap_setCell w p v b (Ne.symm hp))
 exact ⟨(hc _).trans h.c0,(hc _).trans h.c1,(hc _).trans h.c2,(hc _).trans h.c3,(hf _).trans h.f0,(hf _).trans h.f1,(hf _).trans h.f2,(hf _).trans h.f3⟩
theorem Row4.store {w:World} {b:Nat} {u0 u1 u2 u3:Value} (h:Row4 w b u0 u1 u2 u3) (v0 v1 v2 v3:Value) :
  Row4 ((((w.setCell ⟨b,0,none⟩ v0).setCell ⟨b,1,none⟩ v1).setCell ⟨b,2,none⟩ v2).setCell ⟨b,3,none⟩ v3) b v0 v1 v2 v3:=by
 have n01:(⟨b,0,none⟩:Addr)≠⟨b,1,none⟩:=by simp
 have n02:(⟨b,0,none⟩:Addr)≠⟨b,2,none⟩:=by simp
 have n03:(⟨b,0,none⟩:Addr)≠⟨b,3,none⟩:=by simp
 have n12:(⟨b,1,none⟩:Addr)≠⟨b,2,none⟩:=by simp
 have n13:(⟨b,1,none⟩:Addr)≠⟨b,3,none⟩:=by simp
 have n23:(⟨b,2,none⟩:Addr)≠⟨b,3,none⟩:=by simp
 have hf:∀ (w:World) (p a:Addr) (v:Value),(w.setCell p v).frozen? a=w.frozen? a:=fun w p a v=>by simp
 refine ⟨?_,?_,?_,?_,by rw [hf,hf,hf,hf];exact h.f0,by rw [hf,hf,hf,hf];exact h.f1,by rw [hf,hf,hf,hf];exact h.f2,by rw [hf,hf,hf,hf];exact h.f3⟩
 ·rw [World.cell?_setCell_other _ _ _ _ n03.symm,World.cell?_setCell_other _ _ _ _ n02.symm,World.cell?_setCell_other _ _ _ _ n01.symm]
  exact World.cell?_setCell_same _ _ _ h.c0
 ·rw [World.cell?_setCell_other _ _ _ _ n13.symm,World.cell?_setCell_other _ _ _ _ n12.symm]
  exact World.cell?_setCell_same _ _ _ ((World.cell?_setCell_other _ _ _ _ n01).trans h.c1)
 ·rw [World.cell?_setCell_other _ _ _ _ n23.symm]
  exact World.cell?_setCell_same _ _ _ ((World.cell?_setCell_other _ _ _ _ n12).trans ((World.cell?_setCell_other _ _ _ _ n02).trans h.c2))
 ·exact World.cell?_setCell_same _ _ _ ((World.cell?_setCell_other _ _ _ _ n23).trans ((World.cell?_setCell_other _ _ _ _ n13).trans ((World.cell?_setCell_other _ _ _ _ n03).trans h.c3)))

def psum (x:Nat→Int):Nat→Int
 | 0=>0
 | k+1=>psum x k+x k
theorem psum_nonneg {x:Nat→Int} {n:Nat} (h:∀ i,i<n→0≤x i):∀ k,k≤n→0≤psum x k
 | 0,_=>Int.le_refl _
 | k+1,hk=>by have:=psum_nonneg h k (by omega);have:=h k (by omega);simp only [psum];omega
theorem psum_mono {x:Nat→Int} {n:Nat} (h:∀ i,i<n→0≤x i) (k:Nat):∀ d,k+d≤n→psum x k≤psum x (k+d)
 | 0,_=>Int.le_refl _
 | d+1,hk=>by have:=psum_mono h k d (by omega);have:=h (k+d) (by omega);show psum x k≤psum x (k+d)+x (k+d);omega
structure VecsAt (w:World) (a:Addr) (n:Nat) (x0 x1 x2 x3:Nat→Int):Prop where
 lt:0<n→a.block<w.heap.size
 c0:∀ i,i<n→w.cell? (a.add (i * 4))=some (.int .u64 (x0 i))
 c1:∀ i,i<n→w.cell? ⟨(a.add (i * 4)).block,(a.add (i * 4)).off+1,none⟩=some (.int .u64 (x1 i))
 c2:∀ i,i<n→w.cell? ⟨(a.add (i * 4)).block,(a.add (i * 4)).off+2,none⟩=some (.int .u64 (x2 i))
 c3:∀ i,i<n→w.cell? ⟨(a.add (i * 4)).block,(a.add (i * 4)).off+3,none⟩=some (.int .u64 (x3 i))
theorem add_block (a:Addr) (n:Nat):(a.add n).block=a.block:=by unfold Addr.add;split <;> rfl
theorem VecsAt.below {w w':World} {a:Addr} {n B:Nat} {x0 x1 x2 x3:Nat→Int} (h:VecsAt w a n x0 x1 x2 x3) (hb:Below B w w') (hB:w.heap.size≤B):VecsAt w' a n x0 x1 x2 x3 :=
 ⟨fun h0=>Nat.lt_of_lt_of_le (h.lt h0) hb.size,fun i hi=>(hb.cell (by rw [add_block];exact Nat.lt_of_lt_of_le (h.lt (by omega)) hB)).trans (h.c0 i hi),fun i hi=>(hb.cell (by show (a.add (i * 4)).block<B;rw [add_block];exact Nat.lt_of_lt_of_le (h.lt (by omega)) hB)).trans (h.c1 i hi),fun i hi=>(hb.cell (by show (a.add (i * 4)).block<B;rw [add_block];exact Nat.lt_of_lt_of_le (h.lt (by omega)) hB)).trans (h.c2 i hi),fun i hi=>(hb.cell (by show (a.add (i * 4)).block<B;rw [add_block];exact Nat.lt_of_lt_of_le (h.lt (by omega)) hB)).trans (h.c3 i hi)⟩
def Fine (x0 x1 x2 x3:Nat→Int) (n:Nat):Prop:=psum x0 n<18446744073709551616∧psum x1 n<18446744073709551616∧psum x2 n<18446744073709551616∧psum x3 n<18446744073709551616
def Nums4 (x0 x1 x2 x3:Nat→Int) (n:Nat):Prop:=∀ i,i<n→(0≤x0 i∧x0 i<18446744073709551616)∧(0≤x1 i∧x1 i<18446744073709551616)∧(0≤x2 i∧x2 i<18446744073709551616)∧(0≤x3 i∧x3 i<18446744073709551616)
theorem Fine.le {x0 x1 x2 x3:Nat→Int} {n k:Nat} (hx:Nums4 x0 x1 x2 x3 n) (h:Fine x0 x1 x2 x3 n) (hk:k≤n):Fine x0 x1 x2 x3 k:=by
 have m0:=psum_mono (x:=x0) (n:=n) (fun i hi=>(hx i hi).1.1) k (n - k) (by omega)
 have m1:=psum_mono (x:=x1) (n:=n) (fun i hi=>(hx i hi).2.1.1) k (n - k) (by omega)
 have m2:=psum_mono (x:=x2) (n:=n) (fun i hi=>(hx i hi).2.2.1.1) k (n - k) (by omega)
 have m3:=psum_mono (x:=x3) (n:=n) (fun i hi=>(hx i hi).2.2.2.1) k (n - k) (by omega)
 rw [show k+(n - k)=n by omega] at m0 m1 m2 m3
 unfold Fine at *
 omega
def SumEnds (x0 x1 x2 x3:Nat→Int) (n:Nat) (good bad:Value) (e:Ending):Prop :=
 (Fine x0 x1 x2 x3 n∧e=.returned (.tuple #[.agg #[.int .u64 (psum x0 n),.int .u64 (psum x1 n),.int .u64 (psum x2 n),.int .u64 (psum x3 n)],good])) ∨
 (¬ Fine x0 x1 x2 x3 n∧e=.returned (.tuple #[.agg #[.int .u64 0,.int .u64 0,.int .u64 0,.int .u64 0],bad]))

set_option maxHeartbeats 1000000 in
theorem vsum_any (A:Option Addr) (a:Addr) (n cap:Nat) (x0 x1 x2 x3:Nat→Int) (w:World) (hA:0<n→A=some a) (hn:n≤500) (hv:VecsAt w a n x0 x1 x2 x3) (hx:Nums4 x0 x1 x2 x3 n) :
  Calls Tryz.prog 179 #[.slice A n cap] w fun e w'=>SumEnds x0 x1 x2 x3 n .nilIface (.iface 42 (.int .i64 8)) e∧Below w.heap.size w w':=by
 have HA:=Lib.hid hA
 clear hA
 go_enter Tryz.func179,Tryz.ntmps179
 go_wp2
 go_loopw [11] (fun i wr=>∃ k:Nat,k≤n∧i=.int .i64 k∧Below w.heap.size w wr∧w.heap.size+1<wr.heap.size∧Fine x0 x1 x2 x3 k ∧
   Row4 wr w.heap.size (.int .u64 0) (.int .u64 0) (.int .u64 0) (.int .u64 0)∧Row4 wr (w.heap.size+1) (.int .u64 (psum x0 k)) (.int .u64 (psum x1 k)) (.int .u64 (psum x2 k)) (.int .u64 (psum x3 k))) (fun i _=>n - (intOf i).toNat)
 case atStart =>
  refine ⟨0,Nat.zero_le _,rfl,((Below.refl _ w).alloc (Nat.le_refl _) _).alloc (by simp) _,by simp,?_,?_,?_⟩
  ·simp [Fine,psum]
  ·exact ⟨by simp,by simp,by simp,by simp,by simp,by simp,by simp,by simp⟩
  ·exact ⟨by simp [psum],by simp [psum],by simp [psum],by simp [psum],by simp,by simp,by simp,by simp⟩
 case round =>
  obtain ⟨k,hk,rfl,hb,hz,hfine,r0,r1⟩:=hrel
  by_cases hlt:k<n
  ·obtain rfl:=HA.out (by omega)
   obtain ⟨e0,e1,e2,e3⟩:wr.cell? (a.add (k * 4))=some (.int .u64 (x0 k))∧wr.cell? ⟨(a.add (k * 4)).block,(a.add (k * 4)).off+1,none⟩=some (.int .u64 (x1 k))∧wr.cell? ⟨(a.add (k * 4)).block,(a.add (k * 4)).off+2,none⟩=some (.int .u64 (x2 k))∧wr.cell? ⟨(a.add (k * 4)).block,(a.add (k * 4)).off+3,none⟩=some (.int .u64 (x3 k)):=by
    have h:=hv.below hb (Nat.le_refl _)
    exact ⟨h.c0 k hlt,h.c1 k hlt,h.c2 k hlt,h.c3 k hlt⟩
   have t0:=r1.c0
   have t1:=r1.c1
   have t2:=r1.c2
   have t3:=r1.c3
   have hz0:w.heap.size<wr.heap.size:=by omega
   obtain ⟨⟨y0,z0⟩,⟨y1,z1⟩,⟨y2,z2⟩,⟨y3,z3⟩⟩:=hx k hlt
   have p0:=psum_nonneg (x:=x0) (n:=n) (fun i hi=>(hx i hi).1.1) k hk
   have p1:=psum_nonneg (x:=x1) (n:=n) (fun i hi=>(hx i hi).2.1.1) k hk
   have p2:=psum_nonneg (x:=x2) (n:=n) (fun i hi=>(hx i hi).2.2.1.1) k hk
   have p3:=psum_nonneg (x:=x3) (n:=n) (fun i hi=>(hx i hi).2.2.2.1) k hk
   obtain ⟨m0,m1,m2,m3⟩:psum x0 k<18446744073709551616∧psum x1 k<18446744073709551616∧psum x2 k<18446744073709551616∧psum x3 k<18446744073709551616:=id hfine
   by_cases hf:Fine x0 x1 x2 x3 (k+1)
   ·obtain ⟨n0,n1,n2,n3⟩:psum x0 k+x0 k<18446744073709551616∧psum x1 k+x1 k<18446744073709551616∧psum x2 k+x2 k<18446744073709551616∧psum x3 k+x3 k<18446744073709551616:=id hf
    go_wp2_with fail
    refine (add_ok _ _ _ _ _ _ _ _ p0 p1 p2 p3 y0 y1 y2 y3 m0 m1 m2 m3 z0 z1 z2 z3 n0 n1 n2 n3 _).mono ?_
    rintro e w1 ⟨rfl,hb1⟩
    have hs1:=hb1.size
    have hzz:w.heap.size+1<w1.heap.size:=by simp at hs1;omega
    have q1:=(r1.alloc hz (.cells #[.int .u64 (x0 k),.int .u64 (x1 k),.int .u64 (x2 k),.int .u64 (x3 k)] 57)).below hb1 (by simp;omega)
    have q0:=(r0.alloc hz0 (.cells #[.int .u64 (x0 k),.int .u64 (x1 k),.int .u64 (x2 k),.int .u64 (x3 k)] 57)).below hb1 (by simp;omega)
    obtain ⟨g0,g1,g2,g3,v0,v1,v2,v3⟩:=q1
    have q1:Row4 w1 (w.heap.size+1) (.int .u64 (psum x0 k)) (.int .u64 (psum x1 k)) (.int .u64 (psum x2 k)) (.int .u64 (psum x3 k)):=⟨g0,g1,g2,g3,v0,v1,v2,v3⟩
    go_wp2
    go_roundw
    case rel =>
     refine ⟨k+1,by omega,by go_num,?_,?_,hf,?_,?_⟩
     ·have k1:Below w.heap.size w w1:=(hb.alloc (by omega) _).trans (hb1.mono (by simp;omega))
      repeat (first | with_reducible exact k1 | with_reducible refine Below.setCell ?_ ?_ _ | with_reducible refine Below.alloc ?_ ?_ _)
      all_goals first | (simp;done) | (simp;omega) | omega
     ·simp;omega
     ·repeat (first | with_reducible exact q0 | with_reducible refine Row4.far ?_ ?_ _ | with_reducible refine Row4.alloc ?_ ?_ _)
      all_goals first | (simp;done) | (simp;omega) | omega
     ·refine Row4.alloc (Row4.store q1 _ _ _ _) ?_ _
      simp;omega
    case measure=>simp [intOf];omega
   ·go_wp2_with fail
    refine (add_over _ _ _ _ _ _ _ _ p0 p1 p2 p3 y0 y1 y2 y3 m0 m1 m2 m3 z0 z1 z2 z3 hf _).mono ?_
    rintro e w1 ⟨rfl,hb1⟩
    have hs1:=hb1.size
    have hzz:w.heap.size+1<w1.heap.size:=by simp at hs1;omega
    have hzy:w.heap.size<w1.heap.size:=by omega
    obtain ⟨g0,g1,g2,g3,v0,v1,v2,v3⟩:=(r0.alloc hz0 (.cells #[.int .u64 (x0 k),.int .u64 (x1 k),.int .u64 (x2 k),.int .u64 (x3 k)] 57)).below hb1 (by simp;omega)
    obtain ⟨l0,l1,l2,l3,_,_,_,_⟩:=Row4.alloc (Row4.store ⟨g0,g1,g2,g3,v0,v1,v2,v3⟩ (.int .u64 0) (.int .u64 0) (.int .u64 0) (.int .u64 0)) (by simp;omega) (.cells #[.int .u64 0,.int .u64 0,.int .u64 0,.int .u64 0] 57)
    go_wp2
    refine bodyPost_ret (v:=.tuple #[.agg #[.int .u64 0,.int .u64 0,.int .u64 0,.int .u64 0],.iface 42 (.int .i64 8)]) ?_ rfl ?_
    ·simp [results,Tryz.results179,go_sem,l0,l1,l2,l3]
    ·refine ⟨.inr ⟨fun h=>hf (h.le hx (by omega)),rfl⟩,?_⟩
     have k1:Below w.heap.size w w1:=(hb.alloc (by omega) _).trans (hb1.mono (by simp;omega))
     repeat (first | with_reducible exact k1 | with_reducible refine Below.setCell ?_ ?_ _ | with_reducible refine Below.alloc ?_ ?_ _)
     all_goals first | (simp;done) | (simp;omega) | omega
  ·obtain rfl:n=k:=by omega
   obtain ⟨t0,t1,t2,t3,_,_,_,_⟩:=r1
   obtain ⟨g0,g1,g2,g3,v0,v1,v2,v3⟩:=r0
   go_wp2
   refine bodyPost_ret (v:=.tuple #[.agg #[.int .u64 (psum x0 n),.int .u64 (psum x1 n),.int .u64 (psum x2 n),.int .u64 (psum x3 n)],.nilIface]) ?_ rfl ?_
   ·simp [results,Tryz.results179,go_sem,g0,g1,g2,g3]
   ·refine ⟨.inl ⟨hfine,rfl⟩,?_⟩
    repeat (first | with_reducible exact hb | with_reducible refine Below.setCell ?_ ?_ _ | with_reducible refine Below.alloc ?_ ?_ _)
    all_goals first | (simp;done) | (simp;omega) | omega

abbrev zeroV:Value:=.agg #[.int .u64 0,.int .u64 0,.int .u64 0,.int .u64 0]
theorem sub_none4 {x y:V4} (h:subV x y=none):¬ (y.a≤x.a∧y.b≤x.b∧y.c≤x.c∧y.d≤x.d):=by
 unfold subV at h
 split at h
 ·cases h
 ·rename_i hs
  simp only [V4.le] at hs
  exact fun h=>hs (decide_eq_true h)
theorem vSub_some {x y z:V4} (hx:x.Ok) (hy:y.Ok) (h:subV x y=some z) (w:World) :
  Calls Tryz.prog 180 #[aggV x,aggV y] w fun e w'=>e=.returned (.tuple #[aggV z,.nilIface])∧Below w.heap.size w w':=by
 obtain ⟨rfl,hs⟩:=sub_le h
 simp only [V4.le] at hs
 obtain ⟨h0,h1,h2,h3⟩:=of_decide_eq_true hs
 obtain ⟨⟨p0,m0⟩,⟨p1,m1⟩,⟨p2,m2⟩,⟨p3,m3⟩⟩:=hx
 obtain ⟨⟨q0,n0⟩,⟨q1,n1⟩,⟨q2,n2⟩,⟨q3,n3⟩⟩:=hy
 exact sub_ok _ _ _ _ _ _ _ _ p0 p1 p2 p3 q0 q1 q2 q3 m0 m1 m2 m3 n0 n1 n2 n3 h0 h1 h2 h3 w
theorem vSub_none {x y:V4} (hx:x.Ok) (hy:y.Ok) (h:subV x y=none) (w:World) :
  Calls Tryz.prog 180 #[aggV x,aggV y] w fun e w'=>e=.returned (.tuple #[zeroV,.iface 42 (.int .i64 8)])∧Below w.heap.size w w':=by
 obtain ⟨⟨p0,m0⟩,⟨p1,m1⟩,⟨p2,m2⟩,⟨p3,m3⟩⟩:=hx
 obtain ⟨⟨q0,n0⟩,⟨q1,n1⟩,⟨q2,n2⟩,⟨q3,n3⟩⟩:=hy
 exact sub_over _ _ _ _ _ _ _ _ p0 p1 p2 p3 q0 q1 q2 q3 m0 m1 m2 m3 n0 n1 n2 n3 (sub_none4 h) w
def atV (l:List V4) (i:Nat):V4:=(l[i]?).getD .zer
theorem atV_of {l:List V4} {i:Nat} (h:i<l.length):atV l i=l[i]:=by simp [atV,List.getElem?_eq_getElem h]
theorem psum_tot (l:List V4):∀ k,k≤l.length→psum (fun i=>(atV l i).a) k=(totV (l.take k)).a∧psum (fun i=>(atV l i).b) k=(totV (l.take k)).b∧psum (fun i=>(atV l i).c) k=(totV (l.take k)).c∧psum (fun i=>(atV l i).d) k=(totV (l.take k)).d
 | 0,_=>by simp [psum,totV,V4.zer]
 | k+1,h=>by
  obtain ⟨h0,h1,h2,h3⟩:=psum_tot l k (by omega)
  rw [List.take_succ_eq_append_getElem (by omega),tot_append]
  simp only [psum,h0,h1,h2,h3,atV_of (show k<l.length by omega)]
  simp [V4.add,totV,V4.zer]
theorem vecs_at {l:List V4} {w:World} {b o:Nat} (hb:b<w.heap.size) (h:∀ i (h:i<l.length) j u,(cellsV l[i])[j]?=some u→w.cell? ⟨b,o+i * 4+j,none⟩=some u) :
  VecsAt w ⟨b,o,none⟩ l.length (fun i=>(atV l i).a) (fun i=>(atV l i).b) (fun i=>(atV l i).c) (fun i=>(atV l i).d):=by
 refine ⟨fun _=>hb,fun i hi=>?_,fun i hi=>?_,fun i hi=>?_,fun i hi=>?_⟩
 all_goals
  rw [Addr.add_lit]
  simp only [atV_of hi]
 ·exact h i hi 0 _ rfl
 ·exact h i hi 1 _ rfl
 ·exact h i hi 2 _ rfl
 ·exact h i hi 3 _ rfl
theorem nums_at {l:List V4} (ho:∀ x ∈ l,x.Ok):Nums4 (fun i=>(atV l i).a) (fun i=>(atV l i).b) (fun i=>(atV l i).c) (fun i=>(atV l i).d) l.length:=by
 intro i hi
 simp only [atV_of hi]
 exact ho _ (List.getElem_mem hi)
theorem recs_vecs {l:List V4} {A:Option Addr} {w:World} {B:Nat} (hB:B≤w.heap.size) (hr:Recs 4 cellsV w B A l):∃ a,(0<l.length→A=some a)∧VecsAt w a l.length (fun i=>(atV l i).a) (fun i=>(atV l i).b) (fun i=>(atV l i).c) (fun i=>(atV l i).d):=by
 rcases hr with rfl | ⟨b,o,rfl,hb,h⟩
 ·exact ⟨⟨0,0,none⟩,fun h=>by simp at h,⟨fun h=>by simp at h,fun i hi=>by simp at hi,fun i hi=>by simp at hi,fun i hi=>by simp at hi,fun i hi=>by simp at hi⟩⟩
 ·exact ⟨_,fun _=>rfl,vecs_at (by omega) h⟩
theorem sum_ends {l:List V4} {good bad:Value} {e:Ending} (h:SumEnds (fun i=>(atV l i).a) (fun i=>(atV l i).b) (fun i=>(atV l i).c) (fun i=>(atV l i).d) l.length good bad e) :
  (∃ u,sumV l=some u∧e=.returned (.tuple #[aggV u,good]))∨(sumV l=none∧e=.returned (.tuple #[zeroV,bad])):=by
 obtain ⟨h0,h1,h2,h3⟩:=psum_tot l l.length (Nat.le_refl _)
 rw [List.take_of_length_le (Nat.le_refl _)] at h0 h1 h2 h3
 unfold SumEnds Fine at h
 rw [h0,h1,h2,h3] at h
 rcases h with ⟨hf,rfl⟩ | ⟨hf,rfl⟩
 ·refine .inl ⟨totV l,?_,rfl⟩
  unfold sumV
  rw [if_pos (show (totV l).small=true from decide_eq_true hf)]
 ·refine .inr ⟨?_,rfl⟩
  unfold sumV
  rw [if_neg]
  intro h
  exact hf (of_decide_eq_true h)
theorem vSum_some {l:List V4} {u:V4} (ho:∀ x ∈ l,x.Ok) (h:sumV l=some u) (A:Option Addr) (n c:Nat) (w:World) (hn:n=l.length) (hl:n≤500) (hr:Recs 4 cellsV w w.heap.size A l) :
  Calls Tryz.prog 179 #[.slice A n c] w fun e w'=>e=.returned (.tuple #[aggV u,.nilIface])∧Below w.heap.size w w':=by
 subst hn
 obtain ⟨a,hA,hv⟩:=recs_vecs (Nat.le_refl _) hr
 refine (vsum_any A a l.length c _ _ _ _ w hA hl hv (nums_at ho)).mono ?_
 rintro e w1 ⟨he,hb⟩
 rcases sum_ends he with ⟨u',h',rfl⟩ | ⟨h',_⟩
 ·obtain rfl:=Option.some.inj (h.symm.trans h');exact ⟨rfl,hb⟩
 ·rw [h] at h';cases h'
theorem vSum_none {l:List V4} (ho:∀ x ∈ l,x.Ok) (h:sumV l=none) (A:Option Addr) (n c:Nat) (w:World) (hn:n=l.length) (hl:n≤500) (hr:Recs 4 cellsV w w.heap.size A l) :
  Calls Tryz.prog 179 #[.slice A n c] w fun e w'=>e=.returned (.tuple #[zeroV,.iface 42 (.int .i64 8)])∧Below w.heap.size w w':=by
 subst hn
 obtain ⟨a,hA,hv⟩:=recs_vecs (Nat.le_refl _) hr
 refine (vsum_any A a l.length c _ _ _ _ w hA hl hv (nums_at ho)).mono ?_
 rintro e w1 ⟨he,hb⟩
 rcases sum_ends he with ⟨u',h',rfl⟩ | ⟨_,rfl⟩
 ·rw [h] at h';cases h'
 ·exact ⟨rfl,hb⟩
structure T3 (a b c:List Value) (w V:World):Prop where
 one:Bf V w.heap.size a
 two:Bf V (w.heap.size+1) b
 three:Bf V (w.heap.size+2) c
 below:Below w.heap.size w V
section
variable {a b c:List Value} {w V V':World}
theorem T3.keep (h:T3 a b c w V) (hb:Below V.heap.size V V'):T3 a b c w V' :=
 ⟨h.one.below hb h.one.lt,h.two.below hb h.two.lt,h.three.below hb h.three.lt,h.below.trans (hb.mono h.below.size)⟩
theorem T3.alloc (h:T3 a b c w V) (o:Obj):T3 a b c w (V.alloc o):=h.keep ((Below.refl _ V).alloc (Nat.le_refl _) o)
theorem T3.drew (h:T3 a b c w V):T3 a b c w V.drew:=h.keep (Below.refl _ V).drew
theorem T3.new (w:World) (a b c:List Value) (t1 t2 t3:TypeId):T3 a b c w (((w.alloc (.cells a.toArray t1)).alloc (.cells b.toArray t2)).alloc (.cells c.toArray t3)) :=
 ⟨((Bf.new w a t1 rfl).alloc _).alloc _,(Bf.new (w.alloc (.cells a.toArray t1)) b t2 (b:=w.heap.size+1) (by simp)).alloc _,
  Bf.new ((w.alloc (.cells a.toArray t1)).alloc (.cells b.toArray t2)) c t3 (b:=w.heap.size+2) (by simp),((((Below.refl _ w).alloc (Nat.le_refl _) _).alloc (by simp) _).alloc (by simp;omega) _)⟩
theorem Bf.cells4 {b:Nat} {x:V4} (h:Bf V b (cellsV x)):V.cell? ⟨b,0,none⟩=some (.int .u64 x.a)∧V.cell? ⟨b,1,none⟩=some (.int .u64 x.b)∧V.cell? ⟨b,2,none⟩=some (.int .u64 x.c)∧V.cell? ⟨b,3,none⟩=some (.int .u64 x.d)∧b<V.heap.size :=
 ⟨h.cell 0 _ rfl,h.cell 1 _ rfl,h.cell 2 _ rfl,h.cell 3 _ rfl,h.lt⟩
theorem Bf.zero4 {b:Nat} (h:Bf V b (cellsV .zer)):(V.cell? ⟨b,0,none⟩=some (.int .u64 0)∧V.cell? ⟨b,1,none⟩=some (.int .u64 0)∧V.cell? ⟨b,2,none⟩=some (.int .u64 0)∧V.cell? ⟨b,3,none⟩=some (.int .u64 0))∧b<V.heap.size :=
 ⟨⟨h.cell 0 _ rfl,h.cell 1 _ rfl,h.cell 2 _ rfl,h.cell 3 _ rfl⟩,h.lt⟩
theorem Bf.free4 {b:Nat} {l:List Value} (h:Bf V b l):V.frozen? ⟨b,0,none⟩=false∧V.frozen? ⟨b,1,none⟩=false∧V.frozen? ⟨b,2,none⟩=false∧V.frozen? ⟨b,3,none⟩=false :=
 ⟨h.frozen 0,h.frozen 1,h.frozen 2,h.frozen 3⟩
theorem Bf.cells3 {b:Nat} {x0 x1 x2:Value} (h:Bf V b [x0,x1,x2]):V.cell? ⟨b,0,none⟩=some x0∧V.cell? ⟨b,1,none⟩=some x1∧V.cell? ⟨b,2,none⟩=some x2∧b<V.heap.size :=
 ⟨h.cell 0 _ rfl,h.cell 1 _ rfl,h.cell 2 _ rfl,h.lt⟩
end
set_option maxHeartbeats 3200000 in
set_option maxRecDepth 100000 in
theorem leftW_some {n:NodeD} {u r:V4} (hn:n.Ok) (hu:u.Ok) (h:leftD n u=some r) (w:World) :
  Calls Tryz.prog 166 #[aggN n,aggV u] w fun e w'=>e=.returned (.tuple #[aggV r,.nilIface])∧Below w.heap.size w w':=by
 rcases hf:subV n.cap n.held with _ | f
 ·rw [left_none hf] at h;cases h
 rw [left_some hf] at h
 have HU:=Lib.hid hu
 have HFO:=Lib.hid (sub_ok4 hn.2.2.1 hn.2.2.2 hf)
 have HC:=Lib.hid (fun w=>vSub_some hn.2.2.1 hn.2.2.2 hf w)
 have HD:=Lib.hid (fun w=>vSub_some HFO.out hu h w)
 have T0:=T3.new w (cellsN n) (cellsV u) (cellsV .zer) 59 57 57
 clear hn hu h hf
 go_enter Tryz.func166,Tryz.ntmps166
 go_wp2_with fail
 refine (HC.out _).mono ?_
 rintro e w1 ⟨rfl,hb1⟩
 have T1:=T0.keep hb1
 clear hb1 T0
 obtain ⟨a0,a1,a2,a3,a4⟩:=T1.two.cells4
 have hz1:w.heap.size+2<w1.heap.size:=T1.three.lt
 go_wp2_with fail
 refine (HD.out _).mono ?_
 rintro e w2 ⟨rfl,hb2⟩
 have T2:=(T1.alloc _).keep hb2
 clear hb2 T1 a0 a1 a2 a3 a4 hz1
 obtain ⟨⟨g0,g1,g2,g3⟩,g4⟩:=T2.three.zero4
 obtain ⟨f0,f1,f2,f3⟩:=T2.three.free4
 have kw2:=T2.below
 clear T2
 go_wp2
 refine bodyPost_ret (v:=.tuple #[aggV r,.nilIface]) ?_ rfl ?_
 ·simp [results,Tryz.results166,go_sem, *]
 ·refine ⟨rfl,?_⟩
  repeat (first | with_reducible exact kw2 | with_reducible refine Below.setCell ?_ ?_ _ | with_reducible refine Below.alloc ?_ ?_ _)
  all_goals first | (show w.heap.size≤w.heap.size+2;omega) | (simp;omega) | omega
set_option maxHeartbeats 3200000 in
set_option maxRecDepth 100000 in
theorem leftW_none {n:NodeD} {u:V4} (hn:n.Ok) (hu:u.Ok) (h:leftD n u=none) (w:World) :
  Calls Tryz.prog 166 #[aggN n,aggV u] w fun e w'=>e=.returned (.tuple #[zeroV,.iface 42 (.int .i64 9)])∧Below w.heap.size w w':=by
 have T0:=T3.new w (cellsN n) (cellsV u) (cellsV .zer) 59 57 57
 rcases hf:subV n.cap n.held with _ | f
 ·have HC:=Lib.hid (fun w=>vSub_none hn.2.2.1 hn.2.2.2 hf w)
  clear hn hu h hf
  go_enter Tryz.func166,Tryz.ntmps166
  go_wp2_with fail
  refine (HC.out _).mono ?_
  rintro e w1 ⟨rfl,hb1⟩
  have T2:=T0.keep hb1
  clear hb1 T0
  obtain ⟨⟨g0,g1,g2,g3⟩,g4⟩:=T2.three.zero4
  obtain ⟨f0,f1,f2,f3⟩:=T2.three.free4
  have kw2:=T2.below
  clear T2
  go_wp2
  refine bodyPost_ret (v:=.tuple #[zeroV,.iface 42 (.int .i64 9)]) ?_ rfl ?_
  ·simp [results,Tryz.results166,go_sem, *]
  ·refine ⟨rfl,?_⟩
   repeat (first | with_reducible exact kw2 | with_reducible refine Below.setCell ?_ ?_ _ | with_reducible refine Below.alloc ?_ ?_ _)
   all_goals first | (show w.heap.size≤w.heap.size+2;omega) | (simp;omega) | omega
 rw [left_some hf] at h
 have HU:=Lib.hid hu
 have HFO:=Lib.hid (sub_ok4 hn.2.2.1 hn.2.2.2 hf)
 have HC:=Lib.hid (fun w=>vSub_some hn.2.2.1 hn.2.2.2 hf w)
 have HD:=Lib.hid (fun w=>vSub_none HFO.out hu h w)
 clear hn hu h hf
 go_enter Tryz.func166,Tryz.ntmps166
 go_wp2_with fail
 refine (HC.out _).mono ?_
 rintro e w1 ⟨rfl,hb1⟩
 have T1:=T0.keep hb1
 clear hb1 T0
 obtain ⟨a0,a1,a2,a3,a4⟩:=T1.two.cells4
 have hz1:w.heap.size+2<w1.heap.size:=T1.three.lt
 go_wp2_with fail
 refine (HD.out _).mono ?_
 rintro e w2 ⟨rfl,hb2⟩
 have T2:=(T1.alloc _).keep hb2
 clear hb2 T1 a0 a1 a2 a3 a4 hz1
 obtain ⟨⟨g0,g1,g2,g3⟩,g4⟩:=T2.three.zero4
 obtain ⟨f0,f1,f2,f3⟩:=T2.three.free4
 have kw2:=T2.below
 clear T2
 go_wp2
 refine bodyPost_ret (v:=.tuple #[zeroV,.iface 42 (.int .i64 9)]) ?_ rfl ?_
 ·simp [results,Tryz.results166,go_sem, *]
 ·refine ⟨rfl,?_⟩
  repeat (first | with_reducible exact kw2 | with_reducible refine Below.setCell ?_ ?_ _ | with_reducible refine Below.alloc ?_ ?_ _)
  all_goals first | (show w.heap.size≤w.heap.size+2;omega) | (simp;omega) | omega
end Go.Proofs.YthapilknnhlmfaaGreatDoor
