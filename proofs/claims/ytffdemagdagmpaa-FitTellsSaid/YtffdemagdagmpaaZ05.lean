/- Joined texts, part 5: FG FD WW WQ UK UE UL CZ. -/
import Derived.Test.YtffdemagdagmpaaZ04
import Derived.BigQuiet
import Derived.Test.YtffdemagdagmpaaZ01
import Derived.Deep.RegionHeld3
import Derived.Test.YtffdemagdagmpaaZ03
import Derived.Deep.QuietTactic

/- The four numbers from the greatest on: the reference's down and Tighter. -/
namespace Go.Proofs.Ytffdemagdagmpaa
set_option linter.unusedSimpArgs false
open Go.RowKit
set_option linter.unusedVariables false

/-- What is left to do to four numbers at these places. -/
def inner14 : Nat → Nat → V4 → V4
  | 0, 1, v => v.x01.x02.x03.x12.x13.x23
  | 0, 2, v => v.x02.x03.x12.x13.x23
  | 0, 3, v => v.x03.x12.x13.x23
  | 0, 4, v => v.x12.x13.x23
  | 1, 2, v => v.x12.x13.x23
  | 1, 3, v => v.x13.x23
  | 1, 4, v => v.x23
  | 2, 3, v => v.x23
  | _, _, v => v
def Down1 (x : V4) (w : World) (i : Value) (wr : World) : Prop := ∃ (j : Nat) (v : V4), j ≤ 4 ∧ i = .int .i64 j ∧ inner14 j (j + 1) v = downV x ∧ T2 (cellsV v) (cellsV .zer) w wr
def Down2 (x : V4) (j : Nat) (w : World) (i : Value) (wr : World) : Prop := ∃ (k : Nat) (v : V4), j + 1 ≤ k ∧ k ≤ 4 ∧ i = .int .i64 k ∧ inner14 j k v = downV x ∧ T2 (cellsV v) (cellsV .zer) w wr
theorem T2.drewNF {a b : List Value} {w V : World} (h : T2 a b w V) (q : Nat) : T2 a b w (V.drewN q) := h.keep ⟨rfl, rfl, rfl, Nat.le_refl _, fun _ _ => rfl⟩

set_option maxHeartbeats 6400000 in
set_option maxRecDepth 100000 in
theorem rDown_any (x : V4) (w : World) : Calls Try.prog 19 #[aggV x] w fun e w' => e = .returned (aggV (downV x)) ∧ Below w.heap.size w w' := by
  have T0 : T2 (cellsV x) (cellsV .zer) w ((w.alloc (.cells #[.int .u64 x.a, .int .u64 x.b, .int .u64 x.c, .int .u64 x.d] 31)).alloc (.cells #[.int .u64 0, .int .u64 0, .int .u64 0, .int .u64 0] 31)) := T2.new w (cellsV x) (cellsV .zer) 31 31
  have HT := Lib.hid T0
  clear T0
  go_enter Try.func19, Try.ntmps19
  go_upto_region 1 with fail
  generalize ((w.alloc (.cells #[.int .u64 x.a, .int .u64 x.b, .int .u64 x.c, .int .u64 x.d] 31)).alloc (.cells #[.int .u64 0, .int .u64 0, .int .u64 0, .int .u64 0] 31)) = W at *
  go_wp2
  go_loopw [3] (Down1 x w) (fun i _ => 4 - (intOf i).toNat)
  case atStart => exact ⟨0, x, by omega, rfl, rfl, HT.out⟩
  case round =>
    obtain ⟨j, v0, hj, rfl, hin, hT0⟩ := hrel
    have HIN := Lib.hid hin
    have HT0 := Lib.hid hT0
    clear hin hT0 HT
    by_cases hj4 : j < 4
    · have hjd : decide ((j : Int) < 4) = true := decide_eq_true (by omega)
      go_wp2
      go_loopw [4] (Down2 x j w) (fun i _ => 4 - (intOf i).toNat)
      case atStart => exact ⟨j + 1, v0, by omega, by omega, by go_num, HIN.out, HT0.out⟩
      case round =>
        obtain ⟨k, v, hk1, hk2, rfl, hin2, hT2⟩ := hrel
        have HIN2 := Lib.hid hin2
        clear hin2
        by_cases hk4 : k < 4
        · rcases (show (j = 0 ∧ k = 1) ∨ (j = 0 ∧ k = 2) ∨ (j = 0 ∧ k = 3) ∨ (j = 1 ∧ k = 2) ∨ (j = 1 ∧ k = 3) ∨ (j = 2 ∧ k = 3) by omega) with ⟨rfl, rfl⟩ | ⟨rfl, rfl⟩ | ⟨rfl, rfl⟩ | ⟨rfl, rfl⟩ | ⟨rfl, rfl⟩ | ⟨rfl, rfl⟩
          · obtain ⟨c0, c1, c2, c3, c4⟩ := hT2.one.cells4
            obtain ⟨f0, f1, f2, f3⟩ := hT2.one.free4
            have HT3 := Lib.hid hT2
            clear hT2
            by_cases hgt : v.b > v.a
            · have hd : decide (v.b > v.a) = true := decide_eq_true hgt
              have HX := Lib.hid (show v.x01 = ⟨v.b, v.a, v.c, v.d⟩ from if_pos hgt)
              have HIN3 := Lib.hid (show inner14 0 2 ⟨v.b, v.a, v.c, v.d⟩ = downV x by rw [← HX.out]; exact HIN2.out)
              clear HX hgt HIN2 HIN HT0
              go_wp2
              go_quiet (fail)
              go_wp2
              go_roundw
              case rel =>
                refine ⟨2, ⟨v.b, v.a, v.c, v.d⟩, by omega, by omega, by go_num, HIN3.out, ?_⟩
                have h := HT3.out.drewNF
                exact ⟨((h _).one.set 0 (.int .u64 v.b)).set 1 (.int .u64 v.a), ((h _).two.other (p := ⟨w.heap.size, 0, none⟩) (by simp) _).other (p := ⟨w.heap.size, 1, none⟩) (by simp) _, ((h _).below.setCell (p := ⟨w.heap.size, 0, none⟩) (Nat.le_refl _) _).setCell (p := ⟨w.heap.size, 1, none⟩) (Nat.le_refl _) _⟩
              case measure => simp [intOf]
            · have hd : decide (v.b > v.a) = false := decide_eq_false hgt
              have HX := Lib.hid (show v.x01 = v from if_neg hgt)
              have HIN3 := Lib.hid (show inner14 0 2 v = downV x by rw [← HX.out]; exact HIN2.out)
              clear HX hgt HIN2 HIN HT0
              go_wp2
              go_quiet (fail)
              go_wp2
              go_roundw
              case rel => exact ⟨2, v, by omega, by omega, by go_num, HIN3.out, HT3.out.drewNF _⟩
              case measure => simp [intOf]
          · obtain ⟨c0, c1, c2, c3, c4⟩ := hT2.one.cells4
            obtain ⟨f0, f1, f2, f3⟩ := hT2.one.free4
            have HT3 := Lib.hid hT2
            clear hT2
            by_cases hgt : v.c > v.a
            · have hd : decide (v.c > v.a) = true := decide_eq_true hgt
              have HX := Lib.hid (show v.x02 = ⟨v.c, v.b, v.a, v.d⟩ from if_pos hgt)
              have HIN3 := Lib.hid (show inner14 0 3 ⟨v.c, v.b, v.a, v.d⟩ = downV x by rw [← HX.out]; exact HIN2.out)
              clear HX hgt HIN2 HIN HT0
              go_wp2
              go_quiet (fail)
              go_wp2
              go_roundw
              case rel =>
                refine ⟨3, ⟨v.c, v.b, v.a, v.d⟩, by omega, by omega, by go_num, HIN3.out, ?_⟩
                have h := HT3.out.drewNF
                exact ⟨((h _).one.set 0 (.int .u64 v.c)).set 2 (.int .u64 v.a), ((h _).two.other (p := ⟨w.heap.size, 0, none⟩) (by simp) _).other (p := ⟨w.heap.size, 2, none⟩) (by simp) _, ((h _).below.setCell (p := ⟨w.heap.size, 0, none⟩) (Nat.le_refl _) _).setCell (p := ⟨w.heap.size, 2, none⟩) (Nat.le_refl _) _⟩
              case measure => simp [intOf]
            · have hd : decide (v.c > v.a) = false := decide_eq_false hgt
              have HX := Lib.hid (show v.x02 = v from if_neg hgt)
              have HIN3 := Lib.hid (show inner14 0 3 v = downV x by rw [← HX.out]; exact HIN2.out)
              clear HX hgt HIN2 HIN HT0
              go_wp2
              go_quiet (fail)
              go_wp2
              go_roundw
              case rel => exact ⟨3, v, by omega, by omega, by go_num, HIN3.out, HT3.out.drewNF _⟩
              case measure => simp [intOf]
          · obtain ⟨c0, c1, c2, c3, c4⟩ := hT2.one.cells4
            obtain ⟨f0, f1, f2, f3⟩ := hT2.one.free4
            have HT3 := Lib.hid hT2
            clear hT2
            by_cases hgt : v.d > v.a
            · have hd : decide (v.d > v.a) = true := decide_eq_true hgt
              have HX := Lib.hid (show v.x03 = ⟨v.d, v.b, v.c, v.a⟩ from if_pos hgt)
              have HIN3 := Lib.hid (show inner14 0 4 ⟨v.d, v.b, v.c, v.a⟩ = downV x by rw [← HX.out]; exact HIN2.out)
              clear HX hgt HIN2 HIN HT0
              go_wp2
              go_quiet (fail)
              go_wp2
              go_roundw
              case rel =>
                refine ⟨4, ⟨v.d, v.b, v.c, v.a⟩, by omega, by omega, by go_num, HIN3.out, ?_⟩
                have h := HT3.out.drewNF
                exact ⟨((h _).one.set 0 (.int .u64 v.d)).set 3 (.int .u64 v.a), ((h _).two.other (p := ⟨w.heap.size, 0, none⟩) (by simp) _).other (p := ⟨w.heap.size, 3, none⟩) (by simp) _, ((h _).below.setCell (p := ⟨w.heap.size, 0, none⟩) (Nat.le_refl _) _).setCell (p := ⟨w.heap.size, 3, none⟩) (Nat.le_refl _) _⟩
              case measure => simp [intOf]
            · have hd : decide (v.d > v.a) = false := decide_eq_false hgt
              have HX := Lib.hid (show v.x03 = v from if_neg hgt)
              have HIN3 := Lib.hid (show inner14 0 4 v = downV x by rw [← HX.out]; exact HIN2.out)
              clear HX hgt HIN2 HIN HT0
              go_wp2
              go_quiet (fail)
              go_wp2
              go_roundw
              case rel => exact ⟨4, v, by omega, by omega, by go_num, HIN3.out, HT3.out.drewNF _⟩
              case measure => simp [intOf]
          · obtain ⟨c0, c1, c2, c3, c4⟩ := hT2.one.cells4
            obtain ⟨f0, f1, f2, f3⟩ := hT2.one.free4
            have HT3 := Lib.hid hT2
            clear hT2
            by_cases hgt : v.c > v.b
            · have hd : decide (v.c > v.b) = true := decide_eq_true hgt
              have HX := Lib.hid (show v.x12 = ⟨v.a, v.c, v.b, v.d⟩ from if_pos hgt)
              have HIN3 := Lib.hid (show inner14 1 3 ⟨v.a, v.c, v.b, v.d⟩ = downV x by rw [← HX.out]; exact HIN2.out)
              clear HX hgt HIN2 HIN HT0
              go_wp2
              go_quiet (fail)
              go_wp2
              go_roundw
              case rel =>
                refine ⟨3, ⟨v.a, v.c, v.b, v.d⟩, by omega, by omega, by go_num, HIN3.out, ?_⟩
                have h := HT3.out.drewNF
                exact ⟨((h _).one.set 1 (.int .u64 v.c)).set 2 (.int .u64 v.b), ((h _).two.other (p := ⟨w.heap.size, 1, none⟩) (by simp) _).other (p := ⟨w.heap.size, 2, none⟩) (by simp) _, ((h _).below.setCell (p := ⟨w.heap.size, 1, none⟩) (Nat.le_refl _) _).setCell (p := ⟨w.heap.size, 2, none⟩) (Nat.le_refl _) _⟩
              case measure => simp [intOf]
            · have hd : decide (v.c > v.b) = false := decide_eq_false hgt
              have HX := Lib.hid (show v.x12 = v from if_neg hgt)
              have HIN3 := Lib.hid (show inner14 1 3 v = downV x by rw [← HX.out]; exact HIN2.out)
              clear HX hgt HIN2 HIN HT0
              go_wp2
              go_quiet (fail)
              go_wp2
              go_roundw
              case rel => exact ⟨3, v, by omega, by omega, by go_num, HIN3.out, HT3.out.drewNF _⟩
              case measure => simp [intOf]
          · obtain ⟨c0, c1, c2, c3, c4⟩ := hT2.one.cells4
            obtain ⟨f0, f1, f2, f3⟩ := hT2.one.free4
            have HT3 := Lib.hid hT2
            clear hT2
            by_cases hgt : v.d > v.b
            · have hd : decide (v.d > v.b) = true := decide_eq_true hgt
              have HX := Lib.hid (show v.x13 = ⟨v.a, v.d, v.c, v.b⟩ from if_pos hgt)
              have HIN3 := Lib.hid (show inner14 1 4 ⟨v.a, v.d, v.c, v.b⟩ = downV x by rw [← HX.out]; exact HIN2.out)
              clear HX hgt HIN2 HIN HT0
              go_wp2
              go_quiet (fail)
              go_wp2
              go_roundw
              case rel =>
                refine ⟨4, ⟨v.a, v.d, v.c, v.b⟩, by omega, by omega, by go_num, HIN3.out, ?_⟩
                have h := HT3.out.drewNF
                exact ⟨((h _).one.set 1 (.int .u64 v.d)).set 3 (.int .u64 v.b), ((h _).two.other (p := ⟨w.heap.size, 1, none⟩) (by simp) _).other (p := ⟨w.heap.size, 3, none⟩) (by simp) _, ((h _).below.setCell (p := ⟨w.heap.size, 1, none⟩) (Nat.le_refl _) _).setCell (p := ⟨w.heap.size, 3, none⟩) (Nat.le_refl _) _⟩
              case measure => simp [intOf]
            · have hd : decide (v.d > v.b) = false := decide_eq_false hgt
              have HX := Lib.hid (show v.x13 = v from if_neg hgt)
              have HIN3 := Lib.hid (show inner14 1 4 v = downV x by rw [← HX.out]; exact HIN2.out)
              clear HX hgt HIN2 HIN HT0
              go_wp2
              go_quiet (fail)
              go_wp2
              go_roundw
              case rel => exact ⟨4, v, by omega, by omega, by go_num, HIN3.out, HT3.out.drewNF _⟩
              case measure => simp [intOf]
          · obtain ⟨c0, c1, c2, c3, c4⟩ := hT2.one.cells4
            obtain ⟨f0, f1, f2, f3⟩ := hT2.one.free4
            have HT3 := Lib.hid hT2
            clear hT2
            by_cases hgt : v.d > v.c
            · have hd : decide (v.d > v.c) = true := decide_eq_true hgt
              have HX := Lib.hid (show v.x23 = ⟨v.a, v.b, v.d, v.c⟩ from if_pos hgt)
              have HIN3 := Lib.hid (show inner14 2 4 ⟨v.a, v.b, v.d, v.c⟩ = downV x by rw [← HX.out]; exact HIN2.out)
              clear HX hgt HIN2 HIN HT0
              go_wp2
              go_quiet (fail)
              go_wp2
              go_roundw
              case rel =>
                refine ⟨4, ⟨v.a, v.b, v.d, v.c⟩, by omega, by omega, by go_num, HIN3.out, ?_⟩
                have h := HT3.out.drewNF
                exact ⟨((h _).one.set 2 (.int .u64 v.d)).set 3 (.int .u64 v.c), ((h _).two.other (p := ⟨w.heap.size, 2, none⟩) (by simp) _).other (p := ⟨w.heap.size, 3, none⟩) (by simp) _, ((h _).below.setCell (p := ⟨w.heap.size, 2, none⟩) (Nat.le_refl _) _).setCell (p := ⟨w.heap.size, 3, none⟩) (Nat.le_refl _) _⟩
              case measure => simp [intOf]
            · have hd : decide (v.d > v.c) = false := decide_eq_false hgt
              have HX := Lib.hid (show v.x23 = v from if_neg hgt)
              have HIN3 := Lib.hid (show inner14 2 4 v = downV x by rw [← HX.out]; exact HIN2.out)
              clear HX hgt HIN2 HIN HT0
              go_wp2
              go_quiet (fail)
              go_wp2
              go_roundw
              case rel => exact ⟨4, v, by omega, by omega, by go_num, HIN3.out, HT3.out.drewNF _⟩
              case measure => simp [intOf]
        · obtain rfl : k = 4 := by omega
          have HIN3 := Lib.hid (show inner14 (j + 1) (j + 1 + 1) v = downV x by
            rw [← HIN2.out]
            rcases (show j = 0 ∨ j = 1 ∨ j = 2 ∨ j = 3 by omega) with rfl | rfl | rfl | rfl <;> rfl)
          have HT3 := Lib.hid hT2
          clear HIN2 hT2 HIN HT0
          go_wp2
          go_roundw
          case rel => exact ⟨j + 1, v, by omega, by go_num, HIN3.out, HT3.out⟩
          case measure => simp [intOf]; omega
    · obtain rfl : j = 4 := by omega
      have HV := Lib.hid (show v0 = downV x from HIN.out)
      have hT0 := HT0.out
      obtain ⟨a0, a1, a2, a3, a4⟩ := hT0.one.cells4
      obtain ⟨⟨z0, z1, z2, z3⟩, z4⟩ := hT0.two.zero4
      obtain ⟨f0, f1, f2, f3⟩ := hT0.two.free4
      have kw := hT0.below
      clear hT0 HT0 HIN
      go_wp2
      refine bodyPost_ret (v := aggV v0) ?_ rfl ?_
      · simp [results, Try.results19, go_sem, *]
      · refine ⟨by rw [HV.out], ?_⟩
        repeat (first | with_reducible exact kw | with_reducible refine Below.setCell ?_ ?_ _)
        all_goals first | (show w.heap.size ≤ w.heap.size + 1; omega) | (simp; omega) | omega

end Go.Proofs.Ytffdemagdagmpaa

/- The nodes where a request fits, and what is left there: the program's sites. -/
namespace Go.Proofs.Ytffdemagdagmpaa
set_option linter.unusedSimpArgs false
open Go.RowKit
set_option linter.unusedVariables false

def cellsS (x : SiteD) : List Value := [.int .i64 x.node, .int .u64 x.left.a, .int .u64 x.left.b, .int .u64 x.left.c, .int .u64 x.left.d]
theorem lenSite (x : SiteD) : (cellsS x).length = 5 := rfl
theorem oneSite (x : SiteD) : ∀ u ∈ cellsS x, u.oneCell' = true := by
  intro u hu; simp only [cellsS, List.mem_cons, List.not_mem_nil, or_false] at hu
  rcases hu with rfl | rfl | rfl | rfl | rfl <;> rfl
theorem infoSite : (Try.prog.info? 58).map (fun i => (i.zero, i.size, i.bytes)) = some (some (.agg #[.int .i64 0, .int .u64 0, .int .u64 0, .int .u64 0, .int .u64 0]), 5, 40) := by kernel_rfl
theorem underSites : Try.prog.underlying 55 = some (.slice 58) := by kernel_rfl
theorem codeF_pos {c : Int} (h : c ≠ 0) : codeV c = .iface 65 (.int .i64 c) := by unfold codeV; rw [if_neg h]
theorem zerF_ok : V4.zer.Ok := ⟨⟨by decide, by decide⟩, ⟨by decide, by decide⟩, ⟨by decide, by decide⟩, ⟨by decide, by decide⟩⟩
theorem rest_ok {ns : List NodeD} {l : List PodD} (hn : ∀ x ∈ ns, x.Ok) (hl : ∀ p ∈ l, p.Ok) (id : Int) : (restD ns l id).1.Ok := by
  rcases rest_vals ns l id with h | ⟨h, _⟩
  · obtain ⟨n, u, r, h1, h2, h3, h4⟩ := rest_zero.1 h
    rw [h4]
    exact left_ok (nodeAt_ok hn h1) (use_ok hl h2) h3
  · rw [h]; exact zerF_ok
theorem left_no {ns : List NodeD} {l : List PodD} {req : V4} {id : Int} (h : (restD ns l id).2 ≠ 0) : leftAt ns l req id = none := by unfold leftAt; rw [if_neg h]
theorem left_yes {ns : List NodeD} {l : List PodD} {req : V4} {id : Int} (h : (restD ns l id).2 = 0) : leftAt ns l req id = subV (restD ns l id).1 req := by unfold leftAt; rw [if_pos h]

theorem own_belowF {w w' : World} {B B' size n : Nat} {e : TypeId} {v : Value} {xs : List Value} (h : w.ownsRow B e size v n xs) (hb : Below B' w w') (hB : w.heap.size ≤ B') : w'.ownsRow B e size v n xs := by
  refine ⟨h.1, ?_⟩
  rcases h.2 with h0 | ⟨g, cap, cur, hv, hg0, hg, hnc, hm, hsz, hts⟩
  · exact .inl h0
  · exact .inr ⟨g, cap, cur, hv, hg0, by rw [hb.block g (Nat.lt_of_lt_of_le (Array.getElem?_eq_some_iff.1 hg).1 hB)]; exact hg, hnc, hm, hsz, hts⟩
def SitesRel (ns : List NodeD) (l : List PodD) (req : V4) (W : World) (B : Nat) (v i : Value) (wr : World) : Prop :=
  ∃ k m : Nat, k ≤ ns.length ∧ i = .int .i64 k ∧ m = (sitesD ns l req (ns.take k)).length ∧ wr.ownsRow B 58 5 v m ((sitesD ns l req (ns.take k)).flatMap cellsS) ∧ Below B W wr
theorem own_sites {B m : Nat} {e : TypeId} {w1 : World} {v : Value} {xs ys : List SiteD} {x : SiteD} (hm : m = xs.length) (h : w1.ownsRow B e 5 v (m + 1) (xs.flatMap cellsS ++ cellsS x)) (he : ys = xs ++ [x]) : w1.ownsRow B e 5 v (m + 1) (ys.flatMap cellsS) ∧ m + 1 = ys.length := by
  subst he hm; simpa using h
/-- A row of sites of the call's own. -/
def SitesTo (xs : List SiteD) (w : World) (e : Ending) (w' : World) : Prop := ∃ A c, e = .returned (.slice A xs.length c) ∧ Out 5 cellsS w' xs A c ∧ Below w.heap.size w w'

set_option maxHeartbeats 6400000 in
set_option maxRecDepth 100000 in
theorem sites_any (ns : List NodeD) (l : List PodD) (req : V4) (hno : ∀ x ∈ ns, x.Ok) (hlo : ∀ p ∈ l, p.Ok) (hq : req.Ok) (A1 A4 : Option Addr) (n1 c1 n4 c4 : Nat) (s2 s3 v1 v2 : Value) (w : World)
    (hn1 : n1 = ns.length) (hl1 : n1 ≤ 400) (hr1 : Recs 10 cellsN w w.heap.size A1 ns) (hn4 : n4 = l.length) (hl4 : n4 ≤ 400) (hr4 : Recs 8 cellsP w w.heap.size A4 l) :
    Calls Try.prog 20 #[.agg #[.slice A1 n1 c1, s2, s3], .agg #[.slice A4 n4 c4, v1, v2], aggV req] w (SitesTo (sitesD ns l req ns) w) := by
  have T0 := T3.new w [.slice A1 n1 c1, s2, s3] [.slice A4 n4 c4, v1, v2] (cellsV req) 26 28 31
  have HREST : Hid (∀ (id : Int) (V : World), Below w.heap.size w V → Calls Try.prog 15 #[.agg #[.slice A1 n1 c1, s2, s3], .agg #[.slice A4 n4 c4, v1, v2], .int .i64 id] V fun e w' => e = .returned (.tuple #[aggV (restD ns l id).1, codeV (restD ns l id).2]) ∧ Below V.heap.size V w') := fun id V hV =>
    roomRest_any ns l id hno hlo A1 A4 n1 c1 n4 c4 s2 s3 v1 v2 V hn1 hl1 ((hr1.below hV (Nat.le_refl _)).more hV.size) hn4 hl4 ((hr4.below hV (Nat.le_refl _)).more hV.size)
  have HOK := Lib.hid (fun id => rest_ok hno hlo id)
  have HQ := Lib.hid hq
  have HN1 := Lib.hid hn1
  have HL1 := Lib.hid hl1
  have HR1 := Lib.hid hr1
  have hq3 : w.heap.size + 3 ≤ (((w.alloc (.cells #[.slice A1 n1 c1, s2, s3] 26)).alloc (.cells #[.slice A4 n4 c4, v1, v2] 28)).alloc (.cells #[.int .u64 req.a, .int .u64 req.b, .int .u64 req.c, .int .u64 req.d] 31)).heap.size := by simp
  replace T0 : T3 [.slice A1 n1 c1, s2, s3] [.slice A4 n4 c4, v1, v2] (cellsV req) w (((w.alloc (.cells #[.slice A1 n1 c1, s2, s3] 26)).alloc (.cells #[.slice A4 n4 c4, v1, v2] 28)).alloc (.cells #[.int .u64 req.a, .int .u64 req.b, .int .u64 req.c, .int .u64 req.d] 31)) := T0
  obtain ⟨a0, a1, a2, a3⟩ := T0.one.cells3
  have HT := Lib.hid T0
  clear hn1 hl1 hr1 hn4 hl4 hr4 hno hlo hq T0
  go_enter Try.func20, Try.ntmps20
  go_upto_region 2 with fail
  generalize hW : (((w.alloc (.cells #[.slice A1 n1 c1, s2, s3] 26)).alloc (.cells #[.slice A4 n4 c4, v1, v2] 28)).alloc (.cells #[.int .u64 req.a, .int .u64 req.b, .int .u64 req.c, .int .u64 req.d] 31)) = W at *
  clear hW
  go_wp2
  go_loopw [7, 17] (SitesRel ns l req W (w.heap.size + 3)) (fun _ i _ => n1 - (intOf i).toNat)
  case atStart => exact ⟨0, 0, by omega, rfl, rfl, ⟨by simp [sitesD], .inl ⟨rfl, by simp⟩⟩, Below.refl _ _⟩
  case round =>
    obtain ⟨k, m, hk, rfl, hm, hown, hbr⟩ := hrel
    have hl1 : n1 ≤ 400 := HL1.out
    have HMM := Lib.hid hm
    have HOW := Lib.hid hown
    have HBR := Lib.hid hbr
    have TR := HT.out
    have hT3 : T3 [.slice A1 n1 c1, s2, s3] [.slice A4 n4 c4, v1, v2] (cellsV req) w wr := ⟨TR.one.below hbr (by omega), TR.two.below hbr (by omega), TR.three.below hbr (by omega), TR.below.trans (hbr.mono (by omega))⟩
    have hzr : w.heap.size + 3 ≤ wr.heap.size := Nat.le_trans hq3 hbr.size
    clear hm hown hbr TR
    by_cases hlt : k < n1
    · have hkl : k < ns.length := by have := HN1.out; omega
      obtain ⟨b, o, rfl, hb, he⟩ := HR1.out.at hkl
      generalize hx : ns[k] = x at *
      have HXX := Lib.hid (sites_take (ns := ns) (l := l) (req := req) hkl hx)
      clear hx
      have kwr := hT3.below
      have e0 : wr.cell? ⟨b, o + k * 10, none⟩ = some (.int .i64 x.id) := (kwr.cell (p := ⟨b, o + k * 10, none⟩) hb).trans (he 0 _ rfl)
      have e1 : wr.cell? ⟨b, o + k * 10 + 1, none⟩ = some (.int .i64 x.zone) := (kwr.cell (p := ⟨b, o + k * 10 + 1, none⟩) hb).trans (he 1 _ rfl)
      have e2 : wr.cell? ⟨b, o + k * 10 + 2, none⟩ = some (.int .u64 x.cap.a) := (kwr.cell (p := ⟨b, o + k * 10 + 2, none⟩) hb).trans (he 2 _ rfl)
      have e3 : wr.cell? ⟨b, o + k * 10 + 3, none⟩ = some (.int .u64 x.cap.b) := (kwr.cell (p := ⟨b, o + k * 10 + 3, none⟩) hb).trans (he 3 _ rfl)
      have e4 : wr.cell? ⟨b, o + k * 10 + 4, none⟩ = some (.int .u64 x.cap.c) := (kwr.cell (p := ⟨b, o + k * 10 + 4, none⟩) hb).trans (he 4 _ rfl)
      have e5 : wr.cell? ⟨b, o + k * 10 + 5, none⟩ = some (.int .u64 x.cap.d) := (kwr.cell (p := ⟨b, o + k * 10 + 5, none⟩) hb).trans (he 5 _ rfl)
      have e6 : wr.cell? ⟨b, o + k * 10 + 6, none⟩ = some (.int .u64 x.held.a) := (kwr.cell (p := ⟨b, o + k * 10 + 6, none⟩) hb).trans (he 6 _ rfl)
      have e7 : wr.cell? ⟨b, o + k * 10 + 7, none⟩ = some (.int .u64 x.held.b) := (kwr.cell (p := ⟨b, o + k * 10 + 7, none⟩) hb).trans (he 7 _ rfl)
      have e8 : wr.cell? ⟨b, o + k * 10 + 8, none⟩ = some (.int .u64 x.held.c) := (kwr.cell (p := ⟨b, o + k * 10 + 8, none⟩) hb).trans (he 8 _ rfl)
      have e9 : wr.cell? ⟨b, o + k * 10 + 9, none⟩ = some (.int .u64 x.held.d) := (kwr.cell (p := ⟨b, o + k * 10 + 9, none⟩) hb).trans (he 9 _ rfl)
      have hbw : b < wr.heap.size := Nat.lt_of_lt_of_le hb kwr.size
      have NB : Bf (wr.alloc (.cells #[.int .i64 x.id, .int .i64 x.zone, .int .u64 x.cap.a, .int .u64 x.cap.b, .int .u64 x.cap.c, .int .u64 x.cap.d, .int .u64 x.held.a, .int .u64 x.held.b, .int .u64 x.held.c, .int .u64 x.held.d] 51)) wr.heap.size (cellsN x) := Bf.new wr (cellsN x) 51 rfl
      have TN := hT3.alloc (.cells #[.int .i64 x.id, .int .i64 x.zone, .int .u64 x.cap.a, .int .u64 x.cap.b, .int .u64 x.cap.c, .int .u64 x.cap.d, .int .u64 x.held.a, .int .u64 x.held.b, .int .u64 x.held.c, .int .u64 x.held.d] 51)
      have ON := HOW.out.alloc (.cells #[.int .i64 x.id, .int .i64 x.zone, .int .u64 x.cap.a, .int .u64 x.cap.b, .int .u64 x.cap.c, .int .u64 x.cap.d, .int .u64 x.held.a, .int .u64 x.held.b, .int .u64 x.held.c, .int .u64 x.held.d] 51)
      have BN := HBR.out.alloc hzr (.cells #[.int .i64 x.id, .int .i64 x.zone, .int .u64 x.cap.a, .int .u64 x.cap.b, .int .u64 x.cap.c, .int .u64 x.cap.d, .int .u64 x.held.a, .int .u64 x.held.b, .int .u64 x.held.c, .int .u64 x.held.d] 51)
      clear he kwr HOW HBR hT3
      obtain ⟨a0', a1', a2', a3'⟩ := TN.one.cells3
      obtain ⟨b0, b1, b2, b3⟩ := TN.two.cells3
      obtain ⟨n0, nz⟩ := (⟨NB.cell 0 _ rfl, NB.lt⟩ : _ ∧ _)
      go_upto_region 5 with fail
      generalize hV : wr.alloc (.cells #[.int .i64 x.id, .int .i64 x.zone, .int .u64 x.cap.a, .int .u64 x.cap.b, .int .u64 x.cap.c, .int .u64 x.cap.d, .int .u64 x.held.a, .int .u64 x.held.b, .int .u64 x.held.c, .int .u64 x.held.d] 51) = V at *
      generalize hh : wr.heap.size = h at *
      have HTN := Lib.hid TN
      have HON := Lib.hid ON
      have HBN := Lib.hid BN
      have HNB := Lib.hid NB
      have hzV : w.heap.size + 3 ≤ V.heap.size := by have := nz; omega
      have HC := Lib.hid (HREST.out x.id V TN.below)
      have HE := Lib.hid (show siteAt ns l req x.id = siteAt ns l req x.id from rfl)
      have HRO := Lib.hid (HOK.out x.id)
      have HLY := Lib.hid (fun hz => left_yes (ns := ns) (l := l) (req := req) (id := x.id) hz)
      have HLN := Lib.hid (fun hz => left_no (ns := ns) (l := l) (req := req) (id := x.id) hz)
      clear TN ON BN NB hV a0 a1 a2 a3 e0 e1 e2 e3 e4 e5 e6 e7 e8 e9 hbw HREST HOK
      generalize restD ns l x.id = rc at *
      obtain ⟨r, cd⟩ := rc
      go_wp2_with fail
      refine HC.out.mono ?_
      rintro e w1 ⟨rfl, hb1⟩
      have T1 := (HTN.out.keep hb1).alloc (.cells #[.int .u64 r.a, .int .u64 r.b, .int .u64 r.c, .int .u64 r.d] 31)
      have R1 : Bf (w1.alloc (.cells #[.int .u64 r.a, .int .u64 r.b, .int .u64 r.c, .int .u64 r.d] 31)) w1.heap.size (cellsV r) := Bf.new w1 (cellsV r) 31 rfl
      have N1 := (HNB.out.below hb1 HNB.out.lt).alloc (.cells #[.int .u64 r.a, .int .u64 r.b, .int .u64 r.c, .int .u64 r.d] 31)
      have O1 := (own_belowF HON.out hb1 (Nat.le_refl _)).alloc (.cells #[.int .u64 r.a, .int .u64 r.b, .int .u64 r.c, .int .u64 r.d] 31)
      have K1 := (HBN.out.trans (hb1.mono hzV)).alloc (Nat.le_trans hzV hb1.size) (.cells #[.int .u64 r.a, .int .u64 r.b, .int .u64 r.c, .int .u64 r.d] 31)
      have hzU : w.heap.size + 3 ≤ (w1.alloc (.cells #[.int .u64 r.a, .int .u64 r.b, .int .u64 r.c, .int .u64 r.d] 31)).heap.size := by have h1 := hzV; have h2 := hb1.size; simp; omega
      have hnz : h < (w1.alloc (.cells #[.int .u64 r.a, .int .u64 r.b, .int .u64 r.c, .int .u64 r.d] 31)).heap.size := N1.lt
      by_cases hc : cd = 0
      · subst hc
        rw [codeV_zero]
        have HLR : Hid (leftAt ns l req x.id = subV r req) := HLY.out rfl
        obtain ⟨d0, d1, d2, d3, d4⟩ := R1.cells4
        obtain ⟨p0, p1, p2, p3, p4⟩ := T1.three.cells4
        go_upto_region 7 with fail
        generalize hU : w1.alloc (.cells #[.int .u64 r.a, .int .u64 r.b, .int .u64 r.c, .int .u64 r.d] 31) = U at *
        generalize hg : w1.heap.size = g at *
        have HT1 := Lib.hid T1
        have HN1' := Lib.hid N1
        have HO1 := Lib.hid O1
        have HK1 := Lib.hid K1
        clear T1 N1 O1 K1 R1 hU hg hb1 HTN HNB HON HBN HLY HLN HC a0' a1' a2' a3' b0 b1 b2 b3 n0
        rcases hs : subV r req with _ | v
        · have HC2 := Lib.hid (vSub_none HRO.out HQ.out hs U)
          have HX2 := Lib.hid (siteAt_none (HLR.out.trans hs))
          clear hs
          go_wp2_with fail
          refine HC2.out.mono ?_
          rintro e w2 ⟨rfl, hb2⟩
          have T2 := HT1.out.keep hb2
          have O2 := own_belowF HO1.out hb2 (Nat.le_refl _)
          have K2 := HK1.out.trans (hb2.mono hzU)
          have hz2 := Nat.le_trans hzU hb2.size
          clear hb2 HC2 d0 d1 d2 d3 d4 p0 p1 p2 p3 p4
          have HXX' := Lib.hid (show sitesD ns l req (ns.take (k + 1)) = sitesD ns l req (ns.take k) by rw [HXX.out, HX2.out, List.append_nil])
          go_wp2
          go_roundw
          case rel => exact ⟨k + 1, m, by omega, by go_num, by rw [HXX'.out]; exact HMM.out, by rw [HXX'.out]; exact O2.alloc _, K2.alloc hz2 _⟩
          case measure => simp [intOf]; omega
        · have HC2 := Lib.hid (vSub_some HRO.out HQ.out hs U)
          have HX2 := Lib.hid (siteAt_some (HLR.out.trans hs))
          clear hs
          go_wp2_with fail
          refine HC2.out.mono ?_
          rintro e w2 ⟨rfl, hb2⟩
          have N2 := (HN1'.out.below hb2 HN1'.out.lt).alloc (.cells #[.int .u64 v.a, .int .u64 v.b, .int .u64 v.c, .int .u64 v.d] 31)
          have O2 := (own_belowF HO1.out hb2 (Nat.le_refl _)).alloc (.cells #[.int .u64 v.a, .int .u64 v.b, .int .u64 v.c, .int .u64 v.d] 31)
          have K2 := (HK1.out.trans (hb2.mono hzU)).alloc (Nat.le_trans hzU hb2.size) (.cells #[.int .u64 v.a, .int .u64 v.b, .int .u64 v.c, .int .u64 v.d] 31)
          have V2 : Bf (w2.alloc (.cells #[.int .u64 v.a, .int .u64 v.b, .int .u64 v.c, .int .u64 v.d] 31)) w2.heap.size (cellsV v) := Bf.new w2 (cellsV v) 31 rfl
          have hz2 : w.heap.size + 3 ≤ (w2.alloc (.cells #[.int .u64 v.a, .int .u64 v.b, .int .u64 v.c, .int .u64 v.d] 31)).heap.size := by have h1 := hzU; have h2 := hb2.size; simp; omega
          have HXX' := Lib.hid (show sitesD ns l req (ns.take (k + 1)) = sitesD ns l req (ns.take k) ++ [⟨x.id, v⟩] by rw [HXX.out, HX2.out])
          have HL : Hid (m ≤ 2000000) := by
            have h1 := sites_len ns l req (ns.take k)
            have h2 := HMM.out
            have h3 := List.length_take_le k ns
            have h4 := HN1.out
            have h5 := HL1.out
            show _ ≤ _
            rw [List.length_take] at h1
            omega
          clear hb2 HC2 d0 d1 d2 d3 d4 p0 p1 p2 p3 p4
          go_upto_region 9 with fail
          generalize hU2 : w2.alloc (.cells #[.int .u64 v.a, .int .u64 v.b, .int .u64 v.c, .int .u64 v.d] 31) = U2 at *
          generalize hg2 : w2.heap.size = g2 at *
          have n0 : U2.cell? ⟨h, 0, none⟩ = some (.int .i64 x.id) := N2.cell 0 _ rfl
          have n1' := N2.lt
          obtain ⟨d0, d1, d2, d3, d4⟩ := V2.cells4
          have HO2 := Lib.hid O2
          have HK2 := Lib.hid K2
          have HZ2 := Lib.hid hz2
          clear N2 O2 K2 V2 hU2 hg2
          go_wp2_with (at_builtin; refine wpList_pushR 55 58 (.agg #[.int .i64 0, .int .u64 0, .int .u64 0, .int .u64 0, .int .u64 0]) 5 40 underSites infoSite rfl (by decide) (by decide) rfl (.tmp 39) (.tmp 44) rfl (w.heap.size + 3) _ m _ (cellsS ⟨x.id, v⟩) rfl (oneSite _) HO2.out HZ2.out HL.out rfl rfl ?_; intro v' w3 hown3 hb3 hB3)
          have HO3 := Lib.hid (own_sites HMM.out hown3 HXX'.out)
          clear hown3
          go_wp2
          go_roundw
          case rel => exact ⟨k + 1, m + 1, by omega, by go_num, HO3.out.2, HO3.out.1, HK2.out.trans hb3⟩
          case measure => simp [intOf]; omega
      · rw [codeF_pos hc]
        have HX2 := Lib.hid (siteAt_none (HLN.out hc))
        have HXX' := Lib.hid (show sitesD ns l req (ns.take (k + 1)) = sitesD ns l req (ns.take k) by rw [HXX.out, HX2.out, List.append_nil])
        have HO1 := Lib.hid O1
        have HK1 := Lib.hid K1
        clear T1 N1 O1 K1 R1 hb1 HTN HNB HON HBN HLY HLN HC a0' a1' a2' a3' b0 b1 b2 b3 n0 hc
        go_wp2
        go_roundw
        case rel => exact ⟨k + 1, m, by omega, by go_num, by rw [HXX'.out]; exact HMM.out, by rw [HXX'.out]; exact HO1.out, HK1.out⟩
        case measure => simp [intOf]; omega
    · have htk : ns.take k = ns := List.take_of_length_le (by have := HN1.out; omega)
      have hm' := HMM.out
      have how := HOW.out
      rw [htk] at hm' how
      obtain ⟨A', c', rfl, hc1, hc2, hc3, hrec⟩ := recs_of_own lenSite hm' how
      have kwr := hT3.below
      have HRE := Lib.hid hrec
      have HMM' := Lib.hid hm'
      have hc1' : (sitesD ns l req ns).length ≤ c' := by rw [← hm']; exact hc1
      clear how hm' htk hrec hT3
      go_wp2
      go_ret
      exact ⟨A', c', by rw [HMM'.out]; rfl, ⟨hc1', hc2, hc3, HRE.out⟩, kwr⟩
end Go.Proofs.Ytffdemagdagmpaa

/- The use of a node by the reference. -/
namespace Go.Proofs.Ytffdemagdagmpaa
set_option linter.unusedSimpArgs false
open Go.RowKit
set_option linter.unusedVariables false

set_option maxHeartbeats 3200000 in
set_option maxRecDepth 100000 in
theorem refUse_walk (l : List PodD) (node : Int) (A : Option Addr) (n c : Nat) (v1 v2 : Value) (z : V4) (ok : Bool) (w : World) (hn : n = l.length) (hl : n ≤ 400) (hr : Recs 8 cellsP w w.heap.size A l)
    (hsum : ∀ (A' : Option Addr) (n' c' : Nat) (w' : World), n' = (reqsAt node l).length → n' ≤ 500 → Recs 4 cellsV w' w'.heap.size A' (reqsAt node l) →
      Calls Try.prog 45 #[.slice A' n' c'] w' fun e w'' => e = .returned (.tuple #[aggV z, .bool ok]) ∧ Below w'.heap.size w' w'') :
    Calls Try.prog 39 #[.agg #[.slice A n c, v1, v2], .int .i64 node] w fun e w' => e = .returned (.tuple #[if ok then aggV z else zeroV, .bool ok]) ∧ Below w.heap.size w w' := by
  have HR := Lib.hid hr
  have HN := Lib.hid hn
  have HS := Lib.hid hsum
  have b00 := below_two w (.cells #[.slice A n c, v1, v2] 28) (.cells #[.int .u64 0, .int .u64 0, .int .u64 0, .int .u64 0] 31)
  have HT := Lib.hid (two_head w (.slice A n c) v1 v2 28 31)
  clear hr hn hsum
  go_enter Try.func39, Try.ntmps39
  go_wp2
  go_loopw [6, 7] (UseRel l node ((w.alloc (.cells #[.slice A n c, v1, v2] 28)).alloc (.cells #[.int .u64 0, .int .u64 0, .int .u64 0, .int .u64 0] 31)) (w.heap.size + 2)) (fun _ i _ => n - (intOf i).toNat)
  case atStart => exact ⟨0, 0, by omega, rfl, rfl, World.ownsRow_nil _ _ _ _, Below.refl _ _⟩
  case round =>
    obtain ⟨k, m, hk, rfl, hm, hown, hbr⟩ := hrel
    have HMM := Lib.hid hm
    have HOW := Lib.hid hown
    have hz := hbr.size
    have hz2 : w.heap.size + 2 ≤ wr.heap.size := by simpa using hz
    have kwr := b00.trans (hbr.mono (by omega))
    have c0 : wr.cell? ⟨w.heap.size, 0, none⟩ = some (.slice A n c) := (hbr.cell (p := ⟨w.heap.size, 0, none⟩) (by simp)).trans (by simp)
    have hwl : w.heap.size < wr.heap.size := by omega
    clear hm hown hz
    by_cases hlt : k < n
    · have hkl : k < l.length := by have := HN.out; omega
      obtain ⟨b, o, rfl, hb, he⟩ := HR.out.at hkl
      generalize hx : l[k] = y at *
      have HXX := Lib.hid (reqs_take (node := node) hkl hx)
      clear hx
      have e3 : wr.cell? ⟨b, o + k * 8 + 3, none⟩ = some (.int .u64 y.req.a) := (kwr.cell (p := ⟨b, o + k * 8 + 3, none⟩) hb).trans (he 3 _ rfl)
      have e4 : wr.cell? ⟨b, o + k * 8 + 4, none⟩ = some (.int .u64 y.req.b) := (kwr.cell (p := ⟨b, o + k * 8 + 4, none⟩) hb).trans (he 4 _ rfl)
      have e5 : wr.cell? ⟨b, o + k * 8 + 5, none⟩ = some (.int .u64 y.req.c) := (kwr.cell (p := ⟨b, o + k * 8 + 5, none⟩) hb).trans (he 5 _ rfl)
      have e6 : wr.cell? ⟨b, o + k * 8 + 6, none⟩ = some (.int .u64 y.req.d) := (kwr.cell (p := ⟨b, o + k * 8 + 6, none⟩) hb).trans (he 6 _ rfl)
      have e7 : wr.cell? ⟨b, o + k * 8 + 7, none⟩ = some (.int .i64 y.node) := (kwr.cell (p := ⟨b, o + k * 8 + 7, none⟩) hb).trans (he 7 _ rfl)
      have hbw : b < wr.heap.size := by omega
      have HL : Hid (m ≤ 2000000) := by
        have h1 := reqs_len node (l.take k)
        have h2 := HMM.out
        have h3 := List.length_take_le k l
        have h4 := HN.out
        show _ ≤ _
        rw [List.length_take] at h1
        omega
      clear he
      by_cases hy : y.node = node
      · have hd : (y.node == node) = true := by simp [hy]
        have HE := Lib.hid (HXX.out.1 hy)
        clear hy
        go_wp2_with (at_builtin; refine wpList_pushR 77 31 (.agg #[.int .u64 0, .int .u64 0, .int .u64 0, .int .u64 0]) 4 32 underVecs infoVec rfl (by decide) (by decide) rfl (.tmp 25) (.tmp 32) rfl (w.heap.size + 2) _ m _ (cellsV y.req) rfl (oneVec _) HOW.out hz2 HL.out rfl rfl ?_; intro v' w2 hown2 hb2 hB2)
        have HO2 := Lib.hid (own_reqs HMM.out hown2 HE.out)
        clear hown2
        go_wp2
        go_roundw
        case rel => exact ⟨k + 1, m + 1, by omega, by go_num, HO2.out.2, (by have h := HO2.out.1; exact h), hbr.trans hb2⟩
        case measure => simp [intOf]; omega
      · have hd : (y.node == node) = false := by simp [hy]
        have HE := Lib.hid (HXX.out.2 hy)
        clear hy
        go_wp2
        go_roundw
        case rel => exact ⟨k + 1, m, by omega, by go_num, by rw [HE.out]; exact HMM.out, by rw [HE.out]; exact HOW.out, hbr⟩
        case measure => simp [intOf]; omega
    · have htk : l.take k = l := List.take_of_length_le (by have := HN.out; omega)
      have hm' := HMM.out
      have how := HOW.out
      rw [htk] at hm' how
      obtain ⟨A', c', rfl, hc1, hc2, hc3, hrec⟩ := recs_of_own lenVec hm' how
      have HRE := Lib.hid hrec
      have HMM' := Lib.hid hm'
      have HLL : Hid (m ≤ 500) := by
        have h1 := reqs_len node l
        have h4 := HN.out
        have h5 := HMM'.out
        show _ ≤ _
        omega
      have hr4 := HT.out.below hbr (by simp)
      obtain ⟨g0, g1, g2, g3, f0, f1, f2, f3⟩ := hr4
      have hwl : w.heap.size + 1 < wr.heap.size := by omega
      clear how hm' htk hrec
      go_wp2_with fail
      refine (HS.out A' m c' _ HMM'.out HLL.out HRE.out).mono ?_
      rintro e w1 ⟨rfl, hb1⟩
      have g0 : w1.cell? ⟨w.heap.size + 1, 0, none⟩ = some (.int .u64 0) := (hb1.cell (p := ⟨w.heap.size + 1, 0, none⟩) hwl).trans g0
      have g1 : w1.cell? ⟨w.heap.size + 1, 1, none⟩ = some (.int .u64 0) := (hb1.cell (p := ⟨w.heap.size + 1, 1, none⟩) hwl).trans g1
      have g2 : w1.cell? ⟨w.heap.size + 1, 2, none⟩ = some (.int .u64 0) := (hb1.cell (p := ⟨w.heap.size + 1, 2, none⟩) hwl).trans g2
      have g3 : w1.cell? ⟨w.heap.size + 1, 3, none⟩ = some (.int .u64 0) := (hb1.cell (p := ⟨w.heap.size + 1, 3, none⟩) hwl).trans g3
      have f0 : w1.frozen? ⟨w.heap.size + 1, 0, none⟩ = false := (hb1.frozen (p := ⟨w.heap.size + 1, 0, none⟩) hwl).trans f0
      have f1 : w1.frozen? ⟨w.heap.size + 1, 1, none⟩ = false := (hb1.frozen (p := ⟨w.heap.size + 1, 1, none⟩) hwl).trans f1
      have f2 : w1.frozen? ⟨w.heap.size + 1, 2, none⟩ = false := (hb1.frozen (p := ⟨w.heap.size + 1, 2, none⟩) hwl).trans f2
      have f3 : w1.frozen? ⟨w.heap.size + 1, 3, none⟩ = false := (hb1.frozen (p := ⟨w.heap.size + 1, 3, none⟩) hwl).trans f3
      have hwl1 : w.heap.size + 1 < w1.heap.size := Nat.lt_of_lt_of_le hwl hb1.size
      have kw1 : Below w.heap.size w w1 := kwr.trans (hb1.mono (by omega))
      cases ok with
      | true =>
        go_wp2
        refine bodyPost_ret (v := .tuple #[aggV z, .bool true]) ?_ rfl ?_
        · simp [results, Try.results39, go_sem, *]
        · refine ⟨rfl, ?_⟩
          repeat (first | with_reducible exact kw1 | with_reducible refine Below.setCell ?_ ?_ _ | with_reducible refine Below.alloc ?_ ?_ _)
          all_goals first | (show w.heap.size ≤ w.heap.size + 1; omega) | (simp; omega) | omega
      | false =>
        go_wp2
        refine bodyPost_ret (v := .tuple #[zeroV, .bool false]) ?_ rfl ?_
        · simp [results, Try.results39, go_sem, *]
        · refine ⟨rfl, ?_⟩
          repeat (first | with_reducible exact kw1 | with_reducible refine Below.setCell ?_ ?_ _ | with_reducible refine Below.alloc ?_ ?_ _)
          all_goals first | (show w.heap.size ≤ w.heap.size + 1; omega) | (simp; omega) | omega
theorem refUse_some {l : List PodD} {node : Int} {u : V4} (ho : ∀ p ∈ l, p.Ok) (h : useD l node = some u) (A : Option Addr) (n c : Nat) (v1 v2 : Value) (w : World) (hn : n = l.length) (hl : n ≤ 400) (hr : Recs 8 cellsP w w.heap.size A l) :
    Calls Try.prog 39 #[.agg #[.slice A n c, v1, v2], .int .i64 node] w fun e w' => e = .returned (.tuple #[aggV u, .bool true]) ∧ Below w.heap.size w w' :=
  refUse_walk l node A n c v1 v2 u true w hn hl hr fun A' n' c' w' h1 h2 h3 => rSum_some (reqs_ok ho) h A' n' c' w' h1 h2 h3
theorem refUse_none {l : List PodD} {node : Int} (ho : ∀ p ∈ l, p.Ok) (h : useD l node = none) (A : Option Addr) (n c : Nat) (v1 v2 : Value) (w : World) (hn : n = l.length) (hl : n ≤ 400) (hr : Recs 8 cellsP w w.heap.size A l) :
    Calls Try.prog 39 #[.agg #[.slice A n c, v1, v2], .int .i64 node] w fun e w' => e = .returned (.tuple #[zeroV, .bool false]) ∧ Below w.heap.size w w' :=
  refUse_walk l node A n c v1 v2 .zer false w hn hl hr fun A' n' c' w' h1 h2 h3 => rSum_none (reqs_ok ho) h A' n' c' w' h1 h2 h3
end Go.Proofs.Ytffdemagdagmpaa

/- A node's rest by the reference. -/
namespace Go.Proofs.Ytffdemagdagmpaa
set_option linter.unusedSimpArgs false
open Go.RowKit
set_option linter.unusedVariables false

theorem ref_ret {p : V4 × Int} {a : Value} {b : Value} (q : V4 × Int) (h : p = q) (ha : a = aggV q.1) (hb : b = .int .i64 q.2) : Ending.returned (.tuple #[a, b]) = .returned (.tuple #[aggV p.1, .int .i64 p.2]) := by subst h ha hb; rfl

set_option maxHeartbeats 6400000 in
set_option maxRecDepth 100000 in
theorem refRest_any (ns : List NodeD) (l : List PodD) (id : Int) (hno : ∀ x ∈ ns, x.Ok) (hlo : ∀ p ∈ l, p.Ok) (A1 A4 : Option Addr) (n1 c1 n4 c4 : Nat) (s2 s3 v1 v2 : Value) (w : World)
    (hn1 : n1 = ns.length) (hl1 : n1 ≤ 400) (hr1 : Recs 10 cellsN w w.heap.size A1 ns) (hn4 : n4 = l.length) (hl4 : n4 ≤ 400) (hr4 : Recs 8 cellsP w w.heap.size A4 l) :
    Calls Try.prog 30 #[.agg #[.slice A1 n1 c1, s2, s3], .agg #[.slice A4 n4 c4, v1, v2], .int .i64 id] w fun e w' => e = .returned (.tuple #[aggV (restD ns l id).1, .int .i64 (restD ns l id).2]) ∧ Below w.heap.size w w' := by
  have HR1 := Lib.hid hr1
  have HR4 := Lib.hid hr4
  have HN1 := Lib.hid hn1
  have HN4 := Lib.hid hn4
  have HNO := Lib.hid hno
  have HLO := Lib.hid hlo
  have T0 := T3.new w [.slice A1 n1 c1, s2, s3] [.slice A4 n4 c4, v1, v2] (cellsV .zer) 26 28 31
  have HF := Lib.hid (fun W (h1 : Recs 10 cellsN W W.heap.size A1 ns) => rNode_any ns id A1 n1 c1 W.heap.size s2 s3 W hn1 (by omega) (Nat.le_refl _) h1)
  clear hr1 hr4 hn1 hn4 hno hlo
  go_enter Try.func30, Try.ntmps30
  go_wp2_with fail
  refine (HF.out _ ((HR1.out.below T0.below (Nat.le_refl _)).more T0.below.size)).mono ?_
  rintro e w1 ⟨rfl, hb1⟩
  have T1 := T0.keep hb1
  clear hb1 T0 HF
  obtain ⟨a0, a1, a2, a3⟩ := T1.two.cells3
  have hwl1 : w.heap.size + 1 < w1.heap.size := T1.two.lt
  by_cases hp : place NodeD.id id ns 0 < 0
  · have HE := Lib.hid (rest_none (l := l) (nodeAt_no (k := 0) (Int.le_refl _) hp))
    have kw2 := T1.below
    have HD : decide (place NodeD.id id ns 0 < 0) = true := decide_eq_true hp
    obtain ⟨⟨g0, g1, g2, g3⟩, g4⟩ := T1.three.zero4
    obtain ⟨f0, f1, f2, f3⟩ := T1.three.free4
    clear T1
    generalize place NodeD.id id ns 0 = q at *
    go_wp2
    refine bodyPost_ret (v := .tuple #[zeroV, .int .i64 4]) ?_ rfl ?_
    · simp [results, Try.results30, go_sem, *]
    · refine ⟨ref_ret _ HE.out rfl rfl, ?_⟩
      repeat (first | with_reducible exact kw2 | with_reducible refine Below.setCell ?_ ?_ _ | with_reducible refine Below.alloc ?_ ?_ _)
      all_goals first | (show w.heap.size ≤ w.heap.size + 2; omega) | (simp; omega) | omega
  · obtain ⟨i, hi, hpi⟩ : ∃ i : Nat, i < ns.length ∧ place NodeD.id id ns 0 = (i : Int) := by
      have := place_ge (f := NodeD.id) (id := id) (l := ns) (k := 0) (Int.le_refl _)
      exact ⟨(place NodeD.id id ns 0).toNat, by omega, by omega⟩
    rw [hpi]
    have HP := Lib.hid (nodeAt_yes (k := 0) hi (Int.le_refl _) (by rw [hpi]; omega))
    have HX := Lib.hid (HNO.out _ (List.getElem_mem hi))
    obtain ⟨b, o, hA, hb, he⟩ := HR1.out.at hi
    subst hA
    have hin : (i : Int) < (n1 : Int) := by have := HN1.out; omega
    have hi0 : (0 : Int) ≤ (i : Int) := by omega
    have hil : i < n1 := by omega
    generalize hx : ns[i] = x at *
    clear hp hx hpi
    have HEE : Hid (∀ (W : World), Below w.heap.size w W → W.cell? ⟨b, o + i * 10 + 2, none⟩ = some (.int .u64 x.cap.a) ∧ W.cell? ⟨b, o + i * 10 + 3, none⟩ = some (.int .u64 x.cap.b) ∧ W.cell? ⟨b, o + i * 10 + 4, none⟩ = some (.int .u64 x.cap.c) ∧ W.cell? ⟨b, o + i * 10 + 5, none⟩ = some (.int .u64 x.cap.d) ∧
        W.cell? ⟨b, o + i * 10 + 6, none⟩ = some (.int .u64 x.held.a) ∧ W.cell? ⟨b, o + i * 10 + 7, none⟩ = some (.int .u64 x.held.b) ∧ W.cell? ⟨b, o + i * 10 + 8, none⟩ = some (.int .u64 x.held.c) ∧ W.cell? ⟨b, o + i * 10 + 9, none⟩ = some (.int .u64 x.held.d) ∧ b < W.heap.size) := fun W hW =>
      ⟨(hW.cell (p := ⟨b, _, none⟩) hb).trans (he 2 _ rfl), (hW.cell (p := ⟨b, _, none⟩) hb).trans (he 3 _ rfl), (hW.cell (p := ⟨b, _, none⟩) hb).trans (he 4 _ rfl), (hW.cell (p := ⟨b, _, none⟩) hb).trans (he 5 _ rfl), (hW.cell (p := ⟨b, _, none⟩) hb).trans (he 6 _ rfl), (hW.cell (p := ⟨b, _, none⟩) hb).trans (he 7 _ rfl), (hW.cell (p := ⟨b, _, none⟩) hb).trans (he 8 _ rfl), (hW.cell (p := ⟨b, _, none⟩) hb).trans (he 9 _ rfl), Nat.lt_of_lt_of_le hb hW.size⟩
    have HRR := Lib.hid ((HR4.out.below T1.below (Nat.le_refl _)).more T1.below.size)
    clear he hb
    rcases hu : useD l id with _ | u
    · have HC := Lib.hid (fun W (h1 : Recs 8 cellsP W W.heap.size A4 l) => refUse_none HLO.out hu A4 n4 c4 v1 v2 W HN4.out hl4 h1)
      have HE := Lib.hid (rest_over HP.out hu)
      have HT := Lib.hid T1
      clear hu T1
      go_wp2_with fail
      refine (HC.out _ HRR.out).mono ?_
      rintro e w2 ⟨rfl, hb2⟩
      have T2 := HT.out.keep hb2
      clear hb2 HT HRR a0 a1 a2 a3 hwl1
      obtain ⟨⟨g0, g1, g2, g3⟩, g4⟩ := T2.three.zero4
      obtain ⟨f0, f1, f2, f3⟩ := T2.three.free4
      have kw2 := T2.below
      clear T2
      go_wp2
      refine bodyPost_ret (v := .tuple #[zeroV, .int .i64 8]) ?_ rfl ?_
      · simp [results, Try.results30, go_sem, *]
      · refine ⟨ref_ret _ HE.out rfl rfl, ?_⟩
        repeat (first | with_reducible exact kw2 | with_reducible refine Below.setCell ?_ ?_ _ | with_reducible refine Below.alloc ?_ ?_ _)
        all_goals first | (show w.heap.size ≤ w.heap.size + 2; omega) | (simp; omega) | omega
    · have HC := Lib.hid (fun W (h1 : Recs 8 cellsP W W.heap.size A4 l) => refUse_some HLO.out hu A4 n4 c4 v1 v2 W HN4.out hl4 h1)
      have HUO := Lib.hid (use_ok HLO.out hu)
      have HT := Lib.hid T1
      clear T1
      go_wp2_with fail
      refine (HC.out _ HRR.out).mono ?_
      rintro e w2 ⟨rfl, hb2⟩
      have T2 := (HT.out.keep hb2).alloc (.cells #[.int .u64 u.a, .int .u64 u.b, .int .u64 u.c, .int .u64 u.d] 31)
      have U2 : Bf (w2.alloc (.cells #[.int .u64 u.a, .int .u64 u.b, .int .u64 u.c, .int .u64 u.d] 31)) w2.heap.size (cellsV u) := Bf.new w2 (cellsV u) 31 rfl
      have hz2 : w2.heap.size < (w2.alloc (.cells #[.int .u64 u.a, .int .u64 u.b, .int .u64 u.c, .int .u64 u.d] 31)).heap.size := by simp
      have hz3 : w.heap.size + 2 < w2.heap.size := (HT.out.keep hb2).three.lt
      obtain ⟨z, ok, hsc, hok⟩ : ∃ (z : V4) (ok : Bool), (∀ W, Calls Try.prog 31 #[aggV x.cap, aggV x.held] W fun e w' => e = .returned (.tuple #[aggV z, .bool ok]) ∧ Below W.heap.size W w') ∧ ((ok = true ∧ subV x.cap x.held = some z) ∨ (ok = false ∧ subV x.cap x.held = none)) := by
        rcases hf : subV x.cap x.held with _ | f
        · exact ⟨.zer, false, fun W => rSub_none hf W, .inr ⟨rfl, rfl⟩⟩
        · exact ⟨f, true, fun W => rSub_some HX.out.2.2.1 HX.out.2.2.2 hf W, .inl ⟨rfl, rfl⟩⟩
      have HSC := Lib.hid hsc
      have HOK := Lib.hid hok
      have HU := Lib.hid hu
      clear hb2 HT HRR a0 a1 a2 a3 hwl1 hsc hok hu
      go_upto_region 7 with fail
      have EW := HEE.out _ T2.below
      obtain ⟨a0, a1, a2, a3⟩ := T2.one.cells3
      generalize hW : (w2.alloc (.cells #[.int .u64 u.a, .int .u64 u.b, .int .u64 u.c, .int .u64 u.d] 31)) = W at *
      have HT2 := Lib.hid T2
      have HU2 := Lib.hid U2
      have HZ2 := Lib.hid hz2
      have HZ3 := Lib.hid hz3
      clear hW T2 U2 HEE hz2 hz3
      obtain ⟨e2, e3, e4, e5, e6, e7, e8, e9, ebl⟩ := EW
      go_region_held3 (fun w' => (∀ b o, b < W.heap.size → w'.cell? ⟨b, o, none⟩ = W.cell? ⟨b, o, none⟩) ∧ Below W.heap.size W w')
        (first | (with_reducible assumption) | (show Keeps W _; with_reducible (repeat (first | exact Keeps.refl _ | refine Keeps.drew ?_ | refine Keeps.set ?_ (by simp) _ | refine Keeps.alloc ?_ _ | refine Keeps.step ?_ (by assumption)))))
        (first
          | (go_at_call 31; refine (HSC.out _).mono ?_; rintro e w' ⟨rfl, hb⟩; obtain ⟨hcx, hfx⟩ := old_cells hb))
      rename_i hK
      have BV : Bf (w'.alloc (.cells #[.int .u64 z.a, .int .u64 z.b, .int .u64 z.c, .int .u64 z.d] 31)) w'.heap.size (cellsV z) := Bf.new w' (cellsV z) _ rfl
      have KV := hK.2
      generalize hV : w'.alloc (.cells #[.int .u64 z.a, .int .u64 z.b, .int .u64 z.c, .int .u64 z.d] 31) = V at *
      clear hK hV hcx hfx hb
      generalize w'.heap.size = h at *
      rotate_left
      rename_i hK
      have BV := Bf.later (z := z) (Bf.drew (Bf.new W (cellsV .zer) 31 rfl)) hb
      have KV := hK.2
      generalize hV : (((w'.setCell ⟨W.heap.size, 0, none⟩ (.int .u64 z.a)).setCell ⟨W.heap.size, 1, none⟩ (.int .u64 z.b)).setCell ⟨W.heap.size, 2, none⟩ (.int .u64 z.c)).setCell ⟨W.heap.size, 3, none⟩ (.int .u64 z.d) = V at *
      clear hK hV hcx hfx hb
      have KV' := KV
      generalize hh : W.heap.size = h at BV ⊢
      clear hh KV'
      rotate_left
      all_goals
        have T7 := HT2.out.keep KV
        have U7 := HU2.out.below KV HU2.out.lt
        have HT7 := Lib.hid T7
        clear KV
        obtain ⟨v0, v1', v2', v3, v4⟩ := BV.cells4
        obtain ⟨⟨g0, g1, g2, g3⟩, g4⟩ := T7.three.zero4
        obtain ⟨f0, f1, f2, f3⟩ := T7.three.free4
        obtain ⟨u0, u1, u2, u3, u4⟩ := U7.cells4
        have kw2 := T7.below
        clear a0 a1 a2 a3 e2 e3 e4 e5 e6 e7 e8 e9 T7 U7 BV
        rcases HOK.out with ⟨hk, hf⟩ | ⟨hk, hf⟩
        · subst hk
          have HZO := Lib.hid (sub_ok4 HX.out.2.2.1 HX.out.2.2.2 hf)
          rcases hg : subV z u with _ | r
          · have HE := Lib.hid (rest_room HP.out HU.out ((left_some hf).trans hg))
            have HC2 := Lib.hid (fun W => rSub_none hg W)
            clear hf hg kw2
            go_wp2_with fail
            refine (HC2.out _).mono ?_
            rintro e w3 ⟨rfl, hb3⟩
            have T8 := HT7.out.keep hb3
            clear hb3 HT7 g0 g1 g2 g3 g4 f0 f1 f2 f3 v0 v1' v2' v3 v4 u0 u1 u2 u3 u4
            obtain ⟨⟨g0, g1, g2, g3⟩, g4⟩ := T8.three.zero4
            obtain ⟨f0, f1, f2, f3⟩ := T8.three.free4
            have kw2 := T8.below
            clear T8
            go_wp2
            refine bodyPost_ret (v := .tuple #[zeroV, .int .i64 9]) ?_ rfl ?_
            · simp [results, Try.results30, go_sem, *]
            · refine ⟨ref_ret _ HE.out rfl rfl, ?_⟩
              repeat (first | with_reducible exact kw2 | with_reducible refine Below.setCell ?_ ?_ _ | with_reducible refine Below.alloc ?_ ?_ _)
              all_goals first | (show w.heap.size ≤ w.heap.size + 2; omega) | (simp; omega) | omega
          · have HE := Lib.hid (rest_some HP.out HU.out ((left_some hf).trans hg))
            have HC2 := Lib.hid (fun W => rSub_some HZO.out HUO.out hg W)
            clear hf hg kw2
            go_wp2_with fail
            refine (HC2.out _).mono ?_
            rintro e w3 ⟨rfl, hb3⟩
            have T8 := HT7.out.keep hb3
            clear hb3 HT7 g0 g1 g2 g3 g4 f0 f1 f2 f3 v0 v1' v2' v3 v4 u0 u1 u2 u3 u4
            obtain ⟨⟨g0, g1, g2, g3⟩, g4⟩ := T8.three.zero4
            obtain ⟨f0, f1, f2, f3⟩ := T8.three.free4
            have kw2 := T8.below
            clear T8
            go_wp2
            refine bodyPost_ret (v := .tuple #[aggV r, .int .i64 0]) ?_ rfl ?_
            · simp [results, Try.results30, go_sem, *]
            · refine ⟨ref_ret _ HE.out rfl rfl, ?_⟩
              repeat (first | with_reducible exact kw2 | with_reducible refine Below.setCell ?_ ?_ _ | with_reducible refine Below.alloc ?_ ?_ _)
              all_goals first | (show w.heap.size ≤ w.heap.size + 2; omega) | (simp; omega) | omega
        · subst hk
          have HE := Lib.hid (rest_room HP.out HU.out (left_none hf))
          clear hf
          go_wp2
          refine bodyPost_ret (v := .tuple #[zeroV, .int .i64 9]) ?_ rfl ?_
          · simp [results, Try.results30, go_sem, *]
          · refine ⟨ref_ret _ HE.out rfl rfl, ?_⟩
            repeat (first | with_reducible exact kw2 | with_reducible refine Below.setCell ?_ ?_ _ | with_reducible refine Below.alloc ?_ ?_ _)
            all_goals first | (show w.heap.size ≤ w.heap.size + 2; omega) | (simp; omega) | omega
end Go.Proofs.Ytffdemagdagmpaa

/- The heads of layer 5's laws: few of all, and the document's examples. -/
namespace Go.Proofs.Ytffdemagdagmpaa
set_option linter.unusedSimpArgs false
open Go.RowKit
set_option linter.unusedVariables false

def few05 (n1 n2 n3 nx nt : Nat) : Bool := decide (n1 ≤ 40 ∧ n2 ≤ 40 ∧ n3 ≤ 40) && (decide (nx ≤ 40) && decide (nt ≤ 40))
set_option maxHeartbeats 1600000 in
theorem few05_any (A1 A2 A3 A4 A5 : Option Addr) (n1 c1 n2 c2 n3 c3 n4 c4 n5 c5 : Nat) (v1 v2 u1 u2 : Value) (w : World) :
    Calls Try.prog 6 #[.agg #[.slice A1 n1 c1, .slice A2 n2 c2, .slice A3 n3 c3], .agg #[.slice A4 n4 c4, v1, v2], .agg #[.slice A5 n5 c5, u1, u2]] w fun e w' => e = .returned (.bool (few05 n1 n2 n3 n4 n5)) ∧ Below w.heap.size w w' := by
  have b00 := below_three w (.cells #[.slice A1 n1 c1, .slice A2 n2 c2, .slice A3 n3 c3] 26) (.cells #[.slice A4 n4 c4, v1, v2] 36) (.cells #[.slice A5 n5 c5, u1, u2] 28)
  go_enter Try.func6, Try.ntmps6
  go_wp2_with fail
  refine (few_any _ _ _ _ _ _ _ _ _ _).mono ?_
  rintro e w1 ⟨rfl, hb1⟩
  have k1 : Below (w.heap.size + 3) _ w1 := hb1.mono (by simp)
  have kw1 := b00.trans (k1.mono (by omega))
  have a3 : w1.cell? ⟨w.heap.size + 1, 0, none⟩ = some (.slice A4 n4 c4) := (k1.cell (p := ⟨w.heap.size + 1, 0, none⟩) (by simp)).trans (by rw [World.cell?_alloc_lt _ _ _ (by simp)]; simp)
  have a4 : w1.cell? ⟨w.heap.size + 2, 0, none⟩ = some (.slice A5 n5 c5) := (k1.cell (p := ⟨w.heap.size + 2, 0, none⟩) (by simp)).trans (by rw [World.cell?_alloc_at _ _ _ _ (by simp)]; simp)
  cases hf : decide (n1 ≤ 40 ∧ n2 ≤ 40 ∧ n3 ≤ 40) with
  | false =>
    have HE := Lib.hid (show few05 n1 n2 n3 n4 n5 = false by unfold few05; rw [hf]; rfl)
    clear hf
    go_wp2
    go_ret
    exact ⟨ret_bool HE.out.symm, kw1⟩
  | true =>
    by_cases h4 : n4 ≤ 40
    · have d4 : decide ((n4 : Int) ≤ 40) = true := decide_eq_true (by omega)
      by_cases h5 : n5 ≤ 40
      · have d5 : decide ((n5 : Int) ≤ 40) = true := decide_eq_true (by omega)
        have HE := Lib.hid (show few05 n1 n2 n3 n4 n5 = true by unfold few05; rw [hf]; simp [h4, h5])
        clear hf
        go_wp2
        go_ret
        exact ⟨ret_bool HE.out.symm, kw1⟩
      · have d5 : decide ((n5 : Int) ≤ 40) = false := decide_eq_false (by omega)
        have HE := Lib.hid (show few05 n1 n2 n3 n4 n5 = false by unfold few05; rw [hf]; simp [h5])
        clear hf
        go_wp2
        go_ret
        exact ⟨ret_bool HE.out.symm, kw1⟩
    · have d4 : decide ((n4 : Int) ≤ 40) = false := decide_eq_false (by omega)
      have HE := Lib.hid (show few05 n1 n2 n3 n4 n5 = false by unfold few05; rw [hf]; simp [h4])
      clear hf
      go_wp2
      go_ret
      exact ⟨ret_bool HE.out.symm, kw1⟩
theorem Out.alloc {α : Type} {size : Nat} {cells : α → List Value} {w : World} {xs : List α} {A : Option Addr} {c : Nat} (h : Out size cells w xs A c) (o : Obj) : Out size cells (w.alloc o) xs A c :=
  ⟨h.1, h.2.1, h.2.2.1, (h.2.2.2.below ((Below.refl _ w).alloc (Nat.le_refl _) o) (Nat.le_refl _)).more (by simp)⟩
end Go.Proofs.Ytffdemagdagmpaa

/- The reference's Place and Goal of layer 5. -/
namespace Go.Proofs.Ytffdemagdagmpaa
set_option linter.unusedSimpArgs false
open Go.RowKit
set_option linter.unusedVariables false

end Go.Proofs.Ytffdemagdagmpaa

/- The law StateTells where there are too many of something. -/
namespace Go.Proofs.Ytffdemagdagmpaa
set_option linter.unusedSimpArgs false
open Go.RowKit
set_option linter.unusedVariables false

/-- Four boxes of the call's own. -/
structure Fo (a b c d : List Value) (w V : World) : Prop where
  one : Bf V w.heap.size a
  two : Bf V (w.heap.size + 1) b
  three : Bf V (w.heap.size + 2) c
  four : Bf V (w.heap.size + 3) d
  below : Below w.heap.size w V
section
variable {a b c d : List Value} {w V V' : World}
theorem Fo.keep (h : Fo a b c d w V) (hb : Below V.heap.size V V') : Fo a b c d w V' :=
  ⟨h.one.below hb h.one.lt, h.two.below hb h.two.lt, h.three.below hb h.three.lt, h.four.below hb h.four.lt, h.below.trans (hb.mono h.below.size)⟩
theorem Fo.alloc (h : Fo a b c d w V) (o : Obj) : Fo a b c d w (V.alloc o) := h.keep ((Below.refl _ V).alloc (Nat.le_refl _) o)
theorem Fo.new (w : World) (a b c d : List Value) (t1 t2 t3 t4 : TypeId) : Fo a b c d w ((((w.alloc (.cells a.toArray t1)).alloc (.cells b.toArray t2)).alloc (.cells c.toArray t3)).alloc (.cells d.toArray t4)) :=
  ⟨(((Bf.new w a t1 rfl).alloc _).alloc _).alloc _, ((Bf.new (w.alloc (.cells a.toArray t1)) b t2 (b := w.heap.size + 1) (by simp)).alloc _).alloc _,
    (Bf.new ((w.alloc (.cells a.toArray t1)).alloc (.cells b.toArray t2)) c t3 (b := w.heap.size + 2) (by simp)).alloc _, Bf.new (((w.alloc (.cells a.toArray t1)).alloc (.cells b.toArray t2)).alloc (.cells c.toArray t3)) d t4 (b := w.heap.size + 3) (by simp),
    below_four w _ _ _ _⟩
end
end Go.Proofs.Ytffdemagdagmpaa

namespace Go.Proofs.Ytffdemagdagmpaa
set_option linter.unusedSimpArgs false
open Go.RowKit
set_option linter.unusedVariables false

theorem below_drews {B : Nat} {a w : World} (h : Below B a w) (n : Nat) : Below B a (w.drewN n) := ⟨h.os, h.tape, h.output, h.size, h.block⟩
end Go.Proofs.Ytffdemagdagmpaa
