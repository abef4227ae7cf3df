/- Contracts of the functions that read numbers: wire.All, wire.Get and the reference's. -/
import Derived.Test.YtglblaeplibjmaaDoorG
import Derived.Test.YtglblaeplibjmaaDoorQ
namespace Go.Proofs.YtglblaeplibjmaaDoor
open Go.RowKit
set_option linter.unusedVariables false

/-- An error of package wire: a Spot of the call's own, at a place, ErrForm. -/
def Spotted (B p : Nat) (w' : World) (u : Value) : Prop :=
  ∃ g, u = .iface 51 (.pointer (some ⟨g, 0, none⟩)) ∧ B ≤ g ∧ w'.heap[g]? = some (.cells #[.int .i64 (p : Int), .int .i64 2] 56 (0, 0))

theorem misformed_any (p : Int) (w : World) : Calls Tryd.prog 20 #[.int .i64 p] w fun e w' => e = .returned (.iface 51 (.pointer (some ⟨w.heap.size, 0, none⟩))) ∧ w.alloc (.cells #[.int .i64 p, .int .i64 2] 56) = w' := by
  go_enter Tryd.func20, Tryd.ntmps20
  go_wp2
  go_ret
  exact ⟨rfl, rfl⟩

def AllRel (ns : List Int) (w : World) (v i : Value) (wr : World) : Prop :=
  ∃ k : Nat, k ≤ ns.length ∧ i = .int .i64 ((encs (ns.take k)).length : Nat) ∧ wr.ownsRow w.heap.size 44 1 v (u64s (ns.take k)).length (u64s (ns.take k)) ∧ Below w.heap.size w wr

def AllTo (ns rest : List Int) (w : World) (e : Ending) (w' : World) : Prop :=
  ((rest = [] ∧ ∃ v, e = .returned (.tuple #[v, .nilIface]) ∧ w'.ownsRow w.heap.size 44 1 v (u64s ns).length (u64s ns)) ∨
   (rest ≠ [] ∧ ∃ u, e = .returned (.tuple #[.slice none 0 0, u]) ∧ Spotted w.heap.size (encs ns).length w' u)) ∧ Below w.heap.size w w'

theorem Row.cut {w : World} {B : Nat} {A : Option Addr} {xs : List Value} (h : Row w B A xs) (p : Nat) : Row w B (A.map (·.add p)) (xs.drop p) := by
  rcases h with h | ⟨b, o, h1, h2, h3⟩
  · exact .inl (by simp [h])
  · refine .inr ⟨b, o + p, by rw [h1]; simp [Addr.add_lit], h2, fun j hj => ?_⟩
    rw [List.getElem_drop, Nat.add_assoc]
    exact h3 (p + j) (by simp at hj; omega)
theorem u8s_drop (l : List Int) (p : Nat) : u8s (l.drop p) = (u8s l).drop p := by simp
theorem first_hit (v : Int) (r : List Int) (A : Option Addr) (n c R : Nat) (w : World) (hn : n = (enc v ++ r).length) (hl : n ≤ 100000) (h0 : 0 ≤ v ∧ v < 18446744073709551616) (hb : Octs r) (hr : Row w R A (u8s (enc v ++ r))) :
    Calls Tryd.prog 19 #[.slice A n c] w fun e w' => e = .returned (.tuple #[.int .u64 v, .int .i64 ((enc v).length : Nat)]) ∧ w = w' := by
  subst hn
  have := first_any (enc v ++ r) A c R w hl (fun x hx => by rcases List.mem_append.1 hx with h | h; exact enc_bytes v h0.1 x h; exact hb x h) hr
  rw [scan_hit v r h0.1 h0.2] at this
  exact this
theorem first_miss (r : List Int) (A : Option Addr) (n c R : Nat) (w : World) (hn : n = r.length) (hl : n ≤ 100000) (hb : Octs r) (hm : Miss r) (hr : Row w R A (u8s r)) :
    Calls Tryd.prog 19 #[.slice A n c] w fun e w' => e = .returned (.tuple #[.int .u64 0, .int .i64 0]) ∧ w = w' := by
  subst hn
  have := first_any r A c R w hl hb hr
  rw [show scan r 0 0 = (0, 0) from hm] at this
  exact this

theorem drop_at (ns rest : List Int) (k : Nat) (h : k < ns.length) : (encs ns ++ rest).drop (encs (ns.take k)).length = enc ns[k] ++ (encs (ns.drop (k + 1)) ++ rest) := by
  have e : encs ns = encs (ns.take k) ++ (enc ns[k] ++ encs (ns.drop (k + 1))) := by
    have : ns = ns.take k ++ (ns[k] :: ns.drop (k + 1)) := by rw [← List.drop_eq_getElem_cons h, List.take_append_drop]
    conv => lhs; rw [this]
    rw [encs_append]; rfl
  rw [e, List.append_assoc, List.drop_left, List.append_assoc]
theorem len_at (ns rest : List Int) (k : Nat) (h : k < ns.length) : (encs (ns.take k)).length + (enc ns[k]).length ≤ (encs ns ++ rest).length := by
  have := congrArg List.length (drop_at ns rest k h)
  have h1 := enc_len_pos ns[k]
  simp only [List.length_drop, List.length_append] at this ⊢
  omega
theorem len_next (ns : List Int) (k : Nat) (h : k < ns.length) : (encs (ns.take (k + 1))).length = (encs (ns.take k)).length + (enc ns[k]).length := by
  rw [← encs_take ns k h, List.length_append]
theorem drop_end (ns rest : List Int) : (encs ns ++ rest).drop (encs ns).length = rest := List.drop_left
theorem octs_append {a b : List Int} (ha : Octs a) (hb : Octs b) : Octs (a ++ b) := fun x hx => by
  rcases List.mem_append.1 hx with h | h
  · exact ha x h
  · exact hb x h
theorem nums_drop {a : List Int} (ha : Nums a) (k : Nat) : Nums (a.drop k) := fun n hn => ha n (List.mem_of_mem_drop hn)
theorem own64 {B : Nat} {w1 : World} {v : Value} {xs ys : List Int} {c : Int} (h : w1.ownsRow B 44 1 v (u64s xs ++ [Value.int .u64 c]).length (u64s xs ++ [Value.int .u64 c])) (e : xs ++ [c] = ys) : w1.ownsRow B 44 1 v (u64s ys).length (u64s ys) := by
  subst e; simpa using h

set_option maxHeartbeats 800000 in
theorem All_any (ns rest : List Int) (A : Option Addr) (n c : Nat) (w : World) (hn : n = (encs ns ++ rest).length) (hl : n ≤ 100000) (hc : n ≤ c) (hc' : c ≤ maxLen) (hns : Nums ns) (hb : Octs rest) (hm : rest = [] ∨ (rest ≠ [] ∧ Miss rest)) (hr : Row w w.heap.size A (u8s (encs ns ++ rest))) :
    Calls Tryd.prog 15 #[.slice A n c] w (AllTo ns rest w) := by
  unfold maxLen at hc'
  have HN := Lib.hid hns
  have HB := Lib.hid hb
  have HR := Lib.hid hr
  have HM := Lib.hid hm
  have HL := Lib.hid hn
  clear hns hb hr hm hn
  go_enter Tryd.func15, Tryd.ntmps15
  go_wp2
  go_loopw [4, 5] (AllRel ns w) (fun _ i _ => n - (intOf i).toNat)
  case atStart => exact ⟨0, by omega, rfl, World.ownsRow_nil _ _ _ _, Below.refl _ _⟩
  case round =>
    obtain ⟨k, hk, rfl, hown, hbr⟩ := hrel
    have hz := hbr.size
    have hrow := HR.out.below hbr (Nat.le_refl _)
    by_cases hlt : k < ns.length
    · have hat := len_at ns rest k hlt
      have hnx := len_next ns k hlt
      have hcut := hrow.cut (encs (ns.take k)).length
      rw [← u8s_drop, drop_at ns rest k hlt] at hcut
      have hd := congrArg List.length (drop_at ns rest k hlt)
      rw [List.length_drop] at hd
      rw [← HL.out] at hat hd
      have hpos := enc_len_pos ns[k]
      have hv := HN.out _ (List.getElem_mem hlt)
      have ho : Octs (encs (ns.drop (k + 1)) ++ rest) := octs_append (encs_octs (nums_drop HN.out _)) HB.out
      have hul : (u64s (ns.take k)).length ≤ 2000000 := by
        have := encs_len_ge ns
        have h1 := HL.out
        simp at h1 ⊢; omega
      have htk : ns.take k ++ [ns[k]] = ns.take (k + 1) := (List.take_succ_eq_append_getElem hlt).symm
      generalize hpe : (encs (ns.take k)).length = p at *
      have HP := Lib.hid hpe
      have HX := Lib.hid hnx
      have HD := Lib.hid hd
      have HC := Lib.hid hcut
      have HT := Lib.hid htk
      have HU := Lib.hid hul
      have HO := Lib.hid ho
      clear hpe hnx hd hcut htk hul hrow ho
      have hlen10 := enc_len_ten ns[k] hv.2
      go_wp2_with fail
      refine (first_hit ns[k] (encs (ns.drop (k + 1)) ++ rest) _ _ _ _ _ HD.out (by omega) hv HO.out HC.out).mono ?_
      rintro e w1 ⟨rfl, rfl⟩
      generalize hqe : (enc ns[k]).length = q at *
      generalize hve : ns[k] = x at *
      clear HD HC
      have HQ := Lib.hid hqe
      clear hqe hve
      go_wp2_with (at_builtin; refine wpList_push 22 44 (.int .u64 0) 8 Tryd.underlying22 Tryd.info44 rfl (by decide) rfl (.tmp 23) (.tmp 25) rfl w.heap.size _ (u64s (ns.take k)) (.int .u64 x) rfl hown hz HU.out rfl rfl ?_; intro v' w1 hown1 hb1 hB1)
      go_roundw
      case rel => exact ⟨k + 1, by omega, by rw [HX.out]; go_num, own64 hown1 HT.out, hbr.trans hb1⟩
      case measure => simp [intOf]; omega
    · have htk : ns.take k = ns := List.take_of_length_le (by omega)
      rw [htk] at hown ⊢
      rcases HM.out with h0 | ⟨hne, hm⟩
      · subst h0
        have he : (encs ns).length = n := by rw [HL.out]; simp
        generalize hpe : (encs ns).length = p at *
        have hp : n ≤ p := by omega
        clear hpe he htk hrow
        go_wp2
        go_ret2
        exact ⟨.inl ⟨rfl, _, rfl, hown⟩, hbr⟩
      · have hcut := hrow.cut (encs ns).length
        rw [← u8s_drop, drop_end] at hcut
        have hd : n - (encs ns).length = rest.length := by rw [HL.out]; simp
        have hr0 : 0 < rest.length := List.length_pos_iff.2 hne
        have HNE := Lib.hid hne
        generalize hpe : (encs ns).length = p at *
        have hp : p < n := by omega
        have HP := Lib.hid hpe
        have HD := Lib.hid hd
        have HC := Lib.hid hcut
        have HM' := Lib.hid hm
        clear hpe hd hcut htk hrow hm hne
        go_wp2_with fail
        refine (first_miss rest _ _ _ _ _ HD.out (by omega) HB.out HM'.out HC.out).mono ?_
        rintro e w1 ⟨rfl, rfl⟩
        go_wp2_with fail
        refine (misformed_any _ _).mono ?_
        rintro e w1 ⟨rfl, rfl⟩
        go_wp2
        go_ret2
        refine ⟨.inr ⟨HNE.out, _, rfl, wr.heap.size, rfl, hz, ?_⟩, hbr.alloc hz _⟩
        rw [HP.out]
        exact heap_alloc_new _ _
end Go.Proofs.YtglblaeplibjmaaDoor
