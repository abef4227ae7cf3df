/- The law WireParts, walked. -/
import Derived.Test.YtglblaeplibjmaaDoorV
namespace Go.Proofs.YtglblaeplibjmaaDoor
open Go.RowKit
set_option linter.unusedVariables false

/-- What is told is a row of the call's own that holds these numbers, how many bytes they have, and no error. -/
def PartTo (ns : List Int) (w : World) (e : Ending) (w' : World) : Prop :=
  ∃ v, e = .returned (.tuple #[v, .int .i64 ((encs ns).length : Nat), .nilIface]) ∧ w'.ownsRow w.heap.size 44 1 v (u64s ns).length (u64s ns) ∧ Below w.heap.size w w'
theorem Get_hit (ns rest : List Int) (many : Int) (A : Option Addr) (n c : Nat) (w : World) (hn : n = (encs ns ++ rest).length) (hl : n ≤ 100000) (hc : n ≤ c) (hc' : c ≤ maxLen) (hmany : many ≤ 9223372036854775807) (hm : ns.length = many.toNat) (hns : Nums ns) (hb : Octs rest) (hr : Row w w.heap.size A (u8s (encs ns ++ rest))) :
    Calls Tryd.prog 11 #[.slice A n c, .int .i64 many] w (PartTo ns w) := by
  refine (Get_any ns rest many A n c w hn hl hc hc' hmany hns hb (.inl hm) hr).mono ?_
  rintro e w' ⟨⟨_, v, h1, h2⟩ | ⟨h, _⟩, hb⟩
  · exact ⟨v, h1, h2, hb⟩
  · omega

set_option maxHeartbeats 1600000 in
set_option maxRecDepth 100000 in
theorem wireParts_long (A B : Option Addr) (n c m d : Nat) (many : Int) (w : World) (hg : Laid w) (hn : 500 < n ∨ 500 < m ∨ many < 0 ∨ (n : Int) < many) (h1 : n ≤ maxLen) (h2 : m ≤ maxLen) :
    Calls Tryd.prog 7 #[.slice A n c, .slice B m d, .int .i64 many] w fun e w' => e = .returned (.bool true) ∧ Below w.heap.size w w' := by
  unfold maxLen at h1 h2
  have HG := Lib.hid hg
  clear hg
  go_enter Tryd.func7, Tryd.ntmps7
  go_wp2_with fail
  refine (up_any _ HG.out).mono ?_
  rintro e w1 ⟨rfl, hb1⟩
  by_cases hn1 : 500 < n
  · clear hn
    go_wp2
    go_ret
    exact ⟨rfl, hb1⟩
  · by_cases hn2 : 500 < m
    · clear hn
      go_wp2
      go_ret
      exact ⟨rfl, hb1⟩
    · by_cases hn3 : many < 0
      · clear hn
        go_wp2
        go_ret
        exact ⟨rfl, hb1⟩
      · have hn4 : (n : Int) < many := by omega
        clear hn
        go_wp2
        go_ret
        exact ⟨rfl, hb1⟩
end Go.Proofs.YtglblaeplibjmaaDoor
