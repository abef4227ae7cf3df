/- What the program's checkEach comes to: mathematics. -/
import Derived.Test.YtaeklohgheildaaDoorDC
import Derived.Test.YtaeklohgheildaaDoorDD
import Derived.Test.YtaeklohgheildaaDoorDG
namespace Go.Proofs.YtaeklohgheildaaDoor
open Go.RowKit
set_option linter.unusedVariables false

def lastOk {α : Type} (f : α → Int) (l : List α) (k : Nat) (la : Int) : Prop := (k = 0 ∧ la = 0) ∨ ∃ j, ∃ h : j < l.length, k = j + 1 ∧ la = f l[j] ∧ 1 ≤ la ∧ la ≤ 2147483647
theorem inB_iff {n a b : Int} : inB n a b = true ↔ a ≤ n ∧ n ≤ b := by simp [inB]
theorem idI_zero (n : Int) : idI 0 n = if n < 1 ∨ 2147483647 < n then 1 else 0 := by
  by_cases h : n < 1 ∨ 2147483647 < n
  · rw [if_pos h, idI, if_pos rfl, if_neg (by rw [inB_iff]; omega)]
  · rw [if_neg h, idI, if_pos rfl, if_pos (by rw [inB_iff]; omega)]
theorem idI_some {q : Int} (n : Int) (h : q ≠ 0) : idI q n = q := by rw [idI, if_neg h]
theorem id_key {α : Type} {f : α → Int} {l : List α} {k : Nat} {la : Int} (h : lastOk f l k la) (hk : k < l.length) : idI (ordAt f l k) (f l[k]) = idBad (f l[k]) la := by
  rcases h with ⟨rfl, rfl⟩ | ⟨j, hj, rfl, rfl, h1, h2⟩
  · show idI 0 _ = _
    rw [idI_zero]
    generalize f l[0] = n
    unfold idBad
    by_cases a : n < 1 ∨ 2147483647 < n
    · rw [if_pos a, if_pos a]
    · rw [if_neg a, if_neg a, if_neg (by omega), if_neg (by omega)]
  · rw [ordAt_next hk]
    generalize f l[j + 1] = n at *
    generalize f l[j] = la at *
    unfold ordI idBad
    by_cases e1 : n = la
    · rw [if_pos e1, idI_some _ (by decide), if_neg (by omega)]
    · rw [if_neg e1]
      by_cases e2 : n < la
      · rw [if_pos e2, idI_some _ (by decide)]
        by_cases e3 : n < 1 ∨ 2147483647 < n
        · rw [if_pos e3]
        · rw [if_neg e3]
      · rw [if_neg e2, idI_zero]
theorem lastOk_next {α : Type} {f : α → Int} {l : List α} {k : Nat} {la : Int} {x : α} (hk : k < l.length) (hx : l[k] = x) (h0 : idBad (f x) la = 0) : lastOk f l (k + 1) (f x) := by
  obtain ⟨a, b, c⟩ := idBad_ok h0
  exact .inr ⟨k, hk, rfl, by rw [hx], a, b⟩
theorem orI_zero {a b : Int} (h : orI a b = 0) : a = 0 := by
  unfold orI at h; split at h
  · assumption
  · assumption
theorem node_key (la : Int) (x : NodeD) : nodeBad la x = orI (idBad x.id la) (nodeF x) := by
  unfold nodeBad orI nodeF
  by_cases h : idBad x.id la = 0
  · by_cases h2 : (x.zone < 1 ∨ 8 < x.zone ∨ x.held.le x.cap = false)
    · rw [if_pos ⟨h, h2⟩, if_pos h, if_neg]
      rintro ⟨a, b⟩
      rw [inB_iff] at a
      rcases h2 with h2 | h2 | h2
      · omega
      · omega
      · rw [b] at h2; cases h2
    · rw [if_neg (fun a => h2 a.2), if_pos h, if_pos]
      · exact h
      · constructor
        · rw [inB_iff]; omega
        · cases e : x.held.le x.cap with
          | true => rfl
          | false => exact absurd (.inr (.inr e)) h2
  · rw [if_neg (fun a => h a.1), if_neg h]
theorem load_key (la : Int) (x : LoadD) : loadBad la x = orI (idBad x.id la) (loadF x) := by
  unfold loadBad orI loadF
  by_cases h : idBad x.id la = 0
  · rw [if_pos h]
    cases a : countOk x.skew <;> cases b : countOk x.min <;> cases c : countOk x.max <;> by_cases d : x.max < x.min <;> simp [h, d] <;> omega
  · rw [if_neg (fun a => h a.1), if_neg h]
theorem pod_key (nodes : List NodeD) (loads : List LoadD) (la : Int) (x : PodD) : podBad nodes loads la x = orI (idBad x.id la) (podF nodes loads x) := by
  unfold podBad orI podF
  by_cases h : idBad x.id la = 0
  · rw [if_neg (by simpa using h), if_pos h]
    cases a : countOk x.prio
    · rfl
    · simp only [Bool.true_eq_false, if_false]
      by_cases b : place LoadD.id x.load loads 0 < 0
      · simp [b]
      · by_cases c : place NodeD.id x.node nodes 0 < 0 ∧ x.node ≠ 0
        · rw [if_pos (.inr ⟨c.2, c.1⟩), if_neg b, if_pos c]
        · rw [if_neg (by rintro (d | ⟨d, e⟩); exact b d; exact c ⟨e, d⟩), if_neg b, if_neg c]
  · rw [if_pos h, if_neg h]

def EachRel {α : Type} (bad : Int → α → Int) (f : α → Int) (l : List α) (first : Nat) (W : World) (i : Value) (wr : World) : Prop :=
  ∃ (k m : Nat) (la : Int), k ≤ l.length ∧ m = first + k ∧ i = .int .i64 k ∧ lastOk f l k la ∧ firstBad bad f la m (l.drop k) = firstBad bad f 0 first l ∧ Below W.heap.size W wr
/-- None is at fault; or a Spot of the call's own, of the first one that is, with its place. -/
def EachTo (F : Option (Int × Nat)) (w : World) (e : Ending) (w' : World) : Prop :=
  Below w.heap.size w w' ∧ ((F = none ∧ e = .returned .nilIface) ∨ ∃ (b : Int) (k g : Nat), F = some (b, k) ∧ e = .returned (.iface 91 (.pointer (some ⟨g, 0, none⟩))) ∧ w.heap.size ≤ g ∧ w'.heap[g]? = some (.cells #[.int .i64 (k : Int), .int .i64 b] 96 (0, 0)))
theorem firstBad_place {α : Type} {bad : Int → α → Int} {f : α → Int} {l : List α} {la : Int} {k m : Nat} {F : Option (Int × Nat)} (h : k < l.length) {x : α} (hx : l[k] = x) (hf : firstBad bad f la m (l.drop k) = F) {b : Int} (hb : bad la x = b) :
    (b ≠ 0 → F = some (b, m)) ∧ (b = 0 → firstBad bad f (f x) (m + 1) (l.drop (k + 1)) = F) := by
  subst hb; exact firstBad_at h hx hf
theorem each_new (v : World) (o : Obj) : (v.alloc o).heap[v.heap.size]? = some o := by
  show (v.heap.push o)[v.heap.size]? = some o
  exact Array.getElem?_push_size
theorem each_end {w W v : World} {F : Option (Int × Nat)} {b p : Int} {m g : Nat} (kW : Below w.heap.size w W) (h : Keeps W v) (hF : F = some (b, m)) (hp : p = (m : Int)) (hg : g = v.heap.size) :
    EachTo F w (.returned (.iface 91 (.pointer (some ⟨g, 0, none⟩)))) (v.alloc (.cells #[.int .i64 p, .int .i64 b] 96)) := by
  have kv : Below w.heap.size w v := kW.trans (h.2.mono kW.size)
  subst hp hg
  exact ⟨kv.alloc kv.size _, .inr ⟨b, m, v.heap.size, hF, rfl, kv.size, each_new v _⟩⟩
end Go.Proofs.YtaeklohgheildaaDoor
