/- Plain mathematics of numbers as bytes; no program stands in it. -/
import Derived.KernelRfl
namespace Go.Proofs.YtaeklohgheildaaDoor

/-- A number's bytes: seven bits a byte, the lowest first. -/
def enc (n : Int) : List Int := if n < 128 then [n] else (n % 128 + 128) :: enc (n / 128)
  termination_by n.toNat
  decreasing_by omega

theorem enc_lt {n : Int} (h : n < 128) : enc n = [n] := by rw [enc, if_pos h]
theorem enc_ge {n : Int} (h : ¬ n < 128) : enc n = (n % 128 + 128) :: enc (n / 128) := by rw [enc, if_neg h]

def encs : List Int → List Int
  | [] => []
  | n :: l => enc n ++ encs l
theorem encs_append (a b : List Int) : encs (a ++ b) = encs a ++ encs b := by
  induction a with
  | nil => rfl
  | cons n l ih => simp [encs, ih]
theorem encs_one (n : Int) : encs [n] = enc n := by simp [encs]

def pw (i : Nat) : Int := 128 ^ i
theorem pw_zero : pw 0 = 1 := rfl
theorem pw_succ (i : Nat) : pw (i + 1) = 128 * pw i := by unfold pw; rw [Int.pow_succ, Int.mul_comm]
theorem pw_pos (i : Nat) : 0 < pw i := Int.pow_pos (by decide)
theorem pw_le {i j : Nat} (h : i ≤ j) : pw i ≤ pw j := by
  induction h with
  | refl => exact Int.le_refl _
  | step _ ih => rw [pw_succ]; have := pw_pos i; omega
theorem pw_9 : pw 9 = 9223372036854775808 := by decide
theorem pw_8 : pw 8 = 72057594037927936 := by decide

theorem enc_len_pos (n : Int) : 1 ≤ (enc n).length := by
  by_cases h : n < 128
  · rw [enc_lt h]; simp
  · rw [enc_ge h]; simp
theorem enc_ne (n : Int) : enc n ≠ [] := by
  have := enc_len_pos n
  intro h
  rw [h] at this
  simp at this
theorem enc_len_le (k : Nat) : ∀ n : Int, n < pw (k + 1) → (enc n).length ≤ k + 1 := by
  induction k with
  | zero => intro n h; rw [pw_succ, pw_zero] at h; rw [enc_lt (by omega)]; simp
  | succ k ih =>
    intro n h
    by_cases h1 : n < 128
    · rw [enc_lt h1]; simp
    · rw [enc_ge h1]
      have := ih (n / 128) (by rw [pw_succ] at h; omega)
      simp
      omega
theorem enc_len_ge (k : Nat) : ∀ n : Int, pw k ≤ n → k + 1 ≤ (enc n).length := by
  induction k with
  | zero => intro n _; exact enc_len_pos n
  | succ k ih =>
    intro n h
    have hp := pw_pos k
    rw [pw_succ] at h
    rw [enc_ge (by omega)]
    have := ih (n / 128) (by omega)
    simp
    omega
theorem enc_len_ten (n : Int) (h : n < 18446744073709551616) : (enc n).length ≤ 10 := by
  have e : pw 10 = 1180591620717411303424 := by decide
  exact enc_len_le 9 n (by rw [e]; omega)
theorem enc_bytes (n : Int) (h : 0 ≤ n) : ∀ c ∈ enc n, 0 ≤ c ∧ c < 256 := by
  induction n using enc.induct with
  | case1 n h1 => rw [enc_lt h1]; intro c hc; simp at hc; omega
  | case2 n h1 ih =>
    rw [enc_ge h1]
    intro c hc
    simp at hc
    rcases hc with rfl | hc
    · omega
    · exact ih (by omega) c hc

def Nums (l : List Int) : Prop := ∀ n ∈ l, 0 ≤ n ∧ n < 18446744073709551616
def Octs (l : List Int) : Prop := ∀ c ∈ l, 0 ≤ c ∧ c < 256
theorem Nums.append {a b : List Int} (ha : Nums a) (hb : Nums b) : Nums (a ++ b) := fun n hn => by
  rcases List.mem_append.1 hn with h | h
  · exact ha n h
  · exact hb n h
theorem Nums.take {a : List Int} (ha : Nums a) (k : Nat) : Nums (a.take k) := fun n hn => ha n (List.mem_of_mem_take hn)
theorem Octs.drop {a : List Int} (ha : Octs a) (k : Nat) : Octs (a.drop k) := fun n hn => ha n (List.mem_of_mem_drop hn)
theorem encs_octs {l : List Int} (h : Nums l) : Octs (encs l) := by
  induction l with
  | nil => intro c hc; simp [encs] at hc
  | cons n l ih =>
    intro c hc
    rcases List.mem_append.1 hc with h1 | h1
    · exact enc_bytes n (h n (by simp)).1 c h1
    · exact ih (fun m hm => h m (by simp [hm])) c h1
theorem encs_len_le {l : List Int} (h : Nums l) : (encs l).length ≤ 10 * l.length := by
  induction l with
  | nil => simp [encs]
  | cons n l ih =>
    have h1 := enc_len_ten n (h n (by simp)).2
    have h2 := ih (fun m hm => h m (by simp [hm]))
    simp [encs]
    omega
theorem encs_len_ge (l : List Int) : l.length ≤ (encs l).length := by
  induction l with
  | nil => simp [encs]
  | cons n l ih =>
    have h1 := enc_len_pos n
    simp [encs]
    omega

/-- What a reader of bytes finds from the i-th byte of a number on, n being what the bytes before are worth: the number and how many bytes it has; 0 bytes: none. -/
def scan : List Int → Nat → Int → Int × Nat
  | [], _, _ => (0, 0)
  | c :: r, i, n =>
    if i = 9 ∧ 1 < c then (0, 0)
    else if 128 ≤ c then scan r (i + 1) (n + (c - 128) * pw i)
    else if c = 0 ∧ 0 < i then (0, 0)
    else (n + c * pw i, i + 1)

theorem scan_enc (v : Int) (r : List Int) : ∀ (i : Nat) (n : Int), 0 ≤ v → 0 ≤ n → (0 < v ∨ i = 0) → n + v * pw i < 18446744073709551616 →
    scan (enc v ++ r) i n = (n + v * pw i, i + (enc v).length) := by
  induction v using enc.induct with
  | case1 v h =>
    intro i n h0 hn hz hs
    rw [enc_lt h]
    have h9 : ¬ (i = 9 ∧ 1 < v) := by
      rintro ⟨rfl, h1⟩
      rw [pw_9] at hs
      omega
    have hz' : ¬ (v = 0 ∧ 0 < i) := by omega
    simp only [List.cons_append, List.nil_append, scan, if_neg h9, if_neg (show ¬ 128 ≤ v by omega), if_neg hz', List.length_singleton]
  | case2 v h ih =>
    intro i n h0 hn hz hs
    rw [enc_ge h]
    have h9 : ¬ (i = 9 ∧ 1 < v % 128 + 128) := by
      rintro ⟨rfl, h1⟩
      rw [pw_9] at hs
      omega
    have hp := pw_pos i
    have e : n + (v % 128 + 128 - 128) * pw i + v / 128 * pw (i + 1) = n + v * pw i := by
      rw [pw_succ]
      have hv : v = v / 128 * 128 + v % 128 := by omega
      have : v * pw i = (v / 128 * 128 + v % 128) * pw i := by rw [← hv]
      rw [this, Int.add_mul, Int.mul_assoc, show v % 128 + 128 - 128 = v % 128 by omega]
      omega
    have hm : 0 ≤ (v % 128 + 128 - 128) * pw i := Int.mul_nonneg (by omega) (by omega)
    have := ih (i + 1) (n + (v % 128 + 128 - 128) * pw i) (by omega) (by omega) (by omega) (by rw [e]; exact hs)
    simp only [List.cons_append, scan, if_neg h9, if_pos (show 128 ≤ v % 128 + 128 by omega), this, List.length_cons, e]
    congr 1
    omega

theorem scan_inv (bs : List Int) : ∀ (i : Nat) (n : Int), Octs bs → i ≤ 9 →
    scan bs i n = (0, 0) ∨ ∃ v rest, bs = enc v ++ rest ∧ 0 ≤ v ∧ (0 < v ∨ i = 0) ∧ v * pw i + pw i ≤ 18446744073709551616 ∧ scan bs i n = (n + v * pw i, i + (enc v).length) := by
  induction bs with
  | nil => intro i n _ _; exact .inl rfl
  | cons c r ih =>
    intro i n hb hi
    have hc := hb c (by simp)
    have hr : Octs r := fun x hx => hb x (by simp [hx])
    by_cases h9 : i = 9 ∧ 1 < c
    · left; simp only [scan, if_pos h9]
    by_cases h1 : 128 ≤ c
    · have hi9 : i + 1 ≤ 9 := by omega
      rcases ih (i + 1) (n + (c - 128) * pw i) hr hi9 with h | ⟨v, rest, rfl, hv0, hv1, hle, hs⟩
      · left; simp only [scan, if_neg h9, if_pos h1, h]
      · right
        have hd : (v * 128 + (c - 128)) / 128 = v := by omega
        have hm : (v * 128 + (c - 128)) % 128 + 128 = c := by omega
        have he : enc (v * 128 + (c - 128)) = c :: enc v := by rw [enc_ge (by omega), hd, hm]
        have hp := pw_pos i
        have hq : (c - 128) * pw i + pw i ≤ 128 * pw i := by
          have : (c - 128 + 1) * pw i ≤ 128 * pw i := Int.mul_le_mul_of_nonneg_right (by omega) (by omega)
          rw [Int.add_mul] at this
          omega
        have hx : (v * 128 + (c - 128)) * pw i = v * pw (i + 1) + (c - 128) * pw i := by rw [pw_succ, Int.add_mul, Int.mul_assoc]
        refine ⟨v * 128 + (c - 128), rest, by rw [he]; rfl, by omega, by omega, ?_, ?_⟩
        · rw [hx]; rw [pw_succ] at hle ⊢; omega
        · simp only [scan, if_neg h9, if_pos h1, hs, he, hx, List.length_cons]
          congr 1
          · omega
          · omega
    · by_cases h0 : c = 0 ∧ 0 < i
      · left; simp only [scan, if_neg h9, if_neg h1, if_pos h0]
      · right
        refine ⟨c, r, by rw [enc_lt (by omega)]; rfl, hc.1, by omega, ?_, ?_⟩
        · by_cases e9 : i = 9
          · subst e9; rw [pw_9]; omega
          · have h8 := pw_le (show i ≤ 8 by omega)
            rw [pw_8] at h8
            have hp := pw_pos i
            have : (c + 1) * pw i ≤ 128 * pw i := Int.mul_le_mul_of_nonneg_right (by omega) (by omega)
            rw [Int.add_mul] at this
            omega
        · rw [enc_lt (by omega)]
          simp only [scan, if_neg h9, if_neg h1, if_neg h0, List.length_singleton]

/-- The bytes begin with no number. -/
def Miss (bs : List Int) : Prop := scan bs 0 0 = (0, 0)
theorem scan_hit (v : Int) (r : List Int) (h0 : 0 ≤ v) (h1 : v < 18446744073709551616) : scan (enc v ++ r) 0 0 = (v, (enc v).length) := by
  have := scan_enc v r 0 0 h0 (by omega) (by omega) (by rw [pw_zero]; omega)
  rw [this, pw_zero]
  congr 1 <;> omega
theorem hit_or_miss (bs : List Int) (hb : Octs bs) : Miss bs ∨ ∃ v rest, bs = enc v ++ rest ∧ 0 ≤ v ∧ v < 18446744073709551616 := by
  rcases scan_inv bs 0 0 hb (by omega) with h | ⟨v, rest, h1, h2, _, h3, _⟩
  · exact .inl h
  · rw [pw_zero] at h3
    exact .inr ⟨v, rest, h1, h2, by omega⟩

theorem nums_cons {n : Int} {l : List Int} (h1 : 0 ≤ n ∧ n < 18446744073709551616) (h : Nums l) : Nums (n :: l) := fun m hm => by
  rcases List.mem_cons.1 hm with rfl | hm
  · exact h1
  · exact h m hm
/-- Any bytes are the bytes of numbers, and of nothing more; or of numbers, and then of what begins with none. -/
theorem all_parts (m : Nat) : ∀ bs : List Int, bs.length ≤ m → Octs bs → ∃ ns rest, bs = encs ns ++ rest ∧ Nums ns ∧ (rest = [] ∨ (rest ≠ [] ∧ Miss rest)) := by
  induction m with
  | zero => intro bs h _; exact ⟨[], [], by simp at h; simp [h, encs], fun _ h => by simp at h, .inl rfl⟩
  | succ m ih =>
    intro bs h hb
    by_cases he : bs = []
    · subst he; exact ⟨[], [], rfl, fun _ h => by simp at h, .inl rfl⟩
    rcases hit_or_miss bs hb with hm | ⟨v, rest, rfl, h0, h1⟩
    · exact ⟨[], bs, rfl, fun _ h => by simp at h, .inr ⟨he, hm⟩⟩
    · have hl := enc_len_pos v
      obtain ⟨ns, r2, h2, h3, h4⟩ := ih rest (by simp at h; omega) (fun c hc => hb c (by simp [hc]))
      exact ⟨v :: ns, r2, by rw [h2]; simp [encs], nums_cons ⟨h0, h1⟩ h3, h4⟩
theorem get_parts (k : Nat) : ∀ bs : List Int, Octs bs → ∃ ns rest, bs = encs ns ++ rest ∧ Nums ns ∧ (ns.length = k ∨ (ns.length < k ∧ Miss rest)) := by
  induction k with
  | zero => intro bs _; exact ⟨[], bs, rfl, fun _ h => by simp at h, .inl rfl⟩
  | succ k ih =>
    intro bs hb
    rcases hit_or_miss bs hb with hm | ⟨v, rest, rfl, h0, h1⟩
    · exact ⟨[], bs, rfl, fun _ h => by simp at h, .inr ⟨by simp, hm⟩⟩
    · obtain ⟨ns, r2, h2, h3, h4⟩ := ih rest (fun c hc => hb c (by simp [hc]))
      refine ⟨v :: ns, r2, by rw [h2]; simp [encs], nums_cons ⟨h0, h1⟩ h3, ?_⟩
      rcases h4 with h4 | ⟨h4, h5⟩
      · exact .inl (by simp [h4])
      · exact .inr ⟨by simp; omega, h5⟩
end Go.Proofs.YtaeklohgheildaaDoor
