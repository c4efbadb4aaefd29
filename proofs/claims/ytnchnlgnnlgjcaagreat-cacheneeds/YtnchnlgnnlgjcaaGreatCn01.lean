/- Layer 13: FxMath, LsMath, RnMath, PoMath, BkMath. -/
namespace Go.Proofs.YtnchnlgnnlgjcaaGreat
set_option linter.unusedVariables false
namespace Fx
/-- To cut to a range. -/
def cut (v lo hi : Int) : Int := if v < lo then lo else if hi < v then hi else v
/-- Of a whole part and a rest below the divisor: the nearest whole number, of two as near the even one. -/
def near (q r b : Int) : Int := if b - r < r then q + 1 else if r = b - r then (if q % 2 = 0 then q else q + 1) else q
/-- A fraction rounded. -/
def rnd (a b : Int) : Int := near (a / b) (a % b) b
theorem near_up {q r b : Int} (h : b - r < r) : near q r b = q + 1 := by simp [near, h]
theorem near_even {q r b : Int} (h1 : ¬ b - r < r) (h2 : r = b - r) (h3 : q % 2 = 0) : near q r b = q := by unfold near; rw [if_neg h1, if_pos h2, if_pos h3]
theorem near_odd {q r b : Int} (h1 : ¬ b - r < r) (h2 : r = b - r) (h3 : ¬ q % 2 = 0) : near q r b = q + 1 := by unfold near; rw [if_neg h1, if_pos h2, if_neg h3]
theorem near_down {q r b : Int} (h1 : ¬ b - r < r) (h2 : ¬ r = b - r) : near q r b = q := by unfold near; rw [if_neg h1, if_neg h2]
theorem near_bd (q r b : Int) : q ≤ near q r b ∧ near q r b ≤ q + 1 := by
  unfold near
  split
  · omega
  · split
    · split <;> omega
    · omega
theorem cut_lo {v lo hi : Int} (h : v < lo) : cut v lo hi = lo := by simp [cut, h]
theorem cut_hi {v lo hi : Int} (h1 : ¬ v < lo) (h : hi < v) : cut v lo hi = hi := by simp [cut, h, h1]
theorem cut_in {v lo hi : Int} (h1 : ¬ v < lo) (h : ¬ hi < v) : cut v lo hi = v := by simp [cut, h, h1]
theorem div_bd (a b L : Int) (hb : 0 < b) (h1 : -L ≤ a) (h2 : a ≤ L) (hL : 0 ≤ L) : -L ≤ a / b ∧ a / b ≤ L := by
  have e := Int.mul_ediv_add_emod a b
  have h0 := Int.emod_nonneg a (show b ≠ 0 by omega)
  have h3 := Int.emod_lt_of_pos a hb
  generalize a / b = q at *
  generalize a % b = r at *
  constructor
  · refine Int.le_of_not_gt fun hq => ?_
    have : b * q ≤ b * (-L - 1) := Int.mul_le_mul_of_nonneg_left (by omega) (by omega)
    have h5 : b * (-L - 1) = b * (-L) - b := by rw [Int.mul_sub]; omega
    have h6 : b * (-L) ≤ 1 * (-L) := by
      have : 1 * L ≤ b * L := Int.mul_le_mul_of_nonneg_right (by omega) hL
      rw [Int.mul_neg, Int.mul_neg]; omega
    omega
  · refine Int.le_of_not_gt fun hq => ?_
    have : b * (L + 1) ≤ b * q := Int.mul_le_mul_of_nonneg_left (by omega) (by omega)
    have h5 : b * (L + 1) = b * L + b := by rw [Int.mul_add]; omega
    have h6 : 1 * L ≤ b * L := Int.mul_le_mul_of_nonneg_right (by omega) hL
    omega
theorem div_mul (a b : Int) : a / b * b = a - a % b := by
  have e := Int.mul_ediv_add_emod a b
  rw [Int.mul_comm] at e
  omega
/-- Go's division of a number below 0: towards 0. -/
theorem tdiv_neg {a b : Int} (ha : a < 0) (hb : 0 < b) : (a.tmod b = 0 ∧ a % b = 0 ∧ a.tdiv b = a / b) ∨ (a.tmod b < 0 ∧ a % b = a.tmod b + b ∧ a.tdiv b = a / b + 1) := by
  have hs : b.sign = 1 := Int.sign_eq_one_of_pos hb
  have hn : (b.natAbs : Int) = b := by omega
  have h0 := Int.emod_nonneg a (show b ≠ 0 by omega)
  have h1 := Int.emod_lt_of_pos a hb
  have e1 := Int.tdiv_eq_ediv (a := a) (b := b)
  have e2 := Int.tmod_eq_emod (a := a) (b := b)
  by_cases hd : b ∣ a
  · left
    rw [if_pos (Or.inr hd)] at e1 e2
    have : a % b = 0 := Int.emod_eq_zero_of_dvd hd
    omega
  · right
    have hne : ¬ (0 ≤ a ∨ b ∣ a) := by
      intro h; rcases h with h | h
      · omega
      · exact hd h
    rw [if_neg hne] at e1 e2
    omega
theorem quo_half (a b : Int) (h2 : a ≤ 9223372036854775807) (hb : 0 < b) : b ≤ 1 ∨ a / b ≤ 4611686018427387904 := by
  by_cases hz : b ≤ 1
  · exact Or.inl hz
  · right
    have e := div_mul a b
    have h0 := Int.emod_nonneg a (show b ≠ 0 by omega)
    refine Int.le_of_not_gt fun hq => ?_
    have h3 : 4611686018427387905 * b ≤ a / b * b := Int.mul_le_mul_of_nonneg_right (by omega) (by omega)
    omega
theorem quo_bd (a b : Int) (h1 : -9223372036854775808 ≤ a) (h2 : a ≤ 9223372036854775807) (hb : 0 < b) : -9223372036854775808 ≤ a / b ∧ a / b ≤ 9223372036854775807 := by
  have q0 := div_bd a b 9223372036854775808 hb (by omega) (by omega) (by omega)
  refine ⟨q0.1, ?_⟩
  rcases quo_half a b h2 hb with h | h
  · have e3 : b = 1 := by omega
    rw [e3, Int.ediv_one]; omega
  · omega
theorem quo_neg (a b : Int) (ha : a < 0) (hb : 0 < b) : a / b ≤ -1 := by
  have := Int.ediv_neg_of_neg_of_pos ha hb
  omega
/-- Two numbers of 32 bits: their product is within 62 bits. -/
theorem mul_bd (a b : Int) (h1 : -2147483648 ≤ a) (h2 : a ≤ 2147483647) (h3 : -2147483648 ≤ b) (h4 : b ≤ 2147483647) : -4611686018427387904 ≤ a * b ∧ a * b ≤ 4611686018427387904 := by
  have e1 : (a + 2147483648) * (b + 2147483648) = a * b + 2147483648 * a + 2147483648 * b + 4611686018427387904 := by
    rw [Int.add_mul, Int.mul_add, Int.mul_add]; omega
  have e2 : (2147483648 - a) * (2147483648 - b) = a * b - 2147483648 * a - 2147483648 * b + 4611686018427387904 := by
    rw [Int.sub_mul, Int.mul_sub, Int.mul_sub]; omega
  have e3 : (a + 2147483648) * (2147483648 - b) = 2147483648 * a - a * b - 2147483648 * b + 4611686018427387904 := by
    rw [Int.add_mul, Int.mul_sub, Int.mul_sub]; omega
  have e4 : (2147483648 - a) * (b + 2147483648) = 2147483648 * b - a * b - 2147483648 * a + 4611686018427387904 := by
    rw [Int.sub_mul, Int.mul_add, Int.mul_add]; omega
  have p1 : 0 ≤ (a + 2147483648) * (b + 2147483648) := Int.mul_nonneg (by omega) (by omega)
  have p2 : 0 ≤ (2147483648 - a) * (2147483648 - b) := Int.mul_nonneg (by omega) (by omega)
  have p3 : 0 ≤ (a + 2147483648) * (2147483648 - b) := Int.mul_nonneg (by omega) (by omega)
  have p4 : 0 ≤ (2147483648 - a) * (b + 2147483648) := Int.mul_nonneg (by omega) (by omega)
  omega
/-- The product, divided by 2^16, rounded, cut to the wide range. -/
def mul (a b : Int) : Int := cut (rnd (a * b) 65536) (-2147483648) 2147483647
def of (n : Int) : Int := cut (n * 65536) (-2147483648) 2147483647
/-- What is rounded is no further from the fraction than a half; where it is just a half, it is even. -/
theorem rnd_char (a b : Int) (hb : 0 < b) : -b ≤ 2 * (a - rnd a b * b) ∧ 2 * (a - rnd a b * b) ≤ b ∧ ((2 * (a - rnd a b * b) = b ∨ 2 * (a - rnd a b * b) = -b) → rnd a b % 2 = 0) := by
  have e := div_mul a b
  have h0 := Int.emod_nonneg a (show b ≠ 0 by omega)
  have h1 := Int.emod_lt_of_pos a hb
  unfold rnd
  generalize a / b = q at *
  generalize a % b = r at *
  have e1 : (q + 1) * b = q * b + b := by rw [Int.add_mul]; omega
  by_cases c1 : b - r < r
  · rw [near_up c1, e1]; omega
  · by_cases c2 : r = b - r
    · by_cases c3 : q % 2 = 0
      · rw [near_even c1 c2 c3]; omega
      · rw [near_odd c1 c2 c3, e1]; omega
    · rw [near_down c1 c2]; omega
/-- Rounding never falls. -/
theorem rnd_mono (a c b : Int) (hb : 0 < b) (h : a ≤ c) : rnd a b ≤ rnd c b := by
  have h1 := rnd_char a b hb
  have h2 := rnd_char c b hb
  generalize rnd a b = m at *
  generalize rnd c b = k at *
  refine Int.le_of_not_gt fun hk => ?_
  have e : m * b = k * b + (m - k) * b := by rw [← Int.add_mul]; congr 1; omega
  by_cases hd : m - k = 1
  · rw [hd] at e
    omega
  · have : 2 * b ≤ (m - k) * b := Int.mul_le_mul_of_nonneg_right (by omega) (by omega)
    omega
/-- It is the only such number. -/
theorem rnd_uniq (a b m : Int) (hb : 0 < b) (h1 : -b ≤ 2 * (a - m * b)) (h2 : 2 * (a - m * b) ≤ b) (h3 : (2 * (a - m * b) = b ∨ 2 * (a - m * b) = -b) → m % 2 = 0) : rnd a b = m := by
  have h := rnd_char a b hb
  generalize rnd a b = k at *
  have e : k * b = m * b + (k - m) * b := by rw [← Int.add_mul]; congr 1; omega
  by_cases hd : k - m = 0
  · omega
  · exfalso
    by_cases hd1 : k - m = 1
    · rw [hd1] at e; omega
    · by_cases hd2 : k - m = -1
      · rw [hd2] at e; omega
      · by_cases hp : 0 < k - m
        · have : 2 * b ≤ (k - m) * b := Int.mul_le_mul_of_nonneg_right (by omega) (by omega)
          omega
        · have : (k - m) * b ≤ -2 * b := Int.mul_le_mul_of_nonneg_right (by omega) (by omega)
          omega
theorem rnd_mul (m b : Int) (hb : 0 < b) : rnd (m * b) b = m :=
  rnd_uniq (m * b) b m hb (by omega) (by omega) (by omega)
theorem mul_one (a : Int) (h1 : -2147483648 ≤ a) (h2 : a ≤ 2147483647) : mul a 65536 = a := by
  unfold mul; rw [rnd_mul _ _ (by omega), cut_in (by omega) (by omega)]
theorem mul_comm (a b : Int) : mul a b = mul b a := by unfold mul; rw [Int.mul_comm]
end Fx
end Go.Proofs.YtnchnlgnnlgjcaaGreat
namespace Go.Proofs.YtnchnlgnnlgjcaaGreat
set_option linter.unusedVariables false
namespace Ls
/-- The number at a place (0 where there is none). -/
def nth (l : List Int) (i : Nat) : Int := l.getD i 0
theorem nth_of_lt {l : List Int} {i : Nat} (h : i < l.length) : nth l i = l[i] := by unfold nth; simp [h]
theorem nth_past {l : List Int} {i : Nat} (h : l.length ≤ i) : nth l i = 0 := by unfold nth; simp [List.getElem?_eq_none h]
theorem nth_nil (i : Nat) : nth [] i = 0 := rfl
theorem nth_take {l : List Int} {n i : Nat} (h : i < n) : nth (l.take n) i = nth l i := by unfold nth; simp [h]
theorem nth_drop {l : List Int} {n i : Nat} : nth (l.drop n) i = nth l (n + i) := by unfold nth; simp
theorem nth_append_left {l m : List Int} {i : Nat} (h : i < l.length) : nth (l ++ m) i = nth l i := by unfold nth; simp [List.getElem?_append_left h]
theorem nth_append_at {l : List Int} {x : Int} {i : Nat} (h : i = l.length) : nth (l ++ [x]) i = x := by subst h; unfold nth; simp
theorem ext_nth {l m : List Int} (hl : l.length = m.length) (h : ∀ i, i < l.length → nth l i = nth m i) : l = m := by
  apply List.ext_getElem hl
  intro i h1 h2
  have := h i h1
  rw [nth_of_lt h1, nth_of_lt h2] at this
  exact this
theorem nth_mem {l : List Int} {i : Nat} (h : i < l.length) : nth l i ∈ l := by rw [nth_of_lt h]; exact List.getElem_mem h
/-- All of 32 bits. -/
def In32 (l : List Int) : Prop := ∀ i, -2147483648 ≤ nth l i ∧ nth l i ≤ 2147483647
theorem in32_mk {l : List Int} (h : ∀ i, i < l.length → -2147483648 ≤ nth l i ∧ nth l i ≤ 2147483647) : In32 l := by
  intro i
  by_cases c : i < l.length
  · exact h i c
  · rw [nth_past (by omega)]; omega
theorem In32.take {l : List Int} (h : In32 l) (n : Nat) : In32 (l.take n) := by
  apply in32_mk
  intro i hi
  rw [nth_take (by simp at hi; omega)]
  exact h i
theorem In32.drop {l : List Int} (h : In32 l) (n : Nat) : In32 (l.drop n) := fun i => by rw [nth_drop]; exact h _
/-- A list made place by place. -/
def gen (n : Nat) (f : Nat → Int) : List Int := (List.range n).map f
theorem gen_length (n : Nat) (f : Nat → Int) : (gen n f).length = n := by simp [gen]
theorem nth_gen {n i : Nat} {f : Nat → Int} (h : i < n) : nth (gen n f) i = f i := by unfold nth gen; simp [h]
/-- Are all numbers from -2^24 to 2^24, and at most 1024 of them? -/
def mild (l : List Int) : Bool := decide (l.length ≤ 1024 ∧ ∀ i, i < l.length → -16777216 ≤ nth l i ∧ nth l i ≤ 16777216)
/-- A sum, and a product, cut to the narrow range. -/
def sum2 (x y : Int) : Int := Fx.cut (x + y) (-8388608) 8388608
def add (a b : List Int) : List Int := gen a.length fun i => sum2 (nth a i) (nth b i)
/-- The first place of the greatest of the first n numbers. -/
def topN (a : List Int) : Nat → Nat
  | 0 => 0
  | n + 1 => if nth a (topN a n) < nth a n then n else topN a n
def top (a : List Int) : Nat := topN a a.length
end Ls
end Go.Proofs.YtnchnlgnnlgjcaaGreat
namespace Go.Proofs.YtnchnlgnnlgjcaaGreat
set_option linter.unusedVariables false
namespace Rn
/-- Where the thing i lies, the oldest one at f, of n places. -/
def pl (f n i : Nat) : Nat := (f + i) % n
theorem pl_lt {f n i : Nat} (h : 0 < n) : pl f n i < n := Nat.mod_lt _ h
theorem pl_inj {f n i j : Nat} (hf : f < n) (hi : i < n) (hj : j < n) (h : pl f n i = pl f n j) : i = j := by
  unfold pl at h
  have e : ∀ x, x < n → (f + x) % n = if f + x < n then f + x else f + x - n := fun x hx => by
    split
    · rename_i h; exact Nat.mod_eq_of_lt h
    · rename_i h
      rw [Nat.mod_eq_sub_mod (by omega), Nat.mod_eq_of_lt (by omega)]
  rw [e i hi, e j hj] at h
  split at h <;> split at h <;> omega
theorem pl_shift (f n k i : Nat) : pl (pl f n k) n i = pl f n (k + i) := by
  unfold pl
  rw [Nat.mod_add_mod, Nat.add_assoc]
theorem pl_zero {f n : Nat} (h : f < n) : pl f n 0 = f := Nat.mod_eq_of_lt (by omega)
end Rn
end Go.Proofs.YtnchnlgnnlgjcaaGreat
namespace Go.Proofs.YtnchnlgnnlgjcaaGreat
set_option linter.unusedVariables false
namespace Po
open Ls (nth)
theorem nth_set {l : List Int} {p : Nat} (hp : p < l.length) (c : Int) (j : Nat) : nth (l.set p c) j = if j = p then c else nth l j := by
  unfold Ls.nth
  by_cases e : j = p
  · subst e; simp [hp]
  · rw [if_neg e]
    simp [show ¬ p = j from fun x => e x.symm]
/-- How many of the first k places are 0. -/
def cntN (l : List Int) : Nat → Nat
  | 0 => 0
  | k + 1 => cntN l k + if nth l k = 0 then 1 else 0
def cnt (l : List Int) : Nat := cntN l l.length
theorem cntN_le (l : List Int) (k : Nat) : cntN l k ≤ k := by
  induction k with
  | zero => exact Nat.le_refl _
  | succ k ih => unfold cntN; split <;> omega
theorem cnt_le (l : List Int) : cnt l ≤ l.length := cntN_le _ _
theorem cntN_yes {l : List Int} {k : Nat} (h : nth l k = 0) : cntN l (k + 1) = cntN l k + 1 := by show cntN l k + _ = _; rw [if_pos h]
theorem cntN_no {l : List Int} {k : Nat} (h : ¬ nth l k = 0) : cntN l (k + 1) = cntN l k := by show cntN l k + _ = _; rw [if_neg h]; rfl
theorem cntN_set_past {l : List Int} {p k : Nat} (hp : p < l.length) (h : k ≤ p) (c : Int) : cntN (l.set p c) k = cntN l k := by
  induction k with
  | zero => rfl
  | succ k ih =>
    show cntN _ k + _ = cntN _ k + _
    rw [ih (by omega), nth_set hp, if_neg (show ¬ k = p by omega)]
theorem cntN_set {l : List Int} {p k : Nat} (hp : p < l.length) (h : p < k) (c : Int) : cntN (l.set p c) k + (if nth l p = 0 then 1 else 0) = cntN l k + (if c = 0 then 1 else 0) := by
  induction k with
  | zero => omega
  | succ k ih =>
    show cntN _ k + _ + _ = cntN _ k + _ + _
    rw [nth_set hp]
    by_cases e : k = p
    · subst e
      rw [cntN_set_past hp (Nat.le_refl _), if_pos (show k = k from rfl)]
      omega
    · rw [if_neg e]
      have := ih (by omega)
      omega
theorem cnt_set {l : List Int} {p : Nat} (hp : p < l.length) (c : Int) : cnt (l.set p c) + (if nth l p = 0 then 1 else 0) = cnt l + (if c = 0 then 1 else 0) := by
  unfold cnt
  rw [List.length_set]
  exact cntN_set hp hp c
theorem cntN_none {l : List Int} {k : Nat} (h : ∀ i, i < k → ¬ nth l i = 0) : cntN l k = 0 := by
  induction k with
  | zero => rfl
  | succ k ih => rw [cntN_no (h k (by omega))]; exact ih fun i hi => h i (by omega)
theorem cntN_all {l : List Int} {k : Nat} (h : ∀ i, i < k → nth l i = 0) : cntN l k = k := by
  induction k with
  | zero => rfl
  | succ k ih => rw [cntN_yes (h k (by omega)), ih fun i hi => h i (by omega)]
theorem cnt_zero {l : List Int} (h : ∀ i, i < l.length → ¬ nth l i = 0) : cnt l = 0 := cntN_none h
theorem cnt_pos {l : List Int} {k : Nat} (hk : k < l.length) (h : nth l k = 0) : 0 < cnt l := by
  have := cnt_set hk 1
  rw [if_pos h, if_neg (by decide)] at this
  omega
/-- Of so many free slots. -/
def zeros (n : Nat) : List Int := Ls.gen n fun _ => 0
theorem zeros_length (n : Nat) : (zeros n).length = n := Ls.gen_length _ _
theorem nth_zeros (n i : Nat) : nth (zeros n) i = 0 := by
  by_cases h : i < n
  · exact Ls.nth_gen h
  · exact Ls.nth_past (by rw [zeros_length]; omega)
theorem cnt_zeros (n : Nat) : cnt (zeros n) = n := by unfold cnt; rw [zeros_length]; exact cntN_all fun i _ => nth_zeros n i
/-- The first free slot, or none. -/
theorem free_cases (l : List Int) : (∀ i, i < l.length → ¬ nth l i = 0) ∨ ∃ k, k < l.length ∧ nth l k = 0 ∧ ∀ i, i < k → ¬ nth l i = 0 := by
  have key : ∀ n, n ≤ l.length → (∀ i, i < n → ¬ nth l i = 0) ∨ ∃ k, k < n ∧ nth l k = 0 ∧ ∀ i, i < k → ¬ nth l i = 0 := by
    intro n
    induction n with
    | zero => intro _; exact Or.inl fun i hi => by omega
    | succ n ih =>
      intro hn
      rcases ih (by omega) with h | ⟨k, hk, h0, h1⟩
      · by_cases e : nth l n = 0
        · exact Or.inr ⟨n, by omega, e, h⟩
        · refine Or.inl fun i hi => ?_
          by_cases e2 : i = n
          · rw [e2]; exact e
          · exact h i (by omega)
      · exact Or.inr ⟨k, by omega, h0, h1⟩
  exact key _ (Nat.le_refl _)
/-- A number's mark. -/
def mk (n : Int) : Int := n % 1024
end Po
end Go.Proofs.YtnchnlgnnlgjcaaGreat
namespace Go.Proofs.YtnchnlgnnlgjcaaGreat.Bk
set_option linter.unusedVariables false
/-- The rows with another one in row j. -/
def up (L : Nat → List Int) (j : Nat) (l : List Int) : Nat → List Int := fun i => if i = j then l else L i
theorem up_at (L : Nat → List Int) (j : Nat) (l : List Int) : up L j l j = l := if_pos rfl
theorem up_off (L : Nat → List Int) {i j : Nat} (l : List Int) (h : ¬ i = j) : up L j l i = L i := if_neg h
/-- The first k rows behind one another. -/
def flat (L : Nat → List Int) : Nat → List Int
  | 0 => []
  | k + 1 => flat L k ++ L k
theorem flat_congr {L L' : Nat → List Int} {k : Nat} (h : ∀ i, i < k → L i = L' i) : flat L k = flat L' k := by
  induction k with
  | zero => rfl
  | succ k ih => show flat L k ++ L k = flat L' k ++ L' k; rw [ih fun i hi => h i (by omega), h k (by omega)]
/-- How many numbers the first k rows have. -/
def len (L : Nat → List Int) (k : Nat) : Nat := (flat L k).length
theorem len_succ (L : Nat → List Int) (k : Nat) : len L (k + 1) = len L k + (L k).length := by show (flat L k ++ L k).length = _; rw [List.length_append]; rfl
theorem len_mono (L : Nat → List Int) {j k : Nat} (h : j ≤ k) : len L j ≤ len L k := by
  induction k with
  | zero =>
    have : j = 0 := by omega
    rw [this]
    exact Nat.le_refl _
  | succ k ih =>
    rw [len_succ]
    by_cases e : j = k + 1
    · subst e; rw [len_succ]; exact Nat.le_refl _
    · have := ih (by omega); omega
/-- How often a number is among these. -/
def occ (x : Int) : List Int → Nat
  | [] => 0
  | y :: l => (if y = x then 1 else 0) + occ x l
theorem occ_append (x : Int) (l r : List Int) : occ x (l ++ r) = occ x l + occ x r := by
  induction l with
  | nil => simp [occ]
  | cons y l ih => show (if y = x then 1 else 0) + occ x (l ++ r) = (if y = x then 1 else 0) + occ x l + occ x r; rw [ih]; omega
theorem occ_one (x y : Int) : occ x [y] = if y = x then 1 else 0 := by show (if y = x then 1 else 0) + 0 = _; rfl
/-- Number x in row j once more: among all rows x stands once more. -/
theorem occ_up (L : Nat → List Int) {j k : Nat} (h : j < k) (y x : Int) : occ x (flat (up L j (L j ++ [y])) k) = occ x (flat L k) + (if y = x then 1 else 0) := by
  induction k with
  | zero => omega
  | succ k ih =>
    show occ x (flat (up L j (L j ++ [y])) k ++ up L j (L j ++ [y]) k) = occ x (flat L k ++ L k) + _
    rw [occ_append, occ_append]
    by_cases e : j = k
    · subst e
      rw [up_at, occ_append, occ_one, flat_congr (L' := L) fun i hi => up_off L _ (by omega)]
      omega
    · rw [ih (by omega), up_off L _ (fun q => e q.symm)]
      omega
theorem len_up (L : Nat → List Int) {j k : Nat} (h : j < k) (y : Int) : len (up L j (L j ++ [y])) k = len L k + 1 := by
  induction k with
  | zero => omega
  | succ k ih =>
    rw [len_succ, len_succ]
    by_cases e : j = k
    · subst e
      rw [up_at]
      have : len (up L j (L j ++ [y])) j = len L j := by unfold len; rw [flat_congr (L' := L) fun i hi => up_off L _ (by omega)]
      rw [this, List.length_append]
      simp
      omega
    · rw [ih (by omega), up_off L _ (fun q => e q.symm)]
      omega
/-- These counts, each of these numbers d more. -/
def bump (R : List Int) (d : Int) : List Int → List Int
  | [] => R
  | x :: l => bump (R.set x.toNat (Ls.nth R x.toNat + d)) d l
theorem nth_bump (d : Int) (l : List Int) : ∀ R : List Int, (∀ x, x ∈ l → 0 ≤ x ∧ x < R.length) → ∀ k : Nat, k < R.length → Ls.nth (bump R d l) k = Ls.nth R k + d * occ k l := by
  induction l with
  | nil => intro R _ k _; show Ls.nth R k = Ls.nth R k + d * ((0 : Nat) : Int); simp
  | cons x l ih =>
    intro R h k hk
    have hx := h x (List.mem_cons_self ..)
    show Ls.nth (bump (R.set x.toNat (Ls.nth R x.toNat + d)) d l) k = Ls.nth R k + d * (((if x = (k : Int) then 1 else 0) + occ k l : Nat) : Int)
    rw [ih _ (fun y hy => by have := h y (List.mem_cons_of_mem _ hy); rw [List.length_set]; exact this) k (by rw [List.length_set]; exact hk), Po.nth_set (by omega)]
    by_cases e : k = x.toNat
    · rw [if_pos e, if_pos (by omega), ← e, Int.natCast_add, Int.mul_add]
      simp
      omega
    · rw [if_neg e, if_neg (by omega)]
      simp
/-- The tables with another one in place a. -/
def put (L : Nat → Nat → List Int) (a : Nat) (l : Nat → List Int) : Nat → Nat → List Int := fun i => if i = a then l else L i
end Go.Proofs.YtnchnlgnnlgjcaaGreat.Bk
