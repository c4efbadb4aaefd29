/- Plain tables of numbers: weights, their sum, the mean of lists by weights. No Go text in it. -/
import Derived.Test.YtpifemahakbegaaLsMath
import Derived.Test.YtpifemahakbegaaExMath
namespace Go.Proofs.Ytpifemahakbegaa
set_option linter.unusedVariables false
namespace Tb

/-- The list at a place of a table (the empty one where there is none). -/
def row (ls : List (List Int)) (i : Nat) : List Int := ls.getD i []
theorem row_past {ls : List (List Int)} {i : Nat} (h : ls.length ≤ i) : row ls i = [] := by unfold row; simp [List.getElem?_eq_none h]
theorem row_of_lt {ls : List (List Int)} {i : Nat} (h : i < ls.length) : row ls i = ls[i] := by unfold row; simp [h]
theorem row_map_range {n r : Nat} (f : Nat → List Int) (h : r < n) : row ((List.range n).map f) r = f r := by unfold row; simp [h]

/-- The sum of the first n weights. -/
def sumN (w : List Int) : Nat → Int
  | 0 => 0
  | n + 1 => sumN w n + Ls.nth w n
def sum (w : List Int) : Int := sumN w w.length
/-- All are weights: from 0 to 2^16. -/
def Wts (w : List Int) : Prop := ∀ i, 0 ≤ Ls.nth w i ∧ Ls.nth w i ≤ 65536
theorem wts_mk {w : List Int} (h : ∀ i, i < w.length → 0 ≤ Ls.nth w i ∧ Ls.nth w i ≤ 65536) : Wts w := by
  intro i
  by_cases c : i < w.length
  · exact h i c
  · rw [Ls.nth_past (by omega)]; omega
theorem sumN_bd {w : List Int} (h : Wts w) (n : Nat) : 0 ≤ sumN w n ∧ sumN w n ≤ 65536 * (n : Int) := by
  induction n with
  | zero => simp [sumN]
  | succ n ih => have := h n; simp only [sumN]; omega
theorem sumN_step {w : List Int} {k : Nat} (h : Wts w) (hk : k < 2000) : 0 ≤ sumN w k ∧ sumN w k ≤ 131072000 ∧ 0 ≤ sumN w k + Ls.nth w k ∧ sumN w k + Ls.nth w k ≤ 131137536 ∧ 0 ≤ Ls.nth w k ∧ Ls.nth w k ≤ 65536 := by
  have h1 := sumN_bd h k
  have h2 := h k
  omega
theorem sum_bd {w : List Int} (h : Wts w) (hl : w.length ≤ 2000) : 0 ≤ sum w ∧ sum w ≤ 131072000 := by
  have := sumN_bd h w.length
  unfold sum
  omega

/-- The sum of the first n lists' numbers at a place, each by its weight. -/
def mixN (w : List Int) (ls : List (List Int)) (i : Nat) : Nat → Int
  | 0 => 0
  | n + 1 => mixN w ls i n + Ls.nth w n * Ls.nth (row ls n) i
def Milds (ls : List (List Int)) : Prop := ∀ k, Ls.mild (row ls k) = true
theorem milds_mk {ls : List (List Int)} (h : ∀ i, i < ls.length → Ls.mild (row ls i) = true) : Milds ls := by
  intro i
  by_cases c : i < ls.length
  · exact h i c
  · rw [row_past (by omega)]; decide
theorem wprod_bd {x y : Int} (h1 : 0 ≤ x) (h2 : x ≤ 65536) (h3 : -16777216 ≤ y) (h4 : y ≤ 16777216) : -1099511627776 ≤ x * y ∧ x * y ≤ 1099511627776 := by
  have e : (x * y).natAbs = x.natAbs * y.natAbs := Int.natAbs_mul x y
  have h : x.natAbs * y.natAbs ≤ 65536 * 16777216 := Nat.mul_le_mul (by omega) (by omega)
  omega
theorem mixN_bd {w : List Int} {ls : List (List Int)} (hw : Wts w) (hm : Milds ls) (i n : Nat) : -(1099511627776 * (n : Int)) ≤ mixN w ls i n ∧ mixN w ls i n ≤ 1099511627776 * (n : Int) := by
  induction n with
  | zero => simp [mixN]
  | succ n ih =>
    have pa := hw n
    have pb := Ls.mild_nth (hm n) i
    have p := wprod_bd pa.1 pa.2 pb.1 pb.2
    simp only [mixN]
    omega
theorem mixN_step {w : List Int} {ls : List (List Int)} {i k : Nat} (hw : Wts w) (hm : Milds ls) (hk : k < 1024) :
    -1125899906842624 ≤ mixN w ls i k ∧ mixN w ls i k ≤ 1125899906842624 ∧ -1125899906842624 ≤ mixN w ls i k + Ls.nth w k * Ls.nth (row ls k) i ∧ mixN w ls i k + Ls.nth w k * Ls.nth (row ls k) i ≤ 1125899906842624 ∧
    -1099511627776 ≤ Ls.nth w k * Ls.nth (row ls k) i ∧ Ls.nth w k * Ls.nth (row ls k) i ≤ 1099511627776 ∧ 0 ≤ Ls.nth w k ∧ Ls.nth w k ≤ 65536 ∧ -16777216 ≤ Ls.nth (row ls k) i ∧ Ls.nth (row ls k) i ≤ 16777216 := by
  have h1 := mixN_bd hw hm i k
  have pa := hw k
  have pb := Ls.mild_nth (hm k) i
  have p := wprod_bd pa.1 pa.2 pb.1 pb.2
  omega
def mix (w : List Int) (ls : List (List Int)) (i : Nat) : Int := mixN w ls i ls.length
theorem mix_bd {w : List Int} {ls : List (List Int)} (hw : Wts w) (hm : Milds ls) (hl : ls.length ≤ 1024) (i : Nat) : -1125899906842624 ≤ mix w ls i ∧ mix w ls i ≤ 1125899906842624 := by
  have := mixN_bd hw hm i ls.length
  unfold mix
  omega
/-- A place of the mean, and the mean. -/
def place (w : List Int) (ls : List (List Int)) (i : Nat) : Int := Fx.cut (Fx.rnd (mix w ls i) (sum w)) (-8388608) 8388608
def mean (w : List Int) (ls : List (List Int)) : List Int := Ls.gen (row ls 0).length (place w ls)
theorem mean_length (w : List Int) (ls : List (List Int)) : (mean w ls).length = (row ls 0).length := Ls.gen_length _ _
theorem nth_mean {w : List Int} {ls : List (List Int)} {i : Nat} (h : i < (row ls 0).length) : Ls.nth (mean w ls) i = place w ls i := Ls.nth_gen h

/-- The weight of a score, and the weights of scores. -/
def wt (s : List Int) (i : Nat) : Int := Ex.exp (Fx.cut (Ls.nth s i - Ls.nth s (Ls.top s)) (-2147483648) 2147483647)
def weights (s : List Int) : List Int := Ls.gen s.length (wt s)
theorem weights_length (s : List Int) : (weights s).length = s.length := Ls.gen_length _ _
theorem nth_weights {s : List Int} {i : Nat} (h : i < s.length) : Ls.nth (weights s) i = wt s i := Ls.nth_gen h
theorem wt_bd (s : List Int) (i : Nat) : 0 ≤ wt s i ∧ wt s i ≤ 65536 := Ex.exp_bd _
theorem weights_wts (s : List Int) : Wts (weights s) := wts_mk (fun i hi => by rw [weights_length] at hi; rw [nth_weights hi]; exact wt_bd s i)
theorem wt_top (s : List Int) : wt s (Ls.top s) = 65536 := by unfold wt; rw [Int.sub_self]; decide
theorem cut_mono {a b lo hi : Int} (hl : lo ≤ hi) (h : a ≤ b) : Fx.cut a lo hi ≤ Fx.cut b lo hi := by
  unfold Fx.cut
  by_cases h1 : a < lo <;> by_cases h2 : b < lo <;> by_cases h3 : hi < a <;> by_cases h4 : hi < b <;> simp only [h1, h2, h3, h4, if_true, if_false] <;> omega
theorem wt_mono {s : List Int} {i j : Nat} (h : Ls.nth s i ≤ Ls.nth s j) : wt s i ≤ wt s j := Ex.exp_mono (cut_mono (by omega) (by omega))
theorem sum_pos {w : List Int} (h : Wts w) {i : Nat} (hi : i < w.length) (hp : 0 < Ls.nth w i) : 0 < sum w := by
  have key : ∀ n, i < n → 0 < sumN w n := by
    intro n
    induction n with
    | zero => intro h; omega
    | succ n ih =>
      intro hn
      have b := sumN_bd h n
      have c := h n
      simp only [sumN]
      by_cases e : i = n
      · subst e; omega
      · have := ih (by omega); omega
  exact key _ hi
theorem weights_sum {s : List Int} (h : 0 < s.length) : 0 < sum (weights s) := by
  have ht := Ls.top_lt h
  refine sum_pos (weights_wts s) (i := Ls.top s) (by rw [weights_length]; exact ht) ?_
  rw [nth_weights ht, wt_top]
  omega

/-- Are all lists of one length? -/
def even (ls : List (List Int)) : Bool := decide (∀ i, i < ls.length → (row ls i).length = (row ls 0).length)
theorem even_mk {ls : List (List Int)} (h : ∀ i, i < ls.length → (row ls i).length = (row ls 0).length) : even ls = true := decide_eq_true h
theorem even_at {ls : List (List Int)} (h : even ls = true) {i : Nat} (hi : i < ls.length) : (row ls i).length = (row ls 0).length := of_decide_eq_true h i hi
theorem even_no {ls : List (List Int)} {i : Nat} (hi : i < ls.length) (h : ¬ (row ls i).length = (row ls 0).length) : even ls = false := decide_eq_false (fun c => h (c i hi))
/-- What is wrong with how many there are: 14, 12, 25 or 0. -/
def shape (m : Nat) (ls : List (List Int)) : Int := if ls.length = 0 then 14 else if 1024 < ls.length then 12 else if m = ls.length then (if even ls = true then 0 else 25) else 25
theorem shape_none {m : Nat} {ls : List (List Int)} (h : ls.length = 0) : shape m ls = 14 := by unfold shape; rw [if_pos h]
theorem shape_many {m : Nat} {ls : List (List Int)} (h : 1024 < ls.length) : shape m ls = 12 := by unfold shape; rw [if_neg (by omega), if_pos h]
theorem shape_ne {m : Nat} {ls : List (List Int)} (h0 : ¬ ls.length = 0) (h1 : ¬ 1024 < ls.length) (h : ¬ m = ls.length) : shape m ls = 25 := by unfold shape; rw [if_neg h0, if_neg h1, if_neg h]
theorem shape_odd {m : Nat} {ls : List (List Int)} (h0 : ¬ ls.length = 0) (h1 : ¬ 1024 < ls.length) (h : even ls = false) : shape m ls = 25 := by
  unfold shape; rw [if_neg h0, if_neg h1, h]
  by_cases c : m = ls.length
  · rw [if_pos c]; rfl
  · rw [if_neg c]
theorem shape_ok {m : Nat} {ls : List (List Int)} (h0 : ¬ ls.length = 0) (h1 : ¬ 1024 < ls.length) (h : m = ls.length) (he : even ls = true) : shape m ls = 0 := by unfold shape; rw [if_neg h0, if_neg h1, if_pos h, if_pos he]
theorem shape_zero {m : Nat} {ls : List (List Int)} (h : shape m ls = 0) : 0 < ls.length ∧ ls.length ≤ 1024 ∧ m = ls.length ∧ even ls = true := by
  unfold shape at h
  by_cases h0 : ls.length = 0
  · rw [if_pos h0] at h; omega
  · rw [if_neg h0] at h
    by_cases h1 : 1024 < ls.length
    · rw [if_pos h1] at h; omega
    · rw [if_neg h1] at h
      by_cases h2 : m = ls.length
      · rw [if_pos h2] at h
        cases he : even ls
        · rw [he] at h; simp at h
        · exact ⟨by omega, by omega, h2, rfl⟩
      · rw [if_neg h2] at h; omega

/-- Can a mean be divided by these weights? -/
def weigh (w : List Int) : Bool := decide ((∀ i, i < w.length → 0 ≤ Ls.nth w i ∧ Ls.nth w i ≤ 65536) ∧ 0 < sum w)
theorem weigh_yes {w : List Int} (h : ∀ i, i < w.length → 0 ≤ Ls.nth w i ∧ Ls.nth w i ≤ 65536) (hs : 0 < sum w) : weigh w = true := decide_eq_true ⟨h, hs⟩
theorem weigh_low {w : List Int} {i : Nat} (hi : i < w.length) (h : Ls.nth w i < 0) : weigh w = false := decide_eq_false (fun c => by have := c.1 i hi; omega)
theorem weigh_high {w : List Int} {i : Nat} (hi : i < w.length) (h : 65536 < Ls.nth w i) : weigh w = false := decide_eq_false (fun c => by have := c.1 i hi; omega)
theorem weigh_none {w : List Int} (hs : ¬ 0 < sum w) : weigh w = false := decide_eq_false (fun c => hs c.2)
theorem weigh_wts {w : List Int} (h : weigh w = true) : Wts w := wts_mk (of_decide_eq_true h).1
theorem weigh_sum {w : List Int} (h : weigh w = true) : 0 < sum w := (of_decide_eq_true h).2
/-- Are all lists mild? -/
def milds (ls : List (List Int)) : Bool := decide (∀ i, i < ls.length → Ls.mild (row ls i) = true)
theorem milds_yes {ls : List (List Int)} (h : ∀ i, i < ls.length → Ls.mild (row ls i) = true) : milds ls = true := decide_eq_true h
theorem milds_no {ls : List (List Int)} {i : Nat} (hi : i < ls.length) (h : Ls.mild (row ls i) = false) : milds ls = false := decide_eq_false (fun c => by rw [c i hi] at h; cases h)
theorem milds_all {ls : List (List Int)} (h : milds ls = true) : Milds ls := milds_mk (of_decide_eq_true h)
/-- Can lists be mixed? An error's number. -/
def fit (w : List Int) (ls : List (List Int)) : Bool := weigh w && milds ls
def right (w : List Int) (ls : List (List Int)) : Int := if shape w.length ls = 0 then (if fit w ls = true then 0 else 11) else shape w.length ls
theorem right_shape {w : List Int} {ls : List (List Int)} (h : ¬ shape w.length ls = 0) : right w ls = shape w.length ls := by unfold right; rw [if_neg h]
theorem right_range {w : List Int} {ls : List (List Int)} (h : shape w.length ls = 0) (hf : fit w ls = false) : right w ls = 11 := by unfold right; rw [if_pos h, hf]; rfl
theorem right_ok {w : List Int} {ls : List (List Int)} (h : shape w.length ls = 0) (hf : fit w ls = true) : right w ls = 0 := by unfold right; rw [if_pos h, if_pos hf]
theorem fit_both {w : List Int} {ls : List (List Int)} (hf : fit w ls = true) : weigh w = true ∧ milds ls = true := by unfold fit at hf; simpa using hf
theorem fit_heavy {w : List Int} {ls : List (List Int)} (h : weigh w = false) : fit w ls = false := by unfold fit; rw [h]; rfl
theorem fit_wild {w : List Int} {ls : List (List Int)} (h : milds ls = false) : fit w ls = false := by unfold fit; rw [h, Bool.and_false]
theorem right_zero {w : List Int} {ls : List (List Int)} (h : right w ls = 0) : shape w.length ls = 0 ∧ fit w ls = true := by
  unfold right at h
  by_cases hs : shape w.length ls = 0
  · rw [if_pos hs] at h
    cases hf : fit w ls
    · rw [hf] at h; simp at h
    · exact ⟨hs, rfl⟩
  · rw [if_neg hs] at h; exact absurd h hs
/-- A number put to all. -/
def shift (s : List Int) (z : Int) : List Int := Ls.gen s.length fun i => z + Ls.nth s i
theorem shift_length (s : List Int) (z : Int) : (shift s z).length = s.length := Ls.gen_length _ _
theorem nth_shift {s : List Int} {z : Int} {i : Nat} (h : i < s.length) : Ls.nth (shift s z) i = z + Ls.nth s i := Ls.nth_gen h
theorem topN_shift (s : List Int) (z : Int) (n : Nat) (h : n ≤ s.length) : Ls.topN (shift s z) n = Ls.topN s n := by
  induction n with
  | zero => rfl
  | succ n ih =>
    have ih := ih (by omega)
    have b := Ls.topN_lt s n
    have e1 : Ls.nth (shift s z) n = z + Ls.nth s n := nth_shift (by omega)
    have e2 : Ls.nth (shift s z) (Ls.topN s n) = z + Ls.nth s (Ls.topN s n) := nth_shift (by omega)
    by_cases c : Ls.nth s (Ls.topN s n) < Ls.nth s n
    · rw [Ls.topN_yes c, Ls.topN_yes (by rw [ih, e1, e2]; omega)]
    · rw [Ls.topN_no c, Ls.topN_no (by rw [ih, e1, e2]; omega), ih]
theorem weights_shift {s : List Int} {z : Int} (hp : 0 < s.length) : weights (shift s z) = weights s := by
  have ht : Ls.top (shift s z) = Ls.top s := by unfold Ls.top; rw [shift_length]; exact topN_shift s z _ (Nat.le_refl _)
  unfold weights
  rw [shift_length]
  apply Ls.gen_congr
  intro i hi
  unfold wt
  rw [ht, nth_shift hi, nth_shift (Ls.top_lt hp)]
  congr 2
  omega
theorem shift_in32 {s : List Int} {z : Int} (h1 : -536870912 ≤ z) (h2 : z ≤ 536870912) (h : ∀ i, i < s.length → -536870912 ≤ Ls.nth s i ∧ Ls.nth s i ≤ 536870912) : Ls.In32 (shift s z) := by
  apply Ls.in32_mk
  intro i hi
  rw [shift_length] at hi
  have := h i hi
  rw [nth_shift hi]
  omega
/-- The least, and the greatest, of the first n lists' numbers at a place, and of the first list's. -/
def lo (ls : List (List Int)) (i : Nat) : Nat → Int
  | 0 => Ls.nth (row ls 0) i
  | n + 1 => if Ls.nth (row ls n) i < lo ls i n then Ls.nth (row ls n) i else lo ls i n
def hi (ls : List (List Int)) (i : Nat) : Nat → Int
  | 0 => Ls.nth (row ls 0) i
  | n + 1 => if hi ls i n < Ls.nth (row ls n) i then Ls.nth (row ls n) i else hi ls i n
theorem lo_step (ls : List (List Int)) (i n : Nat) : (if Ls.nth (row ls n) i < lo ls i n then Ls.nth (row ls n) i else lo ls i n) = lo ls i (n + 1) := rfl
theorem hi_step (ls : List (List Int)) (i n : Nat) : (if hi ls i n < Ls.nth (row ls n) i then Ls.nth (row ls n) i else hi ls i n) = hi ls i (n + 1) := rfl
theorem lo_le (ls : List (List Int)) (i n : Nat) : lo ls i n ≤ Ls.nth (row ls 0) i ∧ ∀ k, k < n → lo ls i n ≤ Ls.nth (row ls k) i := by
  induction n with
  | zero => exact ⟨Int.le_refl _, fun k hk => by omega⟩
  | succ n ih =>
    have e := lo_step ls i n
    have h1 : lo ls i (n + 1) ≤ lo ls i n ∧ lo ls i (n + 1) ≤ Ls.nth (row ls n) i := by rw [← e]; split <;> omega
    refine ⟨by omega, fun k hk => ?_⟩
    by_cases c : k = n
    · subst c; exact h1.2
    · have := ih.2 k (by omega); omega
theorem hi_ge (ls : List (List Int)) (i n : Nat) : Ls.nth (row ls 0) i ≤ hi ls i n ∧ ∀ k, k < n → Ls.nth (row ls k) i ≤ hi ls i n := by
  induction n with
  | zero => exact ⟨Int.le_refl _, fun k hk => by omega⟩
  | succ n ih =>
    have e := hi_step ls i n
    have h1 : hi ls i n ≤ hi ls i (n + 1) ∧ Ls.nth (row ls n) i ≤ hi ls i (n + 1) := by rw [← e]; split <;> omega
    refine ⟨by omega, fun k hk => ?_⟩
    by_cases c : k = n
    · subst c; exact h1.2
    · have := ih.2 k (by omega); omega
theorem lo_bd {ls : List (List Int)} {i : Nat} (h : ∀ k, -8388608 ≤ Ls.nth (row ls k) i ∧ Ls.nth (row ls k) i ≤ 8388608) (n : Nat) : -8388608 ≤ lo ls i n ∧ lo ls i n ≤ 8388608 := by
  induction n with
  | zero => exact h 0
  | succ n ih => have := h n; rw [← lo_step]; split <;> omega
theorem hi_bd {ls : List (List Int)} {i : Nat} (h : ∀ k, -8388608 ≤ Ls.nth (row ls k) i ∧ Ls.nth (row ls k) i ≤ 8388608) (n : Nat) : -8388608 ≤ hi ls i n ∧ hi ls i n ≤ 8388608 := by
  induction n with
  | zero => exact h 0
  | succ n ih => have := h n; rw [← hi_step]; split <;> omega
theorem mixN_ge {w : List Int} {ls : List (List Int)} {i : Nat} {L : Int} (hw : Wts w) (n : Nat) (h : ∀ k, k < n → L ≤ Ls.nth (row ls k) i) : L * sumN w n ≤ mixN w ls i n := by
  induction n with
  | zero => simp [sumN, mixN]
  | succ n ih =>
    have ih := ih (fun k hk => h k (by omega))
    have p : L * Ls.nth w n ≤ Ls.nth w n * Ls.nth (row ls n) i := by rw [Int.mul_comm L]; exact Int.mul_le_mul_of_nonneg_left (h n (by omega)) (hw n).1
    simp only [sumN, mixN]
    rw [Int.mul_add]
    omega
theorem mixN_le {w : List Int} {ls : List (List Int)} {i : Nat} {L : Int} (hw : Wts w) (n : Nat) (h : ∀ k, k < n → Ls.nth (row ls k) i ≤ L) : mixN w ls i n ≤ L * sumN w n := by
  induction n with
  | zero => simp [sumN, mixN]
  | succ n ih =>
    have ih := ih (fun k hk => h k (by omega))
    have p : Ls.nth w n * Ls.nth (row ls n) i ≤ L * Ls.nth w n := by rw [Int.mul_comm L]; exact Int.mul_le_mul_of_nonneg_left (h n (by omega)) (hw n).1
    simp only [sumN, mixN]
    rw [Int.mul_add]
    omega
theorem place_between {w : List Int} {ls : List (List Int)} {i : Nat} (hw : Wts w) (hs : 0 < sum w) (hl : w.length = ls.length) (h : ∀ k, -8388608 ≤ Ls.nth (row ls k) i ∧ Ls.nth (row ls k) i ≤ 8388608) :
    lo ls i ls.length ≤ place w ls i ∧ place w ls i ≤ hi ls i ls.length := by
  have a := mixN_ge hw ls.length (lo_le ls i ls.length).2
  have b := mixN_le hw ls.length (hi_ge ls i ls.length).2
  rw [← hl] at a b
  have lb := lo_bd h w.length
  have hb := hi_bd h w.length
  have a1 := Fx.rnd_mono _ _ (sum w) hs a
  have b1 := Fx.rnd_mono _ _ (sum w) hs b
  have ea : Fx.rnd (lo ls i w.length * sumN w w.length) (sum w) = lo ls i w.length := Fx.rnd_mul _ _ hs
  have eb : Fx.rnd (hi ls i w.length * sumN w w.length) (sum w) = hi ls i w.length := Fx.rnd_mul _ _ hs
  rw [ea] at a1
  rw [eb] at b1
  unfold place mix
  rw [← hl]
  rw [Fx.cut_in (by omega) (by omega)]
  exact ⟨a1, b1⟩
/-- The first k lists are short, of one length, and within the narrow range. -/
def Calm (ls : List (List Int)) (k : Nat) : Prop := ∀ j, j < k → (row ls j).length ≤ 40 ∧ (row ls j).length = (row ls 0).length ∧ ∀ i, i < (row ls j).length → -8388608 ≤ Ls.nth (row ls j) i ∧ Ls.nth (row ls j) i ≤ 8388608
theorem calm_zero (ls : List (List Int)) : Calm ls 0 := fun j hj => by omega
theorem calm_step {ls : List (List Int)} {k : Nat} (h : Calm ls k) (h1 : (row ls k).length ≤ 40) (h2 : (row ls k).length = (row ls 0).length) (h3 : ∀ i, i < (row ls k).length → -8388608 ≤ Ls.nth (row ls k) i ∧ Ls.nth (row ls k) i ≤ 8388608) : Calm ls (k + 1) := by
  intro j hj
  by_cases e : j = k
  · subst e; exact ⟨h1, h2, h3⟩
  · exact h j (by omega)
theorem calm_nth {ls : List (List Int)} (h : Calm ls ls.length) (k i : Nat) : -8388608 ≤ Ls.nth (row ls k) i ∧ Ls.nth (row ls k) i ≤ 8388608 := by
  by_cases c : k < ls.length
  · by_cases d : i < (row ls k).length
    · exact (h k c).2.2 i d
    · rw [Ls.nth_past (by omega)]; omega
  · rw [row_past (by omega), Ls.nth_nil]; omega
theorem calm_even {ls : List (List Int)} (h : Calm ls ls.length) : even ls = true := even_mk (fun i hi => (h i hi).2.1)
theorem calm_milds {ls : List (List Int)} (h : Calm ls ls.length) : milds ls = true := milds_yes (fun k hk => Ls.mild_mk (by have := (h k hk).1; omega) (fun i hi => by have := calm_nth h k i; omega))
theorem weigh_weights {s : List Int} (h : 0 < s.length) : weigh (weights s) = true := weigh_yes (fun i hi => weights_wts s i) (weights_sum h)
/-- A list, and a table, from behind. -/
def back (w : List Int) : List Int := Ls.gen w.length fun i => Ls.nth w (w.length - 1 - i)
def turn (ls : List (List Int)) : List (List Int) := (List.range ls.length).map fun i => row ls (ls.length - 1 - i)
theorem back_length (w : List Int) : (back w).length = w.length := Ls.gen_length _ _
theorem turn_length (ls : List (List Int)) : (turn ls).length = ls.length := by unfold turn; simp
theorem nth_back {w : List Int} {i : Nat} (h : i < w.length) : Ls.nth (back w) i = Ls.nth w (w.length - 1 - i) := Ls.nth_gen (f := fun i => Ls.nth w (w.length - 1 - i)) h
theorem row_turn {ls : List (List Int)} {i : Nat} (h : i < ls.length) : row (turn ls) i = row ls (ls.length - 1 - i) := row_map_range (fun i => row ls (ls.length - 1 - i)) h
theorem sumN_back (w : List Int) (n : Nat) (h : n ≤ w.length) : sumN (back w) n = sumN w w.length - sumN w (w.length - n) := by
  induction n with
  | zero => simp [sumN]
  | succ n ih =>
    have ih := ih (by omega)
    simp only [sumN]
    rw [ih, nth_back (by omega)]
    have e : w.length - n = (w.length - (n + 1)) + 1 := by omega
    have e2 : w.length - 1 - n = w.length - (n + 1) := by omega
    rw [e, e2]
    simp only [sumN]
    omega
theorem sum_back (w : List Int) : sum (back w) = sum w := by
  unfold sum
  rw [back_length, sumN_back w _ (Nat.le_refl _), Nat.sub_self]
  simp [sumN]
theorem mixN_back (w : List Int) (ls : List (List Int)) (i n : Nat) (hl : w.length = ls.length) (h : n ≤ ls.length) : mixN (back w) (turn ls) i n = mixN w ls i ls.length - mixN w ls i (ls.length - n) := by
  induction n with
  | zero => simp [mixN]
  | succ n ih =>
    have ih := ih (by omega)
    simp only [mixN]
    rw [ih, nth_back (by omega), row_turn (by omega), hl]
    have e : ls.length - n = (ls.length - (n + 1)) + 1 := by omega
    have e2 : ls.length - 1 - n = ls.length - (n + 1) := by omega
    rw [e, e2]
    simp only [mixN]
    omega
theorem mix_back (w : List Int) (ls : List (List Int)) (i : Nat) (hl : w.length = ls.length) : mix (back w) (turn ls) i = mix w ls i := by
  unfold mix
  rw [turn_length, mixN_back w ls i _ hl (Nat.le_refl _), Nat.sub_self]
  simp [mixN]
theorem row_turn_zero {ls : List (List Int)} (hp : 0 < ls.length) (he : even ls = true) : (row (turn ls) 0).length = (row ls 0).length := by
  rw [row_turn hp]
  exact even_at he (by omega)
theorem mean_back {w : List Int} {ls : List (List Int)} (hl : w.length = ls.length) (hp : 0 < ls.length) (he : even ls = true) : mean (back w) (turn ls) = mean w ls := by
  unfold mean
  rw [row_turn_zero hp he]
  apply Ls.gen_congr
  intro i hi
  unfold place
  rw [mix_back w ls i hl, sum_back]
theorem even_turn {ls : List (List Int)} (hp : 0 < ls.length) (he : even ls = true) : even (turn ls) = true := by
  apply even_mk
  intro i hi
  rw [turn_length] at hi
  rw [row_turn_zero hp he, row_turn hi]
  exact even_at he (by omega)
theorem milds_turn {ls : List (List Int)} (h : milds ls = true) : milds (turn ls) = true := by
  apply milds_yes
  intro i hi
  rw [turn_length] at hi
  rw [row_turn hi]
  exact milds_all h _
theorem weigh_back {w : List Int} (h : weigh w = true) : weigh (back w) = true := by
  apply weigh_yes
  · intro i hi
    rw [back_length] at hi
    rw [nth_back hi]
    exact weigh_wts h _
  · rw [sum_back]; exact weigh_sum h
theorem shape_back {w : List Int} {ls : List (List Int)} (h : shape w.length ls = 0) : shape (back w).length (turn ls) = 0 := by
  obtain ⟨h1, h2, h3, h4⟩ := shape_zero h
  exact shape_ok (by rw [turn_length]; omega) (by rw [turn_length]; omega) (by rw [turn_length, back_length]; exact h3) (even_turn h1 h4)
theorem fit_back {w : List Int} {ls : List (List Int)} (h : fit w ls = true) : fit (back w) (turn ls) = true := by
  obtain ⟨h1, h2⟩ := fit_both h
  unfold fit
  rw [weigh_back h1, milds_turn h2]
  rfl
end Tb
end Go.Proofs.Ytpifemahakbegaa
