/- Small numbers in words of 64 bits: which word a code is in, from which bit on, the words of codes and the codes of words. No Go text in it. -/
import Derived.Test.YtpifemahakbegaaLsMath
namespace Go.Proofs.Ytpifemahakbegaa
set_option linter.unusedVariables false
namespace Pk

/-- May codes have so many bits? -/
def Ok (b : Nat) : Prop := b = 2 ∨ b = 4 ∨ b = 8
/-- The word that the code i is in, and the bit from which on. -/
def word (b i : Nat) : Nat := i / (64 / b)
def shift (b i : Nat) : Nat := i % (64 / b) * b
/-- How many words n codes have. -/
def size (b n : Nat) : Nat := (n * b + 63) / 64

theorem at_word {b i j : Nat} (h : Ok b) (hj : j < b) : (i * b + j) / 64 = word b i := by
  unfold word; rcases h with rfl | rfl | rfl <;> simp only [Nat.reduceDiv] <;> omega
theorem at_shift {b i j : Nat} (h : Ok b) (hj : j < b) : (i * b + j) % 64 = shift b i + j := by
  unfold shift; rcases h with rfl | rfl | rfl <;> simp only [Nat.reduceDiv] <;> omega
theorem at_far {b i j : Nat} (h : Ok b) (hj : shift b i + j < 64) : (i * b + j) / 64 = word b i ∧ (i * b + j) % 64 = shift b i + j := by
  unfold word shift at *; rcases h with rfl | rfl | rfl <;> simp only [Nat.reduceDiv] at * <;> omega
theorem shift_le {b : Nat} (i : Nat) (h : Ok b) : shift b i + b ≤ 64 := by
  unfold shift; rcases h with rfl | rfl | rfl <;> simp only [Nat.reduceDiv] <;> omega
theorem next {b : Nat} (i : Nat) (h : Ok b) : (word b (i + 1) = word b i ∧ shift b (i + 1) = shift b i + b) ∨ (word b (i + 1) = word b i + 1 ∧ shift b (i + 1) = 0 ∧ shift b i + b = 64) := by
  unfold word shift; rcases h with rfl | rfl | rfl <;> simp only [Nat.reduceDiv] <;> omega
theorem word_same {b i n : Nat} (h : Ok b) (hi : i < n) (hw : word b n = word b i) : shift b i + b ≤ shift b n := by
  unfold word shift at *; rcases h with rfl | rfl | rfl <;> simp only [Nat.reduceDiv] at * <;> omega
theorem word_size {b i n : Nat} (h : Ok b) (hi : i < n) : word b i < size b n := by
  unfold word size; rcases h with rfl | rfl | rfl <;> simp only [Nat.reduceDiv] <;> omega
theorem size_cases {b n t : Nat} (h : Ok b) (ht : t < size b n) : t < word b n ∨ (t = word b n ∧ 0 < shift b n) := by
  unfold word shift size at *; rcases h with rfl | rfl | rfl <;> simp only [Nat.reduceDiv] at * <;> omega
theorem size_even {b n : Nat} (h : Ok b) (hs : shift b n = 0) : size b n = word b n ∧ n * b = 64 * word b n := by
  unfold word shift size at *; rcases h with rfl | rfl | rfl <;> simp only [Nat.reduceDiv] at * <;> omega
theorem size_odd {b n : Nat} (h : Ok b) (hs : 0 < shift b n) : size b n = word b n + 1 ∧ n * b = 64 * word b n + shift b n := by
  unfold word shift size at *; rcases h with rfl | rfl | rfl <;> simp only [Nat.reduceDiv] at * <;> omega
theorem size_le {b n : Nat} (h : Ok b) (hn : n ≤ 256) : size b n ≤ 32 := by
  unfold size; rcases h with rfl | rfl | rfl <;> omega
theorem shift_even {b n : Nat} (h : Ok b) (hs : n * b % 64 = 0) : shift b n = 0 := by
  unfold shift at *; rcases h with rfl | rfl | rfl <;> simp only [Nat.reduceDiv] at * <;> omega
theorem word_add {b m : Nat} (n : Nat) (h : Ok b) (hs : shift b m = 0) : word b (m + n) = word b m + word b n ∧ shift b (m + n) = shift b n ∧ size b (m + n) = word b m + size b n := by
  unfold word shift size at *; rcases h with rfl | rfl | rfl <;> simp only [Nat.reduceDiv] at * <;> omega
theorem word_room {b i n : Nat} (h : Ok b) : word b i < n ↔ i < 64 / b * n := by
  unfold word; rcases h with rfl | rfl | rfl <;> simp only [Nat.reduceDiv] <;> omega
theorem per_le {b : Nat} (h : Ok b) : 64 / b ≤ 32 := by rcases h with rfl | rfl | rfl <;> decide
theorem word_zero (b : Nat) : word b 0 = 0 := by unfold word; simp
theorem shift_zero (b : Nat) : shift b 0 = 0 := by unfold shift; simp

/-- All codes are of b bits. -/
def Cds (b : Nat) (l : List Int) : Prop := ∀ i, 0 ≤ Ls.nth l i ∧ (Ls.nth l i).toNat < 2 ^ b
/-- All words are of 64 bits. -/
def Wds (l : List Int) : Prop := ∀ i, 0 ≤ Ls.nth l i ∧ Ls.nth l i < 18446744073709551616

/-- Are all codes of b bits? -/
def cds (b : Nat) (l : List Int) : Bool := decide (∀ i, i < l.length → 0 ≤ Ls.nth l i ∧ Ls.nth l i < ((2 ^ b : Nat) : Int))
theorem cds_yes {b : Nat} {l : List Int} (h : ∀ i, i < l.length → 0 ≤ Ls.nth l i ∧ Ls.nth l i < ((2 ^ b : Nat) : Int)) : cds b l = true := by unfold cds; simp only [decide_eq_true_eq]; exact h
theorem cds_no {b i : Nat} {l : List Int} (hi : i < l.length) (h : ¬ (0 ≤ Ls.nth l i ∧ Ls.nth l i < ((2 ^ b : Nat) : Int))) : cds b l = false := by unfold cds; simp only [decide_eq_false_iff_not]; exact fun g => h (g i hi)
theorem cds_all {b : Nat} {l : List Int} (h : cds b l = true) : ∀ i, i < l.length → 0 ≤ Ls.nth l i ∧ Ls.nth l i < ((2 ^ b : Nat) : Int) := by unfold cds at h; simp only [decide_eq_true_eq] at h; exact h
theorem cds_Cds {b : Nat} {l : List Int} (h : cds b l = true) : Cds b l := by
  intro i
  by_cases hi : i < l.length
  · have := cds_all h i hi
    omega
  · rw [Ls.nth_past (by omega)]
    exact ⟨by omega, Nat.two_pow_pos _⟩
theorem Cds_cds {b : Nat} {l : List Int} (h : Cds b l) : cds b l = true := cds_yes fun i hi => by have := h i; omega
/-- What is told of codes of b bits, at most 256 of them: 11, if one isn't, else 0. -/
def right (b : Nat) (l : List Int) : Int := if cds b l = true then 0 else 11
theorem right_yes {b : Nat} {l : List Int} (h : cds b l = true) : right b l = 0 := by unfold right; rw [if_pos h]
theorem right_no {b : Nat} {l : List Int} (h : cds b l = false) : right b l = 11 := by unfold right; rw [h]; rfl

/-- The word t of the first n codes. -/
def acc (b : Nat) (l : List Int) (t : Nat) : Nat → Nat
  | 0 => 0
  | n + 1 => acc b l t n + if word b n = t then (Ls.nth l n).toNat * 2 ^ shift b n else 0
theorem acc_here {b : Nat} {l : List Int} {t n : Nat} (h : word b n = t) : acc b l t (n + 1) = acc b l t n + (Ls.nth l n).toNat * 2 ^ shift b n := by simp only [acc]; rw [if_pos h]
theorem acc_else {b : Nat} {l : List Int} {t n : Nat} (h : ¬ word b n = t) : acc b l t (n + 1) = acc b l t n := by simp only [acc]; rw [if_neg h]; rfl

theorem two_le {s t : Nat} (h : s ≤ t) : 2 ^ s ≤ 2 ^ t := Nat.pow_le_pow_right (by omega) h
theorem two_64 : 2 ^ 64 = 18446744073709551616 := by decide

/-- A number of b bits on top of one below 2^s. -/
theorem on_top {a c b s : Nat} (ha : a < 2 ^ s) (hc : c < 2 ^ b) : a + c * 2 ^ s < 2 ^ (s + b) := by
  have h1 : (c + 1) * 2 ^ s ≤ 2 ^ b * 2 ^ s := Nat.mul_le_mul_right _ hc
  rw [Nat.add_mul, Nat.one_mul] at h1
  rw [Nat.pow_add, Nat.mul_comm (2 ^ s)]
  omega

theorem acc_low {b : Nat} {l : List Int} (t n : Nat) (h : Ok b) (hc : Cds b l) : (word b n < t → acc b l t n = 0) ∧ (word b n = t → acc b l t n < 2 ^ shift b n) ∧ acc b l t n < 2 ^ 64 := by
  induction n with
  | zero => exact ⟨fun _ => rfl, fun _ => Nat.two_pow_pos _, Nat.two_pow_pos _⟩
  | succ n ih =>
    obtain ⟨i1, i2, i3⟩ := ih
    have hn := next n h
    have hs := shift_le n h
    by_cases e : word b n = t
    · rw [acc_here e]
      have ht := on_top (i2 e) (hc n).2
      have h64 : 2 ^ (shift b n + b) ≤ 2 ^ 64 := two_le hs
      refine ⟨fun _ => by omega, fun e2 => ?_, by omega⟩
      rcases hn with ⟨_, e3⟩ | ⟨e3, _⟩
      · rw [e3]; exact ht
      · omega
    · rw [acc_else e]
      by_cases e2 : word b n < t
      · rw [i1 e2]
        exact ⟨fun _ => rfl, fun _ => Nat.two_pow_pos _, Nat.two_pow_pos _⟩
      · exact ⟨fun _ => by omega, fun _ => by omega, i3⟩

/-- The code i of words. -/
def lane (b : Nat) (ws : List Int) (i : Nat) : Nat := (Ls.nth ws (word b i)).toNat / 2 ^ shift b i % 2 ^ b
theorem lane_lt (b : Nat) (ws : List Int) (i : Nat) : lane b ws i < 2 ^ b := Nat.mod_lt _ (Nat.two_pow_pos _)

theorem acc_lane {b : Nat} {l : List Int} {i n : Nat} (h : Ok b) (hc : Cds b l) (hi : i < n) : acc b l (word b i) n / 2 ^ shift b i % 2 ^ b = (Ls.nth l i).toNat := by
  induction n with
  | zero => omega
  | succ n ih =>
    have p := Nat.two_pow_pos (shift b i)
    by_cases e : i = n
    · subst e
      rw [acc_here rfl, Nat.add_mul_div_right _ _ p, Nat.div_eq_of_lt ((acc_low _ _ h hc).2.1 rfl), Nat.zero_add, Nat.mod_eq_of_lt (hc i).2]
    · have hi2 : i < n := by omega
      by_cases e2 : word b n = word b i
      · rw [acc_here e2]
        have hs := word_same h hi2 e2
        have e3 : (Ls.nth l n).toNat * 2 ^ shift b n = (Ls.nth l n).toNat * 2 ^ (shift b n - shift b i - b) * 2 ^ b * 2 ^ shift b i := by
          rw [Nat.mul_assoc, Nat.mul_assoc, ← Nat.pow_add, ← Nat.pow_add]
          congr 2; omega
        rw [e3, Nat.add_mul_div_right _ _ p, Nat.add_mul_mod_self_right]
        exact ih hi2
      · rw [acc_else e2]; exact ih hi2

/-- All codes of words, and all words of codes. -/
def unpack (b n : Nat) (ws : List Int) : List Int := Ls.gen n fun i => (lane b ws i : Int)
def pack (b : Nat) (l : List Int) : List Int := Ls.gen (size b l.length) fun t => (acc b l t l.length : Int)
theorem unpack_length (b n : Nat) (ws : List Int) : (unpack b n ws).length = n := Ls.gen_length _ _
theorem pack_length (b : Nat) (l : List Int) : (pack b l).length = size b l.length := Ls.gen_length _ _
theorem nth_unpack {b n i : Nat} {ws : List Int} (h : i < n) : Ls.nth (unpack b n ws) i = (lane b ws i : Int) := Ls.nth_gen h
theorem nth_pack {b t : Nat} {l : List Int} (h : t < size b l.length) : Ls.nth (pack b l) t = (acc b l t l.length : Int) := Ls.nth_gen h

theorem unpack_cds (b n : Nat) (ws : List Int) : Cds b (unpack b n ws) := by
  intro i
  by_cases h : i < n
  · rw [nth_unpack h]
    have := lane_lt b ws i
    exact ⟨by omega, by simpa using this⟩
  · rw [Ls.nth_past (by rw [unpack_length]; omega)]
    exact ⟨by omega, Nat.two_pow_pos _⟩
theorem pack_wds {b : Nat} {l : List Int} (h : Ok b) (hc : Cds b l) : Wds (pack b l) := by
  intro i
  by_cases hi : i < size b l.length
  · rw [nth_pack hi]
    have := (acc_low i l.length h hc).2.2
    rw [two_64] at this
    omega
  · rw [Ls.nth_past (by rw [pack_length]; omega)]; omega

theorem lane_pack {b i : Nat} {l : List Int} (h : Ok b) (hc : Cds b l) (hi : i < l.length) : (lane b (pack b l) i : Int) = Ls.nth l i := by
  unfold lane
  rw [nth_pack (word_size h hi), Int.toNat_natCast, acc_lane h hc hi]
  have := (hc i).1
  omega
theorem unpack_pack {b : Nat} {l : List Int} (h : Ok b) (hc : Cds b l) : unpack b l.length (pack b l) = l := by
  apply Ls.ext_nth (unpack_length _ _ _)
  intro i hi
  rw [unpack_length] at hi
  rw [nth_unpack hi, lane_pack h hc hi]

/-- Is a bit set that no code has? -/
def stray (b n : Nat) (ws : List Int) : Bool := decide (0 < shift b n ∧ ¬ (Ls.nth ws (word b n)).toNat / 2 ^ shift b n = 0)
theorem stray_even {b n : Nat} {ws : List Int} (h : shift b n = 0) : stray b n ws = false := by unfold stray; simp only [decide_eq_false_iff_not]; omega
theorem stray_no {b n : Nat} {ws : List Int} (h : (Ls.nth ws (word b n)).toNat / 2 ^ shift b n = 0) : stray b n ws = false := by unfold stray; simp only [decide_eq_false_iff_not]; exact fun ⟨_, h2⟩ => h2 h
theorem stray_yes {b n : Nat} {ws : List Int} (h0 : 0 < shift b n) (h : ¬ (Ls.nth ws (word b n)).toNat / 2 ^ shift b n = 0) : stray b n ws = true := by unfold stray; simp only [decide_eq_true_eq]; exact ⟨h0, h⟩
theorem stray_off {b n : Nat} {ws : List Int} (h0 : 0 < shift b n) (h : stray b n ws = false) : (Ls.nth ws (word b n)).toNat / 2 ^ shift b n = 0 := by
  by_cases c : (Ls.nth ws (word b n)).toNat / 2 ^ shift b n = 0
  · exact c
  · rw [stray_yes h0 c] at h; cases h

theorem stray_pack {b : Nat} {l : List Int} (h : Ok b) (hc : Cds b l) : stray b l.length (pack b l) = false := by
  by_cases h0 : shift b l.length = 0
  · exact stray_even h0
  · apply stray_no
    have hs := (size_odd h (show 0 < shift b l.length by omega)).1
    rw [nth_pack (by omega), Int.toNat_natCast]
    exact Nat.div_eq_of_lt ((acc_low _ _ h hc).2.1 rfl)

theorem acc_lanes {b n : Nat} {ws : List Int} (t k : Nat) (h : Ok b) (hw : Wds ws) (hk : k ≤ n) :
    (word b k = t → acc b (unpack b n ws) t k = (Ls.nth ws t).toNat % 2 ^ shift b k) ∧ (t < word b k → acc b (unpack b n ws) t k = (Ls.nth ws t).toNat) := by
  induction k with
  | zero => exact ⟨fun _ => by rw [shift_zero]; simp [acc, Nat.mod_one], fun h => by rw [word_zero] at h; omega⟩
  | succ k ih =>
    obtain ⟨i1, i2⟩ := ih (by omega)
    have hn := next k h
    by_cases e : word b k = t
    · rw [acc_here e, i1 e, nth_unpack (show k < n by omega), Int.toNat_natCast]
      have e2 : (Ls.nth ws t).toNat % 2 ^ shift b k + lane b ws k * 2 ^ shift b k = (Ls.nth ws t).toNat % 2 ^ (shift b k + b) := by
        unfold lane
        rw [e, Nat.pow_add, Nat.mod_mul, Nat.mul_comm (2 ^ shift b k)]
      rw [e2]
      rcases hn with ⟨h1, h2⟩ | ⟨h1, h2, h3⟩
      · refine ⟨fun _ => by rw [h2], fun h => by omega⟩
      · refine ⟨fun _ => by omega, fun _ => ?_⟩
        rw [h3, two_64]
        have := hw t
        omega
    · rw [acc_else e]
      by_cases e2 : word b k < t
      · have z := (acc_low t k h (unpack_cds b n ws)).1 e2
        rw [z]
        rcases hn with ⟨h1, h2⟩ | ⟨h1, h2, h3⟩
        · exact ⟨fun _ => by omega, fun _ => by omega⟩
        · exact ⟨fun _ => by rw [h2]; simp [Nat.mod_one], fun _ => by omega⟩
      · exact ⟨fun _ => by omega, fun _ => i2 (by omega)⟩

theorem pack_unpack {b n : Nat} {ws : List Int} (h : Ok b) (hw : Wds ws) (hl : ws.length = size b n) (hs : stray b n ws = false) : pack b (unpack b n ws) = ws := by
  apply Ls.ext_nth (by rw [pack_length, unpack_length, hl])
  intro t ht
  rw [pack_length, unpack_length] at ht
  rw [nth_pack (by rw [unpack_length]; exact ht), unpack_length]
  have w0 := (hw t).1
  obtain ⟨i1, i2⟩ := acc_lanes (n := n) t n h hw (Nat.le_refl _)
  rcases size_cases h ht with c | ⟨c, c2⟩
  · rw [i2 c]; omega
  · rw [i1 c.symm]
    have z := stray_off c2 hs
    rw [← c] at z
    have p := Nat.two_pow_pos (shift b n)
    have : (Ls.nth ws t).toNat < 2 ^ shift b n := by
      rcases Nat.div_eq_zero_iff.1 z with q | q
      · omega
      · exact q
    rw [Nat.mod_eq_of_lt this]
    omega

theorem nth_append_right (a c : List Int) (i : Nat) : Ls.nth (a ++ c) (a.length + i) = Ls.nth c i := by
  unfold Ls.nth; simp [List.getD_eq_getElem?_getD, List.getElem?_append_right]
theorem cds_append {b : Nat} {a c : List Int} (ha : cds b a = true) (hc : cds b c = true) : cds b (a ++ c) = true := by
  apply cds_yes
  intro i hi
  by_cases h : i < a.length
  · rw [Ls.nth_append_left h]; exact cds_all ha i h
  · rw [List.length_append] at hi
    have e : i = a.length + (i - a.length) := by omega
    rw [e, nth_append_right]
    exact cds_all hc _ (by omega)
theorem acc_front {b : Nat} (a c : List Int) (t n : Nat) (hn : n ≤ a.length) : acc b (a ++ c) t n = acc b a t n := by
  induction n with
  | zero => rfl
  | succ n ih =>
    simp only [acc]
    rw [ih (by omega), Ls.nth_append_left (by omega)]
theorem word_le {b i n : Nat} (h : Ok b) (hi : i ≤ n) : word b i ≤ word b n := by
  unfold word; rcases h with rfl | rfl | rfl <;> simp only [Nat.reduceDiv] <;> omega
theorem acc_join {b : Nat} (a c : List Int) (t n : Nat) (h : Ok b) (hs : shift b a.length = 0) (ha : Cds b a) :
    (t < word b a.length → acc b (a ++ c) t (a.length + n) = acc b a t a.length) ∧ (word b a.length ≤ t → acc b (a ++ c) t (a.length + n) = acc b c (t - word b a.length) n) := by
  induction n with
  | zero =>
    refine ⟨fun _ => acc_front _ _ _ _ (Nat.le_refl _), fun h1 => ?_⟩
    rw [Nat.add_zero, acc_front _ _ _ _ (Nat.le_refl _)]
    obtain ⟨z1, z2, _⟩ := acc_low t a.length h ha
    by_cases e : word b a.length = t
    · have := z2 e
      rw [hs] at this
      simp only [acc]
      omega
    · exact z1 (by omega)
  | succ n ih =>
    obtain ⟨i1, i2⟩ := ih
    obtain ⟨w1, w2, _⟩ := word_add n h hs
    rw [← Nat.add_assoc]
    refine ⟨fun h1 => ?_, fun h1 => ?_⟩
    · rw [acc_else (by omega)]; exact i1 h1
    · by_cases e : word b n = t - word b a.length
      · rw [acc_here (by omega), acc_here e, i2 h1, nth_append_right, w2]
      · rw [acc_else (by omega), acc_else e, i2 h1]
theorem pack_append {b : Nat} (a c : List Int) (h : Ok b) (hs : shift b a.length = 0) (ha : Cds b a) : pack b (a ++ c) = pack b a ++ pack b c := by
  obtain ⟨w1, w2, w3⟩ := word_add c.length h hs
  obtain ⟨s1, _⟩ := size_even h hs
  apply Ls.ext_nth
  · rw [List.length_append, pack_length, pack_length, pack_length, List.length_append]; omega
  · intro t ht
    rw [pack_length, List.length_append] at ht
    rw [nth_pack (by rw [List.length_append]; exact ht), List.length_append]
    obtain ⟨i1, i2⟩ := acc_join a c t c.length h hs ha
    by_cases e : t < word b a.length
    · rw [i1 e, Ls.nth_append_left (by rw [pack_length]; omega), nth_pack (by omega)]
    · rw [i2 (by omega)]
      have e2 : t = (pack b a).length + (t - word b a.length) := by rw [pack_length]; omega
      conv => rhs; rw [e2]
      rw [nth_append_right, nth_pack (by omega)]

/-- A bit of a number. -/
def bit (v i : Nat) : Nat := v / 2 ^ i % 2
theorem bit_le (v i : Nat) : bit v i ≤ 1 := by unfold bit; omega
theorem bits_more (v s k : Nat) : v / 2 ^ s % 2 ^ (k + 1) = v / 2 ^ s % 2 ^ k + bit v (s + k) * 2 ^ k := by
  unfold bit
  rw [Nat.mod_pow_succ, Nat.div_div_eq_div_mul, ← Nat.pow_add, Nat.mul_comm (2 ^ k)]
theorem bits_more0 (v k : Nat) : v % 2 ^ (k + 1) = v % 2 ^ k + bit v k * 2 ^ k := by
  have := bits_more v 0 k
  simpa using this
theorem bit_some {v s k : Nat} (h : bit v (s + k) = 1) : ¬ v / 2 ^ s = 0 := by
  intro h0
  unfold bit at h
  rw [Nat.pow_add, ← Nat.div_div_eq_div_mul, h0, Nat.zero_div] at h
  omega
theorem bit_none {v s k : Nat} (hv : v < 2 ^ (s + k)) (h : v / 2 ^ s % 2 ^ k = 0) : v / 2 ^ s = 0 := by
  have : v / 2 ^ s < 2 ^ k := by
    rw [Nat.div_lt_iff_lt_mul (Nat.two_pow_pos _), ← Nat.pow_add, Nat.add_comm k s]
    exact hv
  rw [Nat.mod_eq_of_lt this] at h
  exact h
end Pk
end Go.Proofs.Ytpifemahakbegaa
