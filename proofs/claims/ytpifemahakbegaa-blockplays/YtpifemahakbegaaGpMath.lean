/- Numbers as codes: plain arithmetic (layer 7). No Go text in it. -/
import Derived.Test.YtpifemahakbegaaLsMath
namespace Go.Proofs.Ytpifemahakbegaa
set_option linter.unusedVariables false
namespace Gp

/-- The lesser and the greater of two. -/
def lo2 (a b : Int) : Int := if b < a then b else a
def hi2 (a b : Int) : Int := if a < b then b else a
theorem lo2_yes {a b : Int} (h : b < a) : lo2 a b = b := if_pos h
theorem lo2_no {a b : Int} (h : ¬ b < a) : lo2 a b = a := if_neg h
theorem hi2_yes {a b : Int} (h : a < b) : hi2 a b = b := if_pos h
theorem hi2_no {a b : Int} (h : ¬ a < b) : hi2 a b = a := if_neg h
theorem lo2_bd (a b : Int) : lo2 a b ≤ a ∧ lo2 a b ≤ b ∧ (lo2 a b = a ∨ lo2 a b = b) := by unfold lo2; split <;> omega
theorem hi2_bd (a b : Int) : a ≤ hi2 a b ∧ b ≤ hi2 a b ∧ (hi2 a b = a ∨ hi2 a b = b) := by unfold hi2; split <;> omega

/-- The least and the greatest of the first n numbers (and of the first one). -/
def lowN (l : List Int) : Nat → Int
  | 0 => Ls.nth l 0
  | n + 1 => lo2 (lowN l n) (Ls.nth l n)
def highN (l : List Int) : Nat → Int
  | 0 => Ls.nth l 0
  | n + 1 => hi2 (highN l n) (Ls.nth l n)
def low (l : List Int) : Int := lowN l l.length
def high (l : List Int) : Int := highN l l.length
theorem lowN_le (l : List Int) (n : Nat) : lowN l n ≤ Ls.nth l 0 ∧ ∀ i, i < n → lowN l n ≤ Ls.nth l i := by
  induction n with
  | zero => exact ⟨Int.le_refl _, fun i hi => by omega⟩
  | succ n ih =>
    have b := lo2_bd (lowN l n) (Ls.nth l n)
    refine ⟨by simp only [lowN]; omega, fun i hi => ?_⟩
    simp only [lowN]
    by_cases e : i = n
    · subst e; omega
    · have := ih.2 i (by omega); omega
theorem highN_le (l : List Int) (n : Nat) : Ls.nth l 0 ≤ highN l n ∧ ∀ i, i < n → Ls.nth l i ≤ highN l n := by
  induction n with
  | zero => exact ⟨Int.le_refl _, fun i hi => by omega⟩
  | succ n ih =>
    have b := hi2_bd (highN l n) (Ls.nth l n)
    refine ⟨by simp only [highN]; omega, fun i hi => ?_⟩
    simp only [highN]
    by_cases e : i = n
    · subst e; omega
    · have := ih.2 i (by omega); omega
theorem lowN_is (l : List Int) (n : Nat) : ∃ i, (i < n ∨ i = 0) ∧ lowN l n = Ls.nth l i := by
  induction n with
  | zero => exact ⟨0, Or.inr rfl, rfl⟩
  | succ n ih =>
    obtain ⟨i, hi, e⟩ := ih
    rcases (lo2_bd (lowN l n) (Ls.nth l n)).2.2 with h | h
    · exact ⟨i, by omega, by simp only [lowN]; rw [h, e]⟩
    · exact ⟨n, Or.inl (by omega), by simp only [lowN]; rw [h]⟩
theorem highN_is (l : List Int) (n : Nat) : ∃ i, (i < n ∨ i = 0) ∧ highN l n = Ls.nth l i := by
  induction n with
  | zero => exact ⟨0, Or.inr rfl, rfl⟩
  | succ n ih =>
    obtain ⟨i, hi, e⟩ := ih
    rcases (hi2_bd (highN l n) (Ls.nth l n)).2.2 with h | h
    · exact ⟨i, by omega, by simp only [highN]; rw [h, e]⟩
    · exact ⟨n, Or.inl (by omega), by simp only [highN]; rw [h]⟩
theorem low_le {l : List Int} {i : Nat} (h : i < l.length) : low l ≤ Ls.nth l i := (lowN_le l _).2 i h
theorem le_high {l : List Int} {i : Nat} (h : i < l.length) : Ls.nth l i ≤ high l := (highN_le l _).2 i h
theorem low_is {l : List Int} (h : 0 < l.length) : ∃ i, i < l.length ∧ Ls.nth l i = low l := by
  obtain ⟨i, hi, e⟩ := lowN_is l l.length
  exact ⟨i, by omega, e.symm⟩
theorem high_is {l : List Int} (h : 0 < l.length) : ∃ i, i < l.length ∧ Ls.nth l i = high l := by
  obtain ⟨i, hi, e⟩ := highN_is l l.length
  exact ⟨i, by omega, e.symm⟩
theorem lowN_in {l : List Int} (h : Ls.In32 l) (n : Nat) : -2147483648 ≤ lowN l n ∧ lowN l n ≤ 2147483647 := by
  obtain ⟨i, _, e⟩ := lowN_is l n
  rw [e]; exact h i
theorem highN_in {l : List Int} (h : Ls.In32 l) (n : Nat) : -2147483648 ≤ highN l n ∧ highN l n ≤ 2147483647 := by
  obtain ⟨i, _, e⟩ := highN_is l n
  rw [e]; exact h i
theorem low_high (l : List Int) : low l ≤ high l := Int.le_trans (lowN_le l _).1 (highN_le l _).1
/-- What is the least by its marks is it. -/
theorem low_uniq {l : List Int} {m : Int} (hl : 0 < l.length) (h1 : ∀ i, i < l.length → m ≤ Ls.nth l i) (h2 : ∃ i, i < l.length ∧ Ls.nth l i = m) : low l = m := by
  obtain ⟨i, hi, ei⟩ := low_is hl
  obtain ⟨j, hj, ej⟩ := h2
  have a := h1 i hi
  have b := low_le hj
  omega
theorem high_uniq {l : List Int} {m : Int} (hl : 0 < l.length) (h1 : ∀ i, i < l.length → Ls.nth l i ≤ m) (h2 : ∃ i, i < l.length ∧ Ls.nth l i = m) : high l = m := by
  obtain ⟨i, hi, ei⟩ := high_is hl
  obtain ⟨j, hj, ej⟩ := h2
  have a := h1 i hi
  have b := le_high hj
  omega

/-- d divided by s, rounded up. -/
def up (d s : Int) : Int := if d / s * s < d then d / s + 1 else d / s
theorem up_yes {d s : Int} (h : d / s * s < d) : up d s = d / s + 1 := if_pos h
theorem up_no {d s : Int} (h : ¬ d / s * s < d) : up d s = d / s := if_neg h
theorem up_char {d s : Int} (hs : 0 < s) : d ≤ up d s * s ∧ (up d s - 1) * s < d := by
  have e := Int.mul_ediv_add_emod d s
  have r0 := Int.emod_nonneg d (show s ≠ 0 by omega)
  have r1 := Int.emod_lt_of_pos d hs
  obtain ⟨q, eq⟩ : ∃ q, d / s = q := ⟨_, rfl⟩
  rw [eq, Int.mul_comm] at e
  by_cases c : q * s < d
  · rw [up_yes (by rw [eq]; exact c), eq]
    have e1 : (q + 1) * s = q * s + s := by rw [Int.add_mul, Int.one_mul]
    have e2 : (q + 1 - 1) * s = q * s := by rw [show q + 1 - 1 = q by omega]
    omega
  · rw [up_no (by rw [eq]; exact c), eq]
    have e2 : (q - 1) * s = q * s - s := by rw [Int.sub_mul, Int.one_mul]
    omega
theorem up_uniq {d s m : Int} (hs : 0 < s) (h1 : d ≤ m * s) (h2 : (m - 1) * s < d) : up d s = m := by
  obtain ⟨a, b⟩ := up_char (d := d) hs
  obtain ⟨u, eu⟩ : ∃ u, up d s = u := ⟨_, rfl⟩
  rw [eu] at a b ⊢
  have c1 : (u - 1) * s < m * s := by omega
  have c2 : (m - 1) * s < u * s := by omega
  have d1 := Int.lt_of_mul_lt_mul_right c1 (by omega)
  have d2 := Int.lt_of_mul_lt_mul_right c2 (by omega)
  omega
theorem up_nonneg {d s : Int} (hs : 0 < s) (hd : 0 ≤ d) : 0 ≤ up d s := by
  have := Int.ediv_nonneg hd (show 0 ≤ s by omega)
  unfold up; split <;> omega
theorem up_zero {d s : Int} (hs : 0 < s) (hd : 0 ≤ d) (h : up d s = 0) : d = 0 := by
  have := (up_char (d := d) hs).1
  rw [h, Int.zero_mul] at this
  omega
theorem up_none (s : Int) : up 0 s = 0 := by unfold up; simp
theorem up_le {d s : Int} (hs : 3 ≤ s) (hd : 0 ≤ d) (h : d ≤ 4294967295) : up d s ≤ 1431655765 := by
  have a := (up_char (d := d) (show 0 < s by omega)).2
  obtain ⟨u, eu⟩ : ∃ u, up d s = u := ⟨_, rfl⟩
  rw [eu] at a ⊢
  rcases Int.lt_or_le u 1 with c | c
  · omega
  · have : (u - 1) * 3 ≤ (u - 1) * s := Int.mul_le_mul_of_nonneg_left hs (by omega)
    omega

/-- The code of a number, at a zero and a scale. -/
def code (z sc x : Int) : Int := if 0 < sc then Fx.rnd (x - z) sc else 0
theorem code_yes {z sc x : Int} (h : 0 < sc) : code z sc x = Fx.rnd (x - z) sc := if_pos h
theorem code_no {z sc x : Int} (h : ¬ 0 < sc) : code z sc x = 0 := if_neg h
theorem code_shift (z sc x k : Int) : code (z + k) sc (x + k) = code z sc x := by
  unfold code
  rw [show x + k - (z + k) = x - z by omega]
theorem code_zero (z sc : Int) : code z sc z = 0 := by
  unfold code
  split
  · rename_i h
    have := Fx.rnd_mul 0 sc h
    rw [Int.zero_mul] at this
    rw [show z - z = 0 by omega, this]
  · rfl
theorem code_in {z sc x s : Int} (hs : 0 ≤ s) (h0 : z ≤ x) (h1 : x - z ≤ sc * s) : 0 ≤ code z sc x ∧ code z sc x ≤ s := by
  unfold code
  split
  · rename_i h
    have a := Fx.rnd_mono 0 (x - z) sc h (by omega)
    have b := Fx.rnd_mono (x - z) (s * sc) sc h (by rw [Int.mul_comm]; exact h1)
    have e0 := Fx.rnd_mul 0 sc h
    rw [Int.zero_mul] at e0
    rw [e0] at a
    rw [Fx.rnd_mul s sc h] at b
    exact ⟨a, b⟩
  · exact ⟨Int.le_refl _, hs⟩

/-- What a code means. -/
def mean (z sc c : Int) : Int := Fx.cut (z + c * sc) (-2147483648) 2147483647
theorem mean_in (z sc c : Int) : -2147483648 ≤ mean z sc c ∧ mean z sc c ≤ 2147483647 := Fx.cut_bd (by omega)
theorem mean_zero {z : Int} (sc : Int) (h0 : -2147483648 ≤ z) (h1 : z ≤ 2147483647) : mean z sc 0 = z := by
  unfold mean
  rw [Int.zero_mul, Int.add_zero, Fx.cut_in (by omega) (by omega)]
/-- What is meant is no further than half of the scale. -/
theorem mean_near {z sc x : Int} (hx0 : -2147483648 ≤ x) (hx1 : x ≤ 2147483647) (hsc : 0 ≤ sc) (hz : sc = 0 → x = z) : 2 * (mean z sc (code z sc x) - x) ≤ sc ∧ -sc ≤ 2 * (mean z sc (code z sc x) - x) := by
  by_cases c : 0 < sc
  · rw [code_yes c]
    obtain ⟨a, b, _⟩ := Fx.rnd_char (x - z) sc c
    obtain ⟨q, eq⟩ : ∃ q, Fx.rnd (x - z) sc * sc = q := ⟨_, rfl⟩
    rw [eq] at a b
    unfold mean
    rw [eq]
    unfold Fx.cut
    split
    · omega
    · split <;> omega
  · have e : sc = 0 := by omega
    have ex := hz e
    subst ex
    subst e
    rw [code_zero, mean_zero 0 hx0 hx1]
    omega

/-- The codes of numbers; what they mean. -/
def codes (z sc : Int) (l : List Int) : List Int := Ls.gen l.length fun i => code z sc (Ls.nth l i)
def means (z sc : Int) (c : List Int) : List Int := Ls.gen c.length fun i => mean z sc (Ls.nth c i)
theorem codes_length (z sc : Int) (l : List Int) : (codes z sc l).length = l.length := Ls.gen_length _ _
theorem means_length (z sc : Int) (c : List Int) : (means z sc c).length = c.length := Ls.gen_length _ _
theorem nth_codes {z sc : Int} {l : List Int} {i : Nat} (h : i < l.length) : Ls.nth (codes z sc l) i = code z sc (Ls.nth l i) := Ls.nth_gen h
theorem nth_means {z sc : Int} {c : List Int} {i : Nat} (h : i < c.length) : Ls.nth (means z sc c) i = mean z sc (Ls.nth c i) := Ls.nth_gen h
/-- The scale of numbers at s steps. -/
def scale (s : Int) (l : List Int) : Int := up (high l - low l) s
theorem spread_bd {l : List Int} (h : Ls.In32 l) : 0 ≤ high l - low l ∧ high l - low l ≤ 4294967295 := by
  have a := lowN_in h l.length
  have b := highN_in h l.length
  have c := low_high l
  unfold low high at *
  omega
theorem scale_bd {s : Int} {l : List Int} (h : Ls.In32 l) (hs : 3 ≤ s) : 0 ≤ scale s l ∧ scale s l ≤ 1431655765 :=
  ⟨up_nonneg (by omega) (spread_bd h).1, up_le hs (spread_bd h).1 (spread_bd h).2⟩
/-- What is grouped is right: each code from 0 to s; all 0 where the scale is. -/
theorem codes_right {s : Int} {l : List Int} (h : Ls.In32 l) (hs : 3 ≤ s) {i : Nat} (hi : i < l.length) : 0 ≤ Ls.nth (codes (low l) (scale s l) l) i ∧ Ls.nth (codes (low l) (scale s l) l) i ≤ s := by
  rw [nth_codes hi]
  have a := low_le hi
  have b := le_high hi
  have c := (up_char (d := high l - low l) (s := s) (by omega)).1
  exact code_in (by omega) a (by unfold scale; omega)
theorem codes_none {z sc : Int} {l : List Int} (h : sc = 0) {i : Nat} (hi : i < l.length) : Ls.nth (codes z sc l) i = 0 := by
  rw [nth_codes hi, code_no (by omega)]
/-- What grouped numbers mean is no further from them than half of the scale. -/
theorem grouped_near {s : Int} {l : List Int} (h : Ls.In32 l) (hs : 3 ≤ s) {i : Nat} (hi : i < l.length) :
    2 * (Ls.nth (means (low l) (scale s l) (codes (low l) (scale s l) l)) i - Ls.nth l i) ≤ scale s l ∧ -scale s l ≤ 2 * (Ls.nth (means (low l) (scale s l) (codes (low l) (scale s l) l)) i - Ls.nth l i) := by
  rw [nth_means (by rw [codes_length]; exact hi), nth_codes hi]
  refine mean_near (h i).1 (h i).2 (scale_bd h hs).1 ?_
  intro e
  have a := low_le hi
  have b := le_high hi
  have := up_zero (s := s) (by omega) (spread_bd h).1 e
  omega
/-- The least number is meant as it is. -/
theorem grouped_low {s : Int} {l : List Int} (h : Ls.In32 l) {i : Nat} (hi : i < l.length) (e : Ls.nth l i = low l) :
    Ls.nth (means (low l) (scale s l) (codes (low l) (scale s l) l)) i = Ls.nth l i := by
  rw [nth_means (by rw [codes_length]; exact hi), nth_codes hi, e, code_zero]
  exact mean_zero _ (lowN_in h _).1 (lowN_in h _).2
/-- Numbers that are all greater by one number. -/
theorem low_shift {l m : List Int} {k : Int} (hl : 0 < l.length) (hn : m.length = l.length) (h : ∀ i, i < l.length → Ls.nth m i = Ls.nth l i + k) : low m = low l + k := by
  apply low_uniq (by omega)
  · intro i hi
    rw [h i (by omega)]
    have := low_le (l := l) (i := i) (by omega)
    omega
  · obtain ⟨i, hi, e⟩ := low_is hl
    exact ⟨i, by omega, by rw [h i hi, e]⟩
theorem high_shift {l m : List Int} {k : Int} (hl : 0 < l.length) (hn : m.length = l.length) (h : ∀ i, i < l.length → Ls.nth m i = Ls.nth l i + k) : high m = high l + k := by
  apply high_uniq (by omega)
  · intro i hi
    rw [h i (by omega)]
    have := le_high (l := l) (i := i) (by omega)
    omega
  · obtain ⟨i, hi, e⟩ := high_is hl
    exact ⟨i, by omega, by rw [h i hi, e]⟩
theorem scale_shift {s : Int} {l m : List Int} {k : Int} (hl : 0 < l.length) (hn : m.length = l.length) (h : ∀ i, i < l.length → Ls.nth m i = Ls.nth l i + k) : scale s m = scale s l := by
  unfold scale
  rw [low_shift hl hn h, high_shift hl hn h]
  congr 1
  omega
theorem codes_shift {s : Int} {l m : List Int} {k : Int} (hl : 0 < l.length) (hn : m.length = l.length) (h : ∀ i, i < l.length → Ls.nth m i = Ls.nth l i + k) : codes (low m) (scale s m) m = codes (low l) (scale s l) l := by
  apply Ls.ext_nth (by rw [codes_length, codes_length, hn])
  intro i hi
  rw [codes_length] at hi
  rw [nth_codes hi, nth_codes (by omega), scale_shift hl hn h, low_shift hl hn h, h i (by omega), code_shift]
/-- Numbers that are all one. -/
theorem flat_low {l : List Int} {v : Int} (hl : 0 < l.length) (h : ∀ i, i < l.length → Ls.nth l i = v) : low l = v :=
  low_uniq hl (fun i hi => by rw [h i hi]; exact Int.le_refl _) ⟨0, hl, h 0 hl⟩
theorem flat_high {l : List Int} {v : Int} (hl : 0 < l.length) (h : ∀ i, i < l.length → Ls.nth l i = v) : high l = v :=
  high_uniq hl (fun i hi => by rw [h i hi]; exact Int.le_refl _) ⟨0, hl, h 0 hl⟩
theorem flat_scale {s : Int} {l : List Int} {v : Int} (hl : 0 < l.length) (h : ∀ i, i < l.length → Ls.nth l i = v) : scale s l = 0 := by
  unfold scale
  rw [flat_low hl h, flat_high hl h, Int.sub_self, up_none]
/-- Divided, rounded up, by one division. -/
theorem up_div {d s : Int} (hs : 0 < s) : (d + s - 1) / s = up d s := by
  symm
  have e := Int.mul_ediv_add_emod (d + s - 1) s
  have r0 := Int.emod_nonneg (d + s - 1) (show s ≠ 0 by omega)
  have r1 := Int.emod_lt_of_pos (d + s - 1) hs
  obtain ⟨q, eq⟩ : ∃ q, (d + s - 1) / s = q := ⟨_, rfl⟩
  rw [eq, Int.mul_comm] at e
  rw [eq]
  apply up_uniq hs
  · omega
  · rw [Int.sub_mul, Int.one_mul]; omega
/-- Bits and the greatest code of so many. -/
def St (b s : Nat) : Prop := (b = 2 ∧ s = 3) ∨ (b = 4 ∧ s = 15) ∨ (b = 8 ∧ s = 255)
theorem St.bd {b s : Nat} (h : St b s) : 2 ≤ b ∧ b ≤ 8 ∧ 3 ≤ s ∧ s ≤ 255 := by rcases h with ⟨rfl, rfl⟩ | ⟨rfl, rfl⟩ | ⟨rfl, rfl⟩ <;> omega
/-- An error's number, of n codes of b bits. -/
def okB (b : Int) : Bool := b == 2 || b == 4 || b == 8
def many (n : Nat) (b : Int) : Int := if okB b = true then (if n = 0 then 14 else if 256 < n then 12 else 0) else 20
theorem okB_st {b s : Nat} (h : St b s) : okB (b : Int) = true := by rcases h with ⟨rfl, rfl⟩ | ⟨rfl, rfl⟩ | ⟨rfl, rfl⟩ <;> rfl
theorem many_none {b s : Nat} (h : St b s) : many 0 b = 14 := by unfold many; rw [if_pos (okB_st h), if_pos rfl]
theorem many_many {b s n : Nat} (h : St b s) (hn : 256 < n) : many n b = 12 := by unfold many; rw [if_pos (okB_st h), if_neg (by omega), if_pos hn]
theorem many_ok {b s n : Nat} (h : St b s) (h0 : 0 < n) (hn : n ≤ 256) : many n b = 0 := by unfold many; rw [if_pos (okB_st h), if_neg (by omega), if_neg (by omega)]
theorem many_bits {b : Int} (n : Nat) (h : ¬ b = 2 ∧ ¬ b = 4 ∧ ¬ b = 8) : many n b = 20 := by
  unfold many
  rw [if_neg]
  unfold okB
  simp [h.1, h.2.1, h.2.2]
/-- Which it is. -/
theorem many_or (n : Nat) (b : Int) : (¬ many n b = 0) ∨ (∃ m s : Nat, b = (m : Int) ∧ St m s ∧ 0 < n ∧ n ≤ 256 ∧ many n b = 0) := by
  by_cases hb : okB b = true
  · have hb' : b = 2 ∨ b = 4 ∨ b = 8 := by unfold okB at hb; simp at hb; omega
    have hst : ∃ m s : Nat, b = (m : Int) ∧ St m s := by
      rcases hb' with e | e | e
      · exact ⟨2, 3, e, Or.inl ⟨rfl, rfl⟩⟩
      · exact ⟨4, 15, e, Or.inr (Or.inl ⟨rfl, rfl⟩)⟩
      · exact ⟨8, 255, e, Or.inr (Or.inr ⟨rfl, rfl⟩)⟩
    obtain ⟨m, s, rfl, hs⟩ := hst
    by_cases h0 : n = 0
    · subst h0; left; rw [many_none hs]; decide
    · by_cases h1 : 256 < n
      · left; rw [many_many hs h1]; decide
      · right; exact ⟨m, s, rfl, hs, by omega, by omega, many_ok hs (by omega) (by omega)⟩
  · left
    unfold many
    rw [if_neg hb]
    decide
theorem many_cases (n : Nat) (b : Int) : (¬ b = 2 ∧ ¬ b = 4 ∧ ¬ b = 8) ∨ (∃ m s : Nat, b = (m : Int) ∧ St m s) := by
  by_cases h1 : b = 2
  · exact Or.inr ⟨2, 3, h1, Or.inl ⟨rfl, rfl⟩⟩
  by_cases h2 : b = 4
  · exact Or.inr ⟨4, 15, h2, Or.inr (Or.inl ⟨rfl, rfl⟩)⟩
  by_cases h3 : b = 8
  · exact Or.inr ⟨8, 255, h3, Or.inr (Or.inr ⟨rfl, rfl⟩)⟩
  exact Or.inl ⟨h1, h2, h3⟩
/-- Are all codes 0? Are they codes of so many? -/
def nils (c : List Int) : Bool := decide (∀ i, i < c.length → Ls.nth c i = 0)
def fits (s : Int) (c : List Int) : Bool := decide (∀ i, i < c.length → 0 ≤ Ls.nth c i ∧ Ls.nth c i ≤ s)
theorem nils_yes {c : List Int} (h : ∀ i, i < c.length → Ls.nth c i = 0) : nils c = true := by unfold nils; simp only [decide_eq_true_eq]; exact h
theorem nils_no {c : List Int} {i : Nat} (hi : i < c.length) (h : ¬ Ls.nth c i = 0) : nils c = false := by unfold nils; simp only [decide_eq_false_iff_not]; exact fun g => h (g i hi)
theorem nils_all {c : List Int} (h : nils c = true) : ∀ i, i < c.length → Ls.nth c i = 0 := by unfold nils at h; simp only [decide_eq_true_eq] at h; exact h
theorem fits_yes {s : Int} {c : List Int} (h : ∀ i, i < c.length → 0 ≤ Ls.nth c i ∧ Ls.nth c i ≤ s) : fits s c = true := by unfold fits; simp only [decide_eq_true_eq]; exact h
theorem fits_no {s : Int} {c : List Int} {i : Nat} (hi : i < c.length) (h : ¬ (0 ≤ Ls.nth c i ∧ Ls.nth c i ≤ s)) : fits s c = false := by unfold fits; simp only [decide_eq_false_iff_not]; exact fun g => h (g i hi)
theorem fits_all {s : Int} {c : List Int} (h : fits s c = true) : ∀ i, i < c.length → 0 ≤ Ls.nth c i ∧ Ls.nth c i ≤ s := by unfold fits at h; simp only [decide_eq_true_eq] at h; exact h
/-- May a group be? An error's number (of as many codes as may be). -/
def right (s sc : Int) (c : List Int) : Int := if 1431655765 < sc then 21 else if sc = 0 ∧ nils c = false then 21 else if fits s c = true then 0 else 11
theorem right_big {s sc : Int} {c : List Int} (h : 1431655765 < sc) : right s sc c = 21 := if_pos h
theorem right_nil {s sc : Int} {c : List Int} (h : sc = 0) (hn : nils c = false) : right s sc c = 21 := by unfold right; rw [if_neg (by omega), if_pos ⟨h, hn⟩]
theorem right_no {s sc : Int} {c : List Int} (h : ¬ 1431655765 < sc) (h0 : sc = 0 → nils c = true) (hf : fits s c = false) : right s sc c = 11 := by
  unfold right
  rw [if_neg h, if_neg, if_neg (by rw [hf]; exact Bool.false_ne_true)]
  rintro ⟨a, b⟩
  rw [h0 a] at b
  cases b
theorem right_yes {s sc : Int} {c : List Int} (h : ¬ 1431655765 < sc) (h0 : sc = 0 → nils c = true) (hf : fits s c = true) : right s sc c = 0 := by
  unfold right
  rw [if_neg h, if_neg, if_pos hf]
  rintro ⟨a, b⟩
  rw [h0 a] at b
  cases b
/-- A right group, its codes and its scale. -/
theorem right_zero {s sc : Int} {c : List Int} (h : right s sc c = 0) : sc ≤ 1431655765 ∧ (sc = 0 → nils c = true) ∧ fits s c = true := by
  unfold right at h
  split at h
  · cases h
  · split at h
    · cases h
    · rename_i h1 h2
      split at h
      · rename_i h3
        refine ⟨by omega, fun e => ?_, h3⟩
        cases hn : nils c
        · exact absurd ⟨e, hn⟩ h2
        · rfl
      · cases h
theorem grouped_right {s : Int} {l : List Int} (h : Ls.In32 l) (hs : 3 ≤ s) : right s (scale s l) (codes (low l) (scale s l) l) = 0 := by
  have b := scale_bd h hs
  refine right_yes (by omega) (fun e => nils_yes fun i hi => ?_) (fits_yes fun i hi => ?_)
  · rw [codes_length] at hi; exact codes_none e hi
  · rw [codes_length] at hi; exact codes_right h hs hi
end Gp
end Go.Proofs.Ytpifemahakbegaa
