/- Layer 13: GpMath, PkMath, SlMath. -/
import Derived.Test.YtnchnlgnnlgjcaaGreatCn01
namespace Go.Proofs.YtnchnlgnnlgjcaaGreat
set_option linter.unusedVariables false
namespace Gp
/-- The lesser and the greater of two. -/
def lo2 (a b : Int) : Int := if b < a then b else a
def hi2 (a b : Int) : Int := if a < b then b else a
theorem lo2_bd (a b : Int) : lo2 a b ≤ a ∧ lo2 a b ≤ b ∧ (lo2 a b = a ∨ lo2 a b = b) := by unfold lo2; split <;> omega
theorem hi2_bd (a b : Int) : a ≤ hi2 a b ∧ b ≤ hi2 a b ∧ (hi2 a b = a ∨ hi2 a b = b) := by unfold hi2; split <;> omega
/-- The least and the greatest of the first n numbers (and of the first one). -/
def lowN (l : List Int) : Nat → Int
  | 0 => Ls.nth l 0
  | n + 1 => lo2 (lowN l n) (Ls.nth l n)
def highN (l : List Int) : Nat → Int
  | 0 => Ls.nth l 0
  | n + 1 => hi2 (highN l n) (Ls.nth l n)
def low (l : List Int) : Int := lowN l l.length
def high (l : List Int) : Int := highN l l.length
theorem lowN_le (l : List Int) (n : Nat) : lowN l n ≤ Ls.nth l 0 ∧ ∀ i, i < n → lowN l n ≤ Ls.nth l i := by
  induction n with
  | zero => exact ⟨Int.le_refl _, fun i hi => by omega⟩
  | succ n ih =>
    have b := lo2_bd (lowN l n) (Ls.nth l n)
    refine ⟨by simp only [lowN]; omega, fun i hi => ?_⟩
    simp only [lowN]
    by_cases e : i = n
    · subst e; omega
    · have := ih.2 i (by omega); omega
theorem highN_le (l : List Int) (n : Nat) : Ls.nth l 0 ≤ highN l n ∧ ∀ i, i < n → Ls.nth l i ≤ highN l n := by
  induction n with
  | zero => exact ⟨Int.le_refl _, fun i hi => by omega⟩
  | succ n ih =>
    have b := hi2_bd (highN l n) (Ls.nth l n)
    refine ⟨by simp only [highN]; omega, fun i hi => ?_⟩
    simp only [highN]
    by_cases e : i = n
    · subst e; omega
    · have := ih.2 i (by omega); omega
theorem lowN_is (l : List Int) (n : Nat) : ∃ i, (i < n ∨ i = 0) ∧ lowN l n = Ls.nth l i := by
  induction n with
  | zero => exact ⟨0, Or.inr rfl, rfl⟩
  | succ n ih =>
    obtain ⟨i, hi, e⟩ := ih
    rcases (lo2_bd (lowN l n) (Ls.nth l n)).2.2 with h | h
    · exact ⟨i, by omega, by simp only [lowN]; rw [h, e]⟩
    · exact ⟨n, Or.inl (by omega), by simp only [lowN]; rw [h]⟩
theorem highN_is (l : List Int) (n : Nat) : ∃ i, (i < n ∨ i = 0) ∧ highN l n = Ls.nth l i := by
  induction n with
  | zero => exact ⟨0, Or.inr rfl, rfl⟩
  | succ n ih =>
    obtain ⟨i, hi, e⟩ := ih
    rcases (hi2_bd (highN l n) (Ls.nth l n)).2.2 with h | h
    · exact ⟨i, by omega, by simp only [highN]; rw [h, e]⟩
    · exact ⟨n, Or.inl (by omega), by simp only [highN]; rw [h]⟩
theorem low_le {l : List Int} {i : Nat} (h : i < l.length) : low l ≤ Ls.nth l i := (lowN_le l _).2 i h
theorem le_high {l : List Int} {i : Nat} (h : i < l.length) : Ls.nth l i ≤ high l := (highN_le l _).2 i h
theorem lowN_in {l : List Int} (h : Ls.In32 l) (n : Nat) : -2147483648 ≤ lowN l n ∧ lowN l n ≤ 2147483647 := by
  obtain ⟨i, _, e⟩ := lowN_is l n
  rw [e]; exact h i
theorem highN_in {l : List Int} (h : Ls.In32 l) (n : Nat) : -2147483648 ≤ highN l n ∧ highN l n ≤ 2147483647 := by
  obtain ⟨i, _, e⟩ := highN_is l n
  rw [e]; exact h i
theorem low_high (l : List Int) : low l ≤ high l := Int.le_trans (lowN_le l _).1 (highN_le l _).1
/-- d divided by s, rounded up. -/
def up (d s : Int) : Int := if d / s * s < d then d / s + 1 else d / s
theorem up_yes {d s : Int} (h : d / s * s < d) : up d s = d / s + 1 := if_pos h
theorem up_no {d s : Int} (h : ¬ d / s * s < d) : up d s = d / s := if_neg h
theorem up_char {d s : Int} (hs : 0 < s) : d ≤ up d s * s ∧ (up d s - 1) * s < d := by
  have e := Int.mul_ediv_add_emod d s
  have r0 := Int.emod_nonneg d (show s ≠ 0 by omega)
  have r1 := Int.emod_lt_of_pos d hs
  obtain ⟨q, eq⟩ : ∃ q, d / s = q := ⟨_, rfl⟩
  rw [eq, Int.mul_comm] at e
  by_cases c : q * s < d
  · rw [up_yes (by rw [eq]; exact c), eq]
    have e1 : (q + 1) * s = q * s + s := by rw [Int.add_mul, Int.one_mul]
    have e2 : (q + 1 - 1) * s = q * s := by rw [show q + 1 - 1 = q by omega]
    omega
  · rw [up_no (by rw [eq]; exact c), eq]
    have e2 : (q - 1) * s = q * s - s := by rw [Int.sub_mul, Int.one_mul]
    omega
theorem up_uniq {d s m : Int} (hs : 0 < s) (h1 : d ≤ m * s) (h2 : (m - 1) * s < d) : up d s = m := by
  obtain ⟨a, b⟩ := up_char (d := d) hs
  obtain ⟨u, eu⟩ : ∃ u, up d s = u := ⟨_, rfl⟩
  rw [eu] at a b ⊢
  have c1 : (u - 1) * s < m * s := by omega
  have c2 : (m - 1) * s < u * s := by omega
  have d1 := Int.lt_of_mul_lt_mul_right c1 (by omega)
  have d2 := Int.lt_of_mul_lt_mul_right c2 (by omega)
  omega
theorem up_nonneg {d s : Int} (hs : 0 < s) (hd : 0 ≤ d) : 0 ≤ up d s := by
  have := Int.ediv_nonneg hd (show 0 ≤ s by omega)
  unfold up; split <;> omega
theorem up_le {d s : Int} (hs : 3 ≤ s) (hd : 0 ≤ d) (h : d ≤ 4294967295) : up d s ≤ 1431655765 := by
  have a := (up_char (d := d) (show 0 < s by omega)).2
  obtain ⟨u, eu⟩ : ∃ u, up d s = u := ⟨_, rfl⟩
  rw [eu] at a ⊢
  rcases Int.lt_or_le u 1 with c | c
  · omega
  · have : (u - 1) * 3 ≤ (u - 1) * s := Int.mul_le_mul_of_nonneg_left hs (by omega)
    omega
/-- The code of a number, at a zero and a scale. -/
def code (z sc x : Int) : Int := if 0 < sc then Fx.rnd (x - z) sc else 0
theorem code_yes {z sc x : Int} (h : 0 < sc) : code z sc x = Fx.rnd (x - z) sc := if_pos h
theorem code_no {z sc x : Int} (h : ¬ 0 < sc) : code z sc x = 0 := if_neg h
theorem code_in {z sc x s : Int} (hs : 0 ≤ s) (h0 : z ≤ x) (h1 : x - z ≤ sc * s) : 0 ≤ code z sc x ∧ code z sc x ≤ s := by
  unfold code
  split
  · rename_i h
    have a := Fx.rnd_mono 0 (x - z) sc h (by omega)
    have b := Fx.rnd_mono (x - z) (s * sc) sc h (by rw [Int.mul_comm]; exact h1)
    have e0 := Fx.rnd_mul 0 sc h
    rw [Int.zero_mul] at e0
    rw [e0] at a
    rw [Fx.rnd_mul s sc h] at b
    exact ⟨a, b⟩
  · exact ⟨Int.le_refl _, hs⟩
/-- What a code means. -/
def mean (z sc c : Int) : Int := Fx.cut (z + c * sc) (-2147483648) 2147483647
/-- The codes of numbers; what they mean. -/
def codes (z sc : Int) (l : List Int) : List Int := Ls.gen l.length fun i => code z sc (Ls.nth l i)
def means (z sc : Int) (c : List Int) : List Int := Ls.gen c.length fun i => mean z sc (Ls.nth c i)
theorem codes_length (z sc : Int) (l : List Int) : (codes z sc l).length = l.length := Ls.gen_length _ _
theorem nth_codes {z sc : Int} {l : List Int} {i : Nat} (h : i < l.length) : Ls.nth (codes z sc l) i = code z sc (Ls.nth l i) := Ls.nth_gen h
/-- The scale of numbers at s steps. -/
def scale (s : Int) (l : List Int) : Int := up (high l - low l) s
theorem spread_bd {l : List Int} (h : Ls.In32 l) : 0 ≤ high l - low l ∧ high l - low l ≤ 4294967295 := by
  have a := lowN_in h l.length
  have b := highN_in h l.length
  have c := low_high l
  unfold low high at *
  omega
theorem scale_bd {s : Int} {l : List Int} (h : Ls.In32 l) (hs : 3 ≤ s) : 0 ≤ scale s l ∧ scale s l ≤ 1431655765 :=
  ⟨up_nonneg (by omega) (spread_bd h).1, up_le hs (spread_bd h).1 (spread_bd h).2⟩
/-- What is grouped is right: each code from 0 to s; all 0 where the scale is. -/
theorem codes_right {s : Int} {l : List Int} (h : Ls.In32 l) (hs : 3 ≤ s) {i : Nat} (hi : i < l.length) : 0 ≤ Ls.nth (codes (low l) (scale s l) l) i ∧ Ls.nth (codes (low l) (scale s l) l) i ≤ s := by
  rw [nth_codes hi]
  have a := low_le hi
  have b := le_high hi
  have c := (up_char (d := high l - low l) (s := s) (by omega)).1
  exact code_in (by omega) a (by unfold scale; omega)
theorem codes_none {z sc : Int} {l : List Int} (h : sc = 0) {i : Nat} (hi : i < l.length) : Ls.nth (codes z sc l) i = 0 := by
  rw [nth_codes hi, code_no (by omega)]
/-- Divided, rounded up, by one division. -/
theorem up_div {d s : Int} (hs : 0 < s) : (d + s - 1) / s = up d s := by
  symm
  have e := Int.mul_ediv_add_emod (d + s - 1) s
  have r0 := Int.emod_nonneg (d + s - 1) (show s ≠ 0 by omega)
  have r1 := Int.emod_lt_of_pos (d + s - 1) hs
  obtain ⟨q, eq⟩ : ∃ q, (d + s - 1) / s = q := ⟨_, rfl⟩
  rw [eq, Int.mul_comm] at e
  rw [eq]
  apply up_uniq hs
  · omega
  · rw [Int.sub_mul, Int.one_mul]; omega
/-- Bits and the greatest code of so many. -/
def St (b s : Nat) : Prop := (b = 2 ∧ s = 3) ∨ (b = 4 ∧ s = 15) ∨ (b = 8 ∧ s = 255)
theorem St.bd {b s : Nat} (h : St b s) : 2 ≤ b ∧ b ≤ 8 ∧ 3 ≤ s ∧ s ≤ 255 := by rcases h with ⟨rfl, rfl⟩ | ⟨rfl, rfl⟩ | ⟨rfl, rfl⟩ <;> omega
/-- An error's number, of n codes of b bits. -/
def okB (b : Int) : Bool := b == 2 || b == 4 || b == 8
def many (n : Nat) (b : Int) : Int := if okB b = true then (if n = 0 then 14 else if 256 < n then 12 else 0) else 20
theorem okB_st {b s : Nat} (h : St b s) : okB (b : Int) = true := by rcases h with ⟨rfl, rfl⟩ | ⟨rfl, rfl⟩ | ⟨rfl, rfl⟩ <;> rfl
theorem many_none {b s : Nat} (h : St b s) : many 0 b = 14 := by unfold many; rw [if_pos (okB_st h), if_pos rfl]
theorem many_many {b s n : Nat} (h : St b s) (hn : 256 < n) : many n b = 12 := by unfold many; rw [if_pos (okB_st h), if_neg (by omega), if_pos hn]
theorem many_ok {b s n : Nat} (h : St b s) (h0 : 0 < n) (hn : n ≤ 256) : many n b = 0 := by unfold many; rw [if_pos (okB_st h), if_neg (by omega), if_neg (by omega)]
theorem many_bits {b : Int} (n : Nat) (h : ¬ b = 2 ∧ ¬ b = 4 ∧ ¬ b = 8) : many n b = 20 := by
  unfold many
  rw [if_neg]
  unfold okB
  simp [h.1, h.2.1, h.2.2]
theorem many_cases (n : Nat) (b : Int) : (¬ b = 2 ∧ ¬ b = 4 ∧ ¬ b = 8) ∨ (∃ m s : Nat, b = (m : Int) ∧ St m s) := by
  by_cases h1 : b = 2
  · exact Or.inr ⟨2, 3, h1, Or.inl ⟨rfl, rfl⟩⟩
  by_cases h2 : b = 4
  · exact Or.inr ⟨4, 15, h2, Or.inr (Or.inl ⟨rfl, rfl⟩)⟩
  by_cases h3 : b = 8
  · exact Or.inr ⟨8, 255, h3, Or.inr (Or.inr ⟨rfl, rfl⟩)⟩
  exact Or.inl ⟨h1, h2, h3⟩
/-- Are all codes 0? Are they codes of so many? -/
def nils (c : List Int) : Bool := decide (∀ i, i < c.length → Ls.nth c i = 0)
def fits (s : Int) (c : List Int) : Bool := decide (∀ i, i < c.length → 0 ≤ Ls.nth c i ∧ Ls.nth c i ≤ s)
theorem nils_yes {c : List Int} (h : ∀ i, i < c.length → Ls.nth c i = 0) : nils c = true := by unfold nils; simp only [decide_eq_true_eq]; exact h
theorem nils_no {c : List Int} {i : Nat} (hi : i < c.length) (h : ¬ Ls.nth c i = 0) : nils c = false := by unfold nils; simp only [decide_eq_false_iff_not]; exact fun g => h (g i hi)
theorem fits_yes {s : Int} {c : List Int} (h : ∀ i, i < c.length → 0 ≤ Ls.nth c i ∧ Ls.nth c i ≤ s) : fits s c = true := by unfold fits; simp only [decide_eq_true_eq]; exact h
theorem fits_no {s : Int} {c : List Int} {i : Nat} (hi : i < c.length) (h : ¬ (0 ≤ Ls.nth c i ∧ Ls.nth c i ≤ s)) : fits s c = false := by unfold fits; simp only [decide_eq_false_iff_not]; exact fun g => h (g i hi)
theorem fits_all {s : Int} {c : List Int} (h : fits s c = true) : ∀ i, i < c.length → 0 ≤ Ls.nth c i ∧ Ls.nth c i ≤ s := by unfold fits at h; simp only [decide_eq_true_eq] at h; exact h
/-- May a group be? An error's number (of as many codes as may be). -/
def right (s sc : Int) (c : List Int) : Int := if 1431655765 < sc then 21 else if sc = 0 ∧ nils c = false then 21 else if fits s c = true then 0 else 11
theorem right_big {s sc : Int} {c : List Int} (h : 1431655765 < sc) : right s sc c = 21 := if_pos h
theorem right_nil {s sc : Int} {c : List Int} (h : sc = 0) (hn : nils c = false) : right s sc c = 21 := by unfold right; rw [if_neg (by omega), if_pos ⟨h, hn⟩]
theorem right_no {s sc : Int} {c : List Int} (h : ¬ 1431655765 < sc) (h0 : sc = 0 → nils c = true) (hf : fits s c = false) : right s sc c = 11 := by
  unfold right
  rw [if_neg h, if_neg, if_neg (by rw [hf]; exact Bool.false_ne_true)]
  rintro ⟨a, b⟩
  rw [h0 a] at b
  cases b
theorem right_yes {s sc : Int} {c : List Int} (h : ¬ 1431655765 < sc) (h0 : sc = 0 → nils c = true) (hf : fits s c = true) : right s sc c = 0 := by
  unfold right
  rw [if_neg h, if_neg, if_pos hf]
  rintro ⟨a, b⟩
  rw [h0 a] at b
  cases b
/-- A right group, its codes and its scale. -/
theorem right_zero {s sc : Int} {c : List Int} (h : right s sc c = 0) : sc ≤ 1431655765 ∧ (sc = 0 → nils c = true) ∧ fits s c = true := by
  unfold right at h
  split at h
  · cases h
  · split at h
    · cases h
    · rename_i h1 h2
      split at h
      · rename_i h3
        refine ⟨by omega, fun e => ?_, h3⟩
        cases hn : nils c
        · exact absurd ⟨e, hn⟩ h2
        · rfl
      · cases h
theorem grouped_right {s : Int} {l : List Int} (h : Ls.In32 l) (hs : 3 ≤ s) : right s (scale s l) (codes (low l) (scale s l) l) = 0 := by
  have b := scale_bd h hs
  refine right_yes (by omega) (fun e => nils_yes fun i hi => ?_) (fits_yes fun i hi => ?_)
  · rw [codes_length] at hi; exact codes_none e hi
  · rw [codes_length] at hi; exact codes_right h hs hi
end Gp
end Go.Proofs.YtnchnlgnnlgjcaaGreat
namespace Go.Proofs.YtnchnlgnnlgjcaaGreat
set_option linter.unusedVariables false
namespace Pk
/-- May codes have so many bits? -/
def Ok (b : Nat) : Prop := b = 2 ∨ b = 4 ∨ b = 8
/-- The word that the code i is in, and the bit from which on. -/
def word (b i : Nat) : Nat := i / (64 / b)
def shift (b i : Nat) : Nat := i % (64 / b) * b
/-- How many words n codes have. -/
def size (b n : Nat) : Nat := (n * b + 63) / 64
theorem shift_le {b : Nat} (i : Nat) (h : Ok b) : shift b i + b ≤ 64 := by
  unfold shift; rcases h with rfl | rfl | rfl <;> simp only [Nat.reduceDiv] <;> omega
theorem next {b : Nat} (i : Nat) (h : Ok b) : (word b (i + 1) = word b i ∧ shift b (i + 1) = shift b i + b) ∨ (word b (i + 1) = word b i + 1 ∧ shift b (i + 1) = 0 ∧ shift b i + b = 64) := by
  unfold word shift; rcases h with rfl | rfl | rfl <;> simp only [Nat.reduceDiv] <;> omega
theorem word_same {b i n : Nat} (h : Ok b) (hi : i < n) (hw : word b n = word b i) : shift b i + b ≤ shift b n := by
  unfold word shift at *; rcases h with rfl | rfl | rfl <;> simp only [Nat.reduceDiv] at * <;> omega
theorem word_size {b i n : Nat} (h : Ok b) (hi : i < n) : word b i < size b n := by
  unfold word size; rcases h with rfl | rfl | rfl <;> simp only [Nat.reduceDiv] <;> omega
theorem size_le {b n : Nat} (h : Ok b) (hn : n ≤ 256) : size b n ≤ 32 := by
  unfold size; rcases h with rfl | rfl | rfl <;> omega
/-- All codes are of b bits. -/
def Cds (b : Nat) (l : List Int) : Prop := ∀ i, 0 ≤ Ls.nth l i ∧ (Ls.nth l i).toNat < 2 ^ b
/-- All words are of 64 bits. -/
def Wds (l : List Int) : Prop := ∀ i, 0 ≤ Ls.nth l i ∧ Ls.nth l i < 18446744073709551616
/-- Are all codes of b bits? -/
def cds (b : Nat) (l : List Int) : Bool := decide (∀ i, i < l.length → 0 ≤ Ls.nth l i ∧ Ls.nth l i < ((2 ^ b : Nat) : Int))
/-- What is told of codes of b bits, at most 256 of them: 11, if one isn't, else 0. -/
def right (b : Nat) (l : List Int) : Int := if cds b l = true then 0 else 11
theorem right_yes {b : Nat} {l : List Int} (h : cds b l = true) : right b l = 0 := by unfold right; rw [if_pos h]
theorem right_no {b : Nat} {l : List Int} (h : cds b l = false) : right b l = 11 := by unfold right; rw [h]; rfl
/-- The word t of the first n codes. -/
def acc (b : Nat) (l : List Int) (t : Nat) : Nat → Nat
  | 0 => 0
  | n + 1 => acc b l t n + if word b n = t then (Ls.nth l n).toNat * 2 ^ shift b n else 0
theorem acc_here {b : Nat} {l : List Int} {t n : Nat} (h : word b n = t) : acc b l t (n + 1) = acc b l t n + (Ls.nth l n).toNat * 2 ^ shift b n := by simp only [acc]; rw [if_pos h]
theorem acc_else {b : Nat} {l : List Int} {t n : Nat} (h : ¬ word b n = t) : acc b l t (n + 1) = acc b l t n := by simp only [acc]; rw [if_neg h]; rfl
theorem two_le {s t : Nat} (h : s ≤ t) : 2 ^ s ≤ 2 ^ t := Nat.pow_le_pow_right (by omega) h
theorem two_64 : 2 ^ 64 = 18446744073709551616 := by decide
/-- A number of b bits on top of one below 2^s. -/
theorem on_top {a c b s : Nat} (ha : a < 2 ^ s) (hc : c < 2 ^ b) : a + c * 2 ^ s < 2 ^ (s + b) := by
  have h1 : (c + 1) * 2 ^ s ≤ 2 ^ b * 2 ^ s := Nat.mul_le_mul_right _ hc
  rw [Nat.add_mul, Nat.one_mul] at h1
  rw [Nat.pow_add, Nat.mul_comm (2 ^ s)]
  omega
theorem acc_low {b : Nat} {l : List Int} (t n : Nat) (h : Ok b) (hc : Cds b l) : (word b n < t → acc b l t n = 0) ∧ (word b n = t → acc b l t n < 2 ^ shift b n) ∧ acc b l t n < 2 ^ 64 := by
  induction n with
  | zero => exact ⟨fun _ => rfl, fun _ => Nat.two_pow_pos _, Nat.two_pow_pos _⟩
  | succ n ih =>
    obtain ⟨i1, i2, i3⟩ := ih
    have hn := next n h
    have hs := shift_le n h
    by_cases e : word b n = t
    · rw [acc_here e]
      have ht := on_top (i2 e) (hc n).2
      have h64 : 2 ^ (shift b n + b) ≤ 2 ^ 64 := two_le hs
      refine ⟨fun _ => by omega, fun e2 => ?_, by omega⟩
      rcases hn with ⟨_, e3⟩ | ⟨e3, _⟩
      · rw [e3]; exact ht
      · omega
    · rw [acc_else e]
      by_cases e2 : word b n < t
      · rw [i1 e2]
        exact ⟨fun _ => rfl, fun _ => Nat.two_pow_pos _, Nat.two_pow_pos _⟩
      · exact ⟨fun _ => by omega, fun _ => by omega, i3⟩
/-- The code i of words. -/
def lane (b : Nat) (ws : List Int) (i : Nat) : Nat := (Ls.nth ws (word b i)).toNat / 2 ^ shift b i % 2 ^ b
theorem acc_lane {b : Nat} {l : List Int} {i n : Nat} (h : Ok b) (hc : Cds b l) (hi : i < n) : acc b l (word b i) n / 2 ^ shift b i % 2 ^ b = (Ls.nth l i).toNat := by
  induction n with
  | zero => omega
  | succ n ih =>
    have p := Nat.two_pow_pos (shift b i)
    by_cases e : i = n
    · subst e
      rw [acc_here rfl, Nat.add_mul_div_right _ _ p, Nat.div_eq_of_lt ((acc_low _ _ h hc).2.1 rfl), Nat.zero_add, Nat.mod_eq_of_lt (hc i).2]
    · have hi2 : i < n := by omega
      by_cases e2 : word b n = word b i
      · rw [acc_here e2]
        have hs := word_same h hi2 e2
        have e3 : (Ls.nth l n).toNat * 2 ^ shift b n = (Ls.nth l n).toNat * 2 ^ (shift b n - shift b i - b) * 2 ^ b * 2 ^ shift b i := by
          rw [Nat.mul_assoc, Nat.mul_assoc, ← Nat.pow_add, ← Nat.pow_add]
          congr 2; omega
        rw [e3, Nat.add_mul_div_right _ _ p, Nat.add_mul_mod_self_right]
        exact ih hi2
      · rw [acc_else e2]; exact ih hi2
def pack (b : Nat) (l : List Int) : List Int := Ls.gen (size b l.length) fun t => (acc b l t l.length : Int)
theorem pack_length (b : Nat) (l : List Int) : (pack b l).length = size b l.length := Ls.gen_length _ _
theorem nth_pack {b t : Nat} {l : List Int} (h : t < size b l.length) : Ls.nth (pack b l) t = (acc b l t l.length : Int) := Ls.nth_gen h
theorem pack_wds {b : Nat} {l : List Int} (h : Ok b) (hc : Cds b l) : Wds (pack b l) := by
  intro i
  by_cases hi : i < size b l.length
  · rw [nth_pack hi]
    have := (acc_low i l.length h hc).2.2
    rw [two_64] at this
    omega
  · rw [Ls.nth_past (by rw [pack_length]; omega)]; omega
theorem lane_pack {b i : Nat} {l : List Int} (h : Ok b) (hc : Cds b l) (hi : i < l.length) : (lane b (pack b l) i : Int) = Ls.nth l i := by
  unfold lane
  rw [nth_pack (word_size h hi), Int.toNat_natCast, acc_lane h hc hi]
  have := (hc i).1
  omega
end Pk
end Go.Proofs.YtnchnlgnnlgjcaaGreat
namespace Go.Proofs.YtnchnlgnnlgjcaaGreat
set_option linter.unusedVariables false
namespace Sl
/-- The sum goes on by one byte. -/
def step (h c : Nat) : Nat := (h ^^^ c) * 16777619 % 4294967296
/-- The sum of the first n bytes. -/
def sumN (l : List Int) : Nat → Nat
  | 0 => 2166136261
  | n + 1 => step (sumN l n) (Ls.nth l n).toNat
def sum (l : List Int) : Nat := sumN l l.length
/-- The lowest n bytes of a number, the highest first. -/
def be (n v : Nat) : List Int := Ls.gen n fun i => ((v / 256 ^ (n - 1 - i) % 256 : Nat) : Int)
/-- Bytes with their sum behind them. -/
def close (l : List Int) : List Int := l ++ be 4 (sum l)
end Sl
end Go.Proofs.YtnchnlgnnlgjcaaGreat
