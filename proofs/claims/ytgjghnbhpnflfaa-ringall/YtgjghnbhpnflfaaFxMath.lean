/- Plain arithmetic of package fix: cutting to a range and rounding a fraction, of two as near the even one. No Go text in it. -/
namespace Go.Proofs.Ytgjghnbhpnflfaa
set_option linter.unusedVariables false
namespace Fx

/-- To cut to a range. -/
def cut (v lo hi : Int) : Int := if v < lo then lo else if hi < v then hi else v

/-- Of a whole part and a rest below the divisor: the nearest whole number, of two as near the even one. -/
def near (q r b : Int) : Int := if b - r < r then q + 1 else if r = b - r then (if q % 2 = 0 then q else q + 1) else q
/-- A fraction rounded. -/
def rnd (a b : Int) : Int := near (a / b) (a % b) b

theorem near_up {q r b : Int} (h : b - r < r) : near q r b = q + 1 := by simp [near, h]
theorem near_even {q r b : Int} (h1 : ¬ b - r < r) (h2 : r = b - r) (h3 : q % 2 = 0) : near q r b = q := by unfold near; rw [if_neg h1, if_pos h2, if_pos h3]
theorem near_odd {q r b : Int} (h1 : ¬ b - r < r) (h2 : r = b - r) (h3 : ¬ q % 2 = 0) : near q r b = q + 1 := by unfold near; rw [if_neg h1, if_pos h2, if_neg h3]
theorem near_down {q r b : Int} (h1 : ¬ b - r < r) (h2 : ¬ r = b - r) : near q r b = q := by unfold near; rw [if_neg h1, if_neg h2]
theorem near_bd (q r b : Int) : q ≤ near q r b ∧ near q r b ≤ q + 1 := by
  unfold near
  split
  · omega
  · split
    · split <;> omega
    · omega

theorem cut_lo {v lo hi : Int} (h : v < lo) : cut v lo hi = lo := by simp [cut, h]
theorem cut_hi {v lo hi : Int} (h1 : ¬ v < lo) (h : hi < v) : cut v lo hi = hi := by simp [cut, h, h1]
theorem cut_in {v lo hi : Int} (h1 : ¬ v < lo) (h : ¬ hi < v) : cut v lo hi = v := by simp [cut, h, h1]
theorem cut_bd {v lo hi : Int} (h : lo ≤ hi) : lo ≤ cut v lo hi ∧ cut v lo hi ≤ hi := by
  unfold cut; split
  · omega
  · split <;> omega

theorem rnd_bd (a b : Int) : a / b ≤ rnd a b ∧ rnd a b ≤ a / b + 1 := near_bd _ _ _

theorem div_bd (a b L : Int) (hb : 0 < b) (h1 : -L ≤ a) (h2 : a ≤ L) (hL : 0 ≤ L) : -L ≤ a / b ∧ a / b ≤ L := by
  have e := Int.mul_ediv_add_emod a b
  have h0 := Int.emod_nonneg a (show b ≠ 0 by omega)
  have h3 := Int.emod_lt_of_pos a hb
  generalize a / b = q at *
  generalize a % b = r at *
  constructor
  · refine Int.le_of_not_gt fun hq => ?_
    have : b * q ≤ b * (-L - 1) := Int.mul_le_mul_of_nonneg_left (by omega) (by omega)
    have h5 : b * (-L - 1) = b * (-L) - b := by rw [Int.mul_sub]; omega
    have h6 : b * (-L) ≤ 1 * (-L) := by
      have : 1 * L ≤ b * L := Int.mul_le_mul_of_nonneg_right (by omega) hL
      rw [Int.mul_neg, Int.mul_neg]; omega
    omega
  · refine Int.le_of_not_gt fun hq => ?_
    have : b * (L + 1) ≤ b * q := Int.mul_le_mul_of_nonneg_left (by omega) (by omega)
    have h5 : b * (L + 1) = b * L + b := by rw [Int.mul_add]; omega
    have h6 : 1 * L ≤ b * L := Int.mul_le_mul_of_nonneg_right (by omega) hL
    omega

theorem pow_pos (k : Nat) : (0 : Int) < 2 ^ k := by
  have h : 0 < 2 ^ k := Nat.two_pow_pos k
  exact_mod_cast h
theorem pow_le {k m : Nat} (h : k ≤ m) : (2 : Int) ^ k ≤ 2 ^ m := by
  have h : 2 ^ k ≤ 2 ^ m := Nat.pow_le_pow_right (by omega) h
  exact_mod_cast h
theorem pow_62 {k : Nat} (h : k ≤ 62) : (2 : Int) ^ k ≤ 4611686018427387904 := pow_le h
theorem div_mul (a b : Int) : a / b * b = a - a % b := by
  have e := Int.mul_ediv_add_emod a b
  rw [Int.mul_comm] at e
  omega
/-- Go's division of a number below 0: towards 0. -/
theorem tdiv_neg {a b : Int} (ha : a < 0) (hb : 0 < b) : (a.tmod b = 0 ∧ a % b = 0 ∧ a.tdiv b = a / b) ∨ (a.tmod b < 0 ∧ a % b = a.tmod b + b ∧ a.tdiv b = a / b + 1) := by
  have hs : b.sign = 1 := Int.sign_eq_one_of_pos hb
  have hn : (b.natAbs : Int) = b := by omega
  have h0 := Int.emod_nonneg a (show b ≠ 0 by omega)
  have h1 := Int.emod_lt_of_pos a hb
  have e1 := Int.tdiv_eq_ediv (a := a) (b := b)
  have e2 := Int.tmod_eq_emod (a := a) (b := b)
  by_cases hd : b ∣ a
  · left
    rw [if_pos (Or.inr hd)] at e1 e2
    have : a % b = 0 := Int.emod_eq_zero_of_dvd hd
    omega
  · right
    have hne : ¬ (0 ≤ a ∨ b ∣ a) := by
      intro h; rcases h with h | h
      · omega
      · exact hd h
    rw [if_neg hne] at e1 e2
    omega
theorem tmod_two (q : Int) : (q.tmod 2 = 0 ↔ q % 2 = 0) := by
  have e2 := Int.tmod_eq_emod (a := q) (b := 2)
  split at e2 <;> omega

theorem quo_half (a b : Int) (h2 : a ≤ 9223372036854775807) (hb : 0 < b) : b ≤ 1 ∨ a / b ≤ 4611686018427387904 := by
  by_cases hz : b ≤ 1
  · exact Or.inl hz
  · right
    have e := div_mul a b
    have h0 := Int.emod_nonneg a (show b ≠ 0 by omega)
    refine Int.le_of_not_gt fun hq => ?_
    have h3 : 4611686018427387905 * b ≤ a / b * b := Int.mul_le_mul_of_nonneg_right (by omega) (by omega)
    omega
theorem quo_bd (a b : Int) (h1 : -9223372036854775808 ≤ a) (h2 : a ≤ 9223372036854775807) (hb : 0 < b) : -9223372036854775808 ≤ a / b ∧ a / b ≤ 9223372036854775807 := by
  have q0 := div_bd a b 9223372036854775808 hb (by omega) (by omega) (by omega)
  refine ⟨q0.1, ?_⟩
  rcases quo_half a b h2 hb with h | h
  · have e3 : b = 1 := by omega
    rw [e3, Int.ediv_one]; omega
  · omega
theorem quo_neg (a b : Int) (ha : a < 0) (hb : 0 < b) : a / b ≤ -1 := by
  have := Int.ediv_neg_of_neg_of_pos ha hb
  omega

/-- Two numbers of 32 bits: their product is within 62 bits. -/
theorem mul_bd (a b : Int) (h1 : -2147483648 ≤ a) (h2 : a ≤ 2147483647) (h3 : -2147483648 ≤ b) (h4 : b ≤ 2147483647) : -4611686018427387904 ≤ a * b ∧ a * b ≤ 4611686018427387904 := by
  have e1 : (a + 2147483648) * (b + 2147483648) = a * b + 2147483648 * a + 2147483648 * b + 4611686018427387904 := by
    rw [Int.add_mul, Int.mul_add, Int.mul_add]; omega
  have e2 : (2147483648 - a) * (2147483648 - b) = a * b - 2147483648 * a - 2147483648 * b + 4611686018427387904 := by
    rw [Int.sub_mul, Int.mul_sub, Int.mul_sub]; omega
  have e3 : (a + 2147483648) * (2147483648 - b) = 2147483648 * a - a * b - 2147483648 * b + 4611686018427387904 := by
    rw [Int.add_mul, Int.mul_sub, Int.mul_sub]; omega
  have e4 : (2147483648 - a) * (b + 2147483648) = 2147483648 * b - a * b - 2147483648 * a + 4611686018427387904 := by
    rw [Int.sub_mul, Int.mul_add, Int.mul_add]; omega
  have p1 : 0 ≤ (a + 2147483648) * (b + 2147483648) := Int.mul_nonneg (by omega) (by omega)
  have p2 : 0 ≤ (2147483648 - a) * (2147483648 - b) := Int.mul_nonneg (by omega) (by omega)
  have p3 : 0 ≤ (a + 2147483648) * (2147483648 - b) := Int.mul_nonneg (by omega) (by omega)
  have p4 : 0 ≤ (2147483648 - a) * (b + 2147483648) := Int.mul_nonneg (by omega) (by omega)
  omega

/-- The product, divided by 2^16, rounded, cut to the wide range. -/
def mul (a b : Int) : Int := cut (rnd (a * b) 65536) (-2147483648) 2147483647
/-- a times 2^16, divided by b, rounded, cut so; by 0: the end on a's side, or 0. -/
def div (a b : Int) : Int :=
  if b = 0 then cut (a * 4294967296) (-2147483648) 2147483647
  else if b < 0 then cut (rnd (a * -65536) (-b)) (-2147483648) 2147483647
  else cut (rnd (a * 65536) b) (-2147483648) 2147483647
def of (n : Int) : Int := cut (n * 65536) (-2147483648) 2147483647

/-- What is rounded is no further from the fraction than a half; where it is just a half, it is even. -/
theorem rnd_char (a b : Int) (hb : 0 < b) : -b ≤ 2 * (a - rnd a b * b) ∧ 2 * (a - rnd a b * b) ≤ b ∧ ((2 * (a - rnd a b * b) = b ∨ 2 * (a - rnd a b * b) = -b) → rnd a b % 2 = 0) := by
  have e := div_mul a b
  have h0 := Int.emod_nonneg a (show b ≠ 0 by omega)
  have h1 := Int.emod_lt_of_pos a hb
  unfold rnd
  generalize a / b = q at *
  generalize a % b = r at *
  have e1 : (q + 1) * b = q * b + b := by rw [Int.add_mul]; omega
  by_cases c1 : b - r < r
  · rw [near_up c1, e1]; omega
  · by_cases c2 : r = b - r
    · by_cases c3 : q % 2 = 0
      · rw [near_even c1 c2 c3]; omega
      · rw [near_odd c1 c2 c3, e1]; omega
    · rw [near_down c1 c2]; omega

/-- Rounding never falls. -/
theorem rnd_mono (a c b : Int) (hb : 0 < b) (h : a ≤ c) : rnd a b ≤ rnd c b := by
  have h1 := rnd_char a b hb
  have h2 := rnd_char c b hb
  generalize rnd a b = m at *
  generalize rnd c b = k at *
  refine Int.le_of_not_gt fun hk => ?_
  have e : m * b = k * b + (m - k) * b := by rw [← Int.add_mul]; congr 1; omega
  by_cases hd : m - k = 1
  · rw [hd] at e
    omega
  · have : 2 * b ≤ (m - k) * b := Int.mul_le_mul_of_nonneg_right (by omega) (by omega)
    omega

/-- It is the only such number. -/
theorem rnd_uniq (a b m : Int) (hb : 0 < b) (h1 : -b ≤ 2 * (a - m * b)) (h2 : 2 * (a - m * b) ≤ b) (h3 : (2 * (a - m * b) = b ∨ 2 * (a - m * b) = -b) → m % 2 = 0) : rnd a b = m := by
  have h := rnd_char a b hb
  generalize rnd a b = k at *
  have e : k * b = m * b + (k - m) * b := by rw [← Int.add_mul]; congr 1; omega
  by_cases hd : k - m = 0
  · omega
  · exfalso
    by_cases hd1 : k - m = 1
    · rw [hd1] at e; omega
    · by_cases hd2 : k - m = -1
      · rw [hd2] at e; omega
      · by_cases hp : 0 < k - m
        · have : 2 * b ≤ (k - m) * b := Int.mul_le_mul_of_nonneg_right (by omega) (by omega)
          omega
        · have : (k - m) * b ≤ -2 * b := Int.mul_le_mul_of_nonneg_right (by omega) (by omega)
          omega

/-- Rounding is odd. -/
theorem rnd_neg (a b : Int) (hb : 0 < b) : rnd (-a) b = - rnd a b := by
  have h := rnd_char a b hb
  generalize rnd a b = k at *
  have e : -k * b = -(k * b) := by rw [Int.neg_mul]
  exact rnd_uniq (-a) b (-k) hb (by omega) (by omega) (by omega)

theorem rnd_mul (m b : Int) (hb : 0 < b) : rnd (m * b) b = m :=
  rnd_uniq (m * b) b m hb (by omega) (by omega) (by omega)

theorem mul_one (a : Int) (h1 : -2147483648 ≤ a) (h2 : a ≤ 2147483647) : mul a 65536 = a := by
  unfold mul; rw [rnd_mul _ _ (by omega), cut_in (by omega) (by omega)]
theorem div_one (a : Int) (h1 : -2147483648 ≤ a) (h2 : a ≤ 2147483647) : div a 65536 = a := by
  unfold div; rw [if_neg (by omega), if_neg (by omega), rnd_mul _ _ (by omega), cut_in (by omega) (by omega)]
theorem mul_comm (a b : Int) : mul a b = mul b a := by unfold mul; rw [Int.mul_comm]
theorem mul_whole (n m : Int) : mul (n * 65536) (m * 65536) = of (n * m) := by
  unfold mul of
  have e : n * 65536 * (m * 65536) = n * m * 65536 * 65536 := by
    rw [← Int.mul_assoc, Int.mul_assoc n 65536 m, Int.mul_comm 65536 m, ← Int.mul_assoc]
  rw [e, rnd_mul _ _ (by omega)]
theorem mul_bd_of (a b L : Int) (hL : 0 ≤ L) (h1 : -L ≤ a) (h2 : a ≤ L) (h3 : -L ≤ b) (h4 : b ≤ L) : -(L * L) ≤ a * b ∧ a * b ≤ L * L := by
  have e1 : (a + L) * (b + L) = a * b + L * a + L * b + L * L := by
    rw [Int.add_mul, Int.mul_add, Int.mul_add, Int.mul_comm a L]; omega
  have e2 : (L - a) * (L - b) = a * b - L * a - L * b + L * L := by
    rw [Int.sub_mul, Int.mul_sub, Int.mul_sub, Int.mul_comm a L]; omega
  have e3 : (a + L) * (L - b) = L * a - a * b - L * b + L * L := by
    rw [Int.add_mul, Int.mul_sub, Int.mul_sub, Int.mul_comm a L]; omega
  have e4 : (L - a) * (b + L) = L * b - a * b - L * a + L * L := by
    rw [Int.sub_mul, Int.mul_add, Int.mul_add, Int.mul_comm a L]; omega
  have p1 : 0 ≤ (a + L) * (b + L) := Int.mul_nonneg (by omega) (by omega)
  have p2 : 0 ≤ (L - a) * (L - b) := Int.mul_nonneg (by omega) (by omega)
  have p3 : 0 ≤ (a + L) * (L - b) := Int.mul_nonneg (by omega) (by omega)
  have p4 : 0 ≤ (L - a) * (b + L) := Int.mul_nonneg (by omega) (by omega)
  omega
theorem of_hi {n : Int} (h : 32767 < n) : of n = 2147483647 := by unfold of; rw [cut_hi (by omega) (by omega)]
theorem of_lo {n : Int} (h : n < -32768) : of n = -2147483648 := by unfold of; rw [cut_lo (by omega)]
theorem of_in {n : Int} (h : -32768 ≤ n) (h2 : n ≤ 32767) : of n = n * 65536 := by unfold of; rw [cut_in (by omega) (by omega)]

theorem rnd_one (a : Int) : rnd a 1 = a := by
  have := rnd_mul a 1 (by omega)
  rwa [Int.mul_one] at this
/-- Between two numbers of 64 bits the rounded one is, too. -/
theorem rnd_in (a b : Int) (hb : 0 < b) (h1 : -9223372036854775807 ≤ a) (h2 : a ≤ 9223372036854775807) : -9223372036854775807 ≤ rnd a b ∧ rnd a b ≤ 9223372036854775807 := by
  have h := rnd_char a b hb
  have h0 := h.1
  have h3 := h.2.1
  clear h
  generalize rnd a b = k at *
  constructor
  · refine Int.le_of_not_gt fun hk => ?_
    have : k * b ≤ -9223372036854775808 * b := Int.mul_le_mul_of_nonneg_right (by omega) (by omega)
    omega
  · refine Int.le_of_not_gt fun hk => ?_
    have : 9223372036854775808 * b ≤ k * b := Int.mul_le_mul_of_nonneg_right (by omega) (by omega)
    omega
end Fx
end Go.Proofs.Ytgjghnbhpnflfaa
