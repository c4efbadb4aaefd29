/- Plain arithmetic of package expo: powers by a polynomial of the third degree, roots of whole numbers. No Go text in it. -/
import Derived.Test.YtpifemahakbegaaFxMath
namespace Go.Proofs.Ytpifemahakbegaa
set_option linter.unusedVariables false
namespace Ex

def pa (f : Int) : Int := 14743 + f * 5180 / 65536
def pb (f : Int) : Int := 45613 + f * pa f / 65536
/-- 2 to the f-th of 65536, by the polynomial. -/
def poly (f : Int) : Int := 65536 + f * pb f / 65536

theorem pa_bd {f : Int} (h0 : 0 ≤ f) (h1 : f ≤ 65535) : 14743 ≤ pa f ∧ pa f ≤ 19922 := by unfold pa; omega
theorem pa_mono {a b : Int} (h : a ≤ b) : pa a ≤ pa b := by unfold pa; omega
theorem pb_in {f : Int} (h0 : 0 ≤ f) (h1 : f ≤ 65535) : 0 ≤ f * pa f ∧ f * pa f ≤ 1305588270 := by
  have b := pa_bd h0 h1
  have e1 : f * pa f ≤ 65535 * 19922 := Int.mul_le_mul h1 b.2 (by omega) (by omega)
  have e0 : 0 ≤ f * pa f := Int.mul_nonneg h0 (by omega)
  omega
theorem pb_bd {f : Int} (h0 : 0 ≤ f) (h1 : f ≤ 65535) : 45613 ≤ pb f ∧ pb f ≤ 65534 := by
  have b := pb_in h0 h1
  unfold pb
  omega
theorem pb_mono {a b : Int} (h0 : 0 ≤ a) (h : a ≤ b) (h1 : b ≤ 65535) : pb a ≤ pb b := by
  have ba := pa_bd h0 (by omega)
  have e1 : a * pa a ≤ b * pa b := Int.mul_le_mul h (pa_mono h) (by omega) (by omega)
  unfold pb
  omega
theorem poly_in {f : Int} (h0 : 0 ≤ f) (h1 : f ≤ 65535) : 0 ≤ f * pb f ∧ f * pb f ≤ 4294770690 := by
  have b := pb_bd h0 h1
  have e1 : f * pb f ≤ 65535 * 65534 := Int.mul_le_mul h1 b.2 (by omega) (by omega)
  have e0 : 0 ≤ f * pb f := Int.mul_nonneg h0 (by omega)
  omega
theorem poly_bd {f : Int} (h0 : 0 ≤ f) (h1 : f ≤ 65535) : 65536 ≤ poly f ∧ poly f ≤ 131069 := by
  have b := poly_in h0 h1
  unfold poly
  omega
theorem poly_mono {a b : Int} (h0 : 0 ≤ a) (h : a ≤ b) (h1 : b ≤ 65535) : poly a ≤ poly b := by
  have ba := pb_bd h0 (show a ≤ 65535 by omega)
  have e1 : a * pb a ≤ b * pb b := Int.mul_le_mul h (pb_mono h0 h h1) (by omega) (by omega)
  unfold poly
  omega
theorem poly_step {f : Int} (h0 : 0 ≤ f) (h1 : f ≤ 65534) : poly (f + 1) ≤ poly f + 3 := by
  have a1 : pa (f + 1) ≤ pa f + 1 := by unfold pa; omega
  have ab := pa_bd h0 (show f ≤ 65535 by omega)
  have ac := pa_bd (f := f + 1) (by omega) (by omega)
  have m1 : (f + 1) * pa (f + 1) ≤ (f + 1) * (pa f + 1) := Int.mul_le_mul_of_nonneg_left a1 (by omega)
  have e1 : (f + 1) * (pa f + 1) = f * pa f + f + pa f + 1 := by rw [Int.add_mul, Int.mul_add]; omega
  have b1 : pb (f + 1) ≤ pb f + 2 := by unfold pb; omega
  have bb := pb_bd h0 (show f ≤ 65535 by omega)
  have m2 : (f + 1) * pb (f + 1) ≤ (f + 1) * (pb f + 2) := Int.mul_le_mul_of_nonneg_left b1 (by omega)
  have e2 : (f + 1) * (pb f + 2) = f * pb f + f * 2 + pb f + 2 := by rw [Int.add_mul, Int.mul_add]; omega
  unfold poly
  omega
theorem poly_zero : poly 0 = 65536 := by decide

/-- The power at an exponent t of 65536 to the base 2 that isn't above 0. -/
def pow (t : Int) : Int := if 62 < -(t / 65536) then 0 else Fx.rnd (poly (t % 65536)) (2 ^ (-(t / 65536)).toNat)
/-- The power of a number; of one above 0 that of 0. -/
def exp (x : Int) : Int := if 0 < x then pow 0 else pow (Fx.rnd (x * 94548) 65536)

theorem pow_zero : pow 0 = 65536 := by decide
theorem pow_low {t : Int} (h : 62 < -(t / 65536)) : pow t = 0 := by unfold pow; rw [if_pos h]
theorem pow_in {t : Int} (h : ¬ 62 < -(t / 65536)) : pow t = Fx.rnd (poly (t % 65536)) (2 ^ (-(t / 65536)).toNat) := by unfold pow; rw [if_neg h]

theorem rnd_nonneg (a b : Int) (hb : 0 < b) (ha : 0 ≤ a) : 0 ≤ Fx.rnd a b := by
  have h := Fx.rnd_mono 0 a b hb ha
  have e := Fx.rnd_mul 0 b hb
  rw [Int.zero_mul] at e
  omega
theorem rnd_scale (a b c : Int) (hb : 0 < b) (hc : 0 < c) : Fx.rnd (a * c) (b * c) = Fx.rnd a b := by
  have h := Fx.rnd_char a b hb
  generalize Fx.rnd a b = k at *
  obtain ⟨h1, h2, h3⟩ := h
  have hbc : 0 < b * c := Int.mul_pos hb hc
  have e : 2 * (a * c - k * (b * c)) = (2 * (a - k * b)) * c := by
    rw [← Int.mul_assoc, ← Int.sub_mul, Int.mul_assoc]
  have en : -(b * c) = (-b) * c := by rw [Int.neg_mul]
  refine Fx.rnd_uniq (a * c) (b * c) k hbc ?_ ?_ ?_
  · rw [e, en]; exact Int.mul_le_mul_of_nonneg_right h1 (by omega)
  · rw [e]; exact Int.mul_le_mul_of_nonneg_right h2 (by omega)
  · rw [e, en]
    intro h
    apply h3
    rcases h with h | h
    · exact Or.inl (Int.eq_of_mul_eq_mul_right (by omega) h)
    · exact Or.inr (Int.eq_of_mul_eq_mul_right (by omega) h)

theorem pow_nonneg (t : Int) : 0 ≤ pow t := by
  by_cases h : 62 < -(t / 65536)
  · rw [pow_low h]; omega
  · rw [pow_in h]
    have b := poly_bd (f := t % 65536) (by omega) (by omega)
    exact rnd_nonneg _ _ (Fx.pow_pos _) (by omega)

theorem pow_mono {s t : Int} (h : s ≤ t) (h0 : t ≤ 0) : pow s ≤ pow t := by
  by_cases hs : 62 < -(s / 65536)
  · rw [pow_low hs]; exact pow_nonneg t
  · have ht : ¬ 62 < -(t / 65536) := by omega
    rw [pow_in hs, pow_in ht]
    by_cases hn : s / 65536 = t / 65536
    · rw [hn]
      exact Fx.rnd_mono _ _ _ (Fx.pow_pos _) (poly_mono (by omega) (by omega) (by omega))
    · have bs := poly_bd (f := s % 65536) (by omega) (by omega)
      have bt := poly_bd (f := t % 65536) (by omega) (by omega)
      have hk : (-(s / 65536)).toNat = (-(t / 65536)).toNat + ((t / 65536 - s / 65536).toNat - 1 + 1) := by omega
      rw [hk, Int.pow_add]
      generalize (t / 65536 - s / 65536).toNat - 1 = d
      have p0 := Fx.pow_pos d
      have pd := Fx.pow_pos (d + 1)
      rw [← rnd_scale (poly (t % 65536)) (2 ^ (-(t / 65536)).toNat) (2 ^ (d + 1)) (Fx.pow_pos _) pd]
      refine Fx.rnd_mono _ _ _ (Int.mul_pos (Fx.pow_pos _) pd) ?_
      have e : (2 : Int) ^ (d + 1) = 2 ^ d * 2 := Int.pow_succ 2 d
      have m : 65536 * 2 ≤ poly (t % 65536) * 2 ^ (d + 1) := Int.mul_le_mul bt.1 (by omega) (by omega) (by omega)
      omega
theorem pow_le (t : Int) (h0 : t ≤ 0) : pow t ≤ 65536 := by
  have := pow_mono h0 (Int.le_refl 0)
  rw [pow_zero] at this
  exact this

theorem tee_le {x : Int} (h : x ≤ 0) : Fx.rnd (x * 94548) 65536 ≤ 0 := by
  have h1 := Fx.rnd_mono (x * 94548) 0 65536 (by omega) (by omega)
  have e : Fx.rnd 0 65536 = 0 := by decide
  omega
theorem exp_bd (x : Int) : 0 ≤ exp x ∧ exp x ≤ 65536 := by
  unfold exp
  split
  · rw [pow_zero]; omega
  · exact ⟨pow_nonneg _, pow_le _ (tee_le (by omega))⟩
theorem exp_mono {x y : Int} (h : x ≤ y) : exp x ≤ exp y := by
  by_cases hy : 0 < y
  · have e : exp y = 65536 := by unfold exp; rw [if_pos hy, pow_zero]
    rw [e]
    exact (exp_bd x).2
  · unfold exp
    rw [if_neg (by omega), if_neg hy]
    exact pow_mono (Fx.rnd_mono _ _ _ (by omega) (by omega)) (tee_le (by omega))

/-- Powers at exponents that are 65536 apart, or one less: one is half of the other, but for little. -/
theorem pow_halves {t s : Int} (h0 : t ≤ 0) (hl : -1638400 ≤ t) (h : s = t - 65536 ∨ s = t - 65535) : 2 * pow s - pow t ≤ 4 ∧ pow t - 2 * pow s ≤ 4 := by
  have hs : ¬ 62 < -(s / 65536) := by omega
  have ht : ¬ 62 < -(t / 65536) := by omega
  rw [pow_in hs, pow_in ht]
  have bs := poly_bd (f := s % 65536) (by omega) (by omega)
  have bt := poly_bd (f := t % 65536) (by omega) (by omega)
  by_cases hz : t = 0
  · subst hz
    rcases h with h | h
    · subst h; decide
    · subst h; decide
  · have p1 := Fx.pow_pos ((-(t / 65536)).toNat - 1)
    have hk : (-(t / 65536)).toNat = ((-(t / 65536)).toNat - 1) + 1 := by omega
    by_cases hn : s / 65536 = t / 65536 - 1
    · have hk2 : (-(s / 65536)).toNat = ((-(t / 65536)).toNat - 1) + 1 + 1 := by omega
      have hd : 0 ≤ poly (s % 65536) - poly (t % 65536) ∧ poly (s % 65536) - poly (t % 65536) ≤ 3 := by
        rcases h with h | h
        · have e : s % 65536 = t % 65536 := by omega
          rw [e]; omega
        · have e : s % 65536 = t % 65536 + 1 := by omega
          have st := poly_step (f := t % 65536) (by omega) (by omega)
          have mo := poly_mono (a := t % 65536) (b := t % 65536 + 1) (by omega) (by omega) (by omega)
          rw [e]; omega
      rw [hk, hk2]
      generalize (-(t / 65536)).toNat - 1 = k at *
      have e1 : (2 : Int) ^ (k + 1) = 2 ^ k * 2 := Int.pow_succ 2 k
      have e2 : (2 : Int) ^ (k + 1 + 1) = 2 ^ k * 2 * 2 := by rw [Int.pow_succ, Int.pow_succ]
      rw [e2, e1]
      generalize (2 : Int) ^ k = b at *
      have c1 := Fx.rnd_char (poly (s % 65536)) (b * 2 * 2) (by omega)
      have c2 := Fx.rnd_char (poly (t % 65536)) (b * 2) (by omega)
      generalize Fx.rnd (poly (s % 65536)) (b * 2 * 2) = x at *
      generalize Fx.rnd (poly (t % 65536)) (b * 2) = y at *
      obtain ⟨c11, c12, -⟩ := c1
      obtain ⟨c21, c22, -⟩ := c2
      have f1 : x * (b * 2 * 2) = 2 * (2 * x * b) := by
        rw [Int.mul_assoc 2 x b]; rw [Int.mul_assoc b 2 2, ← Int.mul_assoc x b]; omega
      have f2 : y * (b * 2) = 2 * (y * b) := by rw [← Int.mul_assoc]; omega
      rw [f1] at c11 c12
      rw [f2] at c21 c22
      constructor
      · refine Int.le_of_not_gt fun hc => ?_
        have m : 5 * b ≤ (2 * x - y) * b := Int.mul_le_mul_of_nonneg_right (by omega) (by omega)
        rw [Int.sub_mul] at m
        omega
      · refine Int.le_of_not_gt fun hc => ?_
        have m : 5 * b ≤ (y - 2 * x) * b := Int.mul_le_mul_of_nonneg_right (by omega) (by omega)
        rw [Int.sub_mul] at m
        omega
    · have e1 : s % 65536 = 0 := by omega
      have e2 : t % 65536 = 65535 := by omega
      have e3 : s / 65536 = t / 65536 := by omega
      rw [e1, e2, e3, show poly 65535 = 131069 from by decide, poly_zero]
      rw [hk]
      generalize (-(t / 65536)).toNat - 1 = k at *
      have e1 : (2 : Int) ^ (k + 1) = 2 ^ k * 2 := Int.pow_succ 2 k
      rw [e1]
      generalize (2 : Int) ^ k = b at *
      have c1 := Fx.rnd_char 65536 (b * 2) (by omega)
      have c2 := Fx.rnd_char 131069 (b * 2) (by omega)
      generalize Fx.rnd 65536 (b * 2) = x at *
      generalize Fx.rnd 131069 (b * 2) = y at *
      obtain ⟨c11, c12, -⟩ := c1
      obtain ⟨c21, c22, -⟩ := c2
      have f1 : x * (b * 2) = 2 * x * b := by rw [← Int.mul_assoc, Int.mul_assoc 2 x b]; omega
      have f2 : y * (b * 2) = 2 * (y * b) := by rw [← Int.mul_assoc]; omega
      rw [f1] at c11 c12
      rw [f2] at c21 c22
      constructor
      · refine Int.le_of_not_gt fun hc => ?_
        have m : 5 * b ≤ (2 * x - y) * b := Int.mul_le_mul_of_nonneg_right (by omega) (by omega)
        rw [Int.sub_mul] at m
        omega
      · refine Int.le_of_not_gt fun hc => ?_
        have m : 5 * b ≤ (y - 2 * x) * b := Int.mul_le_mul_of_nonneg_right (by omega) (by omega)
        rw [Int.sub_mul] at m
        omega
theorem exp_halves {x : Int} (h0 : x ≤ 0) (hl : -1048576 ≤ x) : 2 * exp (x - 45426) - exp x ≤ 4 ∧ exp x - 2 * exp (x - 45426) ≤ 4 := by
  unfold exp
  rw [if_neg (by omega), if_neg (by omega)]
  have c1 := Fx.rnd_char (x * 94548) 65536 (by omega)
  have c2 := Fx.rnd_char ((x - 45426) * 94548) 65536 (by omega)
  have t0 := tee_le h0
  generalize Fx.rnd (x * 94548) 65536 = t at *
  generalize Fx.rnd ((x - 45426) * 94548) 65536 = s at *
  obtain ⟨c11, c12, -⟩ := c1
  obtain ⟨c21, c22, -⟩ := c2
  exact pow_halves t0 (by omega) (by omega)

/-- The root, bit by bit. -/
def rootGo (v : Nat) : Nat → Nat → Nat
  | 0, r => r
  | k + 1, r => if (r + 2 ^ k) * (r + 2 ^ k) ≤ v then rootGo v k (r + 2 ^ k) else rootGo v k r
def root (v : Int) : Int := (rootGo v.toNat 32 0 : Nat)

theorem rootGo_char (v : Nat) : ∀ k r : Nat, r * r ≤ v → v < (r + 2 ^ k) * (r + 2 ^ k) → rootGo v k r * rootGo v k r ≤ v ∧ v < (rootGo v k r + 1) * (rootGo v k r + 1)
  | 0, r, h1, h2 => ⟨h1, h2⟩
  | k + 1, r, h1, h2 => by
    unfold rootGo
    have e : 2 ^ (k + 1) = 2 ^ k + 2 ^ k := by rw [Nat.pow_succ]; omega
    split
    · rename_i h
      exact rootGo_char v k _ h (by rw [Nat.add_assoc, ← e]; exact h2)
    · rename_i h
      exact rootGo_char v k _ h1 (by omega)
theorem root_char (v : Int) (h0 : 0 ≤ v) (h1 : v ≤ 18446744073709551615) : 0 ≤ root v ∧ root v ≤ 4294967295 ∧ root v * root v ≤ v ∧ v < (root v + 1) * (root v + 1) := by
  obtain ⟨n, rfl⟩ := Int.eq_ofNat_of_zero_le h0
  have h := rootGo_char n 32 0 (by omega) (by omega)
  unfold root
  rw [Int.toNat_natCast]
  generalize rootGo n 32 0 = r at *
  obtain ⟨a, b⟩ := h
  refine ⟨by omega, ?_, by exact_mod_cast a, by exact_mod_cast b⟩
  refine Int.le_of_not_gt fun hc => ?_
  have : 4294967296 * 4294967296 ≤ r * r := Nat.mul_le_mul (by omega) (by omega)
  omega
theorem sq_lt {a b : Int} (h0 : 0 ≤ a) (h : a < b) : (a + 1) * (a + 1) ≤ b * b := Int.mul_le_mul (by omega) (by omega) (by omega) (by omega)
/-- What isn't above the root is what has a square that isn't above the number. -/
theorem root_le (v m : Int) (h0 : 0 ≤ v) (h1 : v ≤ 18446744073709551615) (hm : 0 ≤ m) : m * m ≤ v ↔ m ≤ root v := by
  have c := root_char v h0 h1
  constructor
  · intro h
    refine Int.le_of_not_gt fun hc => ?_
    have := sq_lt c.1 hc
    omega
  · intro h
    have : m * m ≤ root v * root v := Int.mul_le_mul h h hm (by omega)
    omega
theorem root_sq (m : Int) (hm : 0 ≤ m) (h1 : m ≤ 4294967295) : root (m * m) = m := by
  have b : m * m ≤ 4294967295 * 4294967295 := Int.mul_le_mul h1 h1 hm (by omega)
  have b0 : 0 ≤ m * m := Int.mul_nonneg hm hm
  have c := root_char (m * m) b0 (by omega)
  have e := (root_le (m * m) m b0 (by omega) hm).1 (Int.le_refl _)
  refine Int.le_antisymm (Int.le_of_not_gt fun hc => ?_) e
  have := sq_lt hm hc
  have e2 : (m + 1) * (m + 1) = m * m + m + m + 1 := by rw [Int.add_mul, Int.mul_add]; omega
  omega
theorem root_mono {v u : Int} (h0 : 0 ≤ v) (h : v ≤ u) (h1 : u ≤ 18446744073709551615) : root v ≤ root u := by
  have c := root_char v h0 (by omega)
  exact (root_le u (root v) (by omega) h1 c.1).1 (by omega)

/-- One by the root: of 2^48 divided by the number; of one that isn't above 0 that of 1. -/
def rsq (x : Int) : Int := if x ≤ 0 then 16777216 else root (281474976710656 / x)
theorem root_48 : root 281474976710656 = 16777216 := root_sq 16777216 (by omega) (by omega)
theorem quo_48 {x : Int} (h : 0 < x) : 0 ≤ 281474976710656 / x ∧ 281474976710656 / x ≤ 281474976710656 := by
  have h := Fx.div_bd 281474976710656 x 281474976710656 h (by omega) (by omega) (by omega)
  exact ⟨Int.ediv_nonneg (by omega) (by omega), h.2⟩
theorem rsq_bd (x : Int) : 0 ≤ rsq x ∧ rsq x ≤ 16777216 := by
  unfold rsq
  split
  · omega
  · have q := quo_48 (x := x) (by omega)
    have c := root_char _ q.1 (by omega)
    have m := root_mono q.1 q.2 (by omega)
    rw [root_48] at m
    exact ⟨c.1, m⟩
theorem rsq_anti {x y : Int} (h : x ≤ y) : rsq y ≤ rsq x := by
  by_cases hx : x ≤ 0
  · have e : rsq x = 16777216 := by unfold rsq; rw [if_pos hx]
    rw [e]
    exact (rsq_bd y).2
  · unfold rsq
    rw [if_neg hx, if_neg (by omega)]
    have q := quo_48 (x := x) (by omega)
    have qy := quo_48 (x := y) (by omega)
    refine root_mono qy.1 ?_ (by omega)
    refine (Int.le_ediv_iff_mul_le (by omega)).2 ?_
    have e1 := Fx.div_mul 281474976710656 y
    have e2 := Int.emod_nonneg 281474976710656 (show y ≠ 0 by omega)
    have m : 281474976710656 / y * x ≤ 281474976710656 / y * y := Int.mul_le_mul_of_nonneg_left h qy.1
    omega
end Ex
end Go.Proofs.Ytpifemahakbegaa
