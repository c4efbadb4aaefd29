/- Bytes and their sum, numbers in bytes: plain arithmetic (layer 6). No Go text in it. -/
import Derived.Test.YtpifemahakbegaaLsMath
namespace Go.Proofs.Ytpifemahakbegaa
set_option linter.unusedVariables false
namespace Sl

/-- All are bytes. -/
def Byt (l : List Int) : Prop := ∀ i, 0 ≤ Ls.nth l i ∧ Ls.nth l i < 256
theorem byt_mk {l : List Int} (h : ∀ i, i < l.length → 0 ≤ Ls.nth l i ∧ Ls.nth l i < 256) : Byt l := by
  intro i
  by_cases c : i < l.length
  · exact h i c
  · rw [Ls.nth_past (by omega)]; omega

/-- The sum goes on by one byte. -/
def step (h c : Nat) : Nat := (h ^^^ c) * 16777619 % 4294967296
theorem step_lt (h c : Nat) : step h c < 4294967296 := Nat.mod_lt _ (by decide)
theorem xor_lt {h c : Nat} (hh : h < 4294967296) (hc : c < 4294967296) : h ^^^ c < 4294967296 := Nat.xor_lt_two_pow (n := 32) hh hc
theorem times_back {x : Nat} (hx : x < 4294967296) : x * 16777619 % 4294967296 * 899433627 % 4294967296 = x := by omega
theorem times_inj {x y : Nat} (hx : x < 4294967296) (hy : y < 4294967296) (h : x * 16777619 % 4294967296 = y * 16777619 % 4294967296) : x = y := by
  rw [← times_back hx, ← times_back hy, h]
theorem xor_back (h c : Nat) : h ^^^ c ^^^ c = h := by rw [Nat.xor_assoc, Nat.xor_self, Nat.xor_zero]
theorem step_inj_left {h k c : Nat} (hh : h < 4294967296) (hk : k < 4294967296) (hc : c < 256) (e : step h c = step k c) : h = k := by
  have e1 := times_inj (xor_lt hh (by omega)) (xor_lt hk (by omega)) e
  rw [← xor_back h c, e1, xor_back]
theorem step_inj_right {h c d : Nat} (hh : h < 4294967296) (hc : c < 256) (hd : d < 256) (e : step h c = step h d) : c = d := by
  have e1 := times_inj (xor_lt hh (by omega)) (xor_lt hh (by omega)) e
  rw [Nat.xor_comm h c, Nat.xor_comm h d] at e1
  rw [← xor_back c h, e1, xor_back]

/-- The sum of the first n bytes. -/
def sumN (l : List Int) : Nat → Nat
  | 0 => 2166136261
  | n + 1 => step (sumN l n) (Ls.nth l n).toNat
def sum (l : List Int) : Nat := sumN l l.length
theorem sumN_lt (l : List Int) (n : Nat) : sumN l n < 4294967296 := by
  cases n with
  | zero => simp only [sumN]; omega
  | succ n => exact step_lt _ _
theorem sum_lt (l : List Int) : sum l < 4294967296 := sumN_lt _ _
theorem sumN_congr {l m : List Int} (n : Nat) (h : ∀ i, i < n → Ls.nth l i = Ls.nth m i) : sumN l n = sumN m n := by
  induction n with
  | zero => rfl
  | succ n ih => simp only [sumN]; rw [ih (fun i hi => h i (by omega)), h n (by omega)]
/-- Of two lists that differ in one place alone, the sums differ. -/
theorem sumN_one {l m : List Int} {j : Nat} (hl : Byt l) (hm : Byt m) (hj : ¬ Ls.nth l j = Ls.nth m j) (ho : ∀ i, ¬ i = j → Ls.nth l i = Ls.nth m i) (n : Nat) (hn : j < n) : ¬ sumN l n = sumN m n := by
  induction n with
  | zero => omega
  | succ n ih =>
    intro e
    simp only [sumN] at e
    have b1 := hl n
    have b2 := hm n
    by_cases c : j = n
    · subst c
      rw [sumN_congr j (fun i hi => ho i (by omega))] at e
      have := step_inj_right (sumN_lt m j) (by omega) (by omega) e
      omega
    · rw [ho n (by omega)] at e
      exact ih (by omega) (step_inj_left (sumN_lt _ _) (sumN_lt _ _) (by omega) e)

/-- The lowest n bytes of a number, the highest first. -/
def be (n v : Nat) : List Int := Ls.gen n fun i => ((v / 256 ^ (n - 1 - i) % 256 : Nat) : Int)
theorem be_length (n v : Nat) : (be n v).length = n := Ls.gen_length _ _
theorem nth_be {n v i : Nat} (h : i < n) : Ls.nth (be n v) i = ((v / 256 ^ (n - 1 - i) % 256 : Nat) : Int) := Ls.nth_gen h
theorem be_byt (n v : Nat) : Byt (be n v) := by
  apply byt_mk
  intro i hi
  rw [be_length] at hi
  rw [nth_be hi]
  omega

/-- The first n bytes as a number. -/
def numN (l : List Int) : Nat → Nat
  | 0 => 0
  | n + 1 => numN l n * 256 + (Ls.nth l n).toNat
def num (l : List Int) : Nat := numN l l.length
theorem numN_lt {l : List Int} (hl : Byt l) (n : Nat) : numN l n < 256 ^ n := by
  induction n with
  | zero => simp [numN]
  | succ n ih =>
    have b := hl n
    simp only [numN]
    rw [Nat.pow_succ]
    omega
theorem numN_congr {l m : List Int} (n : Nat) (h : ∀ i, i < n → Ls.nth l i = Ls.nth m i) : numN l n = numN m n := by
  induction n with
  | zero => rfl
  | succ n ih => simp only [numN]; rw [ih (fun i hi => h i (by omega)), h n (by omega)]
theorem numN_be (n v k : Nat) (hk : k ≤ n) : numN (be n v) k = v / 256 ^ (n - k) % 256 ^ k := by
  induction k with
  | zero => simp [numN, Nat.mod_one]
  | succ k ih =>
    simp only [numN]
    rw [ih (by omega), nth_be (by omega), Int.toNat_natCast]
    have e : n - k = n - (k + 1) + 1 := by omega
    have e2 : n - 1 - k = n - (k + 1) := by omega
    rw [e2, e, Nat.pow_succ, ← Nat.div_div_eq_div_mul, Nat.pow_succ 256 k, Nat.mul_comm (256 ^ k) 256, Nat.mod_mul]
    omega
theorem num_be (n v : Nat) : num (be n v) = v % 256 ^ n := by
  unfold num
  rw [be_length, numN_be n v n (Nat.le_refl _), Nat.sub_self, Nat.pow_zero, Nat.div_one]
theorem numN_div {l : List Int} (hl : Byt l) (n j : Nat) (hj : j ≤ n) : numN l n / 256 ^ (n - j) = numN l j := by
  induction n with
  | zero =>
    obtain rfl : j = 0 := by omega
    simp [numN]
  | succ n ih =>
    by_cases e : j = n + 1
    · subst e; simp
    · have b := hl n
      rw [show n + 1 - j = (n - j) + 1 by omega, Nat.pow_succ, Nat.mul_comm, ← Nat.div_div_eq_div_mul]
      simp only [numN]
      rw [show (numN l n * 256 + (Ls.nth l n).toNat) / 256 = numN l n by omega]
      exact ih (by omega)
theorem be_num {l : List Int} (hl : Byt l) : be l.length (num l) = l := by
  apply Ls.ext_nth (be_length _ _)
  intro i hi
  rw [be_length] at hi
  rw [nth_be hi]
  unfold num
  rw [show l.length - 1 - i = l.length - (i + 1) by omega, numN_div hl _ _ (by omega)]
  have b := hl i
  simp only [numN]
  omega
theorem be_inj {n u v : Nat} (hu : u < 256 ^ n) (hv : v < 256 ^ n) (h : be n u = be n v) : u = v := by
  have := num_be n u
  rw [h, num_be, Nat.mod_eq_of_lt hu, Nat.mod_eq_of_lt hv] at this
  exact this.symm
theorem four : 256 ^ 4 = 4294967296 := by decide
theorem be_sum_inj {l m : List Int} (h : be 4 (sum l) = be 4 (sum m)) : sum l = sum m := be_inj (by rw [four]; exact sum_lt _) (by rw [four]; exact sum_lt _) h

/-- Bytes with their sum behind them. -/
def close (l : List Int) : List Int := l ++ be 4 (sum l)
theorem close_length (l : List Int) : (close l).length = l.length + 4 := by unfold close; rw [List.length_append, be_length]
/-- Are bytes sealed ones? (at least four of them) -/
def sealed (l : List Int) : Bool := decide (close (l.take (l.length - 4)) = l)
theorem take_close (l : List Int) : (close l).take ((close l).length - 4) = l := by
  rw [close_length, Nat.add_sub_cancel]
  unfold close
  simp
theorem sealed_close (l : List Int) : sealed (close l) = true := by unfold sealed; rw [take_close]; simp
/-- Sealed bytes of which one is another one are not sealed. -/
theorem sealed_one {l s : List Int} {j : Nat} (hl : Byt l) (hs : Byt s) (hn : s.length = (close l).length) (hj : j < s.length) (hd : ¬ Ls.nth s j = Ls.nth (close l) j) (ho : ∀ i, ¬ i = j → Ls.nth s i = Ls.nth (close l) i) : sealed s = false := by
  unfold sealed
  simp only [decide_eq_false_iff_not]
  intro e
  have hlen : s.length = l.length + 4 := by rw [hn, close_length]
  have ht : (s.take (s.length - 4)).length = l.length := by simp; omega
  obtain ⟨a, ea⟩ : ∃ a, s.take (s.length - 4) = a := ⟨_, rfl⟩
  rw [ea] at e ht
  have hf : ∀ i, i < l.length → Ls.nth a i = Ls.nth s i := fun i hi => by rw [← ea, Ls.nth_take (by omega)]
  have hc : ∀ i, i < l.length → Ls.nth (close l) i = Ls.nth l i := fun i hi => Ls.nth_append_left hi
  have hba : Byt a := by
    apply byt_mk
    intro i hi
    rw [hf i (by omega)]
    exact hs i
  by_cases c : j < l.length
  · have hsum : ¬ sum a = sum l := by
      unfold sum
      rw [ht]
      refine sumN_one hba hl (j := j) (by rw [hf j c, ← hc j c]; exact hd) (fun i hi => ?_) _ c
      by_cases ci : i < l.length
      · rw [hf i ci, ho i hi, hc i ci]
      · rw [Ls.nth_past (by omega), Ls.nth_past (by omega)]
    apply hsum
    apply be_sum_inj
    apply Ls.ext_nth (by rw [be_length, be_length])
    intro i hi
    rw [be_length] at hi
    have h1 : Ls.nth (close a) (l.length + i) = Ls.nth (be 4 (sum a)) i := by
      unfold close Ls.nth
      simp [List.getElem?_append_right, ht]
    have h2 : Ls.nth (close l) (l.length + i) = Ls.nth (be 4 (sum l)) i := by
      unfold close Ls.nth
      simp [List.getElem?_append_right]
    rw [← h1, ← h2, e]
    exact ho _ (by omega)
  · have hal : a = l := by
      apply Ls.ext_nth ht
      intro i hi
      rw [hf i (by omega), ho i (by omega), hc i (by omega)]
    rw [hal] at e
    exact hd (by rw [e])
/-- A number with a sign, of one of 32 bits. -/
def sgn (n : Nat) : Int := if n < 2147483648 then n else (n : Int) - 4294967296
theorem sgn_lo {n : Nat} (h : n < 2147483648) : sgn n = n := if_pos h
theorem sgn_hi {n : Nat} (h : 2147483648 ≤ n) : sgn n = (n : Int) - 4294967296 := if_neg (by omega)
theorem sgn_word {q : Int} {v : Nat} (h0 : -2147483648 ≤ q) (h1 : q ≤ 2147483647) (hv : q + 4294967296 = v) : sgn (num (be 4 v)) = q := by
  rw [num_be, four]
  by_cases c : v % 4294967296 < 2147483648
  · rw [sgn_lo c]; omega
  · rw [sgn_hi (by omega)]; omega
end Sl
end Go.Proofs.Ytpifemahakbegaa
