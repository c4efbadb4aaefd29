/- Plain lists of numbers: the number at a place, sums of products, lists made place by place, the greatest one. No Go text in it. -/
import Derived.Test.YtgjghnbhpnflfaaFxMath
namespace Go.Proofs.Ytgjghnbhpnflfaa
set_option linter.unusedVariables false
namespace Ls

/-- The number at a place (0 where there is none). -/
def nth (l : List Int) (i : Nat) : Int := l.getD i 0
theorem nth_of_lt {l : List Int} {i : Nat} (h : i < l.length) : nth l i = l[i] := by unfold nth; simp [h]
theorem nth_past {l : List Int} {i : Nat} (h : l.length ≤ i) : nth l i = 0 := by unfold nth; simp [List.getElem?_eq_none h]
theorem nth_cons_zero (x : Int) (l : List Int) : nth (x :: l) 0 = x := rfl
theorem nth_cons_succ (x : Int) (l : List Int) (i : Nat) : nth (x :: l) (i + 1) = nth l i := rfl
theorem nth_nil (i : Nat) : nth [] i = 0 := rfl
theorem nth_take {l : List Int} {n i : Nat} (h : i < n) : nth (l.take n) i = nth l i := by unfold nth; simp [h]
theorem nth_drop {l : List Int} {n i : Nat} : nth (l.drop n) i = nth l (n + i) := by unfold nth; simp
theorem nth_append_left {l m : List Int} {i : Nat} (h : i < l.length) : nth (l ++ m) i = nth l i := by unfold nth; simp [List.getElem?_append_left h]
theorem nth_append_at {l : List Int} {x : Int} {i : Nat} (h : i = l.length) : nth (l ++ [x]) i = x := by subst h; unfold nth; simp
theorem ext_nth {l m : List Int} (hl : l.length = m.length) (h : ∀ i, i < l.length → nth l i = nth m i) : l = m := by
  apply List.ext_getElem hl
  intro i h1 h2
  have := h i h1
  rw [nth_of_lt h1, nth_of_lt h2] at this
  exact this
theorem nth_mem {l : List Int} {i : Nat} (h : i < l.length) : nth l i ∈ l := by rw [nth_of_lt h]; exact List.getElem_mem h

/-- All numbers of a list lie within a range. -/
def All (lo hi : Int) (l : List Int) : Prop := ∀ i, i < l.length → lo ≤ nth l i ∧ nth l i ≤ hi
/-- All of 32 bits. -/
def In32 (l : List Int) : Prop := ∀ i, -2147483648 ≤ nth l i ∧ nth l i ≤ 2147483647
theorem in32_mk {l : List Int} (h : ∀ i, i < l.length → -2147483648 ≤ nth l i ∧ nth l i ≤ 2147483647) : In32 l := by
  intro i
  by_cases c : i < l.length
  · exact h i c
  · rw [nth_past (by omega)]; omega
theorem In32.take {l : List Int} (h : In32 l) (n : Nat) : In32 (l.take n) := by
  apply in32_mk
  intro i hi
  rw [nth_take (by simp at hi; omega)]
  exact h i
theorem In32.drop {l : List Int} (h : In32 l) (n : Nat) : In32 (l.drop n) := fun i => by rw [nth_drop]; exact h _

/-- A list made place by place. -/
def gen (n : Nat) (f : Nat → Int) : List Int := (List.range n).map f
theorem gen_length (n : Nat) (f : Nat → Int) : (gen n f).length = n := by simp [gen]
theorem nth_gen {n i : Nat} {f : Nat → Int} (h : i < n) : nth (gen n f) i = f i := by unfold nth gen; simp [h]
theorem gen_succ (n : Nat) (f : Nat → Int) : gen (n + 1) f = gen n f ++ [f n] := by simp [gen, List.range_succ]
theorem gen_congr {n : Nat} {f g : Nat → Int} (h : ∀ i, i < n → f i = g i) : gen n f = gen n g := by
  apply ext_nth
  · rw [gen_length, gen_length]
  · intro i hi
    rw [gen_length] at hi
    rw [nth_gen hi, nth_gen hi, h i hi]

/-- Are all numbers from -2^24 to 2^24, and at most 1024 of them? -/
def mild (l : List Int) : Bool := decide (l.length ≤ 1024 ∧ ∀ i, i < l.length → -16777216 ≤ nth l i ∧ nth l i ≤ 16777216)
theorem mild_mk {l : List Int} (h1 : l.length ≤ 1024) (h : ∀ i, i < l.length → -16777216 ≤ nth l i ∧ nth l i ≤ 16777216) : mild l = true := by unfold mild; simp only [decide_eq_true_eq]; exact ⟨h1, h⟩
theorem mild_len {l : List Int} (h : mild l = true) : l.length ≤ 1024 := by unfold mild at h; simp only [decide_eq_true_eq] at h; exact h.1
theorem mild_nth {l : List Int} (h : mild l = true) (i : Nat) : -16777216 ≤ nth l i ∧ nth l i ≤ 16777216 := by
  by_cases c : i < l.length
  · unfold mild at h; simp only [decide_eq_true_eq] at h; exact h.2 i c
  · rw [nth_past (by omega)]; omega
theorem mild_long {l : List Int} (h : 1024 < l.length) : mild l = false := by unfold mild; simp only [decide_eq_false_iff_not]; omega
theorem mild_low {l : List Int} {i : Nat} (h : nth l i < -16777216) : mild l = false := by
  cases c : mild l
  · rfl
  · have := mild_nth c i; omega
theorem mild_high {l : List Int} {i : Nat} (h : 16777216 < nth l i) : mild l = false := by
  cases c : mild l
  · rfl
  · have := mild_nth c i; omega
theorem mild_take {l : List Int} (h : mild l = true) (n : Nat) : mild (l.take n) = true := by
  apply mild_mk
  · have := mild_len h; simp; omega
  · intro i hi; rw [nth_take (by simp at hi; omega)]; exact mild_nth h i
theorem mild_drop {l : List Int} (h : mild l = true) (n : Nat) : mild (l.drop n) = true := by
  apply mild_mk
  · have := mild_len h; simp; omega
  · intro i hi; rw [nth_drop]; exact mild_nth h _

/-- The sum of the first n products. -/
def dotN (a b : List Int) : Nat → Int
  | 0 => 0
  | n + 1 => dotN a b n + nth a n * nth b n
def dot (a b : List Int) : Int := dotN a b a.length
theorem prod_bd {x y : Int} (h1 : -16777216 ≤ x) (h2 : x ≤ 16777216) (h3 : -16777216 ≤ y) (h4 : y ≤ 16777216) : -281474976710656 ≤ x * y ∧ x * y ≤ 281474976710656 := by
  have e : (x * y).natAbs = x.natAbs * y.natAbs := Int.natAbs_mul x y
  have h : x.natAbs * y.natAbs ≤ 16777216 * 16777216 := Nat.mul_le_mul (by omega) (by omega)
  omega
theorem dotN_bd {a b : List Int} (ha : mild a = true) (hb : mild b = true) (n : Nat) : -(281474976710656 * (n : Int)) ≤ dotN a b n ∧ dotN a b n ≤ 281474976710656 * (n : Int) := by
  induction n with
  | zero => simp [dotN]
  | succ n ih =>
    have pa := mild_nth ha n
    have pb := mild_nth hb n
    have p := prod_bd pa.1 pa.2 pb.1 pb.2
    simp only [dotN]
    omega
theorem dotN_comm (a b : List Int) (n : Nat) : dotN a b n = dotN b a n := by
  induction n with
  | zero => rfl
  | succ n ih => simp only [dotN]; rw [ih, Int.mul_comm]
theorem dot_comm {a b : List Int} (h : a.length = b.length) : dot a b = dot b a := by unfold dot; rw [dotN_comm, h]
theorem dotN_take (a b : List Int) (n m : Nat) (h : m ≤ n) : dotN (a.take n) (b.take n) m = dotN a b m := by
  induction m with
  | zero => rfl
  | succ m ih => simp only [dotN]; rw [ih (by omega), nth_take (by omega), nth_take (by omega)]
theorem dotN_drop (a b : List Int) (n m : Nat) : dotN a b (n + m) = dotN a b n + dotN (a.drop n) (b.drop n) m := by
  induction m with
  | zero => simp [dotN]
  | succ m ih => rw [show n + (m + 1) = n + m + 1 from rfl]; simp only [dotN]; rw [ih, nth_drop, nth_drop]; omega
theorem dot_split {a b : List Int} (n : Nat) (h : n ≤ a.length) : dot a b = dot (a.take n) (b.take n) + dot (a.drop n) (b.drop n) := by
  unfold dot
  rw [dotN_take _ _ _ _ (by simp; omega), ← (show n + (a.drop n).length = a.length from by simp; omega), dotN_drop]
  congr 2
  simp; omega
theorem dotN_congr {a b c d : List Int} (n : Nat) (h : ∀ i, i < n → nth a i = nth c i ∧ nth b i = nth d i) : dotN a b n = dotN c d n := by
  induction n with
  | zero => rfl
  | succ n ih => simp only [dotN]; rw [ih (fun i hi => h i (by omega)), (h n (by omega)).1, (h n (by omega)).2]
theorem dotN_sum {a b c s : List Int} (n : Nat) (h : ∀ i, i < n → nth s i = nth a i + nth b i) : dotN s c n = dotN a c n + dotN b c n := by
  induction n with
  | zero => rfl
  | succ n ih => simp only [dotN]; rw [ih (fun i hi => h i (by omega)), h n (by omega), Int.add_mul]; omega

/-- A sum, and a product, cut to the narrow range. -/
def sum2 (x y : Int) : Int := Fx.cut (x + y) (-8388608) 8388608
def prod (x y : Int) : Int := Fx.cut (Fx.rnd (x * y) 65536) (-8388608) 8388608
def add (a b : List Int) : List Int := gen a.length fun i => sum2 (nth a i) (nth b i)
def «by» (a b : List Int) : List Int := gen a.length fun i => prod (nth a i) (nth b i)
def times (a : List Int) (x : Int) : List Int := gen a.length fun i => prod (nth a i) x
theorem cut_bd (v lo hi : Int) (h : lo ≤ hi) : lo ≤ Fx.cut v lo hi ∧ Fx.cut v lo hi ≤ hi := by unfold Fx.cut; split <;> (try split) <;> omega
theorem cut_wide_narrow (v : Int) : Fx.cut (Fx.cut v (-2147483648) 2147483647) (-8388608) 8388608 = Fx.cut v (-8388608) 8388608 := by
  unfold Fx.cut
  by_cases h1 : v < -2147483648
  · rw [if_pos h1, if_pos (by omega), if_pos (by omega)]
  · rw [if_neg h1]
    by_cases h2 : 2147483647 < v
    · rw [if_pos h2, if_neg (by omega), if_pos (by omega), if_neg (by omega), if_pos (by omega)]
    · rw [if_neg h2]
theorem sum2_bd (x y : Int) : -8388608 ≤ sum2 x y ∧ sum2 x y ≤ 8388608 := cut_bd _ _ _ (by omega)
theorem prod_in (x y : Int) : -8388608 ≤ prod x y ∧ prod x y ≤ 8388608 := cut_bd _ _ _ (by omega)
theorem add_length (a b : List Int) : (add a b).length = a.length := gen_length _ _
theorem by_length (a b : List Int) : (Ls.by a b).length = a.length := gen_length _ _
theorem times_length (a : List Int) (x : Int) : (times a x).length = a.length := gen_length _ _
theorem gen_in32 {n : Nat} {f : Nat → Int} (h : ∀ i, i < n → -8388608 ≤ f i ∧ f i ≤ 8388608) : In32 (gen n f) := by
  apply in32_mk
  intro i hi
  rw [gen_length] at hi
  rw [nth_gen hi]
  have := h i hi
  omega

theorem nth_add {a b : List Int} {i : Nat} (h : i < a.length) : nth (add a b) i = sum2 (nth a i) (nth b i) := nth_gen h
theorem sum2_in {x y : Int} (h1 : -8388608 ≤ x + y) (h2 : x + y ≤ 8388608) : sum2 x y = x + y := Fx.cut_in (by omega) (by omega)
theorem add_mild {a b : List Int} (h : a.length ≤ 1024) : mild (add a b) = true := by
  apply mild_mk
  · rw [add_length]; exact h
  · intro i hi
    rw [add_length] at hi
    rw [nth_add hi]
    have := sum2_bd (nth a i) (nth b i)
    omega
theorem dot_add {a b c : List Int} (h : a.length = b.length) (hs : ∀ i, i < a.length → -8388608 ≤ nth a i + nth b i ∧ nth a i + nth b i ≤ 8388608) : dot (add a b) c = dot a c + dot b c := by
  unfold dot
  rw [add_length, ← h]
  apply dotN_sum
  intro i hi
  rw [nth_add hi, sum2_in (hs i hi).1 (hs i hi).2]

/-- The first place of the greatest of the first n numbers. -/
def topN (a : List Int) : Nat → Nat
  | 0 => 0
  | n + 1 => if nth a (topN a n) < nth a n then n else topN a n
def top (a : List Int) : Nat := topN a a.length
theorem topN_lt (a : List Int) (n : Nat) : topN a n ≤ n ∧ (0 < n → topN a n < n) := by
  induction n with
  | zero => simp [topN]
  | succ n ih => simp only [topN]; split <;> omega
theorem topN_yes {a : List Int} {n : Nat} (h : nth a (topN a n) < nth a n) : topN a (n + 1) = n := by simp only [topN]; rw [if_pos h]
theorem topN_no {a : List Int} {n : Nat} (h : ¬ nth a (topN a n) < nth a n) : topN a (n + 1) = topN a n := by simp only [topN]; rw [if_neg h]
theorem top_lt {a : List Int} (h : 0 < a.length) : top a < a.length := (topN_lt a a.length).2 h
end Ls
end Go.Proofs.Ytgjghnbhpnflfaa
