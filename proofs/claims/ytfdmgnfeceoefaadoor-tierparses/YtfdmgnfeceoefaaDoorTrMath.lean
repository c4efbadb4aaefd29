/- Plain arithmetic of layer 9: numerals, texts of plans, cuts. -/
import Derived.Lib.AtoiAll
import Derived.Lib.ItoaMem
import Derived.Lib.CutLaws
import Derived.Lib.Strings
namespace Go.Proofs.YtfdmgnfeceoefaaDoor
set_option linter.unusedVariables false
namespace Tr

/-- A text's bytes. -/
def bl (s : ByteArray) : List UInt8 := s.data.toList
theorem bl_append (s t : ByteArray) : bl (s ++ t) = bl s ++ bl t := by simp [bl, ByteArray.data_append]
theorem bl_inj {s t : ByteArray} (h : bl s = bl t) : s = t := by
  apply ByteArray.ext; apply Array.ext'; exact h
theorem bl_size (s : ByteArray) : s.size = (bl s).length := by unfold bl; rw [Array.length_toList]; rfl
theorem bl_mk (l : List UInt8) : bl ⟨l.toArray⟩ = l := rfl

/-- A number's digits. -/
def dec (n : Nat) : List UInt8 := Lib.decDigits n
def Dig (c : UInt8) : Prop := 48 ≤ c.toNat ∧ c.toNat ≤ 57
instance (c : UInt8) : Decidable (Dig c) := by unfold Dig; infer_instance
theorem dec_one {n : Nat} (h : n < 10) : dec n = [UInt8.ofNat (48 + n)] := Lib.decDigits_one h
theorem dec_more {n : Nat} (h : ¬ n < 10) : dec n = dec (n / 10) ++ [UInt8.ofNat (48 + n % 10)] := by unfold dec; rw [Lib.decDigits, dif_neg h]
theorem dig_of {n : Nat} (h : n < 10) : Dig (UInt8.ofNat (48 + n)) := by
  unfold Dig
  have : (UInt8.ofNat (48 + n)).toNat = 48 + n := by rw [UInt8.toNat_ofNat']; omega
  omega
theorem toNat_of {n : Nat} (h : n < 10) : (UInt8.ofNat (48 + n)).toNat = 48 + n := by rw [UInt8.toNat_ofNat']; omega
theorem dec_dig (n : Nat) : ∀ c ∈ dec n, Dig c := by
  induction n using Nat.strongRecOn with
  | _ n ih =>
    by_cases h : n < 10
    · rw [dec_one h]; intro c hc; rw [List.mem_singleton.1 hc]; exact dig_of h
    · rw [dec_more h]; intro c hc
      rcases List.mem_append.1 hc with hc | hc
      · exact ih (n / 10) (by omega) c hc
      · rw [List.mem_singleton.1 hc]; exact dig_of (by omega)
theorem dec_ne (n : Nat) : dec n ≠ [] := by
  by_cases h : n < 10
  · rw [dec_one h]; simp
  · rw [dec_more h]; simp
/-- What digits say. -/
def dg (c : UInt8) : Nat := c.toNat - 48
def st (a : Nat) (c : UInt8) : Nat := a * 10 + dg c
def val (a : Nat) (l : List UInt8) : Nat := l.foldl st a
theorem val_cons (a : Nat) (c : UInt8) (r : List UInt8) : val a (c :: r) = val (a * 10 + dg c) r := by unfold val; rw [List.foldl_cons, st]
theorem val_nil (a : Nat) : val a [] = a := by unfold val; rw [List.foldl_nil]
theorem val_append (a : Nat) (l m : List UInt8) : val a (l ++ m) = val (val a l) m := by unfold val; rw [List.foldl_append]
theorem val_snoc (a : Nat) (l : List UInt8) (c : UInt8) : val a (l ++ [c]) = val a l * 10 + dg c := by rw [val_append, val_cons, val_nil]
theorem dg_of {n : Nat} (h : n < 10) : dg (UInt8.ofNat (48 + n)) = n := by unfold dg; rw [toNat_of h]; omega
theorem dg_lt {c : UInt8} (h : Dig c) : dg c < 10 := by unfold dg; unfold Dig at h; omega
theorem val_dec (n : Nat) : val 0 (dec n) = n := by
  induction n using Nat.strongRecOn with
  | _ n ih =>
    by_cases h : n < 10
    · rw [dec_one h, val_cons, val_nil, dg_of h]; omega
    · rw [dec_more h, val_snoc, ih (n / 10) (by omega), dg_of (by omega)]; omega
theorem dec_inj {n m : Nat} (h : dec n = dec m) : n = m := by rw [← val_dec n, ← val_dec m, h]
theorem val_mono (l : List UInt8) : ∀ a : Nat, a ≤ val a l := by
  induction l with
  | nil => intro a; rw [val_nil]; exact Nat.le_refl a
  | cons c r ih =>
    intro a
    rw [val_cons]
    have := ih (a * 10 + dg c)
    omega
theorem val_lt (l : List UInt8) : ∀ a : Nat, (∀ c ∈ l, Dig c) → val a l < (a + 1) * 10 ^ l.length := by
  induction l with
  | nil => intro a _; rw [val_nil]; simp
  | cons c r ih =>
    intro a h
    have h1 := dg_lt (h c (by simp))
    have h2 := ih (a * 10 + dg c) (fun x hx => h x (by simp [hx]))
    rw [val_cons, List.length_cons]
    have h3 : (a * 10 + dg c + 1) * 10 ^ r.length ≤ ((a + 1) * 10) * 10 ^ r.length := Nat.mul_le_mul_right _ (by omega)
    have h4 : (a + 1) * 10 ^ (r.length + 1) = ((a + 1) * 10) * 10 ^ r.length := by rw [Nat.pow_succ]; ac_rfl
    omega
theorem dec_len {n : Nat} (h : n < 2147483648) : (dec n).length ≤ 10 := by
  have e : (dec n).length = Lib.nDigits n := Lib.decDigits_length n
  rw [e]
  rcases Nat.lt_or_ge (Lib.nDigits n) 11 with h1 | h1
  · omega
  · exfalso
    have : ∀ (k u : Nat), k + 1 ≤ Lib.nDigits u → 10 ^ k ≤ u ∨ k = 0 := by
      intro k
      induction k with
      | zero => intro u _; exact Or.inr rfl
      | succ k ih =>
        intro u hu
        by_cases h : u < 10
        · rw [Lib.nDigits_small h] at hu; omega
        · rw [Lib.nDigits_big h] at hu
          rcases ih (u / 10) (by omega) with h' | rfl
          · left; rw [Nat.pow_succ]; omega
          · left; omega
    rcases this 10 n (by omega) with h2 | h2
    · have : (10 : Nat) ^ 10 = 10000000000 := by decide
      omega
    · omega

theorem parse_val (l : List UInt8) : ∀ a : Nat, (∀ c ∈ l, Dig c) → val a l < 9223372036854775808 → Lib.parseUint10 a l = .ok (val a l) := by
  induction l with
  | nil => intro a _ _; rw [val_nil]; rfl
  | cons c r ih =>
    intro a h hv
    have h1 : Dig c := h c (by simp)
    have h2 := val_mono r (a * 10 + dg c)
    rw [val_cons] at hv ⊢
    have e : c.toNat - 48 = dg c := rfl
    unfold Dig at h1
    rw [Lib.parseUint10, if_pos h1, e, if_neg (by omega), if_neg (by omega)]
    exact ih _ (fun x hx => h x (by simp [hx])) hv
/-- A number's digits are read as the number. -/
theorem atoi_dec {n : Nat} (h : n < 9223372036854775808) : Lib.atoiAll (dec n) = .ok (n : Int) := by
  cases e : dec n with
  | nil => exact absurd e (dec_ne n)
  | cons c r =>
    have hc : Dig c := dec_dig n c (by rw [e]; simp)
    unfold Dig at hc
    have hm : Lib.parseMag (c :: r) = .ok n := by
      unfold Lib.parseMag
      rw [if_neg (by simp), ← e, parse_val _ _ (dec_dig n) (by rw [val_dec]; exact h), val_dec]
    unfold Lib.atoiAll
    simp only []
    rw [if_neg (by omega), hm]
    simp only []
    rw [if_neg (by omega), if_neg (by omega), if_neg (by omega)]
theorem itoa_dec (n : Nat) : Lib.itoa (n : Int) = dec n := Lib.itoa_nonneg n

/-! ### A text of a plan -/
def tail : List (Nat × Nat) → List UInt8
  | [] => []
  | p :: r => 32 :: (dec p.1 ++ 47 :: (dec p.2 ++ tail r))
def txt (g w : Nat) (ls : List (Nat × Nat)) : List UInt8 := 103 :: (dec g ++ 32 :: 119 :: (dec w ++ tail ls))
theorem tail_append (a b : List (Nat × Nat)) : tail (a ++ b) = tail a ++ tail b := by
  induction a with
  | nil => rfl
  | cons p r ih => simp [tail, ih]
theorem txt_append (g w : Nat) (a b : List (Nat × Nat)) : txt g w (a ++ b) = txt g w a ++ tail b := by
  unfold txt; rw [tail_append]; simp
theorem txt_snoc (g w : Nat) (a : List (Nat × Nat)) (k v : Nat) : txt g w (a ++ [(k, v)]) = txt g w a ++ 32 :: (dec k ++ 47 :: dec v) := by
  rw [txt_append]; simp [tail]
/-- The bytes do not begin with a digit. -/
def Sep : List UInt8 → Prop
  | [] => True
  | c :: _ => ¬ Dig c
theorem sep_tail (ls : List (Nat × Nat)) : Sep (tail ls) := by
  cases ls with
  | nil => trivial
  | cons p r => simp [tail, Sep, Dig]
theorem span_uniq : ∀ (a b x y : List UInt8), (∀ c ∈ a, Dig c) → (∀ c ∈ b, Dig c) → Sep x → Sep y → a ++ x = b ++ y → a = b ∧ x = y
  | [], [], x, y, _, _, _, _, h => ⟨rfl, h⟩
  | [], c :: b, x, y, _, hb, hx, _, h => by
    exfalso; simp at h; subst h; exact hx (hb c (by simp))
  | c :: a, [], x, y, ha, _, _, hy, h => by
    exfalso; simp at h; subst h; exact hy (ha c (by simp))
  | c :: a, d :: b, x, y, ha, hb, hx, hy, h => by
    simp at h
    obtain ⟨rfl, h⟩ := h
    obtain ⟨e1, e2⟩ := span_uniq a b x y (fun z hz => ha z (by simp [hz])) (fun z hz => hb z (by simp [hz])) hx hy h
    exact ⟨by rw [e1], e2⟩
theorem dec_span {n m : Nat} {x y : List UInt8} (hx : Sep x) (hy : Sep y) (h : dec n ++ x = dec m ++ y) : n = m ∧ x = y := by
  obtain ⟨e1, e2⟩ := span_uniq _ _ x y (dec_dig n) (dec_dig m) hx hy h
  exact ⟨dec_inj e1, e2⟩
theorem tail_inj : ∀ (a b : List (Nat × Nat)), tail a = tail b → a = b
  | [], [], _ => rfl
  | [], p :: r, h => by simp [tail] at h
  | p :: r, [], h => by simp [tail] at h
  | (k, v) :: r, (k', v') :: r', h => by
    simp only [tail, List.cons.injEq, true_and] at h
    obtain ⟨rfl, h1⟩ := dec_span (by simp [Sep, Dig]) (by simp [Sep, Dig]) h
    obtain ⟨rfl, h2⟩ := dec_span (sep_tail _) (sep_tail _) (List.cons.inj h1).2
    rw [tail_inj r r' h2]
theorem txt_inj {g g' w w' : Nat} {a b : List (Nat × Nat)} (h : txt g w a = txt g' w' b) : g = g' ∧ w = w' ∧ a = b := by
  simp only [txt, List.cons.injEq, true_and] at h
  obtain ⟨rfl, h1⟩ := dec_span (by simp [Sep, Dig]) (by simp [Sep, Dig]) h
  obtain ⟨rfl, h2⟩ := dec_span (sep_tail _) (sep_tail _) (List.cons.inj (List.cons.inj h1).2).2
  exact ⟨rfl, rfl, tail_inj _ _ h2⟩
/-- THE TEXT l SAYS THIS PLAN (right or not): numbers below 2^31, at least one layer. -/
def Small (ls : List (Nat × Nat)) : Prop := ∀ p ∈ ls, p.1 < 2147483648 ∧ p.2 < 2147483648
def Says (l : List UInt8) (g w : Nat) (ls : List (Nat × Nat)) : Prop := l = txt g w ls ∧ g < 2147483648 ∧ w < 2147483648 ∧ Small ls ∧ ls ≠ []
def None (l : List UInt8) : Prop := ∀ g w ls, ¬ Says l g w ls
theorem Says.uniq {l : List UInt8} {g g' w w' : Nat} {a b : List (Nat × Nat)} (h : Says l g w a) (k : Says l g' w' b) : g = g' ∧ w = w' ∧ a = b := txt_inj (h.1.symm.trans k.1)

/-! ### Cuts -/
theorem none_of_index {c : UInt8} : ∀ {l : List UInt8}, c ∉ l → ∀ i : Nat, l[i]? ≠ some c := fun h i e => h (List.mem_of_getElem? e)
theorem occ_one {l : List UInt8} {i : Nat} {c : UInt8} (h : l[i]? = some c) : l = l.take i ++ c :: l.drop (i + 1) := by
  obtain ⟨hi, rfl⟩ := List.getElem?_eq_some_iff.1 h
  simp
theorem split_uniq {c : UInt8} : ∀ (a x b y : List UInt8), c ∉ a → c ∉ x → a ++ c :: b = x ++ c :: y → a = x ∧ b = y
  | [], [], b, y, _, _, h => by simpa using h
  | [], d :: x, b, y, _, hx, h => by simp at h; obtain ⟨rfl, _⟩ := h; simp at hx
  | d :: a, [], b, y, ha, _, h => by simp at h; obtain ⟨rfl, _⟩ := h; simp at ha
  | d :: a, e :: x, b, y, ha, hx, h => by
    simp at h
    obtain ⟨rfl, h⟩ := h
    obtain ⟨e1, e2⟩ := split_uniq a x b y (fun q => ha (by simp [q])) (fun q => hx (by simp [q])) h
    exact ⟨by rw [e1], e2⟩
theorem not_dig {c : UInt8} {n : Nat} (h : ¬ Dig c) : c ∉ dec n := fun q => h (dec_dig n c q)
/-- What a plan's text is up to its blanks. -/
theorem tail_cut : ∀ (p : Nat × Nat) (r : List (Nat × Nat)), tail (p :: r) = 32 :: ((dec p.1 ++ 47 :: dec p.2) ++ tail r)
  | p, r => by simp [tail]
theorem word_free (k v : Nat) : (32 : UInt8) ∉ dec k ++ 47 :: dec v := by
  simp only [List.mem_append, List.mem_cons, not_or]
  exact ⟨not_dig (by simp [Dig]), by decide, not_dig (by simp [Dig])⟩
end Tr
end Go.Proofs.YtfdmgnfeceoefaaDoor
