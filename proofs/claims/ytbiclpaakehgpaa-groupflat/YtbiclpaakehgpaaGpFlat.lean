/- What numbers that are all one mean, and what two numbers do (layer 7, plain arithmetic). -/
import Derived.Test.YtbiclpaakehgpaaGpMath
namespace Go.Proofs.Ytbiclpaakehgpaa
set_option linter.unusedVariables false
namespace Gp

theorem mean_ge {z sc c : Int} (hz0 : -2147483648 ≤ z) (hz1 : z ≤ 2147483647) (hs : 0 ≤ sc) (hc : 0 ≤ c) : z ≤ mean z sc c := by
  have h := Int.mul_nonneg hc hs
  unfold mean Fx.cut
  split
  · omega
  · split <;> omega
theorem flat_means {l : List Int} {v : Int} (hv0 : -2147483648 ≤ v) (hv1 : v ≤ 2147483647) (h : ∀ i, i < l.length → Ls.nth l i = v) : means v 0 (codes v 0 l) = l := by
  apply Ls.ext_nth (by rw [means_length, codes_length])
  intro i hi
  rw [means_length, codes_length] at hi
  rw [nth_means (by rw [codes_length]; exact hi), codes_none rfl hi, mean_zero 0 hv0 hv1, h i hi]
/-- Of two numbers the lesser one is meant as it is, and the other one is meant no lower. -/
theorem two_low (v w : Int) : low [v, w] = lo2 v w := by
  show lo2 (lo2 v v) w = lo2 v w
  rw [lo2_no (show ¬ v < v by omega)]
theorem two_min {v w s : Int} (hv0 : -2147483648 ≤ v) (hv1 : v ≤ 2147483647) (hw0 : -2147483648 ≤ w) (hw1 : w ≤ 2147483647) (hs : 3 ≤ s) {z sc : Int} (ez : low [v, w] = z) (es : scale s [v, w] = sc) {m0 m1 : Int}
    (e0 : Ls.nth (means z sc (codes z sc [v, w])) 0 = m0) (e1 : Ls.nth (means z sc (codes z sc [v, w])) 1 = m1) : (if m1 < m0 then m1 else m0) = z ∧ (if w < v then w else v) = z := by
  have hin : Ls.In32 [v, w] := Ls.in32_mk fun i hi => by
    match i, hi with
    | 0, _ => exact ⟨hv0, hv1⟩
    | 1, _ => exact ⟨hw0, hw1⟩
  have sb := scale_bd (s := s) hin hs
  rw [es] at sb
  have hz : (if w < v then w else v) = z := by rw [← ez, two_low]; rfl
  have zb : -2147483648 ≤ z ∧ z ≤ 2147483647 := by rw [← ez]; exact lowN_in hin _
  have g0 := codes_right hin hs (i := 0) (by simp)
  have g1 := codes_right hin hs (i := 1) (by simp)
  rw [ez, es] at g0 g1
  have n0 := nth_means (z := z) (sc := sc) (c := codes z sc [v, w]) (i := 0) (by rw [codes_length]; simp)
  have n1 := nth_means (z := z) (sc := sc) (c := codes z sc [v, w]) (i := 1) (by rw [codes_length]; simp)
  rw [e0] at n0
  rw [e1] at n1
  have a0 := mean_ge (c := Ls.nth (codes z sc [v, w]) 0) zb.1 zb.2 sb.1 g0.1
  have a1 := mean_ge (c := Ls.nth (codes z sc [v, w]) 1) zb.1 zb.2 sb.1 g1.1
  rw [← n0] at a0
  rw [← n1] at a1
  refine ⟨?_, hz⟩
  by_cases c : w < v
  · rw [if_pos c] at hz
    have := grouped_low (s := s) hin (i := 1) (by simp) (show Ls.nth [v, w] 1 = low [v, w] by rw [ez, ← hz]; rfl)
    rw [ez, es, e1] at this
    have e : m1 = z := by rw [this, ← hz]; rfl
    split <;> omega
  · rw [if_neg c] at hz
    have := grouped_low (s := s) hin (i := 0) (by simp) (show Ls.nth [v, w] 0 = low [v, w] by rw [ez, ← hz]; rfl)
    rw [ez, es, e0] at this
    have e : m0 = z := by rw [this, ← hz]; rfl
    split <;> omega
theorem two_in {v w : Int} (hv0 : -2147483648 ≤ v) (hv1 : v ≤ 2147483647) (hw0 : -2147483648 ≤ w) (hw1 : w ≤ 2147483647) : Ls.In32 [v, w] := Ls.in32_mk fun i hi => by
  match i, hi with
  | 0, _ => exact ⟨hv0, hv1⟩
  | 1, _ => exact ⟨hw0, hw1⟩
/-- The three kinds of bits. -/
theorem three (k : Nat) (h : k < 3) : ∃ b s : Nat, Ls.nth [2, 4, 8] k = (b : Int) ∧ St b s := by
  match k, h with
  | 0, _ => exact ⟨2, 3, rfl, Or.inl ⟨rfl, rfl⟩⟩
  | 1, _ => exact ⟨4, 15, rfl, Or.inr (Or.inl ⟨rfl, rfl⟩)⟩
  | 2, _ => exact ⟨8, 255, rfl, Or.inr (Or.inr ⟨rfl, rfl⟩)⟩
end Gp
end Go.Proofs.Ytbiclpaakehgpaa
