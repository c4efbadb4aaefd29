/- Layer 9: a token more is one group more, or none. -/
import Derived.Test.YtfdmgnfeceoefaaDoorTrFrame
namespace Go.Proofs.YtfdmgnfeceoefaaDoor
set_option linter.unusedVariables false
open Go.RowKit Go.Sort
open Tr
namespace Tr
theorem near_same {t : Int} (h0 : 0 ≤ t) (h1 : t ≤ 1024) : near t = t := by unfold near; rw [if_neg (by omega), if_neg (by omega)]
theorem grp_rises {g i t : Int} (g1 : 1 ≤ g) (g2 : g ≤ 16) (i1 : 0 ≤ i) (i2 : i ≤ 64) (h0 : 0 ≤ t) (h1 : t < 1024) :
    (grp g i (t + 1) = grp g i t ∧ ¬ t - grp g i t * g = i + g - 1) ∨ (grp g i (t + 1) = grp g i t + 1 ∧ t - grp g i t * g = i + g - 1) := by
  have ba := grp_bd (t := t) g1 i1
  have bb := grp_bd (t := t + 1) g1 i1
  have na : near t = t := near_same h0 (by omega)
  have nb : near (t + 1) = t + 1 := near_same (by omega) (by omega)
  by_cases ht : t < i
  · have e1 : over t i = 0 := by unfold over; split <;> omega
    have e2 : over (t + 1) i = 0 := by unfold over; split <;> omega
    have ga : grp g i t = 0 := by unfold grp; rw [na, e1]; exact Int.zero_ediv g
    have gb : grp g i (t + 1) = 0 := by unfold grp; rw [nb, e2]; exact Int.zero_ediv g
    rw [ga, gb]
    exact Or.inl ⟨rfl, by omega⟩
  · have e1 : over t i = t - i := by unfold over; split <;> omega
    have e2 : over (t + 1) i = t + 1 - i := by unfold over; split <;> omega
    rw [na, e1] at ba
    rw [nb, e2] at bb
    generalize grp g i t = a at *
    generalize grp g i (t + 1) = b at *
    obtain ⟨a0, a1, a2, a3⟩ := ba
    obtain ⟨b0, b1, b2, b3⟩ := bb
    have ea : (a + 1) * g = a * g + g := by rw [Int.add_mul]; omega
    have eb : (b + 1) * g = b * g + g := by rw [Int.add_mul]; omega
    have hab : b ≤ a + 1 := by
      apply Int.not_lt.1; intro h
      have h2 := Int.mul_le_mul_of_nonneg_right (show a + 2 ≤ b by omega) (show 0 ≤ g by omega)
      have : (a + 2) * g = a * g + 2 * g := Int.add_mul ..
      omega
    have hba : a ≤ b := by
      apply Int.not_lt.1; intro h
      have h2 := Int.mul_le_mul_of_nonneg_right (show b + 1 ≤ a by omega) (show 0 ≤ g by omega)
      omega
    by_cases h : b = a
    · subst h; exact Or.inl ⟨rfl, by omega⟩
    · have h : b = a + 1 := by omega
      subst h
      exact Or.inr ⟨rfl, by omega⟩
theorem says_of {t : ByteArray} {g i : Nat} {ns : List (Nat × Nat)} (hr : right g i (I ns) = 0) (ht : bl t = txt g i ns) : Says (bl t) g i ns := by
  obtain ⟨g1, g2, i1, i2, l1, l2, hall⟩ := right_zero hr
  rw [I_length] at l1
  refine ⟨ht, by omega, by omega, ?_, ?_⟩
  · intro p hp
    obtain ⟨k, hk, rfl⟩ := List.mem_iff_getElem.1 hp
    have := small_at hall hk
    omega
  · rintro rfl; simp at l1
/-- What a text says, whoever reads it. -/
theorem pis_out (s : ByteArray) : ∃ (G W f : Int) (ls : List (Int × Int)), Hid (f = 0 → ∃ (g i : Nat) (ns : List (Nat × Nat)), Says (bl s) g i ns ∧ G = g ∧ W = i ∧ ls = I ns ∧ right g i (I ns) = 0) ∧ ls.length ≤ 4 ∧
    Hid (∀ e w', PIs s e w' → ∃ a c, e = .returned (.tuple #[.agg #[.int .i64 G, .int .i64 W, .slice a ls.length c], .int .i64 f]) ∧ Ps w' a ls) := by
  by_cases hn : None (bl s)
  · refine ⟨0, 0, 10, [], (fun h => ?_), by simp, fun e w' h => ⟨none, 0, pis_none h hn, Ps.nil _ _⟩⟩
    exact absurd h (by decide)
  · have hs : ∃ g i ns, Says (bl s) g i ns := by
      apply Classical.byContradiction
      intro h
      exact hn fun g i ns k => h ⟨g, i, ns, k⟩
    obtain ⟨g, i, ns, hs⟩ := hs
    by_cases hr : right g i (I ns) = 0
    · refine ⟨g, i, 0, I ns, (fun _ => ⟨g, i, ns, hs, rfl, rfl, rfl, hr⟩), (right_zero hr).2.2.2.2.2.1, fun e w' h => ?_⟩
      obtain ⟨a, c, h1, h2, -, -⟩ := pis_ok h hs hr
      exact ⟨a, c, by rw [I_length]; exact h1, h2⟩
    · exact ⟨0, 0, right g i (I ns), [], (fun h => absurd h hr), by simp, fun e w' h => ⟨none, 0, pis_bad h hs hr, Ps.nil _ _⟩⟩
end Tr
end Go.Proofs.YtfdmgnfeceoefaaDoor
