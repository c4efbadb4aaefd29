/- May a page be: the document's answer (layer 8). -/
import Derived.Test.YtpifemahakbegaaPgLists
namespace Go.Proofs.Ytpifemahakbegaa
set_option linter.unusedVariables false
open Go.RowKit
attribute [local go_sem ↓] Go.wp_at_zero Go.wp_at_succ

namespace Pg
/-- The first error of the first k groups. -/
def rightsN (s : Int) (l : List (Int × Int × List Int)) : Nat → Int
  | 0 => 0
  | k + 1 => if rightsN s l k = 0 then Gp.right s (gs (nth l k)) (gc (nth l k)) else rightsN s l k
theorem rightsN_ok {s : Int} {l : List (Int × Int × List Int)} {k : Nat} (h : rightsN s l k = 0) : rightsN s l (k + 1) = Gp.right s (gs (nth l k)) (gc (nth l k)) := by simp only [rightsN]; rw [if_pos h]
theorem rightsN_bad {s : Int} {l : List (Int × Int × List Int)} {k : Nat} (h : ¬ rightsN s l k = 0) : rightsN s l (k + 1) = rightsN s l k := by simp only [rightsN]; rw [if_neg h]
theorem rightsN_stop {s : Int} {l : List (Int × Int × List Int)} {k n : Nat} (h : ¬ rightsN s l k = 0) (hn : k ≤ n) : rightsN s l n = rightsN s l k := by
  obtain ⟨d, rfl⟩ := Nat.exists_eq_add_of_le hn
  clear hn
  induction d with
  | zero => rfl
  | succ d ih => rw [← Nat.add_assoc, rightsN_bad (by rw [ih]; exact h), ih]
theorem rightsN_all {s : Int} {l : List (Int × Int × List Int)} {k : Nat} (h : rightsN s l k = 0) (i : Nat) (hi : i < k) : Gp.right s (gs (nth l i)) (gc (nth l i)) = 0 := by
  induction k with
  | zero => omega
  | succ k ih =>
    by_cases c : rightsN s l k = 0
    · by_cases e : i = k
      · subst e; rw [rightsN_ok c] at h; exact h
      · exact ih c (by omega)
    · rw [rightsN_bad c] at h; exact absurd h c
/-- The greatest code of b bits. -/
def top (b : Int) : Int := if b = 2 then 3 else if b = 4 then 15 else 255
theorem top_st {b s : Nat} (h : Gp.St b s) : top (b : Int) = s := by rcases h with ⟨rfl, rfl⟩ | ⟨rfl, rfl⟩ | ⟨rfl, rfl⟩ <;> rfl
theorem okB_st {b : Int} (h : Gp.okB b = true) : ∃ n s : Nat, b = (n : Int) ∧ Gp.St n s := by
  rcases okB_or h with rfl | rfl | rfl
  · exact ⟨2, 3, rfl, Or.inl ⟨rfl, rfl⟩⟩
  · exact ⟨4, 15, rfl, Or.inr (Or.inl ⟨rfl, rfl⟩)⟩
  · exact ⟨8, 255, rfl, Or.inr (Or.inr ⟨rfl, rfl⟩)⟩
theorem st_pow {b s : Nat} (h : Gp.St b s) : 2 ^ b - 1 = s := by rcases h with ⟨rfl, rfl⟩ | ⟨rfl, rfl⟩ | ⟨rfl, rfl⟩ <;> rfl
/-- An error's number: may a page be? -/
def newE (h : List Int) (ks vs : List (Int × Int × List Int)) : Int :=
  if rightH h = false then 11 else if shapeB ks (Ls.nth h 3) (Ls.nth h 2) = false then 25 else if shapeB vs (Ls.nth h 2) (Ls.nth h 3) = false then 25 else
  if ¬ rightsN (top (Ls.nth h 0)) ks ks.length = 0 then rightsN (top (Ls.nth h 0)) ks ks.length else rightsN (top (Ls.nth h 1)) vs vs.length
theorem shapeB_all {l : List (Int × Int × List Int)} {n each : Int} (h : shapeB l n each = true) : (∀ i, i < l.length → ((gc (nth l i)).length : Int) = each) ∧ (l.length : Int) = n := by
  unfold shapeB at h
  simp only [decide_eq_true_eq] at h
  exact h
theorem newE_zero {h : List Int} {ks vs : List (Int × Int × List Int)} (e : newE h ks vs = 0) : rightH h = true ∧ shapeB ks (Ls.nth h 3) (Ls.nth h 2) = true ∧ shapeB vs (Ls.nth h 2) (Ls.nth h 3) = true ∧
    rightsN (top (Ls.nth h 0)) ks ks.length = 0 ∧ rightsN (top (Ls.nth h 1)) vs vs.length = 0 := by
  unfold newE at e
  split at e
  · cases e
  · rename_i h1
    split at e
    · cases e
    · rename_i h2
      split at e
      · cases e
      · rename_i h3
        split at e
        · rename_i h4; exact absurd e h4
        · rename_i h4
          exact ⟨by simpa using h1, by simpa using h2, by simpa using h3, by simpa using h4, e⟩
/-- A right group fits. -/
theorem right_fits {b s n : Nat} {g : Int × Int × List Int} (hst : Gp.St b s) (hn : (gc g).length = n) (h0 : -2147483648 ≤ gz g) (h1 : gz g ≤ 2147483647) (h2 : 0 ≤ gs g) (h3 : gs g ≤ 4294967295) (hr : Gp.right s (gs g) (gc g) = 0) : Fits b n g := by
  refine ⟨hn, ?_, h0, h1, h2, h3⟩
  intro i
  have hf := Gp.fits_all (Gp.right_zero hr).2.2
  have hp := st_pow hst
  have hpos : 0 < 2 ^ b := Nat.two_pow_pos b
  by_cases hi : i < (gc g).length
  · have := hf i hi
    omega
  · rw [Ls.nth_past (by omega)]
    exact ⟨Int.le_refl _, hpos⟩
theorem newE_page {h : List Int} {ks vs : List (Int × Int × List Int)} (h7 : h.length = 7) (ik : InG ks) (iv : InG vs) (e : newE h ks vs = 0) : Page h ks vs := by
  obtain ⟨hr, sk, sv, rk, rv⟩ := newE_zero e
  obtain ⟨a, b, c, d, f, g, _⟩ := rightH_all hr
  obtain ⟨k1, k2⟩ := shapeB_all sk
  obtain ⟨v1, v2⟩ := shapeB_all sv
  have ok0 : Gp.okB (Ls.nth h 0) = true := by unfold Gp.okB; rcases a with a | a | a <;> simp [a]
  have ok1 : Gp.okB (Ls.nth h 1) = true := by unfold Gp.okB; rcases b with a | a | a <;> simp [a]
  obtain ⟨b0, s0, e0, st0⟩ := okB_st ok0
  obtain ⟨b1, s1, e1, st1⟩ := okB_st ok1
  have hb0 : kb h = b0 := by unfold kb; omega
  have hb1 : vb h = b1 := by unfold vb; omega
  have t0 : top (Ls.nth h 0) = s0 := by rw [e0]; exact top_st st0
  have t1 : top (Ls.nth h 1) = s1 := by rw [e1]; exact top_st st1
  rw [t0] at rk
  rw [t1] at rv
  refine ⟨h7, hr, by unfold dm; omega, by unfold tk; omega, fun i hi => ?_, fun i hi => ?_, fun i hi => ?_, fun i hi => ?_⟩
  · obtain ⟨q0, q1, q2, q3, _⟩ := ik i hi
    rw [hb0]
    exact right_fits st0 (by have := k1 i hi; unfold tk; omega) q0 q1 q2 q3 (rightsN_all rk i hi)
  · obtain ⟨q0, q1, q2, q3, _⟩ := iv i hi
    rw [hb1]
    exact right_fits st1 (by have := v1 i hi; unfold dm; omega) q0 q1 q2 q3 (rightsN_all rv i hi)
  · rw [hb0, st_pow st0]; exact rightsN_all rk i hi
  · rw [hb1, st_pow st1]; exact rightsN_all rv i hi
theorem newE_keys {h : List Int} {ks vs : List (Int × Int × List Int)} (hr : rightH h = true) (h1 : shapeB ks (Ls.nth h 3) (Ls.nth h 2) = true) (h2 : shapeB vs (Ls.nth h 2) (Ls.nth h 3) = true) (h3 : ¬ rightsN (top (Ls.nth h 0)) ks ks.length = 0) : newE h ks vs = rightsN (top (Ls.nth h 0)) ks ks.length := by
  unfold newE
  rw [if_neg (by rw [hr]; simp), if_neg (by rw [h1]; simp), if_neg (by rw [h2]; simp), if_pos h3]
theorem newE_vals {h : List Int} {ks vs : List (Int × Int × List Int)} (hr : rightH h = true) (h1 : shapeB ks (Ls.nth h 3) (Ls.nth h 2) = true) (h2 : shapeB vs (Ls.nth h 2) (Ls.nth h 3) = true) (h3 : rightsN (top (Ls.nth h 0)) ks ks.length = 0) : newE h ks vs = rightsN (top (Ls.nth h 1)) vs vs.length := by
  unfold newE
  rw [if_neg (by rw [hr]; simp), if_neg (by rw [h1]; simp), if_neg (by rw [h2]; simp), if_neg (by rw [h3]; simp)]
end Pg

theorem boxes_cells {w v : World} {X Y : Array Value} {s t : TypeId} (hb : Below ((w.alloc (.cells X s)).alloc (.cells Y t)).heap.size ((w.alloc (.cells X s)).alloc (.cells Y t)) v) :
    (∀ i x, X[i]? = some x → v.cell? ⟨w.heap.size, i, none⟩ = some x) ∧ (∀ i y, Y[i]? = some y → v.cell? ⟨w.heap.size + 1, i, none⟩ = some y) := by
  refine ⟨fun i x hx => ?_, fun i y hy => ?_⟩
  · rw [hb.cell (p := ⟨w.heap.size, i, none⟩) (by simp; omega), (box_below (w.alloc (.cells X s)) (.cells Y t)).cell (p := ⟨w.heap.size, i, none⟩) (by simp), cell_of_row _ _ _ _ _ _ (heap_alloc_new w _)]
    exact hx
  · have := cell_of_row _ _ i _ _ _ (heap_alloc_new (w.alloc (.cells X s)) (.cells Y t))
    rw [show (w.alloc (.cells X s)).heap.size = w.heap.size + 1 by simp] at this
    rw [hb.cell (p := ⟨w.heap.size + 1, i, none⟩) (by simp), this]
    exact hy

end Go.Proofs.Ytpifemahakbegaa
