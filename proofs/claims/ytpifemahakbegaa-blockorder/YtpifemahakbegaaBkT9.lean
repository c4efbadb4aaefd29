/- A play as a whole, and what its counts say behind each way of a call. -/
import Derived.Test.YtpifemahakbegaaBkT0
namespace Go.Proofs.Ytpifemahakbegaa
set_option linter.unusedVariables false
set_option linter.unusedSimpArgs false
open Go.RowKit

/-- A PLAY LIES AT P: n slots, m rows, k tables, j calls at most. -/
def PlayP (B : Nat) (w : World) (P n m k j : Nat) : Prop :=
  ∃ g b R M s1 s2 va vr T D L col, Core w n m k g b R M T L col ∧ Docs w n m k R M s1 s2 D L col ∧ Box B w P g k s1 s2 va vr T D col ∧ Fresh B w col ∧ Good n m k j R L
theorem PlayP.keep {B : Nat} {w w' : World} {P n m k j : Nat} (h : PlayP B w P n m k j) (hb : Below w.heap.size w w') : PlayP B w' P n m k j := by
  obtain ⟨g, b, R, M, s1, s2, va, vr, T, D, L, col, h1, h2, h3, h4, h5⟩ := h
  exact ⟨g, b, R, M, s1, s2, va, vr, T, D, L, col, h1.keep hb, h2.keep hb, h3.keep hb, h4.keep hb.size, h5⟩
theorem Good.mono {n m k j j' : Nat} {R : List Int} {L : Nat → Nat → List Int} (h : Good n m k j R L) (hj : j ≤ j') : Good n m k j' R L := ⟨h.1, h.2.1, fun i hi => Nat.le_trans (h.2.2.1 i hi) hj, h.2.2.2⟩
theorem PlayP.more {B : Nat} {w : World} {P n m k j : Nat} (h : PlayP B w P n m k j) : PlayP B w P n m k (j + 1) := by
  obtain ⟨g, b, R, M, s1, s2, va, vr, T, D, L, col, h1, h2, h3, h4, h5⟩ := h
  exact ⟨g, b, R, M, s1, s2, va, vr, T, D, L, col, h1, h2, h3, h4, h5.mono (Nat.le_succ j)⟩
theorem Good.bound {n m k j : Nat} {R : List Int} {L : Nat → Nat → List Int} (h : Good n m k j R L) (hj : j ≤ 60) : ∀ t, t < n → Ls.nth R t ≤ 1000 := fun t ht => by
  have h1 := Bk.tot_le (L := L) (t : Int) h.2.2.1
  have h2 : k * j ≤ 6 * 60 := Nat.mul_le_mul h.2.2.2.2 hj
  rw [h.1 t ht]
  omega
theorem Good.held {n m k j a : Nat} {R : List Int} {L : Nat → Nat → List Int} (h : Good n m k j R L) (ha : a < k) : ∀ x, x ∈ Bk.flat (L a) m → (0 ≤ x ∧ x < n) ∧ 0 < Ls.nth R x.toNat := fun x hx => by
  have h1 := h.2.1 a ha x hx
  refine ⟨h1, ?_⟩
  obtain ⟨t, rfl⟩ : ∃ t : Nat, x = t := ⟨x.toNat, by omega⟩
  have h2 := Bk.occ_tot L ha m (t : Int)
  have h3 := Bk.occ_pos hx
  have h4 := h.1 t (by omega)
  simp
  rw [h4]
  omega
theorem Good.occs {n m k j a : Nat} {R : List Int} {L : Nat → Nat → List Int} (h : Good n m k j R L) (ha : a < k) : ∀ t : Nat, t < n → (Bk.occ t (Bk.flat (L a) m) : Int) ≤ Ls.nth R t := fun t ht => by
  have h2 := Bk.occ_tot L ha m (t : Int)
  rw [h.1 t ht]
  omega
theorem Good.add {n m k j a r kk : Nat} {R : List Int} {L : Nat → Nat → List Int} (h : Good n m k j R L) (hR : R.length = n) (ha : a < k) (hr : r < m) (hkk : kk < n) (h0 : Ls.nth R kk = 0) : Good n m k (j + 1) (R.set kk 1) (Bk.put L a (Bk.up (L a) r (L a r ++ [(kk : Int)]))) := by
  refine ⟨fun x hx => ?_, fun i hi x hx => ?_, fun i hi => ?_, h.2.2.2⟩
  · have h1 := Bk.tot_put L ha (Bk.up (L a) r (L a r ++ [(kk : Int)])) m (x : Int)
    rw [Bk.occ_up (L a) hr] at h1
    have h2 := h.1 x hx
    rw [Po.nth_set (by omega)]
    by_cases e : x = kk
    · subst e
      rw [if_pos rfl] at h1 ⊢
      omega
    · rw [if_neg e]
      rw [if_neg (by omega)] at h1
      omega
  · by_cases e : i = a
    · rw [e, Bk.put_at] at hx
      rcases Bk.mem_up hx hr with q | q
      · rw [q]; omega
      · exact h.2.1 a ha x q
    · rw [Bk.put_off L _ e] at hx
      exact h.2.1 i hi x hx
  · by_cases e : i = a
    · rw [e, Bk.put_at, Bk.len_up (L a) hr]
      have := h.2.2.1 a ha
      omega
    · rw [Bk.put_off L _ e]
      have := h.2.2.1 i hi
      omega
theorem Good.fork {n m k j a : Nat} {R : List Int} {L L' : Nat → Nat → List Int} (h : Good n m k j R L) (hR : R.length = n) (ha : a < k) (hk : k < 6) (h1 : ∀ i, i < k → L' i = L i) (h2 : L' k = L a) : Good n m (k + 1) (j + 1) (Bk.bump R 1 (Bk.flat (L a) m)) L' := by
  refine ⟨fun x hx => ?_, fun i hi x hx => ?_, fun i hi => ?_, by omega, by omega⟩
  · rw [Bk.nth_bump 1 _ R (fun y hy => by rw [hR]; exact h.2.1 a ha y hy) x (by omega), h.1 x hx]
    show _ = ((Bk.tot L' m x k + Bk.occ x (Bk.flat (L' k) m) : Nat) : Int)
    rw [Bk.tot_congr h1, h2]
    omega
  · by_cases e : i = k
    · rw [e, h2] at hx; exact h.2.1 a ha x hx
    · rw [h1 i (by omega)] at hx; exact h.2.1 i (by omega) x hx
  · by_cases e : i = k
    · rw [e, h2]; have := h.2.2.1 a ha; omega
    · rw [h1 i (by omega)]; have := h.2.2.1 i (by omega); omega
theorem Good.clear {n m k j a : Nat} {R : List Int} {L : Nat → Nat → List Int} (h : Good n m k j R L) (hR : R.length = n) (ha : a < k) : Good n m k j (Bk.bump R (-1) (Bk.flat (L a) m)) (Bk.put L a (fun _ => [])) := by
  refine ⟨fun x hx => ?_, fun i hi x hx => ?_, fun i hi => ?_, h.2.2.2⟩
  · rw [Bk.nth_bump (-1) _ R (fun y hy => by rw [hR]; exact h.2.1 a ha y hy) x (by omega), h.1 x hx]
    have h1 := Bk.tot_put L ha (fun _ => []) m (x : Int)
    rw [Bk.flat_nil] at h1
    have : Bk.occ (x : Int) [] = 0 := rfl
    omega
  · by_cases e : i = a
    · rw [e, Bk.put_at, Bk.flat_nil] at hx; cases hx
    · rw [Bk.put_off L _ e] at hx; exact h.2.1 i hi x hx
  · by_cases e : i = a
    · rw [e, Bk.put_at]; unfold Bk.len; rw [Bk.flat_nil]; exact Nat.zero_le _
    · rw [Bk.put_off L _ e]; exact h.2.2.1 i hi

end Go.Proofs.Ytpifemahakbegaa
