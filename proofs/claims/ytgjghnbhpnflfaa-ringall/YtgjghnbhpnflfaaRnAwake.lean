/- Layer 12's fixed answers, and its test of two lists. -/
import Derived.Test.YtgjghnbhpnflfaaRnShift
namespace Go.Proofs.Ytgjghnbhpnflfaa
set_option linter.unusedVariables false
set_option linter.unusedSimpArgs false
open Go.RowKit

namespace Rn
/-- A list stands behind a ring's call, where it lies elsewhere. -/
theorem lst_but {w w' : World} {g r : Nat} {a : Option Addr} {l : List Int} (h : Lst .i64 w a l) (hb : But g r w w') (hn : ∀ x, a = some x → ¬ x.block = g ∧ ¬ x.block = r) : Lst .i64 w' a l := fun i hi => by
  obtain ⟨b, o, e, hc⟩ := h i hi
  have := hn _ e
  exact ⟨b, o, e, (hb.cell (a := ⟨b, o + i, none⟩) (World.block_lt_of_cell? w _ hc) this.1 this.2).trans hc⟩
set_option maxRecDepth 100000 in
set_option maxHeartbeats 1600000 in
theorem awake_any (w : World) : Calls Try.prog 7 #[] w fun e w' => e = .returned (.bool true) ∧ Below w.heap.size w w' := by
  go_enter Try.func7, Try.ntmps7
  go_wp2_with fail
  refine (new_ok 2 (by decide) _).mono ?_
  rintro e w1 ⟨g, r, rfl, h, hg, hr, hb⟩
  have R1 : Hid (RingAt w1 g r 2 0 []) := h
  have G1 : Hid (w.heap.size ≤ g ∧ w.heap.size ≤ r) := ⟨hg, hr⟩
  have B1 : Hid (Below w.heap.size w w1) := hb
  clear h hg hr hb
  go_wp2_with fail
  refine (new_bad (-1) (Or.inl (by decide)) _).mono ?_
  rintro e w' ⟨rfl, hww⟩
  cases hww.symm
  clear hww
  go_wp2_with fail
  refine (push_ok g r 2 0 1 [] _ R1.out (by decide)).mono ?_
  rintro e w2 ⟨rfl, h, hb⟩
  have R2 : Hid (RingAt w2 g r 2 0 [1]) := h
  have B2 : Hid (Below w.heap.size w w2) := B1.out.trans (hb.below G1.out.1 G1.out.2 B1.out.size)
  clear h hb R1 B1
  go_wp2_with fail
  refine (push_ok g r 2 0 2 [1] _ R2.out (by decide)).mono ?_
  rintro e w3 ⟨rfl, h, hb⟩
  have R3 : Hid (RingAt w3 g r 2 0 [1, 2]) := h
  have B3 : Hid (Below w.heap.size w w3) := B2.out.trans (hb.below G1.out.1 G1.out.2 B2.out.size)
  clear h hb R2 B2
  go_wp2_with fail
  refine (push_full g r 2 0 3 [1, 2] _ R3.out rfl).mono ?_
  rintro e w4 ⟨rfl, q, hw4⟩
  have R4 : Hid (RingAt w4 g r 2 0 [1, 2]) := by rw [hw4]; exact R3.out.keep (below_drewN (Below.refl _ _) _)
  have B4 : Hid (Below w.heap.size w w4) := by rw [hw4]; exact below_drewN B3.out _
  clear hw4 R3 B3
  go_wp2_with fail
  refine (shift_yes g r 2 0 1 1 [1, 2] _ R4.out (by decide) (by decide) rfl).mono ?_
  rintro e w5 ⟨a, rfl, ha, hl, h, hb⟩
  have R5 : Hid (RingAt w5 g r 2 1 [2]) := h
  have L5 : Hid (Lst .i64 w5 (some ⟨a, 0, none⟩) [1]) := hl
  have A5 : Hid (¬ a = g ∧ ¬ a = r) := by have := R4.out.lt; show _ ∧ _; omega
  have B5 : Hid (Below w.heap.size w w5) := B4.out.trans (hb.below G1.out.1 G1.out.2 B4.out.size)
  clear h hb ha hl R4 B4
  go_wp2_with fail
  refine (push_ok g r 2 1 3 [2] _ R5.out (by decide)).mono ?_
  rintro e w6 ⟨rfl, h, hb⟩
  have R6 : Hid (RingAt w6 g r 2 1 [2, 3]) := h
  have L6 : Hid (Lst .i64 w6 (some ⟨a, 0, none⟩) [1]) := lst_but L5.out hb (fun x e => by cases e; exact A5.out)
  have B6 : Hid (Below w.heap.size w w6) := B5.out.trans (hb.below G1.out.1 G1.out.2 B5.out.size)
  clear h hb R5 L5 B5
  go_wp2_with fail
  refine (at_yes g r 2 1 1 3 [2, 3] _ R6.out (by decide) rfl).mono ?_
  rintro e w7 ⟨rfl, q, hw7⟩
  have R7 : Hid (RingAt w7 g r 2 1 [2, 3]) := by rw [hw7]; exact R6.out.keep (below_drewN (Below.refl _ _) _)
  have B7 : Hid (Below w.heap.size w w7) := by rw [hw7]; exact below_drewN B6.out _
  have c7 : w7.cell? ⟨a, 0, none⟩ = some (.int .i64 1) := by rw [hw7]; exact L6.out.cell0 (i := 0) (by decide)
  clear hw7 R6 L6 B6
  go_wp2_with fail
  refine (len_any g r 2 1 2 _ R7.out.hd).mono ?_
  rintro e w' ⟨rfl, hww⟩
  cases hww.symm
  clear hww
  go_wp2_with fail
  refine (size_any g r 2 1 2 _ R7.out.hd).mono ?_
  rintro e w' ⟨rfl, hww⟩
  cases hww.symm
  clear hww
  go_wp2_with fail
  refine (cut_yes g r 2 1 1 [2, 3] _ R7.out (by decide)).mono ?_
  rintro e w8 ⟨rfl, h, hb⟩
  have R8 : Hid (RingAt w8 g r 2 1 [2]) := h
  have B8 : Hid (Below w.heap.size w w8) := B7.out.trans (hb.below G1.out.1 G1.out.2 B7.out.size)
  clear h hb R7 B7 c7
  go_wp2_with fail
  refine (len_any g r 2 1 1 _ R8.out.hd).mono ?_
  rintro e w' ⟨rfl, hww⟩
  cases hww.symm
  clear hww
  go_wp2_with fail
  refine (cut_no g r 2 1 2 [2] _ R8.out (Or.inr (by decide))).mono ?_
  rintro e w' ⟨rfl, hww⟩
  cases hww.symm
  clear hww
  go_wp2
  go_ret
  exact ⟨rfl, B8.out⟩
/-- The law's own test: two lists are one. -/
theorem same_yes (a1 a2 : Option Addr) (n c1 c2 : Nat) (l : List Int) (w : World) (h1 : Lst .i64 w a1 l) (h2 : Lst .i64 w a2 l) (hn : l.length = n) (hl : n ≤ 100000) :
    Calls Try.prog 12 #[.slice a1 n c1, .slice a2 n c2] w fun e w' => e = .returned (.bool true) ∧ ∃ q, w' = w.drewN q := by
  have H1 : Hid (Lst .i64 w a1 l) := h1
  have H2 : Hid (Lst .i64 w a2 l) := h2
  have HN : Hid (l.length = n) := hn
  clear h1 h2 hn
  go_enter Try.func12, Try.ntmps12
  go_wp2
  go_loopw [13] (fun i wq => ∃ (k q : Nat), k ≤ n ∧ i = .int .i64 k ∧ Hid (wq = w.drewN q)) (fun i _ => n - (intOf i).toNat)
  case atStart => exact ⟨0, 0, Nat.zero_le _, rfl, rfl⟩
  case round =>
    obtain ⟨k, q, hk, rfl, hw⟩ := hrel
    by_cases hlt : k < n
    · have L1 : Lst .i64 wr a1 l := by rw [hw.out]; exact H1.out.draws q
      have L2 : Lst .i64 wr a2 l := by rw [hw.out]; exact H2.out.draws q
      obtain ⟨b1, o1, rfl, g1⟩ := L1.get (show k < l.length by rw [HN.out]; exact hlt)
      obtain ⟨b2, o2, rfl, g2⟩ := L2.get (show k < l.length by rw [HN.out]; exact hlt)
      have d1 := g1 k (by rw [HN.out]; exact hlt)
      have d2 := g2 k (by rw [HN.out]; exact hlt)
      obtain ⟨x, ex⟩ : ∃ x, Ls.nth l k = x := ⟨_, rfl⟩
      rw [ex] at d1 d2
      clear g1 g2 ex L1 L2
      go_wp2
      go_quiet (fail)
      go_wp2
      go_roundw
      case rel => exact ⟨k + 1, q + nq, by omega, by go_num, by show _ = _; rw [hw.out, World.drewN_drewN]⟩
      case measure => simp [intOf]; omega
    · have ek : k = n := by omega
      subst ek
      go_wp2
      go_ret
      exact ⟨rfl, q, hw.out⟩
end Rn
end Go.Proofs.Ytgjghnbhpnflfaa
