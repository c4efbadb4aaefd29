/- The law's own helpers of layer 8: is a case small, are tables shaped? -/
import Derived.Test.YtgfaehhkbkfmhaaPgSize
namespace Go.Proofs.Ytgfaehhkbkfmhaa
set_option linter.unusedVariables false
open Go.RowKit
attribute [local go_sem ↓] Go.wp_at_zero Go.wp_at_succ

/-- Are there as many lists of as many numbers as a head says? -/
def Pg.shapedB (ls : List (List Int)) (n d : Int) : Bool := decide ((∀ i, i < ls.length → ((Tb.row ls i).length : Int) = d) ∧ (ls.length : Int) = n)
theorem shaped_any (h0 h1 h2 h3 h4 h5 h6 : Int) (a : Option Addr) (c : Nat) (ls : List (List Int)) (q : Bool) (w : World) (ha : Tbl w a ls) (hl : ls.length ≤ maxLen) (hq : Pg.shapedB ls h2 h3 = q) :
    Calls Try.prog 8 #[.agg #[.int .i64 h0, .int .i64 h1, .int .i64 h2, .int .i64 h3, .int .i64 h4, .int .i64 h5, .int .i64 h6], .slice a ls.length c] w fun e w' => e = .returned (.bool q) ∧ Below w.heap.size w w' := by
  unfold maxLen at hl
  have HA : Hid (Tbl w a ls) := ha
  have HQ : Hid (Pg.shapedB ls h2 h3 = q) := hq
  clear ha hq
  go_enter Try.func8, Try.ntmps8
  go_wp2
  go_loop [9] (fun i => ∃ k : Nat, k ≤ ls.length ∧ i = .int .i64 k ∧ ∀ j, j < k → ((Tb.row ls j).length : Int) = h3) (fun i => ls.length - (intOf i).toNat)
  case atStart => exact ⟨0, Nat.zero_le _, rfl, fun j hj => by omega⟩
  case round =>
    obtain ⟨k, hk, rfl, hall⟩ := hrel
    have HL : Hid (∀ j, j < k → ((Tb.row ls j).length : Int) = h3) := hall
    clear hall
    by_cases hlt : k < ls.length
    · obtain ⟨b, o, rfl, hall⟩ := HA.out.get hlt
      obtain ⟨A, C, d0, _, _⟩ := hall k hlt
      have hbl := World.block_lt_of_cell? w _ d0
      clear hall
      by_cases hz : ((Tb.row ls k).length : Int) = h3
      · have HZ : Hid (((Tb.row ls k).length : Int) = h3) := hz
        have g : (((Tb.row ls k).length : Int) != h3) = false := by rw [hz]; simp
        clear hz
        go_wp2
        go_round
        case rel =>
          refine ⟨k + 1, by omega, by go_num, fun j hj => ?_⟩
          by_cases e : j = k
          · subst e; exact HZ.out
          · exact HL.out j (by omega)
        case measure => simp [intOf]; omega
      · have g : (((Tb.row ls k).length : Int) != h3) = true := by simp [hz]
        go_wp2
        go_ret
        refine ⟨ret_bool ?_, box_below _ _⟩
        rw [← HQ.out]
        unfold Pg.shapedB
        exact (decide_eq_false (fun e => hz (e.1 k hlt))).symm
    · go_wp2
      go_ret
      refine ⟨ret_bool ?_, box_below _ _⟩
      rw [← HQ.out]
      unfold Pg.shapedB
      rw [Bool.eq_iff_iff]
      simp only [beq_iff_eq, decide_eq_true_eq]
      exact ⟨fun e => ⟨fun i hi => HL.out i (by omega), e⟩, fun e => e.2⟩

/-- May a case be gone through? -/
def Pg.smallB (ks vs : List (Int × Int × List Int)) : Bool := decide (ks.length ≤ 20 ∧ (∀ i, i < ks.length → (Pg.gc (Pg.nth ks i)).length ≤ 40) ∧ vs.length ≤ 20 ∧ ∀ i, i < vs.length → (Pg.gc (Pg.nth vs i)).length ≤ 40)
theorem Pg.smallB_all {ks vs : List (Int × Int × List Int)} (h : Pg.smallB ks vs = true) : ks.length ≤ 20 ∧ (∀ i, i < ks.length → (Pg.gc (Pg.nth ks i)).length ≤ 40) ∧ vs.length ≤ 20 ∧ ∀ i, i < vs.length → (Pg.gc (Pg.nth vs i)).length ≤ 40 := by
  unfold Pg.smallB at h
  simp only [decide_eq_true_eq] at h
  exact h
theorem Pg.smallB_no {ks vs : List (Int × Int × List Int)} (h : 20 < ks.length ∨ 20 < vs.length) : Pg.smallB ks vs = false := by
  unfold Pg.smallB
  exact decide_eq_false (fun e => by have := e.1; have := e.2.2.1; omega)
theorem Pg.smallB_far1 {ks vs : List (Int × Int × List Int)} {i : Nat} (hi : i < ks.length) (h : 40 < (Pg.gc (Pg.nth ks i)).length) : Pg.smallB ks vs = false := by
  unfold Pg.smallB
  exact decide_eq_false (fun e => by have := e.2.1 i hi; omega)
theorem Pg.smallB_far2 {ks vs : List (Int × Int × List Int)} {i : Nat} (hi : i < vs.length) (h : 40 < (Pg.gc (Pg.nth vs i)).length) : Pg.smallB ks vs = false := by
  unfold Pg.smallB
  exact decide_eq_false (fun e => by have := e.2.2.2 i hi; omega)
theorem Pg.smallB_yes {ks vs : List (Int × Int × List Int)} (h1 : ks.length ≤ 20) (h2 : ∀ i, i < ks.length → (Pg.gc (Pg.nth ks i)).length ≤ 40) (h3 : vs.length ≤ 20) (h4 : ∀ i, i < vs.length → (Pg.gc (Pg.nth vs i)).length ≤ 40) : Pg.smallB ks vs = true := by
  unfold Pg.smallB
  exact decide_eq_true ⟨h1, h2, h3, h4⟩

end Go.Proofs.Ytgfaehhkbkfmhaa
