/- The law's own helpers of layer 8: is a case small, are tables shaped? -/
import Derived.Test.YtpifemahakbegaaPgSize
namespace Go.Proofs.Ytpifemahakbegaa
set_option linter.unusedVariables false
open Go.RowKit
attribute [local go_sem ↓] Go.wp_at_zero Go.wp_at_succ

/-- Are there as many lists of as many numbers as a head says? -/
def Pg.shapedB (ls : List (List Int)) (n d : Int) : Bool := decide ((∀ i, i < ls.length → ((Tb.row ls i).length : Int) = d) ∧ (ls.length : Int) = n)
/-- May a case be gone through? -/
def Pg.smallB (ks vs : List (Int × Int × List Int)) : Bool := decide (ks.length ≤ 20 ∧ (∀ i, i < ks.length → (Pg.gc (Pg.nth ks i)).length ≤ 40) ∧ vs.length ≤ 20 ∧ ∀ i, i < vs.length → (Pg.gc (Pg.nth vs i)).length ≤ 40)
theorem Pg.smallB_all {ks vs : List (Int × Int × List Int)} (h : Pg.smallB ks vs = true) : ks.length ≤ 20 ∧ (∀ i, i < ks.length → (Pg.gc (Pg.nth ks i)).length ≤ 40) ∧ vs.length ≤ 20 ∧ ∀ i, i < vs.length → (Pg.gc (Pg.nth vs i)).length ≤ 40 := by
  unfold Pg.smallB at h
  simp only [decide_eq_true_eq] at h
  exact h
theorem Pg.smallB_no {ks vs : List (Int × Int × List Int)} (h : 20 < ks.length ∨ 20 < vs.length) : Pg.smallB ks vs = false := by
  unfold Pg.smallB
  exact decide_eq_false (fun e => by have := e.1; have := e.2.2.1; omega)
theorem Pg.smallB_far1 {ks vs : List (Int × Int × List Int)} {i : Nat} (hi : i < ks.length) (h : 40 < (Pg.gc (Pg.nth ks i)).length) : Pg.smallB ks vs = false := by
  unfold Pg.smallB
  exact decide_eq_false (fun e => by have := e.2.1 i hi; omega)
theorem Pg.smallB_far2 {ks vs : List (Int × Int × List Int)} {i : Nat} (hi : i < vs.length) (h : 40 < (Pg.gc (Pg.nth vs i)).length) : Pg.smallB ks vs = false := by
  unfold Pg.smallB
  exact decide_eq_false (fun e => by have := e.2.2.2 i hi; omega)
theorem Pg.smallB_yes {ks vs : List (Int × Int × List Int)} (h1 : ks.length ≤ 20) (h2 : ∀ i, i < ks.length → (Pg.gc (Pg.nth ks i)).length ≤ 40) (h3 : vs.length ≤ 20) (h4 : ∀ i, i < vs.length → (Pg.gc (Pg.nth vs i)).length ≤ 40) : Pg.smallB ks vs = true := by
  unfold Pg.smallB
  exact decide_eq_true ⟨h1, h2, h3, h4⟩

end Go.Proofs.Ytpifemahakbegaa
