/- Contracts of the document's own answers of layer 8, and of the law's own helpers: heads, shapes, lists of groups. -/
import Derived.Test.YtpifemahakbegaaPgWorld
namespace Go.Proofs.Ytpifemahakbegaa
set_option linter.unusedVariables false
open Go.RowKit
attribute [local go_sem ↓] Go.wp_at_zero Go.wp_at_succ

theorem bitsB_any (b : Int) (q : Bool) (hq : Gp.okB b = q) (w : World) :
    Calls Try.prog 54 #[.int .i64 b] w fun e w' => e = .returned (.bool q) ∧ w' = w := by
  rcases ok_or b with h | ⟨n, rfl, h⟩
  · have e : q = false := by rw [← hq]; unfold Gp.okB; simp [h.1, h.2.1, h.2.2]
    subst e
    exact bits_no b h w
  · have e : q = true := by rw [← hq]; rcases h with rfl | rfl | rfl <;> rfl
    subst e
    exact bits_yes n h w

theorem Pg.rightH_eq (h0 h1 h2 h3 h4 h5 h6 : Int) : Pg.rightH [h0, h1, h2, h3, h4, h5, h6] = (Gp.okB h0 && Gp.okB h1 && decide (1 ≤ h2) && decide (h2 ≤ 16) && decide (1 ≤ h3) && decide (h3 ≤ 16) && decide (0 ≤ h4) && decide (h4 ≤ 3) && decide (0 ≤ h5) && decide (h5 ≤ 3) && decide (0 ≤ h6) && decide (h6 ≤ 1023)) := rfl
/-- Are there so many groups of so many codes? -/
def Pg.shapeB (l : List (Int × Int × List Int)) (n each : Int) : Bool := decide ((∀ i, i < l.length → ((Pg.gc (Pg.nth l i)).length : Int) = each) ∧ (l.length : Int) = n)
end Go.Proofs.Ytpifemahakbegaa
