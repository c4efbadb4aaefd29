/- How many bytes a page has, and what a token's key and value mean: the document's answers (layer 8). -/
import Derived.Test.YtpifemahakbegaaPgBytes
namespace Go.Proofs.Ytpifemahakbegaa
set_option linter.unusedVariables false
open Go.RowKit
attribute [local go_sem ↓] Go.wp_at_zero Go.wp_at_succ

/-- What the key of a token means. -/
def Pg.key (ks : List (Int × Int × List Int)) (t : Nat) : List Int := Ls.gen ks.length fun i => Gp.mean (Pg.gz (Pg.nth ks i)) (Pg.gs (Pg.nth ks i)) (Ls.nth (Pg.gc (Pg.nth ks i)) t)
theorem Pg.key_length (ks : List (Int × Int × List Int)) (t : Nat) : (Pg.key ks t).length = ks.length := Ls.gen_length _ _
theorem Pg.nth_key {ks : List (Int × Int × List Int)} {t i : Nat} (h : i < ks.length) : Ls.nth (Pg.key ks t) i = Gp.mean (Pg.gz (Pg.nth ks i)) (Pg.gs (Pg.nth ks i)) (Ls.nth (Pg.gc (Pg.nth ks i)) t) := Ls.nth_gen h
/-- Groups of which each code from 0 to 255 means something, with at least so many codes. -/
def Pg.Deep (n : Nat) (l : List (Int × Int × List Int)) : Prop := ∀ i, i < l.length → (Pg.gc (Pg.nth l i)).length = n ∧ Gp.fits 255 (Pg.gc (Pg.nth l i)) = true ∧ -2147483648 ≤ Pg.gz (Pg.nth l i) ∧ Pg.gz (Pg.nth l i) ≤ 2147483647 ∧ 0 ≤ Pg.gs (Pg.nth l i) ∧ Pg.gs (Pg.nth l i) ≤ 4294967295
theorem Pg.deep_of {b n : Nat} {l : List (Int × Int × List Int)} (hb : b = 2 ∨ b = 4 ∨ b = 8) (h : Pg.AllFit b n l) : Pg.Deep n l := fun i hi => by
  obtain ⟨h1, h2, h3, h4, h5, h6⟩ := h i hi
  refine ⟨h1, Gp.fits_yes fun j hj => ?_, h3, h4, h5, h6⟩
  have := h2 j
  have hp : 2 ^ b ≤ 256 := by rcases hb with rfl | rfl | rfl <;> decide
  omega

end Go.Proofs.Ytpifemahakbegaa
