/- Layer 13: CaBoth. -/
import Derived.Test.YtnchnlgnnlgjcaaGreatCn17
namespace Go.Proofs.YtnchnlgnnlgjcaaGreat
set_option linter.unusedVariables false
open Go.RowKit
theorem AccQ.mono {α : Type} {E : El α} {s : Nat} (hE : Carries s E) {Q Q' : Nat → Prop} {B : Nat} {t : TypeId} {w : World} {v : Value} {n : Nat} {l : List α} {xs : List Value} (h : AccQ Q B s t E w v n l xs) (hq : ∀ q, Q q → Q' q) : AccQ Q' B s t E w v n l xs := by
  obtain ⟨h1, h2, h3, h4⟩ := h
  exact ⟨h1, h2, h3, fun i hi c hc => hE _ _ w w c c _ (fun q _ hh => ⟨⟨hq q hh.1, hh.2⟩, rfl⟩) (Nat.le_refl _) (fun _ _ _ h => h) (h4 i hi c hc)⟩
end Go.Proofs.YtnchnlgnnlgjcaaGreat
