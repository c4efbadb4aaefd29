/- Contracts of the law's own helpers of layer 8 and of the document's answers: lists of groups made and held against one another. -/
import Derived.Test.YtpifemahakbegaaPgRefs
namespace Go.Proofs.Ytpifemahakbegaa
set_option linter.unusedVariables false
open Go.RowKit
attribute [local go_sem ↓] Go.wp_at_zero Go.wp_at_succ

theorem Gps.choose {w : World} {a : Option Addr} {l : List (Int × Int × List Int)} (h : Gps w a l) : ∃ (A : Nat → Option Addr) (C : Nat → Nat), ∀ i, i < l.length → ∃ b o, a = some ⟨b, o, none⟩ ∧ GpAt w b o i (Pg.nth l i) (A i) (C i) := by
  obtain ⟨F, hF⟩ := Go.Deep.choose_lt (α := Option Addr × Nat) (n := l.length) (p := fun i q => ∃ b o, a = some ⟨b, o, none⟩ ∧ GpAt w b o i (Pg.nth l i) q.1 q.2) (fun i hi => by
    obtain ⟨b, o, a', c', e, h'⟩ := h i hi
    exact ⟨(a', c'), b, o, e, h'⟩)
  exact ⟨fun i => (F i).1, fun i => (F i).2, hF⟩
theorem Pg.eq_at {g h : Int × Int × List Int} : Gp.eqG (Pg.gz g) (Pg.gs g) (Pg.gc g) (Pg.gz h) (Pg.gs h) (Pg.gc h) = decide (g = h) := by
  unfold Gp.eqG
  rw [Bool.eq_iff_iff]
  simp only [decide_eq_true_eq]
  exact ⟨fun e => Pg.g_ext e.1 e.2.1 e.2.2, fun e => by rw [e]; exact ⟨rfl, rfl, rfl⟩⟩
/-- The three cells of a group, in every world that leaves what is old. -/
theorem GpAt.cells {w : World} {b o i : Nat} {g : Int × Int × List Int} {a : Option Addr} {c : Nat} (h : GpAt w b o i g a c) : w.cell? ⟨b, o + i * 3, none⟩ = some (.int .i32 (Pg.gz g)) ∧ w.cell? ⟨b, o + i * 3 + 1, none⟩ = some (.int .u32 (Pg.gs g)) ∧ w.cell? ⟨b, o + i * 3 + 2, none⟩ = some (.slice a (Pg.gc g).length c) := ⟨h.1, h.2.1, h.2.2.1⟩

end Go.Proofs.Ytpifemahakbegaa
