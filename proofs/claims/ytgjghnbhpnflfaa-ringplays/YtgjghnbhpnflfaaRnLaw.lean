/- What layer 12's laws share: a slice of pairs, a list of numbers that came in. -/
import Derived.Test.YtgjghnbhpnflfaaRnStep3
import Derived.Test.YtgjghnbhpnflfaaStFrame
import Derived.Deep.SlicePairs
import Derived.Deep.Slices
import Derived.ChangeArms
namespace Go.Proofs.Ytgjghnbhpnflfaa
set_option linter.unusedVariables false
open Go.RowKit

/-- The frame's word of a slice of pairs of numbers that came in. -/
def IsPairs (w : World) (a : Option Addr) (len cap : Nat) : Prop :=
  (a = none ∧ len = 0 ∧ cap = 0) ∨
  ∃ x, a = some x ∧ len ≤ cap ∧ cap ≤ maxLen ∧ ∀ i, i < len → ∃ k n : Int, w.cell? (x.add (i * 2)) = some (.int .i64 k) ∧ w.cell? (x.add (i * 2 + 1)) = some (.int .i64 n) ∧ (-9223372036854775808 ≤ n ∧ n ≤ 9223372036854775807)
/-- THE SLICE AT a READS AS n PAIRS, the i-th one K i and N i. -/
def Prs (w : World) (a : Option Addr) (n : Nat) (K N : Nat → Int) : Prop :=
  ∀ i, i < n → ∃ b o, a = some ⟨b, o, none⟩ ∧ w.cell? ⟨b, o + i * 2, none⟩ = some (.int .i64 (K i)) ∧ w.cell? ⟨b, o + i * 2 + 1, none⟩ = some (.int .i64 (N i))
theorem Prs.keep {w w' : World} {a : Option Addr} {n : Nat} {K N : Nat → Int} (h : Prs w a n K N) (hb : Below w.heap.size w w') : Prs w' a n K N := fun i hi => by
  obtain ⟨b, o, e, h1, h2⟩ := h i hi
  have hlt := World.block_lt_of_cell? w _ h1
  refine ⟨b, o, e, ?_, ?_⟩
  · rw [hb.cell (p := ⟨b, o + i * 2, none⟩) hlt]; exact h1
  · rw [hb.cell (p := ⟨b, o + i * 2 + 1, none⟩) hlt]; exact h2
theorem pairs_open {w : World} {a : Option Addr} {len cap : Nat} (h : IsPairs w a len cap) :
    ∃ K N : Nat → Int, Prs w a len K N ∧ (∀ i, i < len → -9223372036854775808 ≤ N i ∧ N i ≤ 9223372036854775807) ∧ len ≤ maxLen := by
  rcases h with ⟨rfl, rfl, rfl⟩ | ⟨x, rfl, h1, h2, h3⟩
  · exact ⟨fun _ => 0, fun _ => 0, fun i hi => by omega, fun i hi => by omega, Nat.zero_le _⟩
  · have each : ∀ i, i < len → ∃ q : Int × Int, w.cell? (x.add (i * 2)) = some (.int .i64 q.1) ∧ w.cell? (x.add (i * 2 + 1)) = some (.int .i64 q.2) ∧ (-9223372036854775808 ≤ q.2 ∧ q.2 ≤ 9223372036854775807) := by
      intro i hi
      obtain ⟨k, n, q⟩ := h3 i hi
      exact ⟨(k, n), q⟩
    obtain ⟨q, hq⟩ := Go.Deep.choose_lt each
    refine ⟨fun i => (q i).1, fun i => (q i).2, ?_, fun i hi => (hq i hi).2.2, by omega⟩
    intro i hi
    have h0 := (hq 0 (by omega)).1
    have hs : x.spot = none := by
      simp [Addr.add, World.cell?] at h0
      cases hx : x.spot
      · rfl
      · rw [hx] at h0; simp at h0; split at h0 <;> simp_all
    obtain ⟨b, o, sp⟩ := x
    simp at hs
    subst hs
    have c1 := (hq i hi).1
    have c2 := (hq i hi).2.1
    rw [Addr.add_lit] at c1 c2
    exact ⟨b, o, rfl, c1, by rw [Nat.add_assoc]; exact c2⟩

theorem row_openI {w : World} {a : Option Addr} {len cap : Nat} {zs : List Int}
    (h : (a = none ∧ len = 0 ∧ cap = 0 ∧ zs = []) ∨ ∃ x, a = some x ∧ len ≤ cap ∧ cap ≤ maxLen ∧ zs.length = cap ∧ (∀ i, i < zs.length → w.cell? (x.add i) = some (.int .i64 (zs.getD i 0))) ∧ ∀ n ∈ zs, (Lit.int .i64 n).wf = true) :
    ∃ l : List Int, l.length = len ∧ Lst .i64 w a l ∧ len ≤ maxLen := by
  rcases h with ⟨rfl, rfl, rfl, rfl⟩ | ⟨x, rfl, h1, h2, h3, h4, h5⟩
  · exact ⟨[], rfl, Lst.nil _ _ _, Nat.zero_le _⟩
  · exact ⟨zs.take len, by simp; omega, lst_of_cells (by omega) h4, by omega⟩

namespace Rn
theorem own_list {w : World} {base N c : Nat} {t : TypeId} {a : Option Addr} {l : List Int} (h : w.ownsRow base t 1 (.slice a N c) N (l.map (Value.int .i64))) (hN : l.length = N) : Lst .i64 w a l := by
  obtain ⟨a', c', e, hl⟩ := lst_of_ownm h hN.symm
  cases e
  exact hl
end Rn
end Go.Proofs.Ytgjghnbhpnflfaa
