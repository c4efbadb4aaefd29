/- Layer 12's law: one call on a ring and on a plain list. -/
import Derived.Test.YtgjghnbhpnflfaaRnAwake
import Derived.Deep.AppendLies
import Derived.Deep.RegionHeld3
import Derived.Deep.QuietTactic
import Derived.BigQuiet
namespace Go.Proofs.Ytgjghnbhpnflfaa
set_option linter.unusedVariables false
set_option linter.unusedSimpArgs false
open Go.RowKit

namespace Rn
/-- THE RING AT g HAS THE THINGS l, AND SO HAS THE SLICE AT a. -/
def St (B : Nat) (w : World) (g q n f : Nat) (l : List Int) (a : Option Addr) (ca : Nat) : Prop :=
  RingAt w g q n f l ∧ Lst .i64 w a l ∧ l.length ≤ ca ∧ ca ≤ maxLen ∧ (a = none → ca = 0) ∧ (0 < l.length → ∀ x, a = some x → ¬ x.block = g ∧ ¬ x.block = q) ∧ B ≤ g ∧ B ≤ q ∧ B ≤ w.heap.size
theorem St.keep {B : Nat} {w w' : World} {g q n f : Nat} {l : List Int} {a : Option Addr} {ca : Nat} (h : St B w g q n f l a ca) (hb : Below w.heap.size w w') : St B w' g q n f l a ca := by
  obtain ⟨h1, h2, h3, h4, h5, h6, h7, h8, h9⟩ := h
  exact ⟨h1.keep hb, h2.keep hb, h3, h4, h5, h6, h7, h8, Nat.le_trans h9 hb.size⟩
/-- What a call answers, and leaves. -/
def Res (B n : Nat) (w : World) (e : Ending) (w' : World) : Prop :=
  ∃ (g q f c : Nat) (l : List Int) (a : Option Addr) (ca : Nat), e = .returned (.tuple #[.pointer (some ⟨g, 0, none⟩), .slice a c ca, .bool true]) ∧ l.length = c ∧ St B w' g q n f l a ca ∧ Below B w w'
/-- The same, and all but the ring's own two blocks stands. -/
def Res2 (B n g0 q0 : Nat) (w : World) (e : Ending) (w' : World) : Prop :=
  ∃ (g q f c : Nat) (l : List Int) (a : Option Addr) (ca : Nat), e = .returned (.tuple #[.pointer (some ⟨g, 0, none⟩), .slice a c ca, .bool true]) ∧ l.length = c ∧ St B w' g q n f l a ca ∧ But g0 q0 w w'
/-- A list stands behind a ring's call. -/
theorem St.lst {B : Nat} {w w' : World} {g q n f : Nat} {l : List Int} {a : Option Addr} {ca : Nat} (h : St B w g q n f l a ca) (hb : But g q w w') : Lst .i64 w' a l := by
  by_cases e : 0 < l.length
  · exact lst_but h.2.1 hb (h.2.2.2.2.2.1 e)
  · exact fun i hi => absurd hi (by omega)
theorem lst_in {w : World} {a : Option Addr} {l : List Int} (h : Lst .i64 w a l) (hl : 0 < l.length) : ∀ x, a = some x → x.block < w.heap.size := fun x e => by
  obtain ⟨b, o, e2, hc⟩ := h 0 hl
  rw [e2] at e
  cases e
  exact World.block_lt_of_cell? w _ hc
end Rn
end Go.Proofs.Ytgjghnbhpnflfaa
