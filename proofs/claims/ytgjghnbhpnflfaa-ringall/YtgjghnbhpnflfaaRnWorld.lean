/- A ring in memory (layer 12): its three cells, its places. -/
import Derived.Test.YtgjghnbhpnflfaaRnMath
import Derived.Test.YtgjghnbhpnflfaaLsWorld
import Derived.Laws.OwnMore
namespace Go.Proofs.Ytgjghnbhpnflfaa
set_option linter.unusedVariables false
set_option linter.unusedSimpArgs false
open Go.RowKit

namespace Rn
theorem own_at {w w' : World} {base : Nat} {t : TypeId} {v : Value} {n : Nat} {xs : List Value} (h : w.ownsRow base t 1 v n xs) (hb : ∀ g, v.ownBlock = some g → w'.heap[g]? = w.heap[g]?) : w'.ownsRow base t 1 v n xs := by
  refine ⟨h.1, ?_⟩
  rcases h.2 with h0 | ⟨g, cap, cur, e, h1, h2, h3⟩
  · exact Or.inl h0
  · refine Or.inr ⟨g, cap, cur, e, h1, ?_, h3⟩
    subst e
    rw [hb g rfl]
    exact h2
theorem own_below {w w' : World} {base : Nat} {t : TypeId} {v : Value} {n : Nat} {xs : List Value} (h : w.ownsRow base t 1 v n xs) (hb : Below w.heap.size w w') : w'.ownsRow base t 1 v n xs :=
  own_at h fun g e => hb.block g (h.lt g e).2
theorem own_slice {w : World} {base : Nat} {t : TypeId} {v : Value} {n : Nat} {xs : List Value} (h : w.ownsRow base t 1 v n xs) : ∃ a c, v = .slice a n c := by
  rcases h.2 with ⟨e, hn⟩ | ⟨g, cap, cur, e, _⟩
  · exact ⟨none, 0, by rw [e, hn]⟩
  · exact ⟨_, _, e⟩
theorem own_none {w : World} {base : Nat} {t : TypeId} {v : Value} {n : Nat} {xs : List Value} {a : Option Addr} {c : Nat} (h : w.ownsRow base t 1 v n xs) (e : v = .slice a n c) : a = none → c = 0 := by
  intro ea
  rcases h.2 with ⟨e1, _⟩ | ⟨g, cap, cur, e1, _⟩
  · rw [e1] at e; cases e; rfl
  · rw [e1] at e; cases e; cases ea
/-- BLOCK j BEARS TYPE t. -/
def Ty (w : World) (j : Nat) (t : TypeId) : Prop := ∃ cs fz, w.heap[j]? = some (.cells cs t fz)
theorem Ty.ne {w : World} {i j : Nat} {s t : TypeId} (h : Ty w i s) (k : Ty w j t) (e : ¬ s = t) : ¬ i = j := fun q => by
  subst q
  obtain ⟨a, f, h⟩ := h
  obtain ⟨b, g, k⟩ := k
  rw [h] at k
  cases k
  exact e rfl
theorem ty_row {w : World} {b : Nat} {t : TypeId} {n : Nat} {f : Nat → Value} (h : w.rowIs b t n f) : Ty w b t := by
  obtain ⟨c, e, _⟩ := h
  exact ⟨c, _, e⟩
theorem Ty.lt {w : World} {j : Nat} {t : TypeId} (h : Ty w j t) : j < w.heap.size := by
  obtain ⟨c, f, e⟩ := h
  exact (Array.getElem?_eq_some_iff.1 e).1
theorem Ty.of_block {w w' : World} {j : Nat} {t : TypeId} (h : Ty w j t) (e : w'.heap[j]? = w.heap[j]?) : Ty w' j t := by
  obtain ⟨c, f, h⟩ := h
  exact ⟨c, f, e.trans h⟩
theorem below_drewN {n : Nat} {a w : World} (h : Below n a w) (q : Nat) : Below n a (w.drewN q) := h.trans ⟨rfl, rfl, rfl, Nat.le_refl _, fun _ _ => rfl⟩
theorem box_below (w : World) (o : Obj) : Below w.heap.size w (w.alloc o) := (Below.refl _ _).alloc (Nat.le_refl _) _
theorem two_boxes (w : World) (o o' : Obj) : Below w.heap.size w ((w.alloc o).alloc o') := ((Below.refl _ _).alloc (Nat.le_refl _) _).alloc (by simp) _

/-- The three cells of a ring. -/
def rc (r n f c : Nat) (i : Nat) : Value := if i = 0 then .slice (some ⟨r, 0, none⟩) n n else if i = 1 then .int .i64 f else .int .i64 c
/-- A RING LIES AT BLOCK g, ITS PLACES AT BLOCK r: n of them, the oldest thing at f; it has the things l. -/
def RingAt (w : World) (g r n f : Nat) (l : List Int) : Prop :=
  ∃ F, w.rowIs g 52 3 (rc r n f l.length) ∧ w.rowIs r 3 n F ∧ l.length ≤ n ∧ n ≤ 1024 ∧ (f < n ∨ n = 0 ∧ f = 0) ∧ ∀ i, i < l.length → F (pl f n i) = .int .i64 (Ls.nth l i)
theorem RingAt.of_block {w w' : World} {g r n f : Nat} {l : List Int} (h : RingAt w g r n f l) (h1 : w'.heap[g]? = w.heap[g]?) (h2 : w'.heap[r]? = w.heap[r]?) : RingAt w' g r n f l := by
  obtain ⟨F, a, b, c⟩ := h
  exact ⟨F, a.of_block h1, b.of_block h2, c⟩
theorem RingAt.lt {w : World} {g r n f : Nat} {l : List Int} (h : RingAt w g r n f l) : g < w.heap.size ∧ r < w.heap.size := by
  obtain ⟨F, a, b, _⟩ := h
  exact ⟨a.lt, b.lt⟩
theorem RingAt.ne {w : World} {g r n f : Nat} {l : List Int} (h : RingAt w g r n f l) : ¬ g = r := by
  obtain ⟨F, a, b, _⟩ := h
  exact (ty_row a).ne (ty_row b) (by decide)
theorem RingAt.nums {w : World} {g r n f : Nat} {l : List Int} (h : RingAt w g r n f l) : l.length ≤ n ∧ n ≤ 1024 ∧ (f < n ∨ n = 0 ∧ f = 0) := by
  obtain ⟨F, _, _, h1, h2, h3, _⟩ := h
  exact ⟨h1, h2, h3⟩
theorem RingAt.keep {w w' : World} {g r n f : Nat} {l : List Int} (h : RingAt w g r n f l) (hb : Below w.heap.size w w') : RingAt w' g r n f l :=
  h.of_block (hb.block _ h.lt.1) (hb.block _ h.lt.2)
theorem RingAt.cells {w : World} {g r n f : Nat} {l : List Int} (h : RingAt w g r n f l) :
    w.cell? ⟨g, 0, none⟩ = some (.slice (some ⟨r, 0, none⟩) n n) ∧ w.cell? ⟨g, 1, none⟩ = some (.int .i64 f) ∧ w.cell? ⟨g, 2, none⟩ = some (.int .i64 l.length) ∧ w.frozen? ⟨g, 1, none⟩ = false ∧ w.frozen? ⟨g, 2, none⟩ = false ∧ g < w.heap.size := by
  obtain ⟨F, a, _⟩ := h
  exact ⟨a.cell (show 0 < 3 by decide), a.cell (show 1 < 3 by decide), a.cell (show 2 < 3 by decide), a.frozen 1, a.frozen 2, a.lt⟩
theorem RingAt.thing {w : World} {g r n f : Nat} {l : List Int} (h : RingAt w g r n f l) {i : Nat} (hi : i < l.length) : w.cell? ⟨r, pl f n i, none⟩ = some (.int .i64 (Ls.nth l i)) := by
  obtain ⟨F, a, b, h1, h2, h3, h4⟩ := h
  rw [← h4 i hi]
  exact b.cell (pl_lt (by omega))
theorem RingAt.slot {w : World} {g r n f : Nat} {l : List Int} (h : RingAt w g r n f l) {i : Nat} (hi : 0 < n) : (∃ v, w.cell? ⟨r, pl f n i, none⟩ = some v) ∧ w.frozen? ⟨r, pl f n i, none⟩ = false := by
  obtain ⟨F, a, b, h1, h2, h3, h4⟩ := h
  exact ⟨⟨_, b.cell (pl_lt hi)⟩, b.frozen _⟩
/-- What a ring's call changes: its own two blocks. -/
def But (g r : Nat) (w w' : World) : Prop := Below 0 w w' ∧ ∀ j, j < w.heap.size → ¬ j = g → ¬ j = r → w'.heap[j]? = w.heap[j]?
theorem But.refl (g r : Nat) (w : World) : But g r w w := ⟨Below.refl _ _, fun _ _ _ _ => rfl⟩
theorem But.size {g r : Nat} {w w' : World} (h : But g r w w') : w.heap.size ≤ w'.heap.size := h.1.size
theorem But.trans {g r : Nat} {w v u : World} (h : But g r w v) (k : But g r v u) : But g r w u :=
  ⟨h.1.trans k.1, fun j h0 h1 h2 => by rw [k.2 j (Nat.lt_of_lt_of_le h0 h.size) h1 h2, h.2 j h0 h1 h2]⟩
theorem But.of_below {g r : Nat} {w v : World} (h : Below w.heap.size w v) : But g r w v := ⟨h.mono (Nat.zero_le _), fun j hj _ _ => h.block j hj⟩
theorem But.set {g r : Nat} {w v : World} (h : But g r w v) {p : Addr} (hp : p.block = g ∨ p.block = r) (y : Value) : But g r w (v.setCell p y) :=
  ⟨h.1.setCell (p := p) (Nat.zero_le _) y, fun j h0 h1 h2 => by
    rw [Below.heap_setCell _ _ _ _ (show j ≠ p.block by rcases hp with e | e <;> rw [e] <;> assumption)]
    exact h.2 j h0 h1 h2⟩
theorem But.drew {g r : Nat} {w v : World} (h : But g r w v) (n : Nat) : But g r w (v.drewN n) := h.trans ⟨below_drewN (Below.refl _ _) _, fun _ _ _ _ => rfl⟩
theorem But.below {g r B : Nat} {w v : World} (h : But g r w v) (hg : B ≤ g) (hr : B ≤ r) (hs : B ≤ w.heap.size) : Below B w v :=
  ⟨h.1.os, h.1.tape, h.1.output, h.1.size, fun j hj => h.2 j (by omega) (by omega) (by omega)⟩
theorem But.cell {g r : Nat} {w v : World} (h : But g r w v) {a : Addr} (hl : a.block < w.heap.size) (h1 : ¬ a.block = g) (h2 : ¬ a.block = r) : v.cell? a = w.cell? a := World.cell?_of_block (h.2 _ hl h1 h2)
end Rn
end Go.Proofs.Ytgjghnbhpnflfaa
