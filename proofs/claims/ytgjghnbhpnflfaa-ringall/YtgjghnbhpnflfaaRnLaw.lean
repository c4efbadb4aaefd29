/- What layer 12's laws share: a slice of pairs, a list of numbers that came in. -/
import Derived.Test.YtgjghnbhpnflfaaRnStep3
import Derived.Test.YtgjghnbhpnflfaaStFrame
import Derived.Deep.SlicePairs
import Derived.Deep.Slices
import Derived.ChangeArms
namespace Go.Proofs.Ytgjghnbhpnflfaa
set_option linter.unusedVariables false
open Go.RowKit Go.Shelf

/-- The frame's word of a slice of pairs of numbers that came in. -/
def IsPairs (w : World) (a : Option Addr) (len cap : Nat) : Prop :=
  (a = none ∧ len = 0 ∧ cap = 0) ∨
  ∃ x, a = some x ∧ len ≤ cap ∧ cap ≤ maxLen ∧ ∀ i, i < len → ∃ k n : Int, w.cell? (x.add (i * 2)) = some (.int .i64 k) ∧ w.cell? (x.add (i * 2 + 1)) = some (.int .i64 n) ∧ (-9223372036854775808 ≤ n ∧ n ≤ 9223372036854775807)
/-- THE SLICE AT a READS AS n PAIRS, the i-th one K i and N i. -/
def Prs (w : World) (a : Option Addr) (n : Nat) (K N : Nat → Int) : Prop :=
  ∀ i, i < n → ∃ b o, a = some ⟨b, o, none⟩ ∧ w.cell? ⟨b, o + i * 2, none⟩ = some (.int .i64 (K i)) ∧ w.cell? ⟨b, o + i * 2 + 1, none⟩ = some (.int .i64 (N i))
theorem Prs.keep {w w' : World} {a : Option Addr} {n : Nat} {K N : Nat → Int} (h : Prs w a n K N) (hb : Below w.heap.size w w') : Prs w' a n K N := fun i hi => by
  obtain ⟨b, o, e, h1, h2⟩ := h i hi
  have hlt := World.block_lt_of_cell? w _ h1
  refine ⟨b, o, e, ?_, ?_⟩
  · rw [hb.cell (p := ⟨b, o + i * 2, none⟩) hlt]; exact h1
  · rw [hb.cell (p := ⟨b, o + i * 2 + 1, none⟩) hlt]; exact h2
theorem pairs_open {w : World} {a : Option Addr} {len cap : Nat} (h : IsPairs w a len cap) :
    ∃ K N : Nat → Int, Prs w a len K N ∧ (∀ i, i < len → -9223372036854775808 ≤ N i ∧ N i ≤ 9223372036854775807) ∧ len ≤ maxLen := by
  rcases h with ⟨rfl, rfl, rfl⟩ | ⟨x, rfl, h1, h2, h3⟩
  · exact ⟨fun _ => 0, fun _ => 0, fun i hi => by omega, fun i hi => by omega, Nat.zero_le _⟩
  · have each : ∀ i, i < len → ∃ q : Int × Int, w.cell? (x.add (i * 2)) = some (.int .i64 q.1) ∧ w.cell? (x.add (i * 2 + 1)) = some (.int .i64 q.2) ∧ (-9223372036854775808 ≤ q.2 ∧ q.2 ≤ 9223372036854775807) := by
      intro i hi
      obtain ⟨k, n, q⟩ := h3 i hi
      exact ⟨(k, n), q⟩
    obtain ⟨q, hq⟩ := Go.Deep.choose_lt each
    refine ⟨fun i => (q i).1, fun i => (q i).2, ?_, fun i hi => (hq i hi).2.2, by omega⟩
    intro i hi
    have h0 := (hq 0 (by omega)).1
    have hs : x.spot = none := by
      simp [Addr.add, World.cell?] at h0
      cases hx : x.spot
      · rfl
      · rw [hx] at h0; simp at h0; split at h0 <;> simp_all
    obtain ⟨b, o, sp⟩ := x
    simp at hs
    subst hs
    have c1 := (hq i hi).1
    have c2 := (hq i hi).2.1
    rw [Addr.add_lit] at c1 c2
    exact ⟨b, o, rfl, c1, by rw [Nat.add_assoc]; exact c2⟩

theorem row_openI {w : World} {a : Option Addr} {len cap : Nat} {zs : List Int}
    (h : (a = none ∧ len = 0 ∧ cap = 0 ∧ zs = []) ∨ ∃ x, a = some x ∧ len ≤ cap ∧ cap ≤ maxLen ∧ zs.length = cap ∧ (∀ i, i < zs.length → w.cell? (x.add i) = some (.int .i64 (zs.getD i 0))) ∧ ∀ n ∈ zs, (Lit.int .i64 n).wf = true) :
    ∃ l : List Int, l.length = len ∧ Lst .i64 w a l ∧ len ≤ maxLen := by
  rcases h with ⟨rfl, rfl, rfl, rfl⟩ | ⟨x, rfl, h1, h2, h3, h4, h5⟩
  · exact ⟨[], rfl, Lst.nil _ _ _, Nat.zero_le _⟩
  · exact ⟨zs.take len, by simp; omega, lst_of_cells (by omega) h4, by omega⟩

namespace Rn
theorem own_list {w : World} {base N c : Nat} {t : TypeId} {a : Option Addr} {l : List Int} (h : w.ownsRow base t 1 (.slice a N c) N (l.map (Value.int .i64))) (hN : l.length = N) : Lst .i64 w a l := by
  obtain ⟨a', c', e, hl⟩ := lst_of_ownm h hN.symm
  cases e
  exact hl
theorem box_snd (w : World) (o : Obj) (v : Value) (t : TypeId) : Boxed ((w.alloc o).alloc (.cells #[v] t)) (w.heap.size + 1) t v := by
  have := Boxed.new (w.alloc o) t v
  rw [World.size_alloc] at this
  exact this
theorem lst_not_box {w : World} {a : Option Addr} {l : List Int} {B : Nat} {t : TypeId} {sa : Option Addr} {sl sc : Nat} (h : Lst .i64 w a l) (hl : 0 < l.length) (hb : Boxed w B t (.slice sa sl sc)) : ∀ x, a = some x → ¬ x.block = B := fun x ex e => by
  obtain ⟨b, o, e2, hc⟩ := h 0 hl
  rw [e2] at ex
  cases ex
  have e : b = B := e
  subst e
  have hb' : w.heap[b]? = some (.cells #[.slice sa sl sc] t (0, 0)) := hb
  simp [World.cell?, hb'] at hc
  cases o with
  | zero => simp at hc
  | succ o => simp at hc
theorem lst_set {w : World} {a : Option Addr} {l : List Int} {p : Addr} {y : Value} (h : Lst .i64 w a l) (hn : 0 < l.length → ∀ x, a = some x → ¬ x.block = p.block) : Lst .i64 (w.setCell p y) a l := fun i hi => by
  obtain ⟨b, o, e, hc⟩ := h i hi
  refine ⟨b, o, e, ?_⟩
  have := hn (by omega) _ e
  rw [World.cell?_of_block (a := ⟨b, o + i, none⟩) (Below.heap_setCell _ _ _ _ (show b ≠ p.block from this))]
  exact hc
theorem lst_ownFrom {β : Type} (B : Nat) (a : Option Addr) (l : List Int) : OwnFrom (β := β) B (fun _ W => Lst .i64 W a l) := fun s A A' row hs hg hr i hi => by
  obtain ⟨b, o, e, hc⟩ := hs i hi
  refine ⟨b, o, e, ?_⟩
  rw [World.cell?_of_block (a := ⟨b, o + i, none⟩) (hg.block b (World.block_lt_of_cell? A _ hc) fun e2 => ?_)]
  · exact hc
  · obtain ⟨_, ob, q1, q2⟩ := hr b e2.symm
    simp [World.cell?, q1] at hc
    cases ob <;> simp_all [Obj.isCells]
theorem But.box {g r n f B : Nat} {l : List Int} {w w' : World} {t : TypeId} {v : Value} (h : But g r w w') (hr : RingAt w g r n f l) (hb : Boxed w B t v) (e1 : ¬ t = 52) (e2 : ¬ t = 3) : Boxed w' B t v := by
  obtain ⟨F, h1, h2, _⟩ := hr
  exact (h.2 B hb.lt ((ty_box hb).ne (ty_row h1) e1) ((ty_box hb).ne (ty_row h2) e2)).trans hb
theorem St.set {B : Nat} {w : World} {g q n f : Nat} {l : List Int} {a : Option Addr} {ca Bx : Nat} {t : TypeId} {sa : Option Addr} {sl sc : Nat} {y : Value} (h : St B w g q n f l a ca) (hb : Boxed w Bx t (.slice sa sl sc)) (e1 : ¬ t = 52) (e2 : ¬ t = 3) : St B (w.setCell ⟨Bx, 0, none⟩ y) g q n f l a ca := by
  obtain ⟨h1, h2, h3⟩ := h
  have h1' := h1
  obtain ⟨F, r1, r2, _⟩ := h1'
  exact ⟨h1.of_block (Below.heap_setCell _ _ _ _ (show g ≠ Bx from fun e => (ty_row r1).ne (ty_box hb) (fun e => e1 e.symm) e)) (Below.heap_setCell _ _ _ _ (show q ≠ Bx from fun e => (ty_row r2).ne (ty_box hb) (fun e => e2 e.symm) e)), lst_set h2 (fun hl => lst_not_box h2 hl hb), h3.1, h3.2.1, h3.2.2.1, h3.2.2.2.1, h3.2.2.2.2.1, h3.2.2.2.2.2.1, by have := ((Below.refl 0 w).setCell (p := ⟨Bx, 0, none⟩) (Nat.zero_le _) y).size; have := h3.2.2.2.2.2.2; omega⟩
end Rn
end Go.Proofs.Ytgjghnbhpnflfaa
