/- A slice of slices of 32 bit numbers in memory reads as a table: what that says, and that it stands as long as nothing old is turned. -/
import Derived.Test.YtpifemahakbegaaLsWorld
import Derived.Test.YtpifemahakbegaaSfMath
import Derived.Deep.Matrix
namespace Go.Proofs.Ytpifemahakbegaa
set_option linter.unusedVariables false
open Go.RowKit

/-- THE SLICE OF SLICES THAT BEGINS AT a READS AS THE TABLE ls. -/
def Tbl (w : World) (a : Option Addr) (ls : List (List Int)) : Prop :=
  ∀ i, i < ls.length → ∃ b o A C, a = some ⟨b, o, none⟩ ∧ w.cell? ⟨b, o + i, none⟩ = some (.slice A (Tb.row ls i).length C) ∧ Lst .i32 w A (Tb.row ls i) ∧ (Tb.row ls i).length ≤ maxLen

theorem Tbl.get {w : World} {a : Option Addr} {ls : List (List Int)} (h : Tbl w a ls) {i : Nat} (hi : i < ls.length) :
    ∃ b o, a = some ⟨b, o, none⟩ ∧ ∀ j, j < ls.length → ∃ A C, w.cell? ⟨b, o + j, none⟩ = some (.slice A (Tb.row ls j).length C) ∧ Lst .i32 w A (Tb.row ls j) ∧ (Tb.row ls j).length ≤ maxLen := by
  obtain ⟨b, o, A, C, rfl, _⟩ := h i hi
  refine ⟨b, o, rfl, fun j hj => ?_⟩
  obtain ⟨b', o', A', C', e, hc⟩ := h j hj
  simp at e
  obtain ⟨rfl, rfl⟩ := e
  exact ⟨A', C', hc⟩

theorem Tbl.keep {w w' : World} {a : Option Addr} {ls : List (List Int)} (h : Tbl w a ls) (hb : Below w.heap.size w w') : Tbl w' a ls := fun i hi => by
  obtain ⟨b, o, A, C, e, hc, hL, hm⟩ := h i hi
  refine ⟨b, o, A, C, e, ?_, hL.keep hb, hm⟩
  rw [hb.cell (p := ⟨b, o + i, none⟩) (World.block_lt_of_cell? w _ hc)]
  exact hc

theorem Tbl.draws {w : World} {a : Option Addr} {ls : List (List Int)} (h : Tbl w a ls) (n : Nat) : Tbl (w.drewN n) a ls := fun i hi => by
  obtain ⟨b, o, A, C, e, hc, hL, hm⟩ := h i hi
  exact ⟨b, o, A, C, e, by simpa using hc, hL.draws n, hm⟩

/-- What the walk is told of a slice of slices that came in. -/
def IsTable (w : World) (a : Option Addr) (len cap : Nat) : Prop :=
  (a = none ∧ len = 0 ∧ cap = 0) ∨
  ∃ (x : Addr) (A : Nat → Option Addr) (L C : Nat → Nat) (Z : Nat → List Int), a = some x ∧ len ≤ cap ∧ cap ≤ maxLen ∧
    ∀ r, r < cap → w.cell? (x.add r) = some (.slice (A r) (L r) (C r)) ∧ L r ≤ C r ∧ C r ≤ maxLen ∧ (Z r).length = C r ∧ (∀ n ∈ Z r, (Lit.int .i32 n).wf = true) ∧ (A r = none → C r = 0) ∧
      ∀ a', A r = some a' → ∀ c, c < C r → w.cell? (a'.add c) = some (.int .i32 ((Z r).getD c 0))

theorem addr_plain {w : World} {x : Addr} {v : Value} (h : w.cell? x = some v) : ∃ b o, x = ⟨b, o, none⟩ := by
  obtain ⟨b, o, s⟩ := x
  have := World.cell?_spot h
  simp at this
  subst this
  exact ⟨b, o, rfl⟩

theorem table_open {w : World} {a : Option Addr} {len cap : Nat} (h : IsTable w a len cap) :
    ∃ ls : List (List Int), ls.length = len ∧ Tbl w a ls ∧ (∀ k, Ls.In32 (Tb.row ls k)) ∧ len ≤ maxLen ∧ len ≤ cap ∧ cap ≤ maxLen ∧ (a = none → cap = 0) := by
  rcases h with ⟨rfl, rfl, rfl⟩ | ⟨x, A, L, C, Z, rfl, h1, h2, h3⟩
  · exact ⟨[], rfl, fun i hi => by simp at hi, fun k i => by rw [Tb.row_past (by simp), Ls.nth_nil]; omega, Nat.zero_le _, Nat.zero_le _, Nat.zero_le _, fun _ => rfl⟩
  · have hrow : ∀ r, r < len → Tb.row ((List.range len).map fun r => (Z r).take (L r)) r = (Z r).take (L r) := fun r hr => Tb.row_map_range (fun r => (Z r).take (L r)) hr
    refine ⟨(List.range len).map fun r => (Z r).take (L r), by simp, ?_, ?_, by omega, h1, h2, fun e => by cases e⟩
    · intro i hi
      simp at hi
      rw [hrow i hi]
      obtain ⟨hc, hl, hm, hz, _, hn, hcell⟩ := h3 i (by omega)
      have hlen : ((Z i).take (L i)).length = L i := by simp; omega
      rw [hlen]
      have h0 := (h3 0 (by omega)).1
      have e0 : x.add 0 = x := by simp [Addr.add]
      rw [e0] at h0
      obtain ⟨b, o, rfl⟩ := addr_plain h0
      refine ⟨b, o, A i, C i, rfl, by rw [← Addr.add_lit]; exact hc, ?_, by omega⟩
      cases hA : A i with
      | none =>
        have := hn hA
        intro j hj
        rw [hlen] at hj
        omega
      | some a' => exact lst_of_cells (by omega) (fun j hj => hcell a' hA j (by omega))
    · intro k
      by_cases hk : k < len
      · rw [hrow k hk]
        apply Ls.In32.take
        apply Ls.in32_mk
        intro i hi
        exact bounds_i32 ((h3 k (by omega)).2.2.2.2.1 _ (Ls.nth_mem hi))
      · rw [Tb.row_past (by simp; omega)]
        intro i
        rw [Ls.nth_nil]
        omega

/-- Out of the frame's own word of a slice of 64 bit numbers that came in. -/
theorem row_open64 {w : World} {a : Option Addr} {len cap : Nat} {zs : List Int}
    (h : (a = none ∧ len = 0 ∧ cap = 0 ∧ zs = []) ∨ ∃ x, a = some x ∧ len ≤ cap ∧ cap ≤ maxLen ∧ zs.length = cap ∧ (∀ i, i < zs.length → w.cell? (x.add i) = some (.int .i64 (zs.getD i 0))) ∧ ∀ n ∈ zs, (Lit.int .i64 n).wf = true) :
    ∃ l : List Int, l.length = len ∧ Lst .i64 w a l ∧ len ≤ maxLen ∧ len ≤ cap ∧ cap ≤ maxLen ∧ (a = none → cap = 0) := by
  rcases h with ⟨rfl, rfl, rfl, rfl⟩ | ⟨x, rfl, h1, h2, h3, h4, h5⟩
  · exact ⟨[], rfl, Lst.nil _ _ _, Nat.zero_le _, Nat.zero_le _, Nat.zero_le _, fun _ => rfl⟩
  · exact ⟨zs.take len, by simp; omega, lst_of_cells (by omega) h4, by omega, h1, h2, fun e => by cases e⟩

/-- A slice of slices that the call itself made. -/
theorem tbl_of_own {w : World} {base : Nat} {t : TypeId} {v : Value} {n : Nat} {vals : List Value} {ls : List (List Int)} {A : Nat → Option Addr} {C : Nat → Nat} (h : w.ownsRow base t 1 v n vals) (hn : n = ls.length)
    (hv : ∀ i, i < ls.length → vals[i]? = some (.slice (A i) (Tb.row ls i).length (C i)) ∧ Lst .i32 w (A i) (Tb.row ls i) ∧ (Tb.row ls i).length ≤ maxLen) : ∃ a cap, v = .slice a n cap ∧ Tbl w a ls := by
  have h' := h
  rcases h.2 with ⟨rfl, hz⟩ | ⟨g, cap, cur, rfl, hb, hg, h1, h2, h3, h4⟩
  · exact ⟨none, 0, by rw [hz], fun i hi => by omega⟩
  · refine ⟨_, cap, rfl, fun i hi => ?_⟩
    obtain ⟨e, hL, hm⟩ := hv i hi
    exact ⟨g, 0, A i, C i, rfl, by rw [Nat.zero_add, h'.cellAt i (by omega)]; exact e, hL, hm⟩
end Go.Proofs.Ytpifemahakbegaa
