/- Structs with structs and lists in them that came in by value, opened (for the frames of layer 8's laws). -/
import Derived.Test.YtpifemahakbegaaStFrame
import Derived.Test.YtpifemahakbegaaSfWorld
import Derived.Deep.Slices
import Derived.Deep.Matrix
namespace Go.Proofs.Ytpifemahakbegaa
set_option linter.unusedVariables false
open Go.ChangeShapes Go.WideShapes

theorem open_wide {H : Type} {enc : TypeId × Value → H} {P : Program} {w : World} {base : Nat} {spare : Nat → Bool} {held : Bool} {t : TypeId} {fs : Array Field} {fuel : Nat} {cs : List Value} {x : DataW H × List MemPlace}
    (ht : P.underlying t = some (.struct fs)) (h : DataW.trod enc P w base spare held fuel t cs = some x) :
    ∃ n, ∀ (i : Nat) (f : Field), fs[i]? = some f → ∃ y, DataW.trod enc P w base spare held n f.type ((cs.drop f.offset).take (P.cellsOf f.type)) = some y := by
  obtain ⟨xs, n, _, _, _, hlen, hf⟩ := DataW.trod_struct ht h
  refine ⟨n, fun i f hi => ?_⟩
  have h1 := hf i f hi
  have hlt : i < fs.size := by
    rcases Nat.lt_or_ge i fs.size with h' | h'
    · exact h'
    · rw [Array.getElem?_eq_none h'] at hi; cases hi
  have hx : i < xs.length := by omega
  rw [List.getElem?_eq_getElem hx] at h1
  exact ⟨_, h1⟩
/-- A slice whose elements are k cells each. -/
theorem open_rows {H : Type} {enc : TypeId × Value → H} {P : Program} {w : World} {base : Nat} {spare : Nat → Bool} {held : Bool} {t e : TypeId} {fuel k : Nat} {v : Value} {x : DataW H × List MemPlace}
    (ht : P.underlying t = some (.slice e)) (hk : P.cellsOf e = k) (h : DataW.trod enc P w base spare held fuel t [v] = some x) :
    (v = .slice none 0 0) ∨ ∃ (a : Addr) (len cap n : Nat), v = .slice (some a) len cap ∧ len ≤ cap ∧ cap ≤ maxLen ∧
      ∀ i, i < len → ∃ cs : List Value, cs.length = k ∧ (∀ j, j < k → w.cell? (a.add (i * k + j)) = cs[j]?) ∧ ∃ y, DataW.trod enc P w base spare held n e cs = some y := by
  rcases Go.Deep.open_slice ht h with ⟨e0, _⟩ | ⟨a, len, cap, m, n, D, Pl, e0, _, hl, hm, hmm, _, hx⟩
  · simp only [List.cons.injEq, and_true] at e0; exact Or.inl e0
  · simp only [List.cons.injEq, and_true] at e0
    refine Or.inr ⟨a, len, cap, n, e0, hl, hm, fun i hi => ?_⟩
    obtain ⟨cs', h1, h2⟩ := hx i (by rw [hmm]; split <;> omega)
    rw [hk] at h1
    obtain ⟨_, hlen, hcell⟩ := World.cells?_some h1
    refine ⟨cs', hlen, fun j hj => ?_, _, h2⟩
    have := hcell j hj
    rw [Go.Deep.add_add] at this
    exact this
/-- A slice of groups that came in. -/
def IsGroups (w : World) (a : Option Addr) (len cap : Nat) : Prop :=
  (a = none ∧ len = 0 ∧ cap = 0) ∨ ∃ x, a = some x ∧ len ≤ cap ∧ cap ≤ maxLen ∧ ∀ i, i < len → ∃ (z sc : Int) (b : Option Addr) (l c : Nat) (zs : List Int),
    w.cell? (x.add (i * 3)) = some (.int .i32 z) ∧ w.cell? (x.add (i * 3 + 1)) = some (.int .u32 sc) ∧ w.cell? (x.add (i * 3 + 2)) = some (.slice b l c) ∧ (Lit.int .i32 z).wf = true ∧ (Lit.int .u32 sc).wf = true ∧
    ((b = none ∧ l = 0 ∧ c = 0 ∧ zs = []) ∨ ∃ y, b = some y ∧ l ≤ c ∧ c ≤ maxLen ∧ zs.length = c ∧ (∀ i, i < zs.length → w.cell? (y.add i) = some (.int .i64 (zs.getD i 0))) ∧ ∀ n ∈ zs, (Lit.int .i64 n).wf = true)
theorem open_groups {H : Type} {enc : TypeId × Value → H} {P : Program} {w : World} {base : Nat} {t e tn : TypeId} {f0 f1 f2 : Field} {fuel : Nat} {v : Value} {x : DataW H × List MemPlace}
    (ht : P.underlying t = some (.slice e)) (hk : P.cellsOf e = 3) (he : P.underlying e = some (.struct #[f0, f1, f2])) (hone : Go.Deep.oneCellFields P #[f0, f1, f2] = true)
    (h0 : P.underlying f0.type = some (.int .i32)) (h1 : P.underlying f1.type = some (.int .u32)) (h2 : P.underlying f2.type = some (.slice tn)) (h3 : P.underlying tn = some (.int .i64)) (hc : P.cellsOf tn = 1)
    (h : DataW.trod enc P w base (fun _ => true) true fuel t [v] = some x) : ∃ a len cap, v = .slice a len cap ∧ IsGroups w a len cap := by
  rcases open_rows ht hk h with rfl | ⟨a, len, cap, n, rfl, hl, hm, hall⟩
  · exact ⟨none, 0, 0, rfl, Or.inl ⟨rfl, rfl, rfl⟩⟩
  · refine ⟨some a, len, cap, rfl, Or.inr ⟨a, rfl, hl, hm, fun i hi => ?_⟩⟩
    obtain ⟨cs, hlen, hcell, y, hy⟩ := hall i hi
    obtain ⟨c0, c1, c2, rfl⟩ : ∃ c0 c1 c2, cs = [c0, c1, c2] := by
      match cs, hlen with
      | [c0, c1, c2], _ => exact ⟨c0, c1, c2, rfl⟩
    obtain ⟨k, hk⟩ := open_fields he hone (cs := [c0, c1, c2]) rfl hy
    obtain ⟨y0, hy0⟩ := hk 0 _ _ rfl rfl
    obtain ⟨y1, hy1⟩ := hk 1 _ _ rfl rfl
    obtain ⟨y2, hy2⟩ := hk 2 _ _ rfl rfl
    obtain ⟨z, e0, _, w0⟩ := DataW.trod_int h0 hy0
    obtain ⟨s, e1, _, w1⟩ := DataW.trod_int h1 hy1
    simp only [List.cons.injEq, and_true] at e0 e1
    subst e0 e1
    have g0 := hcell 0 (by omega)
    have g1 := hcell 1 (by omega)
    have g2 := hcell 2 (by omega)
    rw [Nat.add_zero] at g0
    rcases open_ints h2 h3 hc hy2 with ⟨hcs, _⟩ | ⟨x', l', c', zs, hcs, _, hl', hm', hz, _, hcell', hwz⟩
    · simp only [List.cons.injEq, and_true] at hcs
      subst hcs
      exact ⟨z, s, none, 0, 0, [], g0, g1, g2, w0, w1, Or.inl ⟨rfl, rfl, rfl, rfl⟩⟩
    · simp only [List.cons.injEq, and_true] at hcs
      subst hcs
      exact ⟨z, s, some x', l', c', zs, g0, g1, g2, w0, w1, Or.inr ⟨x', rfl, hl', hm', by simpa using hz, hcell', hwz⟩⟩
end Go.Proofs.Ytpifemahakbegaa
