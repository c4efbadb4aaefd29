/- Sealed bytes of which one is another one. -/
import Derived.Test.YteefkohogcghjaaSlAwake
namespace Go.Proofs.Yteefkohogcghjaa
set_option linter.unusedVariables false
open Go.RowKit

theorem nth_set {l : List Int} {p : Nat} {c : Int} (hp : p < l.length) (j : Nat) : Ls.nth (l.set p c) j = if j = p then c else Ls.nth l j := by
  unfold Ls.nth
  rw [List.getD_eq_getElem?_getD, List.getD_eq_getElem?_getD, List.getElem?_set]
  by_cases e : j = p
  · subst e
    simp [hp]
  · have e2 : ¬ p = j := fun h => e h.symm
    simp [e, e2]
theorem Sl.byt_set {l : List Int} {p : Nat} {c : Int} (hp : p < l.length) (h : Sl.Byt l) (h0 : 0 ≤ c) (h1 : c < 256) : Sl.Byt (l.set p c) := by
  intro j
  rw [nth_set hp]
  split
  · exact ⟨h0, h1⟩
  · exact h j
theorem Sl.set_bad {x : List Int} {p : Nat} {c : Int} (hp : p < (Sl.close x).length) (hb : Sl.Byt x) (h0 : 0 ≤ c) (h1 : c < 256) (hne : ¬ Ls.nth (Sl.close x) p = c) : Sl.sealed ((Sl.close x).set p c) = false := by
  refine Sl.sealed_one (j := p) hb (Sl.byt_set hp (Sl.close_byt hb) h0 h1) (by simp) (by simpa using hp) ?_ ?_
  · rw [nth_set hp, if_pos rfl]
    exact fun e => hne e.symm
  · intro i hi
    rw [nth_set hp, if_neg hi]
theorem row_set {w : World} {g : Nat} {t : TypeId} {T p : Nat} {l : List Int} {c : Int} (h : w.rowIs g t T (fun j => .int .u8 (Ls.nth l j))) (hl : l.length = T) (hp : p < T) : (w.setCell ⟨g, p, none⟩ (.int .u8 c)).rowIs g t T (fun j => .int .u8 (Ls.nth (l.set p c) j)) := by
  refine (h.set p (.int .u8 c)).congr ?_
  intro j hj
  rw [nth_set (by omega)]
  by_cases e : j = p
  · rw [if_pos e, if_pos e]
  · rw [if_neg e, if_neg e]
end Go.Proofs.Yteefkohogcghjaa
