/- Contracts of Close and Open of package seal. -/
import Derived.Test.YtpifemahakbegaaSlMakes
import Derived.Test.YtpifemahakbegaaSlRefs
namespace Go.Proofs.Ytpifemahakbegaa
set_option linter.unusedVariables false
open Go.RowKit

theorem Sl.byt_take {l : List Int} (hb : Sl.Byt l) (k : Nat) : Sl.Byt (l.take k) := by
  apply Sl.byt_mk
  intro i hi
  simp at hi
  rw [Ls.nth_take (by omega)]
  exact hb i
theorem Sl.byt_dropn {l : List Int} (hb : Sl.Byt l) (k : Nat) : Sl.Byt (l.drop k) := by
  intro i
  rw [Ls.nth_drop]
  exact hb _
theorem Sl.sealed_iff {l : List Int} (hb : Sl.Byt l) (hn : 4 ≤ l.length) : Sl.sealed l = true ↔ Sl.num (l.drop (l.length - 4)) = Sl.sum (l.take (l.length - 4)) := by
  have hd : (l.drop (l.length - 4)).length = 4 := by simp; omega
  have e0 : Sl.be 4 (Sl.num (l.drop (l.length - 4))) = l.drop (l.length - 4) := by
    have := Sl.be_num (Sl.byt_dropn hb (l.length - 4))
    rw [hd] at this
    exact this
  unfold Sl.sealed
  rw [decide_eq_true_iff]
  unfold Sl.close
  constructor
  · intro h
    have h2 : l.take (l.length - 4) ++ Sl.be 4 (Sl.sum (l.take (l.length - 4))) = l.take (l.length - 4) ++ l.drop (l.length - 4) := by rw [h, List.take_append_drop]
    have h3 := List.append_cancel_left h2
    rw [← e0] at h3
    refine (Sl.be_inj ?_ ?_ h3).symm
    · rw [Sl.four]; exact Sl.sum_lt _
    · have := Sl.numN_lt (Sl.byt_dropn hb (l.length - 4)) (l.drop (l.length - 4)).length
      rw [hd] at this
      unfold Sl.num
      rw [hd]
      exact this
  · intro h
    rw [← h, e0, List.take_append_drop]

theorem Lst.behind {k : IntKind} {w : World} {a : Option Addr} {l : List Int} (h : Lst k w a l) (t : Nat) : Lst k w (Option.map (fun x => x.add t) a) (l.drop t) := fun i hi => by
  simp at hi
  obtain ⟨b, o, e, hc⟩ := h (t + i) (by omega)
  subst e
  refine ⟨b, o + t, ?_, by rw [Ls.nth_drop, Nat.add_assoc]; exact hc⟩
  rw [Option.map_some, Addr.add_lit]
end Go.Proofs.Ytpifemahakbegaa
