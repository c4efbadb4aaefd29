/- The contract of the document's own packing (layer 5), bit by bit. -/
import Derived.Test.YtpifemahakbegaaPkMakes
import Derived.Laws.OwnMore
import Derived.Deep.RegionWith
namespace Go.Proofs.Ytpifemahakbegaa
set_option linter.unusedVariables false
open Go.RowKit
attribute [local go_sem ↓] Go.wp_at_zero Go.wp_at_succ

/-- The words of the codes before i, and of the code i the bits before j. -/
def midw (b : Nat) (l : List Int) (i j t : Nat) : Nat := Pk.acc b l t i + if Pk.word b i = t then (Ls.nth l i).toNat % 2 ^ j * 2 ^ Pk.shift b i else 0
theorem midw_zero (b : Nat) (l : List Int) (i t : Nat) : midw b l i 0 t = Pk.acc b l t i := by unfold midw; simp [Nat.mod_one]
theorem midw_all {b : Nat} {l : List Int} {i t : Nat} (hc : Pk.Cds b l) : midw b l i b t = Pk.acc b l t (i + 1) := by
  unfold midw
  by_cases e : Pk.word b i = t
  · rw [if_pos e, Pk.acc_here e, Nat.mod_eq_of_lt (hc i).2]
  · rw [if_neg e, Pk.acc_else e, Nat.add_zero]
theorem midw_lt {b : Nat} {l : List Int} (i j : Nat) (h : Pk.Ok b) (hc : Pk.Cds b l) (hj : j ≤ b) : midw b l i j (Pk.word b i) < 18446744073709551616 := by
  unfold midw
  rw [if_pos rfl]
  have h1 := (Pk.acc_low (Pk.word b i) i h hc).2.1 rfl
  have h2 : (Ls.nth l i).toNat % 2 ^ j < 2 ^ b := Nat.lt_of_lt_of_le (Nat.mod_lt _ (Nat.two_pow_pos _)) (Pk.two_le hj)
  have h3 := Pk.on_top h1 h2
  have h4 : 2 ^ (Pk.shift b i + b) ≤ 2 ^ 64 := Pk.two_le (Pk.shift_le i h)
  rw [Pk.two_64] at h4
  omega
theorem midw_step {b : Nat} {l : List Int} {i j : Nat} : midw b l i (j + 1) (Pk.word b i) = midw b l i j (Pk.word b i) + Pk.bit (Ls.nth l i).toNat j * 2 ^ (Pk.shift b i + j) := by
  unfold midw
  rw [if_pos rfl, if_pos rfl, Pk.bits_more0, Nat.add_mul, Nat.add_assoc, Nat.mul_assoc, ← Nat.pow_add, Nat.add_comm j]
theorem midw_else {b : Nat} {l : List Int} {i j t : Nat} (h : ¬ t = Pk.word b i) : midw b l i (j + 1) t = midw b l i j t := by
  unfold midw
  rw [if_neg (by omega), if_neg (by omega)]

theorem gen_set {n : Nat} {F G : Nat → Nat} {t : Nat} {y : Nat} (k : IntKind) (ht : t < n) (hy : y = G t) (hG : ∀ j, ¬ j = t → G j = F j) :
    (((Ls.gen n fun j => (F j : Int)).map (Value.int k)).set t (.int k (y : Int))) = (Ls.gen n fun j => (G j : Int)).map (Value.int k) := by
  apply List.ext_getElem
  · simp [Ls.gen]
  · intro i h1 h2
    simp [Ls.gen] at h1 h2
    rw [List.getElem_set]
    by_cases e : t = i
    · subst e
      simp [Ls.gen, hy]
    · rw [if_neg e]
      simp [Ls.gen, hG i (by omega)]
theorem gen_at {n : Nat} {F : Nat → Nat} {t : Nat} (k : IntKind) (ht : t < n) : ((Ls.gen n fun j => (F j : Int)).map (Value.int k))[t]? = some (.int k (F t : Int)) := by
  simp [Ls.gen, ht]
theorem gen_snoc0 {w : World} {base : Nat} {t : TypeId} {v : Value} {k : Nat} {F : Nat → Int} {y : Int} (h : w.ownsRow base t 1 v (k + 1) ((Ls.gen k F).map (Value.int .u64) ++ [.int .u64 y])) (e : y = F k) :
    w.ownsRow base t 1 v (k + 1) ((Ls.gen (k + 1) F).map (Value.int .u64)) := by
  rw [Ls.gen_succ, List.map_append]
  subst e
  exact h

end Go.Proofs.Ytpifemahakbegaa
