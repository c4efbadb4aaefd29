/- Plain arithmetic of layer 12: places that go round. -/
import Derived.Test.YtgjghnbhpnflfaaLsMath
namespace Go.Proofs.Ytgjghnbhpnflfaa
set_option linter.unusedVariables false
namespace Rn

/-- Where the thing i lies, the oldest one at f, of n places. -/
def pl (f n i : Nat) : Nat := (f + i) % n
theorem pl_lt {f n i : Nat} (h : 0 < n) : pl f n i < n := Nat.mod_lt _ h
theorem pl_inj {f n i j : Nat} (hf : f < n) (hi : i < n) (hj : j < n) (h : pl f n i = pl f n j) : i = j := by
  unfold pl at h
  have e : ∀ x, x < n → (f + x) % n = if f + x < n then f + x else f + x - n := fun x hx => by
    split
    · rename_i h; exact Nat.mod_eq_of_lt h
    · rename_i h
      rw [Nat.mod_eq_sub_mod (by omega), Nat.mod_eq_of_lt (by omega)]
  rw [e i hi, e j hj] at h
  split at h <;> split at h <;> omega
theorem pl_shift (f n k i : Nat) : pl (pl f n k) n i = pl f n (k + i) := by
  unfold pl
  rw [Nat.mod_add_mod, Nat.add_assoc]
theorem pl_zero {f n : Nat} (h : f < n) : pl f n 0 = f := Nat.mod_eq_of_lt (by omega)
end Rn
end Go.Proofs.Ytgjghnbhpnflfaa
