/- Contracts of package pack and of the document's own answers of layer 5 that read lists. -/
import Derived.Test.YtpifemahakbegaaPkCalls
namespace Go.Proofs.Ytpifemahakbegaa
set_option linter.unusedVariables false
open Go.RowKit

theorem div_cast {v : Int} (h0 : 0 ≤ v) (s : Nat) : v / 2 ^ s = ((v.toNat / 2 ^ s : Nat) : Int) := by
  rw [Int.natCast_ediv, Int.natCast_pow]
  congr 1
  omega
theorem and_low {x : Int} {b m q n : Nat} (hb : b ≤ 8) (hm : 2 ^ b - 1 = m) (hx : x % 18446744073709551616 = ((n % 18446744073709551616 : Nat) : Int)) (hq : n % 2 ^ b = q) : bits .and .i64 x m = q := by
  have p8 : 2 ^ b ≤ 256 := Pk.two_le (t := 8) hb
  have p0 := Nat.two_pow_pos b
  have hq8 : q < 2 ^ b := by rw [← hq]; exact Nat.mod_lt _ p0
  have e1 : (BitVec.ofInt 64 x).toNat = n % 18446744073709551616 := by
    rw [BitVec.toNat_ofInt]
    show (x % 18446744073709551616).toNat = _
    rw [hx]
    rfl
  have e2 : (BitVec.ofInt 64 (m : Int)).toNat = 2 ^ b - 1 := by
    rw [BitVec.toNat_ofInt, hm]
    show ((m : Int) % 18446744073709551616).toNat = _
    omega
  show IntKind.i64.wrap ((BitVec.ofInt 64 x &&& BitVec.ofInt 64 (m : Int)).toNat : Int) = _
  rw [BitVec.toNat_and, e1, e2, Nat.and_two_pow_sub_one_eq_mod, ← Pk.two_64, Nat.mod_mod_of_dvd _ (Nat.pow_dvd_pow 2 (show b ≤ 64 by omega)), hq, IntKind.wrap_i64]
  omega
theorem wrap_low (n : Nat) : wrap64 (n : Int) % 18446744073709551616 = ((n % 18446744073709551616 : Nat) : Int) := by
  unfold wrap64
  omega
theorem and_mask {v : Int} {s b m q : Nat} (h0 : 0 ≤ v) (hb : b ≤ 8) (hm : 2 ^ b - 1 = m) (hq : v.toNat / 2 ^ s % 2 ^ b = q) : bits .and .i64 (wrap64 (v / 2 ^ s)) m = q := by
  have e := div_cast h0 s
  obtain ⟨n, en⟩ : ∃ n, v.toNat / 2 ^ s = n := ⟨_, rfl⟩
  rw [en] at hq e
  rw [e]
  exact and_low hb hm (wrap_low n) hq

end Go.Proofs.Ytpifemahakbegaa
