/- Contracts of package seal and of the document's answers, where no new bytes are made. -/
import Derived.Test.YtpifemahakbegaaLsWorld
import Derived.Test.YtpifemahakbegaaSlText
namespace Go.Proofs.Ytpifemahakbegaa
set_option linter.unusedVariables false
open Go.RowKit

theorem xor32 {n : Nat} {x : Int} (hn : n < 4294967296) (h0 : 0 ≤ x) (h1 : x < 256) : bits .xor .u32 (n : Int) x = ((n ^^^ x.toNat : Nat) : Int) := by
  obtain ⟨y, ey⟩ : ∃ y : Nat, x = y := ⟨x.toNat, by omega⟩
  subst ey
  have e1 : (BitVec.ofInt 32 (n : Int)).toNat = n := by
    rw [BitVec.toNat_ofInt]
    show ((n : Int) % 4294967296).toNat = _
    omega
  have e2 : (BitVec.ofInt 32 (y : Int)).toNat = y := by
    rw [BitVec.toNat_ofInt]
    show ((y : Int) % 4294967296).toNat = _
    omega
  show IntKind.u32.wrap ((BitVec.ofInt 32 (n : Int) ^^^ BitVec.ofInt 32 (y : Int)).toNat : Int) = _
  rw [BitVec.toNat_xor, e1, e2, IntKind.wrap_u32, Int.toNat_natCast]
  have := Sl.xor_lt (h := n) (c := y) hn (by omega)
  omega
theorem xor64 {n : Nat} {x : Int} (hn : n < 4294967296) (h0 : 0 ≤ x) (h1 : x < 256) : bits .xor .u64 (n : Int) x = ((n ^^^ x.toNat : Nat) : Int) := by
  obtain ⟨y, ey⟩ : ∃ y : Nat, x = y := ⟨x.toNat, by omega⟩
  subst ey
  have e1 : (BitVec.ofInt 64 (n : Int)).toNat = n := by
    rw [BitVec.toNat_ofInt]
    show ((n : Int) % 18446744073709551616).toNat = _
    omega
  have e2 : (BitVec.ofInt 64 (y : Int)).toNat = y := by
    rw [BitVec.toNat_ofInt]
    show ((y : Int) % 18446744073709551616).toNat = _
    omega
  show IntKind.u64.wrap ((BitVec.ofInt 64 (n : Int) ^^^ BitVec.ofInt 64 (y : Int)).toNat : Int) = _
  rw [BitVec.toNat_xor, e1, e2, IntKind.wrap_u64, Int.toNat_natCast]
  have := Sl.xor_lt (h := n) (c := y) hn (by omega)
  omega
/-- An or of bits that are not the other's is a sum. -/
theorem or_low {n : Nat} {x : Int} (hn : n * 256 < 18446744073709551616) (h0 : 0 ≤ x) (h1 : x < 256) : bits .or .u64 ((n : Int) * 256) x = ((n * 256 + x.toNat : Nat) : Int) := by
  obtain ⟨y, ey⟩ : ∃ y : Nat, x = y := ⟨x.toNat, by omega⟩
  subst ey
  have e := Nat.two_pow_add_eq_or_of_lt (i := 8) (b := y) (by omega) n
  have e1 : (BitVec.ofInt 64 ((n : Int) * 256)).toNat = 2 ^ 8 * n := by
    rw [BitVec.toNat_ofInt]
    show (((n : Int) * 256) % 18446744073709551616).toNat = 256 * n
    omega
  have e2 : (BitVec.ofInt 64 (y : Int)).toNat = y := by
    rw [BitVec.toNat_ofInt]
    show ((y : Int) % 18446744073709551616).toNat = _
    omega
  show IntKind.u64.wrap ((BitVec.ofInt 64 ((n : Int) * 256) ||| BitVec.ofInt 64 (y : Int)).toNat : Int) = _
  rw [BitVec.toNat_or, e1, e2, ← e, IntKind.wrap_u64, Int.toNat_natCast]
  omega

theorem Sl.sgn_wrap (n : Nat) : IntKind.i32.wrap (n : Int) = Sl.sgn (n % 4294967296) := by
  rw [IntKind.wrap_i32]
  by_cases h : n % 4294967296 < 2147483648
  · rw [Sl.sgn_lo h]; omega
  · rw [Sl.sgn_hi (by omega)]; omega

/-- The number of bytes that is nearest to n. -/
def Sl.wid (n : Int) : Nat := if n < 0 then 0 else if 8 < n then 8 else n.toNat
theorem Sl.wid_le (n : Int) : Sl.wid n ≤ 8 := by unfold Sl.wid; split <;> (try split) <;> omega
end Go.Proofs.Ytpifemahakbegaa
