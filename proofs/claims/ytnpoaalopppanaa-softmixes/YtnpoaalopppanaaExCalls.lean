/- Contracts of package expo and of the document's own answers of layer 2: each call tells the power or the root, and leaves memory alone. -/
import Derived.Test.YtnpoaalopppanaaFxCalls
import Derived.Test.YtnpoaalopppanaaExMath
namespace Go.Proofs.Ytnpoaalopppanaa
set_option linter.unusedVariables false
open Go.RowKit

theorem powerOfTwo_any (f : Int) (h0 : 0 ≤ f) (h1 : f ≤ 65535) (w : World) :
    Calls Try.prog 34 #[.int .i64 f] w fun e w' => e = .returned (.int .i64 (Ex.poly f)) ∧ w' = w := by
  have ib := Ex.pb_in h0 h1
  have id := Ex.poly_in h0 h1
  unfold Ex.poly
  unfold Ex.pb at *
  unfold Ex.pa at *
  go_enter Try.func34, Try.ntmps34
  go_wp2
  go_ret
  exact ⟨rfl, rfl⟩

/-- Behind the exponent: its whole part, its rest, and the power. -/
theorem tee_bd {x : Int} (h1 : -2147483648 ≤ x) (h2 : x ≤ 0) : -4294967296 ≤ Fx.rnd (x * 94548) 65536 ∧ Fx.rnd (x * 94548) 65536 ≤ 0 := by
  have c1 := Fx.rnd_char (x * 94548) 65536 (by omega)
  exact ⟨by omega, Ex.tee_le h2⟩
theorem cut_62 {n : Int} (h0 : n ≤ 0) (h1 : ¬ 62 < -n) : Fx.cut (-n) 0 62 = -n := Fx.cut_in (by omega) (by omega)

theorem exp_any (x : Int) (h1 : -2147483648 ≤ x) (h2 : x ≤ 2147483647) (w : World) :
    Calls Try.prog 20 #[.int .i32 x] w fun e w' => e = .returned (.int .i64 (Ex.exp x)) ∧ w' = w := by
  unfold Ex.exp
  by_cases c : 0 < x
  · rw [if_pos c]
    go_enter Try.func20, Try.ntmps20
    go_wp2_with fail
    refine (half_any _ _ (by omega) (by omega) _).mono ?_
    rintro e w' ⟨rfl, rfl⟩
    rw [show Fx.rnd 0 (2 ^ (Fx.cut 16 0 62).toNat) = 0 from by decide]
    go_wp2_with fail
    refine (powerOfTwo_any _ (by omega) (by omega) _).mono ?_
    rintro e w' ⟨rfl, rfl⟩
    rw [Ex.poly_zero]
    go_wp2_with fail
    refine (half_any _ _ (by omega) (by omega) _).mono ?_
    rintro e w' ⟨rfl, rfl⟩
    go_wp2
    go_ret
    exact ⟨rfl, rfl⟩
  · rw [if_neg c]
    have tb := tee_bd h1 (by omega)
    have ht : Hid (∃ t, Fx.rnd (x * 94548) 65536 = t) := ⟨_, rfl⟩
    obtain ⟨t, ht⟩ := ht.out
    rw [ht] at tb
    rw [ht]
    have HT : Hid (Fx.rnd (x * 94548) 65536 = t) := ht
    clear ht
    by_cases hl : 62 < -(t / 65536)
    · rw [Ex.pow_low hl]
      go_enter Try.func20, Try.ntmps20
      go_wp2_with fail
      refine (half_any _ _ (by omega) (by omega) _).mono ?_
      rintro e w' ⟨rfl, rfl⟩
      rw [show (2 : Int) ^ (Fx.cut 16 0 62).toNat = 65536 from by decide, HT.out]
      go_wp2
      go_ret
      exact ⟨rfl, rfl⟩
    · rw [Ex.pow_in hl]
      have he : Hid (t - t / 65536 * 65536 = t % 65536) := by show _ = _; omega
      have pb := Ex.poly_bd (f := t % 65536) (by omega) (by omega)
      have hc : Hid (Fx.cut (-(t / 65536)) 0 62 = -(t / 65536)) := cut_62 (by omega) hl
      go_enter Try.func20, Try.ntmps20
      go_wp2_with fail
      refine (half_any _ _ (by omega) (by omega) _).mono ?_
      rintro e w' ⟨rfl, rfl⟩
      rw [show (2 : Int) ^ (Fx.cut 16 0 62).toNat = 65536 from by decide, HT.out]
      go_wp2_with fail
      rw [he.out]
      refine (powerOfTwo_any _ (by omega) (by omega) _).mono ?_
      rintro e w' ⟨rfl, rfl⟩
      go_wp2_with fail
      refine (half_any _ _ (by omega) (by omega) _).mono ?_
      rintro e w' ⟨rfl, rfl⟩
      rw [hc.out]
      go_wp2
      go_ret
      exact ⟨rfl, rfl⟩

theorem refExp_any (x : Int) (h1 : -2147483648 ≤ x) (h2 : x ≤ 2147483647) (w : World) :
    Calls Try.prog 22 #[.int .i32 x] w fun e w' => e = .returned (.int .i64 (Ex.exp x)) ∧ w' = w := by
  unfold Ex.exp
  by_cases c : 0 < x
  · rw [if_pos c]
    go_enter Try.func22, Try.ntmps22
    go_wp2_with fail
    refine (refRatio_any _ _ (by omega) (by omega) (by omega) (by omega) _).mono ?_
    rintro e w' ⟨rfl, rfl⟩
    rw [show Fx.rnd 0 65536 = 0 from by decide]
    go_wp2_with fail
    refine (refFloor_any _ _ (by omega) (by omega) (by omega) (by omega) _).mono ?_
    rintro e w' ⟨rfl, rfl⟩
    go_wp2_with fail
    refine (refHalf_any _ _ (by omega) (by omega) _).mono ?_
    rintro e w' ⟨rfl, rfl⟩
    go_wp2
    go_ret
    exact ⟨rfl, rfl⟩
  · rw [if_neg c]
    have tb := tee_bd h1 (by omega)
    have ht : Hid (∃ t, Fx.rnd (x * 94548) 65536 = t) := ⟨_, rfl⟩
    obtain ⟨t, ht⟩ := ht.out
    rw [ht] at tb
    rw [ht]
    have HT : Hid (Fx.rnd (x * 94548) 65536 = t) := ht
    clear ht
    have he : Hid (t - t / 65536 * 65536 = t % 65536) := by show _ = _; omega
    have f0 : 0 ≤ t - t / 65536 * 65536 := by omega
    have f1 : t - t / 65536 * 65536 ≤ 65535 := by omega
    have ib := Ex.pb_in f0 f1
    have id := Ex.poly_in f0 f1
    unfold Ex.pb at id
    unfold Ex.pa at *
    by_cases hl : 62 < -(t / 65536)
    · rw [Ex.pow_low hl]
      go_enter Try.func22, Try.ntmps22
      go_wp2_with fail
      refine (refRatio_any _ _ (by omega) (by omega) (by omega) (by omega) _).mono ?_
      rintro e w' ⟨rfl, rfl⟩
      rw [HT.out]
      go_wp2_with fail
      refine (refFloor_any _ _ (by omega) (by omega) (by omega) (by omega) _).mono ?_
      rintro e w' ⟨rfl, rfl⟩
      go_wp2
      go_ret
      exact ⟨rfl, rfl⟩
    · rw [Ex.pow_in hl, ← he.out]
      have hc : Hid (Fx.cut (-(t / 65536)) 0 62 = -(t / 65536)) := cut_62 (by omega) hl
      go_enter Try.func22, Try.ntmps22
      go_wp2_with fail
      refine (refRatio_any _ _ (by omega) (by omega) (by omega) (by omega) _).mono ?_
      rintro e w' ⟨rfl, rfl⟩
      rw [HT.out]
      go_wp2_with fail
      refine (refFloor_any _ _ (by omega) (by omega) (by omega) (by omega) _).mono ?_
      rintro e w' ⟨rfl, rfl⟩
      go_wp2_with fail
      refine (refHalf_any _ _ (by omega) (by omega) _).mono ?_
      rintro e w' ⟨rfl, rfl⟩
      rw [hc.out]
      go_wp2
      go_ret
      exact ⟨rfl, rfl⟩

theorem bits_or_bit (k r : Nat) (hd : 2 ^ (k + 1) ∣ r) (h : r + 2 ^ k < 18446744073709551616) : bits .or .u64 (r : Int) ((2 ^ k : Nat) : Int) = (r : Int) + ((2 ^ k : Nat) : Int) := by
  obtain ⟨m, rfl⟩ := hd
  have hp : 2 ^ k < 2 ^ (k + 1) := Nat.pow_lt_pow_right (by omega) (by omega)
  have e := Nat.two_pow_add_eq_or_of_lt hp m
  show IntKind.u64.wrap ((BitVec.ofInt 64 ((2 ^ (k + 1) * m : Nat) : Int) ||| BitVec.ofInt 64 ((2 ^ k : Nat) : Int)).toNat : Int) = _
  have e1 : (BitVec.ofInt 64 ((2 ^ (k + 1) * m : Nat) : Int)).toNat = 2 ^ (k + 1) * m := by rw [BitVec.toNat_ofInt]; omega
  have e2 : (BitVec.ofInt 64 ((2 ^ k : Nat) : Int)).toNat = 2 ^ k := by rw [BitVec.toNat_ofInt]; omega
  rw [BitVec.toNat_or, e1, e2, ← e, IntKind.wrap_u64]
  omega

end Go.Proofs.Ytnpoaalopppanaa
