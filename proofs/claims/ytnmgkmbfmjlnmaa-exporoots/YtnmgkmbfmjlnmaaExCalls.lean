/- Contracts of package expo and of the document's own answers of layer 2: each call tells the power or the root, and leaves memory alone. -/
import Derived.Test.YtnmgkmbfmjlnmaaFxCalls
import Derived.Test.YtnmgkmbfmjlnmaaExMath
namespace Go.Proofs.Ytnmgkmbfmjlnmaa
set_option linter.unusedVariables false
open Go.RowKit

theorem powerOfTwo_any (f : Int) (h0 : 0 ≤ f) (h1 : f ≤ 65535) (w : World) :
    Calls Try.prog 18 #[.int .i64 f] w fun e w' => e = .returned (.int .i64 (Ex.poly f)) ∧ w' = w := by
  have ib := Ex.pb_in h0 h1
  have id := Ex.poly_in h0 h1
  unfold Ex.poly
  unfold Ex.pb at *
  unfold Ex.pa at *
  go_enter Try.func18, Try.ntmps18
  go_wp2
  go_ret
  exact ⟨rfl, rfl⟩

/-- Behind the exponent: its whole part, its rest, and the power. -/
theorem tee_bd {x : Int} (h1 : -2147483648 ≤ x) (h2 : x ≤ 0) : -4294967296 ≤ Fx.rnd (x * 94548) 65536 ∧ Fx.rnd (x * 94548) 65536 ≤ 0 := by
  have c1 := Fx.rnd_char (x * 94548) 65536 (by omega)
  exact ⟨by omega, Ex.tee_le h2⟩
theorem cut_62 {n : Int} (h0 : n ≤ 0) (h1 : ¬ 62 < -n) : Fx.cut (-n) 0 62 = -n := Fx.cut_in (by omega) (by omega)

theorem exp_any (x : Int) (h1 : -2147483648 ≤ x) (h2 : x ≤ 2147483647) (w : World) :
    Calls Try.prog 8 #[.int .i32 x] w fun e w' => e = .returned (.int .i64 (Ex.exp x)) ∧ w' = w := by
  unfold Ex.exp
  by_cases c : 0 < x
  · rw [if_pos c]
    go_enter Try.func8, Try.ntmps8
    go_wp2_with fail
    refine (half_any _ _ (by omega) (by omega) _).mono ?_
    rintro e w' ⟨rfl, rfl⟩
    rw [show Fx.rnd 0 (2 ^ (Fx.cut 16 0 62).toNat) = 0 from by decide]
    go_wp2_with fail
    refine (powerOfTwo_any _ (by omega) (by omega) _).mono ?_
    rintro e w' ⟨rfl, rfl⟩
    rw [Ex.poly_zero]
    go_wp2_with fail
    refine (half_any _ _ (by omega) (by omega) _).mono ?_
    rintro e w' ⟨rfl, rfl⟩
    go_wp2
    go_ret
    exact ⟨rfl, rfl⟩
  · rw [if_neg c]
    have tb := tee_bd h1 (by omega)
    have ht : Hid (∃ t, Fx.rnd (x * 94548) 65536 = t) := ⟨_, rfl⟩
    obtain ⟨t, ht⟩ := ht.out
    rw [ht] at tb
    rw [ht]
    have HT : Hid (Fx.rnd (x * 94548) 65536 = t) := ht
    clear ht
    by_cases hl : 62 < -(t / 65536)
    · rw [Ex.pow_low hl]
      go_enter Try.func8, Try.ntmps8
      go_wp2_with fail
      refine (half_any _ _ (by omega) (by omega) _).mono ?_
      rintro e w' ⟨rfl, rfl⟩
      rw [show (2 : Int) ^ (Fx.cut 16 0 62).toNat = 65536 from by decide, HT.out]
      go_wp2
      go_ret
      exact ⟨rfl, rfl⟩
    · rw [Ex.pow_in hl]
      have he : Hid (t - t / 65536 * 65536 = t % 65536) := by show _ = _; omega
      have pb := Ex.poly_bd (f := t % 65536) (by omega) (by omega)
      have hc : Hid (Fx.cut (-(t / 65536)) 0 62 = -(t / 65536)) := cut_62 (by omega) hl
      go_enter Try.func8, Try.ntmps8
      go_wp2_with fail
      refine (half_any _ _ (by omega) (by omega) _).mono ?_
      rintro e w' ⟨rfl, rfl⟩
      rw [show (2 : Int) ^ (Fx.cut 16 0 62).toNat = 65536 from by decide, HT.out]
      go_wp2_with fail
      rw [he.out]
      refine (powerOfTwo_any _ (by omega) (by omega) _).mono ?_
      rintro e w' ⟨rfl, rfl⟩
      go_wp2_with fail
      refine (half_any _ _ (by omega) (by omega) _).mono ?_
      rintro e w' ⟨rfl, rfl⟩
      rw [hc.out]
      go_wp2
      go_ret
      exact ⟨rfl, rfl⟩

theorem refExp_any (x : Int) (h1 : -2147483648 ≤ x) (h2 : x ≤ 2147483647) (w : World) :
    Calls Try.prog 9 #[.int .i32 x] w fun e w' => e = .returned (.int .i64 (Ex.exp x)) ∧ w' = w := by
  unfold Ex.exp
  by_cases c : 0 < x
  · rw [if_pos c]
    go_enter Try.func9, Try.ntmps9
    go_wp2_with fail
    refine (refRatio_any _ _ (by omega) (by omega) (by omega) (by omega) _).mono ?_
    rintro e w' ⟨rfl, rfl⟩
    rw [show Fx.rnd 0 65536 = 0 from by decide]
    go_wp2_with fail
    refine (refFloor_any _ _ (by omega) (by omega) (by omega) (by omega) _).mono ?_
    rintro e w' ⟨rfl, rfl⟩
    go_wp2_with fail
    refine (refHalf_any _ _ (by omega) (by omega) _).mono ?_
    rintro e w' ⟨rfl, rfl⟩
    go_wp2
    go_ret
    exact ⟨rfl, rfl⟩
  · rw [if_neg c]
    have tb := tee_bd h1 (by omega)
    have ht : Hid (∃ t, Fx.rnd (x * 94548) 65536 = t) := ⟨_, rfl⟩
    obtain ⟨t, ht⟩ := ht.out
    rw [ht] at tb
    rw [ht]
    have HT : Hid (Fx.rnd (x * 94548) 65536 = t) := ht
    clear ht
    have he : Hid (t - t / 65536 * 65536 = t % 65536) := by show _ = _; omega
    have f0 : 0 ≤ t - t / 65536 * 65536 := by omega
    have f1 : t - t / 65536 * 65536 ≤ 65535 := by omega
    have ib := Ex.pb_in f0 f1
    have id := Ex.poly_in f0 f1
    unfold Ex.pb at id
    unfold Ex.pa at *
    by_cases hl : 62 < -(t / 65536)
    · rw [Ex.pow_low hl]
      go_enter Try.func9, Try.ntmps9
      go_wp2_with fail
      refine (refRatio_any _ _ (by omega) (by omega) (by omega) (by omega) _).mono ?_
      rintro e w' ⟨rfl, rfl⟩
      rw [HT.out]
      go_wp2_with fail
      refine (refFloor_any _ _ (by omega) (by omega) (by omega) (by omega) _).mono ?_
      rintro e w' ⟨rfl, rfl⟩
      go_wp2
      go_ret
      exact ⟨rfl, rfl⟩
    · rw [Ex.pow_in hl, ← he.out]
      have hc : Hid (Fx.cut (-(t / 65536)) 0 62 = -(t / 65536)) := cut_62 (by omega) hl
      go_enter Try.func9, Try.ntmps9
      go_wp2_with fail
      refine (refRatio_any _ _ (by omega) (by omega) (by omega) (by omega) _).mono ?_
      rintro e w' ⟨rfl, rfl⟩
      rw [HT.out]
      go_wp2_with fail
      refine (refFloor_any _ _ (by omega) (by omega) (by omega) (by omega) _).mono ?_
      rintro e w' ⟨rfl, rfl⟩
      go_wp2_with fail
      refine (refHalf_any _ _ (by omega) (by omega) _).mono ?_
      rintro e w' ⟨rfl, rfl⟩
      rw [hc.out]
      go_wp2
      go_ret
      exact ⟨rfl, rfl⟩

theorem bits_or_bit (k r : Nat) (hd : 2 ^ (k + 1) ∣ r) (h : r + 2 ^ k < 18446744073709551616) : bits .or .u64 (r : Int) ((2 ^ k : Nat) : Int) = (r : Int) + ((2 ^ k : Nat) : Int) := by
  obtain ⟨m, rfl⟩ := hd
  have hp : 2 ^ k < 2 ^ (k + 1) := Nat.pow_lt_pow_right (by omega) (by omega)
  have e := Nat.two_pow_add_eq_or_of_lt hp m
  show IntKind.u64.wrap ((BitVec.ofInt 64 ((2 ^ (k + 1) * m : Nat) : Int) ||| BitVec.ofInt 64 ((2 ^ k : Nat) : Int)).toNat : Int) = _
  have e1 : (BitVec.ofInt 64 ((2 ^ (k + 1) * m : Nat) : Int)).toNat = 2 ^ (k + 1) * m := by rw [BitVec.toNat_ofInt]; omega
  have e2 : (BitVec.ofInt 64 ((2 ^ k : Nat) : Int)).toNat = 2 ^ k := by rw [BitVec.toNat_ofInt]; omega
  rw [BitVec.toNat_or, e1, e2, ← e, IntKind.wrap_u64]
  omega

theorem root_any (v : Int) (h0 : 0 ≤ v) (h1 : v ≤ 18446744073709551615) (w : World) :
    Calls Try.prog 12 #[.int .u64 v] w fun e w' => e = .returned (.int .u64 (Ex.root v)) ∧ w' = w := by
  obtain ⟨n, rfl⟩ := Int.eq_ofNat_of_zero_le h0
  have hr : Hid (Ex.root (n : Int) = (Ex.rootGo n 32 0 : Nat)) := rfl
  generalize Ex.root (n : Int) = s at *
  go_enter Try.func12, Try.ntmps12
  go_wp2
  go_loop [3, 4] (fun r b => ∃ k m : Nat, b = .int .u64 ((2 ^ k / 2 : Nat) : Int) ∧ r = .int .u64 (m : Int) ∧ s = (Ex.rootGo n k m : Nat) ∧ 2 ^ k ∣ m ∧ m + 2 ^ k ≤ 4294967296) (fun _ b => (intOf b).toNat)
  case atStart => exact ⟨32, 0, rfl, rfl, hr.out, by omega, by omega⟩
  case round =>
    obtain ⟨k, m, rfl, rfl, hs, hd, hm⟩ := hrel
    cases k with
    | zero =>
      have hs' : s = (m : Int) := hs
      subst hs'
      clear hs
      rw [show 2 ^ 0 / 2 = 0 from rfl]
      go_wp2
      go_ret
      exact ⟨rfl, rfl⟩
    | succ k =>
      have p0 : 0 < 2 ^ k := Nat.two_pow_pos k
      have e2 : 2 ^ (k + 1) = 2 ^ k + 2 ^ k := by rw [Nat.pow_succ]; omega
      have ho := bits_or_bit k m hd (by omega)
      have e3 : 2 ^ (k + 1) / 2 = 2 ^ k := by omega
      rw [e3]
      have hd2 : 2 ^ k ∣ m := Nat.dvd_trans ⟨2, by omega⟩ hd
      have hd3 : 2 ^ k ∣ m + 2 ^ k := Nat.dvd_add hd2 (Nat.dvd_refl _)
      have hs1 : Hid (s = (Ex.rootGo n (k + 1) m : Nat)) := hs
      have H : Hid (2 ^ k ∣ m ∧ 2 ^ k ∣ m + 2 ^ k) := ⟨hd2, hd3⟩
      clear hs hd hd2 hd3 e3
      rw [e2] at hm
      clear e2
      have sq : ((m : Int) + ((2 ^ k : Nat) : Int)) * ((m : Int) + ((2 ^ k : Nat) : Int)) ≤ 4294967295 * 4294967295 := Int.mul_le_mul (by omega) (by omega) (by omega) (by omega)
      have sq0 : 0 ≤ ((m : Int) + ((2 ^ k : Nat) : Int)) * ((m : Int) + ((2 ^ k : Nat) : Int)) := Int.mul_nonneg (by omega) (by omega)
      obtain ⟨B, hB⟩ : ∃ B, B = 2 ^ k := ⟨_, rfl⟩
      rw [← hB] at p0 ho hm sq sq0
      rw [← hB]
      have HB : Hid (B = 2 ^ k) := hB
      clear hB
      by_cases hc : (m + B) * (m + B) ≤ n
      · have hc1 : ((m : Int) + B) * ((m : Int) + B) ≤ n := by exact_mod_cast hc
        have hs2 : Hid (s = (Ex.rootGo n k (m + B) : Nat)) := by
          show _ = _
          rw [hs1.out, HB.out]
          rw [HB.out] at hc
          show ((Ex.rootGo n (k + 1) m : Nat) : Int) = _
          rw [Ex.rootGo, if_pos hc]
        clear hc
        go_wp2
        go_round
        case rel => exact ⟨k, m + B, by rw [HB.out]; go_num, by go_num, hs2.out, by rw [HB.out]; exact H.out.2, by rw [← HB.out]; omega⟩
        case measure => simp [intOf]; omega
      · have hc1 : ¬ ((m : Int) + B) * ((m : Int) + B) ≤ n := fun h => hc (by exact_mod_cast h)
        have hs2 : Hid (s = (Ex.rootGo n k m : Nat)) := by
          show _ = _
          rw [hs1.out]
          rw [HB.out] at hc
          show ((Ex.rootGo n (k + 1) m : Nat) : Int) = _
          rw [Ex.rootGo, if_neg hc]
        clear hc
        go_wp2
        go_round
        case rel => exact ⟨k, m, by rw [HB.out]; go_num, rfl, hs2.out, H.out.1, by rw [← HB.out]; omega⟩
        case measure => simp [intOf]; omega
theorem refRoot_any (v : Int) (h0 : 0 ≤ v) (h1 : v ≤ 18446744073709551615) (w : World) :
    Calls Try.prog 13 #[.int .u64 v] w fun e w' => e = .returned (.int .u64 (Ex.root v)) ∧ w' = w := by
  have hr : Hid (∀ m : Int, 0 ≤ m → (m * m ≤ v ↔ m ≤ Ex.root v)) := fun m hm => Ex.root_le v m h0 h1 hm
  have rc := Ex.root_char v h0 h1
  obtain ⟨c1, c2, -, -⟩ := rc
  generalize Ex.root v = s at *
  go_enter Try.func13, Try.ntmps13
  go_wp2
  go_loop [3, 4] (fun l h => ∃ a b : Int, l = .int .u64 a ∧ h = .int .u64 b ∧ 0 ≤ a ∧ a ≤ s ∧ s ≤ b ∧ b ≤ 4294967295) (fun l h => ((intOf h) - (intOf l)).toNat)
  case atStart => exact ⟨0, 4294967295, rfl, rfl, by omega, c1, c2, by omega⟩
  case round =>
    obtain ⟨a, b, rfl, rfl, ha, has, hsb, hb⟩ := hrel
    by_cases hlt : a < b
    · have hk := hr.out (a + (b - a + 1) / 2) (by omega)
      have sq : (a + (b - a + 1) / 2) * (a + (b - a + 1) / 2) ≤ 4294967295 * 4294967295 := Int.mul_le_mul (by omega) (by omega) (by omega) (by omega)
      have sq0 : 0 ≤ (a + (b - a + 1) / 2) * (a + (b - a + 1) / 2) := Int.mul_nonneg (by omega) (by omega)
      have m1 : Hid (a < a + (b - a + 1) / 2 ∧ a + (b - a + 1) / 2 ≤ b) := by constructor <;> omega
      by_cases hc : a + (b - a + 1) / 2 ≤ s
      · have hc' := hk.2 hc
        clear hk
        go_wp2
        go_round
        case rel => exact ⟨_, b, rfl, rfl, by omega, hc, hsb, hb⟩
        case measure => simp [intOf]; omega
      · have hc' : ¬ (a + (b - a + 1) / 2) * (a + (b - a + 1) / 2) ≤ v := fun h => hc (hk.1 h)
        clear hk
        go_wp2
        go_round
        case rel => exact ⟨a, _, rfl, rfl, ha, has, by omega, by omega⟩
        case measure => simp [intOf]; omega
    · have e : a = s := by omega
      subst e
      go_wp2
      go_ret
      exact ⟨rfl, rfl⟩

theorem rsqrt_any (x : Int) (h1 : -9223372036854775808 ≤ x) (h2 : x ≤ 9223372036854775807) (w : World) :
    Calls Try.prog 11 #[.int .i64 x] w fun e w' => e = .returned (.int .i32 (Ex.rsq x)) ∧ w' = w := by
  have hb := Ex.rsq_bd x
  unfold Ex.rsq at *
  by_cases c : x ≤ 0
  · rw [if_pos c]
    clear hb
    have e := Ex.root_48
    go_enter Try.func11, Try.ntmps11
    go_wp2_with fail
    refine (root_any _ (by omega) (by omega) _).mono ?_
    rintro e w' ⟨rfl, rfl⟩
    go_wp2
    go_ret
    exact ⟨rfl, rfl⟩
  · rw [if_neg c] at hb
    rw [if_neg c]
    have q := Ex.quo_48 (x := x) (by omega)
    go_enter Try.func11, Try.ntmps11
    go_wp2_with fail
    refine (root_any _ (by omega) (by omega) _).mono ?_
    rintro e w' ⟨rfl, rfl⟩
    go_wp2
    go_ret
    exact ⟨rfl, rfl⟩

theorem refRsqrt_any (x : Int) (h1 : -9223372036854775808 ≤ x) (h2 : x ≤ 9223372036854775807) (w : World) :
    Calls Try.prog 16 #[.int .i64 x] w fun e w' => e = .returned (.int .i32 (Ex.rsq x)) ∧ w' = w := by
  have hb := Ex.rsq_bd x
  unfold Ex.rsq at *
  by_cases c : x ≤ 0
  · rw [if_pos c]
    clear hb
    have e := Ex.root_48
    go_enter Try.func16, Try.ntmps16
    go_wp2_with fail
    refine (refRoot_any _ (by omega) (by omega) _).mono ?_
    rintro e w' ⟨rfl, rfl⟩
    go_wp2
    go_ret
    exact ⟨rfl, rfl⟩
  · rw [if_neg c] at hb
    rw [if_neg c]
    have q := Ex.quo_48 (x := x) (by omega)
    go_enter Try.func16, Try.ntmps16
    go_wp2_with fail
    refine (refRoot_any _ (by omega) (by omega) _).mono ?_
    rintro e w' ⟨rfl, rfl⟩
    go_wp2
    go_ret
    exact ⟨rfl, rfl⟩

theorem recip_any (x : Int) (h1 : -2147483648 ≤ x) (h2 : x ≤ 2147483647) (w : World) :
    Calls Try.prog 14 #[.int .i32 x] w fun e w' => e = .returned (.int .i32 (Fx.div 65536 x)) ∧ ∃ n, w' = w.drewN n := by
  go_enter Try.func14, Try.ntmps14
  go_wp2_with fail
  refine (div_any _ _ (by omega) (by omega) h1 h2 _).mono ?_
  rintro e w' ⟨rfl, n1, rfl⟩
  go_wp2
  go_ret
  exact ⟨rfl, _, rfl⟩
end Go.Proofs.Ytnmgkmbfmjlnmaa
