/- Contracts of package fix and of the document's own answers of layer 1: each call tells the cut or the rounded number, and leaves memory alone. -/
import Derived.Test.YtimkfkolkplpdaaGreatRows
import Derived.Test.YtimkfkolkplpdaaGreatFxMath
import Derived.WalkKit
import Derived.ProofKit
import Derived.OpenShut
import Derived.Deep.QuietTactic
import Derived.BigQuiet
import Derived.Outline
namespace Go.Proofs.YtimkfkolkplpdaaGreat
set_option linter.unusedVariables false
open Go.RowKit

theorem bits_and_one (q : Int) : bits .and .i64 q 1 = q % 2 := by
  show IntKind.i64.wrap ((BitVec.ofInt 64 q &&& BitVec.ofInt 64 1).toNat : Int) = _
  have h2 : (BitVec.ofInt 64 1).toNat = 1 := by decide
  rw [BitVec.toNat_and, h2, Nat.and_one_is_mod, BitVec.toNat_ofInt, IntKind.wrap_i64]
  omega

theorem cut_any (v lo hi : Int) (h1 : -2147483648 ≤ lo) (h2 : lo ≤ hi) (h3 : hi ≤ 2147483647) (w : World) :
    Calls Tryz.prog 119 #[.int .i64 v, .int .i32 lo, .int .i32 hi] w fun e w' => e = .returned (.int .i32 (Fx.cut v lo hi)) ∧ w' = w := by
  by_cases c1 : v < lo
  · rw [Fx.cut_lo c1]
    go_enter Tryz.func119, Tryz.ntmps119
    go_wp2
    go_ret
    exact ⟨rfl, rfl⟩
  · by_cases c2 : hi < v
    · rw [Fx.cut_hi c1 c2]
      go_enter Tryz.func119, Tryz.ntmps119
      go_wp2
      go_ret
      exact ⟨rfl, rfl⟩
    · rw [Fx.cut_in c1 c2]
      go_enter Tryz.func119, Tryz.ntmps119
      go_wp2
      go_ret
      exact ⟨rfl, rfl⟩

theorem wide_any (v : Int) (w : World) :
    Calls Tryz.prog 112 #[.int .i64 v] w fun e w' => e = .returned (.int .i32 (Fx.cut v (-2147483648) 2147483647)) ∧ w' = w := by
  go_enter Tryz.func112, Tryz.ntmps112
  go_wp2_with (go_at_call 119; refine (cut_any _ _ _ (by omega) (by omega) (by omega) _).mono ?_; rintro e w' ⟨rfl, rfl⟩)
  go_ret
  exact ⟨rfl, rfl⟩

theorem refCut_any (v lo hi : Int) (w : World) :
    Calls Tryz.prog 117 #[.int .i64 v, .int .i64 lo, .int .i64 hi] w fun e w' => e = .returned (.int .i64 (Fx.cut v lo hi)) ∧ w' = w := by
  by_cases c1 : v < lo
  · rw [Fx.cut_lo c1]
    go_enter Tryz.func117, Tryz.ntmps117
    go_wp2
    go_ret
    exact ⟨rfl, rfl⟩
  · by_cases c2 : hi < v
    · rw [Fx.cut_hi c1 c2]
      go_enter Tryz.func117, Tryz.ntmps117
      go_wp2
      go_ret
      exact ⟨rfl, rfl⟩
    · rw [Fx.cut_in c1 c2]
      go_enter Tryz.func117, Tryz.ntmps117
      go_wp2
      go_ret
      exact ⟨rfl, rfl⟩

theorem refWide_any (v : Int) (w : World) :
    Calls Tryz.prog 95 #[.int .i64 v] w fun e w' => e = .returned (.int .i32 (Fx.cut v (-2147483648) 2147483647)) ∧ w' = w := by
  have hb := Fx.cut_bd (v := v) (lo := -2147483648) (hi := 2147483647) (by omega)
  go_enter Tryz.func95, Tryz.ntmps95
  go_wp2_with (go_at_call 117; refine (refCut_any _ _ _ _).mono ?_; rintro e w' ⟨rfl, rfl⟩)
  go_ret
  exact ⟨rfl, rfl⟩

theorem nearest_any (q r b : Int) (hq1 : -9223372036854775808 ≤ q) (hq2 : q ≤ 9223372036854775807) (hb : b ≤ 9223372036854775807) (hr0 : 0 ≤ r) (hr1 : r < b) (hq3 : b ≤ 1 ∨ q ≤ 4611686018427387904) (w : World) :
    Calls Tryz.prog 118 #[.int .i64 q, .int .i64 r, .int .i64 b] w fun e w' => e = .returned (.int .i64 (Fx.near q r b)) ∧ w' = w := by
  by_cases c1 : b - r < r
  · rw [Fx.near_up c1]
    go_enter Tryz.func118, Tryz.ntmps118
    go_wp2
    go_ret
    exact ⟨rfl, rfl⟩
  · by_cases c2 : r = b - r
    · have e2 : (r == b - r) = true := by rw [beq_iff_eq]; exact c2
      have hq4 : q ≤ 4611686018427387904 := by omega
      by_cases c3 : q % 2 = 0
      · rw [Fx.near_even c1 c2 c3]
        have e3 : (bits .and .i64 q 1 != 0) = false := by rw [bits_and_one]; simp [c3]
        clear c3 c2 hq3
        go_enter Tryz.func118, Tryz.ntmps118
        go_wp2
        go_ret
        exact ⟨rfl, rfl⟩
      · rw [Fx.near_odd c1 c2 c3]
        have e3 : (bits .and .i64 q 1 != 0) = true := by rw [bits_and_one]; simp [c3]
        clear c3 c2 hq3
        go_enter Tryz.func118, Tryz.ntmps118
        go_wp2
        go_ret
        exact ⟨rfl, rfl⟩
    · rw [Fx.near_down c1 c2]
      go_enter Tryz.func118, Tryz.ntmps118
      go_wp2
      go_ret
      exact ⟨rfl, rfl⟩

theorem ratio_none (a b : Int) (hb : b ≤ 0) (w : World) :
    Calls Tryz.prog 110 #[.int .i64 a, .int .i64 b] w fun e w' => e = .returned (.int .i64 0) ∧ w' = w := by
  go_enter Tryz.func110, Tryz.ntmps110
  go_wp2
  go_ret
  exact ⟨rfl, rfl⟩

theorem ratio_any (a b : Int) (h1 : -9223372036854775808 ≤ a) (h2 : a ≤ 9223372036854775807) (hb : 0 < b) (hb1 : b ≤ 9223372036854775807) (w : World) :
    Calls Tryz.prog 110 #[.int .i64 a, .int .i64 b] w fun e w' => e = .returned (.int .i64 (Fx.rnd a b)) ∧ ∃ n, w' = w.drewN n := by
  have r0 := Int.emod_nonneg a (show b ≠ 0 by omega)
  have r1 := Int.emod_lt_of_pos a hb
  have q0 := Fx.quo_bd a b h1 h2 hb
  have q1 := Fx.quo_half a b h2 hb
  by_cases ha : 0 ≤ a
  · go_enter Tryz.func110, Tryz.ntmps110
    go_wp2_with fail
    go_quiet (fail)
    go_wp2_with fail
    refine (nearest_any _ _ _ q0.1 q0.2 hb1 r0 r1 q1 _).mono ?_
    rintro e w' ⟨rfl, rfl⟩
    go_wp2
    go_ret
    exact ⟨rfl, _, rfl⟩
  · have q2 := Fx.quo_neg a b (by omega) hb
    rcases Fx.tdiv_neg (show a < 0 by omega) hb with ⟨t0, t1, t2⟩ | ⟨t0, t1, t2⟩
    · have e1 : Hid (a.tdiv b = a / b) := t2
      have e2 : Hid (a.tmod b = a % b) := by show _ = _; omega
      have t3 : -9223372036854775808 ≤ a.tdiv b := by omega
      have t4 : a.tdiv b ≤ 9223372036854775807 := by omega
      have t7 : ¬ a.tmod b < 0 := by omega
      clear t1 t2 t0
      go_enter Tryz.func110, Tryz.ntmps110
      go_wp2_with fail
      go_quiet (fail)
      go_wp2_with fail
      rw [e1.out, e2.out]
      refine (nearest_any _ _ _ q0.1 q0.2 hb1 r0 r1 q1 _).mono ?_
      rintro e w' ⟨rfl, rfl⟩
      go_wp2
      go_ret
      exact ⟨rfl, _, rfl⟩
    · have e1 : Hid (a.tdiv b - 1 = a / b) := by show _ = _; omega
      have e2 : Hid (a.tmod b + b = a % b) := t1.symm
      have t3 : -9223372036854775807 ≤ a.tdiv b := by omega
      have t4 : a.tdiv b ≤ 9223372036854775807 := by omega
      have t6 : -9223372036854775807 ≤ a.tmod b := by omega
      clear t1 t2
      go_enter Tryz.func110, Tryz.ntmps110
      go_wp2_with fail
      go_quiet (fail)
      go_wp2_with fail
      rw [e1.out, e2.out]
      refine (nearest_any _ _ _ q0.1 q0.2 hb1 r0 r1 q1 _).mono ?_
      rintro e w' ⟨rfl, rfl⟩
      go_wp2
      go_ret
      exact ⟨rfl, _, rfl⟩

theorem refFloor_any (a b : Int) (h1 : -9223372036854775808 ≤ a) (h2 : a ≤ 9223372036854775807) (hb : 0 < b) (hb1 : b ≤ 9223372036854775807) (w : World) :
    Calls Tryz.prog 111 #[.int .i64 a, .int .i64 b] w fun e w' => e = .returned (.int .i64 (a / b)) ∧ w' = w := by
  have r0 := Int.emod_nonneg a (show b ≠ 0 by omega)
  have r1 := Int.emod_lt_of_pos a hb
  have q0 := Fx.quo_bd a b h1 h2 hb
  by_cases ha : 0 ≤ a
  · have m0 : 0 ≤ a / b * b := Int.mul_nonneg (Int.ediv_nonneg ha (by omega)) (by omega)
    have e0 := Fx.div_mul a b
    have t1 : -9223372036854775808 ≤ a / b * b := by omega
    have t2 : a / b * b ≤ 9223372036854775807 := by omega
    have t3 : ¬ a < a / b * b := by omega
    clear e0
    go_enter Tryz.func111, Tryz.ntmps111
    go_wp2
    go_ret
    exact ⟨rfl, rfl⟩
  · have q2 := Fx.quo_neg a b (by omega) hb
    have em : a.tdiv b * b = a - a.tmod b := by have := Int.tdiv_mul_add_tmod a b; omega
    rcases Fx.tdiv_neg (show a < 0 by omega) hb with ⟨t0, t1, t2⟩ | ⟨t0, t1, t2⟩
    · rw [← t2]
      have t3 : -9223372036854775808 ≤ a.tdiv b * b := by omega
      have t4 : a.tdiv b * b ≤ 9223372036854775807 := by omega
      have t7 : ¬ a < a.tdiv b * b := by omega
      clear t1 t2 t0 em
      go_enter Tryz.func111, Tryz.ntmps111
      go_wp2
      go_ret
      exact ⟨rfl, rfl⟩
    · have e1 : a / b = a.tdiv b - 1 := by omega
      rw [e1]
      have t3 : -9223372036854775808 ≤ a.tdiv b * b := by omega
      have t4 : a.tdiv b * b ≤ 9223372036854775807 := by omega
      have t7 : a < a.tdiv b * b := by omega
      have t8 : -9223372036854775807 ≤ a.tdiv b := by omega
      have t9 : a.tdiv b ≤ 9223372036854775807 := by omega
      clear t1 t2 t0 em e1
      go_enter Tryz.func111, Tryz.ntmps111
      go_wp2
      go_ret
      exact ⟨rfl, rfl⟩

theorem refRatio_any (a b : Int) (h1 : -9223372036854775808 ≤ a) (h2 : a ≤ 9223372036854775807) (hb : 0 < b) (hb1 : b ≤ 9223372036854775807) (w : World) :
    Calls Tryz.prog 85 #[.int .i64 a, .int .i64 b] w fun e w' => e = .returned (.int .i64 (Fx.rnd a b)) ∧ w' = w := by
  have r0 := Int.emod_nonneg a (show b ≠ 0 by omega)
  have r1 := Int.emod_lt_of_pos a hb
  have q0 := Fx.quo_bd a b h1 h2 hb
  have q1 := Fx.quo_half a b h2 hb
  have e0 := Fx.div_mul a b
  unfold Fx.rnd
  have f0 := refFloor_any a b h1 h2 hb hb1
  generalize a / b = q at *
  generalize a % b = r at *
  have eu : wrap64 (a - wrap64 (q * b)) = r := by unfold wrap64; omega
  clear e0
  have fl : ∀ w, Calls Tryz.prog 111 #[.int .i64 a, .int .i64 b] w fun e w' => e = .returned (.int .i64 q) ∧ w' = w := f0
  have FL : Hid (∀ w, Calls Tryz.prog 111 #[.int .i64 a, .int .i64 b] w fun e w' => e = .returned (.int .i64 q) ∧ w' = w) := fl
  clear fl f0
  by_cases c1 : b - r < r
  · rw [Fx.near_up c1]
    go_enter Tryz.func85, Tryz.ntmps85
    go_wp2_with (go_at_call 111; refine (FL.out _).mono ?_; rintro e w' ⟨rfl, rfl⟩)
    go_ret
    exact ⟨rfl, rfl⟩
  · by_cases c2 : r = b - r
    · have e2 : (r == b - r) = true := by rw [beq_iff_eq]; exact c2
      have hq4 : q ≤ 4611686018427387904 := by omega
      by_cases c3 : q % 2 = 0
      · rw [Fx.near_even c1 c2 c3]
        have e3 : (q % 2 != 0) = false := by simp [c3]
        have e4 : (q.tmod 2 != 0) = false := by simp [(Fx.tmod_two q).2 c3]
        clear c3 c2 q1
        by_cases hs : 0 ≤ q
        all_goals
          go_enter Tryz.func85, Tryz.ntmps85
          go_wp2_with (go_at_call 111; refine (FL.out _).mono ?_; rintro e w' ⟨rfl, rfl⟩)
          go_ret
          exact ⟨rfl, rfl⟩
      · rw [Fx.near_odd c1 c2 c3]
        have e3 : (q % 2 != 0) = true := by simp [c3]
        have e4 : (q.tmod 2 != 0) = true := by rw [bne_iff_ne]; exact fun h => c3 ((Fx.tmod_two q).1 h)
        clear c3 c2 q1
        by_cases hs : 0 ≤ q
        all_goals
          go_enter Tryz.func85, Tryz.ntmps85
          go_wp2_with (go_at_call 111; refine (FL.out _).mono ?_; rintro e w' ⟨rfl, rfl⟩)
          go_ret
          exact ⟨rfl, rfl⟩
    · rw [Fx.near_down c1 c2]
      go_enter Tryz.func85, Tryz.ntmps85
      go_wp2_with (go_at_call 111; refine (FL.out _).mono ?_; rintro e w' ⟨rfl, rfl⟩)
      go_ret
      exact ⟨rfl, rfl⟩

theorem refPower_any (n : Int) (h0 : 0 ≤ n) (h1 : n ≤ 62) (w : World) :
    Calls Tryz.prog 93 #[.int .i64 n] w fun e w' => e = .returned (.int .i64 (2 ^ n.toNat)) ∧ w' = w := by
  obtain ⟨m, rfl⟩ := Int.eq_ofNat_of_zero_le h0
  rw [Int.toNat_natCast]
  go_enter Tryz.func93, Tryz.ntmps93
  go_wp2
  go_loop [3, 4] (fun o i => ∃ k : Nat, k ≤ m ∧ i = .int .i64 k ∧ o = .int .i64 (2 ^ k)) (fun _ i => m - (intOf i).toNat)
  case atStart => exact ⟨0, Nat.zero_le _, rfl, rfl⟩
  case round =>
    obtain ⟨k, hk, rfl, rfl⟩ := hrel
    have p0 := Fx.pow_pos k
    by_cases hlt : k < m
    · have p1 : (2 : Int) ^ k ≤ 2305843009213693952 := Fx.pow_le (m := 61) (by omega)
      go_wp2
      go_round
      case rel => exact ⟨k + 1, by omega, by go_num, by rw [Int.pow_succ]⟩
      case measure => simp [intOf]; omega
    · have e : k = m := by omega
      subst e
      go_wp2
      go_ret
      exact ⟨rfl, rfl⟩

end Go.Proofs.YtimkfkolkplpdaaGreat
