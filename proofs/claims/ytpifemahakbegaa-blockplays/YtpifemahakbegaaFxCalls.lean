/- Contracts of package fix and of the document's own answers of layer 1: each call tells the cut or the rounded number, and leaves memory alone. -/
import Derived.Test.YtpifemahakbegaaRows
import Derived.Test.YtpifemahakbegaaFxMath
import Derived.WalkKit
import Derived.ProofKit
import Derived.OpenShut
import Derived.Deep.QuietTactic
import Derived.BigQuiet
import Derived.Outline
namespace Go.Proofs.Ytpifemahakbegaa
set_option linter.unusedVariables false
open Go.RowKit

theorem bits_and_one (q : Int) : bits .and .i64 q 1 = q % 2 := by
  show IntKind.i64.wrap ((BitVec.ofInt 64 q &&& BitVec.ofInt 64 1).toNat : Int) = _
  have h2 : (BitVec.ofInt 64 1).toNat = 1 := by decide
  rw [BitVec.toNat_and, h2, Nat.and_one_is_mod, BitVec.toNat_ofInt, IntKind.wrap_i64]
  omega

theorem nearest_any (q r b : Int) (hq1 : -9223372036854775808 ≤ q) (hq2 : q ≤ 9223372036854775807) (hb : b ≤ 9223372036854775807) (hr0 : 0 ≤ r) (hr1 : r < b) (hq3 : b ≤ 1 ∨ q ≤ 4611686018427387904) (w : World) :
    Calls Try.prog 72 #[.int .i64 q, .int .i64 r, .int .i64 b] w fun e w' => e = .returned (.int .i64 (Fx.near q r b)) ∧ w' = w := by
  by_cases c1 : b - r < r
  · rw [Fx.near_up c1]
    go_enter Try.func72, Try.ntmps72
    go_wp2
    go_ret
    exact ⟨rfl, rfl⟩
  · by_cases c2 : r = b - r
    · have e2 : (r == b - r) = true := by rw [beq_iff_eq]; exact c2
      have hq4 : q ≤ 4611686018427387904 := by omega
      by_cases c3 : q % 2 = 0
      · rw [Fx.near_even c1 c2 c3]
        have e3 : (bits .and .i64 q 1 != 0) = false := by rw [bits_and_one]; simp [c3]
        clear c3 c2 hq3
        go_enter Try.func72, Try.ntmps72
        go_wp2
        go_ret
        exact ⟨rfl, rfl⟩
      · rw [Fx.near_odd c1 c2 c3]
        have e3 : (bits .and .i64 q 1 != 0) = true := by rw [bits_and_one]; simp [c3]
        clear c3 c2 hq3
        go_enter Try.func72, Try.ntmps72
        go_wp2
        go_ret
        exact ⟨rfl, rfl⟩
    · rw [Fx.near_down c1 c2]
      go_enter Try.func72, Try.ntmps72
      go_wp2
      go_ret
      exact ⟨rfl, rfl⟩

theorem ratio_none (a b : Int) (hb : b ≤ 0) (w : World) :
    Calls Try.prog 67 #[.int .i64 a, .int .i64 b] w fun e w' => e = .returned (.int .i64 0) ∧ w' = w := by
  go_enter Try.func67, Try.ntmps67
  go_wp2
  go_ret
  exact ⟨rfl, rfl⟩

theorem ratio_any (a b : Int) (h1 : -9223372036854775808 ≤ a) (h2 : a ≤ 9223372036854775807) (hb : 0 < b) (hb1 : b ≤ 9223372036854775807) (w : World) :
    Calls Try.prog 67 #[.int .i64 a, .int .i64 b] w fun e w' => e = .returned (.int .i64 (Fx.rnd a b)) ∧ ∃ n, w' = w.drewN n := by
  have r0 := Int.emod_nonneg a (show b ≠ 0 by omega)
  have r1 := Int.emod_lt_of_pos a hb
  have q0 := Fx.quo_bd a b h1 h2 hb
  have q1 := Fx.quo_half a b h2 hb
  by_cases ha : 0 ≤ a
  · go_enter Try.func67, Try.ntmps67
    go_wp2_with fail
    go_quiet (fail)
    go_wp2_with fail
    refine (nearest_any _ _ _ q0.1 q0.2 hb1 r0 r1 q1 _).mono ?_
    rintro e w' ⟨rfl, rfl⟩
    go_wp2
    go_ret
    exact ⟨rfl, _, rfl⟩
  · have q2 := Fx.quo_neg a b (by omega) hb
    rcases Fx.tdiv_neg (show a < 0 by omega) hb with ⟨t0, t1, t2⟩ | ⟨t0, t1, t2⟩
    · have e1 : Hid (a.tdiv b = a / b) := t2
      have e2 : Hid (a.tmod b = a % b) := by show _ = _; omega
      have t3 : -9223372036854775808 ≤ a.tdiv b := by omega
      have t4 : a.tdiv b ≤ 9223372036854775807 := by omega
      have t7 : ¬ a.tmod b < 0 := by omega
      clear t1 t2 t0
      go_enter Try.func67, Try.ntmps67
      go_wp2_with fail
      go_quiet (fail)
      go_wp2_with fail
      rw [e1.out, e2.out]
      refine (nearest_any _ _ _ q0.1 q0.2 hb1 r0 r1 q1 _).mono ?_
      rintro e w' ⟨rfl, rfl⟩
      go_wp2
      go_ret
      exact ⟨rfl, _, rfl⟩
    · have e1 : Hid (a.tdiv b - 1 = a / b) := by show _ = _; omega
      have e2 : Hid (a.tmod b + b = a % b) := t1.symm
      have t3 : -9223372036854775807 ≤ a.tdiv b := by omega
      have t4 : a.tdiv b ≤ 9223372036854775807 := by omega
      have t6 : -9223372036854775807 ≤ a.tmod b := by omega
      clear t1 t2
      go_enter Try.func67, Try.ntmps67
      go_wp2_with fail
      go_quiet (fail)
      go_wp2_with fail
      rw [e1.out, e2.out]
      refine (nearest_any _ _ _ q0.1 q0.2 hb1 r0 r1 q1 _).mono ?_
      rintro e w' ⟨rfl, rfl⟩
      go_wp2
      go_ret
      exact ⟨rfl, _, rfl⟩

end Go.Proofs.Ytpifemahakbegaa
