/- Contracts of package pack and of the document's own answers of layer 5, where nothing is made. -/
import Derived.Test.YtimkfkolkplpdaaGreatLsWorld
import Derived.Test.YtimkfkolkplpdaaGreatPkMath
import Derived.Outline
namespace Go.Proofs.YtimkfkolkplpdaaGreat
set_option linter.unusedVariables false
open Go.RowKit

/-- May codes have so many bits? (any number) -/
def NotOk (b : Int) : Prop := ¬ b = 2 ∧ ¬ b = 4 ∧ ¬ b = 8
theorem ok_or (b : Int) : NotOk b ∨ ∃ n : Nat, b = (n : Int) ∧ Pk.Ok n := by
  by_cases h1 : b = 2
  · exact Or.inr ⟨2, h1, Or.inl rfl⟩
  by_cases h2 : b = 4
  · exact Or.inr ⟨4, h2, Or.inr (Or.inl rfl)⟩
  by_cases h3 : b = 8
  · exact Or.inr ⟨8, h3, Or.inr (Or.inr rfl)⟩
  exact Or.inl ⟨h1, h2, h3⟩
theorem ok_le {b : Nat} (h : Pk.Ok b) : 2 ≤ b ∧ b ≤ 8 := by rcases h with rfl | rfl | rfl <;> omega

theorem bits_yes (b : Nat) (h : Pk.Ok b) (w : World) :
    Calls Tryz.prog 29 #[.int .i64 b] w fun e w' => e = .returned (.bool true) ∧ w' = w := by
  rcases h with rfl | rfl | rfl
  all_goals
    go_enter Tryz.func29, Tryz.ntmps29
    go_wp2
    go_ret
    exact ⟨rfl, rfl⟩
theorem bits_no (b : Int) (h : NotOk b) (w : World) :
    Calls Tryz.prog 29 #[.int .i64 b] w fun e w' => e = .returned (.bool false) ∧ w' = w := by
  obtain ⟨h1, h2, h3⟩ := h
  have g1 : (b == 2) = false := beq_eq_false_iff_ne.2 h1
  have g2 : (b == 4) = false := beq_eq_false_iff_ne.2 h2
  have g3 : (b == 8) = false := beq_eq_false_iff_ne.2 h3
  go_enter Tryz.func29, Tryz.ntmps29
  go_wp2
  go_ret
  exact ⟨rfl, rfl⟩
theorem refBits_yes (b : Nat) (h : Pk.Ok b) (w : World) :
    Calls Tryz.prog 31 #[.int .i64 b] w fun e w' => e = .returned (.bool true) ∧ w' = w := by
  rcases h with rfl | rfl | rfl
  all_goals
    go_enter Tryz.func31, Tryz.ntmps31
    go_wp2
    go_ret
    exact ⟨rfl, rfl⟩
theorem refBits_no (b : Int) (h : NotOk b) (w : World) :
    Calls Tryz.prog 31 #[.int .i64 b] w fun e w' => e = .returned (.bool false) ∧ w' = w := by
  obtain ⟨h1, h2, h3⟩ := h
  have g1 : (b == 2) = false := beq_eq_false_iff_ne.2 h1
  have g2 : (b == 4) = false := beq_eq_false_iff_ne.2 h2
  have g3 : (b == 8) = false := beq_eq_false_iff_ne.2 h3
  go_enter Tryz.func31, Tryz.ntmps31
  go_wp2
  go_ret
  exact ⟨rfl, rfl⟩

theorem countable_yes (n : Int) (h0 : 0 ≤ n) (h1 : n ≤ 256) (w : World) :
    Calls Tryz.prog 99 #[.int .i64 n] w fun e w' => e = .returned (.bool true) ∧ w' = w := by
  go_enter Tryz.func99, Tryz.ntmps99
  go_wp2
  go_ret
  exact ⟨rfl, rfl⟩
theorem countable_no (n : Int) (h : n < 0 ∨ 256 < n) (w : World) :
    Calls Tryz.prog 99 #[.int .i64 n] w fun e w' => e = .returned (.bool false) ∧ w' = w := by
  by_cases h0 : n < 0
  · go_enter Tryz.func99, Tryz.ntmps99
    go_wp2
    go_ret
    exact ⟨rfl, rfl⟩
  · have g : decide (n ≤ 256) = false := decide_eq_false (by omega)
    go_enter Tryz.func99, Tryz.ntmps99
    go_wp2
    go_ret
    exact ⟨rfl, rfl⟩

theorem mask_any (b m : Nat) (h : Pk.Ok b) (hm : 2 ^ b - 1 = m) (w : World) :
    Calls Tryz.prog 114 #[.int .i64 b] w fun e w' => e = .returned (.int .i64 m) ∧ w' = w := by
  subst hm
  rcases h with rfl | rfl | rfl
  all_goals
    go_enter Tryz.func114, Tryz.ntmps114
    go_wp2
    go_ret
    exact ⟨rfl, rfl⟩

theorem place_any (i b t s : Nat) (h : Pk.Ok b) (hi : i ≤ 9223372036854775807) (ht : Pk.word b i = t) (hs : Pk.shift b i = s) (w : World) :
    Calls Tryz.prog 113 #[.int .i64 i, .int .i64 b] w fun e w' => e = .returned (.tuple #[.int .i64 t, .int .i64 s]) ∧ ∃ n, w' = w.drewN n := by
  subst ht hs
  rcases h with rfl | rfl | rfl
  all_goals
    go_enter Tryz.func113, Tryz.ntmps113
    go_wp2
    go_quiet (fail)
    go_wp2
    go_ret2
    exact ⟨rfl, _, rfl⟩

theorem words_yes (n b : Nat) (h : Pk.Ok b) (hn : n ≤ 256) (w : World) :
    Calls Tryz.prog 72 #[.int .i64 n, .int .i64 b] w fun e w' => e = .returned (.int .i64 (Pk.size b n : Nat)) ∧ w' = w := by
  have H : Hid (Pk.Ok b) := h
  obtain ⟨z, ez⟩ : ∃ z, n * b = z := ⟨_, rfl⟩
  have hz : z ≤ 256 * 8 := by rw [← ez]; exact Nat.mul_le_mul hn (ok_le h).2
  have hzi : (n : Int) * (b : Int) = (z : Int) := by rw [← ez]; exact (Int.natCast_mul n b).symm
  have HS : Hid (Pk.size b n = (z + 63) / 64) := by unfold Pk.size; rw [ez]; exact rfl
  clear ez h
  go_enter Tryz.func72, Tryz.ntmps72
  go_wp2_with (first
    | (go_at_call 29; refine (bits_yes _ H.out _).mono ?_; rintro e w' ⟨rfl, rfl⟩)
    | (go_at_call 99; refine (countable_yes _ (by omega) (by omega) _).mono ?_; rintro e w' ⟨rfl, rfl⟩))
  go_ret
  refine ⟨ret_num ?_, rfl⟩
  rw [HS.out]
  omega
theorem words_bits (n b : Int) (h : NotOk b) (w : World) :
    Calls Tryz.prog 72 #[.int .i64 n, .int .i64 b] w fun e w' => e = .returned (.int .i64 0) ∧ w' = w := by
  have H : Hid (NotOk b) := h
  clear h
  go_enter Tryz.func72, Tryz.ntmps72
  go_wp2_with (go_at_call 29; refine (bits_no _ H.out _).mono ?_; rintro e w' ⟨rfl, rfl⟩)
  go_ret
  exact ⟨rfl, rfl⟩
theorem words_many (n : Int) (b : Nat) (h : Pk.Ok b) (hn : n < 0 ∨ 256 < n) (w : World) :
    Calls Tryz.prog 72 #[.int .i64 n, .int .i64 b] w fun e w' => e = .returned (.int .i64 0) ∧ w' = w := by
  have H : Hid (Pk.Ok b) := h
  have HN : Hid (n < 0 ∨ 256 < n) := hn
  clear h hn
  go_enter Tryz.func72, Tryz.ntmps72
  go_wp2_with (first
    | (go_at_call 29; refine (bits_yes _ H.out _).mono ?_; rintro e w' ⟨rfl, rfl⟩)
    | (go_at_call 99; refine (countable_no _ HN.out _).mono ?_; rintro e w' ⟨rfl, rfl⟩))
  go_ret
  exact ⟨rfl, rfl⟩

theorem refWords_any (n b : Nat) (h : Pk.Ok b) (hn : n ≤ 256) (w : World) :
    Calls Tryz.prog 80 #[.int .i64 n, .int .i64 b] w fun e w' => e = .returned (.int .i64 (Pk.size b n : Nat)) ∧ w' = w := by
  obtain ⟨z, ez⟩ : ∃ z, n * b = z := ⟨_, rfl⟩
  have hz : z ≤ 256 * 8 := by rw [← ez]; exact Nat.mul_le_mul hn (ok_le h).2
  have hzi : (n : Int) * (b : Int) = (z : Int) := by rw [← ez]; exact (Int.natCast_mul n b).symm
  have HS : Hid (Pk.size b n = (z + 63) / 64) := by unfold Pk.size; rw [ez]; exact rfl
  clear ez h
  go_enter Tryz.func80, Tryz.ntmps80
  go_wp2
  go_loop [5] (fun i => ∃ k : Nat, k ≤ (z + 63) / 64 ∧ i = .int .i64 k) (fun i => (z + 63) / 64 - (intOf i).toNat)
  case atStart => exact ⟨0, Nat.zero_le _, rfl⟩
  case round =>
    obtain ⟨k, hk, rfl⟩ := hrel
    by_cases hlt : k * 64 < z
    · go_wp2
      go_round
      case rel => exact ⟨k + 1, by omega, by go_num⟩
      case measure => simp [intOf]; omega
    · go_wp2
      go_ret
      refine ⟨ret_num ?_, rfl⟩
      rw [HS.out]
      omega

theorem div_two (v k : Nat) : v / 2 ^ k / 2 = v / 2 ^ (k + 1) := by rw [Nat.div_div_eq_div_mul, Nat.pow_succ]
theorem bit_any (v i q : Nat) (hv : v < 18446744073709551616) (hi : i ≤ 64) (hq : Pk.bit v i = q) (w : World) :
    Calls Tryz.prog 104 #[.int .u64 v, .int .i64 i] w fun e w' => e = .returned (.int .u64 q) ∧ w' = w := by
  have HQ : Hid (Pk.bit v i = q) := hq
  clear hq
  go_enter Tryz.func104, Tryz.ntmps104
  go_wp2
  go_loop [0, 5] (fun x j => ∃ k m : Nat, k ≤ i ∧ j = .int .i64 k ∧ x = .int .u64 m ∧ m = v / 2 ^ k) (fun _ j => i - (intOf j).toNat)
  case atStart => exact ⟨0, v, Nat.zero_le _, rfl, rfl, by simp⟩
  case round =>
    obtain ⟨k, m, hk, rfl, rfl, hm⟩ := hrel
    have HM : Hid (m = v / 2 ^ k) := hm
    have hmv : m ≤ v := by rw [hm]; exact Nat.div_le_self _ _
    clear hm
    by_cases hlt : k < i
    · go_wp2
      go_round
      case rel => exact ⟨k + 1, m / 2, by omega, by go_num, by go_num, by rw [HM.out, div_two]⟩
      case measure => simp [intOf]; omega
    · have e : k = i := by omega
      subst e
      go_wp2
      go_ret
      refine ⟨ret_num ?_, rfl⟩
      rw [← HQ.out]
      unfold Pk.bit
      rw [← HM.out]
      omega

theorem power_any (i p : Nat) (hi : i ≤ 63) (hp : 2 ^ i = p) (w : World) :
    Calls Tryz.prog 105 #[.int .i64 i] w fun e w' => e = .returned (.int .u64 p) ∧ w' = w := by
  have HP : Hid (2 ^ i = p) := hp
  clear hp
  go_enter Tryz.func105, Tryz.ntmps105
  go_wp2
  go_loop [3, 4] (fun x j => ∃ k m : Nat, k ≤ i ∧ j = .int .i64 k ∧ x = .int .u64 m ∧ m = 2 ^ k) (fun _ j => i - (intOf j).toNat)
  case atStart => exact ⟨0, 1, Nat.zero_le _, rfl, rfl, rfl⟩
  case round =>
    obtain ⟨k, m, hk, rfl, rfl, hm⟩ := hrel
    have HM : Hid (m = 2 ^ k) := hm
    have hmv : m ≤ 9223372036854775808 := by rw [hm]; exact (Pk.two_le (show k ≤ 63 by omega))
    clear hm
    by_cases hlt : k < i
    · have hm2 : m ≤ 4611686018427387904 := by rw [HM.out]; exact (Pk.two_le (show k ≤ 62 by omega))
      go_wp2
      go_round
      case rel => exact ⟨k + 1, m * 2, by omega, by go_num, by go_num, by rw [HM.out, Nat.pow_succ]⟩
      case measure => simp [intOf]; omega
    · have e : k = i := by omega
      subst e
      go_wp2
      go_ret
      exact ⟨ret_num (by rw [HM.out, HP.out]), rfl⟩
end Go.Proofs.YtimkfkolkplpdaaGreat
