/- Contracts of package pack and of the document's own answers of layer 5, where nothing is made. -/
import Derived.Test.YtpifemahakbegaaLsWorld
import Derived.Test.YtpifemahakbegaaPkMath
import Derived.Outline
namespace Go.Proofs.Ytpifemahakbegaa
set_option linter.unusedVariables false
open Go.RowKit

/-- May codes have so many bits? (any number) -/
def NotOk (b : Int) : Prop := ¬ b = 2 ∧ ¬ b = 4 ∧ ¬ b = 8
theorem ok_or (b : Int) : NotOk b ∨ ∃ n : Nat, b = (n : Int) ∧ Pk.Ok n := by
  by_cases h1 : b = 2
  · exact Or.inr ⟨2, h1, Or.inl rfl⟩
  by_cases h2 : b = 4
  · exact Or.inr ⟨4, h2, Or.inr (Or.inl rfl)⟩
  by_cases h3 : b = 8
  · exact Or.inr ⟨8, h3, Or.inr (Or.inr rfl)⟩
  exact Or.inl ⟨h1, h2, h3⟩
theorem ok_le {b : Nat} (h : Pk.Ok b) : 2 ≤ b ∧ b ≤ 8 := by rcases h with rfl | rfl | rfl <;> omega

theorem bits_yes (b : Nat) (h : Pk.Ok b) (w : World) :
    Calls Try.prog 54 #[.int .i64 b] w fun e w' => e = .returned (.bool true) ∧ w' = w := by
  rcases h with rfl | rfl | rfl
  all_goals
    go_enter Try.func54, Try.ntmps54
    go_wp2
    go_ret
    exact ⟨rfl, rfl⟩
theorem bits_no (b : Int) (h : NotOk b) (w : World) :
    Calls Try.prog 54 #[.int .i64 b] w fun e w' => e = .returned (.bool false) ∧ w' = w := by
  obtain ⟨h1, h2, h3⟩ := h
  have g1 : (b == 2) = false := beq_eq_false_iff_ne.2 h1
  have g2 : (b == 4) = false := beq_eq_false_iff_ne.2 h2
  have g3 : (b == 8) = false := beq_eq_false_iff_ne.2 h3
  go_enter Try.func54, Try.ntmps54
  go_wp2
  go_ret
  exact ⟨rfl, rfl⟩
theorem countable_yes (n : Int) (h0 : 0 ≤ n) (h1 : n ≤ 256) (w : World) :
    Calls Try.prog 74 #[.int .i64 n] w fun e w' => e = .returned (.bool true) ∧ w' = w := by
  go_enter Try.func74, Try.ntmps74
  go_wp2
  go_ret
  exact ⟨rfl, rfl⟩
theorem countable_no (n : Int) (h : n < 0 ∨ 256 < n) (w : World) :
    Calls Try.prog 74 #[.int .i64 n] w fun e w' => e = .returned (.bool false) ∧ w' = w := by
  by_cases h0 : n < 0
  · go_enter Try.func74, Try.ntmps74
    go_wp2
    go_ret
    exact ⟨rfl, rfl⟩
  · have g : decide (n ≤ 256) = false := decide_eq_false (by omega)
    go_enter Try.func74, Try.ntmps74
    go_wp2
    go_ret
    exact ⟨rfl, rfl⟩

theorem mask_any (b m : Nat) (h : Pk.Ok b) (hm : 2 ^ b - 1 = m) (w : World) :
    Calls Try.prog 75 #[.int .i64 b] w fun e w' => e = .returned (.int .i64 m) ∧ w' = w := by
  subst hm
  rcases h with rfl | rfl | rfl
  all_goals
    go_enter Try.func75, Try.ntmps75
    go_wp2
    go_ret
    exact ⟨rfl, rfl⟩

theorem place_any (i b t s : Nat) (h : Pk.Ok b) (hi : i ≤ 9223372036854775807) (ht : Pk.word b i = t) (hs : Pk.shift b i = s) (w : World) :
    Calls Try.prog 77 #[.int .i64 i, .int .i64 b] w fun e w' => e = .returned (.tuple #[.int .i64 t, .int .i64 s]) ∧ ∃ n, w' = w.drewN n := by
  subst ht hs
  rcases h with rfl | rfl | rfl
  all_goals
    go_enter Try.func77, Try.ntmps77
    go_wp2
    go_quiet (fail)
    go_wp2
    go_ret2
    exact ⟨rfl, _, rfl⟩

theorem words_yes (n b : Nat) (h : Pk.Ok b) (hn : n ≤ 256) (w : World) :
    Calls Try.prog 76 #[.int .i64 n, .int .i64 b] w fun e w' => e = .returned (.int .i64 (Pk.size b n : Nat)) ∧ w' = w := by
  have H : Hid (Pk.Ok b) := h
  obtain ⟨z, ez⟩ : ∃ z, n * b = z := ⟨_, rfl⟩
  have hz : z ≤ 256 * 8 := by rw [← ez]; exact Nat.mul_le_mul hn (ok_le h).2
  have hzi : (n : Int) * (b : Int) = (z : Int) := by rw [← ez]; exact (Int.natCast_mul n b).symm
  have HS : Hid (Pk.size b n = (z + 63) / 64) := by unfold Pk.size; rw [ez]; exact rfl
  clear ez h
  go_enter Try.func76, Try.ntmps76
  go_wp2_with (first
    | (go_at_call 54; refine (bits_yes _ H.out _).mono ?_; rintro e w' ⟨rfl, rfl⟩)
    | (go_at_call 74; refine (countable_yes _ (by omega) (by omega) _).mono ?_; rintro e w' ⟨rfl, rfl⟩))
  go_ret
  refine ⟨ret_num ?_, rfl⟩
  rw [HS.out]
  omega
theorem words_bits (n b : Int) (h : NotOk b) (w : World) :
    Calls Try.prog 76 #[.int .i64 n, .int .i64 b] w fun e w' => e = .returned (.int .i64 0) ∧ w' = w := by
  have H : Hid (NotOk b) := h
  clear h
  go_enter Try.func76, Try.ntmps76
  go_wp2_with (go_at_call 54; refine (bits_no _ H.out _).mono ?_; rintro e w' ⟨rfl, rfl⟩)
  go_ret
  exact ⟨rfl, rfl⟩
theorem words_many (n : Int) (b : Nat) (h : Pk.Ok b) (hn : n < 0 ∨ 256 < n) (w : World) :
    Calls Try.prog 76 #[.int .i64 n, .int .i64 b] w fun e w' => e = .returned (.int .i64 0) ∧ w' = w := by
  have H : Hid (Pk.Ok b) := h
  have HN : Hid (n < 0 ∨ 256 < n) := hn
  clear h hn
  go_enter Try.func76, Try.ntmps76
  go_wp2_with (first
    | (go_at_call 54; refine (bits_yes _ H.out _).mono ?_; rintro e w' ⟨rfl, rfl⟩)
    | (go_at_call 74; refine (countable_no _ HN.out _).mono ?_; rintro e w' ⟨rfl, rfl⟩))
  go_ret
  exact ⟨rfl, rfl⟩

theorem div_two (v k : Nat) : v / 2 ^ k / 2 = v / 2 ^ (k + 1) := by rw [Nat.div_div_eq_div_mul, Nat.pow_succ]
end Go.Proofs.Ytpifemahakbegaa
