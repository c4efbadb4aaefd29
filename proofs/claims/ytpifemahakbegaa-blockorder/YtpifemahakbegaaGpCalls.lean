/- Contracts of package group and of the document's own answers of layer 7, where no list is made. -/
import Derived.Test.YtpifemahakbegaaFxCalls
import Derived.Test.YtpifemahakbegaaPkCalls
import Derived.Test.YtpifemahakbegaaDtCalls
import Derived.Test.YtpifemahakbegaaGpMath
import Derived.Outline
namespace Go.Proofs.Ytpifemahakbegaa
set_option linter.unusedVariables false
open Go.RowKit

theorem St.ok {b s : Nat} (h : Gp.St b s) : Pk.Ok b := by
  rcases h with ⟨rfl, _⟩ | ⟨rfl, _⟩ | ⟨rfl, _⟩
  · exact Or.inl rfl
  · exact Or.inr (Or.inl rfl)
  · exact Or.inr (Or.inr rfl)

theorem countG_any (n : Nat) (b e : Int) (he : Gp.many n b = e) (hn : n ≤ maxLen) (w : World) :
    Calls Try.prog 62 #[.int .i64 n, .int .i64 b] w fun r w' => r = .returned (.int .i64 e) ∧ w' = w := by
  subst he
  unfold maxLen at hn
  rcases Gp.many_cases n b with h | ⟨m, s, rfl, h⟩
  · rw [Gp.many_bits n h]
    have H : Hid (NotOk b) := h
    clear h
    go_enter Try.func62, Try.ntmps62
    go_wp2_with (go_at_call 54; refine (bits_no _ H.out _).mono ?_; rintro e w' ⟨rfl, rfl⟩)
    go_ret
    exact ⟨rfl, rfl⟩
  · have H : Hid (Pk.Ok m) := St.ok h
    by_cases h0 : n = 0
    · subst h0
      rw [Gp.many_none h]
      clear h
      go_enter Try.func62, Try.ntmps62
      go_wp2_with (go_at_call 54; refine (bits_yes _ H.out _).mono ?_; rintro e w' ⟨rfl, rfl⟩)
      go_ret
      exact ⟨rfl, rfl⟩
    · have g0 : ((n : Int) == 0) = false := beq_eq_false_iff_ne.2 (by omega)
      by_cases h1 : 256 < n
      · rw [Gp.many_many h h1]
        clear h
        go_enter Try.func62, Try.ntmps62
        go_wp2_with (go_at_call 54; refine (bits_yes _ H.out _).mono ?_; rintro e w' ⟨rfl, rfl⟩)
        go_ret
        exact ⟨rfl, rfl⟩
      · rw [Gp.many_ok h (by omega) (by omega)]
        clear h
        go_enter Try.func62, Try.ntmps62
        go_wp2_with (go_at_call 54; refine (bits_yes _ H.out _).mono ?_; rintro e w' ⟨rfl, rfl⟩)
        go_ret
        exact ⟨rfl, rfl⟩
theorem greatest_any (b s : Nat) (h : Gp.St b s) (w : World) :
    Calls Try.prog 70 #[.int .i64 b] w fun e w' => e = .returned (.int .i64 s) ∧ w' = w := by
  rcases h with ⟨rfl, rfl⟩ | ⟨rfl, rfl⟩ | ⟨rfl, rfl⟩
  all_goals
    go_enter Try.func70, Try.ntmps70
    go_wp2
    go_ret
    exact ⟨rfl, rfl⟩
theorem apart_any (a b : Int) (h1 : -2147483648 ≤ a) (h2 : a ≤ 2147483647) (h3 : -2147483648 ≤ b) (h4 : b ≤ 2147483647) (w : World) :
    Calls Try.prog 65 #[.int .i32 a, .int .i32 b] w fun e w' => e = .returned (.int .i64 (a - b)) ∧ w' = w := by
  go_enter Try.func65, Try.ntmps65
  go_wp2
  go_ret
  exact ⟨rfl, rfl⟩
theorem scaleOf_any (d : Int) (b s : Nat) (h : Gp.St b s) (h1 : 0 ≤ d) (h2 : d ≤ 4294967295) (sc : Int) (hsc : Gp.up d s = sc) (w : World) :
    Calls Try.prog 64 #[.int .i64 d, .int .i64 b] w fun e w' => e = .returned (.int .i64 sc) ∧ w' = w := by
  have hb := h.bd
  have e1 : (d + s - 1) / s = sc := by rw [Gp.up_div (by omega), hsc]
  have HE : Hid ((d + s - 1) / s = sc) := e1
  have H : Hid (Gp.St b s) := h
  clear h hsc e1
  go_enter Try.func64, Try.ntmps64
  go_wp2_with (go_at_call 70; refine (greatest_any _ _ H.out _).mono ?_; rintro e w' ⟨rfl, rfl⟩)
  go_ret
  exact ⟨ret_num HE.out, rfl⟩

theorem min_any (a : Option Addr) (c : Nat) (l : List Int) (w : World) (ha : Lst .i32 w a l) (hl : l.length ≤ maxLen) (h0 : 0 < l.length) (m : Int) (hm : Gp.low l = m) :
    Calls Try.prog 63 #[.slice a l.length c] w fun e w' => e = .returned (.int .i32 m) ∧ w' = w := by
  subst hm
  unfold maxLen at hl
  obtain ⟨b1, o1, rfl, hc1⟩ := ha.get h0
  have hc0 := hc1 0 h0
  rw [Nat.add_zero] at hc0
  have HC : Hid (∀ j, j < l.length → w.cell? ⟨b1, o1 + j, none⟩ = some (.int .i32 (Ls.nth l j))) := hc1
  clear hc1 ha
  go_enter Try.func63, Try.ntmps63
  go_wp2
  go_loop [3, 4] (fun v i => ∃ k : Nat, 1 ≤ k ∧ k ≤ l.length ∧ i = .int .i64 k ∧ v = .int .i32 (Gp.lowN l k)) (fun _ i => l.length - (intOf i).toNat)
  case atStart => exact ⟨1, by omega, by omega, rfl, by rw [show Gp.lowN l 1 = Ls.nth l 0 from by simp [Gp.lowN, Gp.lo2]]⟩
  case round =>
    obtain ⟨k, hk1, hk, rfl, rfl⟩ := hrel
    by_cases hlt : k < l.length
    · have hck := HC.out k hlt
      have e : (if Ls.nth l k < Gp.lowN l k then Ls.nth l k else Gp.lowN l k) = Gp.lowN l (k + 1) := rfl
      go_wp2
      go_round
      case rel => exact ⟨k + 1, by omega, by omega, by go_num, rfl⟩
      case measure => simp [intOf]; omega
    · have e : k = l.length := by omega
      subst e
      go_wp2
      go_ret
      exact ⟨rfl, rfl⟩
theorem max_any (a : Option Addr) (c : Nat) (l : List Int) (w : World) (ha : Lst .i32 w a l) (hl : l.length ≤ maxLen) (h0 : 0 < l.length) (m : Int) (hm : Gp.high l = m) :
    Calls Try.prog 66 #[.slice a l.length c] w fun e w' => e = .returned (.int .i32 m) ∧ w' = w := by
  subst hm
  unfold maxLen at hl
  obtain ⟨b1, o1, rfl, hc1⟩ := ha.get h0
  have hc0 := hc1 0 h0
  rw [Nat.add_zero] at hc0
  have HC : Hid (∀ j, j < l.length → w.cell? ⟨b1, o1 + j, none⟩ = some (.int .i32 (Ls.nth l j))) := hc1
  clear hc1 ha
  go_enter Try.func66, Try.ntmps66
  go_wp2
  go_loop [3, 4] (fun v i => ∃ k : Nat, 1 ≤ k ∧ k ≤ l.length ∧ i = .int .i64 k ∧ v = .int .i32 (Gp.highN l k)) (fun _ i => l.length - (intOf i).toNat)
  case atStart => exact ⟨1, by omega, by omega, rfl, by rw [show Gp.highN l 1 = Ls.nth l 0 from by simp [Gp.highN, Gp.hi2]]⟩
  case round =>
    obtain ⟨k, hk1, hk, rfl, rfl⟩ := hrel
    by_cases hlt : k < l.length
    · have hck := HC.out k hlt
      have e : (if Gp.highN l k < Ls.nth l k then Ls.nth l k else Gp.highN l k) = Gp.highN l (k + 1) := rfl
      go_wp2
      go_round
      case rel => exact ⟨k + 1, by omega, by omega, by go_num, rfl⟩
      case measure => simp [intOf]; omega
    · have e : k = l.length := by omega
      subst e
      go_wp2
      go_ret
      exact ⟨rfl, rfl⟩

theorem notNought_any (c : Int) (w : World) :
    Calls Try.prog 69 #[.int .i64 c] w fun e w' => e = .returned (.bool (c != 0)) ∧ w' = w := by
  go_enter Try.func69, Try.ntmps69
  go_wp2
  go_ret
  exact ⟨rfl, rfl⟩
theorem index_any (a : Option Addr) (c : Nat) (l : List Int) (w : World) (ha : Lst .i64 w a l) (hl : l.length ≤ maxLen) (q : Bool) (hq : Gp.nils l = !q) :
    Calls Try.prog 73 #[.slice a l.length c, .func (.func 69) #[] #[]] w fun e w' => ∃ r : Int, e = .returned (.int .i64 r) ∧ decide (0 ≤ r) = q ∧ w' = w := by
  unfold maxLen at hl
  have HA : Hid (Lst .i64 w a l) := ha
  have HQ : Hid (Gp.nils l = !q) := hq
  clear ha hq
  go_enter Try.func73, Try.ntmps73
  go_wp2
  go_loop [8] (fun i => ∃ k : Nat, k ≤ l.length ∧ i = .int .i64 k ∧ ∀ j, j < k → Ls.nth l j = 0) (fun i => l.length - (intOf i).toNat)
  case atStart => exact ⟨0, Nat.zero_le _, rfl, fun j hj => by omega⟩
  case round =>
    obtain ⟨k, hk, rfl, hall⟩ := hrel
    have HL : Hid (∀ j, j < k → Ls.nth l j = 0) := hall
    clear hall
    by_cases hlt : k < l.length
    · obtain ⟨b1, o1, rfl, hc1⟩ := HA.out.get hlt
      have hck := hc1 k hlt
      clear hc1
      by_cases hz : Ls.nth l k = 0
      · have hz' : (Ls.nth l k != 0) = false := by rw [hz]; rfl
        have HZ : Hid (Ls.nth l k = 0) := hz
        clear hz
        go_wp2_with (go_at_call 69; refine (notNought_any _ _).mono ?_; rintro e w' ⟨rfl, rfl⟩)
        go_round
        case rel =>
          refine ⟨k + 1, by omega, by go_num, fun j hj => ?_⟩
          by_cases e : j = k
          · subst e; exact HZ.out
          · exact HL.out j (by omega)
        case measure => simp [intOf]; omega
      · have hz' : (Ls.nth l k != 0) = true := by simp [hz]
        go_wp2_with (go_at_call 69; refine (notNought_any _ _).mono ?_; rintro e w' ⟨rfl, rfl⟩)
        go_ret
        refine ⟨_, rfl, ?_, rfl⟩
        have := HQ.out
        rw [Gp.nils_no hlt hz] at this
        cases q
        · cases this
        · exact decide_eq_true (by omega)
    · go_wp2
      go_ret
      refine ⟨_, rfl, ?_, rfl⟩
      have := HQ.out
      rw [Gp.nils_yes (fun i hi => HL.out i (by omega))] at this
      cases q
      · rfl
      · cases this
theorem contains_any (a : Option Addr) (c : Nat) (l : List Int) (w : World) (ha : Lst .i64 w a l) (hl : l.length ≤ maxLen) (q : Bool) (hq : Gp.nils l = !q) :
    Calls Try.prog 68 #[.slice a l.length c, .func (.func 69) #[] #[]] w fun e w' => e = .returned (.bool q) ∧ w' = w := by
  have HA : Hid (Lst .i64 w a l) := ha
  have HQ : Hid (Gp.nils l = !q) := hq
  have HL : Hid (l.length ≤ maxLen) := hl
  clear ha hq hl
  go_enter Try.func68, Try.ntmps68
  go_wp2_with (go_at_call 73; refine (index_any a c l _ HA.out HL.out q HQ.out).mono ?_; rintro e w' ⟨r, rfl, hr, rfl⟩)
  go_ret
  exact ⟨rfl, rfl⟩

end Go.Proofs.Ytpifemahakbegaa
