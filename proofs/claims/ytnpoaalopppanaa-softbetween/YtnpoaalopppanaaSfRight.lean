/- The contract of the document's own answer whether lists can be mixed. -/
import Derived.Test.YtnpoaalopppanaaSfCalls
namespace Go.Proofs.Ytnpoaalopppanaa
set_option linter.unusedVariables false
open Go.RowKit

set_option maxHeartbeats 800000 in
theorem refRight_any (a b : Option Addr) (c d : Nat) (x : List Int) (ls : List (List Int)) (w : World) (ha : Lst .i64 w a x) (hb : Tbl w b ls) (hx : x.length ≤ maxLen) (hn : ls.length ≤ maxLen) :
    Calls Try.prog 16 #[.slice a x.length c, .slice b ls.length d] w fun e w' => e = .returned (.int .i64 (Tb.right x ls)) ∧ ∃ n, w' = w.drewN n := by
  have HX : Hid (Lst .i64 w a x) := ha
  have HA : Hid (Tbl w b ls) := hb
  unfold maxLen at hx hn
  clear ha hb
  by_cases h0 : ls.length = 0
  · have e := Tb.shape_none (m := x.length) h0
    rw [Tb.right_shape (by rw [e]; decide), e]
    clear e
    go_enter Try.func16, Try.ntmps16
    go_wp2
    go_ret
    exact ⟨rfl, 0, rfl⟩
  by_cases h1 : 1024 < ls.length
  · have e := Tb.shape_many (m := x.length) h1
    rw [Tb.right_shape (by rw [e]; decide), e]
    clear e
    go_enter Try.func16, Try.ntmps16
    go_wp2
    go_ret
    exact ⟨rfl, 0, rfl⟩
  by_cases h2 : x.length = ls.length
  · obtain ⟨b, o, rfl, hc⟩ := HA.out.get (show 0 < ls.length by omega)
    obtain ⟨A0, C0, hck0, _, _⟩ := hc 0 (by omega)
    have hck0 : w.cell? ⟨b, o, none⟩ = some (.slice A0 (Tb.row ls 0).length C0) := by simpa using hck0
    have HC : Hid (∀ j, j < ls.length → ∃ A C, w.cell? ⟨b, o + j, none⟩ = some (.slice A (Tb.row ls j).length C) ∧ Lst .i32 w A (Tb.row ls j) ∧ (Tb.row ls j).length ≤ maxLen) := hc
    clear hc HA
    have H0 : Hid (¬ ls.length = 0) := h0
    have H1 : Hid (¬ 1024 < ls.length) := h1
    have H2 : Hid (x.length = ls.length) := h2
    have h3 : ¬ ls.length = 0 := h0
    have h4 : x.length ≤ 1024 := by omega
    have h5 : x.length ≤ ls.length := by omega
    have h6 : ls.length ≤ x.length := by omega
    clear h2
    have g0 : ((ls.length : Int) == 0) = false := beq_eq_false_iff_ne.2 (by omega)
    have g1 : decide (1024 < (ls.length : Int)) = false := by simp; omega
    have g2 : ((ls.length : Int) != (x.length : Int)) = false := by simp; omega
    go_enter Try.func16, Try.ntmps16
    go_wp2
    go_loopw [5] (fun i wr => ∃ k n : Nat, k ≤ ls.length ∧ i = .int .i64 k ∧ wr = w.drewN n ∧ ∀ j, j < k → (Tb.row ls j).length = (Tb.row ls 0).length) (fun i _ => ls.length - (intOf i).toNat)
    case atStart => exact ⟨0, 0, Nat.zero_le _, rfl, rfl, fun j hj => by omega⟩
    case round =>
      obtain ⟨k, n, hk, rfl, rfl, hm⟩ := hrel
      have HM : Hid (∀ j, j < k → (Tb.row ls j).length = (Tb.row ls 0).length) := hm
      clear hm
      by_cases hlt : k < ls.length
      · obtain ⟨A, C, hck, _, _⟩ := HC.out k hlt
        have e0 : (0 : Int) < (ls.length : Int) := by omega
        by_cases he : (Tb.row ls k).length = (Tb.row ls 0).length
        · have HE : Hid ((Tb.row ls k).length = (Tb.row ls 0).length) := he
          go_wp2
          go_quiet (fail)
          go_wp2
          go_roundw
          case rel =>
            refine ⟨k + 1, _, by omega, by go_num, rfl, fun j hj => ?_⟩
            by_cases e : j = k
            · subst e; exact HE.out
            · exact HM.out j (by omega)
          case measure => simp [intOf]; omega
        · have HE : Hid (Tb.even ls = false) := Tb.even_no hlt he
          go_wp2
          go_quiet (fail)
          go_wp2
          go_ret
          refine ⟨ret_num ?_, _, World.drewN_drewN _ _ _⟩
          have e := Tb.shape_odd (m := x.length) H0.out H1.out HE.out
          rw [Tb.right_shape (by rw [e]; decide), e]
      · have HS : Hid (Tb.shape x.length ls = 0) := Tb.shape_ok H0.out H1.out H2.out (Tb.even_mk (fun i hi => HM.out i (by omega)))
        clear HM
        go_wp2
        go_loopw [6] (fun i wr => ∃ k : Nat, k ≤ ls.length ∧ i = .int .i64 k ∧ wr = w.drewN n ∧ ∀ j, j < k → (0 ≤ Ls.nth x j ∧ Ls.nth x j ≤ 65536) ∧ Ls.mild (Tb.row ls j) = true) (fun i _ => ls.length - (intOf i).toNat)
        case atStart => exact ⟨0, Nat.zero_le _, rfl, rfl, fun j hj => by omega⟩
        case round =>
          obtain ⟨k, hk, rfl, rfl, hm⟩ := hrel
          have HM : Hid (∀ j, j < k → (0 ≤ Ls.nth x j ∧ Ls.nth x j ≤ 65536) ∧ Ls.mild (Tb.row ls j) = true) := hm
          clear hm
          by_cases hlt : k < ls.length
          · obtain ⟨A, C, hck, hL, hM⟩ := HC.out k hlt
            have HL : Hid (Lst .i32 w A (Tb.row ls k)) := hL
            have HN : Hid ((Tb.row ls k).length ≤ maxLen) := hM
            clear hL hM
            have hlx : k < x.length := by omega
            obtain ⟨b1, o1, rfl, hc1⟩ := HX.out.get hlx
            have hcx := hc1 k hlx
            clear hc1
            by_cases c1 : Ls.nth x k < 0
            · go_wp2
              go_ret
              exact ⟨ret_num (Tb.right_range HS.out (Tb.fit_heavy (Tb.weigh_low hlx c1))).symm, _, rfl⟩
            · by_cases c2 : 65536 < Ls.nth x k
              · go_wp2
                go_ret
                exact ⟨ret_num (Tb.right_range HS.out (Tb.fit_heavy (Tb.weigh_high hlx c2))).symm, _, rfl⟩
              · cases hmk : Ls.mild (Tb.row ls k)
                · have HK : Hid (Ls.mild (Tb.row ls k) = false) := hmk
                  go_wp2_with (go_at_call 30; refine (refMild_any _ _ _ _ (HL.out.draws _) HN.out).mono ?_; rintro e w' ⟨rfl, rfl⟩)
                  go_ret
                  exact ⟨ret_num (Tb.right_range HS.out (Tb.fit_wild (Tb.milds_no hlt HK.out))).symm, _, rfl⟩
                · have HK : Hid (Ls.mild (Tb.row ls k) = true) := hmk
                  go_wp2_with (go_at_call 30; refine (refMild_any _ _ _ _ (HL.out.draws _) HN.out).mono ?_; rintro e w' ⟨rfl, rfl⟩)
                  go_roundw
                  case rel =>
                    refine ⟨k + 1, by omega, by go_num, by trivial, fun j hj => ?_⟩
                    by_cases e : j = k
                    · subst e; exact ⟨by omega, HK.out⟩
                    · exact HM.out j (by omega)
                  case measure => simp [intOf]; omega
          · have HW : Hid (∀ i, i < x.length → 0 ≤ Ls.nth x i ∧ Ls.nth x i ≤ 65536) := fun i hi => (HM.out i (by have := H2.out; omega)).1
            have HMM : Hid (Tb.milds ls = true) := Tb.milds_yes (fun i hi => (HM.out i (by omega)).2)
            have HT : Hid (Tb.Wts x) := Tb.wts_mk HW.out
            clear HM
            by_cases hs : Tb.sum x = 0
            · have HZ : Hid (Tb.sum x = 0) := hs
              go_wp2_with (go_at_call 14; refine (refSum_any _ _ _ _ (HX.out.draws _) HT.out (by omega)).mono ?_; rintro e w' ⟨rfl, rfl⟩)
              go_ret
              exact ⟨ret_num (Tb.right_range HS.out (Tb.fit_heavy (Tb.weigh_none (by rw [HZ.out]; omega)))).symm, _, rfl⟩
            · have HZ : Hid (0 < Tb.sum x) := by show _ < _; have := Tb.sum_bd HT.out (by omega); omega
              go_wp2_with (go_at_call 14; refine (refSum_any _ _ _ _ (HX.out.draws _) HT.out (by omega)).mono ?_; rintro e w' ⟨rfl, rfl⟩)
              go_ret
              refine ⟨ret_num (Tb.right_ok HS.out ?_).symm, _, rfl⟩
              unfold Tb.fit
              rw [Tb.weigh_yes HW.out HZ.out, HMM.out]
              rfl
  · have e := Tb.shape_ne h0 h1 h2
    rw [Tb.right_shape (by rw [e]; decide), e]
    clear e
    go_enter Try.func16, Try.ntmps16
    go_wp2
    go_ret
    exact ⟨rfl, 0, rfl⟩

theorem refRight_anym (a b : Option Addr) (m c d : Nat) (x : List Int) (ls : List (List Int)) (w : World) (hm : m = x.length) (ha : Lst .i64 w a x) (hb : Tbl w b ls) (hx : x.length ≤ maxLen) (hn : ls.length ≤ maxLen) :
    Calls Try.prog 16 #[.slice a m c, .slice b ls.length d] w fun e w' => e = .returned (.int .i64 (Tb.right x ls)) ∧ ∃ n, w' = w.drewN n := by
  subst hm
  exact refRight_any a b c d x ls w ha hb hx hn
end Go.Proofs.Ytnpoaalopppanaa
