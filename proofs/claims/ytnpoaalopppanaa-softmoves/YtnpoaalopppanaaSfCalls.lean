/- Contracts of package soft and of the document's own answers of layer 4, where nothing is made. -/
import Derived.Test.YtnpoaalopppanaaExCalls
import Derived.Test.YtnpoaalopppanaaDtCalls
import Derived.Test.YtnpoaalopppanaaSfWorld
namespace Go.Proofs.Ytnpoaalopppanaa
set_option linter.unusedVariables false
open Go.RowKit

theorem sum_any (a : Option Addr) (c : Nat) (x : List Int) (w : World) (ha : Lst .i64 w a x) (hw : Tb.Wts x) (hl : x.length ≤ 2000) :
    Calls Try.prog 13 #[.slice a x.length c] w fun e w' => e = .returned (.int .i64 (Tb.sum x)) ∧ w' = w := by
  have HA : Hid (Lst .i64 w a x) := ha
  have HW : Hid (Tb.Wts x) := hw
  clear ha hw
  go_enter Try.func13, Try.ntmps13
  go_wp2
  go_loop [3, 8] (fun s i => ∃ k : Nat, k ≤ x.length ∧ i = .int .i64 k ∧ s = .int .i64 (Tb.sumN x k)) (fun _ i => x.length - (intOf i).toNat)
  case atStart => exact ⟨0, Nat.zero_le _, rfl, rfl⟩
  case round =>
    obtain ⟨k, hk, rfl, rfl⟩ := hrel
    by_cases hlt : k < x.length
    · obtain ⟨b1, o1, rfl, hc1⟩ := HA.out.get hlt
      have hck1 := hc1 k hlt
      clear hc1
      have st := Tb.sumN_step HW.out (show k < 2000 by omega)
      go_wp2
      go_round
      case rel => exact ⟨k + 1, by omega, by go_num, rfl⟩
      case measure => simp [intOf]; omega
    · have e : k = x.length := by omega
      subst e
      go_wp2
      go_ret
      exact ⟨rfl, rfl⟩

theorem refSum_any (a : Option Addr) (c : Nat) (x : List Int) (w : World) (ha : Lst .i64 w a x) (hw : Tb.Wts x) (hl : x.length ≤ 2000) :
    Calls Try.prog 14 #[.slice a x.length c] w fun e w' => e = .returned (.int .i64 (Tb.sum x)) ∧ w' = w := by
  have HA : Hid (Lst .i64 w a x) := ha
  have HW : Hid (Tb.Wts x) := hw
  clear ha hw
  go_enter Try.func14, Try.ntmps14
  go_wp2
  go_loop [3, 4] (fun s i => ∃ k : Nat, k ≤ x.length ∧ i = .int .i64 k ∧ s = .int .i64 (Tb.sumN x k)) (fun _ i => x.length - (intOf i).toNat)
  case atStart => exact ⟨0, Nat.zero_le _, rfl, rfl⟩
  case round =>
    obtain ⟨k, hk, rfl, rfl⟩ := hrel
    by_cases hlt : k < x.length
    · obtain ⟨b1, o1, rfl, hc1⟩ := HA.out.get hlt
      have hck1 := hc1 k hlt
      clear hc1
      have st := Tb.sumN_step HW.out (show k < 2000 by omega)
      go_wp2
      go_round
      case rel => exact ⟨k + 1, by omega, by go_num, rfl⟩
      case measure => simp [intOf]; omega
    · have e : k = x.length := by omega
      subst e
      go_wp2
      go_ret
      exact ⟨rfl, rfl⟩

theorem sum_anym (a : Option Addr) (m c : Nat) (x : List Int) (w : World) (hm : m = x.length) (ha : Lst .i64 w a x) (hw : Tb.Wts x) (hl : x.length ≤ 2000) :
    Calls Try.prog 13 #[.slice a m c] w fun e w' => e = .returned (.int .i64 (Tb.sum x)) ∧ w' = w := by
  subst hm
  exact sum_any a c x w ha hw hl

theorem refSum_anym (a : Option Addr) (m c : Nat) (x : List Int) (w : World) (hm : m = x.length) (ha : Lst .i64 w a x) (hw : Tb.Wts x) (hl : x.length ≤ 2000) :
    Calls Try.prog 14 #[.slice a m c] w fun e w' => e = .returned (.int .i64 (Tb.sum x)) ∧ w' = w := by
  subst hm
  exact refSum_any a c x w ha hw hl

theorem weighable_any (a : Option Addr) (c : Nat) (x : List Int) (w : World) (ha : Lst .i64 w a x) (hl : x.length ≤ 1024) :
    Calls Try.prog 25 #[.slice a x.length c] w fun e w' => e = .returned (.bool (Tb.weigh x)) ∧ w' = w := by
  have HA : Hid (Lst .i64 w a x) := ha
  clear ha
  go_enter Try.func25, Try.ntmps25
  go_wp2
  go_loop [7] (fun i => ∃ k : Nat, k ≤ x.length ∧ i = .int .i64 k ∧ ∀ j, j < k → 0 ≤ Ls.nth x j ∧ Ls.nth x j ≤ 65536) (fun i => x.length - (intOf i).toNat)
  case atStart => exact ⟨0, Nat.zero_le _, rfl, fun j hj => by omega⟩
  case round =>
    obtain ⟨k, hk, rfl, hm⟩ := hrel
    have HM : Hid (∀ j, j < k → 0 ≤ Ls.nth x j ∧ Ls.nth x j ≤ 65536) := hm
    clear hm
    by_cases hlt : k < x.length
    · obtain ⟨b, o, rfl, hc⟩ := HA.out.get hlt
      have hck := hc k hlt
      clear hc
      by_cases c1 : Ls.nth x k < 0
      · go_wp2
        go_ret
        exact ⟨ret_bool (Tb.weigh_low hlt c1).symm, rfl⟩
      · by_cases c2 : 65536 < Ls.nth x k
        · go_wp2
          go_ret
          exact ⟨ret_bool (Tb.weigh_high hlt c2).symm, rfl⟩
        · go_wp2
          go_round
          case rel =>
            refine ⟨k + 1, by omega, by go_num, fun j hj => ?_⟩
            by_cases e : j = k
            · subst e; omega
            · exact HM.out j (by omega)
          case measure => simp [intOf]; omega
    · have hall : ∀ i, i < x.length → 0 ≤ Ls.nth x i ∧ Ls.nth x i ≤ 65536 := fun i hi => HM.out i (by omega)
      have HW : Hid (Tb.Wts x) := Tb.wts_mk hall
      have HAll : Hid (∀ i, i < x.length → 0 ≤ Ls.nth x i ∧ Ls.nth x i ≤ 65536) := hall
      clear hall
      by_cases hs : 0 < Tb.sum x
      · go_wp2_with (go_at_call 13; refine (sum_any _ _ _ _ HA.out HW.out (by omega)).mono ?_; rintro e w' ⟨rfl, rfl⟩)
        go_ret
        exact ⟨ret_bool (Tb.weigh_yes HAll.out hs).symm, rfl⟩
      · go_wp2_with (go_at_call 13; refine (sum_any _ _ _ _ HA.out HW.out (by omega)).mono ?_; rintro e w' ⟨rfl, rfl⟩)
        go_ret
        exact ⟨ret_bool (dec_no (by omega) (Tb.weigh_none (by omega))), rfl⟩

theorem allMild_any (a : Option Addr) (c : Nat) (ls : List (List Int)) (w : World) (ha : Tbl w a ls) (hl : ls.length ≤ 1024) :
    Calls Try.prog 26 #[.slice a ls.length c] w fun e w' => e = .returned (.bool (Tb.milds ls)) ∧ w' = w := by
  have HA : Hid (Tbl w a ls) := ha
  clear ha
  go_enter Try.func26, Try.ntmps26
  go_wp2
  go_loop [7] (fun i => ∃ k : Nat, k ≤ ls.length ∧ i = .int .i64 k ∧ ∀ j, j < k → Ls.mild (Tb.row ls j) = true) (fun i => ls.length - (intOf i).toNat)
  case atStart => exact ⟨0, Nat.zero_le _, rfl, fun j hj => by omega⟩
  case round =>
    obtain ⟨k, hk, rfl, hm⟩ := hrel
    have HM : Hid (∀ j, j < k → Ls.mild (Tb.row ls j) = true) := hm
    clear hm
    by_cases hlt : k < ls.length
    · obtain ⟨b, o, rfl, hc⟩ := HA.out.get hlt
      obtain ⟨A, C, hck, hL, hM⟩ := hc k hlt
      have HL : Hid (Lst .i32 w A (Tb.row ls k)) := hL
      have HN : Hid ((Tb.row ls k).length ≤ maxLen) := hM
      clear hc hL hM
      cases hmk : Ls.mild (Tb.row ls k)
      · have HK : Hid (Ls.mild (Tb.row ls k) = false) := hmk
        go_wp2_with (go_at_call 39; refine (mild_any _ _ _ _ HL.out HN.out).mono ?_; rintro e w' ⟨rfl, rfl⟩)
        go_ret
        exact ⟨ret_bool (Tb.milds_no hlt HK.out).symm, rfl⟩
      · have HK : Hid (Ls.mild (Tb.row ls k) = true) := hmk
        go_wp2_with (go_at_call 39; refine (mild_any _ _ _ _ HL.out HN.out).mono ?_; rintro e w' ⟨rfl, rfl⟩)
        go_round
        case rel =>
          refine ⟨k + 1, by omega, by go_num, fun j hj => ?_⟩
          by_cases e : j = k
          · subst e; exact HK.out
          · exact HM.out j (by omega)
        case measure => simp [intOf]; omega
    · go_wp2
      go_ret
      exact ⟨ret_bool (Tb.milds_yes (fun i hi => HM.out i (by omega))).symm, rfl⟩

theorem shape_any (a b : Option Addr) (m c d : Nat) (ls : List (List Int)) (w : World) (ha : Tbl w b ls) :
    Calls Try.prog 24 #[.slice a m c, .slice b ls.length d] w fun e w' => e = .returned (.int .i64 (Tb.shape m ls)) ∧ w' = w := by
  have HA : Hid (Tbl w b ls) := ha
  clear ha
  by_cases h0 : ls.length = 0
  · rw [Tb.shape_none h0]
    go_enter Try.func24, Try.ntmps24
    go_wp2
    go_ret
    exact ⟨rfl, rfl⟩
  by_cases h1 : 1024 < ls.length
  · rw [Tb.shape_many h1]
    go_enter Try.func24, Try.ntmps24
    go_wp2
    go_ret
    exact ⟨rfl, rfl⟩
  by_cases h2 : m = ls.length
  · obtain ⟨b, o, rfl, hc⟩ := HA.out.get (show 0 < ls.length by omega)
    obtain ⟨A0, C0, hck0, _, _⟩ := hc 0 (by omega)
    have hck0 : w.cell? ⟨b, o, none⟩ = some (.slice A0 (Tb.row ls 0).length C0) := by simpa using hck0
    have HC : Hid (∀ j, j < ls.length → ∃ A C, w.cell? ⟨b, o + j, none⟩ = some (.slice A (Tb.row ls j).length C) ∧ Lst .i32 w A (Tb.row ls j) ∧ (Tb.row ls j).length ≤ maxLen) := hc
    clear hc HA
    have H0 : Hid (¬ ls.length = 0) := h0
    have H1 : Hid (¬ 1024 < ls.length) := h1
    subst h2
    go_enter Try.func24, Try.ntmps24
    go_wp2
    go_loop [20] (fun i => ∃ k : Nat, k ≤ ls.length ∧ i = .int .i64 k ∧ ∀ j, j < k → (Tb.row ls j).length = (Tb.row ls 0).length) (fun i => ls.length - (intOf i).toNat)
    case atStart => exact ⟨0, Nat.zero_le _, rfl, fun j hj => by omega⟩
    case round =>
      obtain ⟨k, hk, rfl, hm⟩ := hrel
      have HM : Hid (∀ j, j < k → (Tb.row ls j).length = (Tb.row ls 0).length) := hm
      clear hm
      by_cases hlt : k < ls.length
      · obtain ⟨A, C, hck, _, _⟩ := HC.out k hlt
        by_cases he : (Tb.row ls k).length = (Tb.row ls 0).length
        · have HE : Hid ((Tb.row ls k).length = (Tb.row ls 0).length) := he
          go_wp2
          go_round
          case rel =>
            refine ⟨k + 1, by omega, by go_num, fun j hj => ?_⟩
            by_cases e : j = k
            · subst e; exact HE.out
            · exact HM.out j (by omega)
          case measure => simp [intOf]; omega
        · have HE : Hid (Tb.even ls = false) := Tb.even_no hlt he
          go_wp2
          go_ret
          exact ⟨ret_num (Tb.shape_odd H0.out H1.out HE.out).symm, rfl⟩
      · go_wp2
        go_ret
        exact ⟨ret_num (Tb.shape_ok H0.out H1.out rfl (Tb.even_mk (fun i hi => HM.out i (by omega)))).symm, rfl⟩
  · rw [Tb.shape_ne h0 h1 h2]
    go_enter Try.func24, Try.ntmps24
    go_wp2
    go_ret
    exact ⟨rfl, rfl⟩

theorem sameI_any (a b : Option Addr) (c d : Nat) (x y : List Int) (w : World) (ha : Lst .i64 w a x) (hb : Lst .i64 w b y) (hl : x.length ≤ 1000000) (e : x = y) :
    Calls Try.prog 11 #[.slice a x.length c, .slice b y.length d] w fun e w' => e = .returned (.bool true) ∧ ∃ n, w' = w.drewN n := by
  subst e
  have HA : Hid (Lst .i64 w a x) := ha
  have HB : Hid (Lst .i64 w b x) := hb
  clear ha hb
  go_enter Try.func11, Try.ntmps11
  go_wp2
  go_loopw [13] (fun i wr => ∃ k n : Nat, k ≤ x.length ∧ i = .int .i64 k ∧ wr = w.drewN n) (fun i _ => x.length - (intOf i).toNat)
  case atStart => exact ⟨0, 0, Nat.zero_le _, rfl, rfl⟩
  case round =>
    obtain ⟨k, n, hk, rfl, rfl⟩ := hrel
    by_cases hlt : k < x.length
    · obtain ⟨b1, o1, rfl, hc1⟩ := HA.out.get hlt
      obtain ⟨b2, o2, rfl, hc2⟩ := HB.out.get hlt
      have hck1 := hc1 k hlt
      have hck2 := hc2 k hlt
      clear hc1 hc2
      go_wp2
      go_quiet (fail)
      go_wp2
      go_roundw
      case rel => exact ⟨k + 1, _, by omega, by go_num, rfl⟩
      case measure => simp [intOf]; omega
    · go_wp2
      go_ret
      exact ⟨rfl, n, rfl⟩

theorem sameI_anym (a b : Option Addr) (m n c d : Nat) (x y : List Int) (w : World) (hm : m = x.length) (hn : n = x.length) (ha : Lst .i64 w a x) (hb : Lst .i64 w b y) (hl : x.length ≤ 1000000) (e : x = y) :
    Calls Try.prog 11 #[.slice a m c, .slice b n d] w fun e w' => e = .returned (.bool true) ∧ Below w.heap.size w w' := by
  subst hm hn e
  refine (sameI_any a b c d x x w ha hb hl rfl).mono ?_
  rintro e w' ⟨rfl, n, rfl⟩
  exact ⟨rfl, below_drewN (Below.refl _ _) n⟩
end Go.Proofs.Ytnpoaalopppanaa
