/- Contracts of the document's own tests of layer 5, and of lists held against one another. -/
import Derived.Test.YtggclllegbiokaaPkReads
namespace Go.Proofs.Ytggclllegbiokaa
set_option linter.unusedVariables false
open Go.RowKit

theorem refSame_any (a b : Option Addr) (c d : Nat) (x y : List Int) (w : World) (ha : Lst .u64 w a x) (hb : Lst .u64 w b y) (hl : x.length ≤ 1000000) (e : x = y) :
    Calls Try.prog 12 #[.slice a x.length c, .slice b y.length d] w fun e w' => e = .returned (.bool true) ∧ ∃ n, w' = w.drewN n := by
  subst e
  have HA : Hid (Lst .u64 w a x) := ha
  have HB : Hid (Lst .u64 w b x) := hb
  clear ha hb
  go_enter Try.func12, Try.ntmps12
  go_wp2
  go_loopw [5] (fun i wr => ∃ k n : Nat, k ≤ x.length ∧ i = .int .i64 k ∧ wr = w.drewN n) (fun i _ => x.length - (intOf i).toNat)
  case atStart => exact ⟨0, 0, Nat.zero_le _, rfl, rfl⟩
  case round =>
    obtain ⟨k, n, hk, rfl, rfl⟩ := hrel
    by_cases hlt : k < x.length
    · obtain ⟨b1, o1, rfl, hc1⟩ := HA.out.get hlt
      obtain ⟨b2, o2, rfl, hc2⟩ := HB.out.get hlt
      have hck1 := hc1 k hlt
      have hck2 := hc2 k hlt
      clear hc1 hc2
      go_wp2
      go_quiet (fail)
      go_wp2
      go_roundw
      case rel => exact ⟨k + 1, _, by omega, by go_num, rfl⟩
      case measure => simp [intOf]; omega
    · go_wp2
      go_ret
      exact ⟨rfl, n, rfl⟩
theorem refSame_anym (a b : Option Addr) (m n c d : Nat) (x y : List Int) (w : World) (hm : m = x.length) (hn : n = x.length) (ha : Lst .u64 w a x) (hb : Lst .u64 w b y) (hl : x.length ≤ 1000000) (e : x = y) :
    Calls Try.prog 12 #[.slice a m c, .slice b n d] w fun e w' => e = .returned (.bool true) ∧ Below w.heap.size w w' := by
  subst hm hn e
  refine (refSame_any a b c d x x w ha hb hl rfl).mono ?_
  rintro e w' ⟨rfl, n, rfl⟩
  exact ⟨rfl, below_drewN (Below.refl _ _) n⟩

theorem sameC_any (a b : Option Addr) (c d : Nat) (x y : List Int) (w : World) (ha : Lst .i64 w a x) (hb : Lst .i64 w b y) (hl : x.length ≤ 1000000) (e : x = y) :
    Calls Try.prog 15 #[.slice a x.length c, .slice b y.length d] w fun e w' => e = .returned (.bool true) ∧ ∃ n, w' = w.drewN n := by
  subst e
  have HA : Hid (Lst .i64 w a x) := ha
  have HB : Hid (Lst .i64 w b x) := hb
  clear ha hb
  go_enter Try.func15, Try.ntmps15
  go_wp2
  go_loopw [13] (fun i wr => ∃ k n : Nat, k ≤ x.length ∧ i = .int .i64 k ∧ wr = w.drewN n) (fun i _ => x.length - (intOf i).toNat)
  case atStart => exact ⟨0, 0, Nat.zero_le _, rfl, rfl⟩
  case round =>
    obtain ⟨k, n, hk, rfl, rfl⟩ := hrel
    by_cases hlt : k < x.length
    · obtain ⟨b1, o1, rfl, hc1⟩ := HA.out.get hlt
      obtain ⟨b2, o2, rfl, hc2⟩ := HB.out.get hlt
      have hck1 := hc1 k hlt
      have hck2 := hc2 k hlt
      clear hc1 hc2
      go_wp2
      go_quiet (fail)
      go_wp2
      go_roundw
      case rel => exact ⟨k + 1, _, by omega, by go_num, rfl⟩
      case measure => simp [intOf]; omega
    · go_wp2
      go_ret
      exact ⟨rfl, n, rfl⟩
theorem sameC_anym (a b : Option Addr) (m n c d : Nat) (x y : List Int) (w : World) (hm : m = x.length) (hn : n = x.length) (ha : Lst .i64 w a x) (hb : Lst .i64 w b y) (hl : x.length ≤ 1000000) (e : x = y) :
    Calls Try.prog 15 #[.slice a m c, .slice b n d] w fun e w' => e = .returned (.bool true) ∧ Below w.heap.size w w' := by
  subst hm hn e
  refine (sameC_any a b c d x x w ha hb hl rfl).mono ?_
  rintro e w' ⟨rfl, n, rfl⟩
  exact ⟨rfl, below_drewN (Below.refl _ _) n⟩

theorem refRight_bits (a : Option Addr) (m c : Nat) (b : Int) (h : NotOk b) (w : World) :
    Calls Try.prog 10 #[.slice a m c, .int .i64 b] w fun e w' => e = .returned (.int .i64 20) ∧ w' = w := by
  have H : Hid (NotOk b) := h
  clear h
  go_enter Try.func10, Try.ntmps10
  go_wp2_with (go_at_call 16; refine (refBits_no _ H.out _).mono ?_; rintro e w' ⟨rfl, rfl⟩)
  go_ret
  exact ⟨rfl, rfl⟩
theorem refRight_many (a : Option Addr) (m c b : Nat) (h : Pk.Ok b) (hm : 256 < m) (w : World) :
    Calls Try.prog 10 #[.slice a m c, .int .i64 b] w fun e w' => e = .returned (.int .i64 12) ∧ w' = w := by
  have H : Hid (Pk.Ok b) := h
  clear h
  go_enter Try.func10, Try.ntmps10
  go_wp2_with (go_at_call 16; refine (refBits_yes _ H.out _).mono ?_; rintro e w' ⟨rfl, rfl⟩)
  go_ret
  exact ⟨rfl, rfl⟩
theorem refRight_any (a : Option Addr) (c b : Nat) (l : List Int) (h : Pk.Ok b) (hl : l.length ≤ 256) (w : World) (ha : Lst .i64 w a l) :
    Calls Try.prog 10 #[.slice a l.length c, .int .i64 b] w fun e w' => e = .returned (.int .i64 (Pk.right b l)) ∧ w' = w := by
  have H : Hid (Pk.Ok b) := h
  have HA : Hid (Lst .i64 w a l) := ha
  have hb := ok_le h
  have g : decide (256 < (l.length : Int)) = false := decide_eq_false (by omega)
  clear h ha
  go_enter Try.func10, Try.ntmps10
  go_wp2_with (go_at_call 16; refine (refBits_yes _ H.out _).mono ?_; rintro e w' ⟨rfl, rfl⟩)
  go_loop [5, 6] (fun x j => ∃ k m : Nat, k ≤ b ∧ j = .int .i64 k ∧ x = .int .i64 m ∧ m = 2 ^ k) (fun _ j => b - (intOf j).toNat)
  case atStart => exact ⟨0, 1, Nat.zero_le _, rfl, rfl, rfl⟩
  case round =>
    obtain ⟨k, m, hk, rfl, rfl, hm⟩ := hrel
    have HM : Hid (m = 2 ^ k) := hm
    have hmv : m ≤ 256 := by rw [hm]; exact (Pk.two_le (show k ≤ 8 by omega))
    clear hm
    by_cases hlt : k < b
    · go_wp2
      go_round
      case rel => exact ⟨k + 1, m * 2, by omega, by go_num, by go_num, by rw [HM.out, Nat.pow_succ]⟩
      case measure => simp [intOf]; omega
    · have e : k = b := by omega
      subst e
      go_wp2
      go_loop [7] (fun i => ∃ j : Nat, j ≤ l.length ∧ i = .int .i64 j ∧ ∀ i, i < j → 0 ≤ Ls.nth l i ∧ Ls.nth l i < (m : Int)) (fun i => l.length - (intOf i).toNat)
      case atStart => exact ⟨0, Nat.zero_le _, rfl, fun i hi => by omega⟩
      case round =>
        obtain ⟨j, hj, rfl, hall⟩ := hrel
        have HL : Hid (∀ i, i < j → 0 ≤ Ls.nth l i ∧ Ls.nth l i < (m : Int)) := hall
        clear hall
        by_cases hjl : j < l.length
        · obtain ⟨b1, o1, rfl, hc1⟩ := HA.out.get hjl
          have hck1 := hc1 j hjl
          clear hc1
          by_cases c1 : Ls.nth l j < 0
          · go_wp2
            go_ret
            exact ⟨ret_num (Pk.right_no (Pk.cds_no hjl (by omega))).symm, rfl⟩
          · by_cases c2 : (m : Int) ≤ Ls.nth l j
            · go_wp2
              go_ret
              exact ⟨ret_num (Pk.right_no (Pk.cds_no hjl (by rw [← HM.out]; omega))).symm, rfl⟩
            · go_wp2
              go_round
              case rel =>
                refine ⟨j + 1, by omega, by go_num, fun i hi => ?_⟩
                by_cases e : i = j
                · subst e; omega
                · exact HL.out i (by omega)
              case measure => simp [intOf]; omega
        · go_wp2
          go_ret
          exact ⟨ret_num (Pk.right_yes (Pk.cds_yes (fun i hi => by rw [← HM.out]; exact HL.out i (by omega)))).symm, rfl⟩

theorem refRest_any (a : Option Addr) (c n b : Nat) (ws : List Int) (h : Pk.Ok b) (hn : n ≤ 256) (w : World) (ha : Lst .u64 w a ws) (hw : Pk.Wds ws) (hl : ws.length = Pk.size b n) :
    Calls Try.prog 18 #[.slice a ws.length c, .int .i64 n, .int .i64 b] w fun e w' => e = .returned (.bool (Pk.stray b n ws)) ∧ w' = w := by
  have H : Hid (Pk.Ok b) := h
  have hs := Pk.shift_le n h
  have hb := ok_le h
  have hsz : ws.length ≤ 32 := by rw [hl]; exact Pk.size_le h hn
  obtain ⟨t, et⟩ : ∃ t, Pk.word b n = t := ⟨_, rfl⟩
  have ET : Hid (Pk.word b n = t) := et
  obtain ⟨s, es⟩ : ∃ s, Pk.shift b n = s := ⟨_, rfl⟩
  have ES : Hid (Pk.shift b n = s) := es
  obtain ⟨z, ez⟩ : ∃ z, n * b = z := ⟨_, rfl⟩
  have EZ : Hid (n * b = z) := ez
  have hzi : (n : Int) * (b : Int) = (z : Int) := by rw [← ez]; exact (Int.natCast_mul n b).symm
  rw [es] at hs
  by_cases h0 : s = 0
  · rw [Pk.stray_even (by omega)]
    subst h0
    have hz := Pk.size_even h es
    have hz2 : z ≤ 64 * ws.length := by omega
    have hz3 : 64 * ws.length ≤ z := by omega
    clear et es ez h ha hw hl hz ET ES EZ
    go_enter Try.func18, Try.ntmps18
    go_wp2
    go_loop [7] (fun i => i = .int .i64 z) (fun i => 0)
    case atStart => rfl
    case round =>
      subst hrel
      go_wp2
      go_ret
      exact ⟨rfl, rfl⟩
  · have hz := Pk.size_odd h (show 0 < Pk.shift b n by omega)
    have hz1 : z ≤ 64 * t + s := by omega
    have hz0 : 64 * t + s ≤ z := by omega
    have hz2 : ws.length = t + 1 := by omega
    have hf : t < ws.length := by omega
    obtain ⟨b1, o1, rfl, hc1⟩ := ha.get hf
    have hc := hc1 _ hf
    have hv := hw t
    obtain ⟨v, ev⟩ : ∃ v, Ls.nth ws t = v := ⟨_, rfl⟩
    rw [ev] at hc hv
    obtain ⟨v, rfl⟩ := Int.eq_ofNat_of_zero_le hv.1
    have EV : Hid (Ls.nth ws t = v) := ev
    have hv : v < 18446744073709551616 := by omega
    have hz3 : ws.length ≤ t + 1 := by omega
    have hz4 : t + 1 ≤ ws.length := by omega
    clear et es ez h ha hw hl hc1 ev hz hz2
    obtain ⟨R, eR⟩ : ∃ R, Pk.stray b n ws = R := ⟨_, rfl⟩
    have ER : Hid (Pk.stray b n ws = R) := eR
    rw [eR]
    clear eR
    go_enter Try.func18, Try.ntmps18
    go_wp2
    go_loop [7] (fun i => ∃ k m : Nat, s + k ≤ 64 ∧ i = .int .i64 m ∧ m ≤ z + k ∧ z + k ≤ m ∧ v / 2 ^ s % 2 ^ k = 0) (fun i => 64 * (t + 1) - (intOf i).toNat)
    case atStart => exact ⟨0, z, by omega, rfl, Nat.le_refl _, Nat.le_refl _, by simp [Nat.mod_one]⟩
    case round =>
      obtain ⟨k, m, hk, rfl, hm, hm2, hbits⟩ := hrel
      have HB : Hid (v / 2 ^ s % 2 ^ k = 0) := hbits
      clear hbits
      by_cases hlt : s + k < 64
      · have e1 : (m : Int) / 64 = (t : Int) := by omega
        have e2 : (m : Int) % 64 = ((s + k : Nat) : Int) := by omega
        obtain ⟨B, eB⟩ : ∃ B, Pk.bit v (s + k) = B := ⟨_, rfl⟩
        have EB : Hid (Pk.bit v (s + k) = B) := eB
        have hB : B ≤ 1 := by rw [← eB]; exact Pk.bit_le _ _
        clear eB
        by_cases hB1 : B = 1
        · subst hB1
          go_wp2_with (go_at_call 26; refine (bit_any v (s + k) 1 hv (by omega) EB.out _).mono ?_; rintro e w' ⟨rfl, rfl⟩)
          go_ret
          refine ⟨ret_bool ?_, rfl⟩
          rw [← ER.out]
          exact (Pk.stray_yes (by rw [ES.out]; omega) (by rw [ET.out, ES.out, EV.out, Int.toNat_natCast]; exact Pk.bit_some EB.out)).symm
        · have hB0 : B = 0 := by omega
          subst hB0
          go_wp2_with (go_at_call 26; refine (bit_any v (s + k) 0 hv (by omega) EB.out _).mono ?_; rintro e w' ⟨rfl, hww⟩; cases hww.symm; clear hww)
          go_round
          case rel => exact ⟨k + 1, m + 1, by omega, by go_num, by omega, by omega, by rw [Pk.bits_more, HB.out, EB.out, Nat.zero_mul]⟩
          case measure => simp [intOf]; omega
      · have e : s + k = 64 := by omega
        have HV : Hid (v / 2 ^ s = 0) := Pk.bit_none (k := k) (by rw [e, Pk.two_64]; exact hv) HB.out
        go_wp2
        go_ret
        refine ⟨ret_bool ?_, rfl⟩
        rw [← ER.out]
        exact (Pk.stray_no (by rw [ET.out, ES.out, EV.out, Int.toNat_natCast]; exact HV.out)).symm
end Go.Proofs.Ytggclllegbiokaa
