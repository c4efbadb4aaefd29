/- Contracts of the document's own tests of layer 5, and of lists held against one another. -/
import Derived.Test.YtimkfkolkplpdaaGreatPkReads
namespace Go.Proofs.YtimkfkolkplpdaaGreat
set_option linter.unusedVariables false
open Go.RowKit

theorem refRest_any (a : Option Addr) (c n b : Nat) (ws : List Int) (h : Pk.Ok b) (hn : n ≤ 256) (w : World) (ha : Lst .u64 w a ws) (hw : Pk.Wds ws) (hl : ws.length = Pk.size b n) :
    Calls Tryz.prog 82 #[.slice a ws.length c, .int .i64 n, .int .i64 b] w fun e w' => e = .returned (.bool (Pk.stray b n ws)) ∧ w' = w := by
  have H : Hid (Pk.Ok b) := h
  have hs := Pk.shift_le n h
  have hb := ok_le h
  have hsz : ws.length ≤ 32 := by rw [hl]; exact Pk.size_le h hn
  obtain ⟨t, et⟩ : ∃ t, Pk.word b n = t := ⟨_, rfl⟩
  have ET : Hid (Pk.word b n = t) := et
  obtain ⟨s, es⟩ : ∃ s, Pk.shift b n = s := ⟨_, rfl⟩
  have ES : Hid (Pk.shift b n = s) := es
  obtain ⟨z, ez⟩ : ∃ z, n * b = z := ⟨_, rfl⟩
  have EZ : Hid (n * b = z) := ez
  have hzi : (n : Int) * (b : Int) = (z : Int) := by rw [← ez]; exact (Int.natCast_mul n b).symm
  rw [es] at hs
  by_cases h0 : s = 0
  · rw [Pk.stray_even (by omega)]
    subst h0
    have hz := Pk.size_even h es
    have hz2 : z ≤ 64 * ws.length := by omega
    have hz3 : 64 * ws.length ≤ z := by omega
    clear et es ez h ha hw hl hz ET ES EZ
    go_enter Tryz.func82, Tryz.ntmps82
    go_wp2
    go_loop [7] (fun i => i = .int .i64 z) (fun i => 0)
    case atStart => rfl
    case round =>
      subst hrel
      go_wp2
      go_ret
      exact ⟨rfl, rfl⟩
  · have hz := Pk.size_odd h (show 0 < Pk.shift b n by omega)
    have hz1 : z ≤ 64 * t + s := by omega
    have hz0 : 64 * t + s ≤ z := by omega
    have hz2 : ws.length = t + 1 := by omega
    have hf : t < ws.length := by omega
    obtain ⟨b1, o1, rfl, hc1⟩ := ha.get hf
    have hc := hc1 _ hf
    have hv := hw t
    obtain ⟨v, ev⟩ : ∃ v, Ls.nth ws t = v := ⟨_, rfl⟩
    rw [ev] at hc hv
    obtain ⟨v, rfl⟩ := Int.eq_ofNat_of_zero_le hv.1
    have EV : Hid (Ls.nth ws t = v) := ev
    have hv : v < 18446744073709551616 := by omega
    have hz3 : ws.length ≤ t + 1 := by omega
    have hz4 : t + 1 ≤ ws.length := by omega
    clear et es ez h ha hw hl hc1 ev hz hz2
    obtain ⟨R, eR⟩ : ∃ R, Pk.stray b n ws = R := ⟨_, rfl⟩
    have ER : Hid (Pk.stray b n ws = R) := eR
    rw [eR]
    clear eR
    go_enter Tryz.func82, Tryz.ntmps82
    go_wp2
    go_loop [7] (fun i => ∃ k m : Nat, s + k ≤ 64 ∧ i = .int .i64 m ∧ m ≤ z + k ∧ z + k ≤ m ∧ v / 2 ^ s % 2 ^ k = 0) (fun i => 64 * (t + 1) - (intOf i).toNat)
    case atStart => exact ⟨0, z, by omega, rfl, Nat.le_refl _, Nat.le_refl _, by simp [Nat.mod_one]⟩
    case round =>
      obtain ⟨k, m, hk, rfl, hm, hm2, hbits⟩ := hrel
      have HB : Hid (v / 2 ^ s % 2 ^ k = 0) := hbits
      clear hbits
      by_cases hlt : s + k < 64
      · have e1 : (m : Int) / 64 = (t : Int) := by omega
        have e2 : (m : Int) % 64 = ((s + k : Nat) : Int) := by omega
        obtain ⟨B, eB⟩ : ∃ B, Pk.bit v (s + k) = B := ⟨_, rfl⟩
        have EB : Hid (Pk.bit v (s + k) = B) := eB
        have hB : B ≤ 1 := by rw [← eB]; exact Pk.bit_le _ _
        clear eB
        by_cases hB1 : B = 1
        · subst hB1
          go_wp2_with (go_at_call 104; refine (bit_any v (s + k) 1 hv (by omega) EB.out _).mono ?_; rintro e w' ⟨rfl, rfl⟩)
          go_ret
          refine ⟨ret_bool ?_, rfl⟩
          rw [← ER.out]
          exact (Pk.stray_yes (by rw [ES.out]; omega) (by rw [ET.out, ES.out, EV.out, Int.toNat_natCast]; exact Pk.bit_some EB.out)).symm
        · have hB0 : B = 0 := by omega
          subst hB0
          go_wp2_with (go_at_call 104; refine (bit_any v (s + k) 0 hv (by omega) EB.out _).mono ?_; rintro e w' ⟨rfl, hww⟩; cases hww.symm; clear hww)
          go_round
          case rel => exact ⟨k + 1, m + 1, by omega, by go_num, by omega, by omega, by rw [Pk.bits_more, HB.out, EB.out, Nat.zero_mul]⟩
          case measure => simp [intOf]; omega
      · have e : s + k = 64 := by omega
        have HV : Hid (v / 2 ^ s = 0) := Pk.bit_none (k := k) (by rw [e, Pk.two_64]; exact hv) HB.out
        go_wp2
        go_ret
        refine ⟨ret_bool ?_, rfl⟩
        rw [← ER.out]
        exact (Pk.stray_no (by rw [ET.out, ES.out, EV.out, Int.toNat_natCast]; exact HV.out)).symm
end Go.Proofs.YtimkfkolkplpdaaGreat
