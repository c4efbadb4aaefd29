/- Contracts of package pack and of the document's own answers of layer 5 that read lists. -/
import Derived.Test.YtimkfkolkplpdaaGreatPkCalls
namespace Go.Proofs.YtimkfkolkplpdaaGreat
set_option linter.unusedVariables false
open Go.RowKit

theorem div_cast {v : Int} (h0 : 0 ≤ v) (s : Nat) : v / 2 ^ s = ((v.toNat / 2 ^ s : Nat) : Int) := by
  rw [Int.natCast_ediv, Int.natCast_pow]
  congr 1
  omega
theorem and_low {x : Int} {b m q n : Nat} (hb : b ≤ 8) (hm : 2 ^ b - 1 = m) (hx : x % 18446744073709551616 = ((n % 18446744073709551616 : Nat) : Int)) (hq : n % 2 ^ b = q) : bits .and .i64 x m = q := by
  have p8 : 2 ^ b ≤ 256 := Pk.two_le (t := 8) hb
  have p0 := Nat.two_pow_pos b
  have hq8 : q < 2 ^ b := by rw [← hq]; exact Nat.mod_lt _ p0
  have e1 : (BitVec.ofInt 64 x).toNat = n % 18446744073709551616 := by
    rw [BitVec.toNat_ofInt]
    show (x % 18446744073709551616).toNat = _
    rw [hx]
    rfl
  have e2 : (BitVec.ofInt 64 (m : Int)).toNat = 2 ^ b - 1 := by
    rw [BitVec.toNat_ofInt, hm]
    show ((m : Int) % 18446744073709551616).toNat = _
    omega
  show IntKind.i64.wrap ((BitVec.ofInt 64 x &&& BitVec.ofInt 64 (m : Int)).toNat : Int) = _
  rw [BitVec.toNat_and, e1, e2, Nat.and_two_pow_sub_one_eq_mod, ← Pk.two_64, Nat.mod_mod_of_dvd _ (Nat.pow_dvd_pow 2 (show b ≤ 64 by omega)), hq, IntKind.wrap_i64]
  omega
theorem wrap_low (n : Nat) : wrap64 (n : Int) % 18446744073709551616 = ((n % 18446744073709551616 : Nat) : Int) := by
  unfold wrap64
  omega
theorem and_mask {v : Int} {s b m q : Nat} (h0 : 0 ≤ v) (hb : b ≤ 8) (hm : 2 ^ b - 1 = m) (hq : v.toNat / 2 ^ s % 2 ^ b = q) : bits .and .i64 (wrap64 (v / 2 ^ s)) m = q := by
  have e := div_cast h0 s
  obtain ⟨n, en⟩ : ∃ n, v.toNat / 2 ^ s = n := ⟨_, rfl⟩
  rw [en] at hq e
  rw [e]
  exact and_low hb hm (wrap_low n) hq

theorem lane_bits (ws : Option Addr) (m c : Nat) (i b : Int) (h : NotOk b) (w : World) :
    Calls Tryz.prog 87 #[.slice ws m c, .int .i64 i, .int .i64 b] w fun e w' => e = .returned (.int .i64 0) ∧ w' = w := by
  have H : Hid (NotOk b) := h
  clear h
  go_enter Tryz.func87, Tryz.ntmps87
  go_wp2_with (go_at_call 29; refine (bits_no _ H.out _).mono ?_; rintro e w' ⟨rfl, rfl⟩)
  go_ret
  exact ⟨rfl, rfl⟩
theorem lane_low (ws : Option Addr) (m c : Nat) (i : Int) (b : Nat) (h : Pk.Ok b) (hi : i < 0) (w : World) :
    Calls Tryz.prog 87 #[.slice ws m c, .int .i64 i, .int .i64 b] w fun e w' => e = .returned (.int .i64 0) ∧ w' = w := by
  have H : Hid (Pk.Ok b) := h
  clear h
  go_enter Tryz.func87, Tryz.ntmps87
  go_wp2_with (go_at_call 29; refine (bits_yes _ H.out _).mono ?_; rintro e w' ⟨rfl, rfl⟩)
  go_ret
  exact ⟨rfl, rfl⟩
theorem lane_far (ws : Option Addr) (m c i b : Nat) (h : Pk.Ok b) (hi : i ≤ 9223372036854775807) (hf : m ≤ Pk.word b i) (w : World) :
    Calls Tryz.prog 87 #[.slice ws m c, .int .i64 i, .int .i64 b] w fun e w' => e = .returned (.int .i64 0) ∧ ∃ n, w' = w.drewN n := by
  have H : Hid (Pk.Ok b) := h
  clear h
  obtain ⟨t, et⟩ : ∃ t, Pk.word b i = t := ⟨_, rfl⟩
  have ET : Hid (Pk.word b i = t) := et
  rw [et] at hf
  clear et
  go_enter Tryz.func87, Tryz.ntmps87
  go_wp2_with (first
    | (go_at_call 29; refine (bits_yes _ H.out _).mono ?_; rintro e w' ⟨rfl, rfl⟩)
    | (go_at_call 113; refine (place_any _ _ t _ H.out (by omega) ET.out rfl _).mono ?_; rintro e w' ⟨rfl, n, rfl⟩))
  go_ret
  exact ⟨rfl, _, rfl⟩

theorem lane_ok (a : Option Addr) (c i b : Nat) (ws : List Int) (h : Pk.Ok b) (hi : i ≤ 9223372036854775807) (hf : Pk.word b i < ws.length) (w : World) (ha : Lst .u64 w a ws) (hw : Pk.Wds ws) :
    Calls Tryz.prog 87 #[.slice a ws.length c, .int .i64 i, .int .i64 b] w fun e w' => e = .returned (.int .i64 (Pk.lane b ws i : Nat)) ∧ ∃ n, w' = w.drewN n := by
  have H : Hid (Pk.Ok b) := h
  have hs := Pk.shift_le i h
  have hb := ok_le h
  obtain ⟨b1, o1, rfl, hc1⟩ := ha.get hf
  have hc := hc1 _ hf
  have hv := hw (Pk.word b i)
  obtain ⟨q, eq⟩ : ∃ q, Pk.lane b ws i = q := ⟨_, rfl⟩
  rw [eq]
  unfold Pk.lane at eq
  clear h ha hw hc1
  obtain ⟨t, et⟩ : ∃ t, Pk.word b i = t := ⟨_, rfl⟩
  have ET : Hid (Pk.word b i = t) := et
  obtain ⟨s, es⟩ : ∃ s, Pk.shift b i = s := ⟨_, rfl⟩
  have ES : Hid (Pk.shift b i = s) := es
  obtain ⟨m, em⟩ : ∃ m, 2 ^ b - 1 = m := ⟨_, rfl⟩
  have EM : Hid (2 ^ b - 1 = m) := em
  rw [et] at hf hc hv eq
  rw [es] at hs eq
  obtain ⟨v, ev⟩ : ∃ v, Ls.nth ws t = v := ⟨_, rfl⟩
  rw [ev] at hc hv eq
  have EQ : Hid (v.toNat / 2 ^ s % 2 ^ b = q) := eq
  clear et es em ev eq
  go_enter Tryz.func87, Tryz.ntmps87
  go_wp2_with (first
    | (go_at_call 29; refine (bits_yes _ H.out _).mono ?_; rintro e w' ⟨rfl, rfl⟩)
    | (go_at_call 113; refine (place_any _ _ t s H.out (by omega) ET.out ES.out _).mono ?_; rintro e w' ⟨rfl, n, rfl⟩))
  go_quiet ((go_at_call 114; exact (mask_any _ m H.out EM.out _).mono fun _ _ ⟨he, hw⟩ => ⟨he, _, hw⟩))
  go_wp2
  go_ret
  exact ⟨ret_num (and_mask hv.1 hb.2 EM.out EQ.out), _, World.drewN_drewN _ _ _⟩

theorem strayBits_any (a : Option Addr) (c n b : Nat) (ws : List Int) (h : Pk.Ok b) (hn : n ≤ 256) (w : World) (ha : Lst .u64 w a ws) (hw : Pk.Wds ws) (hl : ws.length = Pk.size b n) :
    Calls Tryz.prog 116 #[.slice a ws.length c, .int .i64 n, .int .i64 b] w fun e w' => e = .returned (.bool (Pk.stray b n ws)) ∧ ∃ n, w' = w.drewN n := by
  have H : Hid (Pk.Ok b) := h
  have hs := Pk.shift_le n h
  obtain ⟨t, et⟩ : ∃ t, Pk.word b n = t := ⟨_, rfl⟩
  have ET : Hid (Pk.word b n = t) := et
  obtain ⟨s, es⟩ : ∃ s, Pk.shift b n = s := ⟨_, rfl⟩
  have ES : Hid (Pk.shift b n = s) := es
  rw [es] at hs
  by_cases h0 : s = 0
  · rw [Pk.stray_even (by omega)]
    subst h0
    clear et es h ha hw hl
    go_enter Tryz.func116, Tryz.ntmps116
    go_wp2_with (go_at_call 113; refine (place_any _ _ t 0 H.out (by omega) ET.out ES.out _).mono ?_; rintro e w' ⟨rfl, n, rfl⟩)
    go_ret
    exact ⟨rfl, _, rfl⟩
  · have hsz := (Pk.size_odd h (show 0 < Pk.shift b n by omega)).1
    have hf : t < ws.length := by omega
    obtain ⟨b1, o1, rfl, hc1⟩ := ha.get hf
    have hc := hc1 _ hf
    have hv := hw t
    obtain ⟨v, ev⟩ : ∃ v, Ls.nth ws t = v := ⟨_, rfl⟩
    rw [ev] at hc hv
    have EV : Hid (Ls.nth ws t = v) := ev
    have hd := div_cast hv.1 s
    have h1 : (0 : Int) < (s : Int) := by omega
    clear et es h ha hw hl hc1 ev hsz
    by_cases hz : v.toNat / 2 ^ s = 0
    · have HZ : Hid (v.toNat / 2 ^ s = 0) := hz
      rw [Pk.stray_no (by rw [ET.out, ES.out, EV.out]; exact hz)]
      have hd2 : v / 2 ^ s = 0 := by rw [hd, hz]; rfl
      clear hd hz
      go_enter Tryz.func116, Tryz.ntmps116
      go_wp2_with (go_at_call 113; refine (place_any _ _ t s H.out (by omega) ET.out ES.out _).mono ?_; rintro e w' ⟨rfl, n, rfl⟩)
      go_ret
      exact ⟨rfl, _, rfl⟩
    · rw [Pk.stray_yes (by rw [ES.out]; omega) (by rw [ET.out, ES.out, EV.out]; exact hz)]
      have hd2 : (v / 2 ^ s != 0) = true := by rw [bne_iff_ne, hd]; omega
      clear hd hz
      go_enter Tryz.func116, Tryz.ntmps116
      go_wp2_with (go_at_call 113; refine (place_any _ _ t s H.out (by omega) ET.out ES.out _).mono ?_; rintro e w' ⟨rfl, n, rfl⟩)
      go_ret
      exact ⟨rfl, _, rfl⟩

theorem refLane_any (a : Option Addr) (c i b : Nat) (ws : List Int) (h : Pk.Ok b) (hi : i ≤ 1000000) (hf : Pk.word b i < ws.length) (w : World) (ha : Lst .u64 w a ws) (hw : Pk.Wds ws) :
    Calls Tryz.prog 83 #[.slice a ws.length c, .int .i64 i, .int .i64 b] w fun e w' => e = .returned (.int .i64 (Pk.lane b ws i : Nat)) ∧ ∃ n, w' = w.drewN n := by
  have H : Hid (Pk.Ok b) := h
  have hs := Pk.shift_le i h
  have hb := ok_le h
  obtain ⟨b1, o1, rfl, hc1⟩ := ha.get hf
  have hc := hc1 _ hf
  have hv := hw (Pk.word b i)
  obtain ⟨q, eq⟩ : ∃ q, Pk.lane b ws i = q := ⟨_, rfl⟩
  rw [eq]
  unfold Pk.lane at eq
  clear h ha hw hc1
  obtain ⟨t, et⟩ : ∃ t, Pk.word b i = t := ⟨_, rfl⟩
  have ET : Hid (Pk.word b i = t) := et
  obtain ⟨s, es⟩ : ∃ s, Pk.shift b i = s := ⟨_, rfl⟩
  have ES : Hid (Pk.shift b i = s) := es
  rw [et] at hf hc hv eq
  rw [es] at hs eq
  obtain ⟨v, ev⟩ : ∃ v, Ls.nth ws t = v := ⟨_, rfl⟩
  rw [ev] at hc hv eq
  obtain ⟨v, rfl⟩ := Int.eq_ofNat_of_zero_le hv.1
  have EQ : Hid (v / 2 ^ s % 2 ^ b = q) := by rw [Int.toNat_natCast] at eq; exact eq
  have hv : v < 18446744073709551616 := by omega
  clear et es ev eq
  obtain ⟨z, ez⟩ : ∃ z, i * b = z := ⟨_, rfl⟩
  have EZ : Hid (i * b = z) := ez
  have hzi : (i : Int) * (b : Int) = (z : Int) := by rw [← ez]; exact (Int.natCast_mul i b).symm
  have hz : z ≤ 1000000 * 8 := by rw [← ez]; exact Nat.mul_le_mul hi hb.2
  clear ez
  go_enter Tryz.func83, Tryz.ntmps83
  go_wp2
  go_loopw [7, 8] (fun o j wr => ∃ k m n : Nat, k ≤ b ∧ j = .int .i64 k ∧ o = .int .u64 m ∧ m = v / 2 ^ s % 2 ^ k ∧ wr = w.drewN n) (fun _ j _ => b - (intOf j).toNat)
  case atStart => exact ⟨0, 0, 0, Nat.zero_le _, rfl, rfl, by simp [Nat.mod_one], rfl⟩
  case round =>
    obtain ⟨k, m, n, hk, rfl, rfl, hm, rfl⟩ := hrel
    have HM : Hid (m = v / 2 ^ s % 2 ^ k) := hm
    have hk8 : 2 ^ k ≤ 2 ^ 8 := Pk.two_le (by omega)
    have hm8 : m < 2 ^ k := by rw [hm]; exact Nat.mod_lt _ (Nat.two_pow_pos _)
    have hm9 : m < 256 := by omega
    clear hm hm8
    by_cases hlt : k < b
    · have e1 : ((z : Int) + (k : Int)) / 64 = (t : Int) := by
        have := Pk.at_word (i := i) H.out hlt
        rw [EZ.out, ET.out] at this
        omega
      have e2 : ((z : Int) + (k : Int)) % 64 = ((s + k : Nat) : Int) := by
        have := Pk.at_shift (i := i) H.out hlt
        rw [EZ.out, ES.out] at this
        omega
      obtain ⟨B, eB⟩ : ∃ B, Pk.bit v (s + k) = B := ⟨_, rfl⟩
      have EB : Hid (Pk.bit v (s + k) = B) := eB
      have hB : B ≤ 1 := by rw [← eB]; exact Pk.bit_le _ _
      obtain ⟨P, eP⟩ : ∃ P, 2 ^ k = P := ⟨_, rfl⟩
      have EP : Hid (2 ^ k = P) := eP
      rw [eP] at hk8
      have hBP : B * P ≤ 1 * P := Nat.mul_le_mul_right _ hB
      have hBP2 : (B : Int) * (P : Int) = ((B * P : Nat) : Int) := (Int.natCast_mul B P).symm
      obtain ⟨r, er⟩ : ∃ r, B * P = r := ⟨_, rfl⟩
      have ER : Hid (B * P = r) := er
      rw [er] at hBP hBP2
      clear eB eP er
      go_wp2_with (first
        | (go_at_call 104; refine (bit_any v (s + k) B hv (by omega) EB.out _).mono ?_; rintro e w' ⟨rfl, hww⟩; cases hww.symm; clear hww)
        | (go_at_call 105; refine (power_any k P (by omega) EP.out _).mono ?_; rintro e w' ⟨rfl, hww⟩; cases hww.symm; clear hww))
      go_roundw
      case rel =>
        refine ⟨k + 1, m + r, n, by omega, by go_num, by go_num, ?_, rfl⟩
        rw [Pk.bits_more, ← HM.out, EB.out, EP.out, ER.out]
      case measure => simp [intOf]; omega
    · have e : k = b := by omega
      subst e
      go_wp2
      go_ret
      exact ⟨ret_num (by rw [HM.out, EQ.out]), n, rfl⟩
end Go.Proofs.YtimkfkolkplpdaaGreat
