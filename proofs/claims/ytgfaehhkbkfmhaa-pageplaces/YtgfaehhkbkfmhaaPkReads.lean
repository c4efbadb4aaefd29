/- Contracts of package pack and of the document's own answers of layer 5 that read lists. -/
import Derived.Test.YtgfaehhkbkfmhaaPkCalls
namespace Go.Proofs.Ytgfaehhkbkfmhaa
set_option linter.unusedVariables false
open Go.RowKit

theorem div_cast {v : Int} (h0 : 0 ≤ v) (s : Nat) : v / 2 ^ s = ((v.toNat / 2 ^ s : Nat) : Int) := by
  rw [Int.natCast_ediv, Int.natCast_pow]
  congr 1
  omega
theorem and_low {x : Int} {b m q n : Nat} (hb : b ≤ 8) (hm : 2 ^ b - 1 = m) (hx : x % 18446744073709551616 = ((n % 18446744073709551616 : Nat) : Int)) (hq : n % 2 ^ b = q) : bits .and .i64 x m = q := by
  have p8 : 2 ^ b ≤ 256 := Pk.two_le (t := 8) hb
  have p0 := Nat.two_pow_pos b
  have hq8 : q < 2 ^ b := by rw [← hq]; exact Nat.mod_lt _ p0
  have e1 : (BitVec.ofInt 64 x).toNat = n % 18446744073709551616 := by
    rw [BitVec.toNat_ofInt]
    show (x % 18446744073709551616).toNat = _
    rw [hx]
    rfl
  have e2 : (BitVec.ofInt 64 (m : Int)).toNat = 2 ^ b - 1 := by
    rw [BitVec.toNat_ofInt, hm]
    show ((m : Int) % 18446744073709551616).toNat = _
    omega
  show IntKind.i64.wrap ((BitVec.ofInt 64 x &&& BitVec.ofInt 64 (m : Int)).toNat : Int) = _
  rw [BitVec.toNat_and, e1, e2, Nat.and_two_pow_sub_one_eq_mod, ← Pk.two_64, Nat.mod_mod_of_dvd _ (Nat.pow_dvd_pow 2 (show b ≤ 64 by omega)), hq, IntKind.wrap_i64]
  omega
theorem wrap_low (n : Nat) : wrap64 (n : Int) % 18446744073709551616 = ((n % 18446744073709551616 : Nat) : Int) := by
  unfold wrap64
  omega
theorem and_mask {v : Int} {s b m q : Nat} (h0 : 0 ≤ v) (hb : b ≤ 8) (hm : 2 ^ b - 1 = m) (hq : v.toNat / 2 ^ s % 2 ^ b = q) : bits .and .i64 (wrap64 (v / 2 ^ s)) m = q := by
  have e := div_cast h0 s
  obtain ⟨n, en⟩ : ∃ n, v.toNat / 2 ^ s = n := ⟨_, rfl⟩
  rw [en] at hq e
  rw [e]
  exact and_low hb hm (wrap_low n) hq

theorem lane_bits (ws : Option Addr) (m c : Nat) (i b : Int) (h : NotOk b) (w : World) :
    Calls Try.prog 47 #[.slice ws m c, .int .i64 i, .int .i64 b] w fun e w' => e = .returned (.int .i64 0) ∧ w' = w := by
  have H : Hid (NotOk b) := h
  clear h
  go_enter Try.func47, Try.ntmps47
  go_wp2_with (go_at_call 39; refine (bits_no _ H.out _).mono ?_; rintro e w' ⟨rfl, rfl⟩)
  go_ret
  exact ⟨rfl, rfl⟩
theorem lane_low (ws : Option Addr) (m c : Nat) (i : Int) (b : Nat) (h : Pk.Ok b) (hi : i < 0) (w : World) :
    Calls Try.prog 47 #[.slice ws m c, .int .i64 i, .int .i64 b] w fun e w' => e = .returned (.int .i64 0) ∧ w' = w := by
  have H : Hid (Pk.Ok b) := h
  clear h
  go_enter Try.func47, Try.ntmps47
  go_wp2_with (go_at_call 39; refine (bits_yes _ H.out _).mono ?_; rintro e w' ⟨rfl, rfl⟩)
  go_ret
  exact ⟨rfl, rfl⟩
theorem lane_far (ws : Option Addr) (m c i b : Nat) (h : Pk.Ok b) (hi : i ≤ 9223372036854775807) (hf : m ≤ Pk.word b i) (w : World) :
    Calls Try.prog 47 #[.slice ws m c, .int .i64 i, .int .i64 b] w fun e w' => e = .returned (.int .i64 0) ∧ ∃ n, w' = w.drewN n := by
  have H : Hid (Pk.Ok b) := h
  clear h
  obtain ⟨t, et⟩ : ∃ t, Pk.word b i = t := ⟨_, rfl⟩
  have ET : Hid (Pk.word b i = t) := et
  rw [et] at hf
  clear et
  go_enter Try.func47, Try.ntmps47
  go_wp2_with (first
    | (go_at_call 39; refine (bits_yes _ H.out _).mono ?_; rintro e w' ⟨rfl, rfl⟩)
    | (go_at_call 67; refine (place_any _ _ t _ H.out (by omega) ET.out rfl _).mono ?_; rintro e w' ⟨rfl, n, rfl⟩))
  go_ret
  exact ⟨rfl, _, rfl⟩

theorem lane_ok (a : Option Addr) (c i b : Nat) (ws : List Int) (h : Pk.Ok b) (hi : i ≤ 9223372036854775807) (hf : Pk.word b i < ws.length) (w : World) (ha : Lst .u64 w a ws) (hw : Pk.Wds ws) :
    Calls Try.prog 47 #[.slice a ws.length c, .int .i64 i, .int .i64 b] w fun e w' => e = .returned (.int .i64 (Pk.lane b ws i : Nat)) ∧ ∃ n, w' = w.drewN n := by
  have H : Hid (Pk.Ok b) := h
  have hs := Pk.shift_le i h
  have hb := ok_le h
  obtain ⟨b1, o1, rfl, hc1⟩ := ha.get hf
  have hc := hc1 _ hf
  have hv := hw (Pk.word b i)
  obtain ⟨q, eq⟩ : ∃ q, Pk.lane b ws i = q := ⟨_, rfl⟩
  rw [eq]
  unfold Pk.lane at eq
  clear h ha hw hc1
  obtain ⟨t, et⟩ : ∃ t, Pk.word b i = t := ⟨_, rfl⟩
  have ET : Hid (Pk.word b i = t) := et
  obtain ⟨s, es⟩ : ∃ s, Pk.shift b i = s := ⟨_, rfl⟩
  have ES : Hid (Pk.shift b i = s) := es
  obtain ⟨m, em⟩ : ∃ m, 2 ^ b - 1 = m := ⟨_, rfl⟩
  have EM : Hid (2 ^ b - 1 = m) := em
  rw [et] at hf hc hv eq
  rw [es] at hs eq
  obtain ⟨v, ev⟩ : ∃ v, Ls.nth ws t = v := ⟨_, rfl⟩
  rw [ev] at hc hv eq
  have EQ : Hid (v.toNat / 2 ^ s % 2 ^ b = q) := eq
  clear et es em ev eq
  go_enter Try.func47, Try.ntmps47
  go_wp2_with (first
    | (go_at_call 39; refine (bits_yes _ H.out _).mono ?_; rintro e w' ⟨rfl, rfl⟩)
    | (go_at_call 67; refine (place_any _ _ t s H.out (by omega) ET.out ES.out _).mono ?_; rintro e w' ⟨rfl, n, rfl⟩))
  go_quiet ((go_at_call 68; exact (mask_any _ m H.out EM.out _).mono fun _ _ ⟨he, hw⟩ => ⟨he, _, hw⟩))
  go_wp2
  go_ret
  exact ⟨ret_num (and_mask hv.1 hb.2 EM.out EQ.out), _, World.drewN_drewN _ _ _⟩

theorem strayBits_any (a : Option Addr) (c n b : Nat) (ws : List Int) (h : Pk.Ok b) (hn : n ≤ 256) (w : World) (ha : Lst .u64 w a ws) (hw : Pk.Wds ws) (hl : ws.length = Pk.size b n) :
    Calls Try.prog 65 #[.slice a ws.length c, .int .i64 n, .int .i64 b] w fun e w' => e = .returned (.bool (Pk.stray b n ws)) ∧ ∃ n, w' = w.drewN n := by
  have H : Hid (Pk.Ok b) := h
  have hs := Pk.shift_le n h
  obtain ⟨t, et⟩ : ∃ t, Pk.word b n = t := ⟨_, rfl⟩
  have ET : Hid (Pk.word b n = t) := et
  obtain ⟨s, es⟩ : ∃ s, Pk.shift b n = s := ⟨_, rfl⟩
  have ES : Hid (Pk.shift b n = s) := es
  rw [es] at hs
  by_cases h0 : s = 0
  · rw [Pk.stray_even (by omega)]
    subst h0
    clear et es h ha hw hl
    go_enter Try.func65, Try.ntmps65
    go_wp2_with (go_at_call 67; refine (place_any _ _ t 0 H.out (by omega) ET.out ES.out _).mono ?_; rintro e w' ⟨rfl, n, rfl⟩)
    go_ret
    exact ⟨rfl, _, rfl⟩
  · have hsz := (Pk.size_odd h (show 0 < Pk.shift b n by omega)).1
    have hf : t < ws.length := by omega
    obtain ⟨b1, o1, rfl, hc1⟩ := ha.get hf
    have hc := hc1 _ hf
    have hv := hw t
    obtain ⟨v, ev⟩ : ∃ v, Ls.nth ws t = v := ⟨_, rfl⟩
    rw [ev] at hc hv
    have EV : Hid (Ls.nth ws t = v) := ev
    have hd := div_cast hv.1 s
    have h1 : (0 : Int) < (s : Int) := by omega
    clear et es h ha hw hl hc1 ev hsz
    by_cases hz : v.toNat / 2 ^ s = 0
    · have HZ : Hid (v.toNat / 2 ^ s = 0) := hz
      rw [Pk.stray_no (by rw [ET.out, ES.out, EV.out]; exact hz)]
      have hd2 : v / 2 ^ s = 0 := by rw [hd, hz]; rfl
      clear hd hz
      go_enter Try.func65, Try.ntmps65
      go_wp2_with (go_at_call 67; refine (place_any _ _ t s H.out (by omega) ET.out ES.out _).mono ?_; rintro e w' ⟨rfl, n, rfl⟩)
      go_ret
      exact ⟨rfl, _, rfl⟩
    · rw [Pk.stray_yes (by rw [ES.out]; omega) (by rw [ET.out, ES.out, EV.out]; exact hz)]
      have hd2 : (v / 2 ^ s != 0) = true := by rw [bne_iff_ne, hd]; omega
      clear hd hz
      go_enter Try.func65, Try.ntmps65
      go_wp2_with (go_at_call 67; refine (place_any _ _ t s H.out (by omega) ET.out ES.out _).mono ?_; rintro e w' ⟨rfl, n, rfl⟩)
      go_ret
      exact ⟨rfl, _, rfl⟩

end Go.Proofs.Ytgfaehhkbkfmhaa
