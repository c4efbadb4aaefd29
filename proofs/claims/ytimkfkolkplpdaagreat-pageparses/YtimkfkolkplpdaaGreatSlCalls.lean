/- Contracts of package seal and of the document's answers, where no new bytes are made. -/
import Derived.Test.YtimkfkolkplpdaaGreatLsWorld
import Derived.Test.YtimkfkolkplpdaaGreatSlText
namespace Go.Proofs.YtimkfkolkplpdaaGreat
set_option linter.unusedVariables false
open Go.RowKit

theorem xor32 {n : Nat} {x : Int} (hn : n < 4294967296) (h0 : 0 ≤ x) (h1 : x < 256) : bits .xor .u32 (n : Int) x = ((n ^^^ x.toNat : Nat) : Int) := by
  obtain ⟨y, ey⟩ : ∃ y : Nat, x = y := ⟨x.toNat, by omega⟩
  subst ey
  have e1 : (BitVec.ofInt 32 (n : Int)).toNat = n := by
    rw [BitVec.toNat_ofInt]
    show ((n : Int) % 4294967296).toNat = _
    omega
  have e2 : (BitVec.ofInt 32 (y : Int)).toNat = y := by
    rw [BitVec.toNat_ofInt]
    show ((y : Int) % 4294967296).toNat = _
    omega
  show IntKind.u32.wrap ((BitVec.ofInt 32 (n : Int) ^^^ BitVec.ofInt 32 (y : Int)).toNat : Int) = _
  rw [BitVec.toNat_xor, e1, e2, IntKind.wrap_u32, Int.toNat_natCast]
  have := Sl.xor_lt (h := n) (c := y) hn (by omega)
  omega
theorem xor64 {n : Nat} {x : Int} (hn : n < 4294967296) (h0 : 0 ≤ x) (h1 : x < 256) : bits .xor .u64 (n : Int) x = ((n ^^^ x.toNat : Nat) : Int) := by
  obtain ⟨y, ey⟩ : ∃ y : Nat, x = y := ⟨x.toNat, by omega⟩
  subst ey
  have e1 : (BitVec.ofInt 64 (n : Int)).toNat = n := by
    rw [BitVec.toNat_ofInt]
    show ((n : Int) % 18446744073709551616).toNat = _
    omega
  have e2 : (BitVec.ofInt 64 (y : Int)).toNat = y := by
    rw [BitVec.toNat_ofInt]
    show ((y : Int) % 18446744073709551616).toNat = _
    omega
  show IntKind.u64.wrap ((BitVec.ofInt 64 (n : Int) ^^^ BitVec.ofInt 64 (y : Int)).toNat : Int) = _
  rw [BitVec.toNat_xor, e1, e2, IntKind.wrap_u64, Int.toNat_natCast]
  have := Sl.xor_lt (h := n) (c := y) hn (by omega)
  omega
/-- An or of bits that are not the other's is a sum. -/
theorem or_low {n : Nat} {x : Int} (hn : n * 256 < 18446744073709551616) (h0 : 0 ≤ x) (h1 : x < 256) : bits .or .u64 ((n : Int) * 256) x = ((n * 256 + x.toNat : Nat) : Int) := by
  obtain ⟨y, ey⟩ : ∃ y : Nat, x = y := ⟨x.toNat, by omega⟩
  subst ey
  have e := Nat.two_pow_add_eq_or_of_lt (i := 8) (b := y) (by omega) n
  have e1 : (BitVec.ofInt 64 ((n : Int) * 256)).toNat = 2 ^ 8 * n := by
    rw [BitVec.toNat_ofInt]
    show (((n : Int) * 256) % 18446744073709551616).toNat = 256 * n
    omega
  have e2 : (BitVec.ofInt 64 (y : Int)).toNat = y := by
    rw [BitVec.toNat_ofInt]
    show ((y : Int) % 18446744073709551616).toNat = _
    omega
  show IntKind.u64.wrap ((BitVec.ofInt 64 ((n : Int) * 256) ||| BitVec.ofInt 64 (y : Int)).toNat : Int) = _
  rw [BitVec.toNat_or, e1, e2, ← e, IntKind.wrap_u64, Int.toNat_natCast]
  omega

theorem sum_any (a : Option Addr) (m c : Nat) (l : List Int) (h : Nat) (hm : m = l.length) (hl : l.length ≤ maxLen) (hh : Sl.sum l = h) (w : World) (ha : Lst .u8 w a l) (hb : Sl.Byt l) :
    Calls Tryz.prog 74 #[.slice a m c] w fun e w' => e = .returned (.int .u32 h) ∧ w' = w := by
  unfold maxLen at hl
  subst hm
  have HA : Hid (Lst .u8 w a l) := ha
  have HB : Hid (Sl.Byt l) := hb
  have HH : Hid (Sl.sum l = h) := hh
  clear ha hb hh
  go_enter Tryz.func74, Tryz.ntmps74
  go_wp2
  go_loop [3, 8] (fun h i => ∃ k n : Nat, k ≤ l.length ∧ i = .int .i64 k ∧ h = .int .u32 n ∧ n < 4294967296 ∧ Hid (Sl.sumN l k = n)) (fun _ i => l.length - (intOf i).toNat)
  case atStart => exact ⟨0, 2166136261, Nat.zero_le _, rfl, rfl, by omega, rfl⟩
  case round =>
    obtain ⟨k, n, hk, rfl, rfl, hn, HN⟩ := hrel
    by_cases hlt : k < l.length
    · obtain ⟨b1, o1, rfl, hc1⟩ := HA.out.get hlt
      have hck1 := hc1 k hlt
      clear hc1
      have hbk := HB.out k
      go_wp2
      go_round
      case rel =>
        refine ⟨k + 1, Sl.sumN l (k + 1), by omega, by go_num, ?_, Sl.sumN_lt _ _, rfl⟩
        rw [xor32 hn hbk.1 hbk.2, Sl.sumN, HN.out]
        rfl
      case measure => simp [intOf]; omega
    · have e : k = l.length := by omega
      subst e
      have HE : Hid (h = n) := by show _ = _; rw [← HH.out, ← HN.out]; rfl
      go_wp2
      go_ret
      exact ⟨ret_num (by rw [HE.out]), rfl⟩

theorem refSum_any (s : ByteArray) (l : List Int) (h : Nat) (hs : strOfNums l = s) (hl : l.length ≤ maxLen) (hh : Sl.sum l = h) (w : World) (hb : Sl.Byt l) :
    Calls Tryz.prog 98 #[.string s] w fun e w' => e = .returned (.int .u32 h) ∧ w' = w := by
  unfold maxLen at hl
  have hz : s.size = l.length := by rw [← hs, strOfNums_size]
  have hl2 : s.size ≤ 2 ^ 63 - 1 := by omega
  have HZ : Hid (s.size = l.length) := hz
  have HA : Hid (strOfNums l = s) := hs
  have HB : Hid (Sl.Byt l) := hb
  have HH : Hid (Sl.sum l = h) := hh
  clear hs hb hh hz
  go_enter Tryz.func98, Tryz.ntmps98
  go_wp2
  go_loop [3, 4] (fun h i => ∃ k n : Nat, k ≤ s.size ∧ i = .int .i64 k ∧ h = .int .u64 n ∧ n < 4294967296 ∧ Hid (Sl.sumN l k = n)) (fun _ i => s.size - (intOf i).toNat)
  case atStart => exact ⟨0, 2166136261, Nat.zero_le _, rfl, rfl, by omega, rfl⟩
  case round =>
    obtain ⟨k, n, hk, rfl, rfl, hn, HN⟩ := hrel
    by_cases hlt : k < s.size
    · have hlt2 : k < l.length := by rw [← HZ.out]; exact hlt
      have hbk := HB.out k
      obtain ⟨y, ey⟩ : ∃ y : Nat, s[k].toNat = y := ⟨_, rfl⟩
      have EY : Hid ((Ls.nth l k).toNat = y) := by
        show _ = _
        rw [← ey, ← Sl.text_at HB.out hlt2]
        have := HA.out
        subst this
        rfl
      have hy : y < 256 := by have := EY.out; omega
      obtain ⟨p, ep⟩ : ∃ p : Nat, n ^^^ y = p := ⟨_, rfl⟩
      have hp : p < 4294967296 := by rw [← ep]; exact Sl.xor_lt hn (by omega)
      have hx : bits .xor .u64 (n : Int) (y : Int) = (p : Int) := by
        rw [xor64 hn (by omega) (by omega), Int.toNat_natCast, ep]
      have EP : Hid (n ^^^ y = p) := ep
      clear ep
      go_wp2
      go_round
      case rel =>
        refine ⟨k + 1, Sl.sumN l (k + 1), by omega, by go_num, ?_, Sl.sumN_lt _ _, rfl⟩
        rw [Sl.sumN, HN.out, EY.out, Sl.step, EP.out]
        rfl
      case measure => simp [intOf]; omega
    · have e : k = l.length := by rw [← HZ.out]; omega
      have HE : Hid (h = n) := by show _ = _; rw [← HH.out, ← HN.out, e]; rfl
      clear e
      go_wp2
      go_ret
      exact ⟨ret_num (by rw [HE.out]), rfl⟩

theorem number_any (a : Option Addr) (m c : Nat) (l : List Int) (h : Nat) (hm : m = l.length) (hl : l.length ≤ 8) (hh : Sl.num l = h) (w : World) (ha : Lst .u8 w a l) (hb : Sl.Byt l) :
    Calls Tryz.prog 75 #[.slice a m c] w fun e w' => e = .returned (.int .u64 h) ∧ w' = w := by
  subst hm
  have HA : Hid (Lst .u8 w a l) := ha
  have HB : Hid (Sl.Byt l) := hb
  have HH : Hid (Sl.num l = h) := hh
  clear ha hb hh
  go_enter Tryz.func75, Tryz.ntmps75
  go_wp2
  go_loop [3, 8] (fun h i => ∃ k n : Nat, k ≤ l.length ∧ i = .int .i64 k ∧ h = .int .u64 n ∧ Hid (n < 256 ^ k) ∧ Hid (Sl.numN l k = n)) (fun _ i => l.length - (intOf i).toNat)
  case atStart => exact ⟨0, 0, Nat.zero_le _, rfl, rfl, (by show _ < _; decide), rfl⟩
  case round =>
    obtain ⟨k, n, hk, rfl, rfl, HQ, HN⟩ := hrel
    by_cases hlt : k < l.length
    · obtain ⟨b1, o1, rfl, hc1⟩ := HA.out.get hlt
      have hck1 := hc1 k hlt
      clear hc1
      have hbk := HB.out k
      have hn : n < 72057594037927936 := Nat.lt_of_lt_of_le HQ.out (Nat.pow_le_pow_right (by decide) (show k ≤ 7 by omega))
      go_wp2
      go_round
      case rel =>
        refine ⟨k + 1, Sl.numN l (k + 1), by omega, by go_num, ?_, Sl.numN_lt HB.out _, rfl⟩
        rw [Sl.numN, HN.out, ← or_low (by omega) hbk.1 hbk.2]
      case measure => simp [intOf]; omega
    · have e : k = l.length := by omega
      subst e
      have HE : Hid (h = n) := by show _ = _; rw [← HH.out, ← HN.out]; rfl
      go_wp2
      go_ret
      exact ⟨ret_num (by rw [HE.out]), rfl⟩

theorem refNumber_any (s : ByteArray) (l : List Int) (h : Nat) (hs : strOfNums l = s) (hl : l.length ≤ 8) (hh : Sl.num l = h) (w : World) (hb : Sl.Byt l) :
    Calls Tryz.prog 51 #[.string s] w fun e w' => e = .returned (.int .u64 h) ∧ w' = w := by
  have hz : s.size = l.length := by rw [← hs, strOfNums_size]
  have hl2 : s.size ≤ 8 := by omega
  have HZ : Hid (s.size = l.length) := hz
  have HA : Hid (strOfNums l = s) := hs
  have HB : Hid (Sl.Byt l) := hb
  have HH : Hid (Sl.num l = h) := hh
  clear hs hb hh hz
  go_enter Tryz.func51, Tryz.ntmps51
  go_wp2
  go_loop [3, 4] (fun h i => ∃ k n : Nat, k ≤ s.size ∧ i = .int .i64 k ∧ h = .int .u64 n ∧ Hid (n < 256 ^ k) ∧ Hid (Sl.numN l k = n)) (fun _ i => s.size - (intOf i).toNat)
  case atStart => exact ⟨0, 0, Nat.zero_le _, rfl, rfl, (by show _ < _; decide), rfl⟩
  case round =>
    obtain ⟨k, n, hk, rfl, rfl, HQ, HN⟩ := hrel
    by_cases hlt : k < s.size
    · have hlt2 : k < l.length := by rw [← HZ.out]; exact hlt
      have hbk := HB.out k
      obtain ⟨y, ey⟩ : ∃ y : Nat, s[k].toNat = y := ⟨_, rfl⟩
      have EY : Hid ((Ls.nth l k).toNat = y) := by
        show _ = _
        rw [← ey, ← Sl.text_at HB.out hlt2]
        have := HA.out
        subst this
        rfl
      have hy : y < 256 := by have := EY.out; omega
      have hn : n < 72057594037927936 := Nat.lt_of_lt_of_le HQ.out (Nat.pow_le_pow_right (by decide) (show k ≤ 7 by omega))
      go_wp2
      go_round
      case rel =>
        refine ⟨k + 1, Sl.numN l (k + 1), by omega, by go_num, ?_, Sl.numN_lt HB.out _, rfl⟩
        rw [Sl.numN, HN.out, EY.out]
        go_num
      case measure => simp [intOf]; omega
    · have e : k = l.length := by rw [← HZ.out]; omega
      have HE : Hid (h = n) := by show _ = _; rw [← HH.out, ← HN.out, e]; rfl
      clear e
      go_wp2
      go_ret
      exact ⟨ret_num (by rw [HE.out]), rfl⟩

theorem Sl.sgn_wrap (n : Nat) : IntKind.i32.wrap (n : Int) = Sl.sgn (n % 4294967296) := by
  rw [IntKind.wrap_i32]
  by_cases h : n % 4294967296 < 2147483648
  · rw [Sl.sgn_lo h]; omega
  · rw [Sl.sgn_hi (by omega)]; omega

theorem refSigned_any (s : ByteArray) (l : List Int) (x : Int) (hs : strOfNums l = s) (hl : l.length ≤ 4) (hx : Sl.sgn (Sl.num l) = x) (w : World) (hb : Sl.Byt l) :
    Calls Tryz.prog 81 #[.string s] w fun e w' => e = .returned (.int .i32 x) ∧ w' = w := by
  have hn : Sl.num l < 4294967296 := Nat.lt_of_lt_of_le (Sl.numN_lt hb l.length) (Nat.le_trans (Nat.pow_le_pow_right (by decide) hl) (by decide))
  obtain ⟨h, eh⟩ : ∃ h, Sl.num l = h := ⟨_, rfl⟩
  rw [eh] at hx hn
  have EH : Hid (Sl.num l = h) := eh
  have HA : Hid (strOfNums l = s) := hs
  have HB : Hid (Sl.Byt l) := hb
  clear eh hs hb
  have e0 : (0 : Int) ≤ (h : Int) := by omega
  have e1 : (h : Int) < 4294967296 := by omega
  clear hn
  by_cases c : (h : Int) < 2147483648
  · rw [Sl.sgn_lo (by omega)] at hx
    subst hx
    have hd : decide (2147483648 ≤ (h : Int)) = false := by simp; omega
    go_enter Tryz.func81, Tryz.ntmps81
    go_wp2_with (go_at_call 51; refine (refNumber_any s l h HA.out (by omega) EH.out _ HB.out).mono ?_; rintro e w' ⟨rfl, rfl⟩)
    go_ret
    exact ⟨rfl, rfl⟩
  · rw [Sl.sgn_hi (by omega)] at hx
    have hd : decide (2147483648 ≤ (h : Int)) = true := by simp; omega
    have HX : Hid ((h : Int) - 4294967296 = x) := hx
    clear hx
    go_enter Tryz.func81, Tryz.ntmps81
    go_wp2_with (go_at_call 51; refine (refNumber_any s l h HA.out (by omega) EH.out _ HB.out).mono ?_; rintro e w' ⟨rfl, rfl⟩)
    go_ret
    exact ⟨ret_num HX.out, rfl⟩

/-- The number of bytes that is nearest to n. -/
def Sl.wid (n : Int) : Nat := if n < 0 then 0 else if 8 < n then 8 else n.toNat
theorem Sl.wid_le (n : Int) : Sl.wid n ≤ 8 := by unfold Sl.wid; split <;> (try split) <;> omega
theorem width_any (n : Int) (k : Nat) (hk : Sl.wid n = k) (w : World) :
    Calls Tryz.prog 100 #[.int .i64 n] w fun e w' => e = .returned (.int .i64 k) ∧ w' = w := by
  unfold Sl.wid at hk
  by_cases c0 : n < 0
  · rw [if_pos c0] at hk
    subst hk
    have e1 : (if n < 0 then 0 else n) = 0 := if_pos c0
    go_enter Tryz.func100, Tryz.ntmps100
    go_wp2
    go_ret
    exact ⟨rfl, rfl⟩
  · rw [if_neg c0] at hk
    by_cases c1 : 8 < n
    · rw [if_pos c1] at hk
      subst hk
      go_enter Tryz.func100, Tryz.ntmps100
      go_wp2
      go_ret
      exact ⟨rfl, rfl⟩
    · rw [if_neg c1] at hk
      obtain rfl : n = (k : Int) := by omega
      clear hk
      go_enter Tryz.func100, Tryz.ntmps100
      go_wp2
      go_ret
      exact ⟨rfl, rfl⟩
end Go.Proofs.YtimkfkolkplpdaaGreat
