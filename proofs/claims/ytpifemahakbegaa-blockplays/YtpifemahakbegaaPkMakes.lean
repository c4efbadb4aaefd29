/- Contracts of package pack, where a new list is made. -/
import Derived.Test.YtpifemahakbegaaPkTests
import Derived.Deep.RegionHeld3
import Derived.Deep.AppendLies
import Derived.Deep.DrawnRows
namespace Go.Proofs.Ytpifemahakbegaa
set_option linter.unusedVariables false
open Go.RowKit

theorem Try.infoU64 : (Try.prog.info? 135).map (fun i => (i.zero, i.size, i.bytes)) = some (some (.int .u64 0), 1, 8) := by kernel_rfl
theorem Try.infoI64 : (Try.prog.info? 3).map (fun i => (i.zero, i.size, i.bytes)) = some (some (.int .i64 0), 1, 8) := by kernel_rfl

theorem pack_bits (a : Option Addr) (m c : Nat) (b : Int) (h : NotOk b) (w : World) :
    Calls Try.prog 71 #[.slice a m c, .int .i64 b] w fun e w' => e = .returned (.tuple #[.slice none 0 0, .int .i64 20]) ∧ w' = w := by
  have H : Hid (NotOk b) := h
  clear h
  go_enter Try.func71, Try.ntmps71
  go_wp2_with (go_at_call 54; refine (bits_no _ H.out _).mono ?_; rintro e w' ⟨rfl, rfl⟩)
  go_ret2
  exact ⟨rfl, rfl⟩
theorem pack_many (a : Option Addr) (m c b : Nat) (h : Pk.Ok b) (hm : 256 < m) (w : World) :
    Calls Try.prog 71 #[.slice a m c, .int .i64 b] w fun e w' => e = .returned (.tuple #[.slice none 0 0, .int .i64 12]) ∧ w' = w := by
  have H : Hid (Pk.Ok b) := h
  clear h
  go_enter Try.func71, Try.ntmps71
  go_wp2_with (first
    | (go_at_call 54; refine (bits_yes _ H.out _).mono ?_; rintro e w' ⟨rfl, rfl⟩)
    | (go_at_call 74; refine (countable_no _ (by omega) _).mono ?_; rintro e w' ⟨rfl, rfl⟩))
  go_ret2
  exact ⟨rfl, rfl⟩
theorem pack_range (a : Option Addr) (c b : Nat) (l : List Int) (h : Pk.Ok b) (hl : l.length ≤ 256) (w : World) (ha : Lst .i64 w a l) (hc : Pk.cds b l = false) :
    Calls Try.prog 71 #[.slice a l.length c, .int .i64 b] w fun e w' => e = .returned (.tuple #[.slice none 0 0, .int .i64 11]) ∧ w' = w := by
  have H : Hid (Pk.Ok b) := h
  have HA : Hid (Lst .i64 w a l) := ha
  have HC : Hid (Pk.cds b l = false) := hc
  have p0 := Nat.two_pow_pos b
  obtain ⟨m, em⟩ : ∃ m, 2 ^ b - 1 = m := ⟨_, rfl⟩
  have EM : Hid (2 ^ b - 1 = m) := em
  have EP : Hid (2 ^ b = m + 1) := by show _ = _; omega
  clear h ha hc em p0
  go_enter Try.func71, Try.ntmps71
  go_wp2_with (first
    | (go_at_call 54; refine (bits_yes _ H.out _).mono ?_; rintro e w' ⟨rfl, rfl⟩)
    | (go_at_call 74; refine (countable_yes _ (by omega) (by omega) _).mono ?_; rintro e w' ⟨rfl, rfl⟩))
  go_loop [22] (fun i => ∃ k : Nat, k ≤ l.length ∧ i = .int .i64 k ∧ ∀ i, i < k → 0 ≤ Ls.nth l i ∧ Ls.nth l i < ((m + 1 : Nat) : Int)) (fun i => l.length - (intOf i).toNat)
  case atStart => exact ⟨0, Nat.zero_le _, rfl, fun i hi => by omega⟩
  case round =>
    obtain ⟨k, hk, rfl, hall⟩ := hrel
    have HL : Hid (∀ i, i < k → 0 ≤ Ls.nth l i ∧ Ls.nth l i < ((m + 1 : Nat) : Int)) := hall
    clear hall
    by_cases hlt : k < l.length
    · obtain ⟨b1, o1, rfl, hc1⟩ := HA.out.get hlt
      have hck1 := hc1 k hlt
      clear hc1
      by_cases c1 : Ls.nth l k < 0
      · go_wp2
        go_ret2
        exact ⟨rfl, rfl⟩
      · by_cases c2 : (m : Int) < Ls.nth l k
        · go_wp2_with (go_at_call 75; refine (mask_any _ m H.out EM.out _).mono ?_; rintro e w' ⟨rfl, rfl⟩)
          go_ret2
          exact ⟨rfl, rfl⟩
        · go_wp2_with (go_at_call 75; refine (mask_any _ m H.out EM.out _).mono ?_; rintro e w' ⟨rfl, rfl⟩)
          go_round
          case rel =>
            refine ⟨k + 1, by omega, by go_num, fun i hi => ?_⟩
            by_cases e : i = k
            · subst e; omega
            · exact HL.out i (by omega)
          case measure => simp [intOf]; omega
    · have := Pk.cds_yes (b := b) (l := l) (fun i hi => by rw [EP.out]; exact HL.out i (by omega))
      rw [HC.out] at this
      cases this

/-- An or of bits that are not the other's is a sum. -/
theorem or_top {a c s : Nat} (ha : a < 2 ^ s) (h : a + c * 2 ^ s < 18446744073709551616) : bits .or .u64 (a : Int) ((c * 2 ^ s : Nat) : Int) = ((a + c * 2 ^ s : Nat) : Int) := by
  have e := Nat.two_pow_add_eq_or_of_lt ha c
  have e1 : (BitVec.ofInt 64 (a : Int)).toNat = a := by
    rw [BitVec.toNat_ofInt]
    show ((a : Int) % 18446744073709551616).toNat = _
    omega
  have e2 : (BitVec.ofInt 64 ((c * 2 ^ s : Nat) : Int)).toNat = c * 2 ^ s := by
    obtain ⟨x, ex⟩ : ∃ x, c * 2 ^ s = x := ⟨_, rfl⟩
    rw [ex] at h
    rw [BitVec.toNat_ofInt, ex]
    show ((x : Int) % 18446744073709551616).toNat = _
    omega
  show IntKind.u64.wrap ((BitVec.ofInt 64 (a : Int) ||| BitVec.ofInt 64 ((c * 2 ^ s : Nat) : Int)).toNat : Int) = _
  rw [BitVec.toNat_or, e1, e2, Nat.or_comm, Nat.mul_comm, ← e, Nat.mul_comm, Nat.add_comm, IntKind.wrap_u64]
  omega

theorem u64_same {n : Int} (h1 : 0 ≤ n) (h2 : n < 18446744073709551616) : IntKind.u64.wrap n = n := by rw [IntKind.wrap_u64]; omega

def upTo (b : Nat) (l : List Int) (k t : Nat) : Value := .int .u64 (Pk.acc b l t k : Nat)
theorem upTo_set {b : Nat} {l : List Int} {k t A X : Nat} (ht : Pk.word b k = t) (hA : Pk.acc b l t k = A) (hX : (Ls.nth l k).toNat * 2 ^ Pk.shift b k = X) (j : Nat) :
    (if j = t then Value.int .u64 ((A + X : Nat) : Int) else upTo b l k j) = upTo b l (k + 1) j := by
  unfold upTo
  by_cases e : j = t
  · subst e
    rw [if_pos rfl, Pk.acc_here ht, hA, hX]
  · rw [if_neg e, Pk.acc_else (by omega)]

theorem pack_ok (a : Option Addr) (c b : Nat) (l : List Int) (h : Pk.Ok b) (hl : l.length ≤ 256) (w : World) (ha : Lst .i64 w a l) (hc : Pk.Cds b l) :
    Calls Try.prog 71 #[.slice a l.length c, .int .i64 b] w fun e w' => ∃ g, e = .returned (.tuple #[.slice (some ⟨g, 0, none⟩) (Pk.size b l.length) (Pk.size b l.length), .int .i64 0]) ∧ w.heap.size ≤ g ∧
      Lst .u64 w' (some ⟨g, 0, none⟩) (Pk.pack b l) ∧ Below w.heap.size w w' := by
  have H : Hid (Pk.Ok b) := h
  have HA : Hid (Lst .i64 w a l) := ha
  have HC : Hid (Pk.Cds b l) := hc
  have p0 := Nat.two_pow_pos b
  have hb := ok_le h
  have hz := Pk.size_le h hl
  obtain ⟨z, ez⟩ : ∃ z, Pk.size b l.length = z := ⟨_, rfl⟩
  have EZ : Hid (Pk.size b l.length = z) := ez
  rw [ez] at hz
  rw [ez]
  obtain ⟨m, em⟩ : ∃ m, 2 ^ b - 1 = m := ⟨_, rfl⟩
  have EM : Hid (2 ^ b - 1 = m) := em
  have EP : Hid (2 ^ b = m + 1) := by show _ = _; omega
  have hmk := run_make_row' (P := Try.prog) 118 135 (.int .u64 0) 8 Try.underlying118 Try.infoU64 rfl .i64 .i64 z (by omega) (by omega)
  clear h ha hc em p0 ez
  go_enter Try.func71, Try.ntmps71
  go_wp2_with (first
    | (go_at_call 54; refine (bits_yes _ H.out _).mono ?_; rintro e w' ⟨rfl, hww⟩; cases hww.symm; clear hww)
    | (go_at_call 74; refine (countable_yes _ (by omega) (by omega) _).mono ?_; rintro e w' ⟨rfl, hww⟩; cases hww.symm; clear hww))
  go_loop [22] (fun i => ∃ k : Nat, k ≤ l.length ∧ i = .int .i64 k) (fun i => l.length - (intOf i).toNat)
  case atStart => exact ⟨0, Nat.zero_le _, rfl⟩
  case round =>
    obtain ⟨k, hk, rfl⟩ := hrel
    by_cases hlt : k < l.length
    · obtain ⟨b1, o1, rfl, hc1⟩ := HA.out.get hlt
      have hck1 := hc1 k hlt
      clear hc1 hmk
      have hcd := HC.out k
      rw [EP.out] at hcd
      go_wp2_with (go_at_call 75; refine (mask_any _ m H.out EM.out _).mono ?_; rintro e w' ⟨rfl, hww⟩; cases hww.symm; clear hww)
      go_round
      case rel => exact ⟨k + 1, by omega, by go_num⟩
      case measure => simp [intOf]; omega
    · have e : k = l.length := by omega
      subst e
      clear hk hlt
      go_wp2_with (go_at_call 76; refine (words_yes _ _ H.out hl _).mono ?_; rintro e w' ⟨rfl, hww⟩; cases hww.symm; clear hww; rw [EZ.out])
      clear hmk
      go_loopw [42] (fun i wr => ∃ k : Nat, k ≤ l.length ∧ i = .int .i64 k ∧ wr.rowIs w.heap.size 135 z (upTo b l k) ∧ Below w.heap.size w wr) (fun i _ => l.length - (intOf i).toNat)
      case atStart => exact ⟨0, Nat.zero_le _, rfl, (World.rowIs_made w (.int .u64 0) z 135).congr (fun j hj => rfl), (Below.refl _ _).alloc (Nat.le_refl _) _⟩
      case round =>
        obtain ⟨k, hk, rfl, hrow, hbel⟩ := hrel
        by_cases hlt : k < l.length
        · obtain ⟨b1, o1, rfl, hc1⟩ := (HA.out.keep hbel).get hlt
          have hck1 := hc1 k hlt
          have hcd := HC.out k
          have hs := Pk.shift_le k H.out
          have hts := Pk.word_size H.out hlt
          have hlo := (Pk.acc_low (Pk.word b k) k H.out HC.out).2.1 rfl
          have hup := Pk.on_top hlo hcd.2
          have h64 : 2 ^ (Pk.shift b k + b) ≤ 18446744073709551616 := by rw [← Pk.two_64]; exact Pk.two_le hs
          obtain ⟨t, et⟩ : ∃ t, Pk.word b k = t := ⟨_, rfl⟩
          have ET : Hid (Pk.word b k = t) := et
          obtain ⟨s, es⟩ : ∃ s, Pk.shift b k = s := ⟨_, rfl⟩
          have ES : Hid (Pk.shift b k = s) := es
          rw [et] at hlo hup hts
          rw [es] at hlo hup hs h64
          rw [EZ.out] at hts
          have hcg0 := hrow.cell hts
          have hfg := hrow.frozen t
          have hor := or_top hlo (Nat.lt_of_lt_of_le hup h64)
          obtain ⟨C, eC⟩ : ∃ C, (Ls.nth l k).toNat = C := ⟨_, rfl⟩
          have eC2 : Ls.nth l k = (C : Int) := by omega
          obtain ⟨A, eA⟩ : ∃ A, Pk.acc b l t k = A := ⟨_, rfl⟩
          have EA : Hid (Pk.acc b l t k = A) := eA
          have hcg : wr.cell? ⟨w.heap.size, t, none⟩ = some (.int .u64 (A : Int)) := by rw [hcg0]; unfold upTo; rw [eA]
          rw [eC] at hor hup
          rw [eA] at hor hup
          have hmul : (C : Int) * 2 ^ s = ((C * 2 ^ s : Nat) : Int) := by rw [Int.natCast_mul, Int.natCast_pow]; rfl
          obtain ⟨X, eX⟩ : ∃ X, C * 2 ^ s = X := ⟨_, rfl⟩
          have EX : Hid ((Ls.nth l k).toNat * 2 ^ Pk.shift b k = X) := by show _ = _; rw [eC, es, eX]
          rw [eX] at hor hup hmul
          rw [eC2] at hck1
          have hAX : A + X < 18446744073709551616 := by omega
          have hX : X < 18446744073709551616 := by omega
          have hC : C < 18446744073709551616 := by
            have hp : C < 2 ^ b := by rw [← eC]; exact hcd.2
            have hp8 : 2 ^ b ≤ 2 ^ 8 := Pk.two_le hb.2
            omega
          have q1 := u64_same (n := (C : Int)) (by omega) (by omega)
          have q2 : IntKind.u64.wrap ((C : Int) * 2 ^ s) = (X : Int) := by rw [hmul]; exact u64_same (by omega) (by omega)
          have HR : Hid (wr.rowIs w.heap.size 135 z (upTo b l k)) := hrow
          have HB : Hid (Below w.heap.size w wr) := hbel
          clear hc1 hrow hbel et es eC eC2 eA eX hcd hlo hup h64 hcg0 hmul
          have e0 : (0 : Int) ≤ (t : Int) := by omega
          have e1 : (t : Int) < (z : Int) := by omega
          go_wp2_with (go_at_call 77; refine (place_any _ _ t s H.out (by omega) ET.out ES.out _).mono ?_; rintro e w' ⟨rfl, n, hww⟩; cases hww.symm; clear hww)
          go_region
          all_goals go_wp2
          all_goals go_roundw
          case rel => exact ⟨k + 1, by omega, by go_num, (HR.out.set t _).drew.congr (fun j hj => upTo_set ET.out EA.out EX.out j), (below_drewN HB.out (n + 1)).setCell (by simp) _⟩
          case measure => simp [intOf]; omega
        · go_wp2
          go_ret2
          have e : k = l.length := by omega
          subst e
          refine ⟨w.heap.size, rfl, Nat.le_refl _, ?_, hbel⟩
          refine lst_of_row (f := upTo b l l.length) (t := 135) (by rw [Pk.pack_length, EZ.out]; exact hrow) (fun i hi => ?_)
          rw [Pk.pack_length] at hi
          rw [Pk.nth_pack hi]
          rfl

/-- The first k codes unpacked, the others 0. -/
def outTo (F : Nat → Nat) (k j : Nat) : Value := .int .i64 (if j < k then (F j : Int) else 0)
theorem outTo_lt {F : Nat → Nat} {k j : Nat} (h : j < k) : outTo F k j = .int .i64 (F j) := by unfold outTo; rw [if_pos h]
theorem outTo_set {F : Nat → Nat} {k q : Nat} (hq : F k = q) (j : Nat) : (if j = k then Value.int .i64 (q : Int) else outTo F k j) = outTo F (k + 1) j := by
  unfold outTo
  by_cases e : j = k
  · subst e; rw [if_pos rfl, if_pos (by omega), hq]
  · rw [if_neg e]
    by_cases h : j < k
    · rw [if_pos h, if_pos (by omega)]
    · rw [if_neg h, if_neg (by omega)]

end Go.Proofs.Ytpifemahakbegaa
