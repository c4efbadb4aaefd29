/- Layer 13: PkReads, PkTests, PkMakes, PkRefs, SlText, SlWorld, SlCalls, SlRefs, PgBytes, PgSize, PgShapes, PgQ. -/
import Derived.Test.YtnchnlgnnlgjcaaGreatCn04
import Derived.Deep.RegionHeld3
import Derived.Deep.AppendLies
import Derived.Deep.DrawnRows
import Derived.Laws.OwnMore
import Derived.Deep.RegionWith
import Derived.Test.YtnchnlgnnlgjcaaGreatCn02
import Derived.Laws.BytesArg
import Derived.Test.YtnchnlgnnlgjcaaGreatCn03
import Derived.Laws.IdiomStrings
import Derived.Laws.CopyOwn
import Derived.Laws.Cover3
import Derived.Test.YtnchnlgnnlgjcaaGreatCn05
import Derived.Deep.RegionLaw
import Derived.Deep.RegionLawGrows
namespace Go.Proofs.YtnchnlgnnlgjcaaGreat
set_option linter.unusedVariables false
open Go.RowKit
theorem div_cast {v : Int} (h0 : 0 ≤ v) (s : Nat) : v / 2 ^ s = ((v.toNat / 2 ^ s : Nat) : Int) := by
  rw [Int.natCast_ediv, Int.natCast_pow]
  congr 1
  omega
theorem and_low {x : Int} {b m q n : Nat} (hb : b ≤ 8) (hm : 2 ^ b - 1 = m) (hx : x % 18446744073709551616 = ((n % 18446744073709551616 : Nat) : Int)) (hq : n % 2 ^ b = q) : bits .and .i64 x m = q := by
  have p8 : 2 ^ b ≤ 256 := Pk.two_le (t := 8) hb
  have p0 := Nat.two_pow_pos b
  have hq8 : q < 2 ^ b := by rw [← hq]; exact Nat.mod_lt _ p0
  have e1 : (BitVec.ofInt 64 x).toNat = n % 18446744073709551616 := by
    rw [BitVec.toNat_ofInt]
    show (x % 18446744073709551616).toNat = _
    rw [hx]
    rfl
  have e2 : (BitVec.ofInt 64 (m : Int)).toNat = 2 ^ b - 1 := by
    rw [BitVec.toNat_ofInt, hm]
    show ((m : Int) % 18446744073709551616).toNat = _
    omega
  show IntKind.i64.wrap ((BitVec.ofInt 64 x &&& BitVec.ofInt 64 (m : Int)).toNat : Int) = _
  rw [BitVec.toNat_and, e1, e2, Nat.and_two_pow_sub_one_eq_mod, ← Pk.two_64, Nat.mod_mod_of_dvd _ (Nat.pow_dvd_pow 2 (show b ≤ 64 by omega)), hq, IntKind.wrap_i64]
  omega
theorem wrap_low (n : Nat) : wrap64 (n : Int) % 18446744073709551616 = ((n % 18446744073709551616 : Nat) : Int) := by
  unfold wrap64
  omega
theorem and_mask {v : Int} {s b m q : Nat} (h0 : 0 ≤ v) (hb : b ≤ 8) (hm : 2 ^ b - 1 = m) (hq : v.toNat / 2 ^ s % 2 ^ b = q) : bits .and .i64 (wrap64 (v / 2 ^ s)) m = q := by
  have e := div_cast h0 s
  obtain ⟨n, en⟩ : ∃ n, v.toNat / 2 ^ s = n := ⟨_, rfl⟩
  rw [en] at hq e
  rw [e]
  exact and_low hb hm (wrap_low n) hq
theorem lane_ok (a : Option Addr) (c i b : Nat) (ws : List Int) (h : Pk.Ok b) (hi : i ≤ 9223372036854775807) (hf : Pk.word b i < ws.length) (w : World) (ha : Lst .u64 w a ws) (hw : Pk.Wds ws) :
    Calls Tryz.prog 144 #[.slice a ws.length c, .int .i64 i, .int .i64 b] w fun e w' => e = .returned (.int .i64 (Pk.lane b ws i : Nat)) ∧ ∃ n, w' = w.drewN n := by
  have H : Hid (Pk.Ok b) := h
  have hs := Pk.shift_le i h
  have hb := ok_le h
  obtain ⟨b1, o1, rfl, hc1⟩ := ha.get hf
  have hc := hc1 _ hf
  have hv := hw (Pk.word b i)
  obtain ⟨q, eq⟩ : ∃ q, Pk.lane b ws i = q := ⟨_, rfl⟩
  rw [eq]
  unfold Pk.lane at eq
  clear h ha hw hc1
  obtain ⟨t, et⟩ : ∃ t, Pk.word b i = t := ⟨_, rfl⟩
  have ET : Hid (Pk.word b i = t) := et
  obtain ⟨s, es⟩ : ∃ s, Pk.shift b i = s := ⟨_, rfl⟩
  have ES : Hid (Pk.shift b i = s) := es
  obtain ⟨m, em⟩ : ∃ m, 2 ^ b - 1 = m := ⟨_, rfl⟩
  have EM : Hid (2 ^ b - 1 = m) := em
  rw [et] at hf hc hv eq
  rw [es] at hs eq
  obtain ⟨v, ev⟩ : ∃ v, Ls.nth ws t = v := ⟨_, rfl⟩
  rw [ev] at hc hv eq
  have EQ : Hid (v.toNat / 2 ^ s % 2 ^ b = q) := eq
  clear et es em ev eq
  go_enter Tryz.func144, Tryz.ntmps144
  go_wp2_with (first
    | (go_at_call 81; refine (bits_yes _ H.out _).mono ?_; rintro e w' ⟨rfl, rfl⟩)
    | (go_at_call 162; refine (place_any _ _ t s H.out (by omega) ET.out ES.out _).mono ?_; rintro e w' ⟨rfl, n, rfl⟩))
  go_quiet ((go_at_call 163; exact (mask_any _ m H.out EM.out _).mono fun _ _ ⟨he, hw⟩ => ⟨he, _, hw⟩))
  go_wp2
  go_ret
  exact ⟨ret_num (and_mask hv.1 hb.2 EM.out EQ.out), _, World.drewN_drewN _ _ _⟩
end Go.Proofs.YtnchnlgnnlgjcaaGreat
namespace Go.Proofs.YtnchnlgnnlgjcaaGreat
set_option linter.unusedVariables false
open Go.RowKit
theorem Tryz.infoU64 : (Tryz.prog.info? 183).map (fun i => (i.zero, i.size, i.bytes)) = some (some (.int .u64 0), 1, 8) := by kernel_rfl
/-- An or of bits that are not the other's is a sum. -/
theorem or_top {a c s : Nat} (ha : a < 2 ^ s) (h : a + c * 2 ^ s < 18446744073709551616) : bits .or .u64 (a : Int) ((c * 2 ^ s : Nat) : Int) = ((a + c * 2 ^ s : Nat) : Int) := by
  have e := Nat.two_pow_add_eq_or_of_lt ha c
  have e1 : (BitVec.ofInt 64 (a : Int)).toNat = a := by
    rw [BitVec.toNat_ofInt]
    show ((a : Int) % 18446744073709551616).toNat = _
    omega
  have e2 : (BitVec.ofInt 64 ((c * 2 ^ s : Nat) : Int)).toNat = c * 2 ^ s := by
    obtain ⟨x, ex⟩ : ∃ x, c * 2 ^ s = x := ⟨_, rfl⟩
    rw [ex] at h
    rw [BitVec.toNat_ofInt, ex]
    show ((x : Int) % 18446744073709551616).toNat = _
    omega
  show IntKind.u64.wrap ((BitVec.ofInt 64 (a : Int) ||| BitVec.ofInt 64 ((c * 2 ^ s : Nat) : Int)).toNat : Int) = _
  rw [BitVec.toNat_or, e1, e2, Nat.or_comm, Nat.mul_comm, ← e, Nat.mul_comm, Nat.add_comm, IntKind.wrap_u64]
  omega
theorem u64_same {n : Int} (h1 : 0 ≤ n) (h2 : n < 18446744073709551616) : IntKind.u64.wrap n = n := by rw [IntKind.wrap_u64]; omega
def upTo (b : Nat) (l : List Int) (k t : Nat) : Value := .int .u64 (Pk.acc b l t k : Nat)
theorem upTo_set {b : Nat} {l : List Int} {k t A X : Nat} (ht : Pk.word b k = t) (hA : Pk.acc b l t k = A) (hX : (Ls.nth l k).toNat * 2 ^ Pk.shift b k = X) (j : Nat) :
    (if j = t then Value.int .u64 ((A + X : Nat) : Int) else upTo b l k j) = upTo b l (k + 1) j := by
  unfold upTo
  by_cases e : j = t
  · subst e
    rw [if_pos rfl, Pk.acc_here ht, hA, hX]
  · rw [if_neg e, Pk.acc_else (by omega)]
theorem pack_ok (a : Option Addr) (c b : Nat) (l : List Int) (h : Pk.Ok b) (hl : l.length ≤ 256) (w : World) (ha : Lst .i64 w a l) (hc : Pk.Cds b l) :
    Calls Tryz.prog 169 #[.slice a l.length c, .int .i64 b] w fun e w' => ∃ g, e = .returned (.tuple #[.slice (some ⟨g, 0, none⟩) (Pk.size b l.length) (Pk.size b l.length), .int .i64 0]) ∧ w.heap.size ≤ g ∧
      Lst .u64 w' (some ⟨g, 0, none⟩) (Pk.pack b l) ∧ Below w.heap.size w w' := by
  have H : Hid (Pk.Ok b) := h
  have HA : Hid (Lst .i64 w a l) := ha
  have HC : Hid (Pk.Cds b l) := hc
  have p0 := Nat.two_pow_pos b
  have hb := ok_le h
  have hz := Pk.size_le h hl
  obtain ⟨z, ez⟩ : ∃ z, Pk.size b l.length = z := ⟨_, rfl⟩
  have EZ : Hid (Pk.size b l.length = z) := ez
  rw [ez] at hz
  rw [ez]
  obtain ⟨m, em⟩ : ∃ m, 2 ^ b - 1 = m := ⟨_, rfl⟩
  have EM : Hid (2 ^ b - 1 = m) := em
  have EP : Hid (2 ^ b = m + 1) := by show _ = _; omega
  have hmk := run_make_row' (P := Tryz.prog) 178 183 (.int .u64 0) 8 Tryz.underlying178 Tryz.infoU64 rfl .i64 .i64 z (by omega) (by omega)
  clear h ha hc em p0 ez
  go_enter Tryz.func169, Tryz.ntmps169
  go_wp2_with (first
    | (go_at_call 81; refine (bits_yes _ H.out _).mono ?_; rintro e w' ⟨rfl, hww⟩; cases hww.symm; clear hww)
    | (go_at_call 173; refine (countable_yes _ (by omega) (by omega) _).mono ?_; rintro e w' ⟨rfl, hww⟩; cases hww.symm; clear hww))
  go_loop [22] (fun i => ∃ k : Nat, k ≤ l.length ∧ i = .int .i64 k) (fun i => l.length - (intOf i).toNat)
  case atStart => exact ⟨0, Nat.zero_le _, rfl⟩
  case round =>
    obtain ⟨k, hk, rfl⟩ := hrel
    by_cases hlt : k < l.length
    · obtain ⟨b1, o1, rfl, hc1⟩ := HA.out.get hlt
      have hck1 := hc1 k hlt
      clear hc1 hmk
      have hcd := HC.out k
      rw [EP.out] at hcd
      go_wp2_with (go_at_call 163; refine (mask_any _ m H.out EM.out _).mono ?_; rintro e w' ⟨rfl, hww⟩; cases hww.symm; clear hww)
      go_round
      case rel => exact ⟨k + 1, by omega, by go_num⟩
      case measure => simp [intOf]; omega
    · have e : k = l.length := by omega
      subst e
      clear hk hlt
      go_wp2_with (go_at_call 174; refine (words_yes _ _ H.out hl _).mono ?_; rintro e w' ⟨rfl, hww⟩; cases hww.symm; clear hww; rw [EZ.out])
      clear hmk
      go_loopw [42] (fun i wr => ∃ k : Nat, k ≤ l.length ∧ i = .int .i64 k ∧ wr.rowIs w.heap.size 183 z (upTo b l k) ∧ Below w.heap.size w wr) (fun i _ => l.length - (intOf i).toNat)
      case atStart => exact ⟨0, Nat.zero_le _, rfl, (World.rowIs_made w (.int .u64 0) z 183).congr (fun j hj => rfl), (Below.refl _ _).alloc (Nat.le_refl _) _⟩
      case round =>
        obtain ⟨k, hk, rfl, hrow, hbel⟩ := hrel
        by_cases hlt : k < l.length
        · obtain ⟨b1, o1, rfl, hc1⟩ := (HA.out.keep hbel).get hlt
          have hck1 := hc1 k hlt
          have hcd := HC.out k
          have hs := Pk.shift_le k H.out
          have hts := Pk.word_size H.out hlt
          have hlo := (Pk.acc_low (Pk.word b k) k H.out HC.out).2.1 rfl
          have hup := Pk.on_top hlo hcd.2
          have h64 : 2 ^ (Pk.shift b k + b) ≤ 18446744073709551616 := by rw [← Pk.two_64]; exact Pk.two_le hs
          obtain ⟨t, et⟩ : ∃ t, Pk.word b k = t := ⟨_, rfl⟩
          have ET : Hid (Pk.word b k = t) := et
          obtain ⟨s, es⟩ : ∃ s, Pk.shift b k = s := ⟨_, rfl⟩
          have ES : Hid (Pk.shift b k = s) := es
          rw [et] at hlo hup hts
          rw [es] at hlo hup hs h64
          rw [EZ.out] at hts
          have hcg0 := hrow.cell hts
          have hfg := hrow.frozen t
          have hor := or_top hlo (Nat.lt_of_lt_of_le hup h64)
          obtain ⟨C, eC⟩ : ∃ C, (Ls.nth l k).toNat = C := ⟨_, rfl⟩
          have eC2 : Ls.nth l k = (C : Int) := by omega
          obtain ⟨A, eA⟩ : ∃ A, Pk.acc b l t k = A := ⟨_, rfl⟩
          have EA : Hid (Pk.acc b l t k = A) := eA
          have hcg : wr.cell? ⟨w.heap.size, t, none⟩ = some (.int .u64 (A : Int)) := by rw [hcg0]; unfold upTo; rw [eA]
          rw [eC] at hor hup
          rw [eA] at hor hup
          have hmul : (C : Int) * 2 ^ s = ((C * 2 ^ s : Nat) : Int) := by rw [Int.natCast_mul, Int.natCast_pow]; rfl
          obtain ⟨X, eX⟩ : ∃ X, C * 2 ^ s = X := ⟨_, rfl⟩
          have EX : Hid ((Ls.nth l k).toNat * 2 ^ Pk.shift b k = X) := by show _ = _; rw [eC, es, eX]
          rw [eX] at hor hup hmul
          rw [eC2] at hck1
          have hAX : A + X < 18446744073709551616 := by omega
          have hX : X < 18446744073709551616 := by omega
          have hC : C < 18446744073709551616 := by
            have hp : C < 2 ^ b := by rw [← eC]; exact hcd.2
            have hp8 : 2 ^ b ≤ 2 ^ 8 := Pk.two_le hb.2
            omega
          have q1 := u64_same (n := (C : Int)) (by omega) (by omega)
          have q2 : IntKind.u64.wrap ((C : Int) * 2 ^ s) = (X : Int) := by rw [hmul]; exact u64_same (by omega) (by omega)
          have HR : Hid (wr.rowIs w.heap.size 183 z (upTo b l k)) := hrow
          have HB : Hid (Below w.heap.size w wr) := hbel
          clear hc1 hrow hbel et es eC eC2 eA eX hcd hlo hup h64 hcg0 hmul
          have e0 : (0 : Int) ≤ (t : Int) := by omega
          have e1 : (t : Int) < (z : Int) := by omega
          go_wp2_with (go_at_call 162; refine (place_any _ _ t s H.out (by omega) ET.out ES.out _).mono ?_; rintro e w' ⟨rfl, n, hww⟩; cases hww.symm; clear hww)
          go_region
          all_goals go_wp2
          all_goals go_roundw
          case rel => exact ⟨k + 1, by omega, by go_num, (HR.out.set t _).drew.congr (fun j hj => upTo_set ET.out EA.out EX.out j), (below_drewN HB.out (n + 1)).setCell (by simp) _⟩
          case measure => simp [intOf]; omega
        · go_wp2
          go_ret2
          have e : k = l.length := by omega
          subst e
          refine ⟨w.heap.size, rfl, Nat.le_refl _, ?_, hbel⟩
          refine lst_of_row (f := upTo b l l.length) (t := 183) (by rw [Pk.pack_length, EZ.out]; exact hrow) (fun i hi => ?_)
          rw [Pk.pack_length] at hi
          rw [Pk.nth_pack hi]
          rfl
end Go.Proofs.YtnchnlgnnlgjcaaGreat
namespace Go.Proofs.YtnchnlgnnlgjcaaGreat
set_option linter.unusedVariables false
namespace Sl
/-- Every text is that of a list of bytes. -/
def nums (s : ByteArray) : List Int := s.data.toList.map fun b => (b.toNat : Int)
end Sl
end Go.Proofs.YtnchnlgnnlgjcaaGreat
namespace Go.Proofs.YtnchnlgnnlgjcaaGreat
set_option linter.unusedVariables false
open Go.RowKit
/-- 's == nil' of a slice. -/
theorem slice_nil {P : Program} (w : World) (t e : TypeId) (a : Option Addr) (l c : Nat) (h : P.underlying t = some (.slice e)) : (binOp .eql t (.slice a l c) (.slice none 0 0)).run P w = .ok (.bool a.isNone) w := by
  simp only [binOp]
  simp [run_equal_slice_nil w t e a l c h]
theorem box_over (w : World) (o : Obj) : Below w.heap.size w (w.alloc o) := (Below.refl _ _).alloc (Nat.le_refl _) o
end Go.Proofs.YtnchnlgnnlgjcaaGreat
namespace Go.Proofs.YtnchnlgnnlgjcaaGreat
set_option linter.unusedVariables false
open Go.RowKit
attribute [local go_sem ↓] Go.wp_at_zero Go.wp_at_succ
/-- What the key of a token means. -/
def Pg.key (ks : List (Int × Int × List Int)) (t : Nat) : List Int := Ls.gen ks.length fun i => Gp.mean (Pg.gz (Pg.nth ks i)) (Pg.gs (Pg.nth ks i)) (Ls.nth (Pg.gc (Pg.nth ks i)) t)
/-- Groups of which each code from 0 to 255 means something, with at least so many codes. -/
def Pg.Deep (n : Nat) (l : List (Int × Int × List Int)) : Prop := ∀ i, i < l.length → (Pg.gc (Pg.nth l i)).length = n ∧ Gp.fits 255 (Pg.gc (Pg.nth l i)) = true ∧ -2147483648 ≤ Pg.gz (Pg.nth l i) ∧ Pg.gz (Pg.nth l i) ≤ 2147483647 ∧ 0 ≤ Pg.gs (Pg.nth l i) ∧ Pg.gs (Pg.nth l i) ≤ 4294967295
theorem Pg.deep_of {b n : Nat} {l : List (Int × Int × List Int)} (hb : b = 2 ∨ b = 4 ∨ b = 8) (h : Pg.AllFit b n l) : Pg.Deep n l := fun i hi => by
  obtain ⟨h1, h2, h3, h4, h5, h6⟩ := h i hi
  refine ⟨h1, Gp.fits_yes fun j hj => ?_, h3, h4, h5, h6⟩
  have := h2 j
  have hp : 2 ^ b ≤ 256 := by rcases hb with rfl | rfl | rfl <;> decide
  omega
end Go.Proofs.YtnchnlgnnlgjcaaGreat
namespace Go.Proofs.YtnchnlgnnlgjcaaGreat
set_option linter.unusedVariables false
open Go.RowKit
attribute [local go_sem ↓] Go.wp_at_zero Go.wp_at_succ
/-- Are there as many lists of as many numbers as a head says? -/
def Pg.shapedB (ls : List (List Int)) (n d : Int) : Bool := decide ((∀ i, i < ls.length → ((Tb.row ls i).length : Int) = d) ∧ (ls.length : Int) = n)
/-- May a case be gone through? -/
def Pg.smallB (ks vs : List (Int × Int × List Int)) : Bool := decide (ks.length ≤ 20 ∧ (∀ i, i < ks.length → (Pg.gc (Pg.nth ks i)).length ≤ 40) ∧ vs.length ≤ 20 ∧ ∀ i, i < vs.length → (Pg.gc (Pg.nth vs i)).length ≤ 40)
theorem Pg.smallB_no {ks vs : List (Int × Int × List Int)} (h : 20 < ks.length ∨ 20 < vs.length) : Pg.smallB ks vs = false := by
  unfold Pg.smallB
  exact decide_eq_false (fun e => by have := e.1; have := e.2.2.1; omega)
theorem Pg.smallB_yes {ks vs : List (Int × Int × List Int)} (h1 : ks.length ≤ 20) (h2 : ∀ i, i < ks.length → (Pg.gc (Pg.nth ks i)).length ≤ 40) (h3 : vs.length ≤ 20) (h4 : ∀ i, i < vs.length → (Pg.gc (Pg.nth vs i)).length ≤ 40) : Pg.smallB ks vs = true := by
  unfold Pg.smallB
  exact decide_eq_true ⟨h1, h2, h3, h4⟩
end Go.Proofs.YtnchnlgnnlgjcaaGreat
namespace Go.Proofs.YtnchnlgnnlgjcaaGreat
set_option linter.unusedVariables false
open Go.RowKit
attribute [local go_sem ↓] Go.wp_at_zero Go.wp_at_succ
theorem Lst.grown {k : IntKind} {w w' : World} {a : Option Addr} {l : List Int} {row : Option Nat} (h : Lst k w a l) (hg : w.grownBy w' row) (ne : ∀ x, a = some x → some x.block ≠ row) : Lst k w' a l := fun i hi => by
  obtain ⟨b, o, e, hc⟩ := h i hi
  refine ⟨b, o, e, ?_⟩
  rw [hg.cell_far ⟨b, o + i, none⟩ (World.block_lt_of_cell? w _ hc) (ne ⟨b, o, none⟩ e)]
  exact hc
theorem Lst.set_otherP {k : IntKind} {w : World} {a : Option Addr} {l : List Int} (h : Lst k w a l) {p : Addr} (hp : ∀ x, a = some x → ¬ x.block = p.block) (v : Value) : Lst k (w.setCell p v) a l := fun i hi => by
  obtain ⟨b, o, e, hc⟩ := h i hi
  refine ⟨b, o, e, ?_⟩
  rw [World.cell?_of_block (Go.Deep.blk_setCell_other w p v b (hp ⟨b, o, none⟩ e))]
  exact hc
end Go.Proofs.YtnchnlgnnlgjcaaGreat
