/- Contracts of layer 9: cuts, numerals, marks and layers of a text. -/
import Derived.Test.YtfdmgnfeceoefaaDoorDoFrame
import Derived.Test.YtfdmgnfeceoefaaDoorShelf
import Derived.Test.YtfdmgnfeceoefaaDoorTrMath
import Derived.Lib.AppendIntMem
import Derived.Lib.AtoiErrMem
import Derived.Outline
namespace Go.Proofs.YtfdmgnfeceoefaaDoor
set_option linter.unusedVariables false
open Go.RowKit
namespace Tr
/-- s is cut at the first c. -/
def Cut (c : UInt8) (s a b : ByteArray) (q : Bool) : Prop := c ∉ bl a ∧ (q = true → bl s = bl a ++ c :: bl b) ∧ (q = false → a = s ∧ bl b = [])
theorem Cut.size {c : UInt8} {s a b : ByteArray} {q : Bool} (h : Cut c s a b q) : a.size ≤ s.size ∧ b.size ≤ s.size := by
  cases q
  · obtain ⟨rfl, e⟩ := h.2.2 rfl; rw [bl_size b, e]; exact ⟨Nat.le_refl _, Nat.zero_le _⟩
  · have e := h.2.1 rfl; rw [bl_size s, bl_size a, bl_size b, e]; simp; omega
/-- What is found where it must be. -/
theorem Cut.yes {c : UInt8} {s a b : ByteArray} {q : Bool} (h : Cut c s a b q) {x y : List UInt8} (hx : c ∉ x) (e : bl s = x ++ c :: y) : q = true ∧ bl a = x ∧ bl b = y := by
  cases q
  · obtain ⟨rfl, _⟩ := h.2.2 rfl
    exact absurd (show c ∈ bl a by rw [e]; simp) h.1
  · obtain ⟨e1, e2⟩ := split_uniq _ _ _ _ h.1 hx ((h.2.1 rfl).symm.trans e)
    exact ⟨rfl, e1, e2⟩
theorem Cut.no {c : UInt8} {s a b : ByteArray} {q : Bool} (h : Cut c s a b q) (hx : c ∉ bl s) : q = false ∧ a = s := by
  cases q
  · exact ⟨rfl, (h.2.2 rfl).1⟩
  · exact absurd (by rw [h.2.1 rfl]; simp) hx
theorem cut_is (s : ByteArray) (c : UInt8) : Cut c s ⟨(Lib.cut (bl s) [c]).1.toArray⟩ ⟨(Lib.cut (bl s) [c]).2.1.toArray⟩ (Lib.cut (bl s) [c]).2.2 := by
  have occ : ∀ j, Lib.occAt (bl s) [c] j = true ↔ (bl s)[j]? = some c := by
    intro j
    unfold Lib.occAt
    rw [← List.head?_drop]
    cases (bl s).drop j with
    | nil => simp [List.isPrefixOf]
    | cons d r => simp [List.isPrefixOf]; exact eq_comm
  rcases Lib.index_spec (bl s) [c] with ⟨h1, h2⟩ | ⟨i, h1, h2, h3, h4⟩
  · have e : Lib.cut (bl s) [c] = (bl s, [], false) := by unfold Lib.cut; rw [h1, if_neg (by omega)]
    rw [e]
    refine ⟨?_, (fun h => by cases h), fun _ => ⟨bl_inj rfl, rfl⟩⟩
    intro hm
    obtain ⟨j, hj⟩ := List.getElem?_of_mem (show c ∈ bl s from hm)
    have := h2 j (by have := (List.getElem?_eq_some_iff.1 hj).1; omega)
    rw [(occ j).2 hj] at this
    cases this
  · have hi := (occ i).1 h3
    have e : Lib.cut (bl s) [c] = ((bl s).take i, (bl s).drop (i + 1), true) := by unfold Lib.cut; rw [h1, if_pos (by omega)]; simp
    rw [e]
    refine ⟨?_, fun _ => occ_one hi, fun h => by cases h⟩
    intro hm
    obtain ⟨j, hj⟩ := List.getElem?_of_mem (show c ∈ (bl s).take i from hm)
    rw [List.getElem?_take] at hj
    split at hj
    · have := h4 j (by assumption)
      rw [(occ j).2 hj] at this
      cases this
    · cases hj
/-- s is the digits of n; else n is 0. -/
def Num (s : ByteArray) (n : Nat) (q : Bool) : Prop := (q = true → n < 2147483648 ∧ bl s = dec n) ∧ (q = false → n = 0 ∧ ∀ m, m < 2147483648 → bl s ≠ dec m)
/-- s is c and the digits of n. -/
def Mrk (c : UInt8) (s : ByteArray) (n : Nat) (q : Bool) : Prop := (q = true → n < 2147483648 ∧ bl s = c :: dec n) ∧ (q = false → ∀ m, m < 2147483648 → bl s ≠ c :: dec m)
/-- s is a layer's word. -/
def Word (s : ByteArray) (k v : Nat) (q : Bool) : Prop := (q = true → k < 2147483648 ∧ v < 2147483648 ∧ bl s = dec k ++ 47 :: dec v) ∧ (q = false → k = 0 ∧ v = 0 ∧ ∀ m n, m < 2147483648 → n < 2147483648 → bl s ≠ dec m ++ 47 :: dec n)
end Tr
open Tr

theorem cut_any (s : ByteArray) (c : UInt8) (w : World) (hs : s.size ≤ 1000000) (hv : Vars w) :
    Calls Tryd.prog 34 #[.string s, .string ⟨#[c]⟩] w fun e w' => ∃ a b q, e = .returned (.tuple #[.string a, .string b, .bool q]) ∧ Hid (Cut c s a b q) ∧ ∃ n, w' = w.drewN n := by
  obtain ⟨⟨m, hm⟩, -, -, -⟩ := hv
  refine (Tryd.strings_Cut s ⟨#[c]⟩ m w (by omega) hm).mono ?_
  rintro e w' ⟨rfl, n, rfl⟩
  exact ⟨_, _, _, rfl, cut_is s c, n, rfl⟩

theorem text_ne {t s : ByteArray} (h : ¬ t = s) : (t.toList == s.toList) = false := by
  rw [beq_eq_false_iff_ne]
  intro e
  exact h (by rw [ByteArray.toList_eq, ByteArray.toList_eq] at e; exact bl_inj e)
theorem below_draws (w : World) (n : Nat) : Below w.heap.size w (w.drewN n) := by
  refine ⟨rfl, rfl, rfl, ?_, fun j _ => ?_⟩
  · simp
  · simp
theorem itoa_at (n : Nat) (t : ByteArray) (ht : bl t = dec n) (hn : n < 9223372036854775808) (w : World) (hv : Vars w) :
    Calls Tryd.prog 22 #[.int .i64 n] w fun e w' => e = .returned (.string t) ∧ Below w.heap.size w w' := by
  obtain ⟨-, h2, -, -⟩ := hv
  refine (Tryd.strconv_Itoa n (by omega) (by omega) w h2).mono ?_
  rintro e w' ⟨rfl, k, os, rfl⟩
  refine ⟨?_, Lib.below_grow _ _ (Nat.le_refl _) _ _⟩
  rw [Lib.itoa_nonneg, show (⟨(Lib.decDigits n).toArray⟩ : ByteArray) = t from bl_inj (by rw [ht]; rfl)]
theorem itoa_small (n : Nat) (t : ByteArray) (ht : bl t = dec n) (hn : n < 100) (w : World) :
    Calls Tryd.prog 22 #[.int .i64 n] w fun e w' => e = .returned (.string t) ∧ w' = w := by
  refine (Tryd.strconv_Itoa_small n hn w).mono ?_
  rintro e w' ⟨rfl, rfl⟩
  refine ⟨?_, rfl⟩
  rw [show (⟨(Lib.decDigits n).toArray⟩ : ByteArray) = t from bl_inj (by rw [ht]; rfl)]
theorem atoi_yes (s : ByteArray) (v : Int) (h : Lib.atoiAll (bl s) = .ok v) (hs : s.size ≤ 1000000) (w : World) :
    Calls Tryd.prog 47 #[.string s] w fun e w' => e = .returned (.tuple #[.int .i64 v, .nilIface]) ∧ Below w.heap.size w w' := by
  refine (Tryd.strconv_Atoi_ok s (by omega) v h w).mono ?_
  rintro e w' ⟨rfl, rfl | ⟨t, rfl⟩⟩
  · exact ⟨rfl, Below.refl _ _⟩
  · exact ⟨rfl, Lib.bytesWorld_below _ _ _⟩
theorem atoi_no (s : ByteArray) (h : ∀ v, Lib.atoiAll (bl s) ≠ .ok v) (hs : s.size ≤ 1000000) (w : World) (hv : Vars w) :
    Calls Tryd.prog 47 #[.string s] w fun e w' => ∃ n N, e = .returned (.tuple #[.int .i64 n, .iface 95 (.pointer (some ⟨N, 0, none⟩))]) ∧ Below w.heap.size w w' := by
  obtain ⟨-, -, ⟨t1, p1, h3⟩, t2, p2, h4⟩ := hv
  cases e : Lib.atoiAll (bl s) with
  | ok v => exact absurd e (h v)
  | «syntax» =>
    refine (Tryd.strconv_Atoi_syntax_var s (by omega) e t1 p1 w h3).mono ?_
    rintro e w' ⟨N, rfl, -, -, hb⟩
    exact ⟨_, N, rfl, hb⟩
  | range =>
    refine (Tryd.strconv_Atoi_range_var s (by omega) e t2 p2 w h4).mono ?_
    rintro e w' ⟨N, rfl, -, -, hb⟩
    exact ⟨_, N, rfl, hb⟩

theorem within_yes (n a b : Int) (h1 : a ≤ n) (h2 : n ≤ b) (w : World) :
    Calls Tryd.prog 25 #[.int .i64 n, .int .i64 a, .int .i64 b] w fun e w' => e = .returned (.bool true) ∧ w' = w := by
  go_enter Tryd.func25, Tryd.ntmps25
  go_wp2
  go_ret
  exact ⟨rfl, rfl⟩
theorem within_no (n a b : Int) (h : n < a ∨ b < n) (w : World) :
    Calls Tryd.prog 25 #[.int .i64 n, .int .i64 a, .int .i64 b] w fun e w' => e = .returned (.bool false) ∧ w' = w := by
  by_cases h1 : n < a
  · have g : decide (a ≤ n) = false := decide_eq_false (by omega)
    clear h
    go_enter Tryd.func25, Tryd.ntmps25
    go_wp2
    go_ret
    exact ⟨rfl, rfl⟩
  · have h2 : a ≤ n := by omega
    have g : decide (n ≤ b) = false := decide_eq_false (by omega)
    clear h h1
    go_enter Tryd.func25, Tryd.ntmps25
    go_wp2
    go_ret
    exact ⟨rfl, rfl⟩

set_option maxHeartbeats 800000 in
theorem number_any (s : ByteArray) (hs : s.size ≤ 1000000) (w : World) (hv : Vars w) :
    Calls Tryd.prog 40 #[.string s] w fun e w' => ∃ (n : Nat) (q : Bool), e = .returned (.tuple #[.int .i64 n, .bool q]) ∧ Hid (Num s n q) ∧ Below w.heap.size w w' := by
  have HV : Hid (Vars w) := hv
  clear hv
  by_cases hd : ∃ m, m < 2147483648 ∧ bl s = dec m
  · obtain ⟨m, hm, em⟩ := hd
    have EM : Hid (bl s = dec m) := em
    clear em
    go_enter Tryd.func40, Tryd.ntmps40
    go_wp2_with (first
      | (go_at_call 47; refine (atoi_yes s (m : Int) (by rw [EM.out]; exact atoi_dec (by omega)) hs _).mono ?_; rintro e w1 ⟨rfl, hb⟩; have B1 : Hid (Below w.heap.size w w1) := hb; clear hb)
      | (go_at_call 25; refine (within_yes _ _ _ (by omega) (by omega) _).mono ?_; rintro e w' ⟨rfl, rfl⟩)
      | (go_at_call 22; refine (itoa_at m s EM.out (by omega) _ (HV.out.keep B1.out)).mono ?_; rintro e w2 ⟨rfl, hb⟩; have B2 : Hid (Below w.heap.size w w2) := below_then B1.out hb; clear hb))
    go_ret2
    exact ⟨m, true, rfl, ⟨fun _ => ⟨hm, EM.out⟩, (fun h => by cases h)⟩, B2.out⟩
  · have NO : Hid (∀ m, m < 2147483648 → bl s ≠ dec m) := fun m hm e => hd ⟨m, hm, e⟩
    clear hd
    by_cases ha : ∃ v, Lib.atoiAll (bl s) = .ok v
    · obtain ⟨v, hv⟩ := ha
      have EV : Hid (Lib.atoiAll (bl s) = .ok v) := hv
      clear hv
      by_cases hr : 0 ≤ v ∧ v ≤ 2147483647
      · obtain ⟨h0, h1⟩ := hr
        obtain ⟨m, rfl⟩ : ∃ m : Nat, v = m := ⟨v.toNat, by omega⟩
        obtain ⟨t, et⟩ : ∃ t : ByteArray, bl t = dec m := ⟨⟨(dec m).toArray⟩, rfl⟩
        have ET : Hid (bl t = dec m) := et
        have ne : (t.toList == s.toList) = false := text_ne (fun e => NO.out m (by omega) (by rw [← e]; exact et))
        clear et
        go_enter Tryd.func40, Tryd.ntmps40
        go_wp2_with (first
          | (go_at_call 47; refine (atoi_yes s (m : Int) EV.out hs _).mono ?_; rintro e w1 ⟨rfl, hb⟩; have B1 : Hid (Below w.heap.size w w1) := hb; clear hb)
          | (go_at_call 25; refine (within_yes _ _ _ (by omega) (by omega) _).mono ?_; rintro e w' ⟨rfl, rfl⟩)
          | (go_at_call 22; refine (itoa_at m t ET.out (by omega) _ (HV.out.keep B1.out)).mono ?_; rintro e w2 ⟨rfl, hb⟩; have B2 : Hid (Below w.heap.size w w2) := below_then B1.out hb; clear hb))
        go_ret2
        exact ⟨0, false, rfl, ⟨(fun h => by cases h), fun _ => ⟨rfl, NO.out⟩⟩, B2.out⟩
      · have hr' : v < 0 ∨ 2147483647 < v := by omega
        clear hr
        have HR : Hid (v < 0 ∨ 2147483647 < v) := hr'
        clear hr'
        go_enter Tryd.func40, Tryd.ntmps40
        go_wp2_with (first
          | (go_at_call 47; refine (atoi_yes s v EV.out hs _).mono ?_; rintro e w1 ⟨rfl, hb⟩; have B1 : Hid (Below w.heap.size w w1) := hb; clear hb)
          | (go_at_call 25; refine (within_no _ _ _ HR.out _).mono ?_; rintro e w' ⟨rfl, rfl⟩))
        go_ret2
        exact ⟨0, false, rfl, ⟨(fun h => by cases h), fun _ => ⟨rfl, NO.out⟩⟩, B1.out⟩
    · have HA : Hid (∀ v, Lib.atoiAll (bl s) ≠ .ok v) := fun v e => ha ⟨v, e⟩
      clear ha
      go_enter Tryd.func40, Tryd.ntmps40
      go_wp2_with (go_at_call 47; refine (atoi_no s HA.out hs _ HV.out).mono ?_; rintro e w1 ⟨n, N, rfl, hb⟩; have B1 : Hid (Below w.heap.size w w1) := hb; clear hb)
      go_ret2
      exact ⟨0, false, rfl, ⟨(fun h => by cases h), fun _ => ⟨rfl, NO.out⟩⟩, B1.out⟩
end Go.Proofs.YtfdmgnfeceoefaaDoor
